import PyProof.Rows.All
import Wide.All
import OpenK.AllK
import Wide.FinOn
import Lean
import PyProof.EqAt
import PyProof.EqKinds
import PyProof.TupleCall
import KE.KSortTup
import PyProof.EnumMake
import PyProof.EnumStmt
import PyProof.EnumFor
import PyProof.TupleKey
import PyProof.Rows.SetFrom
import PyProof.IsRules
import PyProof.DictWalks
import PyProof.FactsAll.set
import PyProof.CollectIter
import PyProof.ConsumeS
import PySem.SetOps
import KE.KDictList
import PyProof.DictRoadsH
import PyProof.DictFindH
import PyProof.Rows.SortRuns
import PyProof.Draws
import PyProof.Rows.TupIter
import PyProof.Rows.FStr
import PyProof.StrCalls2
import PyProof.SliceStr2
import PyProof.StrBlockI
import PyProof.StrLawsNeg
import PyProof.StrLawsJoin
import KE.KIntText
import PyProof.RaisesStr
import PyProof.ConsumeWalk
import PyProof.WalkInts
import PyProof.DictUpdate
import KE.KDictOf
import PySem.Challenge.RW_scenemend_k67_frames_between
set_option Elab.async false
set_option linter.all false
set_option maxRecDepth 100000
theorem oB{α β:Type}{x:Option α}{f:α->Option β}{b:β}(h:x.bind f=some b):∃a,x=some a/\f a=some b:=Option.bind_eq_some_iff.mp h
theorem oM{α β:Type}{x:Option α}{f:α->β}{b:β}(h:x.map f=some b):∃a,x=some a/\f a=b:=Option.map_eq_some_iff.mp h
section
namespace L2
open PySem PySem.Spec PyProof.Rows
abbrev Key:=Sum Int Str
def U5:Key->Value->Bool
 |.inl k,v=>Value.isInt k v
 |.inr x,v=>Value.isStrOf x v
def XN(w:World):Key->Int
 |.inl k=>hashInt k
 |.inr x=>hashStr w x
theorem By:∀{k:Key} {v:Value},U5 k v=true->(∃i t,k=Sum.inl i/\v=Value.int i t)\/(∃x t,k=Sum.inr x/\v=Value.str x t)
 |.inl i,v,h=>by
  obtain⟨t,e⟩:=Value.isInt_shape (k:=i) (v:=v) h
  exact .inl ⟨i,t,rfl,e⟩
 |.inr x,v,h=>by
  obtain⟨t,e⟩:=Value.isStrOf_shape (x:=x) (v:=v) h
  exact .inr ⟨x,t,rfl,e⟩
theorem Vv(a b:Int):decide ((Sum.inl a:Key)=Sum.inl b)=(a==b):=by
 by_cases e:a=b
 ·subst e;simp
 ·have h:¬(Sum.inl a:Key)=Sum.inl b:=fun q=>e (Sum.inl.inj q)
  rw[decide_eq_false h]
  exact(beq_eq_false_iff_ne.mpr e).symm
theorem Vs(a b:Str):decide ((Sum.inr a:Key)=Sum.inr b)=decide (a=b):=by
 by_cases e:a=b
 ·subst e;simp
 ·have h:¬(Sum.inr a:Key)=Sum.inr b:=fun q=>e (Sum.inr.inj q)
  rw[decide_eq_false h,decide_eq_false e]
theorem Vu(a:Int)(b:Str):decide ((Sum.inl a:Key)=Sum.inr b)=false:=decide_eq_false (fun q=>nomatch q)
theorem Vt(a:Str)(b:Int):decide ((Sum.inr a:Key)=Sum.inl b)=false:=decide_eq_false (fun q=>nomatch q)
def QW(prog:Program)(w:World):PySem.KeyKind prog w Key where
 is:=U5
 hash:=XN w
 inj:=fun v a b ha hb=>by
  rcases By ha with ⟨i,t,rfl,rfl⟩|⟨x,t,rfl,rfl⟩
  ·rcases By hb with ⟨j,u,rfl,e⟩|⟨y,u,rfl,e⟩
   ·injection e with e1 _;rw[e1]
   ·exact nomatch e
  ·rcases By hb with ⟨j,u,rfl,e⟩|⟨y,u,rfl,e⟩
   ·exact nomatch e
   ·injection e with e1 _;rw[e1]
 byValue:=fun k v h=>by
  rcases By h with ⟨i,t,rfl,rfl⟩|⟨x,t,rfl,rfl⟩<;>rfl
 pyHash:=fun hv h=>by
  rcases By hv with ⟨i,t,rfl,rfl⟩|⟨x,t,rfl,rfl⟩
  ·exact wpAny_pyHash_int h
  ·exact wpAny_pyHash_str h
 eqBool:=fun hu hv h=>by
  rcases By hu with ⟨i,t,rfl,rfl⟩|⟨x,t,rfl,rfl⟩
  ·rcases By hv with ⟨j,u,rfl,rfl⟩|⟨y,u,rfl,rfl⟩
   ·rw[Vv]at h;exact wpAny_eqBool_int h
   ·rw[Vu]at h;exact SeqAt.EqAt.int_str i t y u _ _ _ _ h
  ·rcases By hv with ⟨j,u,rfl,rfl⟩|⟨y,u,rfl,rfl⟩
   ·rw[Vt]at h;exact SeqAt.EqAt.str_int x t j u _ _ _ _ h
   ·rw[Vs]at h;exact wpAny_eqBool_str h
 «strs»:=fun k x t v h=>by
  rcases By h with ⟨i,u,rfl,e⟩|⟨y,u,rfl,e⟩
  ·exact nomatch e
  ·injection e with e1 _
   subst e1
   cases v<;>rfl
end L2
namespace L2
open PySem PySem.Spec PyProof.Rows
inductive V where
 |non|bl (b:Bool)|int (i:Int)|str (x:Str)|byt (b:Array UInt8)|flt (b:UInt64)|ref (a:Addr)|ty (n:String)
 deriving DecidableEq
def RelV:V->Value->Prop
 |.non,u=>u=Value.none
 |.bl b,u=>u=Value.bool b
 |.int i,u=>∃t,u=Value.int i t
 |.str x,u=>∃t,u=Value.str x t
 |.byt b,u=>∃t,u=Value.bytes b t
 |.flt b,u=>∃t,u=Value.float b t
 |.ref a,u=>u=Value.ref a
 |.ty n,u=>u=Value.type n
abbrev Vals:List V->List Value->Prop:=Paired RelV
theorem Vals.length{xs:List V}{us:List Value}(r:Vals xs us):xs.length=us.length:=Paired.length r
theorem Vals.get:∀{xs:List V} {us:List Value} {i:Nat} {x:V},Vals xs us->xs[i]?=some x->∃u,us[i]?=some u/\RelV x u
 |_,_,_,_,.nil,e=>by simp at e
 |_,_,0,_,.cons r _,e=>by simp at e;subst e;exact⟨_,rfl,r⟩
 |_,_,i+1,x,.cons _ t,e=>by
  obtain⟨u,h1,h2⟩:=Vals.get (i:=i) (x:=x) t (by simpa using e)
  exact⟨u,by simpa using h1,h2⟩
theorem Vals.set{x:V}{u:Value}(r:RelV x u):∀{xs:List V} {us:List Value} (i:Nat),Vals xs us->Vals (xs.set i x) (us.set i u)
 |_,_,_,.nil=>.nil
 |_,_,0,.cons _ t=>.cons r t
 |_,_,i+1,.cons q t=>.cons q (Vals.set r i t)
theorem Vals.append:∀{xs ys:List V} {us ws:List Value},Vals xs us->Vals ys ws->Vals (xs++ys) (us++ws)
 |_,_,_,_,.nil,s=>s
 |_,_,_,_,.cons r t,s=>.cons r (Vals.append t s)
theorem Vals.take:∀{xs:List V} {us:List Value} (n:Nat),Vals xs us->Vals (xs.take n) (us.take n)
 |_,_,0,_=>.nil
 |_,_,_+1,.nil=>.nil
 |_,_,n+1,.cons r t=>.cons r (Vals.take n t)
theorem Vals.drop:∀{xs:List V} {us:List Value} (n:Nat),Vals xs us->Vals (xs.drop n) (us.drop n)
 |_,_,0,r=>r
 |_,_,_+1,.nil=>.nil
 |_,_,n+1,.cons _ t=>Vals.drop n t
def WJ:Option V->Option Value->Prop
 |some v,some u=>RelV v u
 |none,none=>True
 |_,_=>False
def KV{κ:Type}:List (κ×V)->List (κ×Value)->Prop:=Paired fun(p:κ×V) (q:κ×Value)=>p.1=q.1/\RelV p.2 q.2
def kV:Key->V
 |.inl i=>.int i
 |.inr x=>.str x
inductive HO where
 |lst (xs:List V)
 |tup (xs:List V)
 |dK (kvs:List (Key×V))|dT (kvs:List (List Key×V))
 |set (S:Int->Bool) (n:Nat)
 |ins (C dx:Addr) (fs:List (Str×V))
 |own (x:Addr)
 |xd (fs:List (Str×V))
 |met (f x:Addr)
 |rng (lo hi:Int)
 |frz (o:Obj) (u:HO)
 |tbl (ps:Array Value)
 |ext (φ:Heap->Prop)
abbrev Hp:=Addr->Option HO
def upd(H:Hp)(a:Addr)(o:HO):Hp:=fun b=>if b=a then some o else H b
theorem AT{H:Hp}{a:Addr}{o:HO}:upd H a o a=some o:=by unfold upd;rw[if_pos rfl]
theorem AO{H:Hp}{a b:Addr}{o:HO}(h:b≠a):upd H a o b=H b:=by unfold upd;rw[if_neg h]
theorem Am{H:Hp}{a b:Addr}{o:HO}(h:H a=some o)(h':H b=none):a≠b:=by
 intro e;subst e;rw[h]at h';cases h'
section
variable (P:Program) (w:World)
def ObjOk(H:Hp)(h:Heap)(a:Addr):HO->Prop
 |.lst xs=>xs.length<=sizeLine/\∃(its:List Value) (n:Nat),Vals xs its/\h.get? a=some { cls:=.type "list",data:=.seq its.toArray n }
 |.tup xs=>xs.length<=sizeLine/\∃its:List Value,Vals xs its/\IsTup h a its.toArray
 |.dK kvs=>kvs.length<=sizeLine/\(a==sysModules)=false/\∃vs,KV kvs vs/\h.DictOf (QW P w) a vs
 |.dT kvs=>kvs.length<=sizeLine/\(a==sysModules)=false/\∃xs:List (List Key×Addr×Value),
   Paired (fun(p:List Key×V) (q:List Key×Addr×Value)=>p.1=q.1/\H q.2.1=some (.tup (p.1.map kV))/\RelV p.2 q.2.2) kvs xs /\
   ∃o es ep,h.get? a=some o/\o.ExactDict/\o.data = .dict es ep/\es.toList=xs.map (entryOfKey (tupleKind (QW P w)))/\(xs.map (·.1)).Nodup
 |.set S n=>h.SetOf (intKind P w) a S n
 |.ins C dx fs=>H dx=some (.own a)/\fs.length<=1000/\dx≠a/\h.get? a=some (PySem.W.instObj C dx) /\
   ∃mA,h.Ns1 dx mA/\(∀f,WJ (fs.lookup f) (mA f))/\PySem.Within mA (fs.map (·.1))
 |.own _=>∃o,h.get? a=some o
 |.xd fs=>∃mA,h.Ns1 a mA/\∀f,WJ (fs.lookup f) (mA f)
 |.rng lo hi=>∃t u v,h.get? a=some { cls:=.type "range",data:=.fields #[.int lo t,.int hi u,.int 1 v] }
 |.frz o u=>h.get? a=some o/\ObjOk H h a u
 |.tbl ps=>h.get? a=some { cls:=.none,data:=.fields ps }
 |.met f x=>h.get? a=some (PySem.W.methodObj (.ref f) (.ref x))
 |.ext φ=>φ h/\(∃o,h.get? a=some o)/\∀h1 h2:Heap,φ h1->(∀o,h1.get? a=some o->h2.get? a=some o)->φ h2
def HOk(H:Hp)(h:Heap):Prop:=∀a o,H a=some o->ObjOk P w H h a o
end
section
variable {P:Program} {w:World} {H H':Hp} {h h':Heap} {a:Addr} {o:HO}
theorem ObjOk.lt(x:ObjOk P w H h a o):a<h.objs.size:=by
 cases o with
 |lst xs=>obtain⟨_,_,_,_,e⟩:=x;exact Heap.lt_size e
 |tup xs=>obtain⟨_,_,_,p⟩:=x;exact p.lt
 |dK kvs=>obtain⟨_,_,_,_,o,_,_,e,_⟩:=x;exact Heap.lt_size e
 |dT kvs=>obtain⟨_,_,_,_,o,_,_,e,_⟩:=x;exact Heap.lt_size e
 |set S n=>obtain⟨o,_,_,_,e,_⟩:=x;exact Heap.lt_size e
 |ins C dx fs=>obtain⟨_,_,_,e,_⟩:=x;exact Heap.lt_size e
 |own y=>obtain⟨_,e⟩:=x;exact Heap.lt_size e
 |xd fs=>obtain⟨_,⟨_,_,_,e,_⟩,_⟩:=x;exact Heap.lt_size e
 |rng lo hi=>obtain⟨_,_,_,e⟩:=x;exact Heap.lt_size e
 |frz ob u=>obtain⟨e,_⟩:=x;exact Heap.lt_size e
 |tbl ps=>exact Heap.lt_size (show h.get? a=some _ from x)
 |met f y=>exact Heap.lt_size (show h.get? a=some _ from x)
 |ext φ=>obtain⟨_,⟨_,e⟩,_⟩:=x;exact Heap.lt_size e
theorem Paired.mapP{α β:Type}{F G:α->β->Prop}:∀{l₁:List α} {l₂:List β},Paired F l₁ l₂->(∀a b,F a b->G a b)->Paired G l₁ l₂
 |_,_,.nil,_=>.nil
 |_,_,.cons r t,f=>.cons (f _ _ r) (Paired.mapP t f)
theorem ObjOk.stay(x:ObjOk P w H h a o)(k:∀b u,(b=a\/H b=some (.own a))->h.get? b=some u->h'.get? b=some u)
  (ho:∀b,H b=some (.own a)->H' b=some (.own a)) (ht:∀b xs,H b=some (.tup xs)->H' b=some (.tup xs)):ObjOk P w H' h' a o:=by
 induction o with
 |lst xs=>obtain⟨z,its,n,r,e⟩:=x;exact⟨z,its,n,r,k _ _ (.inl rfl) e⟩
 |tup xs=>obtain⟨z,its,r,ob,e,c⟩:=x;exact⟨z,its,r,ob,k _ _ (.inl rfl) e,c⟩
 |dK kvs=>obtain⟨z,y,vs,r,ob,es,ep,e,c⟩:=x;exact⟨z,y,vs,r,ob,es,ep,k _ _ (.inl rfl) e,c⟩
 |dT kvs =>
  obtain⟨z,y,xs,r,ob,es,ep,e,c⟩:=x
  exact⟨z,y,xs,Paired.mapP r fun p q z=>⟨z.1,ht _ _ z.2.1,z.2.2⟩,ob,es,ep,k _ _ (.inl rfl) e,c⟩
 |set S n=>obtain⟨ob,es,ep,t,e,c⟩:=x;exact⟨ob,es,ep,t,k _ _ (.inl rfl) e,c⟩
 |ins C dx fs =>
  obtain⟨d,z,ne,e,mA,⟨od,es,ep,e2,c⟩,r⟩:=x
  exact⟨ho _ d,z,ne,k _ _ (.inl rfl) e,mA,⟨od,es,ep,k _ _ (.inr d) e2,c⟩,r⟩
 |own y=>obtain⟨ob,e⟩:=x;exact⟨ob,k _ _ (.inl rfl) e⟩
 |xd fs=>obtain⟨mA,⟨od,es,ep,e,c⟩,r⟩:=x;exact⟨mA,⟨od,es,ep,k _ _ (.inl rfl) e,c⟩,r⟩
 |rng lo hi=>obtain⟨t,u,v,e⟩:=x;exact⟨t,u,v,k _ _ (.inl rfl) e⟩
 |frz ob u ih=>obtain⟨e,q⟩:=x;exact⟨k _ _ (.inl rfl) e,ih q⟩
 |tbl ps =>
  have e:h.get? a=some { cls:=.none,data:=.fields ps }:=x
  show h'.get? a=some { cls:=.none,data:=.fields ps }
  exact k a _ (.inl rfl) e
 |met f y =>
  have e:h.get? a=some (PySem.W.methodObj (.ref f) (.ref y)):=x
  show h'.get? a=some (PySem.W.methodObj (.ref f) (.ref y))
  exact k a _ (.inl rfl) e
 |ext φ=>obtain⟨p,⟨o,e⟩,st⟩:=x;exact⟨st _ _ p fun o q=>k _ _ (.inl rfl) q,⟨o,k _ _ (.inl rfl) e⟩,st⟩
theorem HOk.lt(x:HOk P w H h)(e:H a=some o):a<h.objs.size:=(x a o e).lt
theorem HOk.fresh(x:HOk P w H h)(e:h.objs.size<=a):H a=none:=by
 cases q:H a with
 |none=>rfl
 |some u=>exact absurd (Nat.lt_of_lt_of_le (x.lt q) e) (Nat.lt_irrefl _)
theorem HOk.kept(x:HOk P w H h)(k:∀b u,h.get? b=some u->h'.get? b=some u):HOk P w H h':=fun a o e =>
 (x a o e).stay (fun b u _ q=>k b u q) (fun _ q=>q) fun _ _ q=>q
theorem HOk.laid(x:HOk P w H h)(k:∀b u,h.get? b=some u->h'.get? b=some u)(hp:h.objs.size<=a)(new:ObjOk P w (upd H a o) h' a o):HOk P w (upd H a o) h':=fun b u e=>by
 have hn:=x.fresh hp
 by_cases hb:b=a
 ·subst hb;rw[AT]at e;cases e;exact new
 ·rw[AO hb]at e
  exact(x b u e).stay (fun c v _ q=>k c v q) (fun c q=>by rw[AO (Am q hn)];exact q) fun c xs q=>by rw[AO (Am q hn)];exact q
end
def Rd(H:Hp)(a:Addr)(u:HO):Prop:=H a=some u\/∃o,H a=some (.frz o u)
theorem Rd.ok{P:Program}{w:World}{H:Hp}{h:Heap}{a:Addr}{u:HO}(r:Rd H a u)(x:HOk P w H h):ObjOk P w H h a u:=by
 rcases r with r|⟨o,r⟩
 ·exact x a u r
 ·obtain⟨_,q⟩:=x a _ r
  exact q
def Mut:Option HO->Prop
 |some (.lst _)=>True
 |some (.dK _)=>True
 |some (.dT _)=>True
 |some (.set _ _)=>True
 |some (.ins _ _ _)=>True
 |some (.ext _)=>True
 |_=>False
section
variable {P:Program} {w:World} {H:Hp} {h h':Heap} {x e:Addr} {o':HO}
theorem HOk.write(ok:HOk P w H h)(mu:Mut (H x))(he:e=x\/H e=some (.own x))(k:∀b u,b≠e->h.get? b=some u->h'.get? b=some u)(heo:∃u,h'.get? e=some u)
  (new:ObjOk P w (upd H x o') h' x o'):HOk P w (upd H x o') h':=fun b u q=>by
 have nown:∀c y,H c=some (.own y)->c≠x:=fun c y r z=>by subst z;rw[r]at mu;exact mu
 have ntup:∀c xs,H c=some (.tup xs)->c≠x:=fun c xs r z=>by subst z;rw[r]at mu;exact mu
 by_cases hb:b=x
 ·subst hb;rw[AT]at q;cases q;exact new
 ·rw[AO hb]at q
  by_cases hbe:b=e
  ·have q':H b=some (.own x):=by
    rcases he with z|z
    ·exact absurd (hbe.trans z) hb
    ·rw[hbe];exact z
   rw[q]at q';cases q'
   obtain⟨v,hv⟩:=heo
   exact⟨v,by rw[hbe];exact hv⟩
  ·refine(ok b u q).stay (fun c v hc r=>k c v ?_ r) (fun c r=>by rw[AO (nown c b r)];exact r) fun c xs r=>by rw[AO (ntup c xs r)];exact r
   rcases hc with rfl|hc
   ·exact hbe
   ·rintro rfl
    rcases he with z|z
    ·exact nown c b hc z
    ·rw[hc]at z;cases z;exact hb rfl
end
structure Un(fs ex:List Addr)(H H':Hp)(h h':Heap):Prop where
 keep:∀b o,h.get? b=some o->H b=none->b∉fs->b∉ex->h'.get? b=some o
 slot:∀b o,h.get? b=some o->H b=none->b∈fs->b∉ex->∃sl,h'.get? b=some { o with slots:=sl }
 free:∀b o,h.get? b=some o->H b=none->b∉ex->H' b=none
 there:∀b o,h.get? b=some o->b∉ex->∃o',h'.get? b=some o'
 tups:∀b xs,H b=some (.tup xs)->H' b=some (.tup xs)
 frzs:∀b o u,H b=some (.frz o u)->H' b=some (.frz o u)
 tbls:∀b ps,H b=some (.tbl ps)->∃more,H' b=some (.tbl (ps++more))
section
variable {fs fs' ex ex':List Addr} {H H1 H2:Hp} {h h1 h2 h':Heap} {a x e:Addr} {o:HO}
theorem Un.any(u:Un fs ex H H1 h h1){b:Addr}{ob:Obj}(q:h.get? b=some ob)(n:H b=none)(hx:b∉ex):∃sl,h1.get? b=some { ob with slots:=sl }:=by
 by_cases hb:b∈fs
 ·exact u.slot b ob q n hb hx
 ·exact⟨ob.slots,u.keep b ob q n hb hx⟩
theorem Un.kept(k:∀b u,h.get? b=some u->h'.get? b=some u):Un fs ex H H h h' :=
 ⟨fun b ob q _ _ _=>k b ob q,fun b ob q _ _ _=>⟨ob.slots,k b ob q⟩,fun _ _ _ n _=>n,fun b ob q _=>⟨ob,k b ob q⟩,fun _ _ q=>q,fun _ _ _ q=>q,fun _ ps q=>⟨#[],by rw[q];simp⟩⟩
theorem Un.refl:Un fs ex H H h h:=Un.kept fun _ _ q=>q
theorem Un.laid(k:∀b u,h.get? b=some u->h'.get? b=some u)(hp:h.objs.size<=a)(hn:H a=none):Un fs ex H (upd H a o) h h' where
 keep:=fun b u q _ _ _=>k b u q
 slot:=fun b u q _ _ _=>⟨u.slots,k b u q⟩
 free:=fun b u q n _=>by rw[AO (Nat.ne_of_lt (Nat.lt_of_lt_of_le (Heap.lt_size q) hp))];exact n
 there:=fun b u q _=>⟨u,k b u q⟩
 tups:=fun b xs q=>by rw[AO (Am q hn)];exact q
 frzs:=fun b u xs q=>by rw[AO (Am q hn)];exact q
 tbls:=fun b ps q=>⟨#[],by rw[AO (Am q hn),q];simp⟩
theorem Un.write(mu:Mut (H x))(he:e=x\/H e=some (.own x))(k:∀b u,b≠e->h.get? b=some u->h'.get? b=some u)(heo:∃u,h'.get? e=some u):Un fs ex H (upd H x o) h h':=by
 have hx:∀b,H b=none->b≠x:=fun b n z=>by subst z;rw[n]at mu;exact mu
 have hb:∀b,H b=none->b≠e:=fun b n z=>by
  subst z
  rcases he with r|r
  ·exact hx b n r
  ·rw[n]at r;cases r
 have hm:∀b u,H b=some u->¬Mut (some u)->b≠x:=fun b u q nm z=>by subst z;rw[q]at mu;exact nm mu
 refine ⟨fun b u q n _ _ => k b u (hb b n) q, fun b u q n _ _ => ⟨u.slots, k b u (hb b n) q⟩, fun b u q n _ => by rw [AO (hx b n)]; exact n, fun b u q _ => ?_,
  fun b xs q=>by rw[AO (hm b _ q fun z=>z)];exact q,fun b u xs q=>by rw[AO (hm b _ q fun z=>z)];exact q,fun b ps q=>⟨#[],by rw[AO (hm b _ q fun z=>z),q];simp⟩⟩
 by_cases hbe:b=e
 ·subst hbe;exact heo
 ·exact⟨u,k b u hbe q⟩
end
def trk(h:Heap)(H:Hp):List Addr:=(List.range h.objs.size).filter fun a=>(H a).isSome
def Np(h:Heap)(H:Hp):Heap:=PySem.W.hideAll h (trk h H)
theorem RY(h:Heap)(H:Hp):(Np h H).objs.size=h.objs.size:=PySem.W.hideAll_size _ _
theorem Sw{h:Heap}{H:Hp}{b:Addr}{o:Obj}(e:h.get? b=some o)(n:H b=none):(Np h H).get? b=some o :=
 PySem.W.hideAll_get _ e fun hm=>by
  have q:(H b).isSome=true:=(List.mem_filter.mp hm).2
  rw[n]at q;simp at q
theorem T7{h:Heap}{H:Hp}{b:Addr}{o:Obj}(e:(Np h H).get? b=some o):h.get? b=some o/\H b=none:=by
 have e':h.get? b=some o:=PySem.W.of_hideAll (trk h H) e
 refine⟨e',?_⟩
 cases q:H b with
 |none=>rfl
 |some x =>
  have hm:b∈trk h H:=List.mem_filter.mpr ⟨List.mem_range.mpr (Heap.lt_size e'),by simp[q]⟩
  have z:(Np h H).get? b=none:=PySem.W.hideAll_none (trk h H) hm
  rw[z]at e;cases e
def Ul(g h:Heap)(L:Addr):List (Addr×Obj):=(List.range h.objs.size).filterMap fun a=>if a=L\/(g.get? a).isSome=true then none else (h.get? a).map fun o=>(a,o)
def FA(g h:Heap)(L d:Addr):List (Addr×Obj):=(Ul g h L).filter fun p=>decide (p.1≠d)
end L2
namespace L2
open PySem PySem.Spec PyProof.Rows
structure Mod(K:PySem.W.Frag)(mg:Str->Option Value)(base:Heap):Prop where
 kin:K.In base
 glob:base.Ns mainGlobals mg
 blt:∃mb,base.Ns builtinsNs mb/\∀x:Str,x≠"__name__"->mb x=bootBuiltins x
 nolimit:base.NoLimit
structure Cx where
 prog:Program
 w:World
 K:PySem.W.Frag
 mg:Str->Option Value
 base:Heap
 A:Around
 N:List Str
 s₀:Shared
 H₀:Hp
 env:Env
 outer:List Env
 stack:List Env
 ex:List Addr
 fn:Str->Bool
 calm:Bool
 pn:List (Addr×Obj)
 xe:Value->Shared->Prop
def frs(l:List Env):List Addr:=l.filterMap (·.frame)
abbrev Cx.fs(X:Cx):List Addr:=frs X.outer
def Vis(sc:Scope)(x:Str):Prop:=sc.names.lookup x=some .local\/sc.names.lookup x=some .cell\/sc.names.lookup x=some .free
def Loc(sc:Scope)(x:Str):Prop:=sc.names.lookup x=some .local\/sc.names.lookup x=some .cell
def XV(env:Env)(h:Heap)(m:Str->Option Value)(x:Str)(u:Value):Prop :=
 (env.kindOf x=some .local/\m x=some u)\/((env.kindOf x=some .cell\/env.kindOf x=some .free)/\∃c,env.cells.lookup x=some c/\h.IsCell c (some u))
structure Cx.Ok(X:Cx):Prop where
 mod:Mod X.K X.mg X.base
 kind:X.env.scope.kind = .function
 glob:X.env.globals=mainGlobals
 blt:X.env.builtins=builtinsNs
 above:X.s₀.heap.objs.size<=X.env.locals
 inj:∀x y c,X.env.cells.lookup x=some c->X.env.cells.lookup y=some c->x=y
 has:∀x,(X.env.kindOf x=some .cell\/X.env.kindOf x=some .free)->∃c,X.env.cells.lookup x=some c
 cab:∀x c,X.fn x=true->X.env.cells.lookup x=some c->X.s₀.heap.objs.size<=c
 hd:X.calm=true->X.A.handled=none
 frames:X.A.frames=some X.stack
 stk:X.stack=X.outer\/(X.stack=X.env::X.outer/\X.env.frame=some X.env.locals)
 exf:∀b∈X.ex,b≠X.env.locals/\∀x c,X.env.cells.lookup x=some c->c≠b
 bs:∀b o,X.base.get? b=some o->X.s₀.heap.get? b=some o/\X.H₀ b=none
 bsz:X.base.objs.size<=X.s₀.heap.objs.size
 noex:∀b o,X.base.get? b=some o->b∉X.ex
 exfs:∀b∈X.ex,b∉X.fs
 funs:X.s₀.heap.FunFrames X.base X.outer
 frf:∀b∈X.fs,X.H₀ b=none
structure Inv(X:Cx)(pins:List (Addr×Obj))(σ:List (Option V))(H:Hp)(s:Shared):Prop where
 ok:X.Ok
 os:s.os=X.s₀.os
 bare:AllBare s.gens
 base:Un X.fs X.ex X.H₀ H X.s₀.heap s.heap
 loc:∃m,s.heap.Ns X.env.locals m/\∀(i:Nat) (x:Str) (v:V),X.N[i]?=some x->σ[i]?=some (some v)->Vis X.env.scope x->∃u,RelV v u/\XV X.env s.heap m x u
 cell:∀x c,X.env.cells.lookup x=some c->∃v,s.heap.IsCell c v
 free:H X.env.locals=none
 freeC:∀x c,X.env.cells.lookup x=some c->H c=none
 pin:∀p∈X.pn++pins,s.heap.get? p.1=some p.2/\H p.1=none/\p.1≠X.env.locals/\p.1∉X.fs/\∀v,p.2.data≠.cell v
 hok:HOk X.prog X.w H s.heap
 len:σ.length=X.N.length
section
variable {X:Cx} {pins:List (Addr×Obj)} {σ:List (Option V)} {H H':Hp} {s:Shared} {h':Heap}
theorem Cx.Ok.nofr(ok:X.Ok){b:Addr}{o:Obj}(e:X.base.get? b=some o):b∉X.fs:=fun hb=>by
 have:=(ok.funs.mem hb).1
 rw[e]at this;cases this
theorem Inv.bs(I:Inv X pins σ H s):∀b o,X.base.get? b=some o->s.heap.get? b=some o/\H b=none:=fun b o e =>
 ⟨I.base.keep b o (I.ok.bs b o e).1 (I.ok.bs b o e).2 (I.ok.nofr e) (I.ok.noex b o e),I.base.free b o (I.ok.bs b o e).1 (I.ok.bs b o e).2 (I.ok.noex b o e)⟩
theorem Inv.bk(I:Inv X pins σ H s):∀b o,X.base.get? b=some o->s.heap.get? b=some o:=fun b o e=>(I.bs b o e).1
theorem Inv.mod(I:Inv X pins σ H s):Mod X.K X.mg X.base:=I.ok.mod
theorem Inv.kIn(I:Inv X pins σ H s):X.K.In s.heap:=I.ok.mod.kin.keeps I.bk
theorem Inv.lt(I:Inv X pins σ H s):X.env.locals<s.heap.objs.size:=let ⟨_,hn,_⟩:=I.loc;hn.lt
theorem Inv.sz(I:Inv X pins σ H s):X.s₀.heap.objs.size<=s.heap.objs.size:=Nat.le_trans I.ok.above (Nat.le_of_lt I.lt)
theorem Inv.nofs(I:Inv X pins σ H s){a:Addr}(h:s.heap.objs.size<=a):a∉X.fs:=fun hb=>by
 obtain⟨_,o,ho,_⟩:=I.ok.funs.mem hb
 exact absurd (Nat.lt_of_lt_of_le (Heap.lt_size ho) (Nat.le_trans I.sz h)) (Nat.lt_irrefl _)
theorem Inv.cne(I:Inv X pins σ H s):∀x c,X.env.cells.lookup x=some c->c≠X.env.locals:=fun x c e z=>by
 obtain⟨v,o,ho,hd⟩:=I.cell x c e
 obtain⟨m,⟨o',es,ep,ho',hd',_⟩,_⟩:=I.loc
 rw[z,ho']at ho;cases ho;rw[hd']at hd;cases hd
theorem Inv.funs(I:Inv X pins σ H s):s.heap.FunFrames X.base X.outer:=by
 have all:∀(l:List Env),(∀b∈frs l,b∈X.fs)->X.s₀.heap.FunFrames X.base l->s.heap.FunFrames X.base l:=by
  intro l
  induction l with
  |nil=>intro _ _;trivial
  |cons env r ih =>
   intro hs hl
   obtain⟨hk,⟨L,o,hf,hn,ho,hd⟩,hr⟩:=hl
   have hL:L∈X.fs:=hs L (by unfold frs;rw[List.filterMap_cons,hf];exact List.mem_cons_self)
   obtain⟨sl,e⟩:=I.base.slot L o ho (I.ok.frf L hL) hL fun z=>I.ok.exfs L z hL
   exact⟨hk,⟨L,_,hf,hn,e,hd⟩,ih (fun b hb=>hs b (by unfold frs;rw[List.filterMap_cons,hf];exact List.mem_cons_of_mem _ hb)) hr⟩
 exact all X.outer (fun _ hb=>hb) I.ok.funs
theorem Inv.stack(I:Inv X pins σ H s):s.heap.FunFrames X.base X.stack:=by
 rcases I.ok.stk with e|⟨e,hf⟩
 ·rw[e];exact I.funs
 ·rw[e]
  obtain⟨m,hn,_⟩:=I.loc
  refine .cons (by rw[I.ok.kind];decide) hf hn ?_ I.funs
  exact Heap.get?_none_of_le (Nat.le_trans I.ok.bsz I.ok.above)
theorem Inv.stkSub(I:Inv X pins σ H s):∀b∈frs X.stack,b∈X.env.locals::X.fs:=fun b hb=>by
 rcases I.ok.stk with e|⟨e,hf⟩
 ·rw[e]at hb;exact List.mem_cons_of_mem _ hb
 ·rw[e]at hb
  unfold frs at hb
  rw[List.filterMap_cons,hf]at hb
  exact hb
theorem Inv.stkFree(I:Inv X pins σ H s):∀b∈frs X.stack,H b=none:=fun b hb=>by
 rcases List.mem_cons.mp (I.stkSub b hb)with e|hb
 ·rw[e];exact I.free
 ·obtain⟨_,o,ho,_⟩:=I.ok.funs.mem hb
  exact I.base.free b o ho (I.ok.frf b hb) fun z=>I.ok.exfs b z hb
theorem Inv.step{g':Array GenState}{t':Nat}{d':Drawn}{ch:List Addr}(I:Inv X pins σ H s)
  (hch:∀b∈ch,(b∈X.ex\/X.s₀.heap.objs.size<=b)/\b≠X.env.locals/\(∀x c,X.env.cells.lookup x=some c->c≠b)/\∀p∈X.pn++pins,p.1≠b)
  (keep:∀b o,b≠X.env.locals->b∉X.fs->b∉ch->s.heap.get? b=some o->H b=none->h'.get? b=some o)
  (slot:∀b o,b≠X.env.locals->b∈X.fs->b∉ch->s.heap.get? b=some o->H b=none->∃sl,h'.get? b=some { o with slots:=sl }) (free:∀b o,b∉ch->s.heap.get? b=some o->H b=none->H' b=none)
  (there:∀b o,b∉ch->s.heap.get? b=some o->∃o',h'.get? b=some o')
  (tups:∀b xs,H b=some (.tup xs)->H' b=some (.tup xs)) (frzs:∀b o u,H b=some (.frz o u)->H' b=some (.frz o u)) (tbls:∀b ps,H b=some (.tbl ps)->∃more,H' b=some (.tbl (ps++more)))
  (ns:∀m,s.heap.Ns X.env.locals m->h'.Ns X.env.locals m) (hok:HOk X.prog X.w H' h') (hg:AllBare g') :
  Inv X pins σ H' { s with heap:=h',gens:=g',drawn:=d',toks:=t' }:=by
 have neL:∀b o,X.s₀.heap.get? b=some o->b≠X.env.locals:=fun b o e=>Nat.ne_of_lt (Nat.lt_of_lt_of_le (Heap.lt_size e) I.ok.above)
 have neC:∀b o,X.s₀.heap.get? b=some o->b∉X.ex->b∉ch:=fun b o e hx hb=>by
  rcases(hch b hb).1 with z|z
  ·exact hx z
  ·exact absurd (Nat.lt_of_lt_of_le (Heap.lt_size e) z) (Nat.lt_irrefl _)
 have cellK:∀x c,X.env.cells.lookup x=some c->∀v,s.heap.IsCell c v->h'.IsCell c v:=fun x c e v ⟨o,ho,hd⟩=>by
  have nch:c∉ch:=fun z=>(hch c z).2.2.1 x c e rfl
  by_cases hc:c∈X.fs
  ·obtain⟨sl,q⟩:=slot c o (I.cne x c e) hc nch ho (I.freeC x c e)
   exact⟨_,q,hd⟩
  ·exact⟨o,keep c o (I.cne x c e) hc nch ho (I.freeC x c e),hd⟩
 refine⟨I.ok,I.os,hg,⟨fun b o e n hb hx=>?_,fun b o e n hb hx=>?_,fun b o e n hx=>?_,fun b o e hx=>?_,fun b xs e=>tups b xs (I.base.tups b xs e),fun b o xs e=>frzs b o xs (I.base.frzs b o xs e),fun b ps e=>?_⟩,?_,fun x c e=>?_,?_,fun x c e=>?_,fun p hp=>?_,hok,I.len⟩
 ·exact keep b o (neL b o e) hb (neC b o e hx) (I.base.keep b o e n hb hx) (I.base.free b o e n hx)
 ·obtain⟨sl,e1⟩:=I.base.slot b o e n hb hx
  obtain⟨sl',e2⟩:=slot b _ (neL b o e) hb (neC b o e hx) e1 (I.base.free b o e n hx)
  exact⟨sl',e2⟩
 ·obtain⟨o',e1⟩:=I.base.there b o e hx
  exact free b o' (neC b o e hx) e1 (I.base.free b o e n hx)
 ·obtain⟨o',e1⟩:=I.base.there b o e hx
  exact there b o' (neC b o e hx) e1
 ·obtain⟨m1,e1⟩:=I.base.tbls b ps e
  obtain⟨m2,e2⟩:=tbls b _ e1
  exact⟨m1++m2,by rw[e2,Array.append_assoc]⟩
 ·obtain⟨m,hn,hl⟩:=I.loc
  refine⟨m,ns m hn,fun i x v e1 e2 e3=>?_⟩
  obtain⟨u,r,l⟩:=hl i x v e1 e2 e3
  refine⟨u,r,?_⟩
  rcases l with l|⟨k,c,e,z⟩
  ·exact .inl l
  ·exact .inr ⟨k,c,e,cellK x c e _ z⟩
 ·obtain⟨v,z⟩:=I.cell x c e
  exact⟨v,cellK x c e v z⟩
 ·obtain⟨m,⟨o,_,_,ho,_⟩,_⟩:=I.loc
  exact free _ o (fun z=>(hch _ z).2.1 rfl) ho I.free
 ·obtain⟨v,o,ho,hd⟩:=I.cell x c e
  exact free c o (fun z=>(hch c z).2.2.1 x c e rfl) ho (I.freeC x c e)
 ·obtain⟨e,n,ne,nf,d⟩:=I.pin p hp
  have nch:p.1∉ch:=fun z=>(hch p.1 z).2.2.2 p hp rfl
  exact⟨keep p.1 p.2 ne nf nch e n,free p.1 p.2 nch e n,ne,nf,d⟩
theorem Inv.un{t':Nat}(I:Inv X pins σ H s)(u:Un X.fs [] H H' s.heap h')(hok:HOk X.prog X.w H' h'):Inv X pins σ H' { s with heap:=h',toks:=t' }:=by
 obtain⟨m,⟨o,es,ep,ho,r⟩,_⟩:=id I.loc
 obtain⟨sl,hL⟩:=u.any ho I.free (by simp)
 exact I.step (g' := s.gens) (d' := s.drawn) (ch := []) (fun _ z => nomatch z) (fun b o _ hb _ e n => u.keep b o e n hb (by simp)) (fun b o _ hb _ e n => u.slot b o e n hb (by simp)) (fun b o _ e n => u.free b o e n (by simp)) (fun b o _ e => u.there b o e (by simp)) u.tups u.frzs u.tbls (fun m' hm => by
  obtain⟨o',es',ep',ho',r'⟩:=hm
  rw[ho]at ho';cases ho'
  exact⟨_,es',ep',hL,r'⟩) hok I.bare
theorem Inv.call{g':Array GenState}{t':Nat}{d':Drawn}{ch:List Addr}(I:Inv X pins σ H s)(u:Un (frs X.stack) ch H H' s.heap h')(hok:HOk X.prog X.w H' h')(hg:AllBare g')
  (hch:∀b∈ch,(b∈X.ex\/X.s₀.heap.objs.size<=b)/\b≠X.env.locals/\(∀x c,X.env.cells.lookup x=some c->c≠b)/\∀p∈X.pn++pins,p.1≠b) :
  Inv X pins σ H' { s with heap:=h',gens:=g',drawn:=d',toks:=t' }:=by
 obtain⟨m,⟨o,es,ep,ho,r⟩,_⟩:=id I.loc
 obtain⟨sl,hL⟩:=u.any ho I.free fun z=>(hch _ z).2.1 rfl
 exact I.step (ch := ch) hch (fun b o hL hb hc e n => u.keep b o e n (fun z => (List.mem_cons.mp (I.stkSub b z)).elim hL hb) hc) (fun b o _ _ hc e n => u.any e n hc) (fun b o hc e n => u.free b o e n hc) (fun b o hc e => u.there b o e hc) u.tups u.frzs u.tbls (fun m' hm => by
  obtain⟨o',es',ep',ho',r'⟩:=hm
  rw[ho]at ho';cases ho'
  exact⟨_,es',ep',hL,r'⟩) hok hg
theorem Inv.turned{t':Nat}{it:Addr}(I:Inv X pins σ H s)(k:∀b o,b≠it->s.heap.get? b=some o->h'.get? b=some o)(hn:H it=none)(hL:it≠X.env.locals)
  (h1:it∈X.ex\/X.s₀.heap.objs.size<=it) (h2:∀x c,X.env.cells.lookup x=some c->c≠it) (h3:∀p∈X.pn++pins,p.1≠it):Inv X pins σ H { s with heap:=h',toks:=t' }:=by
 have nit:∀b u,H b=some u->b≠it:=fun b u e z=>by rw[z,hn]at e;cases e
 refine I.step (g':=s.gens) (d':=s.drawn) (ch:=[it]) (fun b hb=>?_) (fun b o _ _ hc e _=>k b o (fun z=>hc (by simp[z])) e) (fun b o _ _ hc e _=>⟨o.slots,k b o (fun z=>hc (by simp[z])) e⟩) (fun _ _ _ _ n=>n)
  (fun b o hc e=>⟨o,k b o (fun z=>hc (by simp[z])) e⟩) (fun _ _ e=>e) (fun _ _ _ e=>e) (fun b ps e=>⟨#[],by rw[e];simp⟩) (fun m hm=>?_) (fun b u e=>?_) I.bare
 ·have e:b=it:=by simpa using hb
  subst e
  exact⟨h1,hL,h2,h3⟩
 ·obtain⟨o,es,ep,ho,r⟩:=hm
  exact⟨o,es,ep,k _ o (Ne.symm hL) ho,r⟩
 ·refine(I.hok b u e).stay (fun c v hc q=>k c v ?_ q) (fun _ q=>q) fun _ _ q=>q
  rcases hc with z|z
  ·rw[z];exact nit b u e
  ·exact nit c _ z
theorem Inv.tok(I:Inv X pins σ H s)(t:Nat):Inv X pins σ H { s with toks:=t }:=I.un (h':=s.heap) (t':=t) Un.refl I.hok
theorem Inv.kept{t':Nat}(I:Inv X pins σ H s)(k:∀b u,s.heap.get? b=some u->h'.get? b=some u):Inv X pins σ H { s with heap:=h',toks:=t' }:=I.un (Un.kept k) (I.hok.kept k)
theorem Inv.laid{a:Addr}{o:HO}{t':Nat}(I:Inv X pins σ H s)(k:∀b u,s.heap.get? b=some u->h'.get? b=some u)(hp:s.heap.objs.size<=a)(new:ObjOk X.prog X.w (upd H a o) h' a o) :
  Inv X pins σ (upd H a o) { s with heap:=h',toks:=t' }:=I.un (Un.laid k hp (I.hok.fresh hp)) (I.hok.laid k hp new)
theorem Inv.write{x e:Addr}{o:HO}{t':Nat}(I:Inv X pins σ H s)(mu:Mut (H x))(he:e=x\/H e=some (.own x))(k:∀b u,b≠e->s.heap.get? b=some u->h'.get? b=some u)(heo:∃u,h'.get? e=some u)
  (new:ObjOk X.prog X.w (upd H x o) h' x o):Inv X pins σ (upd H x o) { s with heap:=h',toks:=t' }:=I.un (Un.write mu he k heo) (I.hok.write mu he k heo new)
theorem Inv.pins_of{pins':List (Addr×Obj)}(I:Inv X pins σ H s)(h:∀p∈pins',s.heap.get? p.1=some p.2/\H p.1=none/\p.1≠X.env.locals/\p.1∉X.fs/\∀v,p.2.data≠.cell v):Inv X pins' σ H s :=
 ⟨I.ok,I.os,I.bare,I.base,I.loc,I.cell,I.free,I.freeC,fun p hp=>(List.mem_append.mp hp).elim (fun z=>I.pin p (List.mem_append_left _ z)) (h p),I.hok,I.len⟩
theorem OK{N:List Str}(hN:N.Nodup){i j:Nat}{x:Str}(a:N[i]?=some x)(b:N[j]?=some x):i=j:=by
 obtain⟨h1,e1⟩:=List.getElem?_eq_some_iff.mp a
 obtain⟨h2,e2⟩:=List.getElem?_eq_some_iff.mp b
 exact(List.getElem_inj hN).mp (e1.trans e2.symm)
theorem MC{M:Model}{A:Around}{E:Value->Shared->Prop}{i:Nat}{x:Str}{v:V}{u:Value}{Q:Unit->Shared->Prop}(I:Inv X pins σ H s)(hN:X.N.Nodup)(hi:X.N[i]?=some x)(hx:Loc X.env.scope x)(r:RelV v u)
  (h:∀s',Inv X pins (σ.set i (some v)) H s'->(∃a,Heap.SameBut a s.heap s'.heap/\(a=X.env.locals\/X.env.cells.lookup x=some a))->Q () s') (hf:X.fn x=true\/X.env.scope.names.lookup x=some .local:=by first|exact .inl rfl|exact .inr rfl|assumption):wpAny M A (storeName X.env x u) Q E s:=by
 obtain⟨m,hn,hl⟩:=id I.loc
 have hcls:(X.env.scope.kind==.class||(X.env.scope.kind==.module&&X.env.locals != X.env.globals))=false:=by rw[I.ok.kind];rfl
 have hiσ:i<σ.length:=by rw[I.len];exact(List.getElem?_eq_some_iff.mp hi).1
 have cne:=I.cne
 have tracked:∀{a:Addr} {h':Heap},(∃o,s.heap.get? a=some o/\H a=none)->Heap.SameBut a s.heap h'->HOk X.prog X.w H h':=fun {a h'} ha hs b ob e=>by
  obtain⟨_,_,hfree⟩:=ha
  refine(I.hok b ob e).stay (fun c w' hc q=>(hs.2 c ?_).trans q) (fun _ q=>q) fun _ _ q=>q
  rintro rfl
  rcases hc with rfl|hc
  ·rw[hfree]at e;cases e
  ·rw[hfree]at hc;cases hc
 rcases hx with hk|hk
 ·refine wpAny_storeName_local hk hn (fun h' hn' hs=>?_) hcls
  obtain⟨oL,_,_,hoL,_⟩:=id hn
  refine h _ ⟨I.ok,I.os,I.bare,⟨fun b o e n hb hx=>?_,fun b o e n hb hx=>?_,I.base.free,fun b o e hx=>?_,I.base.tups,I.base.frzs,I.base.tbls⟩,⟨_,hn',fun j y v' e1 e2 e3=>?_⟩,fun y c e=>?_,I.free,I.freeC,fun p hp=>?_,tracked ⟨oL,hoL,I.free⟩ hs,by simpa using I.len⟩ ⟨_,hs,.inl rfl⟩
  ·exact(hs.2 b (Nat.ne_of_lt (Nat.lt_of_lt_of_le (Heap.lt_size e) I.ok.above))).trans (I.base.keep b o e n hb hx)
  ·obtain⟨sl,e1⟩:=I.base.slot b o e n hb hx
   exact⟨sl,(hs.2 b (Nat.ne_of_lt (Nat.lt_of_lt_of_le (Heap.lt_size e) I.ok.above))).trans e1⟩
  ·obtain⟨o',e1⟩:=I.base.there b o e hx
   exact⟨o',(hs.2 b (Nat.ne_of_lt (Nat.lt_of_lt_of_le (Heap.lt_size e) I.ok.above))).trans e1⟩
  ·by_cases hj:j=i
   ·subst hj
    rw[hi]at e1;cases e1
    rw[List.getElem?_set_self hiσ]at e2
    cases e2
    exact⟨u,r,.inl ⟨hk,by simp⟩⟩
   ·rw[List.getElem?_set_ne (Ne.symm hj)]at e2
    obtain⟨u',r',q⟩:=hl j y v' e1 e2 e3
    refine⟨u',r',?_⟩
    rcases q with ⟨k,e⟩|⟨k,c,e,z⟩
    ·refine .inl ⟨k,?_⟩
     have:y≠x:=fun e=>hj (OK hN e1 (e▸hi))
     simp[this,e]
    ·exact .inr ⟨k,c,e,z.sameBut hs (cne y c e)⟩
  ·obtain⟨w',z⟩:=I.cell y c e
   exact⟨w',z.sameBut hs (cne y c e)⟩
  ·obtain⟨e,n,ne,nf,d⟩:=I.pin p hp
   exact⟨(hs.2 p.1 ne).trans e,n,ne,nf,d⟩
 ·have hfn:X.fn x=true:=by
   rcases hf with z|z
   ·exact z
   ·rw[z]at hk;cases hk
  obtain⟨c,hc⟩:=I.ok.has x (.inl hk)
  obtain⟨w',z⟩:=I.cell x c hc
  refine wpAny_storeName_cell I.ok.kind hk hc z (fun h' hc' hs=>?_)
  obtain⟨oc,hoc,hocd⟩:=id z
  refine h { s with heap:=h' } ⟨I.ok,I.os,I.bare,⟨fun b o e n hb hx=>?_,fun b o e n hb hx=>?_,I.base.free,fun b o e hx=>?_,I.base.tups,I.base.frzs,I.base.tbls⟩,⟨m,hn.sameBut hs (Ne.symm (cne x c hc)),fun j y v' e1 e2 e3=>?_⟩,fun y c' e=>?_,I.free,I.freeC,fun p hp=>?_,tracked ⟨oc,hoc,I.freeC x c hc⟩ hs,by simpa using I.len⟩ ⟨c,hs,.inr hc⟩
  ·exact(hs.2 b (Nat.ne_of_lt (Nat.lt_of_lt_of_le (Heap.lt_size e) (I.ok.cab x c hfn hc)))).trans (I.base.keep b o e n hb hx)
  ·obtain⟨sl,e1⟩:=I.base.slot b o e n hb hx
   exact⟨sl,(hs.2 b (Nat.ne_of_lt (Nat.lt_of_lt_of_le (Heap.lt_size e) (I.ok.cab x c hfn hc)))).trans e1⟩
  ·obtain⟨o',e1⟩:=I.base.there b o e hx
   exact⟨o',(hs.2 b (Nat.ne_of_lt (Nat.lt_of_lt_of_le (Heap.lt_size e) (I.ok.cab x c hfn hc)))).trans e1⟩
  ·by_cases hj:j=i
   ·subst hj
    rw[hi]at e1;cases e1
    rw[List.getElem?_set_self hiσ]at e2
    cases e2
    exact⟨u,r,.inr ⟨.inl hk,c,hc,hc'⟩⟩
   ·rw[List.getElem?_set_ne (Ne.symm hj)]at e2
    obtain⟨u',r',q⟩:=hl j y v' e1 e2 e3
    refine⟨u',r',?_⟩
    rcases q with q|⟨k,c',e,z'⟩
    ·exact .inl q
    ·refine .inr ⟨k,c',e,z'.sameBut hs ?_⟩
     rintro rfl
     exact hj (OK hN e1 (I.ok.inj _ _ _ e hc▸hi))
  ·by_cases hcc:c'=c
   ·subst hcc;exact⟨_,hc'⟩
   ·obtain⟨w2,z2⟩:=I.cell y c' e
    exact⟨w2,z2.sameBut hs hcc⟩
  ·obtain⟨e,n,ne,nf,d⟩:=I.pin p hp
   refine⟨(hs.2 p.1 ?_).trans e,n,ne,nf,d⟩
   intro q
   rw[q,hoc]at e
   have q':oc=p.2:=Option.some.inj e
   exact d w' (by rw[<- q'];exact hocd)
theorem N7{M:Model}{A:Around}{E:Value->Shared->Prop}{i:Nat}{x:Str}{v:V}{u:Value}{Q:Unit->Shared->Prop}(I:Inv X pins σ H s)(hN:X.N.Nodup)(hi:X.N[i]?=some x)(hx:Loc X.env.scope x)(r:RelV v u)
  (h:∀s',Inv X pins (σ.set i (some v)) H s'->Q () s') (hf:X.fn x=true\/X.env.scope.names.lookup x=some .local:=by first|exact .inl rfl|exact .inr rfl|assumption):wpAny M A (storeName X.env x u) Q E s :=
 MC I hN hi hx r (fun s' I' _=>h s' I') hf
theorem Inv.call'{s':Shared}{ch:List Addr}(I:Inv X pins σ H s)(ho:s'.os=s.os)(u:Un (frs X.stack) ch H H' s.heap s'.heap)(hok:HOk X.prog X.w H' s'.heap)(hg:AllBare s'.gens)
  (hch:∀b∈ch,(b∈X.ex\/X.s₀.heap.objs.size<=b)/\b≠X.env.locals/\(∀x c,X.env.cells.lookup x=some c->c≠b)/\∀p∈X.pn++pins,p.1≠b):Inv X pins σ H' s':=by
 obtain⟨h',g',d',t',o'⟩:=s'
 have e:o'=s.os:=ho
 subst e
 exact I.call (g':=g') (t':=t') (d':=d') u hok hg hch
end
abbrev XK:=Value->Option Addr->Hp->Prop
abbrev St:=List (Option V)
abbrev VK:=V->Hp->Prop
abbrev TE:=St->Hp->VK->Prop
abbrev TT:=St->Hp->(Bool->Hp->Prop)->Prop
abbrev TA:=St->Hp->(List V->Hp->Prop)->Prop
structure Jj where
 nx:St->Hp->Prop
 rt:VK
 bk:St->Hp->Prop:=fun _ _=>False
 ct:St->Hp->Prop:=fun _ _=>False
abbrev TS:=Jj->St->Hp->Prop
def EP(X:Cx)(pins:List (Addr×Obj))(σ:St)(Q:VK)(u:Value)(s':Shared):Prop:=∃v H',Inv X pins σ H' s'/\RelV v u/\Q v H'
def TP(X:Cx)(pins:List (Addr×Obj))(σ:St)(Q:Bool->Hp->Prop)(b:Bool)(s':Shared):Prop:=∃H',Inv X pins σ H' s'/\Q b H'
def AP(X:Cx)(pins:List (Addr×Obj))(σ:St)(Q:List V->Hp->Prop)(us:List Value)(s':Shared):Prop:=∃vs H',Inv X pins σ H' s'/\Vals vs us/\Q vs H'
def SP(X:Cx)(pins:List (Addr×Obj))(D:Jj)(f:Flow)(s':Shared):Prop :=
 match f with
 |.next=>∃σ' H',Inv X pins σ' H' s'/\D.nx σ' H'
 |.brk=>∃σ' H',Inv X pins σ' H' s'/\D.bk σ' H'
 |.cont=>∃σ' H',Inv X pins σ' H' s'/\D.ct σ' H'
 |.ret u=>∃v σ' H',Inv X pins σ' H' s'/\RelV v u/\D.rt v H'
def PE(X:Cx)(e:Expr)(t:TE):Prop :=
 ∀(pins:List (Addr×Obj)) (s:Shared) (σ:St) (H:Hp) (Q:VK),Inv X pins σ H s->t σ H Q->wpAny (model X.prog X.w) X.A (eval e X.env) (EP X pins σ Q) X.xe s
def PT(X:Cx)(e:Expr)(t:TT):Prop :=
 ∀(pins:List (Addr×Obj)) (s:Shared) (σ:St) (H:Hp) (Q:Bool->Hp->Prop),Inv X pins σ H s->t σ H Q->wpAny (model X.prog X.w) X.A (isTrue e X.env (eval e X.env)) (TP X pins σ Q) X.xe s
def PW(X:Cx)(e:Expr)(t:TT):Prop :=
 ∀(whole:Sem Value) (pins:List (Addr×Obj)) (s:Shared) (σ:St) (H:Hp) (Q:Bool->Hp->Prop),Inv X pins σ H s->t σ H Q->wpAny (model X.prog X.w) X.A (isTrue e X.env whole) (TP X pins σ Q) X.xe s
theorem PW.pt{X:Cx}{e:Expr}{t:TT}(h:PW X e t):PT X e t:=h _
def PA(X:Cx)(es:List Expr)(t:TA):Prop :=
 ∀(pos:Pos) (pins:List (Addr×Obj)) (s:Shared) (σ:St) (H:Hp) (Q:List V->Hp->Prop),Inv X pins σ H s->t σ H Q->wpAny (model X.prog X.w) X.A (spliced (backTo pos (starEach es X.env))) (AP X pins σ Q) X.xe s
def PS(X:Cx)(st:Stmt)(t:TS):Prop :=
 ∀(pins:List (Addr×Obj)) (s:Shared) (σ:St) (H:Hp) (D:Jj),Inv X pins σ H s->t D σ H->wpAny (model X.prog X.w) X.A (exec st X.env) (SP X pins D) X.xe s
def PSs(X:Cx)(st:List Stmt)(t:TS):Prop :=
 ∀(pins:List (Addr×Obj)) (s:Shared) (σ:St) (H:Hp) (D:Jj),Inv X pins σ H s->t D σ H->wpAny (model X.prog X.w) X.A (execs st X.env) (SP X pins D) X.xe s
theorem thn{α:Type}{t:Sem α}{Q Q':α->Shared->Prop}{M:Model}{A:Around}{E:Value->Shared->Prop}{s:Shared}(h:wpAny M A t Q E s)(hQ:∀a s,Q a s->Q' a s):wpAny M A t Q' E s:=wpAny_mono h hQ fun _ _ x=>x
end L2
namespace L2
open PySem PySem.Spec PyProof.Rows
section
variable {X:Cx}
theorem bin{a b:Expr}{ta tb:TE}(ha:PE X a ta)(hb:PE X b tb){pins:List (Addr×Obj)}{s:Shared}{σ:St}{H:Hp}{R:V->V->Hp->Prop}(I:Inv X pins σ H s)(h:ta σ H fun x H1=>tb σ H1 fun y H2=>R x y H2)
  {α:Type} {Q:α->Shared->Prop} {f:Value->Value->Sem α}
  (hf:∀v u s2 x y H2,Inv X pins σ H2 s2->RelV x v->RelV y u->R x y H2->wpAny (model X.prog X.w) X.A (f v u) Q X.xe s2) :
  wpAny (model X.prog X.w) X.A (eval a X.env) (fun v s₁=>wpAny (model X.prog X.w) X.A (eval b X.env) (fun u s₂=>wpAny (model X.prog X.w) X.A (f v u) Q X.xe s₂) X.xe s₁) X.xe s:=by
 refine thn (ha pins s σ H _ I h) fun v s1 ⟨x,H1,I1,r1,q1⟩=>?_
 refine thn (hb pins s1 σ H1 _ I1 q1) fun u s2 ⟨y,H2,I2,r2,q2⟩=>?_
 exact hf v u s2 x y H2 I2 r1 r2 q2
def FL(i:Nat):TE:=fun σ H Q=>∃v,σ[i]?=some (some v)/\Q v H
def tC(v:V):TE:=fun _ H Q=>Q v H
theorem Ve{i:Nat}{x:Str}{pos:Pos}(hN:X.N[i]?=some x)(hv:Vis X.env.scope x)(hd:(x==("__debug__":Str))=false:=by decide)(hcd:(x==("__classdict__":Str))=false:=by decide):PE X (.Name x pos) (FL i):=by
 intro pins s σ H Q I h
 obtain⟨v,e,h⟩:=h
 obtain⟨m,hn,hl⟩:=I.loc
 obtain⟨u,r,l⟩:=hl i x v hN e hv
 have fin:EP X pins σ Q u s:=⟨v,H,I,r,h⟩
 rcases l with ⟨hk,hm⟩|⟨hk,c,hc,hcell⟩
 ·exact wpAny_Name (wpAny_loadName_local I.ok.kind hk hn hm fin) hd
 ·rcases hk with hk|hk
  ·exact wpAny_Name (wpAny_loadName_cell I.ok.kind hk hc hcell fin) hd
  ·exact wpAny_Name (wpAny_loadName_free I.ok.kind hk hc hcell fin hcd) hd
theorem AJ{i j pos}:PE X (.Constant (.int i) j pos) (tC (.int i)):=fun _ _ _ H _ I h=>wpAny_Constant_int ⟨.int i,H,I.tok _,⟨_,rfl⟩,h⟩
theorem GN{b j pos}:PE X (.Constant (.bool b) j pos) (tC (.bl b)):=fun _ _ _ H _ I h=>Constant_bool ⟨.bl b,H,I,rfl,h⟩
def Gl(X:Cx)(x:Str):Prop:=X.env.kindOf x=some .globalImplicit
theorem UG{E:Value->Shared->Prop}{pins:List (Addr×Obj)}{s:Shared}{σ:St}{H:Hp}{x:Str}{u:Value}{pos:Pos}{Q:Value->Shared->Prop}(I:Inv X pins σ H s)(hg:Gl X x)(hm:X.mg x=some u)(h:Q u s)
  (hd:(x==("__debug__":Str))=false:=by decide):wpAny (model X.prog X.w) X.A (eval (.Name x pos) X.env) Q E s :=
 Calls.Name_function_global I.ok.kind hg (Calls.loadGlobal_global (by rw[I.ok.glob];exact I.mod.glob.keeps I.bk) hm h) hd
theorem Ku{E:Value->Shared->Prop}{pins:List (Addr×Obj)}{s:Shared}{σ:St}{H:Hp}{x:Str}{u:Value}{pos:Pos}{Q:Value->Shared->Prop}(I:Inv X pins σ H s)(hg:Gl X x)(hm:X.mg x=none)(hv:bootBuiltins x=some u)(h:Q u s)
  (hn:x≠"__name__":=by decide) (hd:(x==("__debug__":Str))=false:=by decide):wpAny (model X.prog X.w) X.A (eval (.Name x pos) X.env) Q E s:=by
 obtain⟨mb,h1,h2⟩:=I.mod.blt
 exact Calls.Name_function_global I.ok.kind hg (Calls.loadGlobal_builtin (by rw[I.ok.glob];exact I.mod.glob.keeps I.bk) hm (by rw[I.ok.blt];exact h1.keeps I.bk) ((h2 x hn).trans hv) h) hd
theorem Tz{x:Str}{v:V}{u:Value}{pos:Pos}(hg:Gl X x)(hm:X.mg x=none)(hv:bootBuiltins x=some u)(r:RelV v u)(hn:x≠"__name__":=by decide)(hd:(x==("__debug__":Str))=false:=by decide):PE X (.Name x pos) (tC v) :=
 fun _ _ _ H _ I h=>Ku I hg hm hv ⟨v,H,I,r,h⟩ hn hd
variable {a b:Expr} {ta tb:TE} {pos:Pos}
def tB(t:TE):TT:=fun σ H Q=>t σ H fun x H1=>∃c,x = .bl c/\Q c H1
theorem Dj{e:Expr}{t:TE}(h:PE X e t)(he:∀whole,isTrue e X.env whole=(do let v <- whole;standAt e.pos;holding [v] (truthy v)):=by intro _;rfl):PT X e (tB t):=by
 intro pins s σ H Q I hw
 refine isTrue_plain (thn (h pins s σ H _ I hw) fun v s1 ⟨x,H1,I1,r1,q1⟩=>?_) (he _)
 obtain⟨d,rfl,q⟩:=q1
 cases r1
 exact wpAny_truthy_bool ⟨H1,I1,q⟩
variable {tA tB':TT} {FA:List Expr}
def WZ(t u:TT):TT:=fun σ H Q=>t σ H fun c H1=>if c=true then u σ H1 Q else Q false H1
def tOr(t u:TT):TT:=fun σ H Q=>t σ H fun c H1=>if c=true then Q true H1 else u σ H1 Q
def WX(t:TT):TT:=fun σ H Q=>t σ H fun c H1=>Q (!c) H1
theorem QD(ha:PT X a tA):PW X (.BoolOp .And [a] pos) tA:=by
 intro wh pins s σ H Q I h
 refine isTrue_and (thn (ha pins s σ H Q I h) fun c s1 e=>?_)
 cases c with
 |true=>exact isTrue_and_nil e
 |false=>exact e
theorem Hg(ha:PT X a tA):PW X (.BoolOp .Or [a] pos) tA:=by
 intro wh pins s σ H Q I h
 refine isTrue_or (thn (ha pins s σ H Q I h) fun c s1 e=>?_)
 cases c with
 |false=>exact isTrue_or_nil e
 |true=>exact e
theorem PQ(ha:PT X a tA)(hb:PW X (.BoolOp .And (b::FA) pos) tB'):PW X (.BoolOp .And (a::b::FA) pos) (WZ tA tB'):=by
 intro wh pins s σ H Q I h
 refine isTrue_and (thn (ha pins s σ H _ I h) fun c s1 ⟨H1,I1,q1⟩=>?_)
 cases c with
 |true=>exact hb wh pins s1 σ H1 Q I1 q1
 |false=>exact⟨H1,I1,q1⟩
theorem II(ha:PT X a tA)(hb:PW X (.BoolOp .Or (b::FA) pos) tB'):PW X (.BoolOp .Or (a::b::FA) pos) (tOr tA tB'):=by
 intro wh pins s σ H Q I h
 refine isTrue_or (thn (ha pins s σ H _ I h) fun c s1 ⟨H1,I1,q1⟩=>?_)
 cases c with
 |true=>exact⟨H1,I1,q1⟩
 |false=>exact hb wh pins s1 σ H1 Q I1 q1
theorem EM(ha:PT X a tA):PT X (.UnaryOp .Not a pos) (WX tA):=by
 intro pins s σ H Q I h
 exact isTrue_not (ha pins s σ H (fun c H1=>Q (!c) H1) I h)
end
end L2
namespace L2
open PySem PySem.Spec PyProof.Rows
def SqL(K:PySem.W.Frag)(H:Hp)(a:Addr)(xs:List V):Prop :=
 Rd H a (.lst xs) \/
  ∃(o:Obj) (its:Array Value) (n:Nat),K.lookup a=some o/\o.cls = .type "list"/\o.dict=none/\o.data = .seq its n/\its.size<=sizeLine/\Vals xs its.toList
def SqT(K:PySem.W.Frag)(H:Hp)(a:Addr)(xs:List V):Prop :=
 Rd H a (.tup xs) \/
  ∃(o:Obj) (its:Array Value) (n:Nat),K.lookup a=some o/\o.cls = .type "tuple"/\o.data = .seq its n/\its.size<=sizeLine/\Vals xs its.toList
def XU:Value->Option V
 |.none=>some .non
 |.bool b=>some (.bl b)
 |.int i _=>some (.int i)
 |.str x _=>some (.str x)
 |.bytes b _=>some (.byt b)
 |.float b _=>some (.flt b)
 |.ref a=>some (.ref a)
 |.type n=>some (.ty n)
 |_=>none
theorem RelV.abs{x:V}{u:Value}(r:RelV x u):XU u=some x:=by
 cases x with
 |non=>cases r;rfl
 |bl _=>cases r;rfl
 |int _=>obtain⟨t,rfl⟩:=r;rfl
 |str _=>obtain⟨t,rfl⟩:=r;rfl
 |byt _=>obtain⟨t,rfl⟩:=r;rfl
 |flt _=>obtain⟨t,rfl⟩:=r;rfl
 |ref _=>cases r;rfl
 |ty _=>cases r;rfl
theorem RelV.inj{x y:V}{u:Value}(r:RelV x u)(q:RelV y u):x=y:=Option.some.inj (r.abs.symm.trans q.abs)
theorem Vals.inj:∀{xs ys:List V} {us:List Value},Vals xs us->Vals ys us->xs=ys
 |_,_,_,.nil,.nil=>rfl
 |_,_,_,.cons r t,.cons r' t'=>by rw[r.inj r',Vals.inj t t']
section
variable {X:Cx} {pins:List (Addr×Obj)} {σ:St} {H:Hp} {s:Shared} {a:Addr} {xs ys:List V}
theorem SqL.of{K:PySem.W.Frag}(h:H a=some (.lst xs)):SqL K H a xs:=.inl (.inl h)
theorem SqT.of{K:PySem.W.Frag}(h:H a=some (.tup xs)):SqT K H a xs:=.inl (.inl h)
theorem Inv.list(I:Inv X pins σ H s)(h:SqL X.K H a xs):∃its:List Value,Vals xs its/\PlainL s.heap a its.toArray/\xs.length<=sizeLine:=by
 rcases h with h|⟨o,its,n,hk,hc,hd,hs,hz,r⟩
 ·obtain⟨z,its,n,r,e⟩:=h.ok I.hok
  exact⟨its,r,⟨_,n,e,rfl,rfl,rfl⟩,z⟩
 ·refine⟨its.toList,r,⟨o,n,I.kIn a o hk,hc,hd,by simpa using hs⟩,?_⟩
  have e:=r.length
  simp only[Array.length_toList]at e
  omega
theorem Inv.tuple(I:Inv X pins σ H s)(h:SqT X.K H a xs):∃its:List Value,Vals xs its/\IsTup s.heap a its.toArray/\xs.length<=sizeLine:=by
 rcases h with h|⟨o,its,n,hk,hc,hs,hz,r⟩
 ·obtain⟨z,its,r,p⟩:=h.ok I.hok
  exact⟨its,r,p,z⟩
 ·refine⟨its.toList,r,⟨o,I.kIn a o hk,hc,n,by simpa using hs⟩,?_⟩
  have e:=r.length
  simp only[Array.length_toList]at e
  omega
theorem Inv.list_inj(I:Inv X pins σ H s)(h:SqL X.K H a xs)(h':SqL X.K H a ys):xs=ys:=by
 obtain⟨its,r,⟨o,n,e,_,_,d⟩,_⟩:=I.list h
 obtain⟨its',r',⟨o',n',e',_,_,d'⟩,_⟩:=I.list h'
 rw[e]at e';cases e'
 rw[d]at d'
 injection d' with d1 _
 have:its=its':=by simpa using congrArg Array.toList d1
 subst this
 exact r.inj r'
theorem Inv.tuple_inj(I:Inv X pins σ H s)(h:SqT X.K H a xs)(h':SqT X.K H a ys):xs=ys:=by
 obtain⟨its,r,⟨o,e,_,n,d⟩,_⟩:=I.tuple h
 obtain⟨its',r',⟨o',e',_,n',d'⟩,_⟩:=I.tuple h'
 rw[e]at e';cases e'
 rw[d]at d'
 injection d' with d1 _
 have:its=its':=by simpa using congrArg Array.toList d1
 subst this
 exact r.inj r'
end
abbrev Cx.wish(X:Cx)(E:Value->Shared->Prop):Cx:={ X with xe:=E }
abbrev Cx.nox(X:Cx):Cx:=X.wish fun _ _=>False
theorem Cx.Ok.wish{X:Cx}(ok:X.Ok)(E:Value->Shared->Prop):(X.wish E).Ok :=
 ⟨ok.mod,ok.kind,ok.glob,ok.blt,ok.above,ok.inj,ok.has,ok.cab,ok.hd,ok.frames,ok.stk,ok.exf,ok.bs,ok.bsz,ok.noex,ok.exfs,ok.funs,ok.frf⟩
theorem Cx.Ok.unwish{X:Cx}{E:Value->Shared->Prop}(ok:(X.wish E).Ok):X.Ok :=
 ⟨ok.mod,ok.kind,ok.glob,ok.blt,ok.above,ok.inj,ok.has,ok.cab,ok.hd,ok.frames,ok.stk,ok.exf,ok.bs,ok.bsz,ok.noex,ok.exfs,ok.funs,ok.frf⟩
section
variable {X:Cx} {pins:List (Addr×Obj)} {σ:St} {H:Hp} {s:Shared} {E:Value->Shared->Prop}
theorem Inv.wish(I:Inv X pins σ H s)(E:Value->Shared->Prop):Inv (X.wish E) pins σ H s:=⟨I.ok.wish E,I.os,I.bare,I.base,I.loc,I.cell,I.free,I.freeC,I.pin,I.hok,I.len⟩
theorem Inv.unwish(I:Inv (X.wish E) pins σ H s):Inv X pins σ H s:=⟨I.ok.unwish,I.os,I.bare,I.base,I.loc,I.cell,I.free,I.freeC,I.pin,I.hok,I.len⟩
theorem SP.unwish{D:Jj}{f:Flow}{s':Shared}(h:SP (X.wish E) pins D f s'):SP X pins D f s':=by
 cases f with
 |next=>obtain⟨σ',H',I,q⟩:=h;exact⟨σ',H',I.unwish,q⟩
 |brk=>obtain⟨σ',H',I,q⟩:=h;exact⟨σ',H',I.unwish,q⟩
 |cont=>obtain⟨σ',H',I,q⟩:=h;exact⟨σ',H',I.unwish,q⟩
 |ret u=>obtain⟨v,σ',H',I,r,q⟩:=h;exact⟨v,σ',H',I.unwish,r,q⟩
theorem PSs.nox{st:List Stmt}{t:TS}(h:PSs X.nox st t):PSs X st t:=fun pins s σ H D I hw =>
 wpAny_mono (h pins s σ H D (I.wish _) hw) (fun _ _ q=>q.unwish) fun _ _ z=>False.elim z
end
section
variable {X:Cx} {st:Stmt} {FA:List Stmt} {t u:TS} {e:Expr} {te:TE} {pos:Pos}
def Uy:TS:=fun D σ H=>D.nx σ H
def Tk(t u:TS):TS:=fun D σ H=>t { D with nx:=u D } σ H
theorem Cr:PSs X [] Uy:=fun _ _ σ H _ I h=>wpAny_execs_nil ⟨σ,H,I,h⟩
theorem AK(h1:PS X st t)(h2:PSs X FA u):PSs X (st::FA) (Tk t u):=by
 intro pins s σ H D I h
 refine wpAny_execs_cons (thn (h1 pins s σ H { D with nx:=u D } I h) fun f s1 q=>?_)
 cases f with
 |next =>
  obtain⟨σ',H',I',q⟩:=q
  exact h2 pins s1 σ' H' D I' q
 |ret v=>exact q
 |brk=>exact q
 |cont=>exact q
theorem AV(h1:PS X st t):PSs X [st] t:=by
 intro pins s σ H D I h
 refine wpAny_execs_cons (thn (h1 pins s σ H D I h) fun f s1 q=>?_)
 cases f with
 |next=>exact wpAny_execs_nil q
 |ret v=>exact q
 |brk=>exact q
 |cont=>exact q
theorem Inv.quiet{pins:List (Addr×Obj)}{σ:St}{H:Hp}{s:Shared}(I:Inv X pins σ H s):interactive X.env=false:=by simp[interactive,I.ok.kind]
def IA(te:TE):TS:=fun D σ H=>te σ H fun _ H1=>D.nx σ H1
theorem Dt(he:PE X e te)(hs:swapsWith e none pos.line X.env=pure false:=by rfl):PS X (.Expr e pos) (IA te):=by
 intro pins s σ H D I h
 exact wpAny_Expr_any (thn (he pins s σ H _ I h) fun v s1 ⟨x,H1,I1,r1,q1⟩=>⟨σ,H1,I1,q1⟩) I.quiet hs
def PJ(te:TE):TS:=fun D σ H=>te σ H D.rt
theorem BE(he:PE X e te):PS X (.Return (some e) pos) (PJ te):=by
 intro pins s σ H D I h
 exact wpAny_Return_some (thn (he pins s σ H _ I h) fun v s1 ⟨x,H1,I1,r1,q1⟩=>⟨x,σ,H1,I1,r1,q1⟩)
def WY(c:TT)(t u:TS):TS:=fun D σ H=>c σ H fun b H1=>if b=true then t D σ H1 else u D σ H1
theorem EN{c:Expr}{a b:List Stmt}{tc:TT}(hc:PT X c tc)(ha:PSs X a t)(hb:PSs X b u):PS X (.If c a b pos) (WY tc t u):=by
 intro pins s σ H D I h
 refine wpAny_If (thn (hc pins s σ H _ I h) fun d s1 ⟨H1,I1,q1⟩=>?_)
 cases d with
 |true=>exact ha pins s1 σ H1 D I1 q1
 |false=>exact hb pins s1 σ H1 D I1 q1
end
abbrev TG:=V->St->Hp->(St->Hp->Prop)->Prop
abbrev TGs:=List V->St->Hp->(St->Hp->Prop)->Prop
def PG(X:Cx)(target:Expr)(t:TG):Prop :=
 ∀(pins:List (Addr×Obj)) (s:Shared) (σ:St) (H:Hp) (v:V) (u:Value) (Q:St->Hp->Prop),Inv X pins σ H s->RelV v u->t v σ H Q ->
  wpAny (model X.prog X.w) X.A (assign target X.env u) (fun _ s'=>∃σ' H',Inv X pins σ' H' s'/\Q σ' H') X.xe s
def PGs(X:Cx)(ts:List Expr)(t:TGs):Prop :=
 ∀(pins:List (Addr×Obj)) (s:Shared) (σ:St) (H:Hp) (vs:List V) (us:List Value) (Q:St->Hp->Prop),Inv X pins σ H s->Vals vs us->t vs σ H Q ->
  wpAny (model X.prog X.w) X.A (assignInOrder ((assignEach ts X.env).map (·.2)) us) (fun _ s'=>∃σ' H',Inv X pins σ' H' s'/\Q σ' H') X.xe s
abbrev TSet:=V->V->V->Hp->(Hp->Prop)->Prop
def WL(X:Cx)(t:TSet):Prop :=
 ∀(pins:List (Addr×Obj)) (s:Shared) (σ:St) (H:Hp) (o i v:V) (ov iv u:Value) (Q:Hp->Prop),Inv X pins σ H s->RelV o ov->RelV i iv->RelV v u->t o i v H Q ->
  wpAny (model X.prog X.w) X.A (setItem ov iv u) (fun _ s'=>∃H',Inv X pins σ H' s'/\Q H') X.xe s
section
variable {X:Cx} {pos:Pos}
def Ia(i:Nat):TG:=fun v σ H Q=>Q (σ.set i (some v)) H
theorem Ax{i:Nat}{x:Str}(hN:X.N.Nodup)(hi:X.N[i]?=some x)(hx:Loc X.env.scope x)(hf:X.fn x=true\/X.env.scope.names.lookup x=some .local:=by first|exact .inl rfl|exact .inr rfl|assumption):PG X (.Name x pos) (Ia i):=by
 intro pins s σ H v u Q I r h
 exact wpAny_assign_Name (N7 I hN hi hx r (fun s' I'=>⟨_,H,I',h⟩) hf)
def Ww:TGs:=fun vs σ H Q=>vs=[]/\Q σ H
def VA(t:TG)(u:TGs):TGs:=fun vs σ H Q=>∃v r,vs=v::r/\t v σ H fun σ' H'=>u r σ' H' Q
theorem Gx:PGs X [] Ww:=by
 intro pins s σ H vs us Q I r h
 obtain⟨e,h⟩:=h
 subst e
 cases r
 exact assignInOrder_nil ⟨σ,H,I,h⟩
theorem B6{e:Expr}{es:List Expr}{t:TG}{u:TGs}(h1:PG X e t)(h2:PGs X es u)
  (hs:(assignEach (e::es) X.env).map (·.2)=assign e X.env::(assignEach es X.env).map (·.2):=by rfl):PGs X (e::es) (VA t u):=by
 intro pins s σ H vs us Q I r h
 obtain⟨v,vr,e1,h⟩:=h
 subst e1
 cases r with
 |cons r rr =>
  rw[hs]
  refine assignInOrder_cons (thn (h1 pins s σ H _ _ _ I r h) fun _ s1 ⟨σ1,H1,I1,q1⟩=>?_)
  exact h2 pins s1 σ1 H1 _ _ Q I1 rr q1
def Wv(K:PySem.W.Frag)(n:Nat)(t:TGs):TG:=fun v σ H Q=>∃a xs,v = .ref a/\SqT K H a xs/\xs.length=n/\t xs σ H Q
theorem Iy{es:List Expr}{k:Nat}{t:TGs}{n:Nat}(hc:X.calm=true)(h:PGs X es t)
  (hn:(assignEach es X.env).length=n:=by rfl) (hst:(assignEach es X.env).findIdx? (·.1)=none:=by rfl):PG X (.Tuple es k pos) (Wv X.K n t):=by
 intro pins s σ H v u Q I r hw
 obtain⟨a,xs,e1,hq,hl,hw⟩:=hw
 subst e1
 cases r
 obtain⟨its,rv,ht,hz⟩:=I.tuple hq
 refine assign_Tuple_tuple (I.ok.hd hc) ht (by simp[hn,<- hl,rv.length]) hst fun h' hx=>?_
 have I1:Inv X pins σ H { s with heap:=h' }:=I.kept (t':=s.toks) fun b o e=>hx b o (Nat.ne_of_lt (Heap.lt_size e)) e
 exact h pins _ σ H xs _ Q I1 (by simpa using rv) hw
def S0(to ti:TE)(t:TSet):TG:=fun v σ H Q=>to σ H fun o H1=>ti σ H1 fun i H2=>t o i v H2 fun H3=>Q σ H3
theorem Iz{o i:Expr}{to ti:TE}{t:TSet}(ho:PE X o to)(hi:PE X i ti)(hs:WL X t)
  (ha : ∀ v, assign (.Subscript o i pos) X.env v = (do
   let ov <- holding [v] (eval o X.env)
   let iv <- holding [v,ov] (eval i X.env)
   standAt pos
   holding [v,ov,iv] (setItem ov iv v)
   release [v,ov,iv] []):=by intro _;rfl):PG X (.Subscript o i pos) (S0 to ti t):=by
 intro pins s σ H v u Q I r h
 rw[ha]
 refine wpAny_bind (wpAny_holding (thn (ho pins s σ H _ I h) fun ov s1 ⟨x,H1,I1,r1,q1⟩=>?_))
 refine wpAny_bind (wpAny_holding (thn (hi pins s1 σ H1 _ I1 q1) fun iv s2 ⟨y,H2,I2,r2,q2⟩=>?_))
 refine wpAny_bind (wpAny_standAt (wpAny_bind (wpAny_holding (thn (hs pins s2 σ H2 x y v ov iv u _ I2 r1 r2 r q2) fun _ s3 ⟨H3,I3,q3⟩=>?_))))
 exact wpAny_release ⟨σ,H3,I3,q3⟩
def KZ(te:TE)(g:TG):TS:=fun D σ H=>te σ H fun x H1=>g x σ H1 D.nx
theorem Ix{tg e:Expr}{te:TE}{g:TG}(he:PE X e te)(hg:PG X tg g)(hs:swapsWithSole [tg] e pos.line X.env=pure false:=by rfl)(hw:swappedStores [tg] e X.env=pure none:=by rfl)
  (h1:(assignEach [tg] X.env).map (·.2)=[assign tg X.env]:=by rfl):PS X (.Assign [tg] e pos) (KZ te g):=by
 intro pins s σ H D I h
 refine wpAny_Assign_stores (thn (he pins s σ H _ I h) fun v s1 ⟨x,H1,I1,r1,q1⟩=>?_) hs hw
 rw[h1]
 exact thn (hg pins s1 σ H1 x v _ I1 r1 q1) fun _ s2 q=>q
theorem BU{i:Nat}{x:Str}{e:Expr}{te:TE}{pos':Pos}(hN:X.N.Nodup)(hi:X.N[i]?=some x)(hx:Loc X.env.scope x)(he:PE X e te)(hs:swapsWith e (some (.Name x pos')) pos.line X.env=pure false:=by rfl)(hf:X.fn x=true\/X.env.scope.names.lookup x=some .local:=by first|exact .inl rfl|exact .inr rfl|assumption) :
  PS X (.Assign [.Name x pos'] e pos) (KZ te (Ia i)):=by
 intro pins s σ H D I h
 refine wpAny_Assign_Name (thn (he pins s σ H _ I h) fun v s1 ⟨y,H1,I1,r1,q1⟩=>?_) hs
 exact N7 I1 hN hi hx r1 (fun s2 I2=>⟨_,H1,I2,q1⟩) hf
end
section
variable {X:Cx} {pos:Pos}
end
structure It where
 go:Nat->Hp->Prop
 yld:Nat->Hp->V->Hp->Prop
 stop:Nat->Hp->Prop
def Ji(X:Cx)(pins:List (Addr×Obj))(H:Hp)(b:Addr):Prop :=
 H b=none/\b≠X.env.locals/\b∉X.fs/\(b∈X.ex\/X.s₀.heap.objs.size<=b)/\(∀x c,X.env.cells.lookup x=some c->c≠b)/\∀p∈X.pn++pins,p.1≠b
theorem Inv.fpOk{X:Cx}{pins:List (Addr×Obj)}{σ:St}{H H':Hp}{s:Shared}{b:Addr}(I:Inv X pins σ H s)(hb:s.heap.objs.size<=b)(hn:H' b=none):Ji X pins H' b:=by
 refine⟨hn,Nat.ne_of_gt (Nat.lt_of_lt_of_le I.lt hb),I.nofs hb,.inr (Nat.le_trans I.sz hb),fun x c e z=>?_,fun p hp z=>?_⟩
 ·obtain⟨v,q⟩:=I.cell x c e
  exact absurd (Nat.lt_of_lt_of_le q.lt (by rw[z];exact hb)) (Nat.lt_irrefl _)
 ·exact absurd (Nat.lt_of_lt_of_le (Heap.lt_size (I.pin p hp).1) (by rw[z];exact hb)) (Nat.lt_irrefl _)
structure P5(P:Program)(w:World)(K:PySem.W.Frag)(tg:Expr)(J:It)(fp:List Addr)(it:Addr)(tn:Nat->Heap->Prop):Prop where
 mem:it∈fp
 obj:∀i h,tn i h->∀b∈fp,∃o,h.get? b=some o/\∀v,o.data≠.cell v
 keep:∀i h h',tn i h->(∀b∈fp,∀o,h.get? b=some o->h'.get? b=some o)->tn i h'
 item:∀(X:Cx),X.prog=P->X.w=w->X.K=K->X.calm=true->∀(i:Nat) (pins:List (Addr×Obj)) (s:Shared) (σ:St) (H:Hp) (E:Value->Shared->Prop),Inv X pins σ H s->(∀b∈fp,Ji X pins H b)->tn i s.heap->J.go i H ->
  wpAny (model P w) X.A (pyNext (.ref it)) (fun r s1 => ∃ u, r = some u /\
   wpAny (model P w) X.A (letOwnedTupleGo tg (.ref it) u) (fun _ s2=>∃x H',Inv X pins σ H' s2/\RelV x u/\J.yld i H x H'/\tn (i+1) s2.heap/\∀b∈fp,H' b=none) E s1) E s
 done:∀(X:Cx),X.prog=P->X.w=w->X.K=K->X.calm=true->∀(i:Nat) (pins:List (Addr×Obj)) (s:Shared) (σ:St) (H:Hp) (E:Value->Shared->Prop),Inv X pins σ H s->(∀b∈fp,Ji X pins H b)->tn i s.heap->J.stop i H ->
  wpAny (model P w) X.A (pyNext (.ref it)) (fun r s1=>r=none/\Inv X pins σ H s1) E s
 self:∀(A:Around) (i:Nat) (s:Shared) (Q:Value->Shared->Prop) (E:Value->Shared->Prop),tn i s.heap->Q (.ref it) s->wpAny (model P w) A (pyIter (.ref it)) Q E s
abbrev TI:=St->Hp->(It->Hp->Prop)->Prop
def PIE(X:Cx)(pins:List (Addr×Obj))(σ:St)(tg:Expr)(R:It->Hp->Prop)(itv:Value)(s2:Shared):Prop :=
 ∃(it:Addr) (fp:List Addr) (tn:Nat->Heap->Prop) (J:It) (H':Hp),itv = .ref it/\Inv X pins σ H' s2/\P5 X.prog X.w X.K tg J fp it tn/\tn 0 s2.heap/\(∀b∈fp,Ji X pins H' b)/\R J H'
def PI(X:Cx)(tg iter:Expr)(wi:TI):Prop :=
 ∀(pins:List (Addr×Obj)) (s:Shared) (σ:St) (H:Hp) (R:It->Hp->Prop),Inv X pins σ H s->wi σ H R ->
  wpAny (model X.prog X.w) X.A (eval iter X.env) (fun v s1=>wpAny (model X.prog X.w) X.A (pyIter v) (PIE X pins σ tg R) X.xe s1) X.xe s
theorem Qi{M:Model}{A:Around}{E:Value->Shared->Prop}{s:Shared}{tg:Expr}{it:Addr}{u:Value}{o:Obj}{n:String}{vs:Array Value}{Q:Unit->Shared->Prop}(ho:s.heap.get? it=some o)(hc:o.cls = .type n)(hd:o.data = .fields vs)
    (hn:["enumerate","zip","dict_itemiterator","dict_reverseitemiterator","odict_iterator","itertools.zip_longest","itertools.pairwise"].contains n=false) (hQ:Q () s):wpAny M A (letOwnedTupleGo tg (.ref it) u) Q E s:=by
  unfold letOwnedTupleGo
  cases tg<;>first
    |exact wpAny_pure hQ
    | (cases u <;> first
        |exact wpAny_pure hQ
        | (refine wpAny_bind (wpAny_load ho ?_)
           rw[hc,hd]
           show wpAny M A (if (["enumerate","zip","dict_itemiterator","dict_reverseitemiterator","odict_iterator","itertools.zip_longest","itertools.pairwise"].contains n&&vs[0]?==some (rawInt _))=true then _ else _) Q E s
           rw[if_neg (by intro h;rw[hn,Bool.false_and]at h;cases h)]
           exact wpAny_pure hQ))
def Itl(K:PySem.W.Frag)(a:Addr):It :=
 ⟨fun i H=>∃xs x,SqL K H a xs/\xs[i]?=some x,fun i H x H'=>H'=H/\∀xs,SqL K H a xs->xs[i]?=some x,fun i H=>∃xs,SqL K H a xs/\xs.length<=i⟩
def Itt(K:PySem.W.Frag)(a:Addr):It :=
 ⟨fun i H=>∃xs x,SqT K H a xs/\xs[i]?=some x,fun i H x H'=>H'=H/\∀xs,SqT K H a xs->xs[i]?=some x,fun i H=>∃xs,SqT K H a xs/\xs.length<=i⟩
def Itr(lo:Int)(n:Nat):It:=⟨fun i _=>i<n,fun i H x H'=>H'=H/\x = .int (lo+i),fun i _=>n<=i⟩
theorem Q7{P:Program}{w:World}{K:PySem.W.Frag}{tg:Expr}(a it:Addr):P5 P w K tg (Itl K a) [it] it (fun i h=>h.IsListIter it a i) where
 mem:=by simp
 obj:=fun i h st b hb=>by
  have e:b=it:=by simpa using hb
  subst e
  obtain⟨o,e,c,d⟩:=st
  exact⟨o,e,fun v z=>by rw[d]at z;cases z⟩
 keep:=fun i h h' st k=>st.at fun o e=>k it (by simp) o e
 item:=by
  intro X hP hw hK hc i pins s σ H E I hf st hg
  subst hP hw hK
  obtain⟨xs,x,hq,hx⟩:=hg
  obtain⟨its,rv,p,hz⟩:=I.list hq
  obtain⟨u,hu,ru⟩:=rv.get hx
  obtain⟨f0,f1,f2,f3,f4,f5⟩:=hf it (by simp)
  refine wpAny_pyNext_list_item st p.isList (x:=u) (by simpa using hu) fun h' st' sb=>?_
  have I1:Inv X pins σ H { s with heap:=h' }:=I.turned (t':=s.toks) (fun b o hb e=>(sb.2 b hb).trans e) f0 f1 f3 f4 f5
  obtain⟨o,e,c,d⟩:=id st'
  exact⟨u,rfl,Qi (s:={ s with heap:=h' }) e c d (by decide) ⟨x,H,I1,ru,⟨rfl,fun ys hy=>by rw[I.list_inj hy hq];exact hx⟩,st',fun b hb=>(hf b hb).1⟩⟩
 done:=by
  intro X hP hw hK hc i pins s σ H E I hf st hg
  subst hP hw hK
  obtain⟨xs,hq,hx⟩:=hg
  obtain⟨its,rv,p,hz⟩:=I.list hq
  obtain⟨f0,f1,f2,f3,f4,f5⟩:=hf it (by simp)
  have hl:=rv.length
  exact wpAny_pyNext_list_end (I.ok.hd hc) st p.isList (by simp;omega) fun h' eb=>⟨rfl,I.turned (t':=s.toks) (fun b o hb e=>eb b o hb e) f0 f1 f3 f4 f5⟩
 self:=fun _ _ _ _ _ st h=>wpAny_pyIter_listiter st h
theorem PC{P:Program}{w:World}{K:PySem.W.Frag}{tg:Expr}(a it:Addr):P5 P w K tg (Itt K a) [it] it (fun i h=>h.IsTupleIter it a i) where
 mem:=by simp
 obj:=fun i h st b hb=>by
  have e:b=it:=by simpa using hb
  subst e
  obtain⟨o,e,c,d⟩:=st
  exact⟨o,e,fun v z=>by rw[d]at z;cases z⟩
 keep:=fun i h h' st k=>st.at fun o e=>k it (by simp) o e
 item:=by
  intro X hP hw hK hc i pins s σ H E I hf st hg
  subst hP hw hK
  obtain⟨xs,x,hq,hx⟩:=hg
  obtain⟨its,rv,p,hz⟩:=I.tuple hq
  obtain⟨u,hu,ru⟩:=rv.get hx
  obtain⟨f0,f1,f2,f3,f4,f5⟩:=hf it (by simp)
  refine wpAny_pyNext_tuple_item st (show s.heap.IsTuple a its.toArray from p) (x:=u) (by simpa using hu) fun h' st' sb=>?_
  have I1:Inv X pins σ H { s with heap:=h' }:=I.turned (t':=s.toks) (fun b o hb e=>(sb.2 b hb).trans e) f0 f1 f3 f4 f5
  obtain⟨o,e,c,d⟩:=id st'
  exact⟨u,rfl,Qi (s:={ s with heap:=h' }) e c d (by decide) ⟨x,H,I1,ru,⟨rfl,fun ys hy=>by rw[I.tuple_inj hy hq];exact hx⟩,st',fun b hb=>(hf b hb).1⟩⟩
 done:=by
  intro X hP hw hK hc i pins s σ H E I hf st hg
  subst hP hw hK
  obtain⟨xs,hq,hx⟩:=hg
  obtain⟨its,rv,p,hz⟩:=I.tuple hq
  obtain⟨f0,f1,f2,f3,f4,f5⟩:=hf it (by simp)
  have hl:=rv.length
  exact wpAny_pyNext_tuple_end (I.ok.hd hc) st (show s.heap.IsTuple a its.toArray from p) (by simp;omega) fun h' eb=>⟨rfl,I.turned (t':=s.toks) (fun b o hb e=>eb b o hb e) f0 f1 f3 f4 f5⟩
 self:=fun _ _ _ _ _ st h=>wpAny_pyIter_tupleiter st h
theorem PD{P:Program}{w:World}{K:PySem.W.Frag}{tg:Expr}(it:Addr)(lo:Int)(n:Nat):P5 P w K tg (Itr lo n) [it] it (fun i h=>IsRangeIter h it (lo+(i:Nat)*1) ((n:Int)-(i:Nat)) 1) where
 mem:=by simp
 obj:=fun i h st b hb=>by
  have e:b=it:=by simpa using hb
  subst e
  exact ⟨_, st, fun v z => by
   have z':Data.fields _=Data.cell v:=z
   cases z'⟩
 keep:=fun i h h' st k=>k it (by simp) _ st
 item:=by
  intro X hP hw hK hc i pins s σ H E I hf st hg
  subst hP hw hK
  obtain⟨f0,f1,f2,f3,f4,f5⟩:=hf it (by simp)
  have W:=Walks.range (prog:=X.prog) (w:=X.w) (I.ok.hd hc) it lo 1 n
  refine W.item i s _ _ hg st fun v h' tk hv st' kk=>?_
  obtain⟨t,rfl⟩:=hv
  have I1:Inv X pins σ H { s with heap:=h',toks:=tk }:=I.turned (fun b o hb e=>kk b o (by simpa using hb) e) f0 f1 f3 f4 f5
  refine⟨_,rfl,Qi (s:={ s with heap:=h',toks:=tk }) (n:="range_iterator") st' rfl rfl (by decide) ⟨.int (lo+i),H,I1,⟨t,?_⟩,⟨rfl,rfl⟩,st',fun b hb=>(hf b hb).1⟩⟩
  rw[Int.mul_one]
 done:=by
  intro X hP hw hK hc i pins s σ H E I hf st hg
  subst hP hw hK
  obtain⟨f0,f1,f2,f3,f4,f5⟩:=hf it (by simp)
  exact wpAny_pyNext_range_end (I.ok.hd hc) st (by have:n<=i:=hg;omega) fun h' eb=>⟨rfl,I.turned (t':=s.toks) (fun b o hb e=>eb b o hb e) f0 f1 f3 f4 f5⟩
 self:=fun _ _ _ _ _ st h=>wpAny_pyIter_rangeiter st h
end L2
namespace L2
open PySem PySem.Spec PyProof.Rows
section
variable {X:Cx} {tg:Expr}
def Sv(K:PySem.W.Frag)(tl:TE):TI:=fun σ H R=>tl σ H fun x H1=>∃a,x = .ref a/\(∃xs,SqL K H1 a xs)/\R (Itl K a) H1
def Wu(K:PySem.W.Frag)(tl:TE):TI:=fun σ H R=>tl σ H fun x H1=>∃a,x = .ref a/\(∃xs,SqT K H1 a xs)/\R (Itt K a) H1
theorem EE{l:Expr}{tl:TE}(hl:PE X l tl):PI X tg l (Sv X.K tl):=by
 intro pins s σ H R I h
 refine thn (hl pins s σ H _ I h) fun v s1 ⟨x,H1,I1,r1,q1⟩=>?_
 obtain⟨a,e,⟨xs,hq⟩,q⟩:=q1
 subst e
 cases r1
 obtain⟨its,rv,p,hz⟩:=I1.list hq
 refine wpAny_pyIter_list p.isList ?_
 refine⟨s1.heap.objs.size,[s1.heap.objs.size],_,_,H1,rfl,I1.kept (t':=s1.toks) fun b o e=>Heap.get?_push_of_some _ e,Q7 a _,⟨_,Heap.get?_push_size _ rfl,rfl,rfl⟩,fun b hb=>?_,q⟩
 have e:b=s1.heap.objs.size:=by simpa using hb
 subst e
 exact I1.fpOk (Nat.le_refl _) (I1.hok.fresh (Nat.le_refl _))
theorem Vd{l:Expr}{tl:TE}(hl:PE X l tl):PI X tg l (Wu X.K tl):=by
 intro pins s σ H R I h
 refine thn (hl pins s σ H _ I h) fun v s1 ⟨x,H1,I1,r1,q1⟩=>?_
 obtain⟨a,e,⟨xs,hq⟩,q⟩:=q1
 subst e
 cases r1
 obtain⟨its,rv,p,hz⟩:=I1.tuple hq
 refine wpAny_pyIter_tuple (show s1.heap.IsTuple a its.toArray from p) ?_
 refine⟨s1.heap.objs.size,[s1.heap.objs.size],_,_,H1,rfl,I1.kept (t':=s1.toks) fun b o e=>Heap.get?_push_of_some _ e,PC a _,⟨_,Heap.get?_push_size _ rfl,rfl,rfl⟩,fun b hb=>?_,q⟩
 have e:b=s1.heap.objs.size:=by simpa using hb
 subst e
 exact I1.fpOk (Nat.le_refl _) (I1.hok.fresh (Nat.le_refl _))
theorem SD{pins:List (Addr×Obj)}{σ:St}{H:Hp}{s:Shared}{R:It->Hp->Prop}{E:Value->Shared->Prop}{lo hi:Int}{t u v:Tok}{tk:Nat}(I:Inv X pins σ H s)(h1:-(2 ^ 62)<=lo)(h2:lo<2 ^ 62)(h3:-(2 ^ 62)<=hi)(h4:hi<2 ^ 62)
  (q:R (Itr lo (hi-lo).toNat) H):wpAny (model X.prog X.w) X.A (pyIter (.ref s.heap.objs.size)) (PIE X pins σ tg R) E { s with heap:=s.heap.push { cls:=.type "range",data:=.fields #[.int lo t,.int hi u,.int 1 v] },toks:=tk }:=by
 refine wpAny_pyIter_range (IsRange.new ..) (small_one h1 h2 h3 h4) ?_
 have I1:Inv X pins σ H { s with heap:=s.heap.push { cls:=.type "range",data:=.fields #[.int lo t,.int hi u,.int 1 v] },toks:=tk }:=I.kept fun b o e=>Heap.get?_push_of_some _ e
 refine ⟨(s.heap.push { cls := .type "range", data := .fields #[.int lo t, .int hi u, .int 1 v] }).objs.size, [(s.heap.push { cls := .type "range", data := .fields #[.int lo t, .int hi u, .int 1 v] }).objs.size], _, _, H, rfl,
  I1.kept (t':=tk) fun b o e=>Heap.get?_push_of_some _ e,PD _ lo (hi-lo).toNat,?_,fun b hb=>?_,q⟩
 ·have e1:lo+((0:Nat):Int)*1=lo:=by simp
  have e2:(((hi-lo).toNat:Nat):Int)-((0:Nat):Int)=Builtin.Range.rangeSize lo hi 1:=by rw[rangeSize_one];split<;>omega
  show IsRangeIter _ _ (lo+((0:Nat):Int)*1) ((((hi-lo).toNat:Nat):Int)-((0:Nat):Int)) 1
  rw[e1,e2]
  exact Heap.get?_push_size _ rfl
 ·have e:b=(s.heap.push { cls:=.type "range",data:=.fields #[.int lo t,.int hi u,.int 1 v] }).objs.size:=by simpa using hb
  subst e
  exact I1.fpOk (Nat.le_refl _) (I1.hok.fresh (Nat.le_refl _))
def U6(ta:TA):TI:=fun σ H R=>ta σ H fun vs H1=>∃j:Int,vs=[.int j]/\-(2 ^ 62)<=j/\j<2 ^ 62/\R (Itr 0 j.toNat) H1
theorem Cs{a:Expr}{ta:TA}{p pos:Pos}(hg:Gl X "range")(hm:X.mg "range"=none)(ha:PA X [a] ta)(hs:starEach [a] X.env=[(false,eval a X.env)]:=by rfl):PI X tg (.Call (.Name "range" p) [a] [] pos) (U6 ta):=by
 intro pins s σ H R I h
 refine Call_ (Ku I hg hm boot_range (PyProof.Rows.callWith_type1 (thn (ha pos pins s σ H _ I h) fun us s1 ⟨vs,H1,I1,r1,q1⟩=>?_) hs rfl))
 obtain⟨j,e,q1,q2,q⟩:=q1
 subst e
 cases r1 with
 |cons r rr =>
  cases rr
  obtain⟨t,rfl⟩:=r
  exact call_range_1 (SD I1 (by omega) (by omega) q1 q2 (by simpa using q))
def Tm(wi:TI)(g:TG)(tb:TS):TS:=fun D σ H=>wi σ H fun J H1=>∃W:Nat->Nat->St->Hp->Prop,(∃m,W 0 m σ H1)/\∀i m σ H,W i m σ H ->
 (J.stop i H/\D.nx σ H)\/(J.go i H/\∃N:St->Hp->Prop,(∀σ' H',N σ' H'->∃m',m'<m/\W (i+1) m' σ' H')/\∀x H',J.yld i H x H'->g x σ H' fun σ2 H2=>tb { D with nx:=N,ct:=N,bk:=D.nx } σ2 H2)
def Kh(fp:List Addr)(h:Heap):List (Addr×Obj):=fp.filterMap fun b=>(h.get? b).map fun o=>(b,o)
theorem Fk{fp:List Addr}{h:Heap}{b:Addr}{o:Obj}(hb:b∈fp)(e:h.get? b=some o):(b,o)∈Kh fp h:=List.mem_filterMap.mpr ⟨b,hb,by rw[e];rfl⟩
theorem RK{fp:List Addr}{h:Heap}{p:Addr×Obj}(hp:p∈Kh fp h):p.1∈fp/\h.get? p.1=some p.2:=by
 obtain⟨b,hb,e⟩:=List.mem_filterMap.mp hp
 cases q:h.get? b with
 |none=>rw[q]at e;cases e
 |some o =>
  rw[q]at e
  have e':(b,o)=p:=Option.some.inj e
  subst e'
  exact⟨hb,q⟩
theorem Inv.pinned{pins:List (Addr×Obj)}{σ:St}{H:Hp}{s:Shared}{fp:List Addr}(I:Inv X pins σ H s)(hf:∀b∈fp,Ji X pins H b)(ho:∀b∈fp,∃o,s.heap.get? b=some o/\∀v,o.data≠.cell v):Inv X (pins++Kh fp s.heap) σ H s :=
 I.pins_of fun p hp=>(List.mem_append.mp hp).elim (fun z=>I.pin p (List.mem_append_right _ z)) fun z=>by
  obtain⟨hb,e⟩:=RK z
  obtain⟨f0,f1,f2,_⟩:=hf p.1 hb
  obtain⟨o,e',d⟩:=ho p.1 hb
  rw[e]at e';cases e'
  exact⟨e,f0,f1,f2,d⟩
theorem Inv.unpinned{pins pl:List (Addr×Obj)}{σ:St}{H:Hp}{s:Shared}(I:Inv X (pins++pl) σ H s):Inv X pins σ H s:=I.pins_of fun p hp=>I.pin p (List.mem_append_right _ (List.mem_append_left _ hp))
theorem EO{iter:Expr}{body:List Stmt}{wi:TI}{g:TG}{tb:TS}{pos:Pos}(hp:PassesOwn (model X.prog X.w) X.A X.env X.xe)(hc:X.calm=true)(hi:PI X tg iter wi)(hg:PG X tg g)(hb:PSs X body tb)
  (hs:∀x,foldedSetIterable iter X.env x=pure x:=by intro _;rfl):PS X (.For tg iter body [] pos) (Tm wi g tb):=by
 intro pins s σ H D I h
 refine wpAny_For (thn (hi pins s σ H _ I h) fun v s1 h1=>thn h1 fun itv s2 h2=>?_) hs
 obtain⟨it,fp,tn,J,H2,e,I2,T,st2,f2,W,⟨m0,w0⟩,turn⟩:=h2
 subst e
 -- what stays true of the iterator's objects through the loop
 have stat:∀{H':Hp},(∀b∈fp,H' b=none)->∀b∈fp,Ji X pins H' b:=fun hn b hb=>⟨hn b hb,(f2 b hb).2⟩
 refine codeAny_forLoop_any (fun n s'=>∃i σ' H',Inv X pins σ' H' s'/\tn i s'.heap/\(∀b∈fp,H' b=none)/\W i n σ' H') ?_ m0 ⟨0,σ,H2,I2,st2,fun b hb=>(f2 b hb).1,w0⟩
 rintro n s3 ⟨i,σ3,H3,I3,st3,fr3,w3⟩
 rcases turn i n σ3 H3 w3 with ⟨stop,qn⟩|⟨go,N,hN,step⟩
 ·refine wpAny_passesOwn hp (thn (T.done X rfl rfl rfl hc i pins s3 σ3 H3 X.xe I3 (stat fr3) st3 stop) fun r s4 ⟨hr,I4⟩=>?_)
  subst hr
  exact wpAny_execs_nil ⟨σ3,H3,I4,qn⟩
 ·refine wpAny_passesOwn hp (thn (T.item X rfl rfl rfl hc i pins s3 σ3 H3 X.xe I3 (stat fr3) st3 go) fun r s4 ⟨u,hr,h4⟩=>?_)
  subst hr
  refine wpAny_passesOwn hp (thn h4 fun _ s5 ⟨x,H5,I5,r5,y5,st5,fr5⟩=>?_)
  have I5':=I5.pinned (stat fr5) (T.obj _ _ st5)
  refine wpAny_passesOwn hp (thn (hg _ s5 σ3 H5 x u _ I5' r5 (step x H5 y5)) fun _ s6 ⟨σ6,H6,I6,q6⟩=>?_)
  refine wpAny_passesOwn hp (thn (hb _ s6 σ6 H6 _ I6 q6) fun f s7 q7=>?_)
  have again:∀{σ7:St} {H7:Hp},Inv X (pins++Kh fp s5.heap) σ7 H7 s7->N σ7 H7->∃m,m<n/\∃i σ' H',Inv X pins σ' H' s7/\tn i s7.heap/\(∀b∈fp,H' b=none)/\W i m σ' H':=fun {σ7 H7} I7 n7=>by
   obtain⟨m',hm,w7⟩:=hN σ7 H7 n7
   refine⟨m',hm,i+1,σ7,H7,I7.unpinned,T.keep _ _ _ st5 fun b hb o e=>(I7.pin (b,o) (List.mem_append_right _ (List.mem_append_right _ (Fk hb e)))).1,fun b hb=>?_,w7⟩
   obtain⟨o,e,d⟩:=T.obj _ _ st5 b hb
   exact(I7.pin (b,o) (List.mem_append_right _ (List.mem_append_right _ (Fk hb e)))).2.1
  cases f with
  |next=>obtain⟨σ7,H7,I7,n7⟩:=q7;exact again I7 n7
  |cont=>obtain⟨σ7,H7,I7,n7⟩:=q7;exact again I7 n7
  |brk=>obtain⟨σ7,H7,I7,q7⟩:=q7;exact⟨σ7,H7,I7.unpinned,q7⟩
  |ret v=>obtain⟨x7,σ7,H7,I7,r7,q7⟩:=q7;exact⟨x7,σ7,H7,I7.unpinned,r7,q7⟩
end
end L2
namespace L2
open PySem PySem.Spec PyProof.Rows
abbrev R2:=V->V->Hp->VK->Prop
def OpR(X:Cx)(f:Value->Value->Sem Value)(r:R2):Prop :=
 ∀(pins:List (Addr×Obj)) (s:Shared) (σ:St) (H:Hp) (x y:V) (v u:Value) (Q:VK),Inv X pins σ H s->RelV x v->RelV y u->r x y H Q ->
  wpAny (model X.prog X.w) X.A (f v u) (EP X pins σ Q) X.xe s
def UnR(X:Cx)(f:Value->Sem Value)(r:V->Hp->VK->Prop):Prop :=
 ∀(pins:List (Addr×Obj)) (s:Shared) (σ:St) (H:Hp) (x:V) (v:Value) (Q:VK),Inv X pins σ H s->RelV x v->r x H Q ->
  wpAny (model X.prog X.w) X.A (f v) (EP X pins σ Q) X.xe s
def LV(X:Cx)(f:Value)(r:List V->Hp->VK->Prop):Prop :=
 ∀(pins:List (Addr×Obj)) (s:Shared) (σ:St) (H:Hp) (xs:List V) (us:List Value) (Q:VK),Inv X pins σ H s->Vals xs us->r xs H Q ->
  wpAny (model X.prog X.w) X.A (call f us) (EP X pins σ Q) X.xe s
def tOp(r:R2)(ta tb:TE):TE:=fun σ H Q=>ta σ H fun x H1=>tb σ H1 fun y H2=>r x y H2 Q
def tUn(r:V->Hp->VK->Prop)(ta:TE):TE:=fun σ H Q=>ta σ H fun x H1=>r x H1 Q
def rI(C:Int->Int->Prop)(g:Int->Int->V):R2:=fun x y H Q=>∃i j,x = .int i/\y = .int j/\C i j/\Q (g i j) H
def rI0(g:Int->Int->V):R2:=fun x y H Q=>∃i j,x = .int i/\y = .int j/\Q (g i j) H
def rU(g:Int->V):V->Hp->VK->Prop:=fun x H Q=>∃i,x = .int i/\Q (g i) H
section
variable {X:Cx} {a b c:Expr} {ta tb tc:TE} {pos:Pos}
theorem WB(ha:PE X a ta)(hb:PE X b tb){pins:List (Addr×Obj)}{s:Shared}{σ:St}{H:Hp}{R:V->V->Hp->Prop}(I:Inv X pins σ H s)
  (h:ta σ H fun x H1=>tb σ H1 fun y H2=>R x y H2) {Q:Value->Shared->Prop} {f:Value->Value->Sem Value}
  (hf:∀v u s2 x y H2,Inv X pins σ H2 s2->RelV x v->RelV y u->R x y H2->wpAny (model X.prog X.w) X.A (f v u) Q X.xe s2) :
  wpAny (model X.prog X.w) X.A (eval a X.env) (fun v s₁=>wpAny (model X.prog X.w) X.A (eval b X.env) (fun u s₂=>wpAny (model X.prog X.w) X.A (f v u) Q X.xe s₂) X.xe s₁) X.xe s:=by
 refine thn (ha pins s σ H _ I h) fun v s1 ⟨x,H1,I1,r1,q1⟩=>?_
 refine thn (hb pins s1 σ H1 _ I1 q1) fun u s2 ⟨y,H2,I2,r2,q2⟩=>?_
 exact hf v u s2 x y H2 I2 r1 r2 q2
theorem CG{op:Operator}{r:R2}(ho:OpR X (binaryOp op) r)(ha:PE X a ta)(hb:PE X b tb):PE X (.BinOp a op b pos) (tOp r ta tb):=by
 intro pins s σ H Q I h
 exact wpAny_BinOp (WB ha hb I h fun v u s2 x y H2 I2 rx ry q=>ho pins s2 σ H2 x y v u Q I2 rx ry q)
theorem Jn{op:UnaryOp}{r:V->Hp->VK->Prop}(ho:UnR X (unaryOp op) r)(ha:PE X a ta):PE X (.UnaryOp op a pos) (tUn r ta):=by
 intro pins s σ H Q I h
 exact UnaryOp_ (thn (ha pins s σ H _ I h) fun v s1 ⟨x,H1,I1,r1,q1⟩=>ho pins s1 σ H1 x v Q I1 r1 q1)
theorem opI{f:Value->Value->Sem Value}{C:Int->Int->Prop}{g:Int->Int->Int}
  (rule:∀(i j:Int) (t u:Tok) (s:Shared) (Q:Value->Shared->Prop) (E:Value->Shared->Prop),C i j->Q (.int (g i j) s.toks) { s with toks:=s.toks+1 }->wpAny (model X.prog X.w) X.A (f (.int i t) (.int j u)) Q E s) :
  OpR X f (rI C fun i j=>.int (g i j)):=by
 intro pins s σ H x y v u Q I rx ry h
 obtain⟨i,j,rfl,rfl,hc,q⟩:=h
 obtain⟨t,rfl⟩:=rx
 obtain⟨t',rfl⟩:=ry
 exact rule i j t t' s _ _ hc ⟨.int (g i j),H,I.tok _,⟨_,rfl⟩,q⟩
theorem XG{f:Value->Value->Sem Value}{g:Int->Int->Int}
  (rule:∀(i j:Int) (t u:Tok) (s:Shared) (Q:Value->Shared->Prop) (E:Value->Shared->Prop),Q (.int (g i j) s.toks) { s with toks:=s.toks+1 }->wpAny (model X.prog X.w) X.A (f (.int i t) (.int j u)) Q E s) :
  OpR X f (rI0 fun i j=>.int (g i j)):=by
 intro pins s σ H x y v u Q I rx ry h
 obtain⟨i,j,rfl,rfl,q⟩:=h
 obtain⟨t,rfl⟩:=rx
 obtain⟨t',rfl⟩:=ry
 exact rule i j t t' s _ _ ⟨.int (g i j),H,I.tok _,⟨_,rfl⟩,q⟩
theorem Vi{f:Value->Value->Sem Value}{g:Int->Int->Bool}
  (rule:∀(i j:Int) (t u:Tok) (s:Shared) (Q:Value->Shared->Prop) (E:Value->Shared->Prop),Q (.bool (g i j)) s->wpAny (model X.prog X.w) X.A (f (.int i t) (.int j u)) Q E s) :
  OpR X f (rI0 fun i j=>.bl (g i j)):=by
 intro pins s σ H x y v u Q I rx ry h
 obtain⟨i,j,rfl,rfl,q⟩:=h
 obtain⟨t,rfl⟩:=rx
 obtain⟨t',rfl⟩:=ry
 exact rule i j t t' s _ _ ⟨.bl (g i j),H,I,rfl,q⟩
def Tf(i j:Int):Prop:=0<=j/\j<=1000000/\i.natAbs<2 ^ 64
def CMul(i j:Int):Prop:=(-(2 ^ 64)<i/\i<2 ^ 64)\/(-(2 ^ 64)<j/\j<2 ^ 64)
theorem CMul.ok{i j:Int}(h:CMul i j):IntMulOk i j:=by
 rcases h with ⟨h1,h2⟩|⟨h1,h2⟩
 ·exact .of_left (intBits_le_64 h1 h2)
 ·exact .of_right (intBits_le_64 h1 h2)
theorem D9:OpR X (binaryOp .Add) (rI0 fun i j=>.int (i+j)):=XG fun _ _ _ _ _ _ _ q=>add_int q
theorem Hi:OpR X (binaryOp .Mod) (rI (fun _ j=>0<j) fun i j=>.int (i % j)):=opI fun i j _ _ _ _ _ hc q=>by
 have h1:(0:Int)<j:=hc
 exact mod_int' (by omega) (by rw[Int.fmod_eq_emod_of_nonneg i (by omega)];exact q)
theorem SQ:OpR X (binaryOp .Pow) (rI Tf fun i j=>.int (i ^ j.toNat)):=opI fun _ _ _ _ _ _ _ hc q=>pow_int_small hc.1 hc.2.1 hc.2.2 q
theorem unI{f:Value->Sem Value}{g:Int->Int}
  (rule:∀(i:Int) (t:Tok) (s:Shared) (Q:Value->Shared->Prop) (E:Value->Shared->Prop),Q (.int (g i) s.toks) { s with toks:=s.toks+1 }->wpAny (model X.prog X.w) X.A (f (.int i t)) Q E s) :
  UnR X f (rU fun i=>.int (g i)):=by
 intro pins s σ H x v Q I rx h
 obtain⟨i,rfl,q⟩:=h
 obtain⟨t,rfl⟩:=rx
 exact rule i t s _ _ ⟨.int (g i),H,I.tok _,⟨_,rfl⟩,q⟩
theorem GG:UnR X (unaryOp .USub) (rU fun i=>.int (-i)):=unI fun _ _ _ _ _ q=>neg_int q
end
section
variable {X:Cx} {a b c:Expr} {ta tb tc:TE} {pos:Pos}
theorem Wi:OpR X (compareOp .Lt) (rI0 fun i j=>.bl (decide (i<j))):=Vi fun _ _ _ _ _ _ _ q=>lt_int q
theorem Wj:OpR X (compareOp .Gt) (rI0 fun i j=>.bl (decide (j<i))):=Vi fun _ _ _ _ _ _ _ q=>gt_int q
theorem Wk:OpR X (compareOp .GtE) (rI0 fun i j=>.bl (decide (j<=i))):=Vi fun _ _ _ _ _ _ _ q=>ge_int q
theorem CZ(b:Expr){op:CmpOp}(h:op≠.In:=by decide)(h2:op≠.NotIn:=by decide):behindInMarks op b=false:=by
 have e1:(op==CmpOp.In)=false:=by cases op<;>first|rfl|exact absurd rfl h
 have e2:(op==CmpOp.NotIn)=false:=by cases op<;>first|rfl|exact absurd rfl h2
 cases b<;>simp[behindInMarks,e1,e2]
theorem Tx{op:CmpOp}{r:R2}(ho:OpR X (compareOp op) r)(ha:PE X a ta)(hb:PE X b tb)(hm:behindInMarks op b=false):PE X (.Compare a [op] [b] pos) (tOp r ta tb):=by
 intro pins s σ H Q I h
 exact wpAny_Compare1 (WB ha hb I h fun v u s2 x y H2 I2 rx ry q=>ho pins s2 σ H2 x y v u Q I2 rx ry q) hm
def Uw(t:TE):TT:=fun σ H Q=>t σ H fun x H'=>∃k,x = .bl k/\Q k H'
theorem Bv{op:CmpOp}{r:R2}(ho:OpR X (compareOp op) r)(ha:PE X a ta)(hb:PE X b tb)(hm:behindInMarks op b=false):PT X (.Compare a [op] [b] pos) (Uw (tOp r ta tb)):=by
 intro pins s σ H Q I h
 refine wpAny_isTrue_Compare1 (thn (ha pins s σ H _ I h) fun v s1 ⟨x, H1, I1, r1, q1⟩ => thn (hb pins s1 σ H1 _ I1 q1) fun u s2 ⟨y, H2, I2, r2, q2⟩ =>
  thn (ho pins s2 σ H2 x y v u _ I2 r1 r2 q2) fun c s3 ⟨z,H3,I3,r3,k,e,q3⟩=>?_) hm
 subst e
 cases r3
 exact wpAny_truthy_bool ⟨H3,I3,q3⟩
theorem NY:(sizeLine:Nat)<2 ^ 63:=by rw[sizeLine_eq];decide
theorem N3{x:V}{us:List Value}(r:Vals [x] us):∃u,us=[u]/\RelV x u:=by
 cases r with
 |cons r1 r2=>cases r2;exact⟨_,rfl,r1⟩
theorem WQ{x y:V}{us:List Value}(r:Vals [x,y] us):∃u w',us=[u,w']/\RelV x u/\RelV y w':=by
 cases r with
 |cons r1 r2 =>
  cases r2 with
  |cons r3 r4=>cases r4;exact⟨_,_,rfl,r1,r3⟩
def WN(K:PySem.W.Frag)(x:V)(H:Hp)(n:Nat):Prop :=
 match x with
 |.str y=>y.length<=sizeLine/\n=y.length
 |.byt y=>y.size<=sizeLine/\n=y.size
 |.ref p=>(∃xs,SqL K H p xs/\n=xs.length)\/∃xs,SqT K H p xs/\n=xs.length
 |_=>False
theorem B0:LV X (.builtin "len") (fun xs H Q=>∃x n,xs=[x]/\WN X.K x H n/\Q (.int n) H):=by
 intro pins s σ H xs us Q I r h
 obtain⟨x,n,rfl,e,q⟩:=h
 obtain⟨u,rfl,rx⟩:=N3 r
 have hl:=NY
 have hs:sizeLine=16777216:=sizeLine_eq
 cases x with
 |str y =>
  obtain⟨t,rfl⟩:=rx
  obtain⟨hy,e'⟩:y.length<=sizeLine/\n=y.length:=e
  subst e'
  exact len_str (by omega) ⟨.int _,H,I.tok _,⟨_,rfl⟩,q⟩
 |byt y =>
  obtain⟨t,rfl⟩:=rx
  obtain⟨hy,e'⟩:y.size<=sizeLine/\n=y.size:=e
  subst e'
  exact PySem.W.len_bytes (by omega) ⟨.int _,H,I.tok _,⟨_,rfl⟩,q⟩
 |ref p =>
  cases rx
  have e':(∃xs,SqL X.K H p xs/\n=xs.length)\/∃xs,SqT X.K H p xs/\n=xs.length:=e
  rcases e' with ⟨xs,hx,e'⟩|⟨xs,hx,e'⟩
  ·subst e'
   obtain⟨its,r',pl,hz⟩:=I.list hx
   have hlen:=r'.length
   exact Calls.call_len_list pl.isList (by simp only[List.size_toArray];omega) ⟨.int xs.length,H,I.tok _,⟨_,by simp only[List.size_toArray];rw[hlen]⟩,q⟩
  ·subst e'
   obtain⟨its,r',pl,hz⟩:=I.tuple hx
   have hlen:=r'.length
   exact len_tuple pl (by simp only[List.size_toArray];omega) ⟨.int xs.length,H,I.tok _,⟨_,by simp only[List.size_toArray];rw[hlen]⟩,q⟩
 |_=>exact(show False from e).elim
end
end L2
namespace L2
open PySem PySem.Spec PyProof.Rows
structure ObjM(h:Heap)(x dx C:Addr)(mA:Str->Option Value):Prop where
 obj:h.get? x=some (PySem.W.instObj C dx)
 ns:h.Ns1 dx mA
 ne:dx≠x
theorem RQ{h:Heap}{dx:Addr}{mA:Str->Option Value}(n:h.Ns1 dx mA):∃od,h.get? dx=some od/\∀name,PySem.W.lookIn name od=some (mA name):=by
 obtain⟨o,es,ep,ho,hd,hk,_,hm⟩:=n
 refine⟨o,ho,fun name=>?_⟩
 have e:=hm name
 unfold nsFind findBy at e
 rw[<- Array.find?_toList]at e
 unfold PySem.W.lookIn
 rw[hd]
 dsimp only
 split
 ·rename_i y q
  rw[q]at e
  exact congrArg some e
 ·rename_i q
  rw[q]at e
  have a:es.toList.any (·.refKey)=false:=by
   rw[List.any_eq_false]
   intro y hy
   obtain⟨z,t,hkey⟩:=hk y (Array.mem_toList_iff.mp hy)
   simp[DictEntry.refKey,hkey]
  have a':¬es.toList.any (·.refKey)=true:=by rw[a];exact Bool.false_ne_true
  rw[if_neg a']
  exact congrArg some e
theorem ObjM.look{h:Heap}{x dx C:Addr}{mA:Str->Option Value}(I:ObjM h x dx C mA):∃od,PySem.W.InstAt h x (PySem.W.instObj C dx) C (some od)/\∀name,PySem.W.lookIn name od=some (mA name) :=
 let ⟨od,ho,hl⟩:=RQ I.ns
 ⟨od,⟨I.obj,rfl,rfl,ho⟩,hl⟩
section
variable {prog:Program} {w:World} {A:Around} {E:Value->Shared->Prop} {s:Shared} {K:PySem.W.Frag} {x dx C f:Addr} {mA:Str->Option Value} {name:Str} {v:Value}
end
section
variable {P:Program} {w:World} {H H':Hp} {h h':Heap} {a C dx:Addr} {fs fs':List (Str×V)}
theorem UN(hok:HOk P w H h)(e:H a=some (.ins C dx fs)):∃mA,ObjM h a dx C mA/\(∀f,WJ (fs.lookup f) (mA f))/\PySem.Within mA (fs.map (·.1))/\fs.length<=1000/\H dx=some (.own a):=by
 obtain⟨d,z,ne,ob,mA,n,r,q⟩:=(show ObjOk P w H h a (.ins C dx fs) from hok a _ e)
 exact⟨mA,⟨ob,n,ne⟩,r,q,z,d⟩
end
structure Cls(K:PySem.W.Frag)(C:Addr):Prop where
 pg:PySem.W.plainGet K C Str.empty=true
 hd:PySem.W.hasDictIn K C=true
 po:PySem.W.plainOver K C=true
 sa:PySem.W.findIn K (.ref C) "__setattr__"=some (some (.builtin "object.__setattr__"))
theorem Cls.get{K:PySem.W.Frag}{C:Addr}(c:Cls K C)(f:Str):PySem.W.plainGet K C f=true:=c.pg
section
variable {X:Cx} {pins:List (Addr×Obj)} {σ:St} {H:Hp} {s:Shared} {a C dx:Addr} {fs:List (Str×V)} {f:Str} {v:V} {A:Around} {E:Value->Shared->Prop}
end
section
variable {X:Cx} {o e value:Expr} {f:Str} {pos pos' tpos:Pos} {ta tv:TE}
end
section
variable {X:Cx} {pins:List (Addr×Obj)} {σ:St} {H:Hp} {s:Shared} {A:Around} {E:Value->Shared->Prop} {Q:Value->Shared->Prop} {c:Value} {b:Bool}
inductive KD (K:PySem.W.Frag) (H:Hp):V->Value->Prop where
 |non:KD K H .non (.type "NoneType")
 |bl (x:Bool):KD K H (.bl x) (.type "bool")
 |int (i:Int):KD K H (.int i) (.type "int")
 |str (x:Str):KD K H (.str x) (.type "str")
 |flt (x:UInt64):KD K H (.flt x) (.type "float")
 |lst {a:Addr} {xs:List V} (e:H a=some (.lst xs)):KD K H (.ref a) (.type "list")
 |frz {a:Addr} {o:Obj} {xs:List V} (e:H a=some (.frz o (.lst xs))):KD K H (.ref a) (.type "list")
 |tup {a:Addr} {xs:List V} (e:H a=some (.tup xs)):KD K H (.ref a) (.type "tuple")
 |dK {a:Addr} {kvs:List (Key×V)} (e:H a=some (.dK kvs)):KD K H (.ref a) (.type "dict")
 |dT {a:Addr} {kvs:List (List Key×V)} (e:H a=some (.dT kvs)):KD K H (.ref a) (.type "dict")
 |ins {a C dx:Addr} {fs:List (Str×V)} (e:H a=some (.ins C dx fs)) (cl:Cls K C) (ha:PySem.W.findIn K (.ref C) "__class__"=some (some (.builtin "object.__class__")))
   (hn:PySem.W.specialIn K (.builtin "object.__class__") "__get__"=some (some (.builtin "getset_descriptor.__get__"))) (htk:PySem.W.takesIn K (.builtin "object.__class__")=some true)
   (hm:PySem.W.mroIn K C (.type "object")=some true):KD K H (.ref a) (.ref C)
theorem FU{x:V}{u t:Value}(I:Inv X pins σ H s)(rx:RelV x u)(ty:KD X.K H x t)(e:PySem.W.kitOne X.K t c=some b)(h:∀tk,Q (.bool b) { s with toks:=tk }) :
  wpAny (model X.prog X.w) A (call (.builtin "isinstance") [u,c]) Q E s:=by
 cases ty with
 |non=>cases (show u=Value.none from rx);exact PySem.W.kia_one PySem.W.kitx_none I.kIn True.intro e (fun z=>nomatch z) h
 |bl y=>cases (show u=Value.bool y from rx);exact PySem.W.kia_one PySem.W.kitx_bool I.kIn True.intro e (fun z=>nomatch z) h
 |int i=>obtain⟨t,q⟩:=(show ∃t,u=Value.int i t from rx);cases q;exact PySem.W.kia_one PySem.W.kitx_int I.kIn True.intro e (fun z=>nomatch z) h
 |str y=>obtain⟨t,q⟩:=(show ∃t,u=Value.str y t from rx);cases q;exact PySem.W.kia_one PySem.W.kitx_str I.kIn True.intro e (fun z=>nomatch z) h
 |flt y=>obtain⟨t,q⟩:=(show ∃t,u=Value.float y t from rx);cases q;exact PySem.W.kia_one PySem.W.kitx_float I.kIn True.intro e (fun z=>nomatch z) h
 |@lst a xs ea =>
  cases (show u=Value.ref a from rx)
  obtain⟨_,_,n,_,h1⟩:=(show ObjOk X.prog X.w H s.heap a (.lst xs) from I.hok a _ ea)
  exact PySem.W.kia_one PySem.W.kitx_list I.kIn ⟨_,h1,rfl⟩ e (fun z=>nomatch z) h
 |@frz a ob xs ea =>
  cases (show u=Value.ref a from rx)
  obtain⟨_,_,_,n,_,h1⟩:=(show ObjOk X.prog X.w H s.heap a (.frz ob (.lst xs)) from I.hok a _ ea)
  exact PySem.W.kia_one PySem.W.kitx_list I.kIn ⟨_,h1,rfl⟩ e (fun z=>nomatch z) h
 |@tup a xs ea =>
  cases (show u=Value.ref a from rx)
  obtain⟨_,_,_,p⟩:=(show ObjOk X.prog X.w H s.heap a (.tup xs) from I.hok a _ ea)
  obtain⟨o,h1,h2,_⟩:=p
  exact PySem.W.kia_one PySem.W.kitx_tuple I.kIn ⟨o,h1,h2⟩ e (fun z=>nomatch z) h
 |@dK a kvs ea =>
  cases (show u=Value.ref a from rx)
  obtain⟨_,_,vs,_,p⟩:=(show ObjOk X.prog X.w H s.heap a (.dK kvs) from I.hok a _ ea)
  obtain⟨o,es,ep,h1,h2,_⟩:=p
  exact PySem.W.kia_one PySem.W.kitx_dict I.kIn ⟨o,h1,h2.1⟩ e (fun z=>nomatch z) h
 |@dT a kvs ea =>
  cases (show u=Value.ref a from rx)
  obtain⟨_,_,xs,_,o,es,ep,h1,h2,_⟩:=(show ObjOk X.prog X.w H s.heap a (.dT kvs) from I.hok a _ ea)
  exact PySem.W.kia_one PySem.W.kitx_dict I.kIn ⟨o,h1,h2.1⟩ e (fun z=>nomatch z) h
 |@ins a C dx fs ea cl ha hn htk hm =>
  cases (show u=Value.ref a from rx)
  obtain⟨mA,O,_⟩:=UN I.hok ea
  obtain⟨od,J,_⟩:=O.look
  exact PySem.W.kia_one (PySem.W.kitx_own (cl.get _) cl.hd ha hn htk hm) I.kIn J e (fun z=>nomatch z) h
end
end L2
namespace L2
open PySem PySem.Spec PyProof.Rows
structure Room(k:Nat)(A:Around):Prop where
 hd:A.handled=none
 dp:A.depth+3*k+5<recursionLimit
 un:A.units+16*k+200<cLine
theorem Room.mono{j k:Nat}{A:Around}(r:Room k A)(h:j<=k):Room j A:=⟨r.hd,by have:=r.dp;omega,by have:=r.un;omega⟩
theorem Room.deeper{k:Nat}{A:Around}(r:Room (k+1) A)(env:Env):Room k (A.deeper env) :=
 ⟨r.hd,by have:=r.dp;show A.depth+1+3*k+5<_;omega,by have:=r.un;show A.units+3+16*k+200<_;omega⟩
theorem Room.depth{k:Nat}{A:Around}(r:Room k A):A.depth<recursionLimit:=by have:=r.dp;omega
theorem Room.units{k:Nat}{A:Around}(r:Room k A):A.units+64<cLine:=by have:=r.un;omega
def Hz:TA:=fun _ H Q=>Q [] H
def Dd(ta:TE)(tr:TA):TA:=fun σ H Q=>ta σ H fun x H1=>tr σ H1 fun xs H2=>Q (x::xs) H2
section
variable {X:Cx} {e:Expr} {es:List Expr} {te:TE} {t:TA} {pos:Pos}
theorem AI:PA X [] Hz:=fun _ _ _ _ H Q I h=>Calls.spliced_nil ⟨[],H,I,.nil,h⟩
theorem AC(ha:PE X e te)(hr:PA X es t)(hs:starEach (e::es) X.env=(false,eval e X.env)::starEach es X.env:=by rfl):PA X (e::es) (Dd te t):=by
 intro pos pins s σ H Q I h
 rw[hs]
 show wpAny _ _ (spliced ((false,eval e X.env)::backTo pos (starEach es X.env))) _ _ s
 refine Calls.spliced_cons (thn (ha pins s σ H _ I h) fun u s1 ⟨x,H1,I1,r1,q1⟩=>?_)
 exact thn (hr pos pins s1 σ H1 _ I1 q1) fun us s2 ⟨xs,H2,I2,r2,q2⟩=>⟨x::xs,H2,I2,.cons r1 r2,q2⟩
def Tj(t:TA):TE:=fun σ H Q=>t σ H fun xs H1=>xs.length<=sizeLine/\∀p,H1 p=none->Q (.ref p) (upd H1 p (.tup xs))
def Tl(t:TA):TE:=fun σ H Q=>t σ H fun xs H1=>xs.length<=sizeLine/\∀p,H1 p=none->Q (.ref p) (upd H1 p (.lst xs))
theorem Bh{x1}(h:PA X es t):PE X (.Tuple es x1 pos) (Tj t):=by
 intro pins s σ H Q I hq
 refine wpAny_Tuple_spliced (thn (h pos pins s σ H _ I hq) fun us s1 ⟨xs,H1,I1,r,z,q⟩=>⟨by rw[<- r.length];exact z,?_⟩)
 have hf:H1 s1.heap.objs.size=none:=I1.hok.fresh (Nat.le_refl _)
 refine⟨.ref s1.heap.objs.size,upd H1 s1.heap.objs.size (.tup xs),I1.laid (t':=s1.toks) (fun b u e=>Heap.get?_push_of_some _ e) (Nat.le_refl _) ?_,rfl,q _ hf⟩
 exact⟨z,us,r,⟨_,Heap.get?_push_size _ rfl,rfl,_,rfl⟩⟩
theorem DN(h:PA X es t):PE X (.List es pos) (Tl t):=by
 intro pins s σ H Q I hq
 refine wpAny_List_spliced (thn (h pos pins s σ H _ I hq) fun us s1 ⟨xs,H1,I1,r,z,q⟩=>⟨by rw[<- r.length];exact z,?_⟩)
 have hf:H1 s1.heap.objs.size=none:=I1.hok.fresh (Nat.le_refl _)
 refine⟨.ref s1.heap.objs.size,upd H1 s1.heap.objs.size (.lst xs),I1.laid (t':=s1.toks) (fun b u e=>Heap.get?_push_of_some _ e) (Nat.le_refl _) ?_,rfl,q _ hf⟩
 exact⟨z,us,0,r,Heap.get?_push_size _ rfl⟩
end
abbrev Sp:=List V->Hp->VK->XK->Prop
abbrev CXT:=List Env->Hp->Shared->XK->Value->Shared->Prop
structure Ur(P:Program)(w:World)(K:PySem.W.Frag)(mg:Str->Option Value)(base:Heap)(A:Around)(outer:List Env)(s:Shared)(H:Hp):Prop where
 frames:A.frames=some outer
 mod:Mod K mg base
 bs:∀b o,base.get? b=some o->s.heap.get? b=some o/\H b=none
 bsz:base.objs.size<=s.heap.objs.size
 funs:s.heap.FunFrames base outer
 frf:∀b∈frs outer,H b=none
 hok:HOk P w H s.heap
 bare:AllBare s.gens
def CE(outer:List Env)(P:Program)(w:World)(H:Hp)(s:Shared)(Q:VK)(u:Value)(s':Shared):Prop :=
 ∃v H',s'.os=s.os/\AllBare s'.gens/\Un (frs outer) [] H H' s.heap s'.heap/\HOk P w H' s'.heap/\RelV v u/\Q v H'
def CR(CX:CXT)(outer:List Env)(P:Program)(w:World)(H:Hp)(s:Shared)(Q:VK)(E:XK)(r:Result)(s':Shared):Prop :=
 match r with
 |.ok (.ret u)=>CE outer P w H s Q u s'
 |.ok _=>False
 |.error e=>CX outer H s E e s'
structure FnOk(P:Program)(w:World)(K:PySem.W.Frag)(mg:Str->Option Value)(base:Heap)(CX:CXT)(k:Nat)(f:Addr)(fd:FuncData)(ps:List Str)(sp:Sp):Prop where
 len:∀vs H Q E,sp vs H Q E->vs.length=ps.length
 run:∀(A:Around) (outer:List Env) (s:Shared) (H:Hp) (args:Args) (us:List Value) (vs:List V) (Q:VK) (E:XK),Room k A->Ur P w K mg base A outer s H->BindsTo s fd args (ps.zip us)->Vals vs us->sp vs H Q E ->
  codeAny (model P w) A (.call (.ref f) args) (CR CX outer P w H s Q E) s
theorem FnOk.mono{P:Program}{w:World}{K:PySem.W.Frag}{mg:Str->Option Value}{base:Heap}{CX:CXT}{j k:Nat}{f:Addr}{fd:FuncData}{ps:List Str}{sp:Sp}(F:FnOk P w K mg base CX j f fd ps sp)(h:j<=k) :
  FnOk P w K mg base CX k f fd ps sp:=⟨F.len,fun A outer s H args us vs Q E hr=>F.run A outer s H args us vs Q E (hr.mono h)⟩
section
variable {X:Cx} {pins:List (Addr×Obj)} {σ:St} {H:Hp} {s s':Shared}
theorem Inv.env0(I:Inv X pins σ H s):Ur X.prog X.w X.K X.mg X.base X.A X.stack s H :=
 ⟨I.ok.frames,I.ok.mod,I.bs,Nat.le_trans I.ok.bsz I.sz,I.stack,I.stkFree,I.hok,I.bare⟩
theorem Inv.after{Q:VK}{u:Value}(I:Inv X pins σ H s)(h:CE X.stack X.prog X.w H s Q u s'):EP X pins σ Q u s':=by
 obtain⟨v,H',os,bare,un,hok,r,q⟩:=h
 obtain⟨hh,g,d,t,os'⟩:=s'
 obtain rfl:os'=s.os:=os
 exact⟨v,H',I.call (h':=hh) (g':=g) (d':=d) (t':=t) (ch:=[]) un hok bare (fun b z=>absurd z (by simp)),r,q⟩
end
def MA(sp:Sp)(dvs:List V)(E:XK)(t:TA):TE:=fun σ H Q=>t σ H fun vs H1=>sp (vs++dvs) H1 Q E
def Binds(K:PySem.W.Frag)(fd:FuncData)(ps:List Str)(ds:List Value):Prop :=
 ∀(s:Shared) (us:List Value),K.In s.heap->(us++ds).length=ps.length->BindsTo s fd ⟨us,[]⟩ (ps.zip (us++ds))
theorem Binds.all{K:PySem.W.Frag}{fd:FuncData}{ps:List Str}(h:∀us:List Value,us.length=ps.length->bindArgs fd ⟨us,[]⟩=pure (ps.zip us)):Binds K fd ps []:=fun s us _ hl=>by
 rw[List.append_nil]at hl ⊢
 exact .of_eq (h us hl)
def P6(CX:CXT)(X:Cx)(E:XK):Prop:=∀(pins:List (Addr×Obj)) (σ:St) (H:Hp) (s:Shared) (e:Value) (s':Shared),Inv X pins σ H s->CX X.stack H s E e s'->X.xe e s'
section
variable {X:Cx} {CX:CXT} {k:Nat} {f C:Addr} {fd:FuncData} {ps:List Str} {sp:Sp} {dvs:List V} {ds:List Value} {E:XK} {x m:Str} {p pos apos:Pos} {e o:Expr} {es:List Expr} {ta:TE} {t:TA}
theorem VX{pins:List (Addr×Obj)}{σ:St}{H:Hp}{s:Shared}{Q:VK}{us:List Value}{vs:List V}(F:FnOk X.prog X.w X.K X.mg X.base CX k f fd ps sp)(hr:Room k X.A)(hb:Binds X.K fd ps ds)(hd:Vals dvs ds)(hx:P6 CX X E)
  (I:Inv X pins σ H s) (r:Vals vs us) (h:sp (vs++dvs) H Q E):wpAny (model X.prog X.w) X.A (call (.ref f) us) (EP X pins σ Q) X.xe s:=by
 have r2:Vals (vs++dvs) (us++ds):=r.append hd
 have hl:(us++ds).length=ps.length:=by rw[<- r2.length];exact F.len _ _ _ _ h
 refine wpAny_call (codeAny_mono (F.run X.A X.stack s H ⟨us,[]⟩ (us++ds) (vs++dvs) Q E hr I.env0 (hb s us I.kIn hl) r2 h) fun r s' hq=>?_)
 cases r with
 |error e=>exact hx pins σ H s e s' I hq
 |ok fl =>
  cases fl with
  |ret u=>exact I.after hq
  |next=>exact False.elim hq
  |brk=>exact False.elim hq
  |cont=>exact False.elim hq
theorem Ty(F:FnOk X.prog X.w X.K X.mg X.base CX k f fd ps sp)(hr:Room k X.A)(hg:Gl X x)(hm:X.mg x=some (.ref f))(hk:PySem.W.keepIn X.K (.ref f)=true)(hb:Binds X.K fd ps ds)(hd:Vals dvs ds)(hx:P6 CX X E)
  (ha:PA X (e::es) t) (hdb:(x==("__debug__":Str))=false:=by decide) (he:starEach (e::es) X.env=(false,eval e X.env)::starEach es X.env:=by rfl) (hpl:(backTo pos (starEach es X.env)).any (·.1)=false:=by rfl) :
  PE X (.Call (.Name x p) (e::es) [] pos) (MA sp dvs E t):=by
 intro pins s σ H Q I h
 refine wpAny_Call_Name_kw (UG I hg hm ?_ hdb)
 refine PySem.W.callWith_K (h₀:=X.base) I.ok.mod.kin hk (thn (ha pos pins s σ H _ I h) fun us s1 ⟨vs,H1,I1,r,q⟩=>⟨I1.kIn,?_⟩) he hpl
 exact VX F hr hb hd hx I1 r q
end
section
variable {X:Cx} {CX:CXT} {k:Nat} {f C:Addr} {fd:FuncData} {ps ks:List Str} {sp:Sp} {E:XK} {x m:Str} {p pos apos kpos:Pos} {e o:Expr} {es:List Expr} {kws:List Keyword} {te ta:TE} {t tk:TA} {nm:Option Str}
variable {g:List Value->List Value->List Value} {gV:List V->List V->List V}
end
structure Bb(N P:List Str)(sc:Scope):Prop where
 kind:sc.kind = .function
 co:sc.isCoroutine=false
 gen:sc.isGenerator=false
 nd:N.Nodup
 pre:N.take P.length=P
 par:∀x∈P,sc.names.lookup x=some .local\/sc.names.lookup x=some .cell
 nofree:∀y∈sc.names,y.2≠.free
theorem Mr{kindOf:Str->Option NameKind}{x:Str}:∀{binds:List (Str×Value)} {m:Str->Option Value},(∀v,(x,v)∉binds)->bindL kindOf binds m x=m x
 |[],_,_=>rfl
 |(n,v)::r,m,h=>by
  unfold bindL
  rw[Mr fun w hw=>h w (List.mem_cons_of_mem _ hw)]
  split
  ·have:x≠n:=by rintro rfl;exact h v List.mem_cons_self
   simp[this]
  ·rfl
theorem Mt{kindOf:Str->Option NameKind}{x:Str}:∀{binds:List (Str×Value)} {m:Str->Option Value},(∀v,(x,v)∉binds)->bindC kindOf binds m x=m x
 |[],_,_=>rfl
 |(n,v)::r,m,h=>by
  unfold bindC
  rw[Mt fun w hw=>h w (List.mem_cons_of_mem _ hw)]
  split
  ·rfl
  ·have:x≠n:=by rintro rfl;exact h v List.mem_cons_self
   simp[this]
theorem Ms{kindOf:Str->Option NameKind}{x:Str}{v:Value}:∀{P:List Str} {vs:List Value} {i:Nat} {m:Str->Option Value},P.Nodup->P[i]?=some x->vs[i]?=some v->kindOf x=some .local ->
  bindL kindOf (P.zip vs) m x=some v
 |[],_,_,_,_,h,_,_=>by simp at h
 |_::_,[],_,_,_,_,h,_=>by simp at h
 |p::P,w::vs,0,m,nd,h1,h2,hk=>by
  simp at h1 h2;subst h1;subst h2
  show bindL kindOf ((p,w)::P.zip vs) m p=_
  unfold bindL
  rw[Mr fun v hv=>(List.nodup_cons.mp nd).1 (List.of_mem_zip hv).1,if_pos hk]
  simp
 |p::P,w::vs,i+1,m,nd,h1,h2,hk=>by
  show bindL kindOf ((p,w)::P.zip vs) m x=_
  unfold bindL
  exact Ms (i:=i) (List.nodup_cons.mp nd).2 (by simpa using h1) (by simpa using h2) hk
theorem Mu{kindOf:Str->Option NameKind}{x:Str}{v:Value}:∀{P:List Str} {vs:List Value} {i:Nat} {m:Str->Option Value},P.Nodup->P[i]?=some x->vs[i]?=some v->kindOf x≠some .local ->
  bindC kindOf (P.zip vs) m x=some v
 |[],_,_,_,_,h,_,_=>by simp at h
 |_::_,[],_,_,_,_,h,_=>by simp at h
 |p::P,w::vs,0,m,nd,h1,h2,hk=>by
  simp at h1 h2;subst h1;subst h2
  show bindC kindOf ((p,w)::P.zip vs) m p=_
  unfold bindC
  rw[Mt fun v hv=>(List.nodup_cons.mp nd).1 (List.of_mem_zip hv).1,if_neg hk]
  simp
 |p::P,w::vs,i+1,m,nd,h1,h2,hk=>by
  show bindC kindOf ((p,w)::P.zip vs) m x=_
  unfold bindC
  exact Mu (i:=i) (List.nodup_cons.mp nd).2 (by simpa using h1) (by simpa using h2) hk
def start(N:List Str)(vs:List V):St:=vs.map some++List.replicate (N.length-vs.length) none
def Rq(CX:CXT)(P:Program)(w:World)(K:PySem.W.Frag)(mg:Str->Option Value)(base:Heap)(N:List Str)(qual:Str)(scope:Scope)(f:Addr)(cd:Value)(A:Around)(outer:List Env)(s:Shared)(H:Hp)(E:XK):Cx where
 prog:=P
 w:=w
 K:=K
 mg:=mg
 base:=base
 A:=A.deeper (envOfC qual scope s.heap.objs.size f cd)
 N:=N
 s₀:=s
 H₀:=H
 env:=envOfC qual scope s.heap.objs.size f cd
 outer:=outer
 stack:=envOfC qual scope s.heap.objs.size f cd::outer
 ex:=[]
 calm:=true
 fn:=fun _=>true
 pn:=[]
 xe:=fun e s'=>wpAny (model P w) (A.deeper (envOfC qual scope s.heap.objs.size f cd)) (leaving (envOfC qual scope s.heap.objs.size f cd) e) (fun _ s''=>CX outer H s E e s'') (fun e' s''=>CX outer H s E e' s'') s'
theorem O3{sc:Scope}{n:Nat}{x:Str}(h:sc.names.lookup x=some .cell):∃c,(cellsFrom n sc.names []).lookup x=some c:=by
 have q:=PySem.W.cellsFrom_some sc.names n [] (.inl h)
 exact Option.isSome_iff_exists.mp q
theorem RV{CX:CXT}{P:Program}{w:World}{K:PySem.W.Frag}{mg:Str->Option Value}{base:Heap}{N ps:List Str}{qual:Str}{scope:Scope}{f:Addr}{cd:Value}{A:Around}{outer:List Env}{s s1:Shared}{H:Hp}{E:XK}{us:List Value}{vs:List V}
  (S:Bb N ps scope) (hd:A.handled=none) (e0:Ur P w K mg base A outer s H) (hl:vs.length=ps.length) (r:Vals vs us)
  (x:InCallC s s.heap.objs.size (bindL (envOfC qual scope s.heap.objs.size f cd).kindOf (ps.zip us) fun _=>none) (cellsFrom (s.heap.objs.size+1) scope.names []) (bindC (envOfC qual scope s.heap.objs.size f cd).kindOf (ps.zip us) fun _=>none) s1) :
  Inv (Rq CX P w K mg base N qual scope f cd A outer s H E) [] (start N vs) H s1:=by
 have hpl:ps.length<=N.length:=by have:=congrArg List.length S.pre;rw[List.length_take]at this;omega
 obtain⟨h1,tk,rfl,hk⟩:=x.done
 have noA:∀b:Addr,b∉(Rq CX P w K mg base N qual scope f cd A outer s H E).ex:=fun b z=>absurd (show b∈([]:List Addr) from z) (by simp)
 refine ⟨⟨e0.mod, S.kind, rfl, rfl, Nat.le_refl _, fun y z c h1 h2 => ?_, fun y hy => ?_, fun y c _ h => ?_, fun _ => hd, Around.frames_deeper e0.frames, .inr ⟨rfl, rfl⟩, fun b z => absurd z (noA b), e0.bs, e0.bsz, fun b _ _ => noA b, fun b z => absurd z (noA b), e0.funs, e0.frf⟩,
  rfl,e0.bare,Un.kept hk,⟨_,x.toInCall.ns,fun i y v h1 h2 h3=>?_⟩,fun y c h=>⟨_,x.cell y c h⟩,e0.hok.fresh (Nat.le_refl _),fun y c h=>?_,fun p hp=>absurd (show p∈([]:List (Addr×Obj)) from hp) (by simp),e0.hok.kept hk,?_⟩
 ·exact name_of_addr x.apart (PySem.mem_of_lookup h1) (PySem.mem_of_lookup h2)
 ·have hy:scope.names.lookup y=some .cell\/scope.names.lookup y=some .free:=hy
  rcases hy with hy|hy
  ·exact O3 hy
  ·exact absurd rfl (S.nofree _ (PySem.mem_of_lookup hy))
 ·exact Nat.le_of_lt (x.above y c (PySem.mem_of_lookup h))
 ·have hi:i<vs.length:=by
   unfold start at h2
   by_cases hi:i<vs.length
   ·exact hi
   ·rw[List.getElem?_append_right (by simpa using hi)]at h2
    rw[List.getElem?_replicate]at h2
    split at h2<;>cases h2
  have ha:vs[i]?=some v:=by
   unfold start at h2
   rw[List.getElem?_append_left (by simpa using hi),List.getElem?_map]at h2
   cases e:vs[i]? with
   |none=>rw[e]at h2;cases h2
   |some a=>rw[e]at h2;cases h2;rfl
  obtain⟨u,hu,rv⟩:=r.get ha
  have hp:ps[i]?=some y:=by
   rw[<- S.pre,List.getElem?_take_of_lt (by omega)];exact h1
  have ndP:ps.Nodup:=by rw[<- S.pre];exact S.nd.sublist (List.take_sublist _ _)
  refine⟨u,rv,?_⟩
  rcases S.par y (List.mem_of_getElem? hp)with k|k
  ·exact .inl ⟨k,Ms ndP hp hu k⟩
  ·obtain⟨c,e⟩:=O3 (n:=s.heap.objs.size+1) k
   refine .inr ⟨.inl k,c,e,?_⟩
   have q:=x.cell y c e
   rw[Mu ndP hp hu (by show scope.names.lookup y≠_;rw[k];decide)]at q
   exact q
 ·exact e0.hok.fresh (Nat.le_of_lt (x.above y c (PySem.mem_of_lookup h)))
 ·unfold start
  show _=N.length
  rw[List.length_append,List.length_map,List.length_replicate]
  omega
theorem Wz{CX:CXT}{P:Program}{w:World}{K:PySem.W.Frag}{mg:Str->Option Value}{base:Heap}{k:Nat}{f:Addr}{name qual:Str}{params:Arguments}{body:List Stmt}{scope:Scope}{dV kV doc pm cdv ct oc:Value}{an od:Option Addr}
  {osl:Array (Option Value)} {N ps:List Str} {sp:Sp} (lk:K.lookup f=some ⟨oc,od,.func (PySem.W.fnOf name qual params body scope dV kV doc pm an cdv ct),osl⟩) (hcd:PySem.W.codeIn K cdv qual=true) (S:Bb N ps scope)
  (len:∀vs H Q E,sp vs H Q E->vs.length=ps.length)
  (hbody : ∀ (A : Around) (outer : List Env) (s : Shared) (H : Hp) (vs : List V) (Q : VK) (E : XK), Room k (A.deeper (envOfC qual scope s.heap.objs.size f cdv)) -> sp vs H Q E ->
   ∃t,PSs (Rq CX P w K mg base N qual scope f cdv A outer s H E) body t/\t { nx:=fun _ H'=>Q .non H',rt:=Q } (start N vs) H) :
  FnOk P w K mg base CX (k+1) f (PySem.W.fnOf name qual params body scope dV kV doc pm an cdv ct) ps sp:=by
 refine⟨len,fun A outer s H args us vs Q E hr e0 hb r hsp=>?_⟩
 have hl:=len _ _ _ _ hsp
 have KX:K.In s.heap:=e0.mod.kin.keeps fun b o e=>(e0.bs b o e).1
 have lim:s.heap.NoLimit:=e0.mod.nolimit.keeps fun b o e=>(e0.bs b o e).1
 have hkind:∀y∈ps.zip us,scope.names.lookup y.1=some .local\/(scope.names.lookup y.1=some .cell/\((cellsFrom (s.heap.objs.size+1) scope.names []).lookup y.1).isSome=true):=fun⟨n,v⟩ hy=>by
  rcases S.par n (List.of_mem_zip hy).1 with q|q
  ·exact .inl q
  ·exact .inr ⟨q,PySem.W.cellsFrom_some _ _ _ (.inl q)⟩
 refine codeAny_call_function hr.depth (KX _ _ lk) rfl S.co S.gen rfl (PySem.W.codeRec_of KX hcd) (hb _ _ _ _ ?_)
 refine wpAny_newFunctionEnv_cells S.kind hkind fun env he s1 x=>?_
 subst he
 refine⟨lim.keeps x.toInCall.keep,codeAny_func ?_⟩
 obtain⟨t,ht,hq⟩:=hbody A outer s H vs Q E (hr.deeper _) hsp
 have I:Inv (Rq CX P w K mg base N qual scope f cdv A outer s H E) [] (start N vs) H s1:=RV S hr.hd e0 hl r x
 refine wpAny_mono (ht [] s1 (start N vs) H _ I hq) (fun fl s' hs=>?_) fun e s' hs=>hs
 have fin:∀{σ':St} {H':Hp} {v:V} {u:Value},Inv (Rq CX P w K mg base N qual scope f cdv A outer s H E) [] σ' H' s'->RelV v u->Q v H'->CE outer P w H s Q u s' :=
  fun {σ' H' v u} J rv q=>⟨v,H',J.os,J.bare,J.base,J.hok,rv,q⟩
 cases fl with
 |ret u =>
  obtain⟨v,σ',H',J,rv,q⟩:=hs
  exact fin J rv q
 |next =>
  obtain⟨σ',H',J,q⟩:=hs
  exact fin (v:=V.non) (u:=Value.none) J rfl q
 |brk =>
  obtain⟨_,_,_,q⟩:=hs
  exact False.elim q
 |cont =>
  obtain⟨_,_,_,q⟩:=hs
  exact False.elim q
end L2
namespace L2
open PySem PySem.Spec PyProof.Rows
section
variable {X:Cx} {x:Str} {p pos:Pos} {e:Expr} {es:List Expr} {t:TA} {id T:String} {r:List V->Hp->VK->Prop}
def tCB(r:List V->Hp->VK->Prop)(t:TA):TE:=fun σ H Q=>t σ H fun vs H1=>r vs H1 Q
theorem A6(hc:LV X (.builtin id) r)(hg:Gl X x)(hm:X.mg x=none)(hv:bootBuiltins x=some (.builtin id))(ha:PA X (e::es) t)(hn:x≠"__name__":=by decide)(hdb:(x==("__debug__":Str))=false:=by decide)
  (he:starEach (e::es) X.env=(false,eval e X.env)::starEach es X.env:=by rfl) (hpl:(backTo pos (starEach es X.env)).any (·.1)=false:=by rfl):PE X (.Call (.Name x p) (e::es) [] pos) (tCB r t):=by
 intro pins s σ H Q I h
 refine wpAny_Call_Name_kw (Ku I hg hm hv ?_ hn hdb)
 exact PyProof.Rows.callWith_builtin1 (thn (ha pos pins s σ H _ I h) fun us s1 ⟨vs,H1,I1,r1,q1⟩=>hc pins s1 σ H1 vs us Q I1 r1 q1) he hpl
theorem I0(hc:LV X (.type T) r)(hg:Gl X x)(hm:X.mg x=none)(hv:bootBuiltins x=some (.type T))(ha:PA X (e::es) t)(hn:x≠"__name__":=by decide)(hdb:(x==("__debug__":Str))=false:=by decide)
  (he:starEach (e::es) X.env=(false,eval e X.env)::starEach es X.env:=by rfl) (hpl:(backTo pos (starEach es X.env)).any (·.1)=false:=by rfl):PE X (.Call (.Name x p) (e::es) [] pos) (tCB r t):=by
 intro pins s σ H Q I h
 refine wpAny_Call_Name_kw (Ku I hg hm hv ?_ hn hdb)
 exact PyProof.Rows.callWith_type1 (thn (ha pos pins s σ H _ I h) fun us s1 ⟨vs,H1,I1,r1,q1⟩=>hc pins s1 σ H1 vs us Q I1 r1 q1) he hpl
end
end L2
namespace HT
open PySem PyProof.Rows
def lexLt:List Int->List Int->Bool
 |[],[]=>false
 |[],_::_=>true
 |_::_,[]=>false
 |x::xs,y::ys=>if x=y then lexLt xs ys else decide (x<y)
theorem lexLt_cons(x y:Int)(xs ys:List Int):lexLt (x::xs) (y::ys)=if x=y then lexLt xs ys else decide (x<y):=rfl
section
open PySem.SeqAt
open PySem.AutoSeq1 (wpAny_loadPart')
open PySem.MeetsSeq PySem.MeetsSeq2 PySem.MeetsSeq3
end
section
variable {prog:Program} {w:World} {A:Around} {E:Value->Shared->Prop} {s:Shared}
def sIx(n d:Nat):Option Int->Nat
 |none=>d
 |some v=>if v<0 then (v+(n:Int)).toNat else min v.toNat n
end
end HT
namespace L2
open PySem PySem.Spec PyProof.Rows
abbrev TO:=St->Hp->(Option Int->Hp->Prop)->Prop
def PO(X:Cx)(e:Option Expr)(t:TO):Prop :=
 ∀(pins:List (Addr×Obj)) (s:Shared) (σ:St) (H:Hp) (Q:Option Int->Hp->Prop),Inv X pins σ H s->t σ H Q ->
  wpAny (model X.prog X.w) X.A (evalPart e X.env) (fun u s'=>∃o H',Inv X pins σ H' s'/\IsPart u o/\Q o H') X.xe s
def P9:TO:=fun _ H Q=>Q none H
def Ux(t:TE):TO:=fun σ H Q=>t σ H fun x H1=>∃i,x = .int i/\Q (some i) H1
theorem K3{ns:List Int}:∀{us:List Value},Vals (ns.map V.int) us->IntsAre us ns:=by
 induction ns with
 |nil=>intro us r;rw[List.map_nil]at r;cases r;exact .nil
 |cons n ns ih =>
  intro us r
  rw[List.map_cons]at r
  cases r with
  |cons r1 r2 =>
   obtain⟨t,e⟩:=r1
   subst e
   exact .cons n t (ih r2)
section
variable {X:Cx} {e:Expr} {te:TE} {lo hi:Option Expr} {tl th:TO} {pos p2:Pos}
theorem Tv:PO X none P9:=by
 intro pins s σ H Q I h
 rw[evalPart_none]
 exact wpAny_pure ⟨none,H,I,.none,h⟩
theorem Tu(h:PE X e te):PO X (some e) (Ux te):=by
 intro pins s σ H Q I hw
 rw[evalPart_some]
 refine thn (h pins s σ H _ I hw) fun u s1 ⟨x,H1,I1,r1,q1⟩=>?_
 obtain⟨i,rfl,q⟩:=q1
 obtain⟨t,rfl⟩:=r1
 exact⟨some i,H1,I1,.int i t,q⟩
def SlR(X:Cx)(r:V->Option Int->Option Int->Hp->VK->Prop):Prop :=
 ∀(pins:List (Addr×Obj)) (s:Shared) (σ:St) (H:Hp) (x:V) (v vl vu:Value) (lo hi:Option Int) (sl:Addr) (Q:VK),Inv X pins σ H s->RelV x v->s.heap.IsSliceOf sl vl vu .none->IsPart vl lo->IsPart vu hi->r x lo hi H Q ->
  ∃T id,typeLookup (.type T) "__getitem__"=pure (some (.builtin id))/\s.TypeIs v T/\wpAny (model X.prog X.w) X.A (getItem v (.ref sl)) (EP X pins σ Q) X.xe s
def tSl(r:V->Option Int->Option Int->Hp->VK->Prop)(te:TE)(tl th:TO):TE:=fun σ H Q=>te σ H fun x H1=>tl σ H1 fun l H2=>th σ H2 fun u H3=>r x l u H3 Q
theorem SM{r:V->Option Int->Option Int->Hp->VK->Prop}(hr:SlR X r)(he:PE X e te)(hl:PO X lo tl)(hu:PO X hi th):PE X (.Subscript e (.Slice lo hi none p2) pos) (tSl r te tl th):=by
 intro pins s σ H Q I h
 refine Subscript_ (thn (he pins s σ H _ I h) fun v s1 ⟨x,H1,I1,r1,q1⟩=>?_)
 refine wpAny_Slice (thn (hl pins s1 σ H1 _ I1 q1) fun vl s2 ⟨l,H2,I2,pl,q2⟩=>thn (hu pins s2 σ H2 _ I2 q2) fun vu s3 ⟨u,H3,I3,pu,q3⟩=>?_)
 rw[evalPart_none]
 refine wpAny_pure ?_
 have I4:Inv X pins σ H3 { s3 with heap:=s3.heap.push { cls:=.type "slice",data:=.fields #[vl,vu,.none] } }:=I3.kept (t':=s3.toks) fun b ob q=>Heap.get?_push_of_some _ q
 obtain⟨T,id,hT,ht,hg⟩:=hr pins { s3 with heap:=s3.heap.push { cls:=.type "slice",data:=.fields #[vl,vu,.none] } } σ H3 x v vl vu l u s3.heap.objs.size Q I4 r1 (Heap.IsSliceOf.new ..) pl pu q3
 show wpAny (model X.prog X.w) X.A (subscriptTail e (.Slice lo hi none p2) v (.ref s3.heap.objs.size)) (EP X pins σ Q) X.xe { s3 with heap:=s3.heap.push { cls:=.type "slice",data:=.fields #[vl,vu,.none] } }
 exact tail_any (ops:=[.ref s3.heap.objs.size,v]) ht hT hg (by with_unfolding_all rfl)
def Py(xs:List V)(lo hi:Option Int):List V:=(xs.drop (HT.sIx xs.length 0 lo)).take (HT.sIx xs.length xs.length hi-HT.sIx xs.length 0 lo)
theorem Ox(xs:List V)(lo hi:Option Int):(Py xs lo hi).length<=xs.length:=by
 unfold Py
 rw[List.length_take,List.length_drop]
 omega
end
end L2
namespace L2
open PySem PySem.Spec PyProof.Rows
def ixN(n:Nat)(i:Int):Option Nat:=if 0<=i then (if i<n then some i.toNat else none) else if -(n:Int)<=i then some (i+n).toNat else none
def atI{α:Type}(xs:List α)(i:Int):Option α:=(ixN xs.length i).bind fun j=>xs[j]?
theorem Qc{n:Nat}{i:Int}{j:Nat}(h:ixN n i=some j):seqIndex? i n=some j/\j<n/\-(n:Int)<=i/\i<n:=by
 unfold ixN at h
 by_cases h0:0<=i
 ·rw[if_pos h0]at h
  by_cases h1:i<n
  ·rw[if_pos h1]at h
   have e:i.toNat=j:=Option.some.inj h
   exact⟨by rw[seqIndex_of h0 h1,e],by omega,by omega,h1⟩
  ·rw[if_neg h1]at h;cases h
 ·rw[if_neg h0]at h
  by_cases h1:-(n:Int)<=i
  ·rw[if_pos h1]at h
   have e:(i+n).toNat=j:=Option.some.inj h
   exact⟨by rw[seqIndex_neg (by omega) h1,e],by omega,h1,by omega⟩
  ·rw[if_neg h1]at h;cases h
theorem Qy{α:Type}{xs:List α}{i:Int}{v:α}(h:atI xs i=some v):∃j,seqIndex? i xs.length=some j/\xs[j]?=some v/\j<xs.length/\-(xs.length:Int)<=i/\i<xs.length:=by
 unfold atI at h
 cases e:ixN xs.length i with
 |none=>rw[e]at h;cases h
 |some j =>
  rw[e]at h
  obtain⟨h1,h2,h3,h4⟩:=Qc e
  exact⟨j,h1,h,h2,h3,h4⟩
theorem O6{α:Type}(xs:List α)(v:α):atI (xs++[v]) (-1)=some v:=by
 have hl:(xs++[v]).length=xs.length+1:=by simp
 have e:ixN (xs++[v]).length (-1)=some xs.length:=by
  unfold ixN
  rw[hl,if_neg (by decide),if_pos (by omega)]
  congr 1
  omega
 unfold atI
 rw[e]
 show(xs++[v])[xs.length]?=some v
 simp
def Um(b:Expr):Prop:=∀o i,subscripted b false o i=operate [o,i] (getItem o i)
def IxR(X:Cx)(r:R2):Prop :=
 ∀(value slice:Expr) (pins:List (Addr×Obj)) (s:Shared) (σ:St) (H:Hp) (x y:V) (v u:Value) (Q:VK),Inv X pins σ H s->RelV x v->RelV y u->r x y H Q ->
  subscripted slice false v u=operate [v,u] (getItem v u)->wpAny (model X.prog X.w) X.A (subscriptTail value slice v u) (EP X pins σ Q) X.xe s
def MtR(X:Cx)(id:String)(r:V->List V->Hp->VK->Prop):Prop :=
 ∀(pins:List (Addr×Obj)) (s:Shared) (σ:St) (H:Hp) (x:V) (xs:List V) (v:Value) (us:List Value) (Q:VK),Inv X pins σ H s->RelV x v->Vals xs us->r x xs H Q ->
  wpAny (model X.prog X.w) X.A (call (.builtin id) (v::us)) (EP X pins σ Q) X.xe s
section
variable {X:Cx} {a b:Expr} {ta tb:TE} {pos:Pos}
theorem AX{r:R2}(hr:IxR X r)(ha:PE X a ta)(hb:PE X b tb)(hs:Um b):PE X (.Subscript a b pos) (tOp r ta tb):=by
 intro pins s σ H Q I h
 exact Subscript_ (WB ha hb I h fun v u s2 x y H2 I2 rx ry q=>hr a b pins s2 σ H2 x y v u Q I2 rx ry q (hs _ _))
def SG(K:PySem.W.Frag):R2:=fun x y H Q=>∃p xs i v,x = .ref p/\y = .int i/\SqL K H p xs/\atI xs i=some v/\Q v H
def Va(K:PySem.W.Frag):R2:=fun x y H Q=>∃p xs i v,x = .ref p/\y = .int i/\SqT K H p xs/\atI xs i=some v/\Q v H
theorem AW:IxR X (SG X.K):=by
 intro value slice pins s σ H x y v u Q I rx ry h hs
 obtain⟨p,xs,i,z,rfl,rfl,hq,he,q⟩:=h
 cases rx
 obtain⟨t,rfl⟩:=ry
 obtain⟨its,r,pl,hz⟩:=I.list hq
 obtain⟨j,h1,h2,h3,h4,h5⟩:=Qy he
 obtain⟨w,ew,rw'⟩:=r.get h2
 have hl:=r.length
 have hn:=NY
 have fin:EP X pins σ Q w s:=⟨z,H,I,rw',q⟩
 by_cases h0:0<=i
 ·have hj:i.toNat=j:=by
   rw[seqIndex_of h0 h5]at h1
   exact Option.some.inj h1
  exact item_listR pl.isList h0 (by omega) (by rw[hj];simpa using ew) fin hs
 ·have hj:(i+(its.toArray.size:Int)).toNat=j:=by
   rw[seqIndex_neg (by omega) h4]at h1
   rw[List.size_toArray,<- hl]
   exact Option.some.inj h1
  exact subscriptTail_builtinR (x:=w) pl.isList.typeIs slot_list_getitem.lookup
   (wpAny_getItem_list_neg (Q:=fun r s'=>r=w/\EP X pins σ Q r s') pl.isList (by omega) (by rw[List.size_toArray]<;>omega) (by omega) (by rw[hj];simpa using ew) ⟨rfl,fin⟩) hs
theorem Bn:IxR X (Va X.K):=by
 intro value slice pins s σ H x y v u Q I rx ry h hs
 obtain⟨p,xs,i,z,rfl,rfl,hq,he,q⟩:=h
 cases rx
 obtain⟨t,rfl⟩:=ry
 obtain⟨its,r,pl,hz⟩:=I.tuple hq
 obtain⟨j,h1,h2,h3,h4,h5⟩:=Qy he
 obtain⟨w,ew,rw'⟩:=r.get h2
 have hl:=r.length
 have hn:=NY
 have fin:EP X pins σ Q w s:=⟨z,H,I,rw',q⟩
 exact subscriptTail_builtinR (x:=w) pl.typeIs slot_tuple_getitem.lookup
  (getItem_tuple (j:=j) (Q:=fun r s'=>r=w/\EP X pins σ Q r s') pl (by omega) (by omega) (by rw[List.size_toArray,<- hl];exact h1) (by simpa using ew) ⟨rfl,fin⟩) hs
theorem Pj(its:List Value)(n j:Nat)(u:Value):Obj.mapSeq (·.setIfInBounds j u) { cls:=.type "list",data:=.seq its.toArray n }={ cls:=.type "list",data:=.seq (its.set j u).toArray n }:=by
 simp[Obj.mapSeq]
theorem Inv.lst{pins:List (Addr×Obj)}{σ:St}{H:Hp}{s:Shared}{p:Addr}{xs:List V}(I:Inv X pins σ H s)(h:H p=some (.lst xs)) :
  ∃(its:List Value) (n:Nat),Vals xs its/\s.heap.get? p=some { cls:=.type "list",data:=.seq its.toArray n }/\xs.length<=sizeLine:=by
 obtain⟨z,its,n,r,e⟩:=I.hok p _ h
 exact⟨its,n,r,e,z⟩
theorem Inv.lstUpd{pins:List (Addr×Obj)}{σ:St}{H:Hp}{s:Shared}{p:Addr}{xs ys:List V}{its its':List Value}{n n':Nat}{f:Obj->Obj}(I:Inv X pins σ H s)(h:H p=some (.lst xs))
  (ho:s.heap.get? p=some { cls:=.type "list",data:=.seq its.toArray n }) (hf:f { cls:=.type "list",data:=.seq its.toArray n }={ cls:=.type "list",data:=.seq its'.toArray n' }) (r:Vals ys its') (hz:ys.length<=sizeLine) (t:Nat) :
  Inv X pins σ (upd H p (.lst ys)) { s with heap:=s.heap.update p f,toks:=t }:=by
 have e:(s.heap.update p f).get? p=some { cls:=.type "list",data:=.seq its'.toArray n' }:=by
  rw[Heap.get?_update_self f ho (by rw[hf]<;>rfl),hf]
 refine I.write (x:=p) (e:=p) (by rw[h];trivial) (.inl rfl) (fun b u hb q=>(Heap.get?_update_other _ _ (Ne.symm hb)).trans q) ⟨_,e⟩ ?_
 exact⟨hz,its',n',r,e⟩
def QB:V->V->V->Hp->(Hp->Prop)->Prop:=fun o i v H Q=>∃p xs k j,o = .ref p/\i = .int k/\H p=some (.lst xs)/\ixN xs.length k=some j/\Q (upd H p (.lst (xs.set j v)))
theorem ID:WL X QB:=by
 intro pins s σ H o i v ov iv u Q I ro ri rv h
 obtain⟨p,xs,k,j,rfl,rfl,hp,hj,q⟩:=h
 cases ro
 obtain⟨t,rfl⟩:=ri
 obtain⟨its,n,r,ho,hz⟩:=I.lst hp
 obtain⟨h1,h2,h3,h4⟩:=Qc hj
 have hl:=r.length
 have hn:=NY
 have I':Inv X pins σ (upd H p (.lst (xs.set j v))) { s with heap:=s.heap.update p (Obj.mapSeq (·.setIfInBounds j u)) } :=
  I.lstUpd hp ho (Pj its n j u) (r.set rv j) (by rw[List.length_set];exact hz) s.toks
 by_cases h0:0<=k
 ·have hk:k.toNat=j:=by
   rw[seqIndex_of h0 h4]at h1
   exact Option.some.inj h1
  exact PySem.W.ki_setAt ho h0 (by omega) (by rw[List.size_toArray,<- hl];exact h4) (by rw[hk];exact⟨_,I',q⟩)
 ·have hk:(k+(its.toArray.size:Int)).toNat=j:=by
   rw[seqIndex_neg (by omega) h3]at h1
   rw[List.size_toArray,<- hl]
   exact Option.some.inj h1
  exact PySem.W.ki_setBack ho (by omega) (by rw[List.size_toArray,<- hl];exact h3) (by omega) (by rw[hk];exact⟨_,I',q⟩)
theorem NE(lo hi:Option Int)(n:Nat):(sliceBounds lo hi none n).1=((HT.sIx n 0 lo:Nat):Int)/\(sliceBounds lo hi none n).2.1=((HT.sIx n n hi:Nat):Int)/\(sliceBounds lo hi none n).2.2=1:=by
 refine⟨?_,?_,rfl⟩
 ·cases lo with
  |none=>simp[sliceBounds,HT.sIx]
  |some i =>
   simp only[sliceBounds,HT.sIx,Option.getD_none,show(1:Int)>0 by decide,if_true]
   by_cases h:i<0
   ·simp only[h,if_true]<;>omega
   ·simp only[h,if_false]<;>omega
 ·cases hi with
  |none=>simp[sliceBounds,HT.sIx]
  |some i =>
   simp only[sliceBounds,HT.sIx,Option.getD_none,show(1:Int)>0 by decide,if_true]
   by_cases h:i<0
   ·simp only[h,if_true]<;>omega
   ·simp only[h,if_false]<;>omega
theorem LX(its:List Value)(lo hi:Option Int):slicePick its.toArray lo hi none=((its.drop (HT.sIx its.length 0 lo)).take (HT.sIx its.length its.length hi-HT.sIx its.length 0 lo)).toArray:=by
 obtain⟨h1,h2,h3⟩:=NE lo hi its.toArray.size
 unfold slicePick
 rw[h1,h2,h3]
 simp only[sliceRange_one,pick_run,List.size_toArray]<;>rfl
def Wb(K:PySem.W.Frag):V->Option Int->Option Int->Hp->VK->Prop:=fun x lo hi H Q=>∃a xs,x = .ref a/\SqL K H a xs/\∀p,H p=none->Q (.ref p) (upd H p (.lst (Py xs lo hi)))
theorem Tq:SlR X (Wb X.K):=by
 intro pins s σ H x v vl vu lo hi sl Q I rx hs pl pu h
 obtain⟨a,xs,rfl,hx,q⟩:=h
 cases rx
 obtain⟨its,r,ht,hz⟩:=I.list hx
 have hlen:=r.length
 refine⟨"list",_,slot_list_getitem.lookup,ht.isList.typeIs,?_⟩
 refine wpAny_getItem_list_slice ht.isList hs pl pu .none (by simp) ?_ (by rw[List.size_toArray]<;>omega)
 rw[LX,<- hlen]
 refine⟨.ref s.heap.objs.size,_,I.laid (t':=s.toks) (o:=.lst (Py xs lo hi)) (fun b ob q=>Heap.get?_push_of_some _ q) (Nat.le_refl _) ?_,rfl,q _ (I.hok.fresh (Nat.le_refl _))⟩
 exact⟨Nat.le_trans (Ox xs lo hi) hz,_,0,(r.drop (HT.sIx xs.length 0 lo)).take (HT.sIx xs.length xs.length hi-HT.sIx xs.length 0 lo),Heap.get?_push_size _ rfl⟩
theorem Ik:LV X (.type "list") (fun xs H Q=>∃p ys,xs=[.ref p]/\(SqL X.K H p ys\/SqT X.K H p ys)/\∀l,H l=none->Q (.ref l) (upd H l (.lst ys))):=by
 intro pins s σ H xs us Q I r h
 obtain⟨p,ys,rfl,hq,q⟩:=h
 obtain⟨u,rfl,rx⟩:=N3 r
 cases rx
 have fin:∀(its:List Value),Vals ys its->ys.length<=sizeLine->∀(h':Heap) (c':Nat),(∀b o',s.heap.get? b=some o'->h'.get? b=some o') ->
   h'.get? s.heap.objs.size=some { cls:=.type "list",dict:=none,data:=.seq its.toArray c',slots:=#[] }->EP X pins σ Q (.ref s.heap.objs.size) { s with heap:=h' }:=fun its r' hz h' c' kp e =>
  ⟨.ref s.heap.objs.size,_,I.laid (t':=s.toks) kp (Nat.le_refl _) (show ObjOk X.prog X.w _ h' _ (.lst ys) from⟨hz,its,c',r',e⟩),rfl,q _ (I.hok.fresh (Nat.le_refl _))⟩
 rcases hq with hq|hq
 ·obtain⟨its,r',pl,hz⟩:=I.list hq
  have hlen:=r'.length
  obtain⟨o,ho,hc,n,hd⟩:=pl.isList
  exact call_list_seq p (.inl rfl) ho hc hd (fun h' c' kp e=>fin its r' hz h' c' kp e) (by simp only[List.size_toArray]<;>omega)
 ·obtain⟨its,r',pl,hz⟩:=I.tuple hq
  have hlen:=r'.length
  obtain⟨o,ho,hc,n,hd⟩:=pl
  exact call_list_seq p (.inr rfl) ho hc hd (fun h' c' kp e=>fin its r' hz h' c' kp e) (by simp only[List.size_toArray]<;>omega)
def tyV(K:PySem.W.Frag)(T:String)(x:V)(H:Hp):Prop:=match x with
 |.str _=>T="str"
 |.int _=>T="int"
 |.ref p=>(T="list"/\∃xs,SqL K H p xs)\/(T="tuple"/\∃o,K.lookup p=some o/\o.cls = .type "tuple"/\o.dict=none) \/
   (T="dict"/\((∃kvs,H p=some (.dK kvs))\/∃kvs,H p=some (.dT kvs)))\/(T="set"/\∃S n,H p=some (.set S n))
 |_=>False
theorem Rz{pins:List (Addr×Obj)}{σ:St}{H:Hp}{s:Shared}{T:String}{x:V}{v:Value}(I:Inv X pins σ H s)(r:RelV x v)(ty:tyV X.K T x H) :
  s.TypeIs v T/\∀a,v = .ref a->∃ob,s.heap.get? a=some ob/\ob.dict=none:=by
 cases x with
 |str z =>
  obtain⟨t,rfl⟩:=r
  cases (show T="str" from ty)
  exact⟨typeIs_str s z t,fun _ e=>nomatch e⟩
 |int i =>
  obtain⟨t,rfl⟩:=r
  cases (show T="int" from ty)
  exact⟨typeIs_int s i t,fun _ e=>nomatch e⟩
 |ref p =>
  cases r
  rcases ty with ⟨rfl,xs,hq⟩|⟨rfl,o,hk,hc,hd⟩|⟨rfl,hk⟩|⟨rfl,S,n,hk⟩
  ·obtain⟨its,_,pl,_⟩:=I.list hq
   refine⟨pl.isList.typeIs,fun a e=>?_⟩
   cases e
   obtain⟨o,n,e,c,hd,_⟩:=pl
   exact⟨o,e,hd⟩
  ·refine⟨⟨o,I.kIn p o hk,hc⟩,fun a e=>?_⟩
   cases e
   exact⟨o,I.kIn _ o hk,hd⟩
  ·have z:∃o,s.heap.get? p=some o/\o.ExactDict:=by
    rcases hk with ⟨kvs,hk⟩|⟨kvs,hk⟩
    ·obtain⟨_,_,_,_,o,_,_,e,ex,_⟩:=I.hok p _ hk
     exact⟨o,e,ex⟩
    ·obtain⟨_,_,_,_,o,_,_,e,ex,_⟩:=I.hok p _ hk
     exact⟨o,e,ex⟩
   obtain⟨o,e,ex⟩:=z
   refine⟨⟨o,e,ex.1⟩,fun a e2=>?_⟩
   cases e2
   exact⟨o,e,ex.2.1⟩
  ·obtain⟨o,_,_,_,e,ex,_⟩:=I.hok p _ hk
   refine⟨⟨o,e,ex.1⟩,fun a e2=>?_⟩
   cases e2
   exact⟨o,e,ex.2.1⟩
 |_=>exact False.elim ty
def VT(K:PySem.W.Frag)(T:String)(r:V->List V->Hp->VK->Prop)(to:TE):TE:=fun σ H Q=>to σ H fun x H1=>tyV K T x H1/\r x [] H1 Q
def tBM(K:PySem.W.Frag)(T:String)(r:V->List V->Hp->VK->Prop)(to:TE)(t:TA):TE:=fun σ H Q=>to σ H fun x H1=>tyV K T x H1/\t σ H1 fun xs H2=>r x xs H2 Q
variable {o e:Expr} {es:List Expr} {to:TE} {t:TA} {name:Str} {apos cpos:Pos} {T id:String} {r:V->List V->Hp->VK->Prop}
theorem PU(pa:PlainAttrs T)(slot:Slot T name id)(hty:typeOf (.builtin id)=pure (.type "method_descriptor"))(hm:MtR X id r)(ho:PE X o to)
  (hbase:attributeBase o name X.env (eval o X.env)=eval o X.env:=by rfl) (hline:(apos.endLine==cpos.line)=true:=by rfl):PE X (.Call (.Attribute o name apos) [] [] cpos) (VT X.K T r to):=by
 intro pins s σ H Q I h
 refine wpAny_Call_method0_late hbase hline (thn (ho pins s σ H _ I h) fun v s1 ⟨x,H1,I1,r1,ty,q1⟩=>?_)
 obtain⟨h1,h2⟩:=Rz I1 r1 ty
 exact⟨T,id,pa,slot,hty,h1,h2,Calls.callWith_builtin rfl (PySem.evalArgs_none (hm pins s1 σ H1 x [] v [] Q I1 r1 .nil q1))⟩
theorem Kl(pa:PlainAttrs T)(slot:Slot T name id)(hty:typeOf (.builtin id)=pure (.type "method_descriptor"))(hm:MtR X id r)(ho:PE X o to)(ha:PA X (e::es) t)
  (hbase:attributeBase o name X.env (eval o X.env)=eval o X.env:=by rfl)
  (hfew : ((backTo cpos (starEach (e :: es) X.env)).all (fun x => !x.1) && (backToKw cpos (keywordEach [] X.env)).all (fun x => x.1.isSome)
   && decide ((e::es).length+([]:List Keyword).length+(if ([]:List Keyword).isEmpty then 0 else 1)<30))=true:=by rfl)
  (hline:(apos.endLine==cpos.line)=true:=by rfl) (hs:starEach (e::es) X.env=(false,eval e X.env)::starEach es X.env:=by rfl) (hplain:(backTo cpos (starEach es X.env)).any (·.1)=false:=by rfl) :
  PE X (.Call (.Attribute o name apos) (e::es) [] cpos) (tBM X.K T r to t):=by
 intro pins s σ H Q I h
 refine wpAny_Call_method_late hbase hfew hline rfl (thn (ho pins s σ H _ I h) fun v s1 ⟨x,H1,I1,r1,ty,q1⟩=>?_)
 obtain⟨h1,h2⟩:=Rz I1 r1 ty
 refine⟨T,id,pa,slot,hty,h1,h2,?_⟩
 have hA:=ha cpos pins s1 σ H1 _ I1 q1
 rw[hs]at hA ⊢
 refine Calls.callWith_builtin (by show(false||(backTo cpos (starEach es X.env)).any (·.1))=false;rw[hplain]<;>rfl) (Calls.evalArgs_plain ?_)
 exact thn hA fun us s2 ⟨vs,H2,I2,r2,q2⟩=>hm pins s2 σ H2 x vs v us Q I2 r1 r2 q2
end
end L2
namespace L2
open PySem PySem.Spec PyProof.Rows
def MtM(X:Cx)(id:String)(r:V->List V->Hp->VK->Prop):Prop :=
 ∀(pins:List (Addr×Obj)) (s:Shared) (σ:St) (H:Hp) (x:V) (xs:List V) (v:Value) (us:List Value) (Q:VK),Inv X pins σ H s->RelV x v->Vals xs us->r x xs H Q ->
  wpAny (model X.prog X.w) X.A (call (.builtin id) (v::us)) (EP X pins σ Q) X.xe s
theorem Vals.one:∀{x:V} {us:List Value},Vals [x] us->∃u,us=[u]/\RelV x u
 |_,_,.cons r .nil=>⟨_,rfl,r⟩
theorem Vals.zero:∀{us:List Value},Vals [] us->us=[]
 |_,.nil=>rfl
theorem Vals.reverse{xs:List V}{us:List Value}(h:Vals xs us):Vals xs.reverse us.reverse:=by
 induction h with
 |nil=>exact .nil
 |cons r t ih=>rw[List.reverse_cons,List.reverse_cons];exact Vals.append ih (.cons r .nil)
section
variable {X:Cx} {pins:List (Addr×Obj)} {σ:St} {H:Hp} {s:Shared} {l b:Addr} {xs ys zs:List V}
theorem Inv.lset{its its':List Value}{n:Nat}{f:Array Value->Array Value}{t':Nat}(I:Inv X pins σ H s)(hH:H l=some (.lst xs))
  (e:s.heap.get? l=some { cls:=.type "list",data:=.seq its.toArray n }) (hf:f its.toArray=its'.toArray) (hv:Vals ys its') (hz:ys.length<=sizeLine) :
  Inv X pins σ (upd H l (.lst ys)) { s with heap:=s.heap.update l (Obj.mapSeq f),toks:=t' }:=by
 have q:=PySem.IsL.update e f
 rw[hf]at q
 refine I.write (x:=l) (e:=l) (by rw[hH];exact trivial) (.inl rfl) (fun b' u hb hu=>(Heap.get?_update_other s.heap (Obj.mapSeq f) (Ne.symm hb)).trans hu) ⟨_,q⟩ ?_
 exact⟨hz,its',_,hv,q⟩
theorem Inv.lnew{its:List Value}{t':Nat}(I:Inv X pins σ H s)(hv:Vals ys its)(hz:ys.length<=sizeLine) :
  Inv X pins σ (upd H s.heap.objs.size (.lst ys)) { s with heap:=s.heap.push { cls:=.type "list",data:=.seq its.toArray },toks:=t' } :=
 I.laid (fun _ _ q=>Heap.get?_push_of_some _ q) (Nat.le_refl _) ⟨hz,its,0,hv,Heap.get?_push_size _ rfl⟩
theorem Inv.fresh(I:Inv X pins σ H s):H s.heap.objs.size=none:=I.hok.fresh (Nat.le_refl _)
theorem Inv.lstM(I:Inv X pins σ H s)(hH:H l=some (.lst xs)):xs.length<=sizeLine/\∃(its:List Value) (n:Nat),Vals xs its/\xs.length=its.length/\s.heap.get? l=some { cls:=.type "list",data:=.seq its.toArray n }:=by
 obtain⟨z,its,n,r,e⟩:=I.hok l _ hH
 exact⟨z,its,n,r,r.length,e⟩
theorem SZ{n:Nat}(h:n<=sizeLine):Builtin.List.listTooLong n=false:=by
 unfold Builtin.List.listTooLong
 exact decide_eq_false (by omega)
end
section
variable {X:Cx}
def IH:V->List V->Hp->VK->Prop:=fun x vs H Q=>∃l xs y,x = .ref l/\vs=[y]/\H l=some (.lst xs)/\xs.length<sizeLine/\Q .non (upd H l (.lst (xs++[y])))
theorem Dk:MtM X "list.append" IH:=by
 intro pins s σ H x vs v us Q I rx rv h
 obtain⟨l,xs,y,rfl,rfl,hH,hz,q⟩:=h
 cases rx
 obtain⟨u,rfl,ru⟩:=rv.one
 obtain⟨z,its,n,r,hl,e⟩:=I.lstM hH
 refine call_meets F.slot_list_append ⟨_,e,rfl⟩ F.entry_list_append (F.args_list_append_2 _ _) (PySem.list_append l its.toArray n u (by rw[List.size_toArray];omega)) ⟨e,?_⟩
 refine⟨.non,_,I.lset (its':=its++[u]) hH e (by simp) (r.append (.cons ru .nil)) ?_,rfl,q⟩
 rw[List.length_append,List.length_singleton]
 omega
def QC:V->List V->Hp->VK->Prop:=fun x vs H Q=>∃l b xs zs,x = .ref l/\vs=[.ref b]/\H l=some (.lst xs)/\H b=some (.lst zs)/\xs.length+zs.length<=sizeLine/\Q .non (upd H l (.lst (xs++zs)))
theorem RO:MtM X "list.extend" QC:=by
 intro pins s σ H x vs v us Q I rx rv h
 obtain⟨l,b,xs,zs,rfl,rfl,hH,hB,hz,q⟩:=h
 cases rx
 obtain⟨u,rfl,ru⟩:=rv.one
 cases ru
 obtain⟨z,its,n,r,hl,e⟩:=I.lstM hH
 obtain⟨z2,its2,n2,r2,hl2,e2⟩:=I.lstM hB
 have hsz:its.toArray.size+its2.toArray.size<=sizeLine:=by rw[List.size_toArray,List.size_toArray];omega
 have hlong:¬(!its.toArray.isEmpty&&Builtin.List.listTooLong (its.toArray.size+its2.toArray.size))=true:=by
  rw[SZ hsz,Bool.and_false]
  exact Bool.false_ne_true
 refine call_meets F.slot_list_extend ⟨_,e,rfl⟩ F.entry_list_extend (F.args_list_extend_2 _ _)
  (AutoSeq1.list_extend_list_list_0 l its.toArray n b its2.toArray n2 hlong (by rw[List.size_toArray];omega) (by omega)) ⟨e,e2,?_⟩
 refine⟨.non,_,I.lset (its':=its++its2) hH e (by simp) (r.append r2) ?_,rfl,q⟩
 rw[List.length_append]
 omega
def OE:V->List V->Hp->VK->Prop:=fun x vs H Q=>∃l xs,x = .ref l/\vs=[]/\H l=some (.lst xs)/\Q .non (upd H l (.lst xs.reverse))
theorem Pi:MtM X "list.reverse" OE:=by
 intro pins s σ H x vs v us Q I rx rv h
 obtain⟨l,xs,rfl,rfl,hH,q⟩:=h
 cases rx
 have hus:=rv.zero
 subst hus
 obtain⟨z,its,n,r,hl,e⟩:=I.lstM hH
 refine call_meets F.slot_list_reverse ⟨_,e,rfl⟩ F.entry_list_reverse (F.args_list_reverse_1 _) (AutoSeq1.list_reverse_list_0 l its.toArray n (by rw[List.size_toArray];omega)) ⟨e,?_⟩
 refine⟨.non,_,I.lset (its':=its.reverse) hH e (by simp) r.reverse ?_,rfl,q⟩
 rw[List.length_reverse]
 omega
def SH:V->List V->Hp->VK->Prop:=fun x vs H Q=>∃l xs,x = .ref l/\vs=[]/\H l=some (.lst xs)/\Q .non (upd H l (.lst []))
theorem OU:MtM X "list.clear" SH:=by
 intro pins s σ H x vs v us Q I rx rv h
 obtain⟨l,xs,rfl,rfl,hH,q⟩:=h
 cases rx
 have hus:=rv.zero
 subst hus
 obtain⟨z,its,n,r,hl,e⟩:=I.lstM hH
 refine call_meets F.slot_list_clear ⟨_,e,rfl⟩ F.entry_list_clear (F.args_list_clear_1 _) (AutoSeq1.list_clear_list_0 l its.toArray n (by rw[List.size_toArray];omega)) ⟨e,?_⟩
 exact⟨.non,_,I.lset (its':=[]) (ys:=[]) hH e rfl .nil (Nat.zero_le _),rfl,q⟩
def Wg:R2:=fun x y H Q=>∃l b xs zs,x = .ref l/\y = .ref b/\H l=some (.lst xs)/\H b=some (.lst zs)/\xs.length+zs.length<=sizeLine/\∀p,H p=none->Q (.ref p) (upd H p (.lst (xs++zs)))
theorem Vh:OpR X (binaryOp .Add) Wg:=by
 intro pins s σ H x y v u Q I rx ry h
 obtain⟨l,b,xs,zs,rfl,rfl,hH,hB,hz,q⟩:=h
 cases rx
 cases ry
 obtain⟨z,its,n,r,hl,e⟩:=I.lstM hH
 obtain⟨z2,its2,n2,r2,hl2,e2⟩:=I.lstM hB
 refine PySem.P.add_list e e2 ?_ (by rw[List.size_toArray,List.size_toArray];omega)
 have ea:its.toArray++its2.toArray=(its++its2).toArray:=by simp
 rw[ea]
 exact⟨.ref _,_,I.lnew (t':=s.toks) (r.append r2) (by rw[List.length_append];omega),rfl,q _ I.fresh⟩
end
section
variable {prog:Program} {w:World} {A:Around} {E:Value->Shared->Prop} {s:Shared}
end
section
variable {X:Cx}
end
end L2
namespace Att
open PySem PySem.W PySem.Calls PyProof.Rows
theorem J8{P:Params}{h:Heap}:∀(ns:List Int) (vs:List Value),WellAll P h vs (ns.map WData.int)->IntsAre vs ns:=by
 intro ns
 induction ns with
 |nil =>
  intro vs w
  rw[List.map_nil]at w
  cases w
  exact .nil
 |cons n ns ih =>
  intro vs w
  rw[List.map_cons]at w
  cases w with
  |cons a b =>
   cases a
   exact .cons _ _ (ih _ b)
theorem RB{l:OpenLaw}{n:Nat}(hn:l.most=some n){P:Params}{h:Heap}{args:List WData}{vals:List Value}
  (hpre:l.row.toRowW.claim.pre args=true) (hwl:WellAll P h vals args) :
  ∃a vs ns,vals=[Value.ref a]/\args=[WData.list (ns.map WData.int)]/\h.get? a=some { cls:=.type "list",data:=.seq vs.toArray }/\IntsAre vs ns/\ns.length<=n:=by
 have hsh:WShape.hasAll [] args [.list .int]=true:=(pre_splitW hpre).1
 have hc:l.pre.holds [] { args:=args }=true:=(pre_splitW hpre).2
 obtain⟨d,r,rfl,h1,h2⟩:=hasAllW_cons hsh
 obtain rfl:=hasAllW_nil h2
 obtain⟨xs,rfl,h3⟩:=hasW_list h1
 obtain⟨ns,rfl⟩:=items_int h3
 have hlen:ns.length<=n:=by
  unfold OpenLaw.pre at hc
  have h4:(WTm.not (.lt (.lit (.int (n:Int))) (.len (.arg 0)))).holds [] { args:=[.list (ns.map .int)] }=true:=by
   have h4:=(holds_andW hc).1
   rw[hn]at h4
   exact h4
  have h5:=condW_of h4 (w_not (w_lt w_lit (w_len_list (w_arg rfl))))
  rw[List.length_map]at h5
  refine Nat.le_of_not_lt fun q=>?_
  have q':(n:Int)<((ns.length:Nat):Int):=by omega
  first
   |(rw[decide_eq_true q']at h5;exact absurd h5 (by decide))
   |(simp at h5;omega)
 cases hwl with
 |cons w1 w2 =>
  cases w2
  cases w1 with
  |list ho hall=>exact⟨_,_,ns,rfl,rfl,ho,J8 ns _ hall,hlen⟩
theorem RG(l:OpenLaw)(args:List WData):l.row.toRowW.claim.post args (.bool true) args=true :=
 postW_of (r:=l.row.toRowW) (X:=(true==true))
  (show WShape.has [] (.bool true) .bool=true by first|rfl|decide|simp[WShape.has,WShape.arms,WShape.armsAll])
  (show(WTm.eq .res (.lit (.bool true))).value [] { args:=args,res:=some (.bool true),after:=args }=some (.bool (true==true)) from w_eq_bool (w_res rfl) w_lit) rfl
theorem attach_call{l:OpenLaw}{n:Nat}{q:Program}{loose:List Str}{XP:(Str->Option Value)->Heap->Prop}{YP:World->Heap->Prop}{d:DefRec}
  (hn:l.most=some n) (hdf:d.params.defaults=[])
  (call : ∀ (w : World) (s₀ s₁ : Shared) (mg mb : Str -> Option Value) (fa : Addr) (o : Obj) (pm cd doc : Value) (a : Addr) (vs : List Value) (ns : List Int),
   Ground q loose [] XP w s₀ mg mb s₁.heap->YP w s₁.heap ->
   s₁.heap.get? fa=some o->o.data = .func (docDef d.name d.params d.body d.scope pm cd doc)->s₁.heap.CodeRec cd d.name->mg d.name=some (.ref fa) ->
   s₁.heap.get? a=some { cls:=.type "list",data:=.seq vs.toArray }->IntsAre vs ns->ns.length<=n->s₁.gens=#[] ->
   codeAny (model l.prog w) callerA (.call (.ref fa) ⟨[.ref a],[]⟩) (fun r s'=>r = .ok (.ret (.bool true))/\OldK s₁.heap s'.heap/\s'.os=s₁.os/\AllBare s'.gens) s₁) :
  WalkO q loose XP YP l.row.toRowW d [] (fun f vs=>PySem.call f vs):=by
 intro w s₀ s₁ mg mb G Y fa o pm cd doc dV kV ho hd hcd hD hmg hg args vals as hpre hlay hrd hwl hlo
 obtain rfl:dV = .none:=Dflts.none hD hdf
 obtain rfl:kV = .none:=Dflts.noKw hD
 obtain⟨a,vs,ns,rfl,rfl,hobj,hints,hlen⟩:=RB hn hpre hwl
 refine enter_call (codeAny_mono (call w s₀ s₁ mg mb fa o pm cd doc a vs ns G Y ho (fd_plain hd) hcd hmg hobj hints hlen hg) fun r s' hq=>?_)
 obtain⟨rfl,h2,h3,h4⟩:=hq
 exact⟨.inl ⟨.bool true,.bool true,[],rfl,fun _=>rfl,.bool true,RG l _,fun _=>⟨List.Pairwise.nil,fun _ hm=>(nomatch hm)⟩⟩,h2,h3,h4⟩
section
variable {prog:Program} {w:World} {A:Around} {E:Value->Shared->Prop} {s:Shared} {K:Frag}
end
end Att
namespace L2
open PySem PySem.Spec PyProof.Rows
theorem L5:∀{vs:List Value} {ns:List Int},IntsAre vs ns->Vals (ns.map V.int) vs
 |_,_,.nil=>.nil
 |_,_,.cons n t h=>.cons ⟨t,rfl⟩ (L5 h)
def WM(H:Hp):Prop:=∀b,H b=none\/∃o xs,H b=some (.frz o (.lst xs))
theorem Si{P:Program}{w:World}{K:PySem.W.Frag}{mg mb:Str->Option Value}{CX:CXT}{k:Nat}{fa a:Addr}{fd:FuncData}{x:Str}{sp:Sp}{s₁:Shared}{vs:List Value}{ns:List Int}
  (KX:K.In s₁.heap) (hns:s₁.heap.Ns mainGlobals mg) (hb:s₁.heap.Ns builtinsNs mb) (hbb:∀x:Str,x≠"__name__"->mb x=bootBuiltins x) (hlim:s₁.heap.NoLimit) (hg:s₁.gens=#[])
  (ha:s₁.heap.get? a=some { cls:=.type "list",data:=.seq vs.toArray }) (hi:IntsAre vs ns) (hl:ns.length<=sizeLine) (hr:Room k callerA)
  (F:∀base:Heap,K.In base->base.Ns mainGlobals mg->FnOk P w K mg base CX k fa fd [x] sp) (hbind:∀(s:Shared) (u:Value),BindsTo s fd ⟨[u],[]⟩ [(x,u)])
  (hsp:∀H:Hp,WM H->SqL K H a (ns.map V.int)->sp [.ref a] H (fun v _=>v = .bl true) fun _ _ _=>False)
  (hCX:∀H e s',CX [] H s₁ (fun _ _ _=>False) e s'->False) :
  codeAny (model P w) callerA (.call (.ref fa) ⟨[.ref a],[]⟩) (fun r s'=>r = .ok (.ret (.bool true))/\OldK s₁.heap s'.heap/\s'.os=s₁.os/\AllBare s'.gens) s₁:=by
 have rv:=L5 hi
 have lenV:=hi.length
 -- from an abstract heap in which nothing but the script may be tracked
 have core:∀H:Hp,WM H->SqL K H a (ns.map V.int)->HOk P w H s₁.heap->(∀b,H b≠none->b=a)->(H a≠none->K.lookup a=none) ->
   codeAny (model P w) callerA (.call (.ref fa) ⟨[.ref a],[]⟩) (fun r s'=>r = .ok (.ret (.bool true))/\OldK s₁.heap s'.heap/\s'.os=s₁.os/\AllBare s'.gens) s₁:=by
  intro H hO hS hok hA hK
  have base_of:∀{b:Addr} {o:Obj},s₁.heap.get? b=some o->H b=none->(Np s₁.heap H).get? b=some o:=fun e n=>Sw e n
  have noA:∀{b:Addr} {o:Obj} {es:Array DictEntry} {ep:Nat},s₁.heap.get? b=some o->o.data = .dict es ep->H b=none:=fun {b o es ep} e d=>by
   cases q:H b with
   |none=>rfl
   |some u =>
    have e':b=a:=hA b (by rw[q];simp)
    subst e'
    rw[ha]at e;cases e
    have d':Data.seq vs.toArray _=Data.dict es ep:=d
    cases d'
  have nsK:∀{b:Addr} {m:Str->Option Value},s₁.heap.Ns b m->(Np s₁.heap H).Ns b m:=fun {b m} ⟨o,es,ep,e,d,r⟩=>⟨o,es,ep,base_of e (noA e d),d,r⟩
  have hKb : K.In (Np s₁.heap H) := fun b o e => base_of (KX b o e) (by
   cases q:H b with
   |none=>rfl
   |some u =>
    have e':b=a:=hA b (by rw[q];simp)
    subst e'
    rw[hK (by rw[q];simp)]at e;cases e)
  have hM:Mod K mg (Np s₁.heap H):=⟨hKb,nsK hns,⟨mb,nsK hb,hbb⟩,let ⟨mc,h1,h2⟩:=hlim;⟨mc,nsK h1,h2⟩⟩
  have e0:Ur P w K mg (Np s₁.heap H) callerA [] s₁ H:=⟨rfl,hM,fun b o e=>T7 e,Nat.le_of_eq (RY _ _),trivial,fun b hb=>absurd (show b∈([]:List Addr) from hb) (by simp),hok,.of_eq hg⟩
  refine codeAny_mono ((F _ hKb (nsK hns)).run callerA [] s₁ H ⟨[.ref a],[]⟩ [.ref a] [.ref a] _ _ hr e0 (hbind s₁ (.ref a)) (.cons rfl .nil) (hsp H hO hS)) fun r s' h=>?_
  cases r with
  |error e=>exact(hCX H e s' h).elim
  |ok fl =>
   cases fl with
   |next=>exact False.elim h
   |brk=>exact False.elim h
   |cont=>exact False.elim h
   |ret u =>
    obtain⟨v,H',os,bare,un,hok',r',q⟩:=h
    have q':v = .bl true:=q
    subst q'
    obtain rfl:u=Value.bool true:=r'
    refine⟨rfl,OldK.of_keep fun b o e=>?_,os,bare⟩
    cases q:H b with
    |none=>exact un.keep b o e q (by intro z;exact absurd (show b∈([]:List Addr) from z) (by simp)) (by simp)
    |some u =>
     rcases hO b with z|⟨ob,xs,z⟩
     ·rw[q]at z;cases z
     ·have z2:=un.frzs b ob _ z
      obtain⟨e1,_⟩:=hok b _ z
      obtain⟨e2,_⟩:=hok' b _ z2
      rw[e]at e1;cases e1
      exact e2
 cases hk:K.lookup a with
 |some o =>
  -- the script is one of the module's own objects
  have e:=KX a o hk
  rw[ha]at e
  cases e
  refine core (fun _=>none) (fun _=>.inl rfl) (.inr ⟨_,vs.toArray,_,hk,rfl,rfl,rfl,by rw[List.size_toArray,lenV];exact hl,by simpa using rv⟩) (fun b u z=>by have z':(none:Option HO)=some u:=z;cases z') (fun b z=>absurd rfl z) fun z=>absurd rfl z
 |none =>
  refine core (fun b=>if b=a then some (.frz { cls:=.type "list",data:=.seq vs.toArray } (.lst (ns.map V.int))) else none) (fun b=>?_) (.inl (.inr ⟨{ cls:=.type "list",data:=.seq vs.toArray },if_pos rfl⟩)) (fun b u z=>?_) (fun b z=>?_) fun _=>hk
  ·by_cases hb:b=a
   ·exact .inr ⟨_,_,if_pos hb⟩
   ·exact .inl (if_neg hb)
  ·by_cases hb:b=a
   ·have z':=(if_pos hb).symm.trans z
    cases z'
    subst hb
    exact⟨ha,by rw[List.length_map];exact hl,vs,_,rv,ha⟩
   ·have z':=(if_neg hb).symm.trans z
    cases z'
  ·by_cases hb:b=a
   ·exact hb
   ·exact absurd (if_neg hb) z
end L2
namespace L2
open PySem PySem.Spec PyProof.Rows
theorem walk_of{l:PySem.W.OpenLaw}{n k:Nat}{q:Program}{loose:List Str}{XP:(Str->Option Value)->Heap->Prop}{YP:World->Heap->Prop}{d:DefRec}{K:Params->PySem.W.Frag}{CX:World->CXT}{sp:World->Sp}{x:Str}
  (hn:l.most=some n) (hn2:n<=sizeLine) (hdf:d.params.defaults=[]) (hr:Room k callerA)
  (hY:∀(w:World) (h:Heap),YP w h->(K w.params).In h)
  (F : ∀ (w : World) (mg : Str -> Option Value) (fa : Addr) (h : Heap), (K w.params).In h -> h.Ns mainGlobals mg -> mg d.name = some (.ref fa) ->
   ∃fd:FuncData,(∀(s:Shared) (u:Value),BindsTo s fd ⟨[u],[]⟩ [(x,u)]) /\
    ∀base:Heap,(K w.params).In base->base.Ns mainGlobals mg->FnOk l.prog w (K w.params) mg base (CX w) k fa fd [x] (sp w))
  (hsp:∀(w:World) (H:Hp) (a:Addr) (ns:List Int),ns.length<=n->WM H->SqL (K w.params) H a (ns.map V.int)->sp w [.ref a] H (fun v _=>v = .bl true) fun _ _ _=>False)
  (hCX:∀(w:World) (H:Hp) (s:Shared) (e:Value) (s':Shared),CX w [] H s (fun _ _ _=>False) e s'->False) :
  PySem.W.WalkO q loose XP YP l.row.toRowW d [] (fun f vs=>PySem.call f vs):=by
 refine Att.attach_call hn hdf fun w s₀ s₁ mg mb fa o pm cd doc a vs ns G Y ho hd hcd hmg hobj hints hlen hg=>?_
 have KX:=hY w _ Y
 obtain⟨fd,hb,hF⟩:=F w mg fa _ KX G.T.g hmg
 exact Si KX G.T.g G.T.b G.T.builtins G.T.nolimit hg hobj hints (Nat.le_trans hlen hn2) hr hF hb (fun H hO hS=>hsp w H a ns hlen hO hS) fun H e s'=>hCX w H s₁ e s'
end L2
namespace L2
open PySem PySem.Spec PyProof.Rows
def BQ(s:Stmt):Arguments:=match s with
 |.FunctionDef _ a _ _ _ _ _ _ _ _=>a
 |_=>{ posonlyargs:=[],args:=[],vararg:=none,kwonlyargs:=[],kw_defaults:=[],kwarg:=none,defaults:=[] }
def BI(s:Stmt):List Stmt:=match s with
 |.FunctionDef _ _ b _ _ _ _ _ _ _=>b
 |_=>[]
def AB(s:Stmt):Scope:=match s with
 |.FunctionDef _ _ _ _ _ _ sc _ _ _=>sc
 |_=>{ kind:=.function,names:=[],isGenerator:=false,isCoroutine:=false }
abbrev CX0:CXT:=fun _ _ _ _ _ _=>False
abbrev E0:XK:=fun _ _ _=>False
theorem Wh{X:Cx}:P6 CX0 X E0:=fun _ _ _ _ _ _ _ h=>h.elim
structure Fun(K:PySem.W.Frag)(x qual:Str)(st:Stmt)(f:Addr)(fd:FuncData):Prop where
 ex:∃(oc:Value) (od:Option Addr) (kV doc pm:Value) (an:Option Addr) (cdv ct:Value) (osl:Array (Option Value)),
  fd=PySem.W.fnOf x qual (BQ st) (BI st) (AB st) .none kV doc pm an cdv ct/\K.lookup f=some ⟨oc,od,.func fd,osl⟩/\PySem.W.codeIn K cdv qual=true
 kp:PySem.W.keepIn K (.ref f)=true
section
variable {P:Program} {w:World} {K:PySem.W.Frag} {mg:Str->Option Value} {base:Heap}
theorem Fun.ok{x qual:Str}{st:Stmt}{f:Addr}{fd:FuncData}{N ps:List Str}{k:Nat}{sp:Sp}(F:Fun K x qual st f fd)(S:Bb N ps (AB st))(len:∀vs H Q E,sp vs H Q E->vs.length=ps.length)
  (hbody : ∀ (cdv : Value) (A : Around) (outer : List Env) (s : Shared) (H : Hp) (vs : List V) (Q : VK) (E : XK), Room k (A.deeper (envOfC qual (AB st) s.heap.objs.size f cdv)) -> sp vs H Q E ->
   ∃t,PSs (Rq CX0 P w K mg base N qual (AB st) f cdv A outer s H E).nox (BI st) t/\t { nx:=fun _ H'=>Q .non H',rt:=Q } (start N vs) H):FnOk P w K mg base CX0 (k+1) f fd ps sp:=by
 obtain⟨oc,od,kV,doc,pm,an,cdv,ct,osl,rfl,lk,hcd⟩:=F.ex
 refine Wz lk hcd S len fun A outer s H vs Q E hr hsp=>?_
 obtain⟨t,h,q⟩:=hbody cdv A outer s H vs Q E hr hsp
 exact⟨t,h.nox,q⟩
theorem Fun.binds{x qual:Str}{st:Stmt}{f:Addr}{fd:FuncData}{ps:List Str}(F:Fun K x qual st f fd)
  (h:∀(kV doc pm:Value) (an:Option Addr) (cdv ct:Value) (us:List Value),us.length=ps.length->bindArgs (PySem.W.fnOf x qual (BQ st) (BI st) (AB st) .none kV doc pm an cdv ct) ⟨us,[]⟩=pure (ps.zip us)):Binds K fd ps []:=by
 obtain⟨oc,od,kV,doc,pm,an,cdv,ct,osl,rfl,lk,hcd⟩:=F.ex
 exact .all (h kV doc pm an cdv ct)
theorem Cm{x qual:Str}{st:Stmt}{f:Addr}{oc:Value}{od an:Option Addr}{osl:Array (Option Value)}{kV doc pm cdv ct:Value}(l:K.lookup f=some ⟨oc,od,.func (PySem.W.fnOf x qual (BQ st) (BI st) (AB st) .none kV doc pm an cdv ct),osl⟩)
  (c:PySem.W.codeIn K cdv qual=true) (k:PySem.W.keepIn K (.ref f)=true):Fun K x qual st f (PySem.W.fnOf x qual (BQ st) (BI st) (AB st) .none kV doc pm an cdv ct):=⟨⟨oc,od,kV,doc,pm,an,cdv,ct,osl,rfl,l,c⟩,k⟩
end
section
variable {X:Cx}
theorem pv(i:Nat){x:Str}{pos:Pos}(hN:X.N[i]?=some x:=by rfl)(hv:Vis X.env.scope x:=by first|exact Or.inl rfl|exact Or.inr (Or.inl rfl)|exact Or.inr (Or.inr rfl))(hd:(x==("__debug__":Str))=false:=by decide)
  (hcd:(x==("__classdict__":Str))=false:=by decide):PE X (.Name x pos) (FL i):=Ve hN hv hd hcd
end
def Same(H H':Hp):Prop:=∀b o,H b=some o->H' b=some o
theorem Same.trans{H H1 H2:Hp}(a:Same H H1)(b:Same H1 H2):Same H H2:=fun c o h=>b c o (a c o h)
theorem Same.seq{K:PySem.W.Frag}{H H':Hp}{a:Addr}{xs:List V}(e:Same H H')(h:SqL K H a xs):SqL K H' a xs:=by
 rcases h with (h|⟨o,h⟩)|h
 ·exact .inl (.inl (e _ _ h))
 ·exact .inl (.inr ⟨o,e _ _ h⟩)
 ·exact .inr h
end L2
end
section
namespace L2
open PySem PySem.Spec PyProof.Rows
def Bd(n:Nat)(x:Int):Prop:=x.natAbs<2 ^ n
theorem Bd.mono{m n:Nat}{x:Int}(h:Bd m x)(k:m<=n):Bd n x:=Nat.lt_of_lt_of_le h (Nat.pow_le_pow_right (by decide) k)
theorem Bd.bits{n:Nat}{x:Int}(h:Bd n x):Builtin.Int.intBits x<=n+1:=by
 unfold Builtin.Int.intBits
 split
 ·exact Nat.zero_le _
 ·have:x.natAbs.log2<=n:=by
   rcases Nat.eq_zero_or_pos x.natAbs with h0|hp
   ·rw[h0];simp
   ·exact Nat.le_of_lt ((Nat.log2_lt (Nat.ne_of_gt hp)).mpr h)
  omega
theorem Bd.log{n:Nat}{x:Int}(h:Bd n x):x.natAbs.log2<=n:=by
 rcases Nat.eq_zero_or_pos x.natAbs with h0|hp
 ·rw[h0];simp
 ·exact Nat.le_of_lt ((Nat.log2_lt (Nat.ne_of_gt hp)).mpr h)
theorem Bd.of{n:Nat}{x m:Int}(h1:-m<=x)(h2:x<=m)(hm:m.natAbs<2 ^ n):Bd n x:=by
 unfold Bd
 omega
section
variable {X:Cx}
def CMulB(i j:Int):Prop:=CMul i j\/(Bd 8000 i/\Bd 8000 j)
theorem CMulB.ok{i j:Int}(h:CMulB i j):IntMulOk i j:=by
 rcases h with h|⟨h,k⟩
 ·exact h.ok
 ·have a:=h.bits
  have b:=k.bits
  have e:(2:Nat) ^ 20=1048576:=by decide
  exact IntMulOk.of_bits (by omega) (by omega)
theorem NM:OpR X (binaryOp .Mult) (rI CMulB fun i j=>.int (i*j)):=opI fun _ _ _ _ _ _ _ hc q=>mul_int q hc.ok
def O7(i j:Int):Prop:=0<j/\Bd 8000 j
theorem SS:OpR X (binaryOp .FloorDiv) (rI O7 fun i j=>.int (i / j)):=opI fun i j _ _ _ _ _ hc q=>by
 have:=hc.2.log
 rw[<- Int.fdiv_eq_ediv_of_nonneg _ (Int.le_of_lt hc.1)]at q
 exact floordiv_int (by have:=hc.1;omega) q (.inl (PyProof.noPylong_of_log2 (by omega)))
def VR(i j:Int):Prop:=j≠0/\Bd 8000 j
end
mutual
def Is(H:Hp):PyData->V->Prop
 |.none,v=>v = .non
 |.bool b,v=>v = .bl b
 |.int i,v=>v = .int i
 |.str x,v=>v = .str x
 |.tuple ds,v=>∃a vs,v = .ref a/\H a=some (.tup vs)/\IsL H ds vs
 |.list ds,v=>∃a vs,v = .ref a/\H a=some (.lst vs)/\IsL H ds vs
 |.dict _,_=>False
def IsL(H:Hp):List PyData->List V->Prop
 |[],vs=>vs=[]
 |d::ds,vs=>∃x xs,vs=x::xs/\Is H d x/\IsL H ds xs
end
mutual
def Dm:PyData->Bool
 |.none=>true
 |.bool _=>true
 |.int _=>true
 |.str _=>true
 |.tuple ds=>fixDs ds
 |.list _=>false
 |.dict _=>false
def fixDs:List PyData->Bool
 |[]=>true
 |d::ds=>Dm d&&fixDs ds
end
section
variable {X:Cx} {pins:List (Addr×Obj)} {σ:St} {H:Hp} {s:Shared}
end
def okD(d:PyData):Bool:=SeqAt.shaped d
section
variable {X:Cx}
end
structure Cal(P:Program)(w:World)(K:PySem.W.Frag)(mg:Str->Option Value)(base:Heap)(k:Nat)(x:Str)(ps:List Str)(sp:Sp):Prop where
 ex:∃f fd,FnOk P w K mg base CX0 k f fd ps sp/\Binds K fd ps []/\PySem.W.keepIn K (.ref f)=true/\mg x=some (.ref f)
theorem Cal.mono{P:Program}{w:World}{K:PySem.W.Frag}{mg:Str->Option Value}{base:Heap}{j k:Nat}{x:Str}{ps:List Str}{sp:Sp}(C:Cal P w K mg base j x ps sp)(h:j<=k):Cal P w K mg base k x ps sp:=by
 obtain⟨f,fd,F,b,kp,m⟩:=C.ex
 exact⟨f,fd,F.mono h,b,kp,m⟩
theorem Cal.of{P:Program}{w:World}{K:PySem.W.Frag}{mg:Str->Option Value}{base:Heap}{k:Nat}{x:Str}{ps:List Str}{sp:Sp}{f:Addr}{fd:FuncData}{st:Stmt}(F:Fun K x x st f fd)(ok:FnOk P w K mg base CX0 k f fd ps sp)(b:Binds K fd ps [])(m:mg x=some (.ref f)):Cal P w K mg base k x ps sp:=⟨f,fd,ok,b,F.kp,m⟩
section
variable {X:Cx} {k:Nat} {ps:List Str} {sp:Sp} {x:Str} {p pos:Pos} {e:Expr} {es:List Expr} {t:TA}
theorem AU(C:Cal X.prog X.w X.K X.mg X.base k x ps sp)(hr:Room k X.A)(hg:Gl X x)(ha:PA X (e::es) t)(hdb:(x==("__debug__":Str))=false:=by decide)
  (he:starEach (e::es) X.env=(false,eval e X.env)::starEach es X.env:=by rfl) (hpl:(backTo pos (starEach es X.env)).any (·.1)=false:=by rfl) :
  PE X (.Call (.Name x p) (e::es) [] pos) (MA sp [] E0 t):=by
 obtain⟨f,fd,F,b,kp,m⟩:=C.ex
 exact Ty F hr hg m kp b .nil Wh ha hdb he hpl
end
theorem Kj{X:Cx}{x:Str}{T:String}{pos:Pos}(hg:Gl X x)(hm:X.mg x=none)(hv:bootBuiltins x=some (.type T))(hn:x≠"__name__")(hd:(x==("__debug__":Str))=false):PE X (.Name x pos) (tC (.ty T)):=Tz hg hm hv rfl hn hd
theorem BS{H:Hp}{p:Addr}(h:H p=none)(o:HO):Same H (upd H p o):=fun b u q=>by rw[AO (Am q h)];exact q
theorem Sl{K:PySem.W.Frag}(T:String):PySem.W.kitOne K (.type T) (.type T)=some true:=by
 unfold PySem.W.kitOne
 rw[if_pos (beq_self_eq_true _)]
theorem Vr{K:PySem.W.Frag}{t T:String}{b:Bool}(h1:(Value.type t==Value.type T)=false)(h2:PySem.W.kitMeta T=true)(h3:(PySem.fastBuiltinMro t).map (·.contains (Value.type T))=some b):PySem.W.kitOne K (.type t) (.type T)=some b:=by
 unfold PySem.W.kitOne PySem.W.kitCls
 rw[h1,if_neg Bool.false_ne_true]
 simp only[h2,if_true]
 exact h3
end L2
end
section
namespace L2
open PySem PySem.Spec PyProof.Rows
theorem Nz{env:Env}:∀(names:List (Str×NameKind)) (cs:List (Str×Addr)),(∀x,(x,NameKind.free)∈names->∃c,env.cells.lookup x=some c) ->
  (∀x c,cs.lookup x=some c->env.cells.lookup x=some c) ->
  ∃ cl, (forIn names cs fun (x : Str × NameKind) (r : List (Str × Addr)) => match x with
   |(name,kind)=>if (kind==NameKind.free)=true then do let c <- cellOf env name;pure (ForInStep.yield ((name,c)::r)) else pure (ForInStep.yield r):Sem (List (Str×Addr)))=pure cl /\
   (∀x c,cl.lookup x=some c->env.cells.lookup x=some c)/\(∀x,(x,NameKind.free)∈names->∃c,cl.lookup x=some c)/\(∀x c,cs.lookup x=some c->∃c',cl.lookup x=some c')
 |[],cs,_,h2=>⟨cs,rfl,h2,fun x hx=>by simp at hx,fun x c e=>⟨c,e⟩⟩
 |(n,k)::r,cs,h1,h2=>by
  by_cases hk:k = .free
  ·subst hk
   obtain⟨c,hc⟩:=h1 n List.mem_cons_self
   have hh:∀x c',((n,c)::cs).lookup x=some c'->env.cells.lookup x=some c':=by
    intro x c' e
    rw[List.lookup_cons]at e
    cases q:x==n with
    |true=>rw[q]at e;cases e;rw[eq_of_beq q];exact hc
    |false=>rw[q]at e;exact h2 x c' e
   obtain⟨cl,e,a,b,d⟩:=Nz (env:=env) r ((n,c)::cs) (fun x hx=>h1 x (List.mem_cons_of_mem _ hx)) hh
   refine⟨cl,?_,a,fun x hx=>?_,fun x c' e'=>?_⟩
   ·rw[List.forIn_cons]
    have ec:cellOf env n=pure c:=by
     unfold cellOf
     rw[hc]
    simp only[beq_self_eq_true,if_true]
    rw[ec]
    exact e
   ·rcases List.mem_cons.mp hx with z|z
    ·cases z
     exact d n c (by rw[List.lookup_cons,beq_self_eq_true])
    ·exact b x z
   ·cases q:x==n with
    |true=>exact d x c (by rw[List.lookup_cons,q])
    |false=>exact d x c' (by rw[List.lookup_cons,q];exact e')
  ·obtain⟨cl,e,a,b,d⟩:=Nz (env:=env) r cs (fun x hx=>h1 x (List.mem_cons_of_mem _ hx)) h2
   refine⟨cl,?_,a,fun x hx=>?_,d⟩
   ·rw[List.forIn_cons]
    have hb:(k==NameKind.free)=false:=by simpa using hk
    simp only[hb,Bool.false_eq_true,if_false]
    exact e
   ·rcases List.mem_cons.mp hx with z|z
    ·cases z;exact absurd rfl hk
    ·exact b x z
theorem Qv{env:Env}{scope:Scope}(h:∀x,(x,NameKind.free)∈scope.names->∃c,env.cells.lookup x=some c) :
  ∃cl,closureFor scope env=pure cl/\(∀x c,cl.lookup x=some c->env.cells.lookup x=some c)/\(∀x,(x,NameKind.free)∈scope.names->∃c,cl.lookup x=some c):=by
 obtain⟨cl,e,a,b,_⟩:=Nz (env:=env) scope.names [] h (fun x c e=>by simp at e)
 refine⟨cl,?_,a,b⟩
 exact(congrArg (fun m:Sem (List (Str×Addr))=>m >>= fun r=>(pure r:Sem (List (Str×Addr)))) e).trans rfl
theorem Rr{prog:Program}{w:World}{A:Around}{R:Result->Shared->Prop}{s:Shared}{elt target iter:Expr}{ifs:List Expr}{scope:Scope}{pos:Pos}{it acc:Value}{env:Env}(I:Nat->Shared->Prop)
  (turn : ∀ n s, I n s -> wpAny (model prog w) A (pyNext it) (fun r s₁ => match r with
   |none=>R (.ok .next) s₁
   | some v => wpAny (model prog w) A (letOwnedTupleGo target it v) (fun _ s₁ => wpAny (model prog w) A (assign target env v) (fun _ s₂ =>
     wpAny (model prog w) A (forIn ifs true fun c r => if r = true then do let ok <- isTrue c env (eval c env); pure (ForInStep.yield ok) else pure (ForInStep.yield r)) (fun ok s₃ =>
      if ok = true then wpAny (model prog w) A (eval elt env) (fun x s₄ =>
       wpAny (model prog w) A (call (.builtin "list.append") [acc,x]) (fun _ s₅=>∃m,m<n/\I m s₅) (fun _ _=>False) s₄) (fun _ _=>False) s₃
      else ∃m,m<n/\I m s₃) (fun _ _=>False) s₂) (fun _ _=>False) s₁) (fun _ _=>False) s₁) (fun _ _=>False) s)
  (n:Nat) (h:I n s) :
  codeAny (model prog w) A (.compLoop (.ListComp elt [⟨target,iter,ifs,0⟩] scope pos) 0 it acc env) R s:=by
 refine codeAny_loop rfl I (fun n s hI=>?_) n h
 show wpAny _ A ((compTurn (.ListComp elt [⟨target,iter,ifs,0⟩] scope pos) 0 it acc env).onRaise (fun x=>do noteFrame x env;theTreesLotGoes x)) _ _ s
 refine wpAny_noted ?_
 rw[compTurn_list]
 refine wpAny_bind (wpAny_standAt (wpAny_bind (wpAny_mono (turn n s hI) (fun r s₁ h₁=>?_) fun _ _ h'=>h'.elim)))
 cases r with
 |none=>exact wpAny_pure h₁
 |some v =>
  refine wpAny_bind (wpAny_mono h₁ (fun _ s₁ h₁=>?_) fun _ _ h'=>h'.elim)
  refine wpAny_bind (wpAny_mono h₁ (fun _ s₂ h₂=>wpAny_bind (wpAny_mono h₂ (fun ok s₃ h₃=>?_) fun _ _ h'=>h'.elim)) fun _ _ h'=>h'.elim)
  cases ok with
  |false=>exact wpAny_pure ⟨rfl,h₃⟩
  |true =>
   exact wpAny_bind (wpAny_bind (wpAny_mono h₃ (fun x s₄ h₄=>wpAny_bind (wpAny_mono h₄ (fun _ s₅ h₅=>wpAny_pure (wpAny_pure ⟨rfl,h₅⟩)) fun _ _ h'=>h'.elim)) fun _ _ h'=>h'.elim))
theorem Hf{env:Env}:∀{names:List (Str×NameKind)} {x:Str} {k:NameKind},names.lookup x=some k ->
  (names.map fun(n,k)=>if (k==NameKind.free&&env.scope.kind==.function&&env.kindOf n==some .cell) then (n,NameKind.cell) else (n,k)).lookup x=some k \/
  (k = .free/\(names.map fun(n,k)=>if (k==NameKind.free&&env.scope.kind==.function&&env.kindOf n==some .cell) then (n,NameKind.cell) else (n,k)).lookup x=some .cell)
 |[],_,_,h=>by simp at h
 |(n,k')::r,x,k,h=>by
  rw[List.map_cons]
  dsimp only
  cases hx:x==n with
  |true =>
   simp only[List.lookup_cons,hx]at h
   have e:k=k':=(Option.some.inj h).symm
   subst e
   by_cases hc:(k==NameKind.free&&env.scope.kind==.function&&env.kindOf n==some .cell)=true
   ·rw[if_pos hc]
    refine .inr ⟨?_,by simp only[List.lookup_cons,hx]⟩
    simp only[Bool.and_eq_true]at hc
    exact eq_of_beq hc.1.1
   ·rw[if_neg hc]
    exact .inl (by simp only[List.lookup_cons,hx])
  |false =>
   simp only[List.lookup_cons,hx]at h
   have ih:=@Hf env r x k h
   by_cases hc:(k'==NameKind.free&&env.scope.kind==.function&&env.kindOf n==some .cell)=true
   ·rw[if_pos hc];simp only[List.lookup_cons,hx];exact ih
   ·rw[if_neg hc];simp only[List.lookup_cons,hx];exact ih
theorem Fj{env:Env}:∀{names:List (Str×NameKind)} {x:Str} {k:NameKind},(∀y∈names,y.2≠.cell) ->
  (names.map fun(n,k)=>if (k==NameKind.free&&env.scope.kind==.function&&env.kindOf n==some .cell) then (n,NameKind.cell) else (n,k)).lookup x=some k->(k = .cell\/k = .free)->(x,NameKind.free)∈names
 |[],_,_,_,h,_=>by simp at h
 |(n,k')::r,x,k,nc,h,hk=>by
  rw[List.map_cons]at h
  dsimp only at h
  cases hx:x==n with
  |true =>
   have e:=eq_of_beq hx
   subst e
   by_cases hc:(k'==NameKind.free&&env.scope.kind==.function&&env.kindOf x==some .cell)=true
   ·simp only[Bool.and_eq_true]at hc
    rw[eq_of_beq hc.1.1]
    exact List.mem_cons_self
   ·rw[if_neg hc,List.lookup_cons,hx]at h
    cases h
    rcases hk with rfl|rfl
    ·exact absurd rfl (nc _ List.mem_cons_self)
    ·exact List.mem_cons_self
  |false =>
   refine List.mem_cons_of_mem _ (Fj (env:=env) (fun y hy=>nc y (List.mem_cons_of_mem _ hy)) ?_ hk)
   by_cases hc:(k'==NameKind.free&&env.scope.kind==.function&&env.kindOf n==some .cell)=true
   ·rw[if_pos hc,List.lookup_cons,hx]at h;exact h
   ·rw[if_neg hc,List.lookup_cons,hx]at h;exact h
theorem Bf{scope:Scope}{env:Env}{x:Str}(h:scope.names.lookup x=some .local):(relabel scope env).names.lookup x=some .local:=lookup_relabel_local h
theorem IF{scope:Scope}{env:Env}{x:Str}(h:scope.names.lookup x=some .globalImplicit):(relabel scope env).names.lookup x=some .globalImplicit:=by
 rcases Hf (env:=env) h with z|⟨z,_⟩
 ·exact z
 ·cases z
theorem NG{scope:Scope}{env:Env}{x:Str}(h:scope.names.lookup x=some .free):(relabel scope env).names.lookup x=some .cell\/(relabel scope env).names.lookup x=some .free:=by
 rcases Hf (env:=env) h with z|⟨_,z⟩
 ·exact .inr z
 ·exact .inl z
theorem BM{scope:Scope}{env:Env}{x:Str}(h:scope.names.lookup x=some .local):Vis (relabel scope env) x:=.inl (Bf h)
theorem Bk{scope:Scope}{env:Env}{x:Str}(h:scope.names.lookup x=some .free):Vis (relabel scope env) x:=(NG h).elim (fun z=>.inr (.inl z)) fun z=>.inr (.inr z)
theorem Ba{scope:Scope}{env:Env}{x:Str}(h:scope.names.lookup x=some .local):Loc (relabel scope env) x:=.inl (Bf h)
def blk(own:Nat)(fr:List Nat)(σ:St):St:=List.replicate own none++fr.map fun j=>(σ[j]?).join
def cxC(X:Cx)(N':List Str)(scope:Scope)(cl:List (Str×Addr))(fp:List Addr)(s3:Shared)(H3:Hp):Cx:={ X with
 N:=N',s₀:=s3,H₀:=H3,env:=compEnvC scope cl s3.heap.objs.size X.env,outer:=X.stack,stack:=X.stack,ex:=fp,fn:=fun _=>false,pn:=[],xe:=fun _ _=>False }
structure Rx(X:Cx)(N':List Str)(own:Nat)(fr:List Nat)(scope:Scope):Prop where
 kind:scope.kind = .function
 len:N'.length=own+fr.length
 cell:∀y∈scope.names,y.2≠.cell
 names:∀y∈scope.names,y.2 = .local->scope.names.lookup y.1=some .local
 free:∀x,(x,NameKind.free)∈scope.names->X.env.scope.names.lookup x=some .cell\/X.env.scope.names.lookup x=some .free
 slot:∀k j,fr[k]?=some j->∃x,N'[own+k]?=some x/\X.N[j]?=some x/\scope.names.lookup x=some .free
theorem Uf{own:Nat}{fr:List Nat}{σ:St}{i:Nat}{v:V}(h:(blk own fr σ)[i]?=some (some v)):∃k j,i=own+k/\fr[k]?=some j/\σ[j]?=some (some v):=by
 unfold blk at h
 by_cases hi:i<own
 ·rw[List.getElem?_append_left (by simpa using hi),List.getElem?_replicate,if_pos hi]at h
  cases h
 ·rw[List.getElem?_append_right (by simpa using hi),List.length_replicate,List.getElem?_map]at h
  cases e:fr[i-own]? with
  |none=>rw[e]at h;cases h
  |some j =>
   rw[e]at h
   simp only[Option.map_some,Option.some.injEq]at h
   refine⟨i-own,j,by omega,e,?_⟩
   cases q:σ[j]? with
   |none=>rw[q]at h;cases h
   |some o=>rw[q]at h;cases o with
    |none=>cases h
    |some u=>cases h;rfl
section
variable {X:Cx} {N':List Str} {own:Nat} {fr:List Nat} {scope:Scope}
theorem UM{pins:List (Addr×Obj)}{σ:St}{H3:Hp}{s3:Shared}{cl:List (Str×Addr)}{fp:List Addr}{h4:Heap}{tk:Nat}(ok:Rx X N' own fr scope)(I:Inv X pins σ H3 s3)(f2:∀b∈fp,Ji X pins H3 b)(flt:∀b∈fp,b<s3.heap.objs.size)
  (cl1:∀x c,cl.lookup x=some c->X.env.cells.lookup x=some c) (cl2:∀x,(x,NameKind.free)∈scope.names->∃c,cl.lookup x=some c)
  (m4:Str->Option Value) (n4:h4.Ns s3.heap.objs.size m4) (k4:∀b o,s3.heap.get? b=some o->h4.get? b=some o) :
  Inv (cxC X N' scope cl fp s3 H3) [] (blk own fr σ) H3 { s3 with heap:=h4,toks:=tk }:=by
 have stk:∀b,b∈frs X.stack->b∈X.env.locals::X.fs:=I.stkSub
 have exfs:∀b∈fp,b∉frs X.stack:=fun b hb z=>by
  rcases List.mem_cons.mp (stk b z)with e|e
  ·exact(f2 b hb).2.1 e
  ·exact(f2 b hb).2.2.1 e
 have okk:(cxC X N' scope cl fp s3 H3).Ok:=by
  refine ⟨I.ok.mod, ok.kind, I.ok.glob, I.ok.blt, Nat.le_refl _, fun x y c e1 e2 => I.ok.inj x y c (cl1 x c e1) (cl1 y c e2), fun x hx => ?_, fun x c hf => ?_, I.ok.hd, I.ok.frames, .inl rfl, fun b hb => ⟨Nat.ne_of_lt (flt b hb), fun x c e => (f2 b hb).2.2.2.2.1 x c (cl1 x c e)⟩,
   I.bs,Nat.le_trans I.ok.bsz I.sz,fun b o e hb=>?_,exfs,I.stack,I.stkFree⟩
  ·refine cl2 x ?_
   have hx:(relabel scope X.env).names.lookup x=some .cell\/(relabel scope X.env).names.lookup x=some .free:=hx
   rcases hx with hx|hx
   ·exact Fj (env:=X.env) ok.cell hx (.inl rfl)
   ·exact Fj (env:=X.env) ok.cell hx (.inr rfl)
  ·exact absurd (show false=true from hf) Bool.false_ne_true
  ·rcases(f2 b hb).2.2.2.1 with z|z
   ·exact I.ok.noex b o e z
   ·exact absurd (Nat.lt_of_lt_of_le (Heap.lt_size e) (Nat.le_trans I.ok.bsz z)) (Nat.lt_irrefl _)
 refine⟨okk,rfl,I.bare,Un.kept k4,⟨m4,n4,fun i x v e1 e2 e3=>?_⟩,fun x c e=>?_,I.hok.fresh (Nat.le_refl _),fun x c e=>I.freeC x c (cl1 x c e),fun p hp=>absurd (show p∈([]:List (Addr×Obj)) from hp) (by simp),I.hok.kept k4,?_⟩
 ·obtain⟨k,j,rfl,ej,es⟩:=Uf e2
  obtain⟨y,y1,y2,y0⟩:=ok.slot k j ej
  have y3:=PySem.mem_of_lookup y0
  rw[show(cxC X N' scope cl fp s3 H3).N=N' from rfl,y1]at e1
  cases e1
  obtain⟨m,hn,hl⟩:=I.loc
  have vis:Vis X.env.scope x:=(ok.free x y3).elim (fun z=>.inr (.inl z)) fun z=>.inr (.inr z)
  obtain⟨u,r,l⟩:=hl j x v y2 es vis
  refine⟨u,r,?_⟩
  rcases l with ⟨l,_⟩|⟨_,c,ec,z⟩
  ·exfalso
   have l':X.env.scope.names.lookup x=some .local:=l
   rcases ok.free x y3 with q|q
   ·rw[q]at l';cases l'
   ·rw[q]at l';cases l'
  ·obtain⟨c',ec'⟩:=cl2 x y3
   have:=cl1 x c' ec'
   rw[ec]at this
   cases this
   obtain⟨o,ho,hd⟩:=z
   refine .inr ⟨?_,c,ec',⟨o,k4 c o ho,hd⟩⟩
   rcases e3 with z|z|z
   ·exfalso
    have z':(relabel scope X.env).names.lookup x=some .local:=z
    rcases NG (env:=X.env) y0 with q|q
    ·rw[z']at q;cases q
    ·rw[z']at q;cases q
   ·exact .inl z
   ·exact .inr z
 ·obtain⟨v,o,ho,hd⟩:=I.cell x c (cl1 x c e)
  exact⟨v,o,k4 c o ho,hd⟩
 ·show(blk own fr σ).length=N'.length
  unfold blk
  rw[List.length_append,List.length_replicate,List.length_map,ok.len]
end
end L2
end
section
namespace L2
open PySem PySem.Spec PyProof.Rows
def PTs(X:Cx)(ifs:List Expr)(tc:TT):Prop :=
 ∀(pins:List (Addr×Obj)) (s:Shared) (σ:St) (H:Hp) (Q:Bool->Hp->Prop),Inv X pins σ H s->tc σ H Q->wpAny (model X.prog X.w) X.A (forIn ifs true fun c r=>if r=true then do let ok <- isTrue c X.env (eval c X.env);pure (ForInStep.yield ok) else pure (ForInStep.yield r)) (TP X pins σ Q) X.xe s
def WW:TT:=fun _ H Q=>Q true H
theorem Ep{X:Cx}:PTs X [] WW:=fun pins s σ H Q I h=>wpAny_tests_nil ⟨H,I,h⟩
theorem NK{X:Cx}{c:Expr}{tc:TT}(h:PT X c tc):PTs X [c] tc:=fun pins s σ H Q I hq=>wpAny_tests_one (h pins s σ H Q I hq)
def Ws(own:Nat)(fr:List Nat)(g:TG)(tc:TT)(te:TE)(J:It)(σ:St)(H1:Hp)(Q:VK):Prop:=∀D,H1 D=none->∃W:Nat->Nat->List V->St->Hp->Prop,(∃m,W 0 m [] (blk own fr σ) (upd H1 D (.lst [])))/\∀i m ys σ' H',W i m ys σ' H' ->
 (J.stop i H' /\ Q (.ref D) H') \/ (J.go i H' /\ ∀ x H2, J.yld i H' x H2 -> g x σ' H2 fun σ3 H3 => tc σ3 H3 fun b H4 => if b = true then te σ3 H4 fun y H5 => H5 D = some (.lst ys) /\ ys.length < sizeLine /\ ∃ m', m' < m /\ W (i + 1) m' (ys ++ [y]) σ3 (upd H5 D (.lst (ys ++ [y])))
  else ∃m',m'<m/\W (i+1) m' ys σ3 H4)
def tLC(own:Nat)(fr:List Nat)(wi:TI)(g:TG)(tc:TT)(te:TE):TE:=fun σ H Q=>wi σ H fun J H1=>Ws own fr g tc te J σ H1 Q
structure Own(X:Cx)(pins:List (Addr×Obj))(C:Addr)(H:Hp)(s:Shared):Prop where
 ns:∃m,s.heap.Ns C m
 hn:H C=none
 ne:C≠X.env.locals
 ab:X.s₀.heap.objs.size<=C
 nc:∀x c,X.env.cells.lookup x=some c->c≠C
 np:∀p∈X.pn++pins,p.1≠C
section
variable {X:Cx} {N':List Str} {own:Nat} {fr:List Nat} {scope:Scope} {elt tg iter:Expr} {ifs:List Expr} {pos:Pos}
theorem Own.go{pins:List (Addr×Obj)}{σ:St}{H:Hp}{s:Shared}{C:Addr}{h':Heap}(O:Own X pins C H s)(I:Inv X pins σ H s)(sb:Heap.SameBut C s.heap h'):Inv X pins σ H { s with heap:=h' } :=
 I.turned (t':=s.toks) (fun b o hb e=>sb.extBut b o hb e) O.hn O.ne (.inr O.ab) O.nc O.np
theorem Oy{pins:List (Addr×Obj)}{σ:St}{H2:Hp}{s2:Shared}{J:It}{fp:List Addr}{it:Addr}{tn:Nat->Heap->Prop}{cl:List (Str×Addr)}{Q:VK}{g:TG}{tc:TT}{te:TE}{RR:Value->Addr->Result->Shared->Prop}{E:Value->Shared->Prop}
  (hc:X.calm=true) (ok:Rx X N' own fr scope) (I2:Inv X pins σ H2 s2) (T:P5 X.prog X.w X.K tg J fp it tn) (st2:tn 0 s2.heap) (f2:∀b∈fp,Ji X pins H2 b)
  (cl1:∀x c,cl.lookup x=some c->X.env.cells.lookup x=some c) (cl2:∀x,(x,NameKind.free)∈scope.names->∃c,cl.lookup x=some c)
  (hg:∀fp s3 H3,PG (cxC X N' scope cl fp s3 H3) tg g) (ht:∀fp s3 H3,PTs (cxC X N' scope cl fp s3 H3) ifs tc) (he:∀fp s3 H3,PE (cxC X N' scope cl fp s3 H3) elt te)
  (h:Ws own fr g tc te J σ H2 Q)
  (fin:∀D C s' H',Inv X pins σ H' s'->Own X pins C H' s'->Q (.ref D) H'->RR (.ref D) C (.ok .next) s') :
  wpAny (model X.prog X.w) X.A (newList []) (fun acc s₃ => wpAny (model X.prog X.w) X.A (newFunctionEnv scope X.env.globals cl [] X.env.qual none .none (some X.env)) (fun cenv s₄ =>
   codeAny (model X.prog X.w) X.A (.compStart (.ListComp elt [⟨tg,iter,ifs,0⟩] scope pos) 0 (.ref it) acc { cenv with scope:=relabel scope X.env }) (RR acc cenv.locals) s₄) E s₃) E s2:=by
 obtain⟨W,⟨m0,w0⟩,turn⟩:=h s2.heap.objs.size (I2.hok.fresh (Nat.le_refl _))
 refine wpAny_newObj_type (wpAny_newFunctionEnv ok.cell (by intro y hy;simp at hy) (fun h₁ hns₁ hsb₁=>?_) ok.kind)
 dsimp only at hns₁ hsb₁ ⊢
 have I3:Inv X pins σ (upd H2 s2.heap.objs.size (.lst [])) { s2 with heap:=s2.heap.push { cls:=.type "list",dict:=none,data:=.seq ([]:List Value).toArray } } :=
  I2.laid (t':=s2.toks) (fun b u e=>Heap.get?_push_of_some _ e) (Nat.le_refl _) ⟨Nat.zero_le _,[],0,.nil,Heap.get?_push_size _ rfl⟩
 generalize hH3:upd H2 s2.heap.objs.size (.lst [])=H3 at w0 I3
 generalize hS3:({ s2 with heap:=s2.heap.push { cls:=.type "list",dict:=none,data:=.seq ([]:List Value).toArray } }:Shared)=S3 at I3
 have e3:s2.heap.push { cls:=.type "list",dict:=none,data:=.seq ([]:List Value).toArray }=S3.heap:=by rw[<- hS3]
 have k23:∀b o,s2.heap.get? b=some o->S3.heap.get? b=some o:=fun b o e=>by rw[<- e3];exact Heap.get?_push_of_some _ e
 rw[e3]at hns₁ hsb₁ ⊢
 have st3:tn 0 S3.heap:=T.keep _ _ _ st2 fun b _ o e=>k23 b o e
 have flt:∀b∈fp,b<S3.heap.objs.size:=fun b hb=>by
  obtain⟨o,e,_⟩:=T.obj _ _ st3 b hb
  exact Heap.lt_size e
 have flt2:∀b∈fp,b<s2.heap.objs.size:=fun b hb=>by
  obtain⟨o,e,_⟩:=T.obj _ _ st2 b hb
  exact Heap.lt_size e
 have f3:∀b∈fp,Ji X pins H3 b:=fun b hb=>by
  refine⟨?_,(f2 b hb).2⟩
  rw[<- hH3,AO (Nat.ne_of_lt (flt2 b hb))]
  exact(f2 b hb).1
 have k34:∀b o,S3.heap.get? b=some o->h₁.get? b=some o:=fun b o e=>hsb₁.extBut b o (Nat.ne_of_lt (Heap.lt_size e)) (Heap.get?_push_of_some _ e)
 have I4:Inv (cxC X N' scope cl fp S3 H3) [] (blk own fr σ) H3 { S3 with heap:=h₁,toks:=s2.toks+([]:List (Str×Value)).length }:=UM ok I3 f3 flt cl1 cl2 _ hns₁ k34
 have st4:tn 0 h₁:=T.keep _ _ _ st3 fun b _ o e=>k34 b o e
 -- back in the def
 have back:∀{σ' H' s'},Inv (cxC X N' scope cl fp S3 H3) [] σ' H' s'->Inv X pins σ H' s'/\Own X pins S3.heap.objs.size H' s':=fun {σ' H' s'} I'=>by
  have J1:Inv X pins σ H' s':=I3.call' I'.os I'.base I'.hok I'.bare fun b hb=>⟨(f3 b hb).2.2.2.1,(f3 b hb).2.1,(f3 b hb).2.2.2.2⟩
  refine⟨J1,⟨let ⟨m,hn,_⟩:=I'.loc;⟨m,hn⟩,I'.free,Nat.ne_of_gt I3.lt,I3.sz,fun x c e z=>?_,fun p hp z=>?_⟩⟩
  ·obtain⟨v,q⟩:=I3.cell x c e
   exact absurd q.lt (by rw[z];exact Nat.lt_irrefl _)
  ·exact absurd (Heap.lt_size (I3.pin p hp).1) (by rw[z];exact Nat.lt_irrefl _)
 have stat:∀{H':Hp},(∀b∈fp,H' b=none)->∀b∈fp,Ji (cxC X N' scope cl fp S3 H3) [] H' b:=fun hn b hb =>
  ⟨hn b hb,(I4.ok.exf b hb).1,I4.ok.exfs b hb,.inl hb,(I4.ok.exf b hb).2,fun p hp=>absurd (show p∈([]:List (Addr×Obj)) from hp) (by simp)⟩
 have loop:codeAny (model X.prog X.w) X.A (.compLoop (.ListComp elt [⟨tg,iter,ifs,0⟩] scope pos) 0 (.ref it) (.ref s2.heap.objs.size) (cxC X N' scope cl fp S3 H3).env) (RR (.ref s2.heap.objs.size) S3.heap.objs.size) { S3 with heap:=h₁,toks:=s2.toks+([]:List (Str×Value)).length }:=by
  refine Rr (fun n s'=>∃i ys σ' H',Inv (cxC X N' scope cl fp S3 H3) [] σ' H' s'/\tn i s'.heap/\(∀b∈fp,H' b=none)/\W i n ys σ' H') ?_ m0 ⟨0,[],_,H3,I4,st4,fun b hb=>(f3 b hb).1,w0⟩
  rintro n s5 ⟨i,ys,σ5,H5,I5,st5,fr5,w5⟩
  rcases turn i n ys σ5 H5 w5 with ⟨stop,qn⟩|⟨go,step⟩
  ·refine thn (T.done (cxC X N' scope cl fp S3 H3) rfl rfl rfl hc i [] s5 σ5 H5 (fun _ _=>False) I5 (stat fr5) st5 stop) fun r s6 ⟨hr,I6⟩=>?_
   subst hr
   obtain⟨J1,O⟩:=back I6
   exact fin _ _ s6 H5 J1 O qn
  ·refine thn (T.item (cxC X N' scope cl fp S3 H3) rfl rfl rfl hc i [] s5 σ5 H5 (fun _ _=>False) I5 (stat fr5) st5 go) fun r s6 ⟨u,hr,h6⟩=>?_
   subst hr
   refine thn h6 fun _ s7 ⟨x,H7,I7,r7,y7,st7,fr7⟩=>?_
   have I7':=I7.pinned (stat fr7) (T.obj _ _ st7)
   refine thn (hg fp S3 H3 _ s7 σ5 H7 x u _ I7' r7 (step x H7 y7)) fun _ s8 ⟨σ8,H8,I8,q8⟩=>?_
   refine thn (ht fp S3 H3 _ s8 σ8 H8 _ I8 q8) fun b s9 ⟨H9,I9,q9⟩=>?_
   have again:∀{σ' H' s' m' ys'},m'<n->Inv (cxC X N' scope cl fp S3 H3) ([]++Kh fp s7.heap) σ' H' s'->W (i+1) m' ys' σ' H'->∃m,m<n/\∃i ys σ' H',Inv (cxC X N' scope cl fp S3 H3) [] σ' H' s'/\tn i s'.heap/\(∀b∈fp,H' b=none)/\W i m ys σ' H':=fun {σ' H' s' m' ys'} hm I' w'=>by
    refine⟨m',hm,i+1,ys',σ',H',I'.unpinned,T.keep _ _ _ st7 fun b hb o e=>(I'.pin (b,o) (List.mem_append_right _ (List.mem_append_right _ (Fk hb e)))).1,fun b hb=>?_,w'⟩
    obtain⟨o,e,d⟩:=T.obj _ _ st7 b hb
    exact(I'.pin (b,o) (List.mem_append_right _ (List.mem_append_right _ (Fk hb e)))).2.1
   cases b with
   |false =>
    rw[if_neg Bool.false_ne_true]at q9 ⊢
    obtain⟨m',hm,w9⟩:=q9
    exact again hm I9 w9
   |true =>
    rw[if_pos rfl]at q9 ⊢
    refine thn (he fp S3 H3 _ s9 σ8 H9 _ I9 q9) fun v s10 ⟨y,H10,I10,r10,q10⟩=>?_
    obtain⟨hD,hz,m',hm,w10⟩:=q10
    refine thn (Dk (X:=cxC X N' scope cl fp S3 H3) _ s10 σ8 H10 (.ref s2.heap.objs.size) [y] (.ref s2.heap.objs.size) [v] (fun _ H'=>W (i+1) m' (ys++[y]) σ8 H') I10 rfl (.cons r10 .nil) ⟨_,ys,y,rfl,rfl,hD,hz,w10⟩) fun v' s11 ⟨_,H11,I11,_,q11⟩=>?_
    exact again hm I11 q11
 subst hS3
 exact codeAny_compStart_list loop (T.self _ 0 _ _ _ st4 loop)
theorem Kk{wi:TI}{g:TG}{tc:TT}{te:TE}(hc:X.calm=true)(ok:Rx X N' own fr scope)(hi:PI X tg iter wi)
  (hg:∀cl fp s3 H3,PG (cxC X N' scope cl fp s3 H3) tg g) (ht:∀cl fp s3 H3,PTs (cxC X N' scope cl fp s3 H3) ifs tc) (he:∀cl fp s3 H3,PE (cxC X N' scope cl fp s3 H3) elt te)
  (hs:∀x,foldedSetIterable iter X.env x=pure x:=by intro _;rfl):PE X (.ListComp elt [⟨tg,iter,ifs,0⟩] scope pos) (tLC own fr wi g tc te):=by
 intro pins s σ H Q I h
 obtain⟨cl,ecl,cl1,cl2⟩:=Qv (env:=X.env) (scope:=scope) fun x hx=>I.ok.has x (ok.free x hx)
 rw[eval_ListComp]
 refine wpAny_comprehension_free (use:=none) rfl hs ecl ok.kind ok.names (thn (hi pins s σ H _ I h) fun v s1 h1=>thn h1 fun itv s2 h2=>?_)
 obtain⟨it,fp,tn,J,H2,rfl,I2,T,st2,f2,h2⟩:=h2
 refine Oy (RR:=fun acc C=>compPost (model X.prog X.w) X.A X.xe none (EP X pins σ Q) acc C) hc ok I2 T st2 f2 cl1 cl2 (hg cl) (ht cl) (he cl) h2 ?_
 intro D C s' H' J1 O q
 obtain⟨m,hn⟩:=O.ns
 exact⟨m,hn,fun h'' sb=>⟨.ref D,H',O.go J1 sb,rfl,q⟩⟩
theorem IK{wi:TI}{g:TG}{tc:TT}{te:TE}{i:Nat}{y:Str}{py spos:Pos}(hN:X.N.Nodup)(hiN:X.N[i]?=some y)(hy:X.env.scope.names.lookup y=some .local)(hc:X.calm=true)(ok:Rx X N' own fr scope)(hi:PI X tg iter wi)
  (hg:∀cl fp s3 H3,PG (cxC X N' scope cl fp s3 H3) tg g) (ht:∀cl fp s3 H3,PTs (cxC X N' scope cl fp s3 H3) ifs tc) (he:∀cl fp s3 H3,PE (cxC X N' scope cl fp s3 H3) elt te)
  (hsw:swapsWith (.ListComp elt [⟨tg,iter,ifs,0⟩] scope pos) (some (.Name y py)) spos.line X.env=pure true)
  (hs:∀x,foldedSetIterable iter X.env x=pure x:=by intro _;rfl):PS X (.Assign [.Name y py] (.ListComp elt [⟨tg,iter,ifs,0⟩] scope pos) spos) (fun D σ H=>tLC own fr wi g tc te σ H fun v H'=>D.nx (σ.set i (some v)) H'):=by
 intro pins s σ H D I h
 obtain⟨cl,ecl,cl1,cl2⟩:=Qv (env:=X.env) (scope:=scope) fun x hx=>I.ok.has x (ok.free x hx)
 rw[exec_Assign_Name_used _ _ _ _ hsw]
 refine wpAny_bind (wpAny_standAt (wpAny_bind ?_))
 show wpAny _ _ (do let _ <- comprehension (.ListComp elt [⟨tg,iter,ifs,0⟩] scope pos) scope X.env _ (newList []) false (eval iter X.env) (some (assign (.Name y py) X.env))) _ _ s
 refine wpAny_bind (wpAny_mono (wpAny_comprehension_free (use := some (assign (.Name y py) X.env)) (Q := fun _ s' => SP X pins D .next s') rfl hs ecl ok.kind ok.names
  (thn (hi pins s σ H _ I h) fun v s1 h1=>thn h1 fun itv s2 h2=>?_)) (fun _ s' hq=>wpAny_pure (wpAny_pure hq)) fun _ _ e=>e)
 obtain⟨it,fp,tn,J,H2,rfl,I2,T,st2,f2,h2⟩:=h2
 refine Oy (RR:=fun acc C=>compPost (model X.prog X.w) X.A X.xe (some (assign (.Name y py) X.env)) (fun _ s'=>SP X pins D .next s') acc C) hc ok I2 T st2 f2 cl1 cl2 (hg cl) (ht cl) (he cl) h2 ?_
 intro D' C s' H' J1 O q
 show wpAny _ _ (assign (.Name y py) X.env (.ref D')) _ _ _
 refine wpAny_assign_Name (MC J1 hN hiN (.inl hy) (v:=.ref D') rfl (fun s'' J2 sb=>?_) (.inr hy))
 obtain⟨m,hn⟩:=O.ns
 obtain⟨a,sb,ha⟩:=sb
 have nea:C≠a:=by
  rcases ha with ha|ha
  ·rw[ha];exact O.ne
  ·exact fun z=>O.nc y a ha z.symm
 refine⟨m,hn.sameBut sb nea,fun h'' sb'=>?_⟩
 have O2:Own X pins C H' s'':=⟨⟨m,hn.sameBut sb nea⟩,O.hn,O.ne,O.ab,O.nc,O.np⟩
 exact⟨_,H',O2.go J2 sb',q⟩
end
end L2
end
section
namespace DL
open PySem L2 PyProof.Rows
structure KW where
 fr:PySem.W.Frag
 w:World
instance:CoeOut KW PySem.W.Frag:=⟨KW.fr⟩
abbrev RT(X:Cx):KW:=⟨X.K,X.w⟩
def hT(ks:List Int):Int:=reduceHash (Builtin.Tuple.tupleHashOf (ks.map hashInt))
def GM(a:Addr)(ts:List (List Int×Addr×V))(ep:Nat):Heap->Prop:=fun h=>(a==sysModules)=false/\ts.length<=sizeLine/\(ts.map (·.1)).Nodup /\
 ∃xs:List (List Int×Addr×Value),Paired (fun(t:List Int×Addr×V) (x:List Int×Addr×Value)=>t.1=x.1/\t.2.1=x.2.1/\RelV t.2.2 x.2.2) ts xs /\
  ∃(o:Obj) (es:Array DictEntry),h.get? a=some o/\o.ExactDict/\o.data = .dict es ep/\es.toList=xs.map fun x=>⟨hT x.1,.ref x.2.1,x.2.2⟩
def HD(H:Hp)(a:Addr)(ts:List (List Int×Addr×V)):Prop:=∃ep,H a=some (.ext (GM a ts ep))
def txK(ts:List (Str×V)):List (Key×V):=ts.map fun t=>(Sum.inr t.1,t.2)
mutual
def Is(K:KW)(H:Hp):PyData->V->Prop
 |.none,v=>v = .non
 |.bool b,v=>v = .bl b
 |.int i,v=>v = .int i
 |.str x,v=>v = .str x
 |.tuple ds,v=>∃a vs,v = .ref a/\SqT K H a vs/\IsL K H ds vs
 |.list ds,v=>∃a vs,v = .ref a/\H a=some (.lst vs)/\IsL K H ds vs
 |.dict kvs,v=>∃a ts,v = .ref a/\HD H a ts/\IsKV K H kvs ts
def IsL(K:KW)(H:Hp):List PyData->List V->Prop
 |[],vs=>vs=[]
 |d::ds,vs=>∃x xs,vs=x::xs/\Is K H d x/\IsL K H ds xs
def IsKV(K:KW)(H:Hp):List (PyData×PyData)->List (List Int×Addr×V)->Prop
 |[],ts=>ts=[]
 |(k,d)::r,ts=>∃t tr,ts=t::tr/\k = .tuple (t.1.map PyData.int)/\SqT K H t.2.1 (t.1.map V.int)/\Is K H d t.2.2/\IsKV K H r tr
end
theorem Same.tup{K:KW}{H H':Hp}{a:Addr}{xs:List V}(e:Same H H')(h:SqT K H a xs):SqT K H' a xs:=by
 rcases h with (h|⟨o,h⟩)|h
 ·exact .inl (.inl (e _ _ h))
 ·exact .inl (.inr ⟨o,e _ _ h⟩)
 ·exact .inr h
def TSm(H H':Hp):Prop:=∀b o,H b=some o->(∀xs,o≠.lst xs)->(∀φ,o≠.ext φ)->H' b=some o
theorem TSm.tup{K:KW}{H H':Hp}{a:Addr}{xs:List V}(e:TSm H H')(h:SqT K H a xs):SqT K H' a xs:=by
 rcases h with (h|⟨o,h⟩)|h
 ·exact .inl (.inl (e _ _ h (fun _ z=>by cases z) fun _ z=>by cases z))
 ·exact .inl (.inr ⟨o,e _ _ h (fun _ z=>by cases z) fun _ z=>by cases z⟩)
 ·exact .inr h
section
variable {K:KW}
mutual
theorem Is.mono{H H':Hp}(s:Same H H'):∀{d:PyData} {v:V},Is K H d v->Is K H' d v
 |.none,_,h=>h
 |.bool _,_,h=>h
 |.int _,_,h=>h
 |.str _,_,h=>h
 |.tuple _,_,⟨a,vs,e,h,l⟩=>⟨a,vs,e,Same.tup s h,IsL.mono s l⟩
 |.list _,_,⟨a,vs,e,h,l⟩=>⟨a,vs,e,s _ _ h,IsL.mono s l⟩
 |.dict _,_,⟨a,ts,e,⟨ep,h⟩,l⟩=>⟨a,ts,e,⟨ep,s _ _ h⟩,IsKV.mono s l⟩
theorem IsL.mono{H H':Hp}(s:Same H H'):∀{ds:List PyData} {vs:List V},IsL K H ds vs->IsL K H' ds vs
 |[],_,h=>h
 |_::_,_,⟨x,xs,e,h,l⟩=>⟨x,xs,e,Is.mono s h,IsL.mono s l⟩
theorem IsKV.mono{H H':Hp}(s:Same H H'):∀{kvs:List (PyData×PyData)} {ts:List (List Int×Addr×V)},IsKV K H kvs ts->IsKV K H' kvs ts
 |[],_,h=>h
 |(_,_)::_,_,⟨t,tr,e,ek,hk,h,l⟩=>⟨t,tr,e,ek,Same.tup s hk,Is.mono s h,IsKV.mono s l⟩
end
mutual
theorem Is.monoT{H H':Hp}(s:TSm H H'):∀{d:PyData} {v:V},Dm d=true->Is K H d v->Is K H' d v
 |.none,_,_,h=>h
 |.bool _,_,_,h=>h
 |.int _,_,_,h=>h
 |.str _,_,_,h=>h
 |.tuple _,_,f,⟨a,vs,e,h,l⟩=>⟨a,vs,e,s.tup h,IsL.monoT s f l⟩
 |.list _,_,f,_=>absurd f Bool.false_ne_true
 |.dict _,_,f,_=>absurd f Bool.false_ne_true
theorem IsL.monoT{H H':Hp}(s:TSm H H'):∀{ds:List PyData} {vs:List V},fixDs ds=true->IsL K H ds vs->IsL K H' ds vs
 |[],_,_,h=>h
 |d::ds,_,f,⟨x,xs,e,h,l⟩=>⟨x,xs,e,Is.monoT s (by rw[fixDs,Bool.and_eq_true]at f;exact f.1) h,IsL.monoT s (by rw[fixDs,Bool.and_eq_true]at f;exact f.2) l⟩
end
theorem IsL.length{H:Hp}:∀{ds:List PyData} {vs:List V},IsL K H ds vs->vs.length=ds.length
 |[],_,h=>by rw[show _=[] from h];rfl
 |_::_,_,⟨x,xs,e,_,l⟩=>by rw[e,List.length_cons,List.length_cons,IsL.length l]
theorem IsL.get{H:Hp}:∀{ds:List PyData} {vs:List V} {i:Nat} {d:PyData},IsL K H ds vs->ds[i]?=some d->∃v,vs[i]?=some v/\Is K H d v
 |[],_,_,_,_,e=>by simp at e
 |d::ds,_,0,_,⟨x,xs,e,h,l⟩,q=>by
  subst e
  simp at q
  subst q
  exact⟨x,rfl,h⟩
 |d::ds,_,i+1,_,⟨x,xs,e,h,l⟩,q=>by
  subst e
  obtain⟨v,a,b⟩:=IsL.get (i:=i) l (by simpa using q)
  exact⟨v,by simpa using a,b⟩
end
section
variable {X:Cx} {pins:List (Addr×Obj)} {σ:L2.St} {H:Hp} {s:Shared}
mutual
theorem MH(I:Inv X pins σ H s):∀{d:PyData} {v:V} {u:Value},Is (RT X) H d v->RelV v u->∃as,Reads s.heap u d as
 |.none,_,_,h,r=>by subst h;cases r;exact⟨_,.none⟩
 |.bool _,_,_,h,r=>by subst h;cases r;exact⟨_,.bool _⟩
 |.int _,_,_,h,r=>by subst h;obtain⟨t,rfl⟩:=r;exact⟨_,.int _ _⟩
 |.str _,_,_,h,r=>by subst h;obtain⟨t,rfl⟩:=r;exact⟨_,.str _ _⟩
 |.tuple ds,_,_,⟨a,vs,e,h,l⟩,r=>by
  subst e;cases r
  obtain⟨its,rr,⟨o,e,c,n,q⟩,_⟩:=I.tuple h
  obtain⟨as,z⟩:=readsL I l rr
  exact⟨_,.tuple e c q z⟩
 |.list ds,_,_,⟨a,vs,e,h,l⟩,r=>by
  subst e;cases r
  obtain⟨_,its,n,rr,e⟩:=I.hok a _ h
  obtain⟨as,z⟩:=readsL I l rr
  exact⟨_,.list e rfl rfl z⟩
 |.dict kvs,_,_,⟨a,ts,e,⟨ep,h⟩,l⟩,r=>by
  subst e;cases r
  obtain⟨⟨_,_,_,xs,pr,o,es,ho,he,hd,hes⟩,_,_⟩:=(show ObjOk X.prog X.w H s.heap a (.ext (GM a ts ep)) from I.hok a _ h)
  obtain⟨as,bs,z1,z2⟩:=readsK I l pr
  refine⟨_,.dict ho he.1 hd (as:=as) (bs:=bs) ?_ ?_⟩
  ·rw[hes,List.map_map];exact z1
  ·rw[hes,List.map_map];exact z2
theorem readsL(I:Inv X pins σ H s):∀{ds:List PyData} {vs:List V} {us:List Value},IsL (RT X) H ds vs->Vals vs us->∃as,ReadsAll s.heap us ds as
 |[],_,_,h,r=>by subst h;cases r;exact⟨_,.nil⟩
 |d::ds,_,_,⟨x,xs,e,h,l⟩,r=>by
  subst e
  cases r with
  |cons r1 r2 =>
   obtain⟨as,z⟩:=MH I h r1
   obtain⟨bs,y⟩:=readsL I l r2
   exact⟨_,.cons z y⟩
theorem readsK(I:Inv X pins σ H s):∀{kvs:List (PyData×PyData)} {ts:List (List Int×Addr×V)} {xs:List (List Int×Addr×Value)},IsKV (RT X) H kvs ts->Paired (fun(t:List Int×Addr×V) (x:List Int×Addr×Value)=>t.1=x.1/\t.2.1=x.2.1/\RelV t.2.2 x.2.2) ts xs ->
  ∃as bs,ReadsAll s.heap (xs.map fun x=>Value.ref x.2.1) (kvs.map (·.1)) as/\ReadsAll s.heap (xs.map fun x=>x.2.2) (kvs.map (·.2)) bs
 |[],_,_,h,r=>by subst h;cases r;exact⟨_,_,.nil,.nil⟩
 |(k,d)::kvs,_,_,⟨t,tr,e,ek,hk,h,l⟩,r=>by
  subst e
  cases r with
  |cons r1 r2 =>
   obtain⟨q1,q2,q3⟩:=r1
   obtain⟨as,bs,z1,z2⟩:=readsK I l r2
   obtain⟨cs,z3⟩:=MH I h q3
   obtain⟨its,rr,⟨o,e,c,n,q⟩,_⟩:=I.tuple hk
   subst ek
   have hz:∃ds,ReadsAll s.heap its.toArray.toList (t.1.map PyData.int) ds:=by
    clear hk e q
    generalize t.1=ks at rr
    induction ks generalizing its with
    |nil=>cases rr;exact⟨_,.nil⟩
    |cons k ks ih =>
     cases rr with
     |cons a b =>
      obtain⟨ds,y⟩:=ih _ b
      obtain⟨tk,rfl⟩:=a
      exact⟨_,.cons (.int _ _) y⟩
   obtain⟨ds,y⟩:=hz
   rw[q2]at e
   exact⟨_,_,.cons (.tuple e c q y) z1,.cons z3 z2⟩
end
def Wf(K:KW):R2:=fun x y H Q=>∃d e,Is K H d x/\Is K H e y/\okD d=true/\okD e=true/\Q (.bl (PyData.eqv d e)) H
def Wc(K:KW):R2:=fun x y H Q=>∃d e,Is K H d x/\Is K H e y/\okD d=true/\okD e=true/\Q (.bl (!PyData.eqv d e)) H
theorem NN(hu:X.A.units+64<cLine):OpR X (compareOp .Eq) (Wf (RT X)):=by
 intro pins s σ H x y v u Q I rx ry h
 obtain⟨d,e,hd,he,od,oe,q⟩:=h
 obtain⟨as,ra⟩:=MH I hd rx
 obtain⟨bs,rb⟩:=MH I he ry
 exact eq_dataH ra rb od oe hu ⟨.bl _,H,I,rfl,q⟩
theorem EQ(hu:X.A.units+64<cLine):OpR X (compareOp .NotEq) (Wc (RT X)):=by
 intro pins s σ H x y v u Q I rx ry h
 obtain⟨d,e,hd,he,od,oe,q⟩:=h
 obtain⟨as,ra⟩:=MH I hd rx
 obtain⟨bs,rb⟩:=MH I he ry
 exact ne_dataH ra rb od oe hu ⟨.bl _,H,I,rfl,q⟩
end
end DL
end
section
namespace DL
open PySem L2
inductive L where
 |d (x:PyData)
 |m (xs:List PyData)
 |c (xs:List PyData)
 |k (kvs:List (List Int×PyData))
 |g (x:PyData)
abbrev DS:=List (Option L)
inductive Ow where
 |l (xs:List PyData)
 |t (kvs:List (List Int×PyData))
def Ow.L:Ow->L
 |.l xs=>.m xs
 |.t kvs=>.k kvs
def CB(kvs:List (List Int×PyData)):List (PyData×PyData):=kvs.map fun p=>(.tuple (p.1.map PyData.int),p.2)
def Ow.D:Ow->PyData
 |.l xs=>.list xs
 |.t kvs=>.dict (CB kvs)
def Ow.fl:Ow->Bool
 |.l _=>true
 |.t _=>false
theorem Ow.not_d{o:Ow}{x:PyData}:o.L≠.d x:=by cases o<;>exact fun z=>nomatch z
theorem Ow.not_g{o:Ow}{x:PyData}:o.L≠.g x:=by cases o<;>exact fun z=>nomatch z
theorem Ow.not_c{o:Ow}{x:List PyData}:o.L≠.c x:=by cases o<;>exact fun z=>nomatch z
theorem Ow.inj{o p:Ow}(h:o.L=p.L):o=p:=by
 cases o<;>cases p<;>cases h<;>rfl
def IsO(K:KW)(H:Hp):Ow->Addr->HO->Prop
 |.l xs,_,h=>∃vs,h = .lst vs/\IsL K H xs vs
 |.t kvs,a,h=>∃ts,(∃ep,h = .ext (GM a ts ep))/\IsKV K H (CB kvs) ts
theorem IsO.mono{K:KW}{H H':Hp}(s:Same H H'):∀{o:Ow} {a:Addr} {h:HO},IsO K H o a h->IsO K H' o a h
 |.l _,_,_,⟨vs,e,l⟩=>⟨vs,e,l.mono s⟩
 |.t _,_,_,⟨ts,e,l⟩=>⟨ts,e,l.mono s⟩
theorem IsO.is{K:KW}{H:Hp}:∀{o:Ow} {a:Addr} {h:HO},IsO K H o a h->H a=some h->Is K H o.D (.ref a)
 |.l _,a,_,⟨vs,e,l⟩,z=>⟨a,vs,rfl,e▸z,l⟩
 |.t _,a,_,⟨ts,⟨ep,e⟩,l⟩,z=>⟨a,ts,rfl,⟨ep,e▸z⟩,l⟩
open Classical in
noncomputable def hid(S:Addr->Prop)(H:Hp):Hp:=fun a=>if S a then none else H a
theorem hid_iff{S:Addr->Prop}{H:Hp}{b:Addr}{o:HO}:hid S H b=some o↔¬S b/\H b=some o:=by
 unfold hid
 by_cases h:S b
 ·rw[if_pos h];exact⟨fun z=>(nomatch z),fun z=>absurd h z.1⟩
 ·rw[if_neg h];exact⟨fun z=>⟨h,z⟩,fun z=>z.2⟩
def Keep(S:Addr->Prop)(H:Hp)(S':Addr->Prop)(H':Hp):Prop:=∀b o,¬S b->H b=some o->¬S' b/\H' b=some o
def Chg(M:Addr->Prop)(H H':Hp):Prop:=∀b o,¬M b->H b=some o->H' b=some o
theorem Keep.same{S S':Addr->Prop}{H H':Hp}(k:Keep S H S' H'):Same (hid S H) (hid S' H'):=fun b o e=>hid_iff.mpr (k b o (hid_iff.mp e).1 (hid_iff.mp e).2)
theorem Keep.refl{S:Addr->Prop}{H:Hp}:Keep S H S H:=fun _ _ h e=>⟨h,e⟩
theorem Keep.trans{S S1 S2:Addr->Prop}{H H1 H2:Hp}(a:Keep S H S1 H1)(b:Keep S1 H1 S2 H2):Keep S H S2 H2:=fun c o h e=>b c o (a c o h e).1 (a c o h e).2
theorem Chg.refl{M:Addr->Prop}{H:Hp}:Chg M H H:=fun _ _ _ e=>e
theorem Chg.trans{M:Addr->Prop}{H H1 H2:Hp}(a:Chg M H H1)(b:Chg M H1 H2):Chg M H H2:=fun c o h e=>b c o h (a c o h e)
theorem Chg.of{M:Addr->Prop}{H H':Hp}(s:Same H H'):Chg M H H':=fun b o _ e=>s b o e
theorem Chg.keep{S M:Addr->Prop}{H H':Hp}(c:Chg M H H')(sub:∀a,M a->S a):Keep S H S H':=fun b o h e=>⟨h,c b o (fun z=>h (sub b z)) e⟩
theorem Same.keep{S:Addr->Prop}{H H':Hp}(s:Same H H'):Keep S H S H':=fun b o h e=>⟨h,s b o e⟩
theorem same_hid{S:Addr->Prop}{H:Hp}:Same (hid S H) H:=fun b o e=>(hid_iff.mp e).2
theorem HD.unhid{S:Addr->Prop}{H:Hp}{a:Addr}{ts:List (List Int×Addr×V)}(h:HD (hid S H) a ts):HD H a ts:=let ⟨ep,e⟩:=h;⟨ep,(hid_iff.mp e).2⟩
theorem B9{S S':Addr->Prop}{H:Hp}(h:∀a,S' a->S a):Same (hid S H) (hid S' H):=Keep.same fun b o n e=>⟨fun z=>n (h b z),e⟩
theorem tsS{H H':Hp}(s:Same H H'):TSm H H':=fun b o e _ _=>s b o e
theorem TSm.refl{H:Hp}:TSm H H:=fun _ _ e _ _=>e
mutual
def Dp(K:KW)(S:Addr->Prop)(H:Hp):PyData->V->List Addr->Prop
 |.none,v,F=>v = .non/\F=[]
 |.bool b,v,F=>v = .bl b/\F=[]
 |.int i,v,F=>v = .int i/\F=[]
 |.str x,v,F=>v = .str x/\F=[]
 |.tuple ds,v,F=>∃a vs,v = .ref a/\SqT K (hid S H) a vs/\DpL K S H ds vs F
 |.list ds,v,F=>∃a vs G,v = .ref a/\F=a::G/\H a=some (.lst vs)/\DpL K S H ds vs G
 |.dict _,_,_=>False
def DpL(K:KW)(S:Addr->Prop)(H:Hp):List PyData->List V->List Addr->Prop
 |[],vs,F=>vs=[]/\F=[]
 |d::ds,vs,F=>∃x xs F1 F2,vs=x::xs/\F=F1++F2/\Dp K S H d x F1/\DpL K S H ds xs F2
end
section
variable {K:KW} {S S':Addr->Prop} {H H':Hp}
mutual
theorem Dp.mono(s:TSm (hid S H) (hid S' H')):∀{d:PyData} {v:V} {F:List Addr},(∀a∈F,H' a=H a)->Dp K S H d v F->Dp K S' H' d v F
 |.none,_,_,_,h=>h
 |.bool _,_,_,_,h=>h
 |.int _,_,_,_,h=>h
 |.str _,_,_,_,h=>h
 |.tuple _,_,_,f,⟨a,vs,e,h,l⟩=>⟨a,vs,e,s.tup h,DpL.mono s f l⟩
 |.list _,_,_,f,⟨a,vs,G,e,e2,h,l⟩=>⟨a,vs,G,e,e2,(f a (by rw[e2];exact List.mem_cons_self ..)).trans h,DpL.mono s (fun b hb=>f b (by rw[e2];exact List.mem_cons_of_mem _ hb)) l⟩
theorem DpL.mono(s:TSm (hid S H) (hid S' H')):∀{ds:List PyData} {vs:List V} {F:List Addr},(∀a∈F,H' a=H a)->DpL K S H ds vs F->DpL K S' H' ds vs F
 |[],_,_,_,h=>h
 |_::_,_,_,f,⟨x,xs,F1,F2,e,e2,h,l⟩=>⟨x,xs,F1,F2,e,e2,Dp.mono s (fun b hb=>f b (by rw[e2];exact List.mem_append_left _ hb)) h,DpL.mono s (fun b hb=>f b (by rw[e2];exact List.mem_append_right _ hb)) l⟩
end
end
def IsX(K:KW)(H:Hp):List (PyData×PyData)->List (Str×V)->Prop
 |[],ts=>ts=[]
 |(k,d)::r,ts=>∃t tr,ts=t::tr/\k = .str t.1/\Dm d=true/\Is K H d t.2/\IsX K H r tr
theorem IsX.mono{K:KW}{H H':Hp}(s:TSm H H'):∀{kvs:List (PyData×PyData)} {ts:List (Str×V)},IsX K H kvs ts->IsX K H' kvs ts
 |[],_,h=>h
 |(_,_)::_,_,⟨t,tr,e,ek,f,h,l⟩=>⟨t,tr,e,ek,f,Is.monoT s f h,IsX.mono s l⟩
def DpT(K:KW)(S:Addr->Prop)(H:Hp)(d:PyData)(v:V)(F:List Addr):Prop:=match d with
 |.dict kvs=>∃a ts,v = .ref a/\F=[a]/\H a=some (.dK (txK ts))/\IsX K (hid S H) kvs ts
 |d=>Dp K S H d v F
theorem DpT.of{K:KW}{S:Addr->Prop}{H:Hp}{d:PyData}{v:V}{F:List Addr}(h:Dp K S H d v F):DpT K S H d v F:=by
 cases d with
 |dict kvs=>exact(show False from h).elim
 |_=>exact h
theorem DpT.mono{K:KW}{S S':Addr->Prop}{H H':Hp}{d:PyData}{v:V}{F:List Addr}(s:TSm (hid S H) (hid S' H'))(f:∀a∈F,H' a=H a)(h:DpT K S H d v F):DpT K S' H' d v F:=by
 cases d with
 |dict kvs =>
  obtain⟨a,ts,e,e2,h,l⟩:=(show ∃a ts,v = .ref a/\F=[a]/\H a=some (.dK (txK ts))/\IsX K (hid S H) kvs ts from h)
  exact⟨a,ts,e,e2,(f a (by rw[e2];exact List.mem_singleton_self a)).trans h,l.mono s⟩
 |_=>exact Dp.mono s f h
def GR(K:KW)(S M:Addr->Prop)(τ:DS)(σ:St)(H:Hp):Prop:=∃φ:Nat->List Addr,∀(i:Nat) (d:PyData),τ[i]?=some (some (.g d)) ->
 (∃v,σ[i]?=some (some v)/\DpT K S H d v (φ i))/\(φ i).Nodup/\(∀a∈φ i,M a)/\(∀(j:Nat) (o:Ow) (a:Addr),τ[j]?=some (some o.L)->σ[j]?=some (some (.ref a))->a∉φ i) /\
  ∀(j:Nat) (d':PyData),j≠i->τ[j]?=some (some (.g d'))->∀a∈φ i,a∉φ j
theorem GR.nil{K:KW}{S M:Addr->Prop}{τ:DS}{σ:St}{H:Hp}(h:∀(i:Nat) (d:PyData),τ[i]?≠some (some (.g d))):GR K S M τ σ H:=⟨fun _=>[],fun i d e=>absurd e (h i d)⟩
theorem GR.to{K:KW}{S M S' M':Addr->Prop}{τ τ':DS}{σ σ':St}{H H':Hp}(g:GR K S M τ σ H)(ht:∀(i:Nat) (d:PyData),τ'[i]?=some (some (.g d))->τ[i]?=some (some (.g d))/\σ'[i]?=σ[i]?)
  (ho:∀(j:Nat) (o:Ow) (a:Addr),τ'[j]?=some (some o.L)->σ'[j]?=some (some (.ref a))->(∃o':Ow,τ[j]?=some (some o'.L)/\σ[j]?=some (some (.ref a)))\/¬M a)
  (hm:∀a,M a->(∀(j:Nat) (o:Ow),τ[j]?=some (some o.L)->σ[j]?≠some (some (.ref a)))->M' a/\H' a=H a) (ts:TSm (hid S H) (hid S' H')):GR K S' M' τ' σ' H':=by
 obtain⟨φ,g⟩:=g
 refine⟨φ,fun i d e=>?_⟩
 obtain⟨e1,e2⟩:=ht i d e
 obtain⟨⟨v,g1,g2⟩,g3,g4,g5,g6⟩:=g i d e1
 have hm':∀a∈φ i,M' a/\H' a=H a:=fun a ha=>hm a (g4 a ha) fun j o q q2=>g5 j o a q q2 ha
 refine⟨⟨v,e2.trans g1,g2.mono ts fun a ha=>(hm' a ha).2⟩,g3,fun a ha=>(hm' a ha).1,fun j o a q1 q2 ha=>?_,fun j d' hj q=>g6 j d' hj (ht j d' q).1⟩
 rcases ho j o a q1 q2 with ⟨o',z1,z2⟩|z
 ·exact g5 j o' a z1 z2 ha
 ·exact z (g4 a ha)
structure R(K:KW)(S M:Addr->Prop)(τ:DS)(σ:St)(H:Hp):Prop where
 len:σ.length=τ.length
 dat:∀(i:Nat) (x:PyData),τ[i]?=some (some (.d x))->∃v,σ[i]?=some (some v)/\Is K (hid S H) x v
 mt:∀(i:Nat) (o:Ow),τ[i]?=some (some o.L)->∃(a:Addr) (h:HO),σ[i]?=some (some (.ref a))/\M a/\H a=some h/\IsO K (hid S H) o a h
 cst:∀(i:Nat) (xs:List PyData),τ[i]?=some (some (.c xs))->∃(a:Addr) (vs:List V),σ[i]?=some (some (.ref a))/\SqL K (hid S H) a vs/\IsL K (hid S H) xs vs
 inj:∀(i j:Nat) (o p:Ow) (a:Addr),τ[i]?=some (some o.L)->τ[j]?=some (some p.L)->σ[i]?=some (some (.ref a))->σ[j]?=some (some (.ref a))->i=j
 sub:∀a,M a->S a
 ex:∀a,S a->∃o,H a=some o
 gr:GR K S M τ σ H
def Res(K:KW)(fr:Bool)(S:Addr->Prop)(H H':Hp)(d:PyData)(v:V):Prop:=match fr with
 |false=>Is K (hid S H') d v
 |true=>∃(o:Ow) (a:Addr) (h:HO),d=o.D/\v = .ref a/\H a=none/\H' a=some h/\IsO K (hid (fun b=>S b\/b=a) H') o a h
section
variable {K:KW} {S M:Addr->Prop} {τ:DS} {σ:St} {H H':Hp}
theorem R.fresh(r:R K S M τ σ H){a:Addr}(h:H a=none):¬S a:=fun z=>by
 obtain⟨o,e⟩:=r.ex a z
 rw[h]at e;cases e
theorem R.ml(r:R K S M τ σ H)(i:Nat)(xs:List PyData)(e:τ[i]?=some (some (.m xs))):∃(a:Addr) (vs:List V),σ[i]?=some (some (.ref a))/\M a/\H a=some (.lst vs)/\IsL K (hid S H) xs vs:=by
 obtain⟨a,h,h1,h2,h3,vs,rfl,l⟩:=r.mt i (.l xs) e
 exact⟨a,vs,h1,h2,h3,l⟩
theorem R.same(r:R K S M τ σ H)(s:Same H H'):R K S M τ σ H' where
 len:=r.len
 dat:=fun i x e=>let ⟨v,a,b⟩:=r.dat i x e;⟨v,a,b.mono (Same.keep s).same⟩
 mt:=fun i o e=>let ⟨a,h,h1,h2,h3,h4⟩:=r.mt i o e;⟨a,h,h1,h2,s _ _ h3,h4.mono (Same.keep s).same⟩
 cst:=fun i xs e=>let ⟨a,vs,h1,h2,h3⟩:=r.cst i xs e;⟨a,vs,h1,(Same.keep s).same.seq h2,h3.mono (Same.keep s).same⟩
 inj:=r.inj
 sub:=r.sub
 ex:=fun a h=>let ⟨o,e⟩:=r.ex a h;⟨o,s _ _ e⟩
 gr:=r.gr.to (fun i d e=>⟨e,rfl⟩) (fun j o a e q=>.inl ⟨o,e,q⟩) (fun a h _=>⟨h,by obtain⟨o,e⟩:=r.ex a (r.sub a h);rw[e];exact s _ _ e⟩) (tsS (Same.keep s).same)
theorem Res.is{fr:Bool}{d:PyData}{v:V}(h:Res K fr S H H' d v)(f:∀a,H a=none->¬S a):Is K (hid S H') d v:=by
 cases fr with
 |false=>exact h
 |true =>
  obtain⟨o,a,ho,rfl,rfl,h1,h2,h3⟩:=h
  exact IsO.is (h3.mono (B9 fun b z=>.inl z)) (hid_iff.mpr ⟨f a h1,h2⟩)
theorem Res.imp{fr:Bool}{d:PyData}{v:V}(h:Res K fr S H H' d v)(f:∀a,H a=none->¬S a)(fr':Bool)(hf:fr'=true->fr=true):Res K fr' S H H' d v:=by
 cases fr' with
 |false=>exact h.is f
 |true=>rw[hf rfl]at h;exact h
end
abbrev DX:=DS->Option (PyData×DS)
abbrev DT:=DS->Option (Bool×DS)
inductive Ar where
 |d (x:PyData)
 |s (i:Nat)
abbrev DA:=DS->Option (List Ar×DS)
inductive Out where
 |nx (τ:DS)
 |bk (τ:DS)
 |ct (τ:DS)
 |rt (d:PyData) (τ:DS)
abbrev DB:=DS->Option Out
def Like(τ τ':DS):Prop:=τ'.length=τ.length/\∀j:Nat,((∀x,τ'[j]?=some (some (.d x))↔τ[j]?=some (some (.d x)))/\∀x,τ'[j]?=some (some (.c x))↔τ[j]?=some (some (.c x)))/\∀b:Bool,(∃o:Ow,o.fl=b/\τ'[j]?=some (some o.L))↔∃o:Ow,o.fl=b/\τ[j]?=some (some o.L)
theorem Like.refl{τ:DS}:Like τ τ:=⟨rfl,fun j=>⟨⟨fun x=>Iff.rfl,fun x=>Iff.rfl⟩,fun b=>Iff.rfl⟩⟩
theorem Like.trans{τ τ1 τ2:DS}(a:Like τ τ1)(b:Like τ1 τ2):Like τ τ2:=⟨b.1.trans a.1,fun j=>⟨⟨fun x=>((b.2 j).1.1 x).trans ((a.2 j).1.1 x),fun x=>((b.2 j).1.2 x).trans ((a.2 j).1.2 x)⟩,fun c=>((b.2 j).2 c).trans ((a.2 j).2 c)⟩⟩
theorem Like.own{τ τ':DS}(a:Like τ τ')(j:Nat):(∃o:Ow,τ'[j]?=some (some o.L))↔∃o:Ow,τ[j]?=some (some o.L) :=
 ⟨fun⟨o,h⟩=>let ⟨p,_,q⟩:=((a.2 j).2 o.fl).mp ⟨o,rfl,h⟩;⟨p,q⟩,fun⟨o,h⟩=>let ⟨p,_,q⟩:=((a.2 j).2 o.fl).mpr ⟨o,rfl,h⟩;⟨p,q⟩⟩
theorem Like.ml{τ τ':DS}(a:Like τ τ'){j:Nat}{xs:List PyData}(h:τ'[j]?=some (some (.m xs))):∃ys,τ[j]?=some (some (.m ys)):=by
 obtain⟨o,e,h⟩:=((a.2 j).2 true).mp ⟨.l xs,rfl,h⟩
 cases o with
 |l ys=>exact⟨ys,h⟩
 |t ys=>cases e
theorem Like.kl{τ τ':DS}(a:Like τ τ'){j:Nat}{xs:List (List Int×PyData)}(h:τ'[j]?=some (some (.k xs))):∃ys,τ[j]?=some (some (.k ys)):=by
 obtain⟨o,e,h⟩:=((a.2 j).2 false).mp ⟨.t xs,rfl,h⟩
 cases o with
 |l ys=>cases e
 |t ys=>exact⟨ys,h⟩
structure E K (t:TE) (fr:Bool) (f:DX):Prop where
 like:∀τ d τ',f τ=some (d,τ')->Like τ τ'
 run:∀S M τ σ H (Q:VK) d τ',R K S M τ σ H->f τ=some (d,τ')->(∀v H',R K S M τ' σ H'->Chg M H H'->Res K fr S H H' d v->Q v H')->t σ H Q
structure T K (t:TT) (f:DT):Prop where
 like:∀τ b τ',f τ=some (b,τ')->Like τ τ'
 run:∀S M τ σ H (Q:Bool->Hp->Prop) b τ',R K S M τ σ H->f τ=some (b,τ')->(∀H',R K S M τ' σ H'->Chg M H H'->Q b H')->t σ H Q
def Us(K:KW)(S:Addr->Prop)(σ:St)(H:Hp):List Ar->List V->Prop
 |[],vs=>vs=[]
 |.d x::rs,vs=>∃v us,vs=v::us/\Is K (hid S H) x v/\Us K S σ H rs us
 |.s i::rs,vs=>∃v us,vs=v::us/\σ[i]?=some (some v)/\Us K S σ H rs us
structure A K (t:TA) (f:DA):Prop where
 like:∀τ rs τ',f τ=some (rs,τ')->Like τ τ'
 run:∀S M τ σ H (Q:List V->Hp->Prop) rs τ',R K S M τ σ H->f τ=some (rs,τ')->(∀vs H',R K S M τ' σ H'->Chg M H H'->Us K S σ H' rs vs->Q vs H')->t σ H Q
structure Frm where
 S:Addr->Prop
 M:Addr->Prop
 H:Hp
 ar:List (Option V)
structure RF(K:KW)(F:Frm)(S M:Addr->Prop)(τ:DS)(σ:St)(H:Hp):Prop where
 r:R K S M τ σ H
 sS:∀a,F.S a->S a
 old:∀b o,F.H b=some o->¬F.M b->H b=some o
 new:∀a,M a->F.M a\/F.H a=none
 fm:∀a,F.M a->M a
 fs:∀a,F.S a->∃o,F.H a=some o
 fsub:∀a,F.M a->F.S a
 snew:∀a,S a->F.S a\/F.H a=none
 par:∀(i:Nat) (v:V),F.ar[i]?=some (some v)->σ[i]?=some (some v)
 pm:∀(i:Nat) (v:V),F.ar[i]?=some (some v)->∃o:Ow,τ[i]?=some (some o.L)
 fma:∀a,F.M a->∃i:Nat,F.ar[i]?=some (some (.ref a))
def Gl(K:KW)(F:Frm)(fr:Bool)(S:Addr->Prop)(H:Hp)(D:Jj):Out->Prop
 |.nx τ'=>∀S' M' σ' H',RF K F S' M' τ' σ' H'->Keep S H S' H'->D.nx σ' H'
 |.bk τ'=>∀S' M' σ' H',RF K F S' M' τ' σ' H'->Keep S H S' H'->D.bk σ' H'
 |.ct τ'=>∀S' M' σ' H',RF K F S' M' τ' σ' H'->Keep S H S' H'->D.ct σ' H'
 |.rt d τ'=>∀S' M' σ' H' v,RF K F S' M' τ' σ' H'->Res K fr F.S F.H H' d v->D.rt v H'
def B(K:KW)(np:Nat)(t:TS)(fr:Bool)(f:DB):Prop:=∀(F:Frm) S M τ σ H (D:Jj) out,F.ar.length<=np->RF K F S M τ σ H->f τ=some out->Gl K F fr S H D out->t D σ H
end DL
end
section
namespace DL
open PySem L2
variable {K:KW}
section
variable {S M:Addr->Prop} {τ τ':DS} {σ:St} {H H' H2:Hp}
theorem R.none(r:R K S M τ σ H')(c:Chg M H H'){a:Addr}(h:H' a=Option.none):H a=Option.none:=by
 cases e:H a with
 |none=>rfl
 |some o =>
  exfalso
  by_cases hm:M a
  ·obtain⟨o',e'⟩:=r.ex a (r.sub a hm)
   rw[h]at e';cases e'
  ·have:=c a o hm e
   rw[h]at this;cases this
theorem Res.back{fr:Bool}{d:PyData}{v:V}(h:Res K fr S H' H2 d v)(r:R K S M τ σ H')(c:Chg M H H'):Res K fr S H H2 d v:=by
 cases fr with
 |false=>exact h
 |true =>
  obtain⟨xs,a,vs,e1,e2,h1,h2,h3⟩:=h
  exact⟨xs,a,vs,e1,e2,r.none c h1,h2,h3⟩
theorem R.isr(r:R K S M τ σ H){fr:Bool}{d:PyData}{v:V}(h:Res K fr S H H' d v):Is K (hid S H') d v:=h.is fun _ z=>r.fresh z
end
theorem E.weak{t:TE}{fr:Bool}{f:DX}(h:E K t fr f):E K t false f:=⟨h.like,fun S M τ σ H Q d τ' r e q=>h.run S M τ σ H Q d τ' r e fun v H' r' c res=>q v H' r' c (r.isr res)⟩
def AD(i:Nat)(τ:DS):Option (PyData×DS):=match τ[i]? with
 |some (some (.d x))=>some (x,τ)
 |_=>none
theorem AH{i:Nat}:E K (FL i) false (AD i):=by
 refine⟨fun τ d τ' e=>?_,?_⟩
 ·unfold AD at e;split at e
  ·cases e;exact .refl
  ·cases e
 intro S M τ σ H Q d τ' r e q
 unfold AD at e
 split at e
 ·rename_i x hx
  cases e
  obtain⟨v,h1,h2⟩:=r.dat i _ hx
  exact⟨v,h1,q v H r .refl h2⟩
 ·cases e
def dC(d:PyData)(τ:DS):Option (PyData×DS):=some (d,τ)
theorem e_c{d:PyData}{v:V}(h:∀H,Is K H d v):E K (tC v) false (dC d):=by
 refine⟨fun τ d τ' e=>?_,?_⟩
 ·cases e;exact .refl
 intro S M τ σ H Q d' τ' r e q
 cases e
 exact q v H r .refl (h _)
theorem AL{i:Int}:E K (tC (.int i)) false (dC (.int i)):=e_c fun _=>rfl
theorem LC{b:Bool}:E K (tC (.bl b)) false (dC (.bool b)):=e_c fun _=>rfl
def OR(K:KW)(fr:Bool)(r:R2)(F:PyData->PyData->Option PyData):Prop:=∀(S:Addr->Prop) H x y dx dy d (Q:VK),(∀a,H a=none->¬S a)->Is K (hid S H) dx x->Is K (hid S H) dy y->F dx dy=some d->(∀v H',Same H H'->Res K fr S H H' d v->Q v H')->r x y H Q
def dOp(F:PyData->PyData->Option PyData)(a b:DX)(τ:DS):Option (PyData×DS):=(a τ).bind fun p=>(b p.2).bind fun q=>(F p.1 q.1).map fun d=>(d,q.2)
theorem AZ{fr fa fb:Bool}{r:R2}{F:PyData->PyData->Option PyData}{ta tb:TE}{a b:DX}(h:OR K fr r F)(ha:E K ta fa a)(hb:E K tb fb b):E K (tOp r ta tb) fr (dOp F a b):=by
 refine⟨fun τ d τ' e=>?_,?_⟩
 ·unfold dOp at e;obtain⟨⟨x,τ1⟩,e1,e⟩:=oB e;obtain⟨⟨y,τ2⟩,e2,e⟩:=oB e;obtain⟨z,e3,e⟩:=oM e;cases e;exact(ha.like _ _ _ e1).trans (hb.like _ _ _ e2)
 intro S M τ σ H Q d τ' rr e q
 unfold dOp at e
 obtain⟨⟨x,τ1⟩,e1,e⟩:=oB e
 obtain⟨⟨y,τ2⟩,e2,e⟩:=oB e
 obtain⟨z,e3,e⟩:=oM e
 cases e
 refine ha.run S M τ σ H _ x τ1 rr e1 fun v1 H1 r1 c1 i1=>?_
 refine hb.run S M τ1 σ H1 _ y τ2 r1 e2 fun v2 H2 r2 c2 i2=>?_
 refine h S H2 v1 v2 x y d _ (fun _=>r2.fresh) ((rr.isr i1).mono (c2.keep r1.sub).same) (r1.isr i2) e3 fun v H' s res=>?_
 exact q v H' (r2.same s) ((c1.trans c2).trans (.of s)) (res.back r2 (c1.trans c2))
def UR(K:KW)(fr:Bool)(r:V->Hp->VK->Prop)(F:PyData->Option PyData):Prop:=∀(S:Addr->Prop) H x dx d (Q:VK),(∀a,H a=none->¬S a)->Is K (hid S H) dx x->F dx=some d->(∀v H',Same H H'->Res K fr S H H' d v->Q v H')->r x H Q
def dUn(F:PyData->Option PyData)(a:DX)(τ:DS):Option (PyData×DS):=(a τ).bind fun p=>(F p.1).map fun d=>(d,p.2)
theorem Om{fr fa:Bool}{r:V->Hp->VK->Prop}{F:PyData->Option PyData}{ta:TE}{a:DX}(h:UR K fr r F)(ha:E K ta fa a):E K (tUn r ta) fr (dUn F a):=by
 refine⟨fun τ d τ' e=>?_,?_⟩
 ·unfold dUn at e;obtain⟨⟨x,τ1⟩,e1,e⟩:=oB e;obtain⟨z,e3,e⟩:=oM e;cases e;exact ha.like _ _ _ e1
 intro S M τ σ H Q d τ' rr e q
 unfold dUn at e
 obtain⟨⟨x,τ1⟩,e1,e⟩:=oB e
 obtain⟨z,e3,e⟩:=oM e
 cases e
 refine ha.run S M τ σ H _ x _ rr e1 fun v1 H1 r1 c1 i1=>?_
 refine h S H1 v1 x d _ (fun _=>r1.fresh) (rr.isr i1) e3 fun v H' s res=>?_
 exact q v H' (r1.same s) (c1.trans (.of s)) (res.back r1 c1)
def fI(g:Int->Int->PyData):PyData->PyData->Option PyData
 |.int i,.int j=>some (g i j)
 |_,_=>none
def fC(C:Int->Int->Prop)[∀i j,Decidable (C i j)](g:Int->Int->PyData):PyData->PyData->Option PyData
 |.int i,.int j=>if C i j then some (g i j) else none
 |_,_=>none
theorem UT{g:Int->Int->PyData}{x y d:PyData}(h:fI g x y=some d):∃i j,x = .int i/\y = .int j/\d=g i j:=by
 unfold fI at h
 split at h
 ·exact⟨_,_,rfl,rfl,(Option.some.inj h).symm⟩
 ·cases h
theorem UU{C:Int->Int->Prop}[∀i j,Decidable (C i j)]{g:Int->Int->PyData}{x y d:PyData}(h:fC C g x y=some d):∃i j,x = .int i/\y = .int j/\C i j/\d=g i j:=by
 unfold fC at h
 split at h
 ·split at h
  ·rename_i hc;exact⟨_,_,rfl,rfl,hc,(Option.some.inj h).symm⟩
  ·cases h
 ·cases h
theorem T5{g:Int->Int->V}{g':Int->Int->PyData}(h:∀i j H,Is K H (g' i j) (g i j)):OR K false (rI0 g) (fI g'):=by
 intro S H x y dx dy d Q _ ix iy e q
 obtain⟨i,j,rfl,rfl,rfl⟩:=UT e
 exact⟨i,j,ix,iy,q _ H (fun _ _ e=>e) (h _ _ _)⟩
theorem T6{C:Int->Int->Prop}[∀i j,Decidable (C i j)]{g:Int->Int->V}{g':Int->Int->PyData}(h:∀i j H,Is K H (g' i j) (g i j)):OR K false (rI C g) (fC C g'):=by
 intro S H x y dx dy d Q _ ix iy e q
 obtain⟨i,j,rfl,rfl,c,rfl⟩:=UU e
 exact⟨i,j,ix,iy,c,q _ H (fun _ _ e=>e) (h _ _ _)⟩
instance {i j:Int}:Decidable (CMulB i j):=by unfold CMulB CMul Bd;infer_instance
instance {i j:Int}:Decidable (O7 i j):=by unfold O7 Bd;infer_instance
instance {i j:Int}:Decidable (Tf i j):=by unfold Tf;infer_instance
def Cy:=fI fun i j=>.int (i+j)
def Ra:=fI fun i j=>.int (i-j)
def K7:=fC CMulB fun i j=>.int (i*j)
def V1:=fC O7 fun i j=>.int (i / j)
def Fa:=fC (fun _ j=>0<j) fun i j=>.int (i % j)
def S6:=fC Tf fun i j=>.int (i ^ j.toNat)
def fLt:=fI fun i j=>.bool (decide (i<j))
def fLe:=fI fun i j=>.bool (decide (i<=j))
def fGt:=fI fun i j=>.bool (decide (j<i))
def fGe:=fI fun i j=>.bool (decide (j<=i))
theorem Fr:OR K false (rI0 fun i j=>.int (i+j)) Cy:=T5 fun _ _ _=>rfl
theorem SY:OR K false (rI CMulB fun i j=>.int (i*j)) K7:=T6 fun _ _ _=>rfl
theorem Wn:OR K false (rI O7 fun i j=>.int (i / j)) V1:=T6 fun _ _ _=>rfl
theorem Kq:OR K false (rI (fun _ j=>0<j) fun i j=>.int (i % j)) Fa:=T6 fun _ _ _=>rfl
theorem U4:OR K false (rI Tf fun i j=>.int (i ^ j.toNat)) S6:=T6 fun _ _ _=>rfl
theorem XJ:OR K false (rI0 fun i j=>.bl (decide (i<j))) fLt:=T5 fun _ _ _=>rfl
theorem XL:OR K false (rI0 fun i j=>.bl (decide (j<i))) fGt:=T5 fun _ _ _=>rfl
theorem XM:OR K false (rI0 fun i j=>.bl (decide (j<=i))) fGe:=T5 fun _ _ _=>rfl
def Ca:PyData->Option PyData
 |.int i=>some (.int (-i))
 |_=>none
theorem Jl:UR K false (rU fun i=>.int (-i)) Ca:=by
 intro S H x dx d Q _ ix e q
 unfold Ca at e
 split at e
 ·cases e;exact⟨_,ix,q _ H (fun _ _ e=>e) rfl⟩
 ·cases e
def fEq(x y:PyData):Option PyData:=if okD x&&okD y then some (.bool (PyData.eqv x y)) else none
def fNe(x y:PyData):Option PyData:=if okD x&&okD y then some (.bool (!PyData.eqv x y)) else none
theorem T8:OR K false (Wf K) fEq:=by
 intro S H x y dx dy d Q _ ix iy e q
 unfold fEq at e
 split at e
 ·rename_i h
  rw[Bool.and_eq_true]at h
  cases e
  exact⟨dx,dy,ix.mono same_hid,iy.mono same_hid,h.1,h.2,q _ H (fun _ _ e=>e) rfl⟩
 ·cases e
theorem Kp:OR K false (Wc K) fNe:=by
 intro S H x y dx dy d Q _ ix iy e q
 unfold fNe at e
 split at e
 ·rename_i h
  rw[Bool.and_eq_true]at h
  cases e
  exact⟨dx,dy,ix.mono same_hid,iy.mono same_hid,h.1,h.2,q _ H (fun _ _ e=>e) rfl⟩
 ·cases e
def Oh:PyData->Bool
 |.none=>true
 |_=>false
def Rb(x y:PyData):Option PyData:=match y with
 |.none=>some (.bool (Oh x))
 |_=>none
def Me(x y:PyData):Option PyData:=match y with
 |.none=>some (.bool (!Oh x))
 |_=>none
def Ad:PyData->PyData->Option PyData
 |.list xs,.int i=>atI xs i
 |_,_=>none
def BB:PyData->PyData->Option PyData
 |.tuple xs,.int i=>atI xs i
 |_,_=>none
theorem Pk{H:Hp}{ds:List PyData}{vs:List V}{i:Int}{d:PyData}(h:IsL K H ds vs)(e:atI ds i=some d):∃v,atI vs i=some v/\Is K H d v:=by
 unfold atI at e ⊢
 rw[h.length]
 cases q:ixN ds.length i with
 |none=>rw[q]at e;cases e
 |some j =>
  rw[q]at e
  exact h.get (show ds[j]?=some d from e)
theorem BO:OR K false (SG K) Ad:=by
 intro S H x y dx dy d Q _ ix iy e q
 unfold Ad at e
 split at e
 ·obtain⟨a,vs,rfl,h,l⟩:=ix
  obtain⟨v,h1,h2⟩:=Pk l e
  exact⟨a,vs,_,v,rfl,iy,SqL.of (hid_iff.mp h).2,h1,q _ H (fun _ _ e=>e) h2⟩
 ·cases e
theorem DQ:OR K false (Va K) BB:=by
 intro S H x y dx dy d Q _ ix iy e q
 unfold BB at e
 split at e
 ·obtain⟨a,vs,rfl,h,l⟩:=ix
  obtain⟨v,h1,h2⟩:=Pk l e
  exact⟨a,vs,_,v,rfl,iy,Same.tup same_hid h,h1,q _ H (fun _ _ e=>e) h2⟩
 ·cases e
def Pq:PyData->PyData->Option PyData
 |.list xs,.list ys=>if xs.length+ys.length<=sizeLine then some (.list (xs++ys)) else none
 |_,_=>none
theorem Fm{H:Hp}:∀{xs ys:List PyData} {vs us:List V},IsL K H xs vs->IsL K H ys us->IsL K H (xs++ys) (vs++us)
 |[],_,_,_,h,k=>by rw[show _=[] from h];exact k
 |_::_,_,_,_,⟨x,xs,e,h,l⟩,k=>by subst e;exact⟨x,_,rfl,h,Fm l k⟩
theorem Gw{S:Addr->Prop}{H:Hp}{xs:List PyData}{vs:List V}{p:Addr}(hp:H p=none)(l:IsL K (hid S H) xs vs):Res K true S H (upd H p (.lst vs)) (.list xs) (.ref p):=by
 refine⟨.l xs,p,_,rfl,rfl,hp,AT,vs,rfl,l.mono (Keep.same fun b o hn e=>?_)⟩
 have:b≠p:=Am e hp
 exact⟨fun z=>z.elim hn this,by rw[AO this];exact e⟩
theorem Wo:OR K true Wg Pq:=by
 intro S H x y dx dy d Q _ ix iy e q
 unfold Pq at e
 split at e
 ·split at e
  ·rename_i hz
   cases e
   obtain⟨a,vs,rfl,h,l⟩:=ix
   obtain⟨b,us,rfl,h',l'⟩:=iy
   refine⟨a,b,vs,us,rfl,rfl,(hid_iff.mp h).2,(hid_iff.mp h').2,by rw[l.length,l'.length];exact hz,fun p hp=>?_⟩
   exact q _ _ (BS hp _) (Gw hp (Fm l l'))
  ·cases e
 ·cases e
def AR(a:DX)(τ:DS):Option (Bool×DS):=(a τ).bind fun p=>match p.1 with
 |.bool b=>some (b,p.2)
 |_=>none
theorem CY{fr:Bool}{t:TE}{a:DX}(h:E K t fr a):T K (Uw t) (AR a):=by
 refine⟨fun τ d τ' e=>?_,?_⟩
 ·unfold AR at e;obtain⟨⟨x,τ1⟩,e1,e⟩:=oB e;dsimp only at e;split at e
  ·cases e;exact h.like _ _ _ e1
  ·cases e
 intro S M τ σ H Q b τ' r e q
 unfold AR at e
 obtain⟨⟨x,τ1⟩,e1,e⟩:=oB e
 dsimp only at e
 split at e
 ·cases e
  refine h.run S M τ σ H _ _ _ r e1 fun v H' r' c i=>?_
  exact⟨b,(show v = .bl b from r.isr i),q H' r' c⟩
 ·cases e
theorem FK{fr:Bool}{t:TE}{a:DX}(h:E K t fr a):T K (tB t) (AR a):=CY h
def CQ(a b:DT)(τ:DS):Option (Bool×DS):=(a τ).bind fun p=>if p.1=true then b p.2 else some (false,p.2)
def EJ(a b:DT)(τ:DS):Option (Bool×DS):=(a τ).bind fun p=>if p.1=true then some (true,p.2) else b p.2
def Bz(a:DT)(τ:DS):Option (Bool×DS):=(a τ).map fun p=>(!p.1,p.2)
theorem R3{ta tb:TT}{a b:DT}(ha:T K ta a)(hb:T K tb b):T K (WZ ta tb) (CQ a b):=by
 refine⟨fun τ d τ' e=>?_,?_⟩
 ·unfold CQ at e;obtain⟨⟨c,τ1⟩,e1,e⟩:=oB e;cases c with
  |true=>exact(ha.like _ _ _ e1).trans (hb.like _ _ _ e)
  |false=>cases e;exact ha.like _ _ _ e1
 intro S M τ σ H Q k τ' r e q
 unfold CQ at e
 obtain⟨⟨c,τ1⟩,e1,e⟩:=oB e
 refine ha.run S M τ σ H _ c τ1 r e1 fun H1 r1 c1=>?_
 cases c with
 |true=>exact hb.run S M τ1 σ H1 _ k τ' r1 e fun H2 r2 c2=>q H2 r2 (c1.trans c2)
 |false=>cases e;exact q H1 r1 c1
theorem NC{ta tb:TT}{a b:DT}(ha:T K ta a)(hb:T K tb b):T K (tOr ta tb) (EJ a b):=by
 refine⟨fun τ d τ' e=>?_,?_⟩
 ·unfold EJ at e;obtain⟨⟨c,τ1⟩,e1,e⟩:=oB e;cases c with
  |false=>exact(ha.like _ _ _ e1).trans (hb.like _ _ _ e)
  |true=>cases e;exact ha.like _ _ _ e1
 intro S M τ σ H Q k τ' r e q
 unfold EJ at e
 obtain⟨⟨c,τ1⟩,e1,e⟩:=oB e
 refine ha.run S M τ σ H _ c τ1 r e1 fun H1 r1 c1=>?_
 cases c with
 |false=>exact hb.run S M τ1 σ H1 _ k τ' r1 e fun H2 r2 c2=>q H2 r2 (c1.trans c2)
 |true=>cases e;exact q H1 r1 c1
theorem GH{ta:TT}{a:DT}(ha:T K ta a):T K (WX ta) (Bz a):=by
 refine⟨fun τ d τ' e=>?_,?_⟩
 ·unfold Bz at e;obtain⟨⟨c,τ1⟩,e1,e⟩:=oM e;cases e;exact ha.like _ _ _ e1
 intro S M τ σ H Q k τ' r e q
 unfold Bz at e
 obtain⟨⟨c,τ1⟩,e1,e⟩:=oM e
 cases e
 exact ha.run S M τ σ H _ c _ r e1 fun H1 r1 c1=>q H1 r1 c1
def dIf(c:DT)(a b:DX)(τ:DS):Option (PyData×DS):=(c τ).bind fun p=>if p.1=true then a p.2 else b p.2
def Rp(a b:DX)(τ:DS):Option (PyData×DS):=(AR a τ).bind fun p=>if p.1=true then b p.2 else some (.bool false,p.2)
def dOr(a b:DX)(τ:DS):Option (PyData×DS):=(AR a τ).bind fun p=>if p.1=true then some (.bool true,p.2) else b p.2
def Rm(a:DX)(τ:DS):Option (PyData×DS):=(AR a τ).map fun p=>(.bool (!p.1),p.2)
def Jb(F G:PyData->PyData->Option PyData)(a b c:DX)(τ:DS):Option (PyData×DS):=(a τ).bind fun p=>(b p.2).bind fun q=>(F p.1 q.1).bind fun z=>match z with
 |.bool true=>(c q.2).bind fun s=>(G q.1 s.1).map fun d=>(d,s.2)
 |.bool false=>some (.bool false,q.2)
 |_=>none
end DL
end
section
namespace DL
open PySem L2
variable {K:KW}
def AE(τ:DS):Option (List Ar×DS):=some ([],τ)
def AA(a:DX)(r:DA)(τ:DS):Option (List Ar×DS):=(a τ).bind fun p=>(r p.2).map fun q=>(.d p.1::q.1,q.2)
theorem AM:A K Hz AE:=by
 refine⟨fun τ d τ' e=>?_,?_⟩
 ·cases e;exact .refl
 intro S M τ σ H Q rs τ' r e q
 cases e
 exact q [] H r .refl rfl
theorem AF{fr:Bool}{te:TE}{t:TA}{a:DX}{f:DA}(ha:E K te fr a)(hr:A K t f):A K (Dd te t) (AA a f):=by
 refine⟨fun τ d τ' e=>?_,?_⟩
 ·unfold AA at e
  obtain⟨⟨x,τ1⟩,e1,e⟩:=oB e
  obtain⟨⟨y,τ2⟩,e2,e⟩:=oM e
  cases e
  exact(ha.like _ _ _ e1).trans (hr.like _ _ _ e2)
 intro S M τ σ H Q rs τ' r e q
 unfold AA at e
 obtain⟨⟨x,τ1⟩,e1,e⟩:=oB e
 obtain⟨⟨y,τ2⟩,e2,e⟩:=oM e
 cases e
 refine ha.run S M τ σ H _ x τ1 r e1 fun v H1 r1 c1 i1=>?_
 refine hr.run S M τ1 σ H1 _ y _ r1 e2 fun vs H2 r2 c2 i2=>?_
 exact q (v::vs) H2 r2 (c1.trans c2) ⟨v,vs,rfl,(r.isr i1).mono (c2.keep r1.sub).same,i2⟩
def Ci:List Ar->Option (List PyData)
 |[]=>some []
 |.d x::r=>(Ci r).map (x::·)
 |.s _::_=>none
theorem Da{S:Addr->Prop}{σ:St}{H:Hp}:∀{rs:List Ar} {vs:List V} {ds:List PyData},Us K S σ H rs vs->Ci rs=some ds->IsL K (hid S H) ds vs
 |[],_,_,h,e=>by cases e;exact h
 |.d x::r,_,_,⟨v,us,e1,h,l⟩,e=>by
  obtain⟨ds,e2,e⟩:=oM e
  cases e
  exact⟨v,us,e1,h,Da l e2⟩
 |.s _::_,_,_,_,e=>by cases e
def BN(a:DA)(τ:DS):Option (PyData×DS):=(a τ).bind fun p=>(Ci p.1).bind fun ds=>if ds.length<=sizeLine then some (.tuple ds,p.2) else none
def D7(a:DA)(τ:DS):Option (PyData×DS):=(a τ).bind fun p=>(Ci p.1).bind fun ds=>if ds.length<=sizeLine then some (.list ds,p.2) else none
theorem C2{t:TA}{a:DA}(ha:A K t a):E K (Tj t) false (BN a):=by
 refine⟨fun τ d τ' e=>?_,?_⟩
 ·unfold BN at e
  obtain⟨⟨x,τ1⟩,e1,e⟩:=oB e
  obtain⟨ds,e2,e⟩:=oB e
  split at e
  ·cases e;exact ha.like _ _ _ e1
  ·cases e
 intro S M τ σ H Q d τ' r e q
 unfold BN at e
 obtain⟨⟨x,τ1⟩,e1,e⟩:=oB e
 obtain⟨ds,e2,e⟩:=oB e
 split at e
 ·rename_i hz
  cases e
  refine ha.run S M τ σ H _ x _ r e1 fun vs H1 r1 c1 i1=>?_
  have l:=Da i1 e2
  refine⟨by rw[l.length];exact hz,fun p hp=>?_⟩
  have s:=BS hp (HO.tup vs)
  exact q _ _ (r1.same s) (c1.trans (.of s)) ⟨p,vs,rfl,SqT.of (hid_iff.mpr ⟨r1.fresh hp,AT⟩),l.mono (Same.keep s).same⟩
 ·cases e
theorem LA{t:TA}{a:DA}(ha:A K t a):E K (Tl t) true (D7 a):=by
 refine⟨fun τ d τ' e=>?_,?_⟩
 ·unfold D7 at e
  obtain⟨⟨x,τ1⟩,e1,e⟩:=oB e
  obtain⟨ds,e2,e⟩:=oB e
  split at e
  ·cases e;exact ha.like _ _ _ e1
  ·cases e
 intro S M τ σ H Q d τ' r e q
 unfold D7 at e
 obtain⟨⟨x,τ1⟩,e1,e⟩:=oB e
 obtain⟨ds,e2,e⟩:=oB e
 split at e
 ·rename_i hz
  cases e
  refine ha.run S M τ σ H _ x _ r e1 fun vs H1 r1 c1 i1=>?_
  have l:=Da i1 e2
  refine⟨by rw[l.length];exact hz,fun p hp=>?_⟩
  have s:=BS hp (HO.lst vs)
  exact q _ _ (r1.same s) (c1.trans (.of s)) ((Gw hp l).back r1 c1)
 ·cases e
def BR(K:KW)(fr:Bool)(r:List V->Hp->VK->Prop)(F:List PyData->Option PyData):Prop:=∀(S:Addr->Prop) H vs ds d (Q:VK),(∀a,H a=none->¬S a)->IsL K (hid S H) ds vs->F ds=some d->(∀v H',Same H H'->Res K fr S H H' d v->Q v H')->r vs H Q
def Be(F:List PyData->Option PyData)(a:DA)(τ:DS):Option (PyData×DS):=(a τ).bind fun p=>(Ci p.1).bind fun ds=>(F ds).map fun d=>(d,p.2)
theorem ET{fr:Bool}{r:List V->Hp->VK->Prop}{F:List PyData->Option PyData}{t:TA}{a:DA}(h:BR K fr r F)(ha:A K t a):E K (tCB r t) fr (Be F a):=by
 refine⟨fun τ d τ' e=>?_,?_⟩
 ·unfold Be at e
  obtain⟨⟨x,τ1⟩,e1,e⟩:=oB e
  obtain⟨ds,e2,e⟩:=oB e
  obtain⟨z,e3,e⟩:=oM e
  cases e;exact ha.like _ _ _ e1
 intro S M τ σ H Q d τ' rr e q
 unfold Be at e
 obtain⟨⟨x,τ1⟩,e1,e⟩:=oB e
 obtain⟨ds,e2,e⟩:=oB e
 obtain⟨z,e3,e⟩:=oM e
 cases e
 refine ha.run S M τ σ H _ x _ rr e1 fun vs H1 r1 c1 i1=>?_
 refine h S H1 vs ds d _ (fun _=>r1.fresh) (Da i1 e2) e3 fun v H' s res=>?_
 exact q v H' (r1.same s) (c1.trans (.of s)) (res.back r1 c1)
def spD(K:KW)(G:List L->Option (PyData×List L))(fr:Bool):Sp:=fun vs H Q _=>∃(S M:Addr->Prop) (ls:List L) (r:PyData) (ls':List L),R K S M (ls.map some) (vs.map some) H/\G ls=some (r,ls') /\
 ∀v H',R K S M (ls'.map some) (vs.map some) H'->Chg M H H'->Res K fr S H H' r v->Q v H'
theorem NH{S M:Addr->Prop}{τ:DS}{σ:St}{H:Hp}(r:R K S M τ σ H){ds:List PyData}{vs:List V}(l:IsL K (hid S H) ds vs):R K S (fun _=>False) ((ds.map L.d).map some) (vs.map some) H where
 len:=by rw[List.length_map,List.length_map,List.length_map,l.length]
 dat:=fun i x e=>by
  rw[List.getElem?_map,List.getElem?_map]at e
  cases q:ds[i]? with
  |none=>rw[q]at e;cases e
  |some d =>
   rw[q]at e
   cases e
   obtain⟨v,h1,h2⟩:=l.get q
   exact⟨v,by rw[List.getElem?_map,h1];rfl,h2⟩
 mt:=fun i o e=>by
  rw[List.getElem?_map,List.getElem?_map]at e
  cases q:ds[i]? with
  |none=>rw[q]at e;cases e
  |some d=>rw[q]at e;cases o<;>cases e
 cst:=fun i xs e=>by
  rw[List.getElem?_map,List.getElem?_map]at e
  cases q:ds[i]? with
  |none=>rw[q]at e;cases e
  |some d=>rw[q]at e;cases e
 inj:=fun i j o p a e=>by
  rw[List.getElem?_map,List.getElem?_map]at e
  cases q:ds[i]? with
  |none=>rw[q]at e;cases e
  |some d=>rw[q]at e;cases o<;>cases e
 sub:=fun a h=>h.elim
 ex:=r.ex
 gr:=GR.nil fun i d e=>by
  rw[List.getElem?_map,List.getElem?_map]at e
  cases q:ds[i]? with
  |none=>rw[q]at e;cases e
  |some d=>rw[q]at e;cases e
def Ae(G:List L->Option (PyData×List L))(a:DA)(τ:DS):Option (PyData×DS):=(a τ).bind fun p=>(Ci p.1).bind fun ds=>(G (ds.map L.d)).map fun q=>(q.1,p.2)
theorem EB{fr:Bool}{G:List L->Option (PyData×List L)}{t:TA}{a:DA}{X:XK}(ha:A K t a):E K (MA (spD K G fr) [] X t) fr (Ae G a):=by
 refine⟨fun τ d τ' e=>?_,?_⟩
 ·unfold Ae at e
  obtain⟨⟨x,τ1⟩,e1,e⟩:=oB e
  obtain⟨ds,e2,e⟩:=oB e
  obtain⟨z,e3,e⟩:=oM e
  cases e;exact ha.like _ _ _ e1
 intro S M τ σ H Q d τ' rr e q
 unfold Ae at e
 obtain⟨⟨x,τ1⟩,e1,e⟩:=oB e
 obtain⟨ds,e2,e⟩:=oB e
 obtain⟨⟨z,ls'⟩,e3,e⟩:=oM e
 cases e
 refine ha.run S M τ σ H _ x _ rr e1 fun vs H1 r1 c1 i1=>?_
 have l:=Da i1 e2
 show spD K G fr (vs++[]) H1 Q X
 rw[List.append_nil]
 refine⟨S,fun _=>False,ds.map L.d,_,ls',NH r1 l,e3,fun v H' _ c res=>?_⟩
 have s:Same H1 H':=fun b o e=>c b o (fun z=>z) e
 exact q v H' (r1.same s) (c1.trans (.of s)) (res.back r1 c1)
theorem G4{a b:Ow}(h:some (some a.L)=some (some b.L)):a=b:=Ow.inj (Option.some.inj (Option.some.inj h))
theorem R.setO{S M:Addr->Prop}{τ:DS}{σ:St}{H H':Hp}(r:R K S M τ σ H){i:Nat}{a:Addr}{w w':Ow}{h:HO}(hi:τ[i]?=some (some w.L))(ha:σ[i]?=some (some (.ref a)))
  (c:Chg (fun b=>b=a) H H') (h':H' a=some h) (l:IsO K (hid S H') w' a h):R K S M (τ.set i (some w'.L)) σ H':=by
 have hlt:i<τ.length:=(List.getElem?_eq_some_iff.mp hi).1
 have Sa:S a:=by
  obtain⟨b,us,h1,h2,_⟩:=r.mt i w hi
  rw[ha]at h1;cases h1
  exact r.sub _ h2
 have k:Keep S H S H':=c.keep fun b e=>by subst e;exact Sa
 have ne:∀j,j≠i->(τ.set i (some w'.L))[j]?=τ[j]?:=fun j hj=>List.getElem?_set_ne (Ne.symm hj)
 have se:(τ.set i (some w'.L))[i]?=some (some w'.L):=List.getElem?_set_self hlt
 refine⟨by rw[List.length_set];exact r.len,fun j x e=>?_,fun j ys e=>?_,fun j x e=>?_,fun j1 j2 ys zs b e1 e2 f1 f2=>?_,r.sub,fun b hb=>?_,r.gr.to (fun j d e=>?_) (fun j o b e q=>?_) (fun b hb hn=>⟨hb,?_⟩) (tsS k.same)⟩
 ·by_cases hj:j=i
  ·subst hj;rw[se]at e;exact absurd (Option.some.inj (Option.some.inj e)) Ow.not_d
  ·rw[ne j hj]at e
   obtain⟨v,h1,h2⟩:=r.dat j x e
   exact⟨v,h1,h2.mono k.same⟩
 ·by_cases hj:j=i
  ·subst hj
   rw[se]at e
   obtain rfl:=Ow.inj (Option.some.inj (Option.some.inj e))
   obtain⟨b,us,h1,h2,_⟩:=r.mt j w hi
   rw[ha]at h1;cases h1
   exact⟨a,h,ha,h2,h',l⟩
  ·rw[ne j hj]at e
   obtain⟨b,us,h1,h2,h3,h4⟩:=r.mt j ys e
   refine⟨b,us,h1,h2,c b _ (fun z=>?_) h3,h4.mono k.same⟩
   subst z
   exact hj (r.inj j i ys w b e hi h1 ha)
 ·by_cases hj:j=i
  ·subst hj;rw[se]at e;exact absurd (Option.some.inj (Option.some.inj e)) Ow.not_c
  ·rw[ne j hj]at e
   obtain⟨b,us,h1,h2,h3⟩:=r.cst j x e
   exact⟨b,us,h1,k.same.seq h2,h3.mono k.same⟩
 ·have g:∀(j:Nat) (ys:Ow),(τ.set i (some w'.L))[j]?=some (some ys.L)->∃zs:Ow,τ[j]?=some (some zs.L):=fun j ys e=>by
   by_cases hj:j=i
   ·subst hj;exact⟨_,hi⟩
   ·rw[ne j hj]at e;exact⟨_,e⟩
  obtain⟨_,g1⟩:=g j1 ys e1
  obtain⟨_,g2⟩:=g j2 zs e2
  exact r.inj _ _ _ _ b g1 g2 f1 f2
 ·by_cases e:b=a
  ·subst e;exact⟨_,h'⟩
  ·obtain⟨o,q⟩:=r.ex b hb
   exact⟨o,c b o e q⟩
 ·by_cases hj:j=i
  ·subst hj;rw[se]at e;exact absurd (Option.some.inj (Option.some.inj e)) Ow.not_g
  ·rw[ne j hj]at e;exact⟨e,rfl⟩
 ·by_cases hj:j=i
  ·subst hj;exact .inl ⟨w,hi,q⟩
  ·rw[ne j hj]at e;exact .inl ⟨o,e,q⟩
 ·obtain⟨o,e⟩:=r.ex b (r.sub b hb)
  rw[e];exact c b o (fun z=>hn i w hi (by rw[z];exact ha)) e
theorem R.setM{S M:Addr->Prop}{τ:DS}{σ:St}{H H':Hp}(r:R K S M τ σ H){i:Nat}{a:Addr}{xs xs':List PyData}{vs:List V}(hi:τ[i]?=some (some (.m xs)))(ha:σ[i]?=some (some (.ref a)))
  (c:Chg (fun b=>b=a) H H') (h':H' a=some (.lst vs)) (l:IsL K (hid S H') xs' vs):R K S M (τ.set i (some (.m xs'))) σ H':=r.setO (w:=.l xs) (w':=.l xs') hi ha c h' ⟨vs,rfl,l⟩
theorem G6{τ:DS}{i:Nat}{w w':Ow}(hi:τ[i]?=some (some w.L))(hf:w.fl=w'.fl):Like τ (τ.set i (some w'.L)):=by
 have hlt:i<τ.length:=(List.getElem?_eq_some_iff.mp hi).1
 refine⟨by rw[List.length_set],fun j=>?_⟩
 by_cases hj:j=i
 ·subst hj
  rw[List.getElem?_set_self hlt,hi]
  exact⟨⟨fun x=>⟨fun z=>absurd (Option.some.inj (Option.some.inj z)) Ow.not_d,fun z=>absurd (Option.some.inj (Option.some.inj z)) Ow.not_d⟩,fun x=>⟨fun z=>absurd (Option.some.inj (Option.some.inj z)) Ow.not_c,fun z=>absurd (Option.some.inj (Option.some.inj z)) Ow.not_c⟩⟩,fun b=>⟨fun⟨o,h1,h2⟩=>⟨w,by rw[hf,G4 h2];exact h1,rfl⟩,fun⟨o,h1,h2⟩=>⟨w',by rw[<- hf,G4 h2];exact h1,rfl⟩⟩⟩
 ·rw[List.getElem?_set_ne (Ne.symm hj)]
  exact⟨⟨fun x=>Iff.rfl,fun x=>Iff.rfl⟩,fun b=>Iff.rfl⟩
theorem MU{τ:DS}{i:Nat}{xs xs':List PyData}(hi:τ[i]?=some (some (.m xs))):Like τ (τ.set i (some (.m xs'))):=G6 (w:=.l xs) (w':=.l xs') hi rfl
def A4(i:Nat)(G:List L->Option (PyData×List L))(a:DA)(τ:DS):Option (PyData×DS):=(a τ).bind fun p=>(Ci p.1).bind fun ds=>match p.2[i]? with
 |some (some (.m xs))=>(G (.m xs::ds.map L.d)).bind fun q=>match q.2 with
  |.m xs'::_=>some (q.1,p.2.set i (some (.m xs')))
  |_=>none
 |some (some (.k xs))=>(G (.k xs::ds.map L.d)).bind fun q=>match q.2 with
  |.k xs'::_=>some (q.1,p.2.set i (some (.k xs')))
  |_=>none
 |_=>none
theorem Jy{i:Nat}{G:List L->Option (PyData×List L)}{a:DA}{τ:DS}{d:PyData}{τ':DS}(e:A4 i G a τ=some (d,τ')) :
  ∃rs τ1 ds w w' r,a τ=some (rs,τ1)/\Ci rs=some ds/\τ1[i]?=some (some (Ow.L w))/\G (w.L::ds.map L.d)=some (d,Ow.L w'::r)/\τ'=τ1.set i (some w'.L)/\w.fl=w'.fl:=by
 unfold A4 at e
 obtain⟨⟨x,τ1⟩,e1,e⟩:=oB e
 obtain⟨ds,e2,e⟩:=oB e
 dsimp only at e
 split at e
 ·rename_i xs hx
  obtain⟨⟨z,ls'⟩,e3,e⟩:=oB e
  dsimp only at e
  split at e
  ·rename_i xs' FA
   cases e
   exact⟨x,τ1,ds,.l xs,.l xs',FA,e1,e2,hx,e3,rfl,rfl⟩
  ·cases e
 ·rename_i xs hx
  obtain⟨⟨z,ls'⟩,e3,e⟩:=oB e
  dsimp only at e
  split at e
  ·rename_i xs' FA
   cases e
   exact⟨x,τ1,ds,.t xs,.t xs',FA,e1,e2,hx,e3,rfl,rfl⟩
  ·cases e
 ·cases e
theorem Ce{i:Nat}{fr:Bool}{G:List L->Option (PyData×List L)}{t:TA}{a:DA}{X:XK}(ha:A K t a):E K (MA (spD K G fr) [] X (Dd (FL i) t)) fr (A4 i G a):=by
 refine⟨fun τ d τ' e=>?_,?_⟩
 ·obtain⟨rs,τ1,ds,xs,xs',r,e1,e2,e3,e4,rfl,e5⟩:=Jy e
  exact(ha.like _ _ _ e1).trans (G6 e3 e5)
 intro S M τ σ H Q d τ' rr e q
 obtain⟨rs,τ1,ds,xs,xs',r,e1,e2,e3,e4,rfl,_⟩:=Jy e
 have lk:=ha.like _ _ _ e1
 obtain⟨zs,hz⟩:=(lk.own i).mp ⟨_,e3⟩
 obtain⟨p,us,hp,hM,_,_⟩:=rr.mt i zs hz
 refine⟨.ref p,hp,?_⟩
 refine ha.run S M τ σ H _ rs _ rr e1 fun vs H1 r1 c1 i1=>?_
 have l:=Da i1 e2
 obtain⟨p',us',hp',hM',hl,ll⟩:=r1.mt i xs e3
 rw[hp]at hp';cases hp'
 show spD K G fr ((.ref p::vs)++[]) H1 Q X
 rw[List.append_nil]
 have ra:=NH r1 l
 refine ⟨S, fun b => b = p, xs.L :: ds.map L.d, _, xs'.L :: r, ⟨?_, ?_, ?_, ?_, ?_, ?_, r1.ex, GR.nil fun j x e => by
  cases j with
  |zero=>exact Ow.not_g (Option.some.inj (Option.some.inj e))
  |succ j =>
   rw[List.map_cons,List.getElem?_cons_succ,List.getElem?_map,List.getElem?_map]at e
   cases q:ds[j]? with
   |none=>rw[q]at e;cases e
   |some d=>rw[q]at e;cases e⟩,e4,fun v H' r' c res=>?_⟩
 ·have:=ra.len
  simp only[List.length_map,List.map_cons,List.length_cons]at this ⊢
  omega
 ·intro j x e
  cases j with
  |zero=>exact absurd (Option.some.inj (Option.some.inj e)) Ow.not_d
  |succ j=>exact ra.dat j x (by simpa using e)
 ·intro j ys e
  cases j with
  |zero=>obtain rfl:=G4 e;exact⟨p,us',rfl,rfl,hl,ll⟩
  |succ j=>obtain⟨_,_,_,h,_⟩:=ra.mt j ys (by simpa using e);exact h.elim
 ·intro j ys e
  cases j with
  |zero=>exact absurd (Option.some.inj (Option.some.inj e)) Ow.not_c
  |succ j=>exact ra.cst j ys (by simpa using e)
 ·intro j k ys ws b e1 e2 _ _
  cases j with
  |zero=>cases k with
   |zero=>rfl
   |succ k=>obtain⟨_,_,_,h,_⟩:=ra.mt k ws (by simpa using e2);exact h.elim
  |succ j=>obtain⟨_,_,_,h,_⟩:=ra.mt j ys (by simpa using e1);exact h.elim
 ·rintro b rfl
  exact r1.sub _ hM'
 ·obtain⟨p2,us2,h1,h2,h3,h4⟩:=r'.mt 0 xs' rfl
  cases h1
  exact q v H' (r1.setO e3 hp c h3 h4) (c1.trans fun b o hn e=>c b o (fun z=>hn (by subst z;exact hM')) e) (res.back r1 c1)
def okM:Option L->Bool
 |some (.m xs)=>fixDs xs
 |some (.k kvs)=>fixDs (kvs.map (·.2))
 |_=>true
theorem IsKV.monoT{H H':Hp}(s:TSm H H'):∀{kvs:List (List Int×PyData)} {ts:List (List Int×Addr×V)},fixDs (kvs.map (·.2))=true->IsKV K H (CB kvs) ts->IsKV K H' (CB kvs) ts
 |[],_,_,h=>h
 |(k,d)::kvs,_,f,⟨t,tr,e,ek,hk,h,l⟩=>by
  rw[List.map_cons,fixDs,Bool.and_eq_true]at f
  exact⟨t,tr,e,ek,s.tup hk,Is.monoT s f.1 h,IsKV.monoT s (kvs:=kvs) f.2 l⟩
theorem IsO.monoT{H H':Hp}(s:TSm H H'):∀{o:Ow} {a:Addr} {h:HO},okM (some o.L)=true->IsO K H o a h->IsO K H' o a h
 |.l _,_,_,f,⟨vs,e,l⟩=>⟨vs,e,l.monoT s f⟩
 |.t _,_,_,f,⟨ts,e,l⟩=>⟨ts,e,IsKV.monoT s f l⟩
def OwH(h:HO):Prop:=(∃vs,h = .lst vs)\/∃φ,h = .ext φ
theorem IsO.ho{H:Hp}:∀{o:Ow} {a:Addr} {h:HO},IsO K H o a h->OwH h
 |.l _,_,_,⟨vs,e,_⟩=>.inl ⟨vs,e⟩
 |.t _,_,_,⟨ts,⟨ep,e⟩,_⟩=>.inr ⟨_,e⟩
def Ih(i:Nat)(f:DX)(τ:DS):Option (PyData×DS):=match τ[i]? with
 |some (some (.m xs))=>(f (τ.set i (some (.d (.list xs))))).bind fun q=>if Dm q.1&&q.2.all okM then some (q.1,q.2.set i (some (.m xs))) else none
 |some (some (.k xs))=>(f (τ.set i (some (.d (.dict (CB xs)))))).bind fun q=>if Dm q.1&&q.2.all okM then some (q.1,q.2.set i (some (.k xs))) else none
 |_=>none
theorem Mo{i:Nat}{f:DX}{τ:DS}{d:PyData}{τ':DS}(e:Ih i f τ=some (d,τ')):∃w τ1,τ[i]?=some (some (Ow.L w))/\f (τ.set i (some (.d w.D)))=some (d,τ1)/\Dm d=true/\τ1.all okM=true/\τ'=τ1.set i (some w.L):=by
 unfold Ih at e
 split at e
 ·rename_i xs hx
  obtain⟨⟨z,τ1⟩,e1,e⟩:=oB e
  dsimp only at e
  split at e
  ·rename_i h
   rw[Bool.and_eq_true]at h
   cases e
   exact⟨.l xs,τ1,hx,e1,h.1,h.2,rfl⟩
  ·cases e
 ·rename_i xs hx
  obtain⟨⟨z,τ1⟩,e1,e⟩:=oB e
  dsimp only at e
  split at e
  ·rename_i h
   rw[Bool.and_eq_true]at h
   cases e
   exact⟨.t xs,τ1,hx,e1,h.1,h.2,rfl⟩
  ·cases e
 ·cases e
theorem DH{S S':Addr->Prop}{H:Hp}(h:∀a,S' a->S a\/∃o,H a=some o/\OwH o):TSm (hid S H) (hid S' H):=fun b o e nl ne=>by
 obtain⟨e1,e2⟩:=hid_iff.mp e
 refine hid_iff.mpr ⟨fun z=>?_,e2⟩
 rcases h b z with z|⟨o',z,⟨vs,rfl⟩|⟨φ,rfl⟩⟩
 ·exact e1 z
 ·rw[e2]at z;cases z;exact nl _ rfl
 ·rw[e2]at z;cases z;exact ne _ rfl
theorem frz{S M:Addr->Prop}{τ:DS}{σ:St}{H:Hp}(r:R K S M τ σ H){i:Nat}{w:Ow}{p:Addr}(hi:τ[i]?=some (some w.L))(hp:σ[i]?=some (some (.ref p))) :
  R K (fun b=>S b/\b≠p) (fun b=>M b/\b≠p) (τ.set i (some (.d w.D))) σ H:=by
 have hlt:i<τ.length:=(List.getElem?_eq_some_iff.mp hi).1
 have ne:∀j,j≠i->(τ.set i (some (.d w.D)))[j]?=τ[j]?:=fun j hj=>List.getElem?_set_ne (Ne.symm hj)
 have se:(τ.set i (some (.d w.D)))[i]?=some (some (.d w.D)):=List.getElem?_set_self hlt
 have k:Same (hid S H) (hid (fun b=>S b/\b≠p) H):=B9 fun a z=>z.1
 have mn:∀(j:Nat) (ys:Ow),(τ.set i (some (.d w.D)))[j]?=some (some ys.L)->j≠i/\τ[j]?=some (some ys.L):=fun j ys e=>by
  by_cases hj:j=i
  ·subst hj;rw[se]at e;exact absurd (Option.some.inj (Option.some.inj e)).symm Ow.not_d
  ·rw[ne j hj]at e;exact⟨hj,e⟩
 have cs:∀(j:Nat) (ys:List PyData),(τ.set i (some (.d w.D)))[j]?=some (some (.c ys))->τ[j]?=some (some (.c ys)):=fun j ys e=>by
  by_cases hj:j=i
  ·subst hj;rw[se]at e;cases e
  ·rw[ne j hj]at e;exact e
 refine⟨by rw[List.length_set];exact r.len,fun j x e=>?_,fun j ys e=>?_,fun j ys e=>let ⟨a,vs,h1,h2,h3⟩:=r.cst j ys (cs j ys e);⟨a,vs,h1,k.seq h2,h3.mono k⟩,fun j1 j2 ys zs b e1 e2 f1 f2=>?_,fun a h=>⟨r.sub a h.1,h.2⟩,fun a h=>r.ex a h.1,r.gr.to (fun j d e=>?_) (fun j o b e q=>.inl ⟨o,(mn j o e).2,q⟩) (fun b hb hn=>⟨⟨hb,fun z=>hn i w hi (by rw[z];exact hp)⟩,rfl⟩) (tsS k)⟩
 ·by_cases hj:j=i
  ·subst hj
   rw[se]at e
   cases e
   obtain⟨b,us,h1,h2,h3,h4⟩:=r.mt j w hi
   rw[hp]at h1;cases h1
   exact⟨_,hp,IsO.is (h4.mono k) (hid_iff.mpr ⟨fun z=>z.2 rfl,h3⟩)⟩
  ·rw[ne j hj]at e
   obtain⟨v,h1,h2⟩:=r.dat j x e
   exact⟨v,h1,h2.mono k⟩
 ·obtain⟨hj,e⟩:=mn j ys e
  obtain⟨b,us,h1,h2,h3,h4⟩:=r.mt j ys e
  refine⟨b,us,h1,⟨h2,fun z=>?_⟩,h3,h4.mono k⟩
  subst z
  exact hj (r.inj j i ys w b e hi h1 hp)
 ·exact r.inj j1 j2 ys zs b (mn _ _ e1).2 (mn _ _ e2).2 f1 f2
 ·by_cases hj:j=i
  ·subst hj;rw[se]at e;cases e
  ·rw[ne j hj]at e;exact⟨e,rfl⟩
theorem Ut{S M:Addr->Prop}{τ τ1:DS}{σ:St}{H H':Hp}(r:R K S M τ σ H){i:Nat}{w:Ow}{p:Addr}(hi:τ[i]?=some (some w.L))(hp:σ[i]?=some (some (.ref p)))
  (r1:R K (fun b=>S b/\b≠p) (fun b=>M b/\b≠p) τ1 σ H') (lk:Like (τ.set i (some (.d w.D))) τ1) (c:Chg (fun b=>M b/\b≠p) H H') (ok:τ1.all okM=true):R K S M (τ1.set i (some w.L)) σ H':=by
 have hlt:i<τ.length:=(List.getElem?_eq_some_iff.mp hi).1
 have hl1:τ1.length=τ.length:=by have:=lk.1;rw[List.length_set]at this;exact this
 have hlt1:i<τ1.length:=by omega
 have ne:∀j,j≠i->(τ1.set i (some w.L))[j]?=τ1[j]?:=fun j hj=>List.getElem?_set_ne (Ne.symm hj)
 have se:(τ1.set i (some w.L))[i]?=some (some w.L):=List.getElem?_set_self hlt1
 have ne0:∀j,j≠i->(τ.set i (some (.d w.D)))[j]?=τ[j]?:=fun j hj=>List.getElem?_set_ne (Ne.symm hj)
 obtain⟨b0,us,hb0,h2,h3,h4⟩:=r.mt i w hi
 rw[hp]at hb0;cases hb0
 have h3':H' p=some us:=c p _ (fun z=>z.2 rfl) h3
 have c':Chg M H H':=fun b o hn e=>c b o (fun z=>hn z.1) e
 have k:Keep S H S H':=c'.keep r.sub
 have ts:TSm (hid (fun b=>S b/\b≠p) H') (hid S H'):=DH fun a z=>by
  by_cases e:a=p
  ·subst e;exact .inr ⟨_,h3',h4.ho⟩
  ·exact .inl ⟨z,e⟩
 have mm:∀(j:Nat) (ys:Ow),j≠i->τ1[j]?=some (some ys.L)->∃zs:Ow,τ[j]?=some (some zs.L):=fun j ys hj e=>by
  obtain⟨zs,q⟩:=(lk.own j).mp ⟨_,e⟩
  rw[ne0 j hj]at q
  exact⟨zs,q⟩
 have cs:∀(j:Nat) (ys:List PyData),(τ1.set i (some w.L))[j]?=some (some (.c ys))->τ[j]?=some (some (.c ys)):=fun j ys e=>by
  by_cases hj:j=i
  ·subst hj;rw[se]at e;exact absurd (Option.some.inj (Option.some.inj e)) Ow.not_c
  ·rw[ne j hj]at e
   have:=((lk.2 j).1.2 ys).mp e
   rw[ne0 j hj]at this
   exact this
 refine⟨by rw[List.length_set];exact r1.len,fun j x e=>?_,fun j ys e=>?_,fun j ys e=>let ⟨a,vs,h1,h2,h3⟩:=r.cst j ys (cs j ys e);⟨a,vs,h1,k.same.seq h2,h3.mono k.same⟩,fun j1 j2 ys zs b e1 e2 f1 f2=>?_,r.sub,fun a h=>?_,r1.gr.to (fun j d e=>?_) (fun j o b e q=>?_) (fun b hb hn=>⟨hb.1,rfl⟩) ts⟩
 ·by_cases hj:j=i
  ·subst hj;rw[se]at e;exact absurd (Option.some.inj (Option.some.inj e)) Ow.not_d
  ·rw[ne j hj]at e
   have:=((lk.2 j).1.1 x).mp e
   rw[ne0 j hj]at this
   obtain⟨v,h5,h6⟩:=r.dat j x this
   exact⟨v,h5,h6.mono k.same⟩
 ·by_cases hj:j=i
  ·subst hj
   rw[se]at e
   obtain rfl:=G4 e
   exact⟨p,us,hp,h2,h3',h4.mono k.same⟩
  ·rw[ne j hj]at e
   obtain⟨b,ws,h5,h6,h7,h8⟩:=r1.mt j ys e
   have fx:okM (some ys.L)=true:=List.all_eq_true.mp ok (some ys.L) (List.mem_of_getElem? e)
   exact⟨b,ws,h5,h6.1,h7,h8.monoT ts fx⟩
 ·have g:∀(j:Nat) (ys:Ow),(τ1.set i (some w.L))[j]?=some (some ys.L)->∃zs:Ow,τ[j]?=some (some zs.L):=fun j ys e=>by
   by_cases hj:j=i
   ·subst hj;exact⟨_,hi⟩
   ·rw[ne j hj]at e;exact mm j ys hj e
  obtain⟨_,g1⟩:=g j1 ys e1
  obtain⟨_,g2⟩:=g j2 zs e2
  exact r.inj _ _ _ _ b g1 g2 f1 f2
 ·by_cases e:a=p
  ·subst e;exact⟨_,h3'⟩
  ·exact r1.ex a ⟨h,e⟩
 ·by_cases hj:j=i
  ·subst hj;rw[se]at e;exact absurd (Option.some.inj (Option.some.inj e)) Ow.not_g
  ·rw[ne j hj]at e;exact⟨e,rfl⟩
 ·by_cases hj:j=i
  ·subst hj
   rw[hp]at q;cases q
   exact .inr fun z=>z.2 rfl
  ·rw[ne j hj]at e;exact .inl ⟨o,e,q⟩
theorem OW{τ τ1:DS}{i:Nat}{w:Ow}(hi:τ[i]?=some (some w.L))(lk:Like (τ.set i (some (.d w.D))) τ1):Like τ (τ1.set i (some w.L)):=by
 have hlt:i<τ.length:=(List.getElem?_eq_some_iff.mp hi).1
 have hl1:τ1.length=τ.length:=by have:=lk.1;rw[List.length_set]at this;exact this
 refine⟨by rw[List.length_set];exact hl1,fun j=>?_⟩
 by_cases hj:j=i
 ·subst hj
  rw[List.getElem?_set_self (by omega),hi]
  exact⟨⟨fun x=>Iff.rfl,fun x=>Iff.rfl⟩,fun b=>Iff.rfl⟩
 ·have:=lk.2 j
  rw[List.getElem?_set_ne (Ne.symm hj)]at this ⊢
  exact this
theorem TB{i:Nat}{fr:Bool}{t:TE}{f:DX}(h:E K t fr f):E K t false (Ih i f):=by
 refine⟨fun τ d τ' e=>?_,?_⟩
 ·obtain⟨xs,τ1,e1,e2,_,_,rfl⟩:=Mo e
  exact OW e1 (h.like _ _ _ e2)
 intro S M τ σ H Q d τ' r e q
 obtain⟨xs,τ1,e1,e2,fx,ok,rfl⟩:=Mo e
 obtain⟨p,us,hp,hM,hl,ll⟩:=r.mt i xs e1
 refine h.weak.run _ _ _ σ H _ d τ1 (frz r e1 hp) e2 fun v H' r' c res=>?_
 have r2:=Ut r e1 hp r' (h.like _ _ _ e2) c ok
 refine q v H' r2 (fun b o hn e=>c b o (fun z=>hn z.1) e) ?_
 have h3':H' p=some us:=c p _ (fun z=>z.2 rfl) hl
 exact Is.monoT (DH fun a z => by
  by_cases e:a=p
  ·subst e;exact .inr ⟨_,h3',ll.ho⟩
  ·exact .inl ⟨z,e⟩) fx (show Is K (hid (fun b=>S b/\b≠p) H') d v from res)
def Mp(i:Nat)(f:DX)(τ:DS):Option (PyData×DS):=match τ[i]? with
 |some (some (.m xs))=>(f (τ.set i (some (.d (.list xs))))).bind fun q=>match q.1 with
  |.list ys=>if fixDs ys&&q.2.all okM then some (q.1,q.2.set i (some (.m xs))) else none
  |_=>none
 |some (some (.k xs))=>(f (τ.set i (some (.d (.dict (CB xs)))))).bind fun q=>match q.1 with
  |.list ys=>if fixDs ys&&q.2.all okM then some (q.1,q.2.set i (some (.k xs))) else none
  |_=>none
 |_=>none
theorem Ow.D_list{o:Ow}{ys:List PyData}(h:PyData.list ys=o.D):o = .l ys:=by
 cases o with
 |l xs=>cases h;rfl
 |t kvs=>cases h
end DL
end
section
namespace DL
open PySem L2
variable {K:KW}
def XE(K:KW)(S:Addr->Prop)(J:It)(H:Hp)(ds:List PyData):Prop:=∀(S2:Addr->Prop) (H2:Hp),Keep S H S2 H2->(∀(i:Nat) (d:PyData),ds[i]?=some d->J.go i H2/\∀x H3,J.yld i H2 x H3->H3=H2/\Is K (hid S2 H2) d x)/\∀i,ds.length<=i->J.stop i H2
abbrev DI:=DS->Option (List PyData×DS)
structure IT(K:KW)(wi:TI)(f:DI):Prop where
 like:∀τ ds τ',f τ=some (ds,τ')->Like τ τ'
 run:∀S M τ σ H (Q:It->Hp->Prop) ds τ',R K S M τ σ H->f τ=some (ds,τ')->(∀J H',R K S M τ' σ H'->Chg M H H'->XE K S J H' ds->Q J H')->wi σ H Q
def dIL(f:DX)(τ:DS):Option (List PyData×DS):=(f τ).bind fun p=>match p.1 with
 |.list ds=>some (ds,p.2)
 |_=>none
def dIT(f:DX)(τ:DS):Option (List PyData×DS):=(f τ).bind fun p=>match p.1 with
 |.tuple ds=>some (ds,p.2)
 |_=>none
theorem E2{fr:Bool}{t:TE}{f:DX}(h:E K t fr f):IT K (Sv K t) (dIL f):=by
 refine⟨fun τ d τ' e=>?_,?_⟩
 ·unfold dIL at e
  obtain⟨⟨x,τ1⟩,e1,e⟩:=oB e
  dsimp only at e
  split at e
  ·cases e;exact h.like _ _ _ e1
  ·cases e
 intro S M τ σ H Q ds τ' r e q
 unfold dIL at e
 obtain⟨⟨x,τ1⟩,e1,e⟩:=oB e
 dsimp only at e
 split at e
 ·cases e
  refine h.weak.run S M τ σ H _ _ _ r e1 fun v H1 r1 c1 i1=>?_
  have i1':Is K (hid S H1) (.list ds) v:=i1
  obtain⟨a,vs,rfl,hl,ll⟩:=i1'
  refine⟨a,rfl,⟨vs,SqL.of (hid_iff.mp hl).2⟩,q _ H1 r1 c1 fun S2 H2 k=>?_⟩
  have hl2:=k.same _ _ hl
  have ll2:=ll.mono k.same
  refine⟨fun i d e=>?_,fun i hi=>⟨vs,SqL.of (hid_iff.mp hl2).2,by rw[ll.length];exact hi⟩⟩
  obtain⟨u,h1,h2⟩:=ll2.get e
  refine⟨⟨vs,u,SqL.of (hid_iff.mp hl2).2,h1⟩,fun x H3 y=>⟨y.1,?_⟩⟩
  have:=y.2 vs (SqL.of (hid_iff.mp hl2).2)
  rw[h1]at this;cases this
  exact h2
 ·cases e
theorem Vy{fr:Bool}{t:TE}{f:DX}(h:E K t fr f):IT K (Wu K t) (dIT f):=by
 refine⟨fun τ d τ' e=>?_,?_⟩
 ·unfold dIT at e
  obtain⟨⟨x,τ1⟩,e1,e⟩:=oB e
  dsimp only at e
  split at e
  ·cases e;exact h.like _ _ _ e1
  ·cases e
 intro S M τ σ H Q ds τ' r e q
 unfold dIT at e
 obtain⟨⟨x,τ1⟩,e1,e⟩:=oB e
 dsimp only at e
 split at e
 ·cases e
  refine h.weak.run S M τ σ H _ _ _ r e1 fun v H1 r1 c1 i1=>?_
  have i1':Is K (hid S H1) (.tuple ds) v:=i1
  obtain⟨a,vs,rfl,hl,ll⟩:=i1'
  refine⟨a,rfl,⟨vs,Same.tup same_hid hl⟩,q _ H1 r1 c1 fun S2 H2 k=>?_⟩
  have hl2:=Same.tup same_hid (Same.tup k.same hl)
  have ll2:=ll.mono k.same
  refine⟨fun i d e=>?_,fun i hi=>⟨vs,hl2,by rw[ll.length];exact hi⟩⟩
  obtain⟨u,h1,h2⟩:=ll2.get e
  refine⟨⟨vs,u,hl2,h1⟩,fun x H3 y=>⟨y.1,?_⟩⟩
  have:=y.2 vs hl2
  rw[h1]at this;cases this
  exact h2
 ·cases e
def GL(lo:Int)(n:Nat):List PyData:=(List.range n).map fun(k:Nat)=>PyData.int (lo+(k:Int))
theorem SE{S:Addr->Prop}{H:Hp}{lo:Int}{n:Nat}:XE K S (Itr lo n) H (GL lo n):=by
 intro S2 H2 k
 refine⟨fun i d e=>?_,fun i hi=>?_⟩
 ·unfold GL at e
  rw[List.getElem?_map]at e
  by_cases hi:i<n
  ·rw[List.getElem?_range hi]at e
   cases e
   exact⟨hi,fun x H3 y=>⟨y.1,y.2⟩⟩
  ·rw[List.getElem?_eq_none (by simpa using hi)]at e
   cases e
 ·unfold GL at hi
  rw[List.length_map,List.length_range]at hi
  exact hi
def dR1(a:DA)(τ:DS):Option (List PyData×DS):=(a τ).bind fun p=>(Ci p.1).bind fun ds=>match ds with
 |[.int j]=>if -(2 ^ 62)<=j/\j<2 ^ 62 then some (GL 0 j.toNat,p.2) else none
 |_=>none
def dR2(a:DA)(τ:DS):Option (List PyData×DS):=(a τ).bind fun p=>(Ci p.1).bind fun ds=>match ds with
 |[.int i,.int j]=>if -(2 ^ 62)<=i/\i<2 ^ 62/\-(2 ^ 62)<=j/\j<2 ^ 62 then some (GL i (j-i).toNat,p.2) else none
 |_=>none
theorem Cv{t:TA}{a:DA}(ha:A K t a):IT K (U6 t) (dR1 a):=by
 refine⟨fun τ d τ' e=>?_,?_⟩
 ·unfold dR1 at e
  obtain⟨⟨x,τ1⟩,e1,e⟩:=oB e
  obtain⟨ds,e2,e⟩:=oB e
  split at e
  ·split at e
   ·cases e;exact ha.like _ _ _ e1
   ·cases e
  ·cases e
 intro S M τ σ H Q ds τ' r e q
 unfold dR1 at e
 obtain⟨⟨x,τ1⟩,e1,e⟩:=oB e
 obtain⟨ds',e2,e⟩:=oB e
 split at e
 ·split at e
  ·rename_i j hj
   cases e
   refine ha.run S M τ σ H _ x _ r e1 fun vs H1 r1 c1 i1=>?_
   obtain⟨v,us,rfl,iv,iu⟩:=Da i1 e2
   cases (show us=[] from iu)
   exact⟨j,by rw[show v = .int j from iv],hj.1,hj.2,q _ H1 r1 c1 SE⟩
  ·cases e
 ·cases e
abbrev DG:=PyData->DS->Option DS
def MSame(τ τ':DS):Prop:=τ'.length=τ.length/\∀(j:Nat) (o:Ow),τ'[j]?=some (some o.L)↔τ[j]?=some (some o.L)
theorem MSame.refl{τ:DS}:MSame τ τ:=⟨rfl,fun _ _=>Iff.rfl⟩
theorem MSame.trans{τ τ1 τ2:DS}(a:MSame τ τ1)(b:MSame τ1 τ2):MSame τ τ2:=⟨b.1.trans a.1,fun j xs=>(b.2 j xs).trans (a.2 j xs)⟩
structure TG1 K (g:TG) (f:DG):Prop where
 ms:∀d τ τ',f d τ=some τ'->MSame τ τ'
 run:∀S M τ σ H v d τ' (Q:St->Hp->Prop),R K S M τ σ H->Is K (hid S H) d v->f d τ=some τ'->(∀σ',R K S M τ' σ' H->(∀(j:Nat) (o:Ow),τ[j]?=some (some o.L)->σ'[j]?=σ[j]?)->Q σ' H)->g v σ H Q
structure TG2 K (g:TGs) (f:List PyData->DS->Option DS):Prop where
 ms:∀d τ τ',f d τ=some τ'->MSame τ τ'
 run:∀S M τ σ H vs ds τ' (Q:St->Hp->Prop),R K S M τ σ H->IsL K (hid S H) ds vs->f ds τ=some τ'->(∀σ',R K S M τ' σ' H->(∀(j:Nat) (o:Ow),τ[j]?=some (some o.L)->σ'[j]?=σ[j]?)->Q σ' H)->g vs σ H Q
def dN(i:Nat)(d:PyData)(τ:DS):Option DS:=match τ[i]? with
 |some (some (.m _))=>none
 |some (some (.k _))=>none
 |some _=>some (τ.set i (some (.d d)))
 |none=>none
theorem Qt{i:Nat}{d:PyData}{τ τ':DS}(e:dN i d τ=some τ'):i<τ.length/\(∀o:Ow,τ[i]?≠some (some o.L))/\τ'=τ.set i (some (.d d)):=by
 unfold dN at e
 split at e
 ·cases e
 ·cases e
 ·rename_i o hn hk ho
  cases e
  refine⟨(List.getElem?_eq_some_iff.mp ho).1,fun xs z=>?_,rfl⟩
  rw[ho]at z
  cases xs with
  |l xs=>exact hn xs (Option.some.inj z)
  |t xs=>exact hk xs (Option.some.inj z)
 ·cases e
theorem R.setD{S M:Addr->Prop}{τ:DS}{σ:St}{H:Hp}(r:R K S M τ σ H){i:Nat}{d:PyData}{v:V}(hi:i<τ.length)(hm:∀o:Ow,τ[i]?≠some (some o.L))(iv:Is K (hid S H) d v):R K S M (τ.set i (some (.d d))) (σ.set i (some v)) H:=by
 have hs:i<σ.length:=by rw[r.len];exact hi
 have ne:∀j,j≠i->(τ.set i (some (.d d)))[j]?=τ[j]?:=fun j hj=>List.getElem?_set_ne (Ne.symm hj)
 have ne':∀j,j≠i->(σ.set i (some v))[j]?=σ[j]?:=fun j hj=>List.getElem?_set_ne (Ne.symm hj)
 have mn:∀(j:Nat) (ys:Ow),(τ.set i (some (.d d)))[j]?=some (some ys.L)->j≠i/\τ[j]?=some (some ys.L):=fun j ys e=>by
  by_cases hj:j=i
  ·subst hj;rw[List.getElem?_set_self hi]at e;exact absurd (Option.some.inj (Option.some.inj e)).symm Ow.not_d
  ·rw[ne j hj]at e;exact⟨hj,e⟩
 refine⟨by rw[List.length_set,List.length_set];exact r.len,fun j x e=>?_,fun j xs e=>?_,fun j xs e=>?_,fun j1 j2 ys zs b e1 e2 f1 f2=>?_,r.sub,r.ex,r.gr.to (fun j x e=>?_) (fun j o b e q=>.inl ⟨o,(mn j o e).2,by rw[ne' j (mn j o e).1]at q;exact q⟩) (fun b hb hn=>⟨hb,rfl⟩) .refl⟩
 ·by_cases hj:j=i
  ·subst hj
   rw[List.getElem?_set_self hi]at e
   cases e
   exact⟨v,List.getElem?_set_self hs,iv⟩
  ·rw[ne j hj]at e
   rw[ne' j hj]
   exact r.dat j x e
 ·obtain⟨hj,e⟩:=mn j xs e
  rw[ne' j hj]
  exact r.mt j xs e
 ·by_cases hj:j=i
  ·subst hj;rw[List.getElem?_set_self hi]at e;cases e
  ·rw[ne j hj]at e
   rw[ne' j hj]
   exact r.cst j xs e
 ·obtain⟨h1,e1⟩:=mn j1 ys e1
  obtain⟨h2,e2⟩:=mn j2 zs e2
  rw[ne' _ h1]at f1
  rw[ne' _ h2]at f2
  exact r.inj _ _ _ _ b e1 e2 f1 f2
 ·by_cases hj:j=i
  ·subst hj;rw[List.getElem?_set_self hi]at e;cases e
  ·rw[ne j hj]at e;exact⟨e,ne' j hj⟩
theorem UD{τ:DS}{i:Nat}{d:PyData}(hi:i<τ.length)(hm:∀o:Ow,τ[i]?≠some (some o.L)):MSame τ (τ.set i (some (.d d))):=by
 refine⟨by rw[List.length_set],fun j xs=>?_⟩
 by_cases hj:j=i
 ·subst hj
  rw[List.getElem?_set_self hi]
  exact⟨fun z=>absurd (Option.some.inj (Option.some.inj z)).symm Ow.not_d,fun z=>absurd z (hm xs)⟩
 ·rw[List.getElem?_set_ne (Ne.symm hj)]
theorem Ak{i:Nat}:TG1 K (Ia i) (dN i):=by
 refine⟨fun d τ τ' e=>?_,?_⟩
 ·obtain⟨h1,h2,rfl⟩:=Qt e
  exact UD h1 h2
 intro S M τ σ H v d τ' Q r iv e q
 obtain⟨h1,h2,rfl⟩:=Qt e
 refine q _ (r.setD h1 h2 iv) fun j xs ej=>?_
 have:j≠i:=fun z=>h2 xs (by rw[<- z];exact ej)
 exact List.getElem?_set_ne (Ne.symm this)
def CI:List PyData->DS->Option DS
 |[],τ=>some τ
 |_::_,_=>none
def Ai(f:DG)(g:List PyData->DS->Option DS):List PyData->DS->Option DS
 |d::ds,τ=>(f d τ).bind fun τ1=>g ds τ1
 |[],_=>none
theorem JQ:TG2 K Ww CI:=by
 refine⟨fun d τ τ' e=>?_,?_⟩
 ·cases d with
  |nil=>cases e;exact .refl
  |cons _ _=>cases e
 intro S M τ σ H vs ds τ' Q r iv e q
 cases ds with
 |nil=>cases e;exact⟨iv,q σ r fun _ _ _=>rfl⟩
 |cons _ _=>cases e
theorem Cw{t:TG}{u:TGs}{f:DG}{g:List PyData->DS->Option DS}(h1:TG1 K t f)(h2:TG2 K u g):TG2 K (VA t u) (Ai f g):=by
 refine⟨fun d τ τ' e=>?_,?_⟩
 ·cases d with
  |nil=>cases e
  |cons d ds =>
   obtain⟨τ1,e1,e⟩:=oB e
   exact(h1.ms _ _ _ e1).trans (h2.ms _ _ _ e)
 intro S M τ σ H vs ds τ' Q r iv e q
 cases ds with
 |nil=>cases e
 |cons d ds =>
  obtain⟨τ1,e1,e⟩:=oB e
  obtain⟨v,us,rfl,iv,iu⟩:=iv
  refine⟨v,us,rfl,h1.run S M τ σ H v d τ1 _ r iv e1 fun σ1 r1 k1=>?_⟩
  refine h2.run S M τ1 σ1 H us ds τ' _ r1 iu e fun σ2 r2 k2=>?_
  refine q σ2 r2 fun j xs hj=>?_
  rw[k2 j xs (((h1.ms _ _ _ e1).2 j xs).mpr hj),k1 j xs hj]
def dGT(g:List PyData->DS->Option DS)(d:PyData)(τ:DS):Option DS:=match d with
 |.tuple ds=>g ds τ
 |_=>none
theorem MX{n:Nat}{u:TGs}{g:List PyData->DS->Option DS}(h:TG2 K u g)(hn:∀ds τ τ',g ds τ=some τ'->ds.length=n):TG1 K (Wv K n u) (dGT g):=by
 refine⟨fun d τ τ' e=>?_,?_⟩
 ·unfold dGT at e
  split at e
  ·exact h.ms _ _ _ e
  ·cases e
 intro S M τ σ H v d τ' Q r iv e q
 unfold dGT at e
 split at e
 ·obtain⟨a,vs,rfl,hl,ll⟩:=iv
  exact⟨a,vs,rfl,Same.tup same_hid hl,by rw[ll.length];exact hn _ _ _ e,h.run S M τ σ H vs _ τ' Q r ll e q⟩
 ·cases e
theorem G7:∀(ds:List PyData) (τ τ':DS),CI ds τ=some τ'->ds.length=0
 |[],_,_,_=>rfl
 |_::_,_,_,e=>by cases e
theorem B8{n:Nat}{f:DG}{g:List PyData->DS->Option DS}(h:∀ds τ τ',g ds τ=some τ'->ds.length=n):∀(ds:List PyData) (τ τ':DS),Ai f g ds τ=some τ'->ds.length=n+1
 |[],_,_,e=>by cases e
 |d::ds,τ,τ',e=>by
  obtain⟨τ1,e1,e⟩:=oB e
  rw[List.length_cons,h _ _ _ e]
def BF(g:DG)(c:DT)(e:DX):List PyData->List PyData->DS->Option (List PyData×DS)
 |[],acc,τ=>some (acc,τ)
 |d::ds,acc,τ=>(g d τ).bind fun τ1=>(c τ1).bind fun p=>if p.1=true then (e p.2).bind fun q=>BF g c e ds (acc++[q.1]) q.2 else BF g c e ds acc p.2
def noG:Option L->Option L
 |some (.g _)=>none
 |o=>o
def FG(own:Nat)(fr:List Nat)(τ:DS):DS:=List.replicate own none++fr.map fun j=>noG (τ[j]?).join
theorem OL{o:Option L}{l:L}(h:noG o=some l):o=some l/\∀x,l≠.g x:=by
 unfold noG at h
 split at h
 ·cases h
 ·rename_i hn
  exact⟨h,fun x z=>hn x (by rw[h,z])⟩
def isM(τ:DS)(j:Nat):Bool:=match τ[j]? with
 |some (some (.m _))=>true
 |some (some (.k _))=>true
 |_=>false
theorem isM_iff{τ:DS}{j:Nat}:isM τ j=true↔∃o:Ow,τ[j]?=some (some o.L):=by
 unfold isM
 split
 ·rename_i xs h;exact⟨fun _=>⟨.l xs,h⟩,fun _=>rfl⟩
 ·rename_i xs h;exact⟨fun _=>⟨.t xs,h⟩,fun _=>rfl⟩
 ·rename_i h1 h2
  exact ⟨fun z => (nomatch z), fun ⟨o, z⟩ => by
   cases o with
   |l xs=>exact absurd z (h1 xs)
   |t xs=>exact absurd z (h2 xs)⟩
def dLC(own:Nat)(fr:List Nat)(it:DI)(g:DG)(c:DT)(e:DX)(τ:DS):Option (PyData×DS):=(it τ).bind fun p=>if p.1.length<=sizeLine/\(fr.all fun j=>!isM p.2 j)=true then (BF g c e p.1 [] (FG own fr p.2)).map fun q=>(.list q.1,p.2) else none
theorem Br{own:Nat}{fr:List Nat}{τ:DS}{i:Nat}{l:L}(h:(FG own fr τ)[i]?=some (some l)):∃k j,i=own+k/\fr[k]?=some j/\τ[j]?=some (some l):=by
 unfold FG at h
 by_cases hi:i<own
 ·rw[List.getElem?_append_left (by simpa using hi),List.getElem?_replicate,if_pos hi]at h
  cases h
 ·rw[List.getElem?_append_right (by simpa using hi),List.length_replicate,List.getElem?_map]at h
  cases e:fr[i-own]? with
  |none=>rw[e]at h;cases h
  |some j =>
   rw[e]at h
   simp only[Option.map_some,Option.some.injEq]at h
   refine⟨i-own,j,by omega,e,?_⟩
   replace h:=(OL h).1
   cases q:τ[j]? with
   |none=>rw[q]at h;cases h
   |some o=>rw[q]at h;cases o with
    |none=>cases h
    |some u=>cases h;rfl
theorem N0{own:Nat}{fr:List Nat}{τ:DS}(i:Nat)(d:PyData):(FG own fr τ)[i]?≠some (some (.g d)):=fun h=>by
 unfold FG at h
 by_cases hi:i<own
 ·rw[List.getElem?_append_left (by simpa using hi),List.getElem?_replicate,if_pos hi]at h
  cases h
 ·rw[List.getElem?_append_right (by simpa using hi),List.length_replicate,List.getElem?_map]at h
  cases e:fr[i-own]? with
  |none=>rw[e]at h;cases h
  |some j =>
   rw[e]at h
   simp only[Option.map_some,Option.some.injEq]at h
   exact(OL h).2 d rfl
theorem FF{own:Nat}{fr:List Nat}{σ:St}{k j:Nat}{v:V}(e:fr[k]?=some j)(h:σ[j]?=some (some v)):(blk own fr σ)[own+k]?=some (some v):=by
 unfold blk
 rw[List.getElem?_append_right (by simp),List.length_replicate,List.getElem?_map,show own+k-own=k by omega,e]
 show some (σ[j]?).join=_
 rw[h];rfl
theorem IY{H:Hp}{xs:List PyData}{vs:List V}{d:PyData}{v:V}(l:IsL K H xs vs)(i:Is K H d v):IsL K H (xs++[d]) (vs++[v]):=Fm l ⟨v,[],rfl,i,rfl⟩
theorem Re{own:Nat}{fr:List Nat}{wi:TI}{it:DI}{tg:TG}{g:DG}{tc:TT}{c:DT}{te:TE}{e:DX}{fe:Bool}(hi:IT K wi it)(hg:TG1 K tg g)(hc:T K tc c)(he:E K te fe e):E K (tLC own fr wi tg tc te) true (dLC own fr it g c e):=by
 refine⟨fun τ d τ' e=>?_,?_⟩
 ·unfold dLC at e
  obtain⟨⟨x,τ1⟩,e1,e⟩:=oB e
  split at e
  ·obtain⟨z,e3,e⟩:=oM e
   cases e;exact hi.like _ _ _ e1
  ·cases e
 intro S M τ σ H Q d τ' r ee q
 unfold dLC at ee
 obtain⟨⟨ds,τ1⟩,e1,ee⟩:=oB ee
 split at ee
 ·rename_i hz
  obtain⟨hz,hnm⟩:=hz
  have hz:ds.length<=sizeLine:=hz
  obtain⟨⟨acc,τb⟩,e3,ee⟩:=oM ee
  obtain⟨rfl,rfl⟩:d = .list acc/\τ'=τ1:=by cases ee;exact⟨rfl,rfl⟩
  refine hi.run S M τ σ H _ ds _ r e1 fun J H1 r1 c1 iJ=>?_
  intro D hD
  -- nothing of the def may be changed in the block
  refine⟨fun i m ys σ' H'=>∃τb' acc',R K (fun b=>S b\/b=D) (fun _=>False) τb' σ' H'/\Keep S H1 (fun b=>S b\/b=D) H'/\Chg (fun b=>b=D) H1 H'/\IsL K (hid (fun b=>S b\/b=D) H') acc' ys/\H' D=some (.lst ys)/\ys.length<=i/\i<=ds.length/\m=ds.length-i/\BF g c e (ds.drop i) acc' τb'=some (acc,τb),?_,?_⟩
  ·have s:=BS hD (HO.lst [])
   have k:Keep S H1 (fun b=>S b\/b=D) (upd H1 D (.lst [])):=fun b o hn e=>by
    have:=Am e hD
    exact⟨fun z=>z.elim hn this,s b o e⟩
   refine⟨ds.length,FG own fr τ',[],⟨?_,?_,?_,?_,?_,fun a h=>h.elim,?_,GR.nil N0⟩,k,.of s,rfl,AT,Nat.le_refl _,Nat.zero_le _,by simp,by simpa using e3⟩
   ·unfold blk FG;simp
   ·intro i x e
    obtain⟨kk,j,rfl,ej,et⟩:=Br e
    obtain⟨v,h1,h2⟩:=r1.dat j x et
    exact⟨v,FF ej h1,h2.mono k.same⟩
   ·intro i xs e
    obtain⟨kk,j,rfl,ej,et⟩:=Br e
    have:=List.all_eq_true.mp hnm j (List.mem_of_getElem? ej)
    rw[isM_iff.mpr ⟨xs,et⟩]at this
    cases this
   ·intro i x e
    obtain⟨kk,j,rfl,ej,et⟩:=Br e
    obtain⟨a,vs,h1,h2,h3⟩:=r1.cst j x et
    exact⟨a,vs,FF ej h1,k.same.seq h2,h3.mono k.same⟩
   ·intro i j xs ys a e
    obtain⟨kk,j',rfl,ej,et⟩:=Br e
    have:=List.all_eq_true.mp hnm j' (List.mem_of_getElem? ej)
    rw[isM_iff.mpr ⟨xs,et⟩]at this
    cases this
   ·rintro a (h|rfl)
    ·obtain⟨o,e⟩:=r1.ex a h
     exact⟨o,s _ _ e⟩
    ·exact⟨_,AT⟩
  ·rintro i m ys σ' H' ⟨τb',acc',rb,k,ch,la,hHD,hyl,hil,rfl,hl⟩
   obtain⟨I1,I2⟩:=iJ _ _ k
   by_cases hlt:i<ds.length
   ·right
    have ed:ds[i]?=some ds[i]:=List.getElem?_eq_getElem hlt
    obtain⟨go,yl⟩:=I1 i _ ed
    refine⟨go,fun x H2 y=>?_⟩
    obtain⟨rfl,ix⟩:=yl x H2 y
    rw[List.drop_eq_getElem_cons hlt,BF]at hl
    obtain⟨τ2,e2,hl⟩:=oB hl
    obtain⟨⟨b,τ3⟩,e4,hl⟩:=oB hl
    refine hg.run _ _ τb' σ' H2 x _ τ2 _ rb ix e2 fun σ3 r3 k3=>?_
    refine hc.run _ _ τ2 σ3 H2 _ b τ3 r3 e4 fun H4 r4 c4=>?_
    have s4:Same H2 H4:=fun b o e=>c4 b o (fun z=>z) e
    cases b with
    |false =>
     rw[if_neg Bool.false_ne_true]
     exact⟨ds.length-(i+1),by omega,τ3,acc',r4,k.trans (Same.keep s4),ch.trans (.of s4),la.mono (Same.keep s4).same,s4 _ _ hHD,by omega,hlt,rfl,hl⟩
    |true =>
     rw[if_pos rfl]
     rw[if_pos rfl]at hl
     obtain⟨⟨z,τ5⟩,e5,hl⟩:=oB hl
     refine he.weak.run _ _ τ3 σ3 H4 _ z τ5 r4 e5 fun v H5 r5 c5 i5=>?_
     have s5:Same H2 H5:=s4.trans fun b o e=>c5 b o (fun z=>z) e
     have hD5:=s5 _ _ hHD
     refine⟨hD5,by omega,ds.length-(i+1),by omega,τ5,acc'++[z],?_,?_,?_,?_,AT,by rw[List.length_append,List.length_singleton];omega,hlt,rfl,hl⟩
     ·have kk:Keep (fun b=>S b\/b=D) H5 (fun b=>S b\/b=D) (upd H5 D (.lst (ys++[v]))):=fun b o hn e=>⟨hn,by rw[AO (fun z=>hn (.inr z))];exact e⟩
      refine⟨r5.len,fun j x e=>let ⟨u,a,b⟩:=r5.dat j x e;⟨u,a,b.mono kk.same⟩,fun j xs e=>let ⟨_,_,_,h,_⟩:=r5.mt j xs e;h.elim,fun j xs e=>let ⟨a,vs,h1,h2,h3⟩:=r5.cst j xs e;⟨a,vs,h1,kk.same.seq h2,h3.mono kk.same⟩,r5.inj,fun _ h=>h.elim,fun a h=>?_,r5.gr.to (fun i d e=>⟨e,rfl⟩) (fun j o a e q=>.inl ⟨o,e,q⟩) (fun a h _=>h.elim) (tsS kk.same)⟩
      by_cases e:a=D
      ·subst e;exact⟨_,AT⟩
      ·obtain⟨o,q⟩:=r5.ex a h
       exact⟨o,by rw[AO e];exact q⟩
     ·refine k.trans fun b o hn e=>⟨hn,?_⟩
      rw[AO (fun z=>hn (.inr z))]
      exact s5 _ _ e
     ·refine ch.trans fun b o hn e=>?_
      rw[AO hn]
      exact s5 _ _ e
     ·refine(IY (la.mono (Same.keep s5).same) i5).mono (Keep.same fun b o hn e=>⟨hn,?_⟩)
      rw[AO (fun z=>hn (.inr z))]
      exact e
   ·left
    have e:i=ds.length:=by omega
    subst e
    rw[List.drop_length,BF]at hl
    cases hl
    refine⟨I2 _ (Nat.le_refl _),?_⟩
    have s:Same H1 H':=fun b o e=>ch b o (Am e hD) e
    refine q _ H' (r1.same s) (c1.trans (.of s)) ⟨.l acc,D,_,rfl,rfl,r1.none c1 hD,hHD,ys,rfl,la⟩
 ·cases ee
end DL
end
section
namespace DL
open PySem L2
variable {K:KW}
def Nx(own:Nat)(f1:List Nat)(j0:Nat)(f2:List Nat)(it:DI)(g:DG)(c:DT)(e:DX)(τ:DS):Option (PyData×DS):=(it τ).bind fun p=>if p.1.length<=sizeLine/\isM p.2 j0=true/\((f1++f2).all fun j=>!isM p.2 j)=true then
  (BF g c e p.1 [] (FG own (f1++j0::f2) p.2)).bind fun q=>match q.2[own+f1.length]?,p.2[j0]? with
   |some (some (.m xs)),some (some (.m _))=>some (.list q.1,p.2.set j0 (some (.m xs)))
   |some (some (.k xs)),some (some (.k _))=>some (.list q.1,p.2.set j0 (some (.k xs)))
   |_,_=>none
 else none
theorem Mn{own:Nat}{f1:List Nat}{j0:Nat}{f2:List Nat}{it:DI}{g:DG}{c:DT}{e:DX}{τ:DS}{d:PyData}{τ':DS}(h:Nx own f1 j0 f2 it g c e τ=some (d,τ')) :
  ∃ds τ1 acc τb xs,it τ=some (ds,τ1)/\ds.length<=sizeLine/\isM τ1 j0=true/\((f1++f2).all fun j=>!isM τ1 j)=true/\BF g c e ds [] (FG own (f1++j0::f2) τ1)=some (acc,τb)/\τb[own+f1.length]?=some (some (Ow.L xs))/\d = .list acc/\τ'=τ1.set j0 (some xs.L)/\∃y0:Ow,τ1[j0]?=some (some y0.L)/\y0.fl=xs.fl:=by
 unfold Nx at h
 obtain⟨⟨ds,τ1⟩,e1,h⟩:=oB h
 split at h
 ·rename_i hz
  obtain⟨⟨acc,τb⟩,e3,h⟩:=oB h
  dsimp only at h
  split at h
  ·rename_i xs ys hx hy
   cases h
   exact⟨ds,τ1,acc,τb,.l xs,e1,hz.1,hz.2.1,hz.2.2,e3,hx,rfl,rfl,.l _,hy,rfl⟩
  ·rename_i xs ys hx hy
   cases h
   exact⟨ds,τ1,acc,τb,.t xs,e1,hz.1,hz.2.1,hz.2.2,e3,hx,rfl,rfl,.t _,hy,rfl⟩
  ·cases h
 ·cases h
theorem WI{f1 f2:List Nat}{j0 k j:Nat}(h:(f1++j0::f2)[k]?=some j):(k=f1.length/\j=j0)\/j∈f1++f2:=by
 rcases Nat.lt_trichotomy k f1.length with q|q|q
 ·rw[List.getElem?_append_left q]at h
  exact .inr (List.mem_append_left _ (List.mem_of_getElem? h))
 ·subst q
  rw[List.getElem?_append_right (Nat.le_refl _),Nat.sub_self]at h
  cases h
  exact .inl ⟨rfl,rfl⟩
 ·rw[List.getElem?_append_right (by omega)]at h
  have e:k-f1.length=(k-f1.length-1)+1:=by omega
  rw[e,List.getElem?_cons_succ]at h
  exact .inr (List.mem_append_right _ (List.mem_of_getElem? h))
theorem VD{own:Nat}{f1:List Nat}{j0:Nat}{f2:List Nat}{wi:TI}{it:DI}{tg:TG}{g:DG}{tc:TT}{c:DT}{te:TE}{e:DX}{fe:Bool}(hi:IT K wi it)(hg:TG1 K tg g)(hc:T K tc c)(he:E K te fe e):E K (tLC own (f1++j0::f2) wi tg tc te) true (Nx own f1 j0 f2 it g c e):=by
 refine⟨fun τ d τ' h=>?_,?_⟩
 ·obtain⟨ds,τ1,acc,τb,xs,e1,_,hm,_,_,_,_,rfl,y0,hy,hf⟩:=Mn h
  exact(hi.like _ _ _ e1).trans (G6 hy hf)
 intro S M τ σ H Q d τ' r ee q
 obtain⟨ds,τ1,acc,τb,xs,e1,hz,hm,hnm,e3,hx,rfl,rfl,_⟩:=Mn ee
 obtain⟨y0,hm⟩:=isM_iff.mp hm
 refine hi.run S M τ σ H _ ds _ r e1 fun J H1 r1 c1 iJ=>?_
 obtain⟨p,us,hp,hM,hHp,lp⟩:=r1.mt j0 y0 hm
 have Sp:S p:=r1.sub p hM
 have mid:(f1++j0::f2)[f1.length]?=some j0:=by rw[List.getElem?_append_right (Nat.le_refl _),Nat.sub_self];rfl
 have only:∀(i:Nat) (ys:Ow),(FG own (f1++j0::f2) τ1)[i]?=some (some ys.L)->i=own+f1.length/\ys=y0:=fun i ys h=>by
  obtain⟨k,j,rfl,ej,et⟩:=Br h
  rcases WI ej with ⟨rfl,rfl⟩|z
  ·rw[hm]at et;exact⟨rfl,(G4 et).symm⟩
  ·have:=List.all_eq_true.mp hnm j z
   rw[isM_iff.mpr ⟨ys,et⟩]at this
   cases this
 intro D hD
 have pD:p≠D:=Am hHp hD
 refine⟨fun i m ys σ' H'=>∃τb' acc',R K (fun b=>S b\/b=D) (fun b=>b=p) τb' σ' H'/\Keep S H1 (fun b=>S b\/b=D) H'/\Chg (fun b=>b=D\/b=p) H1 H'/\IsL K (hid (fun b=>S b\/b=D) H') acc' ys/\H' D=some (.lst ys)/\ys.length<=i/\i<=ds.length/\m=ds.length-i/\BF g c e (ds.drop i) acc' τb'=some (acc,τb)/\isM τb' (own+f1.length)=true/\σ'[own+f1.length]?=some (some (.ref p)),?_,?_⟩
 ·have s:=BS hD (HO.lst [])
  have k:Keep S H1 (fun b=>S b\/b=D) (upd H1 D (.lst [])):=fun b o hn e=>by
   have:=Am e hD
   exact⟨fun z=>z.elim hn this,s b o e⟩
  have mb:(FG own (f1++j0::f2) τ1)[own+f1.length]?=some (some y0.L):=by
   unfold FG
   rw[List.getElem?_append_right (by simp),List.length_replicate,List.getElem?_map,show own+f1.length-own=f1.length by omega,mid]
   show some (noG (τ1[j0]?).join)=_
   rw[hm];cases y0<;>rfl
  refine⟨ds.length,FG own (f1++j0::f2) τ1,[],⟨?_,?_,?_,?_,?_,?_,?_,GR.nil N0⟩,k,.of s,rfl,AT,Nat.le_refl _,Nat.zero_le _,by simp,by simpa using e3,isM_iff.mpr ⟨_,mb⟩,FF mid hp⟩
  ·unfold blk FG;simp
  ·intro i x e
   obtain⟨kk,j,rfl,ej,et⟩:=Br e
   obtain⟨v,h1,h2⟩:=r1.dat j x et
   exact⟨v,FF ej h1,h2.mono k.same⟩
  ·intro i ys e
   obtain⟨rfl,rfl⟩:=only i ys e
   exact⟨p,us,FF mid hp,rfl,s _ _ hHp,lp.mono k.same⟩
  ·intro i x e
   obtain⟨kk,j,rfl,ej,et⟩:=Br e
   obtain⟨a,vs,h1,h2,h3⟩:=r1.cst j x et
   exact⟨a,vs,FF ej h1,k.same.seq h2,h3.mono k.same⟩
  ·intro i j ys zs a e1 e2 _ _
   rw[(only i ys e1).1,(only j zs e2).1]
  ·rintro a rfl
   exact .inl Sp
  ·rintro a (h|rfl)
   ·obtain⟨o,e⟩:=r1.ex a h
    exact⟨o,s _ _ e⟩
   ·exact⟨_,AT⟩
 ·rintro i m ys σ' H' ⟨τb',acc',rb,k,ch,la,hHD,hyl,hil,rfl,hl,hmb,hpb⟩
  obtain⟨I1,I2⟩:=iJ _ _ k
  by_cases hlt:i<ds.length
  ·right
   have ed:ds[i]?=some ds[i]:=List.getElem?_eq_getElem hlt
   obtain⟨go,yl⟩:=I1 i _ ed
   refine⟨go,fun x H2 y=>?_⟩
   obtain⟨rfl,ix⟩:=yl x H2 y
   rw[List.drop_eq_getElem_cons hlt,BF]at hl
   obtain⟨τ2,e2,hl⟩:=oB hl
   obtain⟨⟨b,τ3⟩,e4,hl⟩:=oB hl
   obtain⟨zb,hmb⟩:=isM_iff.mp hmb
   refine hg.run _ _ τb' σ' H2 x _ τ2 _ rb ix e2 fun σ3 r3 k3=>?_
   have hpb3:σ3[own+f1.length]?=some (some (.ref p)):=(k3 _ _ hmb).trans hpb
   have hm2:τ2[own+f1.length]?=some (some zb.L):=((hg.ms _ _ _ e2).2 _ _).mpr hmb
   refine hc.run _ _ τ2 σ3 H2 _ b τ3 r3 e4 fun H4 r4 c4=>?_
   have k4:Keep (fun b=>S b\/b=D) H2 (fun b=>S b\/b=D) H4:=c4.keep fun b z=>by subst z;exact .inl Sp
   have hm3:=((hc.like _ _ _ e4).own (own+f1.length)).mpr ⟨_,hm2⟩
   have hD4:H4 D=some (.lst ys):=c4 D _ (Ne.symm pD) hHD
   have ch4:Chg (fun b=>b=D\/b=p) H1 H4:=ch.trans fun b o hn e=>c4 b o (fun z=>hn (.inr z)) e
   cases b with
   |false =>
    rw[if_neg Bool.false_ne_true]
    exact⟨ds.length-(i+1),by omega,τ3,acc',r4,k.trans k4,ch4,la.mono k4.same,hD4,by omega,hlt,rfl,hl,isM_iff.mpr hm3,hpb3⟩
   |true =>
    rw[if_pos rfl]
    rw[if_pos rfl]at hl
    obtain⟨⟨z,τ5⟩,e5,hl⟩:=oB hl
    refine he.weak.run _ _ τ3 σ3 H4 _ z τ5 r4 e5 fun v H5 r5 c5 i5=>?_
    have k5:Keep (fun b=>S b\/b=D) H4 (fun b=>S b\/b=D) H5:=c5.keep fun b z=>by subst z;exact .inl Sp
    have hD5:H5 D=some (.lst ys):=c5 D _ (Ne.symm pD) hD4
    have hm5:=((he.like _ _ _ e5).own (own+f1.length)).mpr hm3
    have kk:Keep (fun b=>S b\/b=D) H5 (fun b=>S b\/b=D) (upd H5 D (.lst (ys++[v]))):=fun b o hn e=>⟨hn,by rw[AO (fun z=>hn (.inr z))];exact e⟩
    refine⟨hD5,by omega,ds.length-(i+1),by omega,τ5,acc'++[z],?_,(k.trans (k4.trans k5)).trans kk,?_,?_,AT,by rw[List.length_append,List.length_singleton];omega,hlt,rfl,hl,isM_iff.mpr hm5,hpb3⟩
    ·refine⟨r5.len,fun j x e=>let ⟨u,a,b⟩:=r5.dat j x e;⟨u,a,b.mono kk.same⟩,fun j xs e=>?_,fun j xs e=>let ⟨a,vs,h1,h2,h3⟩:=r5.cst j xs e;⟨a,vs,h1,kk.same.seq h2,h3.mono kk.same⟩,r5.inj,r5.sub,fun a h=>?_,r5.gr.to (fun i d e=>⟨e,rfl⟩) (fun j o a e q=>.inl ⟨o,e,q⟩) (fun a h _=>⟨h,AO (by rw[show a=p from h];exact pD)⟩) (tsS kk.same)⟩
     ·obtain⟨a,ws,h1,h2,h3,h4⟩:=r5.mt j xs e
      exact⟨a,ws,h1,h2,by rw[AO (by rw[show a=p from h2];exact pD)];exact h3,h4.mono kk.same⟩
     ·by_cases e:a=D
      ·subst e;exact⟨_,AT⟩
      ·obtain⟨o,q⟩:=r5.ex a h
       exact⟨o,by rw[AO e];exact q⟩
    ·refine ch4.trans fun b o hn e=>?_
     rw[AO (fun z=>hn (.inl z))]
     exact c5 b o (fun z=>hn (.inr z)) e
    ·exact(IY (la.mono (k4.trans k5).same) i5).mono kk.same
  ·left
   have e:i=ds.length:=by omega
   subst e
   rw[List.drop_length,BF]at hl
   cases hl
   refine⟨I2 _ (Nat.le_refl _),?_⟩
   have cp:Chg (fun b=>b=p) H1 H':=fun b o hn e=>ch b o (fun z=>z.elim (Am e hD) hn) e
   obtain⟨a,ws,h1,h2,h3,h4⟩:=rb.mt _ _ hx
   have ea:a=p:=h2
   subst ea
   exact q _ H' (r1.setO hm hp cp h3 (h4.mono (B9 fun b z=>.inl z))) (c1.trans fun b o hn e=>cp b o (fun z=>hn (by subst z;exact hM)) e) ⟨.l acc,D,_,rfl,rfl,r1.none c1 hD,hHD,ys,rfl,la⟩
end DL
end
section
namespace DL
open PySem L2
variable {K:KW}
def L1(i:Nat)(f:DX)(τ:DS):Option (PyData×DS):=(f τ).bind fun p=>match p.2[i]?,p.1 with
 |some (some (.c xs)),.int k=>(atI xs k).map fun d=>(d,p.2)
 |_,_=>none
theorem W6{i:Nat}{fr:Bool}{tb:TE}{f:DX}(h:E K tb fr f):E K (tOp (SG K) (FL i) tb) false (L1 i f):=by
 refine⟨fun τ d τ' e=>?_,?_⟩
 ·unfold L1 at e
  obtain⟨⟨x,τ1⟩,e1,e⟩:=oB e
  dsimp only at e
  split at e
  ·obtain⟨z,e3,e⟩:=oM e
   cases e;exact h.like _ _ _ e1
  ·cases e
 intro S M τ σ H Q d τ' r e q
 unfold L1 at e
 obtain⟨⟨x,τ1⟩,e1,e⟩:=oB e
 dsimp only at e
 split at e
 ·rename_i xs k hx
  obtain⟨z,e3,e⟩:=oM e
  cases e
  obtain⟨a,vs,ha,_⟩:=r.cst i xs ((((h.like _ _ _ e1).2 i).1.2 xs).mp hx)
  refine⟨.ref a,ha,h.weak.run S M τ σ H _ _ _ r e1 fun v H1 r1 c1 i1=>?_⟩
  obtain⟨a',vs',ha',h2,h3⟩:=r1.cst i xs hx
  rw[ha]at ha';cases ha'
  obtain⟨u,h4,h5⟩:=Pk h3 e3
  exact⟨a,vs',k,u,rfl,i1,same_hid.seq h2,h4,q u H1 r1 c1 h5⟩
 ·cases e
def HX(i:Nat)(τ:DS):Option (PyData×DS):=match τ[i]? with
 |some (some (.c xs))=>some (.int xs.length,τ)
 |_=>none
theorem V6{i:Nat}:E K (tCB (fun xs H Q=>∃x n,xs=[x]/\WN K x H n/\Q (.int n) H) (Dd (FL i) Hz)) false (HX i):=by
 refine⟨fun τ d τ' e=>?_,?_⟩
 ·unfold HX at e
  split at e
  ·cases e;exact .refl
  ·cases e
 intro S M τ σ H Q d τ' r e q
 unfold HX at e
 split at e
 ·rename_i xs hx
  cases e
  obtain⟨a,vs,ha,h2,h3⟩:=r.cst i xs hx
  refine⟨.ref a,ha,.ref a,vs.length,rfl,.inl ⟨vs,same_hid.seq h2,rfl⟩,?_⟩
  exact q _ H r .refl (by rw[h3.length];rfl)
 ·cases e
def Cp(i:Nat)(G:List L->Option (PyData×List L))(a:DA)(τ:DS):Option (PyData×DS):=(a τ).bind fun p=>(Ci p.1).bind fun ds=>match p.2[i]? with
 |some (some (.c xs))=>(G (.c xs::ds.map L.d)).map fun q=>(q.1,p.2)
 |_=>none
theorem Nt{i:Nat}{fr:Bool}{G:List L->Option (PyData×List L)}{t:TA}{a:DA}{X:XK}(ha:A K t a):E K (MA (spD K G fr) [] X (Dd (FL i) t)) fr (Cp i G a):=by
 refine⟨fun τ d τ' e=>?_,?_⟩
 ·unfold Cp at e
  obtain⟨⟨x,τ1⟩,e1,e⟩:=oB e
  obtain⟨ds,e2,e⟩:=oB e
  dsimp only at e
  split at e
  ·obtain⟨z,e3,e⟩:=oM e
   cases e;exact ha.like _ _ _ e1
  ·cases e
 intro S M τ σ H Q d τ' rr e q
 unfold Cp at e
 obtain⟨⟨x,τ1⟩,e1,e⟩:=oB e
 obtain⟨ds,e2,e⟩:=oB e
 dsimp only at e
 split at e
 ·rename_i xs hx
  obtain⟨⟨z,ls'⟩,e3,e⟩:=oM e
  cases e
  obtain⟨p,us,hp,_⟩:=rr.cst i xs ((((ha.like _ _ _ e1).2 i).1.2 xs).mp hx)
  refine⟨.ref p,hp,ha.run S M τ σ H _ x _ rr e1 fun vs H1 r1 c1 i1=>?_⟩
  have l:=Da i1 e2
  obtain⟨p',us',hp',h2,h3⟩:=r1.cst i xs hx
  rw[hp]at hp';cases hp'
  show spD K G fr ((.ref p::vs)++[]) H1 Q X
  rw[List.append_nil]
  have ra:=NH r1 l
  refine⟨S,fun _=>False,.c xs::ds.map L.d,_,ls',⟨?_,?_,?_,?_,?_,fun _ h=>h.elim,r1.ex,GR.nil ?_⟩,e3,fun v H' _ c res=>?_⟩
  ·have:=ra.len
   simp only[List.length_map,List.map_cons,List.length_cons]at this ⊢
   omega
  ·intro j x e
   cases j with
   |zero=>cases e
   |succ j=>exact ra.dat j x (by simpa using e)
  ·intro j ys e
   cases j with
   |zero=>exact absurd (Option.some.inj (Option.some.inj e)).symm Ow.not_c
   |succ j=>obtain⟨_,_,_,h,_⟩:=ra.mt j ys (by simpa using e);exact h.elim
  ·intro j ys e
   cases j with
   |zero=>cases e;exact⟨p,us',rfl,h2,h3⟩
   |succ j=>exact ra.cst j ys (by simpa using e)
  ·intro j k ys ws b e1 e2 _ _
   cases j with
   |zero=>exact absurd (Option.some.inj (Option.some.inj e1)).symm Ow.not_c
   |succ j=>obtain⟨_,_,_,h,_⟩:=ra.mt j ys (by simpa using e1);exact h.elim
  ·intro j x e
   cases j with
   |zero=>cases e
   |succ j =>
    rw[List.map_cons,List.getElem?_cons_succ,List.getElem?_map,List.getElem?_map]at e
    cases q:ds[j]? with
    |none=>rw[q]at e;cases e
    |some d=>rw[q]at e;cases e
  ·have s:Same H1 H':=fun b o e=>c b o (fun z=>z) e
   exact q v H' (r1.same s) (c1.trans (.of s)) (res.back r1 c1)
 ·cases e
section
variable {F:Frm} {S M:Addr->Prop} {τ τ':DS} {σ:St} {H H':Hp}
theorem RF.step(f:RF K F S M τ σ H)(r':R K S M τ' σ H')(c:Chg M H H')(lk:Like τ τ'):RF K F S M τ' σ H' where
 r:=r'
 sS:=f.sS
 old:=fun b o e n=>c b o (fun z=>(f.new b z).elim n fun q=>by rw[q]at e;cases e) (f.old b o e n)
 new:=f.new
 fm:=f.fm
 fs:=f.fs
 fsub:=f.fsub
 snew:=f.snew
 par:=f.par
 pm:=fun i v e=>let ⟨xs,h⟩:=f.pm i v e;(lk.own i).mpr ⟨xs,h⟩
 fma:=f.fma
theorem RF.stay(f:RF K F S M τ σ H){σ':St}(r':R K S M τ' σ' H)(ms:MSame τ τ')(k:∀(j:Nat) (o:Ow),τ[j]?=some (some o.L)->σ'[j]?=σ[j]?):RF K F S M τ' σ' H where
 r:=r'
 sS:=f.sS
 old:=f.old
 new:=f.new
 fm:=f.fm
 fs:=f.fs
 fsub:=f.fsub
 snew:=f.snew
 par:=fun i v e=>by
  obtain⟨xs,h⟩:=f.pm i v e
  rw[k i xs h]
  exact f.par i v e
 pm:=fun i v e=>let ⟨xs,h⟩:=f.pm i v e;⟨xs,(ms.2 i xs).mpr h⟩
 fma:=f.fma
theorem RF.hnone(f:RF K F S M τ σ H){a:Addr}(h:H a=none):F.H a=none:=by
 cases e:F.H a with
 |none=>rfl
 |some o =>
  exfalso
  by_cases hm:F.M a
  ·obtain⟨o',e'⟩:=f.r.ex a (f.sS a (f.fsub a hm))
   rw[h]at e';cases e'
  ·have:=f.old a o e hm
   rw[h]at this;cases this
theorem RF.res(f:RF K F S M τ σ H){fr:Bool}{d:PyData}{v:V}(h:Res K fr S H H' d v):Res K fr F.S F.H H' d v:=by
 cases fr with
 |false=>exact Is.mono (B9 f.sS) h
 |true =>
  obtain⟨xs,a,vs,e1,e2,h1,h2,h3⟩:=h
  exact⟨xs,a,vs,e1,e2,f.hnone h1,h2,h3.mono (B9 fun b z=>z.elim (fun z=>.inl (f.sS b z)) .inr)⟩
end
variable {np:Nat}
def Ch(e:DX)(g:DG)(τ:DS):Option Out:=(e τ).bind fun p=>(g p.1 p.2).map .nx
theorem De{fr fe:Bool}{te:TE}{tg:TG}{e:DX}{g:DG}(he:E K te fe e)(hg:TG1 K tg g):B K np (KZ te tg) fr (Ch e g):=by
 intro F S M τ σ H D out hnp f ee q
 unfold Ch at ee
 obtain⟨⟨x,τ1⟩,e1,ee⟩:=oB ee
 obtain⟨τ2,e2,ee⟩:=oM ee
 cases ee
 refine he.weak.run S M τ σ H _ x τ1 f.r e1 fun v H1 r1 c1 i1=>?_
 refine hg.run S M τ1 σ H1 v x τ2 _ r1 i1 e2 fun σ' r2 k=>?_
 exact q S M σ' H1 ((f.step r1 c1 (he.like _ _ _ e1)).stay r2 (hg.ms _ _ _ e2) k) (c1.keep f.r.sub)
theorem W9{fr fe:Bool}{te:TE}{i:Nat}{e:DX}(he:E K te fe e):B K np (fun D σ H=>te σ H fun v H'=>D.nx (σ.set i (some v)) H') fr (Ch e (dN i)):=De (tg:=Ia i) he Ak
def L0(np i:Nat)(τ:DS):Option Out:=if np<=i/\i<τ.length then some (.nx (τ.set i (some (.m [])))) else none
def tkP:List (PyData×PyData)->Option (List (List Int×PyData))
 |[]=>some []
 |(.tuple ks,d)::r=>(tkI ks).bind fun k=>(tkP r).map ((k,d)::·)
 |_=>none
where tkI:List PyData->Option (List Int)
 |[]=>some []
 |.int i::r=>(tkI r).map (i::·)
 |_=>none
theorem KH:∀(k:List Int),tkP.tkI (k.map PyData.int)=some k
 |[]=>rfl
 |i::k=>by rw[List.map_cons,tkP.tkI,KH k];rfl
theorem KG:∀(m:List (List Int×PyData)),tkP (CB m)=some m
 |[]=>rfl
 |(k,d)::m=>by
  have:=KG m
  show(tkP.tkI (k.map PyData.int)).bind _=_
  rw[KH]
  show((tkP (CB m)).map _)=_
  rw[this];rfl
theorem WP{o:Ow}{kvs:List (PyData×PyData)}{m:List (List Int×PyData)}(h:PyData.dict kvs=o.D)(e:tkP kvs=some m):o = .t m:=by
 cases o with
 |l xs=>cases h
 |t m'=>cases h;rw[KG]at e;cases e;rfl
def Gi(np i:Nat)(e:DX)(τ:DS):Option Out:=(e τ).bind fun p=>match p.1 with
 |.list xs=>if np<=i/\i<p.2.length/\p.2.all okM=true then some (.nx (p.2.set i (some (.m xs)))) else none
 |.dict kvs=>(tkP kvs).bind fun m=>if np<=i/\i<p.2.length/\p.2.all okM=true then some (.nx (p.2.set i (some (.k m)))) else none
 |_=>none
theorem RF.newM{F:Frm}{S M:Addr->Prop}{τ:DS}{σ:St}{H:Hp}(f:RF K F S M τ σ H){a:Addr}{i:Nat}{xs:Ow}{vs:HO}(hi:i<τ.length)(hnp:F.ar.length<=i)(hS:S a)(hM:¬M a)(hF:F.H a=none)(h':H a=some vs)
  (l:IsO K (hid S H) xs a vs):RF K F S (fun b=>M b\/b=a) (τ.set i (some xs.L)) (σ.set i (some (.ref a))) H:=by
 have hs:i<σ.length:=by rw[f.r.len];exact hi
 have ne:∀j,j≠i->(τ.set i (some xs.L))[j]?=τ[j]?:=fun j hj=>List.getElem?_set_ne (Ne.symm hj)
 have ne':∀j,j≠i->(σ.set i (some (V.ref a)))[j]?=σ[j]?:=fun j hj=>List.getElem?_set_ne (Ne.symm hj)
 have se:(τ.set i (some xs.L))[i]?=some (some xs.L):=List.getElem?_set_self hi
 have se':(σ.set i (some (V.ref a)))[i]?=some (some (.ref a)):=List.getElem?_set_self hs
 have Ma:∀(j:Nat) (ys:Ow) (b:Addr),j≠i->τ[j]?=some (some ys.L)->σ[j]?=some (some (.ref b))->b≠a:=fun j ys b hj e e' z=>by
  obtain⟨b',us,h1,h2,_⟩:=f.r.mt j ys e
  rw[e']at h1;cases h1
  subst z
  exact hM h2
 refine⟨⟨by rw[List.length_set,List.length_set];exact f.r.len,fun j x e=>?_,fun j ys e=>?_,fun j ys e=>?_,fun j1 j2 ys zs b e1 e2 f1 f2=>?_,fun b h=>h.elim (f.r.sub b) fun z=>by rw[z];exact hS,f.r.ex,f.r.gr.to (fun j x e=>?_) (fun j o b e q=>?_) (fun b hb _=>⟨.inl hb,rfl⟩) .refl⟩,f.sS,f.old,fun b h=>h.elim (f.new b) fun z=>.inr (by rw[z];exact hF),fun b h=>.inl (f.fm b h),f.fs,f.fsub,f.snew,fun j v e=>?_,fun j v e=>?_,f.fma⟩
 ·by_cases hj:j=i
  ·subst hj;rw[se]at e;exact absurd (Option.some.inj (Option.some.inj e)) Ow.not_d
  ·rw[ne j hj]at e
   rw[ne' j hj]
   exact f.r.dat j x e
 ·by_cases hj:j=i
  ·subst hj
   rw[se]at e
   obtain rfl:=G4 e
   exact⟨a,vs,se',.inr rfl,h',l⟩
  ·rw[ne j hj]at e
   rw[ne' j hj]
   obtain⟨b,us,h1,h2,h3,h4⟩:=f.r.mt j ys e
   exact⟨b,us,h1,.inl h2,h3,h4⟩
 ·by_cases hj:j=i
  ·subst hj;rw[se]at e;exact absurd (Option.some.inj (Option.some.inj e)) Ow.not_c
  ·rw[ne j hj]at e
   rw[ne' j hj]
   exact f.r.cst j ys e
 ·by_cases h1:j1=i
  ·by_cases h2:j2=i
   ·rw[h1,h2]
   ·exfalso
    subst h1
    rw[se']at f1;cases f1
    rw[ne j2 h2]at e2
    rw[ne' j2 h2]at f2
    exact Ma j2 zs _ h2 e2 f2 rfl
  ·by_cases h2:j2=i
   ·exfalso
    subst h2
    rw[se']at f2;cases f2
    rw[ne j1 h1]at e1
    rw[ne' j1 h1]at f1
    exact Ma j1 ys _ h1 e1 f1 rfl
   ·rw[ne j1 h1]at e1
    rw[ne' j1 h1]at f1
    rw[ne j2 h2]at e2
    rw[ne' j2 h2]at f2
    exact f.r.inj _ _ _ _ b e1 e2 f1 f2
 ·by_cases hj:j=i
  ·subst hj;rw[se]at e;exact absurd (Option.some.inj (Option.some.inj e)) Ow.not_g
  ·rw[ne j hj]at e;exact⟨e,ne' j hj⟩
 ·by_cases hj:j=i
  ·subst hj;rw[se']at q;cases q;exact .inr hM
  ·rw[ne j hj]at e;rw[ne' j hj]at q;exact .inl ⟨o,e,q⟩
 ·have:j≠i:=fun z=>by
   subst z
   have:=(List.getElem?_eq_some_iff.mp e).1
   omega
  rw[ne' j this]
  exact f.par j v e
 ·have:j≠i:=fun z=>by
   subst z
   have:=(List.getElem?_eq_some_iff.mp e).1
   omega
  rw[ne j this]
  exact f.pm j v e
theorem RF.hide{F:Frm}{S M:Addr->Prop}{τ:DS}{σ:St}{H H':Hp}(f:RF K F S M τ σ H){a:Addr}(s:Same H H')(ha:H a=none)(h':∃o,H' a=some o):RF K F (fun b=>S b\/b=a) M τ σ H':=by
 have k:Keep S H (fun b=>S b\/b=a) H':=fun b o hn e=>⟨fun z=>z.elim hn (Am e ha),s b o e⟩
 refine ⟨⟨f.r.len, fun j x e => let ⟨v, h1, h2⟩ := f.r.dat j x e; ⟨v, h1, h2.mono k.same⟩, fun j x e => let ⟨b, vs, h1, h2, h3, h4⟩ := f.r.mt j x e; ⟨b, vs, h1, h2, s _ _ h3, h4.mono k.same⟩,
  fun j x e=>let ⟨b,vs,h1,h2,h3⟩:=f.r.cst j x e;⟨b,vs,h1,k.same.seq h2,h3.mono k.same⟩,f.r.inj,fun b h=>.inl (f.r.sub b h),fun b h=>?_,f.r.gr.to (fun i d e=>⟨e,rfl⟩) (fun j o a e q=>.inl ⟨o,e,q⟩) (fun a h _=>⟨h,by obtain⟨o,e⟩:=f.r.ex a (f.r.sub a h);rw[e];exact s _ _ e⟩) (tsS k.same)⟩,fun b h=>.inl (f.sS b h),fun b o e n=>s _ _ (f.old b o e n),f.new,f.fm,f.fs,f.fsub,fun b h=>h.elim (f.snew b) fun z=>.inr (by rw[z];exact f.hnone ha),f.par,f.pm,f.fma⟩
 rcases h with h|h
 ·obtain⟨o,e⟩:=f.r.ex b h
  exact⟨o,s _ _ e⟩
 ·rw[h];exact h'
theorem RF.hideE{F:Frm}{S M:Addr->Prop}{τ τ1:DS}{σ:St}{H H':Hp}(f:RF K F S M τ σ H){a:Addr}(r1:R K S M τ1 σ H')(c:Chg M H H')(lk:Like τ τ1)(ok:τ1.all okM=true)(ha:H a=none)(h':∃o,H' a=some o/\OwH o):RF K F (fun b=>S b\/b=a) M τ1 σ H':=by
 have f1:=f.step r1 c lk
 have k:Keep S H (fun b=>S b\/b=a) H':=fun b o hn e=>⟨fun z=>z.elim hn (Am e ha),c b o (fun z=>hn (f.r.sub b z)) e⟩
 have ts:TSm (hid S H') (hid (fun b=>S b\/b=a) H'):=DH fun b z=>z.elim .inl fun z=>by subst z;exact .inr h'
 refine⟨⟨r1.len,fun j x e=>?_,fun j x e=>?_,fun j x e=>?_,r1.inj,fun b h=>.inl (f.r.sub b h),fun b h=>?_,r1.gr.to (fun i d e=>⟨e,rfl⟩) (fun j o a e q=>.inl ⟨o,e,q⟩) (fun a h _=>⟨h,rfl⟩) ts⟩,fun b h=>.inl (f.sS b h),f1.old,f.new,f.fm,f.fs,f.fsub,fun b h=>h.elim (f.snew b) fun z=>.inr (by rw[z];exact f.hnone ha),f.par,f1.pm,f.fma⟩
 ·obtain⟨v,h1,h2⟩:=f.r.dat j x (((lk.2 j).1.1 x).mp e)
  exact⟨v,h1,h2.mono k.same⟩
 ·obtain⟨b,vs,h1,h2,h3,h4⟩:=r1.mt j x e
  exact⟨b,vs,h1,h2,h3,h4.monoT ts (List.all_eq_true.mp ok (some x.L) (List.mem_of_getElem? e))⟩
 ·obtain⟨b,vs,h1,h2,h3⟩:=f.r.cst j x (((lk.2 j).1.2 x).mp e)
  exact⟨b,vs,h1,k.same.seq h2,h3.mono k.same⟩
 ·rcases h with h|h
  ·exact r1.ex b h
  ·obtain⟨vs,e,_⟩:=h'
   rw[h];exact⟨_,e⟩
theorem VL{fr:Bool}{i:Nat}:B K np (KZ (Tl Hz) (Ia i)) fr (L0 np i):=by
 intro F S M τ σ H D out hnp f ee q
 unfold L0 at ee
 split at ee
 ·rename_i hi
  cases ee
  refine⟨Nat.zero_le _,fun a ha=>?_⟩
  have s:=BS ha (HO.lst [])
  have f1:=f.hide s ha ⟨_,AT⟩
  have hM:¬M a:=fun z=>f.r.fresh ha (f.r.sub a z)
  exact q _ _ _ _ (f1.newM (xs:=.l []) hi.2 (Nat.le_trans hnp hi.1) (.inr rfl) hM (f.hnone ha) AT ⟨[],rfl,rfl⟩) fun b o hn e=>⟨fun z=>z.elim hn (Am e ha),s b o e⟩
 ·cases ee
theorem WE{fr:Bool}{i:Nat}{te:TE}{e:DX}(he:E K te true e):B K np (KZ te (Ia i)) fr (Gi np i e):=by
 intro F S M τ σ H D out hnp f ee q
 unfold Gi at ee
 obtain⟨⟨x,τ1⟩,e1,ee⟩:=oB ee
 dsimp only at ee
 split at ee
 ·split at ee
  ·rename_i xs hi
   cases ee
   refine he.run S M τ σ H _ _ τ1 f.r e1 fun v H1 r1 c1 i1=>?_
   obtain⟨ys,a,vs,e2,rfl,h1,h2,h3⟩:=i1
   obtain rfl:=Ow.D_list e2
   have f1:=f.hideE r1 c1 (he.like _ _ _ e1) hi.2.2 h1 ⟨_,h2,h3.ho⟩
   have hM:¬M a:=fun z=>f.r.fresh h1 (f.r.sub a z)
   exact q _ _ _ _ (f1.newM (xs:=.l _) hi.2.1 (Nat.le_trans hnp hi.1) (.inr rfl) hM (f.hnone h1) h2 h3) fun b o hn e=>⟨fun z=>z.elim hn (Am e h1),c1 b o (fun z=>hn (f.r.sub b z)) e⟩
  ·cases ee
 ·obtain⟨m,em,ee⟩:=oB ee
  split at ee
  ·rename_i hi
   cases ee
   refine he.run S M τ σ H _ _ τ1 f.r e1 fun v H1 r1 c1 i1=>?_
   obtain⟨ys,a,vs,e2,rfl,h1,h2,h3⟩:=i1
   obtain rfl:=WP e2 em
   have f1:=f.hideE r1 c1 (he.like _ _ _ e1) hi.2.2 h1 ⟨_,h2,h3.ho⟩
   have hM:¬M a:=fun z=>f.r.fresh h1 (f.r.sub a z)
   exact q _ _ _ _ (f1.newM (xs:=.t _) hi.2.1 (Nat.le_trans hnp hi.1) (.inr rfl) hM (f.hnone h1) h2 h3) fun b o hn e=>⟨fun z=>z.elim hn (Am e h1),c1 b o (fun z=>hn (f.r.sub b z)) e⟩
  ·cases ee
 ·cases ee
def B3(e:DX)(τ:DS):Option Out:=(e τ).map fun p=>.rt p.1 p.2
theorem C3{fr fe:Bool}{te:TE}{e:DX}(he:E K te fe e)(hf:fr=true->fe=true):B K np (PJ te) fr (B3 e):=by
 intro F S M τ σ H D out hnp f ee q
 unfold B3 at ee
 obtain⟨⟨x,τ1⟩,e1,ee⟩:=oM ee
 cases ee
 refine he.run S M τ σ H _ x τ1 f.r e1 fun v H1 r1 c1 i1=>?_
 exact q S M σ H1 v (f.step r1 c1 (he.like _ _ _ e1)) (f.res (i1.imp (fun _=>f.r.fresh) fr hf))
def Gj(np i:Nat)(τ:DS):Option Out:=match τ[i]? with
 |some (some (.m xs))=>if np<=i then some (.rt (.list xs) τ) else none
 |some (some (.k xs))=>if np<=i then some (.rt (.dict (CB xs)) τ) else none
 |_=>none
theorem Px{np i:Nat}{τ:DS}{out:Out}(e:Gj np i τ=some out):∃w,τ[i]?=some (some (Ow.L w))/\np<=i/\out = .rt w.D τ:=by
 unfold Gj at e
 split at e
 ·rename_i xs hx
  split at e
  ·rename_i h;cases e;exact⟨.l xs,hx,h,rfl⟩
  ·cases e
 ·rename_i xs hx
  split at e
  ·rename_i h;cases e;exact⟨.t xs,hx,h,rfl⟩
  ·cases e
 ·cases e
theorem TR{fr:Bool}{i:Nat}:B K np (PJ (FL i)) fr (Gj np i):=by
 intro F S M τ σ H D out hnp f ee q
 obtain⟨xs,hx,hi,rfl⟩:=Px ee
 obtain⟨a,vs,h1,h2,h3,h4⟩:=f.r.mt i xs hx
 refine⟨_,h1,q S M σ H _ f ?_⟩
 have hF:F.H a=none:=by
  rcases f.new a h2 with z|z
  ·exfalso
   obtain⟨j,hj⟩:=f.fma a z
   obtain⟨ys,hy⟩:=f.pm j _ hj
   have e:=f.r.inj j i ys xs a hy hx (f.par j _ hj) h1
   have:=(List.getElem?_eq_some_iff.mp hj).1
   omega
  ·exact z
 have res:Res K true F.S F.H H xs.D (.ref a):=⟨xs,a,vs,rfl,rfl,hF,h3,h4.mono (B9 fun b z=>z.elim (f.sS b) fun z=>by rw[z];exact f.r.sub a h2)⟩
 refine res.imp (fun b hb=>?_) fr fun _=>rfl
 intro z
 obtain⟨o,e⟩:=f.fs b z
 rw[hb]at e;cases e
def Mm(τ:DS):Option Out:=some (.rt .none τ)
def D8(e:DX)(τ:DS):Option Out:=(e τ).map fun p=>.nx p.2
theorem TZ{fr fe:Bool}{te:TE}{e:DX}(he:E K te fe e):B K np (IA te) fr (D8 e):=by
 intro F S M τ σ H D out hnp f ee q
 unfold D8 at ee
 obtain⟨⟨x,τ1⟩,e1,ee⟩:=oM ee
 cases ee
 refine he.run S M τ σ H _ x τ1 f.r e1 fun v H1 r1 c1 i1=>?_
 exact q S M σ H1 (f.step r1 c1 (he.like _ _ _ e1)) (c1.keep f.r.sub)
def dMt(i:Nat)(G:List PyData->List PyData->Option (PyData×List PyData))(a:DA)(τ:DS):Option (PyData×DS):=(a τ).bind fun p=>(Ci p.1).bind fun ds=>match p.2[i]? with
 |some (some (.m xs))=>(G xs ds).map fun q=>(q.1,p.2.set i (some (.m q.2)))
 |_=>none
def MR(K:KW)(r:V->List V->Hp->VK->Prop)(G:List PyData->List PyData->Option (PyData×List PyData)):Prop:=∀(S:Addr->Prop) H a vs us xs ds d xs' (Q:VK),S a->H a=some (.lst vs)->IsL K (hid S H) xs vs->IsL K (hid S H) ds us->G xs ds=some (d,xs') ->
 (∀v vs',Is K (hid S H) d v->IsL K (hid S H) xs' vs'->Q v (upd H a (.lst vs')))->r (.ref a) us H Q
theorem DC{S:Addr->Prop}{H:Hp}{a:Addr}{o:HO}(h:S a):hid S (upd H a o)=hid S H:=by
 funext b
 unfold hid
 by_cases z:S b
 ·rw[if_pos z,if_pos z]
 ·rw[if_neg z,if_neg z,AO (fun e=>z (by rw[e];exact h))]
theorem Ou{i:Nat}{G:List PyData->List PyData->Option (PyData×List PyData)}{a:DA}{τ τ':DS}{d:PyData}(e:dMt i G a τ=some (d,τ')):∃rs τ1 ds xs xs',a τ=some (rs,τ1)/\Ci rs=some ds/\τ1[i]?=some (some (.m xs))/\G xs ds=some (d,xs')/\τ'=τ1.set i (some (.m xs')):=by
 unfold dMt at e
 obtain⟨⟨x,τ1⟩,e1,e⟩:=oB e
 obtain⟨ds,e2,e⟩:=oB e
 dsimp only at e
 split at e
 ·rename_i xs hx
  obtain⟨⟨z,zs⟩,e3,e⟩:=oM e
  cases e
  exact⟨x,τ1,ds,xs,zs,e1,e2,hx,e3,rfl⟩
 ·cases e
theorem W4{i:Nat}{r:V->List V->Hp->VK->Prop}{G:List PyData->List PyData->Option (PyData×List PyData)}{t:TA}{a:DA}(h:MR K r G)(ha:A K t a):E K (tBM K "list" r (FL i) t) false (dMt i G a):=by
 refine⟨fun τ d τ' e=>?_,?_⟩
 ·obtain⟨rs,τ1,ds,xs,xs',e1,e2,e3,e4,rfl⟩:=Ou e
  exact(ha.like _ _ _ e1).trans (MU e3)
 intro S M τ σ H Q d τ' rr e q
 obtain⟨rs,τ1,ds,xs,xs',e1,e2,e3,e4,rfl⟩:=Ou e
 have lk:=ha.like _ _ _ e1
 obtain⟨zs,hz⟩:=lk.ml e3
 obtain⟨p,us,hp,hM,hl0,_⟩:=rr.ml i zs hz
 refine⟨.ref p,hp,.inl ⟨rfl,us,SqL.of hl0⟩,?_⟩
 refine ha.run S M τ σ H _ rs _ rr e1 fun vs H1 r1 c1 i1=>?_
 have l:=Da i1 e2
 obtain⟨p',us',hp',hM',hl,ll⟩:=r1.ml i xs e3
 rw[hp]at hp';cases hp'
 have Sp:=r1.sub p hM'
 refine h S H1 p us' vs xs ds d xs' _ Sp hl ll l e4 fun v vs' iv il=>?_
 have c:Chg (fun b=>b=p) H1 (upd H1 p (.lst vs')):=fun b o hn e=>by rw[AO hn];exact e
 refine q v _ (r1.setM e3 hp c AT (by rw[DC Sp];exact il)) (c1.trans fun b o hn e=>c b o (fun z=>hn (by subst z;exact hM')) e) ?_
 show Is K (hid S _) d v
 rw[DC Sp];exact iv
def DD:List PyData->List PyData->Option (PyData×List PyData)
 |xs,[d]=>if xs.length<sizeLine then some (.none,xs++[d]) else none
 |_,_=>none
theorem Sf:MR K IH DD:=by
 intro S H a vs us xs ds d xs' Q Sa hl ll l e q
 unfold DD at e
 split at e
 ·split at e
  ·rename_i d0 hz
   cases e
   obtain⟨v,us',rfl,iv,iu⟩:=l
   cases (show us'=[] from iu)
   exact⟨a,vs,v,rfl,rfl,hl,by rw[ll.length];exact hz,q _ _ rfl (IY ll iv)⟩
  ·cases e
 ·cases e
def DU:List PyData->List PyData->Option (PyData×List PyData)
 |xs,[.list ys]=>if xs.length+ys.length<=sizeLine then some (.none,xs++ys) else none
 |_,_=>none
theorem Se:MR K QC DU:=by
 intro S H a vs us xs ds d xs' Q Sa hl ll l e q
 unfold DU at e
 split at e
 ·split at e
  ·rename_i ys hz
   cases e
   obtain⟨v,us',rfl,⟨b,ws,rfl,hb,lb⟩,iu⟩:=l
   cases (show us'=[] from iu)
   exact⟨a,b,vs,ws,rfl,rfl,hl,(hid_iff.mp hb).2,by rw[ll.length,lb.length];exact hz,q _ _ rfl (Fm ll lb)⟩
  ·cases e
 ·cases e
def JS:List PyData->List PyData->Option (PyData×List PyData)
 |_,[]=>some (.none,[])
 |_,_=>none
theorem KN{H:Hp}:∀{xs:List PyData} {vs:List V} {j:Nat} {d:PyData} {v:V},IsL K H xs vs->Is K H d v->IsL K H (xs.set j d) (vs.set j v)
 |[],_,_,_,_,h,_=>by rw[show _=[] from h];rfl
 |x::xs,_,0,d,v,⟨u,us,e,h,l⟩,i=>by subst e;exact⟨v,us,rfl,i,l⟩
 |x::xs,_,j+1,d,v,⟨u,us,e,h,l⟩,i=>by subst e;exact⟨u,us.set j v,rfl,h,KN l i⟩
def Fz(i:Nat)(e k:DX)(τ:DS):Option Out:=(e τ).bind fun p=>(k p.2).bind fun q=>match q.2[i]?,q.1 with
 |some (some (.m xs)),.int n=>(ixN xs.length n).map fun j=>.nx (q.2.set i (some (.m (xs.set j p.1))))
 |_,_=>none
theorem TQ{fr f1 f2:Bool}{i:Nat}{te tk:TE}{e k:DX}(he:E K te f1 e)(hk:E K tk f2 k):B K np (KZ te (S0 (FL i) tk QB)) fr (Fz i e k):=by
 intro F S M τ σ H D out hnp f ee q
 unfold Fz at ee
 obtain⟨⟨x,τ1⟩,e1,ee⟩:=oB ee
 obtain⟨⟨y,τ2⟩,e2,ee⟩:=oB ee
 dsimp only at ee
 split at ee
 ·rename_i xs n hx
  obtain⟨j,e3,ee⟩:=oM ee
  cases ee
  have lk1:=he.like _ _ _ e1
  have lk2:=hk.like _ _ _ e2
  refine he.weak.run S M τ σ H _ x τ1 f.r e1 fun v H1 r1 c1 i1=>?_
  obtain⟨zs,hz⟩:=lk2.ml hx
  obtain⟨p,us,hp,hM,_,_⟩:=r1.ml i zs hz
  refine⟨.ref p,hp,hk.weak.run S M τ1 σ H1 _ _ τ2 r1 e2 fun w H2 r2 c2 i2=>?_⟩
  obtain⟨p',us',hp',hM',hl,ll⟩:=r2.ml i xs hx
  rw[hp]at hp';cases hp'
  have Sp:=r2.sub p hM'
  refine⟨p,us',n,j,rfl,i2,hl,by rw[ll.length];exact e3,?_⟩
  have c:Chg (fun b=>b=p) H2 (upd H2 p (.lst (us'.set j v))):=fun b o hn e=>by rw[AO hn];exact e
  have iv:Is K (hid S H2) x v:=Is.mono (c2.keep r1.sub).same i1
  have f2:=f.step r2 (c1.trans c2) (lk1.trans lk2)
  have r3:=r2.setM hx hp c AT (by rw[DC Sp];exact KN (j:=j) ll iv)
  have c3:Chg M H2 (upd H2 p (.lst (us'.set j v))):=fun b o hn e=>c b o (fun z=>hn (by subst z;exact hM')) e
  exact q S M σ _ (f2.step r3 c3 (MU hx)) (((c1.trans c2).trans c3).keep f.r.sub)
 ·cases ee
theorem Gl.trans{F:Frm}{fr:Bool}{S S1:Addr->Prop}{H H1:Hp}{D:Jj}{o:Out}(k:Keep S H S1 H1)(h:Gl K F fr S H D o):Gl K F fr S1 H1 D o:=by
 cases o with
 |nx τ=>exact fun S' M' σ' H' r k'=>h S' M' σ' H' r (k.trans k')
 |bk τ=>exact fun S' M' σ' H' r k'=>h S' M' σ' H' r (k.trans k')
 |ct τ=>exact fun S' M' σ' H' r k'=>h S' M' σ' H' r (k.trans k')
 |rt d τ=>exact fun S' M' σ' H' v r k'=>h S' M' σ' H' v r k'
def EK(τ:DS):Option Out:=some (.nx τ)
theorem Fh{fr:Bool}:B K np Uy fr EK:=by
 intro F S M τ σ H D out hnp f ee q
 cases ee
 exact q S M σ H f .refl
def A0(a b:DB)(τ:DS):Option Out:=(a τ).bind fun o=>match o with
 |.nx τ'=>b τ'
 |o=>some o
theorem Av{fr:Bool}{t u:TS}{a b:DB}(ha:B K np t fr a)(hb:B K np u fr b):B K np (Tk t u) fr (A0 a b):=by
 intro F S M τ σ H D out hnp f ee q
 unfold A0 at ee
 obtain⟨o,e1,ee⟩:=oB ee
 refine ha F S M τ σ H _ o hnp f e1 ?_
 cases o with
 |nx τ1=>exact fun S' M' σ' H' r k=>hb F S' M' τ1 σ' H' D out hnp r ee (q.trans k)
 |bk τ1=>cases ee;exact q
 |ct τ1=>cases ee;exact q
 |rt d τ1=>cases ee;exact q
def Co(c:DT)(a b:DB)(τ:DS):Option Out:=(c τ).bind fun p=>if p.1=true then a p.2 else b p.2
theorem Hq{fr:Bool}{tc:TT}{t u:TS}{c:DT}{a b:DB}(hc:T K tc c)(ha:B K np t fr a)(hb:B K np u fr b):B K np (WY tc t u) fr (Co c a b):=by
 intro F S M τ σ H D out hnp f ee q
 unfold Co at ee
 obtain⟨⟨k,τ1⟩,e1,ee⟩:=oB ee
 refine hc.run S M τ σ H _ k τ1 f.r e1 fun H1 r1 c1=>?_
 have f1:=f.step r1 c1 (hc.like _ _ _ e1)
 cases k with
 |true=>exact ha F S M τ1 σ H1 D out hnp f1 ee (q.trans (c1.keep f.r.sub))
 |false=>exact hb F S M τ1 σ H1 D out hnp f1 ee (q.trans (c1.keep f.r.sub))
def Ro(τ:DS):Option Out:=some (.bk τ)
def Rn(τ:DS):Option Out:=some (.ct τ)
def Ja:DB:=fun _=>none
def CH(g:DG)(b:DB):List PyData->DS->Option Out
 |[],τ=>some (.nx τ)
 |d::ds,τ=>(g d τ).bind fun τ1=>(b τ1).bind fun o=>match o with
  |.nx τ2=>CH g b ds τ2
  |.ct τ2=>CH g b ds τ2
  |.bk τ2=>some (.nx τ2)
  |.rt d τ2=>some (.rt d τ2)
def EL(it:DI)(g:DG)(b:DB)(τ:DS):Option Out:=(it τ).bind fun p=>CH g b p.1 p.2
theorem Il{fr:Bool}{wi:TI}{tg:TG}{tb:TS}{it:DI}{g:DG}{b:DB}(hi:IT K wi it)(hg:TG1 K tg g)(hb:B K np tb fr b):B K np (Tm wi tg tb) fr (EL it g b):=by
 intro F S M τ σ H D out hnp f ee q
 unfold EL at ee
 obtain⟨⟨ds,τ1⟩,e1,ee⟩:=oB ee
 refine hi.run S M τ σ H _ ds τ1 f.r e1 fun J H1 r1 c1 iJ=>?_
 have f1:=f.step r1 c1 (hi.like _ _ _ e1)
 have q1:=q.trans (c1.keep f.r.sub)
 refine⟨fun i m σ' H'=>m=ds.length-i/\i<=ds.length/\∃S' M' τ',RF K F S' M' τ' σ' H'/\Keep S H1 S' H'/\CH g b (ds.drop i) τ'=some out,⟨ds.length,by simp,Nat.zero_le _,S,M,τ1,f1,.refl,by simpa using ee⟩,?_⟩
 rintro i m σ' H' ⟨rfl,hil,S',M',τ',f',k',hl⟩
 obtain⟨I1,I2⟩:=iJ _ _ k'
 by_cases hlt:i<ds.length
 ·right
  have ed:ds[i]?=some ds[i]:=List.getElem?_eq_getElem hlt
  obtain⟨go,yl⟩:=I1 i _ ed
  refine⟨go,fun σ2 H2=>∃S2 M2 τ2,RF K F S2 M2 τ2 σ2 H2/\Keep S H1 S2 H2/\CH g b (ds.drop (i+1)) τ2=some out,fun σ2 H2 h=>⟨ds.length-(i+1),by omega,rfl,hlt,h⟩,fun x H2 y=>?_⟩
  obtain⟨rfl,ix⟩:=yl x H2 y
  rw[List.drop_eq_getElem_cons hlt,CH]at hl
  obtain⟨τ2,e2,hl⟩:=oB hl
  obtain⟨o,e3,hl⟩:=oB hl
  refine hg.run S' M' τ' σ' H2 x _ τ2 _ f'.r ix e2 fun σ3 r3 k3=>?_
  have f3:=f'.stay r3 (hg.ms _ _ _ e2) k3
  refine hb F S' M' τ2 σ3 H2 _ o hnp f3 e3 ?_
  cases o with
  |nx τ4=>exact fun S4 M4 σ4 H4 f4 k4=>⟨S4,M4,τ4,f4,k'.trans k4,hl⟩
  |ct τ4=>exact fun S4 M4 σ4 H4 f4 k4=>⟨S4,M4,τ4,f4,k'.trans k4,hl⟩
  |bk τ4=>cases hl;exact fun S4 M4 σ4 H4 f4 k4=>q1 S4 M4 σ4 H4 f4 (k'.trans k4)
  |rt d τ4=>cases hl;exact fun S4 M4 σ4 H4 v f4 k4=>q1 S4 M4 σ4 H4 v f4 k4
 ·left
  have e:i=ds.length:=by omega
  subst e
  rw[List.drop_length,CH]at hl
  cases hl
  exact⟨I2 _ (Nat.le_refl _),q1 S' M' σ' H' f' k'⟩
def fin:List L->DS->Option (List L)
 |[],_=>some []
 |.d x::ls,_::τ=>(fin ls τ).map (.d x::·)
 |.c x::ls,_::τ=>(fin ls τ).map (.c x::·)
 |.m _::ls,some (.m xs)::τ=>(fin ls τ).map (.m xs::·)
 |.k _::ls,some (.k xs)::τ=>(fin ls τ).map (.k xs::·)
 |_,_=>none
def C5(fr:Bool)(np nl:Nat)(b:DB)(ls:List L):Option (PyData×List L):=if ls.length=np then (b (ls.map some++List.replicate nl none)).bind fun o=>match o with
  |.nx τ=>if fr=true then none else (fin ls τ).map fun ls'=>(.none,ls')
  |.rt d τ=>(fin ls τ).map fun ls'=>(d,ls')
  |_=>none
 else none
theorem EI:∀{ls:List L} {τ:DS} {ls':List L} {i:Nat} {l:L},fin ls τ=some ls'->ls'[i]?=some l->match l with
  |.d x=>ls[i]?=some (.d x)
  |.c x=>ls[i]?=some (.c x)
  |.m xs=>(∃ys,ls[i]?=some (.m ys))/\τ[i]?=some (some (.m xs))
  |.k xs=>(∃ys,ls[i]?=some (.k ys))/\τ[i]?=some (some (.k xs))
  |.g _=>False
 |[],_,_,_,_,h,e=>by cases h;simp at e
 |.d x::ls,o::τ,_,i,l,h,e=>by
  obtain⟨zs,h1,h⟩:=oM h
  subst h
  cases i with
  |zero=>cases e;rfl
  |succ i =>
   have:=EI (i:=i) (l:=l) h1 (by simpa using e)
   cases l<;>simpa using this
 |.c x::ls,o::τ,_,i,l,h,e=>by
  obtain⟨zs,h1,h⟩:=oM h
  subst h
  cases i with
  |zero=>cases e;rfl
  |succ i =>
   have:=EI (i:=i) (l:=l) h1 (by simpa using e)
   cases l<;>simpa using this
 |.m x::ls,some (.m xs)::τ,_,i,l,h,e=>by
  obtain⟨zs,h1,h⟩:=oM h
  subst h
  cases i with
  |zero=>cases e;exact⟨⟨_,rfl⟩,rfl⟩
  |succ i =>
   have:=EI (i:=i) (l:=l) h1 (by simpa using e)
   cases l<;>simpa using this
 |.k x::ls,some (.k xs)::τ,_,i,l,h,e=>by
  obtain⟨zs,h1,h⟩:=oM h
  subst h
  cases i with
  |zero=>cases e;exact⟨⟨_,rfl⟩,rfl⟩
  |succ i =>
   have:=EI (i:=i) (l:=l) h1 (by simpa using e)
   cases l<;>simpa using this
theorem Ib:∀{ls:List L} {τ:DS} {ls':List L},fin ls τ=some ls'->ls'.length=ls.length
 |[],_,_,h=>by cases h;rfl
 |.d x::ls,o::τ,_,h=>by
  obtain⟨zs,h1,h⟩:=oM h
  subst h
  rw[List.length_cons,List.length_cons,Ib h1]
 |.c x::ls,o::τ,_,h=>by
  obtain⟨zs,h1,h⟩:=oM h
  subst h
  rw[List.length_cons,List.length_cons,Ib h1]
 |.m x::ls,some (.m xs)::τ,_,h=>by
  obtain⟨zs,h1,h⟩:=oM h
  subst h
  rw[List.length_cons,List.length_cons,Ib h1]
 |.k x::ls,some (.k xs)::τ,_,h=>by
  obtain⟨zs,h1,h⟩:=oM h
  subst h
  rw[List.length_cons,List.length_cons,Ib h1]
theorem Mb:∀{ls:List L} {τ:DS} {ls':List L},fin ls τ=some ls'->∀(i:Nat) (d:PyData),ls[i]?≠some (.g d)
 |[],_,_,_,i,d=>by simp
 |.d x::ls,o::τ,_,h,i,d=>by
  obtain⟨zs,h1,h⟩:=oM h
  cases i with
  |zero=>simp
  |succ i=>simpa using Mb h1 i d
 |.c x::ls,o::τ,_,h,i,d=>by
  obtain⟨zs,h1,h⟩:=oM h
  cases i with
  |zero=>simp
  |succ i=>simpa using Mb h1 i d
 |.m x::ls,some (.m xs)::τ,_,h,i,d=>by
  obtain⟨zs,h1,h⟩:=oM h
  cases i with
  |zero=>simp
  |succ i=>simpa using Mb h1 i d
 |.k x::ls,some (.k xs)::τ,_,h,i,d=>by
  obtain⟨zs,h1,h⟩:=oM h
  cases i with
  |zero=>simp
  |succ i=>simpa using Mb h1 i d
theorem Nr{ls:List L}{τ:DS}{ls':List L}{i:Nat}{x:Ow}(h:fin ls τ=some ls')(e:ls'[i]?=some x.L):(∃ys:Ow,ls[i]?=some ys.L)/\τ[i]?=some (some x.L):=by
 cases x with
 |l xs=>obtain⟨⟨ys,h1⟩,h2⟩:=EI h e;exact⟨⟨.l ys,h1⟩,h2⟩
 |t xs=>obtain⟨⟨ys,h1⟩,h2⟩:=EI h e;exact⟨⟨.t ys,h1⟩,h2⟩
theorem Ef{α β:Type}{f:α->β}{xs:List α}{i:Nat}{y:β}(h:(xs.map f)[i]?=some y):∃x,xs[i]?=some x/\f x=y:=by
 rw[List.getElem?_map]at h
 cases e:xs[i]? with
 |none=>rw[e]at h;cases h
 |some x=>rw[e]at h;exact⟨x,rfl,Option.some.inj h⟩
theorem DW{G:List L->Option (PyData×List L)}{fr:Bool}{vs:List V}{H:Hp}{Q:VK}{X:XK}{np:Nat}(hG:∀ls r,G ls=some r->ls.length=np)(h:spD K G fr vs H Q X):vs.length=np:=by
 obtain⟨S,M,ls,r,ls',hR,e,_⟩:=h
 have:=hR.len
 rw[List.length_map,List.length_map]at this
 rw[this,hG _ _ e]
theorem BC{fr:Bool}{np nl:Nat}{b:DB}:∀ls r,C5 fr np nl b ls=some r->ls.length=np:=fun ls r h=>by
 unfold C5 at h
 split at h
 ·assumption
 ·cases h
theorem DV{np nl:Nat}{t:TS}{fr:Bool}{b:DB}{N:List Str}{vs:List V}{H:Hp}{Q:VK}{X:XK}(hb:B K np t fr b)(hN:N.length=np+nl)(h:spD K (C5 fr np nl b) fr vs H Q X):t { nx:=fun _ H'=>Q .non H',rt:=Q } (L2.start N vs) H:=by
 obtain⟨S,M,ls,r,ls',hR,e,q⟩:=h
 have hlen:=BC _ _ e
 have hvl:vs.length=ls.length:=by have:=hR.len;rw[List.length_map,List.length_map]at this;exact this
 unfold C5 at e
 rw[if_pos hlen]at e
 obtain⟨o,e1,e⟩:=oB e
 have est:L2.start N vs=vs.map some++List.replicate nl none:=by
  unfold L2.start
  rw[hN,hvl,hlen,Nat.add_sub_cancel_left]
 rw[est]
 -- the entry
 have lsm:∀(i:Nat) (l:L),(ls.map some++List.replicate nl none:DS)[i]?=some (some l)->ls[i]?=some l:=fun i l h=>by
  by_cases hi:i<ls.length
  ·rw[List.getElem?_append_left (by rw[List.length_map];exact hi)]at h
   obtain⟨x,h1,h2⟩:=Ef h
   cases h2;exact h1
  ·rw[List.getElem?_append_right (by rw[List.length_map];omega),List.getElem?_replicate]at h
   split at h<;>cases h
 have vsm:∀(i:Nat) (v:V),(vs.map some)[i]?=some (some v)->(vs.map some++List.replicate nl none:St)[i]?=some (some v):=fun i v h=>by
  rw[List.getElem?_append_left (List.getElem?_eq_some_iff.mp h).1];exact h
 have vsb:∀(i:Nat) (v:V),(vs.map some++List.replicate nl none:St)[i]?=some (some v)->(vs.map some)[i]?=some (some v):=fun i v h=>by
  by_cases hi:i<(vs.map some).length
  ·rw[List.getElem?_append_left hi]at h;exact h
  ·rw[List.getElem?_append_right (by omega),List.getElem?_replicate]at h
   split at h<;>cases h
 have lm:∀(i:Nat) (l:L),ls[i]?=some l->(ls.map some)[i]?=some (some l):=fun i l h=>by rw[List.getElem?_map,h];rfl
 let Mx:Addr->Prop:=fun a=>∃(i:Nat) (xs:Ow),ls[i]?=some xs.L/\vs[i]?=some (.ref a)
 let ar:List (Option V):=(ls.zip vs).map fun p=>match p.1 with
  |.m _=>some p.2
  |.k _=>some p.2
  |_=>none
 have arg:∀(i:Nat) (v:V),ar[i]?=some (some v)->∃xs:Ow,ls[i]?=some xs.L/\vs[i]?=some v:=fun i v h=>by
  obtain⟨⟨l,u⟩,h1,h2⟩:=Ef h
  rw[List.getElem?_zip_eq_some]at h1
  cases l with
  |d x=>cases h2
  |c x=>cases h2
  |m xs=>cases h2;exact⟨.l xs,h1.1,h1.2⟩
  |k xs=>cases h2;exact⟨.t xs,h1.1,h1.2⟩
  |g x=>cases h2
 have gar:∀(i:Nat) (xs:Ow) (v:V),ls[i]?=some xs.L->vs[i]?=some v->ar[i]?=some (some v):=fun i xs v h1 h2=>by
  show((ls.zip vs).map _)[i]?=_
  rw[List.getElem?_map,(List.getElem?_zip_eq_some (z:=(xs.L,v))).mpr ⟨h1,h2⟩]
  cases xs<;>rfl
 have Msub:∀a,Mx a->M a:=fun a ⟨i,xs,h1,h2⟩=>by
  obtain⟨b',us,h3,h4,_⟩:=hR.mt i xs (lm i _ h1)
  rw[List.getElem?_map,h2]at h3
  cases h3;exact h4
 have hng:∀(i:Nat) (d:PyData),ls[i]?≠some (.g d):=by
  cases o with
  |nx τ' =>
   cases fr with
   |false=>obtain⟨ls1,e2,_⟩:=oM e;exact Mb e2
   |true=>cases e
  |bk τ'=>cases e
  |ct τ'=>cases e
  |rt d τ'=>obtain⟨ls1,e2,_⟩:=oM e;exact Mb e2
 have f0:RF K ⟨S,Mx,H,ar⟩ S Mx (ls.map some++List.replicate nl none) (vs.map some++List.replicate nl none) H:=by
  refine ⟨⟨by simp [hvl], fun i x h => ?_, fun i x h => ?_, fun i x h => ?_, fun i j xs ys a h1 h2 h3 h4 => hR.inj i j xs ys a (lm _ _ (lsm _ _ h1)) (lm _ _ (lsm _ _ h2)) (vsb _ _ h3) (vsb _ _ h4), fun a h => hR.sub a (Msub a h), hR.ex, GR.nil fun i d h => hng i d (lsm i _ h)⟩,
   fun a h=>h,fun b o h _=>h,fun a h=>.inl h,fun a h=>h,hR.ex,fun a h=>hR.sub a (Msub a h),fun a h=>.inl h,fun i v h=>?_,fun i v h=>?_,fun a ⟨i,xs,h1,h2⟩=>⟨i,gar i xs _ h1 h2⟩⟩
  ·obtain⟨v,h1,h2⟩:=hR.dat i x (lm _ _ (lsm _ _ h))
   exact⟨v,vsm _ _ h1,h2⟩
  ·obtain⟨a,us,h1,h2,h3,h4⟩:=hR.mt i x (lm _ _ (lsm _ _ h))
   refine⟨a,us,vsm _ _ h1,⟨i,x,lsm _ _ h,?_⟩,h3,h4⟩
   obtain⟨v,h5,h6⟩:=Ef h1
   cases h6;exact h5
  ·obtain⟨a,us,h1,h2⟩:=hR.cst i x (lm _ _ (lsm _ _ h))
   exact⟨a,us,vsm _ _ h1,h2⟩
  ·obtain⟨xs,h1,h2⟩:=arg i v h
   exact vsm _ _ (by rw[List.getElem?_map,h2];rfl)
  ·obtain⟨xs,h1,h2⟩:=arg i v h
   refine⟨xs,?_⟩
   rw[List.getElem?_append_left (by rw[List.length_map];exact(List.getElem?_eq_some_iff.mp h1).1)]
   exact lm _ _ h1
 have hnp:ar.length<=np:=by
  show((ls.zip vs).map _).length<=np
  rw[List.length_map,List.length_zip]
  omega
 -- the end
 have done:∀{S' M' τ' σ' H' d v} {ls1:List L},RF K ⟨S,Mx,H,ar⟩ S' M' τ' σ' H'->fin ls τ'=some ls1->(r,ls')=(d,ls1)->Res K fr S H H' d v->Q v H':=fun {S' M' τ' σ' H' d v ls1} f hf er res=>by
  cases er
  have k:Keep S H S H':=fun b o hn e=>⟨hn,f.old b o e fun z=>hn (hR.sub b (Msub b z))⟩
  refine q v H' ⟨?_,fun i x h=>?_,fun i x h=>?_,fun i x h=>?_,fun i j xs ys a h1 h2 h3 h4=>?_,hR.sub,fun a h=>f.r.ex a (f.sS a h),GR.nil fun i d h=>?_⟩ (fun b o hn e=>f.old b o e fun z=>hn (Msub b z)) res
  ·rw[List.length_map,List.length_map,Ib hf,hvl]
  ·obtain⟨l,h1,h2⟩:=Ef h
   cases h2
   have:=EI hf h1
   obtain⟨v,h3,h4⟩:=hR.dat i x (lm _ _ this)
   exact⟨v,h3,h4.mono k.same⟩
  ·obtain⟨l,h1,h2⟩:=Ef h
   cases h2
   obtain⟨⟨ys,h3⟩,h4⟩:=Nr hf h1
   obtain⟨a,us,h5,h6,h7,h8⟩:=f.r.mt i x h4
   obtain⟨b,ws,g1,g2,_⟩:=hR.mt i ys (lm _ _ h3)
   obtain⟨u,g3,g4⟩:=Ef g1
   cases g4
   have:=f.par i _ (gar i ys _ h3 g3)
   rw[h5]at this;cases this
   exact⟨a,us,g1,g2,h7,h8.mono (B9 f.sS)⟩
  ·obtain⟨l,h1,h2⟩:=Ef h
   cases h2
   have:=EI hf h1
   obtain⟨a,us,h3,h4,h5⟩:=hR.cst i x (lm _ _ this)
   exact⟨a,us,h3,k.same.seq h4,h5.mono k.same⟩
  ·obtain⟨l1,g1,g2⟩:=Ef h1
   obtain⟨l2,g3,g4⟩:=Ef h2
   cases g2;cases g4
   obtain⟨⟨zs,h5⟩,_⟩:=Nr hf g1
   obtain⟨⟨ws,h6⟩,_⟩:=Nr hf g3
   exact hR.inj i j zs ws a (lm _ _ h5) (lm _ _ h6) h3 h4
  ·obtain⟨l,h1,h2⟩:=Ef h
   cases h2
   exact EI hf h1
 refine hb ⟨S,Mx,H,ar⟩ S Mx _ _ H _ o hnp f0 e1 ?_
 cases o with
 |nx τ' =>
  cases fr with
  |false =>
   obtain⟨ls1,e2,e⟩:=oM e
   intro S' M' σ' H' f k
   exact done f e2 e.symm rfl
  |true=>cases e
 |bk τ'=>cases e
 |ct τ'=>cases e
 |rt d τ' =>
  obtain⟨ls1,e2,e⟩:=oM e
  intro S' M' σ' H' v f res
  exact done f e2 e.symm res
end DL
end
section
namespace DL
open PySem L2 PyProof.Rows
variable {K:KW}
def B2:List PyData->Option PyData
 |[.list xs]=>some (.int xs.length)
 |[.tuple xs]=>some (.int xs.length)
 |[.str x]=>if x.length<=sizeLine then some (.int x.length) else none
 |_=>none
theorem Fg:BR K false (fun xs H Q=>∃x n,xs=[x]/\WN K x H n/\Q (.int n) H) B2:=by
 intro S H vs ds d Q _ l e q
 unfold B2 at e
 split at e
 ·cases e
  obtain⟨v,us,rfl,⟨a,ws,rfl,h,lw⟩,iu⟩:=l
  cases (show us=[] from iu)
  exact⟨_,ws.length,rfl,.inl ⟨ws,SqL.of (hid_iff.mp h).2,rfl⟩,q _ H (fun _ _ e=>e) (by rw[lw.length];rfl)⟩
 ·cases e
  obtain⟨v,us,rfl,⟨a,ws,rfl,h,lw⟩,iu⟩:=l
  cases (show us=[] from iu)
  exact⟨_,ws.length,rfl,.inr ⟨ws,Same.tup same_hid h,rfl⟩,q _ H (fun _ _ e=>e) (by rw[lw.length];rfl)⟩
 ·split at e
  ·rename_i hz
   cases e
   obtain⟨v,us,rfl,iv,iu⟩:=l
   cases (show us=[] from iu)
   cases (show v = .str _ from iv)
   exact⟨_,_,rfl,⟨hz,rfl⟩,q _ H (fun _ _ e=>e) rfl⟩
  ·cases e
 ·cases e
def f1(g:Int->Int):List PyData->Option PyData
 |[.int i]=>some (.int (g i))
 |_=>none
def f2(g:Int->Int->Int):List PyData->Option PyData
 |[.int i,.int j]=>some (.int (g i j))
 |_=>none
def Rc:=f1 fun i=>if i<0 then -i else i
def Mg:=f2 fun i j=>if j>i then j else i
def Mf:=f2 fun i j=>if j<i then j else i
def Mh:List PyData->Option PyData
 |[.int i]=>some (.int i)
 |[.bool b]=>some (.int (if b then 1 else 0))
 |_=>none
def Su:List PyData->Option (List Int)
 |[]=>some []
 |.int i::r=>(Su r).map (i::·)
 |_::_=>none
theorem Qg{H:Hp}:∀{ds:List PyData} {vs:List V} {ns:List Int},IsL K H ds vs->Su ds=some ns->vs=ns.map V.int
 |[],_,_,h,e=>by cases e;exact h
 |.int i::r,_,_,⟨v,us,e1,iv,l⟩,e=>by
  obtain⟨ms,e2,e⟩:=oM e
  subst e
  cases (show v = .int i from iv)
  rw[e1,Qg l e2]
  rfl
 |.none::_,_,_,_,e=>by cases e
 |.bool _::_,_,_,_,e=>by cases e
 |.str _::_,_,_,_,e=>by cases e
 |.list _::_,_,_,_,e=>by cases e
 |.tuple _::_,_,_,_,e=>by cases e
 |.dict _::_,_,_,_,e=>by cases e
def DE:List PyData->Option PyData
 |[.list xs]=>some (.list xs)
 |[.tuple xs]=>some (.list xs)
 |_=>none
theorem TM:BR K true (fun xs H Q=>∃p ys,xs=[.ref p]/\(SqL K H p ys\/SqT K H p ys)/\∀l,H l=none->Q (.ref l) (upd H l (.lst ys))) DE:=by
 intro S H vs ds d Q _ l e q
 unfold DE at e
 split at e
 ·cases e
  obtain⟨v,us,rfl,⟨a,ws,rfl,h,lw⟩,iu⟩:=l
  cases (show us=[] from iu)
  exact⟨a,ws,rfl,.inl (SqL.of (hid_iff.mp h).2),fun p hp=>q _ _ (BS hp _) (Gw hp lw)⟩
 ·cases e
  obtain⟨v,us,rfl,⟨a,ws,rfl,h,lw⟩,iu⟩:=l
  cases (show us=[] from iu)
  exact⟨a,ws,rfl,.inr (Same.tup same_hid h),fun p hp=>q _ _ (BS hp _) (Gw hp lw)⟩
 ·cases e
def tyN:PyData->String
 |.none=>"NoneType"
 |.bool _=>"bool"
 |.int _=>"int"
 |.str _=>"str"
 |.list _=>"list"
 |.tuple _=>"tuple"
 |.dict _=>"dict"
def We(K:KW):List V->Hp->VK->Prop:=fun xs H Q=>∃x T d b,xs=[x,.ty T]/\Is K H d x/\PySem.W.kitOne K (.type (tyN d)) (.type T)=some b/\Q (.bl b) H
theorem Do{X:Cx}:LV X (.builtin "isinstance") (We (RT X)):=by
 intro pins s σ H xs us Q I r h
 obtain⟨x,T,d,b,rfl,ix,k,q⟩:=h
 obtain⟨u,w',rfl,rx,rT⟩:=WQ r
 cases (show w'=Value.type T from rT)
 have fin:∀tk,EP X pins σ Q (.bool b) { s with toks:=tk }:=fun tk=>⟨.bl b,H,I.tok _,rfl,q⟩
 cases d with
 |none=>cases (show x = .non from ix);exact FU I rx .non k fin
 |bool y=>cases (show x = .bl y from ix);exact FU I rx (.bl y) k fin
 |int y=>cases (show x = .int y from ix);exact FU I rx (.int y) k fin
 |str y=>cases (show x = .str y from ix);exact FU I rx (.str y) k fin
 |list y=>obtain⟨a,vs,rfl,h,_⟩:=ix;exact FU I rx (.lst h) k fin
 |tuple y =>
  obtain⟨a,vs,rfl,h,_⟩:=ix
  cases (show u=Value.ref a from rx)
  obtain⟨its,_,⟨o,h1,h2,_⟩,_⟩:=I.tuple h
  exact PySem.W.kia_one PySem.W.kitx_tuple I.kIn ⟨o,h1,h2⟩ k (fun z=>nomatch z) fin
 |dict y =>
  obtain⟨a,ts,rfl,⟨ep,h⟩,_⟩:=ix
  cases (show u=Value.ref a from rx)
  obtain⟨⟨_,_,_,xs,pr,o,es,ho,he,hd,hes⟩,_,_⟩:=(show ObjOk X.prog X.w H s.heap a (.ext (GM a ts ep)) from I.hok a _ h)
  exact PySem.W.kia_one PySem.W.kitx_dict I.kIn ⟨o,ho,he.1⟩ k (fun z=>nomatch z) fin
def Wt(T t:String):Bool:=t==T||(T=="int"&&t=="bool")
def C6(T:String)(d:PyData):Bool:=Wt T (tyN d)
def N6(T:String):Bool:=["int","bool","str","list","tuple"].contains T
theorem RU{T t:String}(hT:T∈["int","bool","str","list","tuple"])(ht:t∈["NoneType","bool","int","str","list","tuple","dict"]):PySem.W.kitOne K (.type t) (.type T)=some (Wt T t):=by
 simp only[List.mem_cons,List.not_mem_nil,or_false]at hT ht
 rcases hT with rfl|rfl|rfl|rfl|rfl<;>rcases ht with rfl|rfl|rfl|rfl|rfl|rfl|rfl<;>first
  |exact Sl _
  |exact Vr (by decide +kernel) (by decide +kernel) (by decide +kernel)
theorem UH{T:String}{d:PyData}(h:N6 T=true):PySem.W.kitOne K (.type (tyN d)) (.type T)=some (C6 T d) :=
 RU (by simpa[N6] using h) (by cases d<;>simp[tyN])
def Ea(T:String)(a:DX)(τ:DS):Option (PyData×DS):=(a τ).bind fun p=>if N6 T then some (.bool (C6 T p.1),p.2) else none
theorem LB{T:String}{fr:Bool}{t:TE}{a:DX}(ha:E K t fr a):E K (tCB (We K) (Dd t (Dd (tC (.ty T)) Hz))) false (Ea T a):=by
 refine⟨fun τ d τ' e=>?_,?_⟩
 ·unfold Ea at e
  obtain⟨⟨x,τ1⟩,e1,e⟩:=oB e
  split at e
  ·cases e;exact ha.like _ _ _ e1
  ·cases e
 intro S M τ σ H Q d τ' r e q
 unfold Ea at e
 obtain⟨⟨x,τ1⟩,e1,e⟩:=oB e
 split at e
 ·rename_i hT
  cases e
  refine ha.weak.run S M τ σ H _ x _ r e1 fun v H1 r1 c1 i1=>?_
  exact⟨v,T,x,_,rfl,Is.mono same_hid i1,UH hT,q _ H1 r1 c1 rfl⟩
 ·cases e
def Rk(i j:Nat)(a:DA)(τ:DS):Option Out:=(a τ).bind fun p=>(Ci p.1).bind fun ds=>match ds with
 |[x,y]=>(dN i x p.2).bind fun τ1=>(dN j y τ1).map .nx
 |_=>none
end DL
end
section
namespace DL
open PySem L2
variable {K:KW}
def Fe(i:Nat)(f:DT)(τ:DS):Option (Bool×DS):=match τ[i]? with
 |some (some (.m xs))=>(f (τ.set i (some (.d (.list xs))))).bind fun q=>if q.2.all okM then some (q.1,q.2.set i (some (.m xs))) else none
 |some (some (.k xs))=>(f (τ.set i (some (.d (.dict (CB xs)))))).bind fun q=>if q.2.all okM then some (q.1,q.2.set i (some (.k xs))) else none
 |_=>none
theorem LH{i:Nat}{f:DT}{τ:DS}{d:Bool}{τ':DS}(e:Fe i f τ=some (d,τ')):∃w τ1,τ[i]?=some (some (Ow.L w))/\f (τ.set i (some (.d w.D)))=some (d,τ1)/\τ1.all okM=true/\τ'=τ1.set i (some w.L):=by
 unfold Fe at e
 split at e
 ·rename_i xs hx
  obtain⟨⟨z,τ1⟩,e1,e⟩:=oB e
  dsimp only at e
  split at e
  ·rename_i h
   cases e
   exact⟨.l xs,τ1,hx,e1,h,rfl⟩
  ·cases e
 ·rename_i xs hx
  obtain⟨⟨z,τ1⟩,e1,e⟩:=oB e
  dsimp only at e
  split at e
  ·rename_i h
   cases e
   exact⟨.t xs,τ1,hx,e1,h,rfl⟩
  ·cases e
 ·cases e
theorem WV{i:Nat}{t:TT}{f:DT}(h:T K t f):T K t (Fe i f):=by
 refine⟨fun τ d τ' e=>?_,?_⟩
 ·obtain⟨xs,τ1,e1,e2,_,rfl⟩:=LH e
  exact OW e1 (h.like _ _ _ e2)
 intro S M τ σ H Q d τ' r e q
 obtain⟨xs,τ1,e1,e2,ok,rfl⟩:=LH e
 obtain⟨p,us,hp,hM,hl,ll⟩:=r.mt i xs e1
 refine h.run _ _ _ σ H _ d τ1 (frz r e1 hp) e2 fun H' r' c=>?_
 exact q H' (Ut r e1 hp r' (h.like _ _ _ e2) c ok) (fun b o hn e=>c b o (fun z=>hn z.1) e)
def Dc(τ:DS):Option (Bool×DS):=some (true,τ)
theorem Jm:T K WW Dc:=by
 refine⟨fun τ d τ' e=>?_,?_⟩
 ·cases e;exact .refl
 intro S M τ σ H Q d τ' r e q
 cases e
 exact q H r .refl
def Sh(N':List Str)(own:Nat)(fr:List Nat)(scope:Scope)(N:List Str)(sc:Scope):Bool :=
 (scope.kind==.function)&&decide (N'.length=own+fr.length)&&(scope.names.all fun y=>y.2 != .cell)&&(scope.names.all fun y=>y.2 != .local||scope.names.lookup y.1==some .local) &&
 (scope.names.all fun y=>y.2 != .free||sc.names.lookup y.1==some .cell||sc.names.lookup y.1==some .free) &&
 (fr.zipIdx.all fun p=>match N'[own+p.2]?,N[p.1]? with|some x,some y=>decide (x=y)&&scope.names.lookup x==some .free|_,_=>false)
theorem GT{X:Cx}{N':List Str}{own:Nat}{fr:List Nat}{scope:Scope}{N:List Str}{sc:Scope}(hN:X.N=N)(hs:X.env.scope=sc)(h:Sh N' own fr scope N sc=true):Rx X N' own fr scope:=by
 unfold Sh at h
 simp only[Bool.and_eq_true]at h
 obtain⟨⟨⟨⟨⟨h1,h2⟩,h3⟩,h4⟩,h5⟩,h6⟩:=h
 subst hN hs
 refine⟨eq_of_beq h1,of_decide_eq_true h2,fun y hy=>?_,fun y hy e=>?_,fun x hx=>?_,fun k j e=>?_⟩
 ·have:=List.all_eq_true.mp h3 y hy
  intro z
  rw[z]at this
  simp at this
 ·have:=List.all_eq_true.mp h4 y hy
  rw[e]at this
  simpa using this
 ·have:=List.all_eq_true.mp h5 _ hx
  simpa using this
 ·have hm:(j,k)∈fr.zipIdx:=by
   rw[List.mem_zipIdx_iff_getElem?]
   exact e
  have:=List.all_eq_true.mp h6 _ hm
  dsimp only at this
  split at this
  ·rename_i x y hx hy
   rw[Bool.and_eq_true]at this
   have e1:x=y:=of_decide_eq_true this.1
   subst e1
   exact⟨x,hx,hy,eq_of_beq this.2⟩
  ·cases this
end DL
end
section
namespace DL
open PySem L2
theorem HC{τ:DS}:fin [] τ=some []:=by cases τ<;>rfl
theorem Mc{x:PyData}{ls:List L}{o:Option L}{τ:DS}:fin (.d x::ls) (o::τ)=(fin ls τ).map (.d x::·):=rfl
theorem Md{x:List PyData}{ls:List L}{o:Option L}{τ:DS}:fin (.c x::ls) (o::τ)=(fin ls τ).map (.c x::·):=rfl
theorem MZ{x xs:List PyData}{ls:List L}{τ:DS}:fin (.m x::ls) (some (.m xs)::τ)=(fin ls τ).map (.m xs::·):=rfl
theorem DF{fr:Bool}{np nl:Nat}{b:DB}{ls ls':List L}{d:PyData}{τ:DS}(h:b (ls.map some++List.replicate nl none)=some (.rt d τ))(hl:ls.length=np)(hf:fin ls τ=some ls'):C5 fr np nl b ls=some (d,ls'):=by
 unfold C5
 rw[if_pos hl,h]
 show(fin ls τ).map _=_
 rw[hf]
 rfl
theorem Al{a b:DB}{τ τ1:DS}(h:a τ=some (.nx τ1)):A0 a b τ=b τ1:=by
 unfold A0
 rw[h]
 rfl
theorem VW{a b:DB}{τ τ1:DS}{d:PyData}(h:a τ=some (.rt d τ1)):A0 a b τ=some (.rt d τ1):=by
 unfold A0
 rw[h]
 rfl
theorem Dq{e:DX}{g:DG}{τ τ1 τ2:DS}{d:PyData}(h:e τ=some (d,τ1))(k:g d τ1=some τ2):Ch e g τ=some (.nx τ2):=by
 unfold Ch
 rw[h]
 show(g d τ1).map _=_
 rw[k]
 rfl
theorem GK{e:DX}{τ τ1:DS}{d:PyData}(h:e τ=some (d,τ1)):B3 e τ=some (.rt d τ1):=by
 unfold B3
 rw[h]
 rfl
theorem Qh{c:DT}{a b:DB}{τ τ1:DS}(h:c τ=some (true,τ1)):Co c a b τ=a τ1:=by
 unfold Co
 rw[h]
 rfl
theorem FV{c:DT}{a b:DB}{τ τ1:DS}(h:c τ=some (false,τ1)):Co c a b τ=b τ1:=by
 unfold Co
 rw[h]
 rfl
theorem Bt{G:List L->Option (PyData×List L)}{a:DA}{τ τ1:DS}{rs:List Ar}{ds:List PyData}{r:PyData}{ls:List L}(h:a τ=some (rs,τ1))(k:Ci rs=some ds)(g:G (ds.map L.d)=some (r,ls)):Ae G a τ=some (r,τ1):=by
 unfold Ae
 rw[h]
 show(Ci rs).bind _=_
 rw[k]
 show(G (ds.map L.d)).map _=_
 rw[g]
 rfl
theorem B1{i:Nat}{G:List L->Option (PyData×List L)}{a:DA}{τ τ1:DS}{rs:List Ar}{ds:List PyData}{r:PyData}{ls:List L}{xs xs':List PyData}(h:a τ=some (rs,τ1))(k:Ci rs=some ds)(m:τ1[i]?=some (some (.m xs)))(g:G (.m xs::ds.map L.d)=some (r,.m xs'::ls)):A4 i G a τ=some (r,τ1.set i (some (.m xs'))):=by
 unfold A4
 rw[h]
 show(Ci rs).bind _=_
 rw[k]
 dsimp only[Option.bind]
 rw[m]
 dsimp only
 rw[g]
theorem O4{i:Nat}{G:List L->Option (PyData×List L)}{a:DA}{τ τ1:DS}{rs:List Ar}{ds:List PyData}{r:PyData}{ls:List L}{xs:List PyData}(h:a τ=some (rs,τ1))(k:Ci rs=some ds)(m:τ1[i]?=some (some (.c xs)))(g:G (.c xs::ds.map L.d)=some (r,ls)):Cp i G a τ=some (r,τ1):=by
 unfold Cp
 rw[h]
 show(Ci rs).bind _=_
 rw[k]
 show(match τ1[i]? with|some (some (.c xs))=>_|_=>_)=_
 rw[m]
 show(G (.c xs::ds.map L.d)).map _=_
 rw[g]
 rfl
theorem Fq{it:DI}{g:DG}{b:DB}{τ τ1:DS}{ds:List PyData}(h:it τ=some (ds,τ1)):EL it g b τ=CH g b ds τ1:=by
 unfold EL
 rw[h]
 rfl
theorem MT{α:Type}{enc:α->PyData}{g:DG}{b:DB}(J:List α->DS->Prop):∀{xs pre:List α} {τ:DS},J pre τ->(∀x pre τ,x∈xs->J pre τ->∃τ1 τ2,g (enc x) τ=some τ1/\b τ1=some (.nx τ2)/\J (pre++[x]) τ2)->∃τ',CH g b (xs.map enc) τ=some (.nx τ')/\J (pre++xs) τ'
 |[],pre,τ,h0,_=>⟨τ,rfl,by rw[List.append_nil];exact h0⟩
 |x::xs,pre,τ,h0,h=>by
  obtain⟨τ1,τ2,e1,e2,h1⟩:=h x pre τ List.mem_cons_self h0
  obtain⟨τ',e3,h3⟩:=MT J (xs:=xs) (pre:=pre++[x]) (τ:=τ2) h1 (fun y p t hy hj=>h y p t (List.mem_cons_of_mem _ hy) hj)
  refine⟨τ',?_,by rw[List.append_assoc]at h3;exact h3⟩
  rw[List.map_cons,CH,e1]
  show(b τ1).bind _=_
  rw[e2]
  exact e3
theorem E1{α:Type}{enc:α->PyData}{g:DG}{c:DT}{e:DX}(J:DS->Prop)(p:α->Bool)(f:α->PyData):∀{xs:List α} {acc:List PyData} {τ:DS},J τ ->
  (∀x τ,x∈xs->J τ->∃τ1 τ2,g (enc x) τ=some τ1/\c τ1=some (p x,τ2)/\(p x=false->J τ2)/\(p x=true->∃τ3,e τ2=some (f x,τ3)/\J τ3))->∃τ',BF g c e (xs.map enc) acc τ=some (acc++(xs.filter p).map f,τ')
 |[],acc,τ,h0,_=>⟨τ,by simp[BF]⟩
 |x::xs,acc,τ,h0,h=>by
  obtain⟨τ1,τ2,e1,e2,hf,ht⟩:=h x τ List.mem_cons_self h0
  have hr:∀y t,y∈xs->J t->_:=fun y t hy hj=>h y t (List.mem_cons_of_mem _ hy) hj
  cases hp:p x with
  |false =>
   obtain⟨τ',e3⟩:=E1 J p f (xs:=xs) (acc:=acc) (τ:=τ2) (hf hp) hr
   refine⟨τ',?_⟩
   rw[List.map_cons,BF,e1]
   show(c τ1).bind _=_
   rw[e2,hp]
   show BF g c e (xs.map enc) acc τ2=_
   rw[e3,List.filter_cons,hp]
   rfl
  |true =>
   obtain⟨τ3,e4,h4⟩:=ht hp
   obtain⟨τ',e3⟩:=E1 J p f (xs:=xs) (acc:=acc++[f x]) (τ:=τ3) h4 hr
   refine⟨τ',?_⟩
   rw[List.map_cons,BF,e1]
   show(c τ1).bind _=_
   rw[e2,hp]
   show(e τ2).bind _=_
   rw[e4]
   show BF g c e (xs.map enc) (acc++[f x]) τ3=_
   rw[e3,List.filter_cons,hp,List.append_assoc]
   rfl
theorem JV{own:Nat}{fr:List Nat}{it:DI}{g:DG}{c:DT}{e:DX}{τ τ1 τb:DS}{ds acc:List PyData}(h:it τ=some (ds,τ1))(hz:ds.length<=sizeLine)(hm:(fr.all fun j=>!isM τ1 j)=true)(hl:BF g c e ds [] (FG own fr τ1)=some (acc,τb)):dLC own fr it g c e τ=some (.list acc,τ1):=by
 unfold dLC
 rw[h]
 show(if ds.length<=sizeLine/\(fr.all fun j=>!isM τ1 j)=true then _ else _)=_
 rw[if_pos ⟨hz,hm⟩,hl]
 rfl
theorem sz{n:Nat}(h:n<=1000):n<=sizeLine:=Nat.le_trans h (by decide)
theorem sz'{n:Nat}(h:n<=1000):(n<=sizeLine)=True:=eq_true (sz h)
theorem TN{m:Int}(h0:0<m)(h1:m<10 ^ 70):Bd 8000 m:=by
 have:Bd 240 m:=Bd.of (m:=10 ^ 70) (by omega) (by omega) (by decide)
 exact this.mono (by decide)
theorem TJ{K:KW}{H:Hp}{a:Addr}{xs:List V}(h:SqL K H a xs):SqL K (hid (fun _=>False) H) a xs:=Same.seq (fun b o e=>hid_iff.mpr ⟨fun z=>z,e⟩) h
theorem Kx{K:KW}{H:Hp}:∀ns:List Int,IsL K H (ns.map PyData.int) (ns.map V.int)
 |[]=>rfl
 |_::ns=>⟨_,_,rfl,rfl,Kx ns⟩
structure Enc{α:Type}[DecidableEq α](enc:α->PyData):Prop where
 eqv:∀a b,PyData.eqv (enc a) (enc b)=decide (a=b)
 can:∀a,(enc a).canLay0=true
 dep:∀a,(enc a).depth<=20
 fix:∀a,Dm (enc a)=true
section
variable {α:Type} [DecidableEq α] {enc:α->PyData}
theorem Enc.ok(h:Enc enc)(a:α):okD (enc a)=true:=by
 unfold okD SeqAt.shaped
 rw[Bool.and_eq_true]
 exact⟨h.can a,decide_eq_true (Nat.le_trans (h.dep a) (by decide))⟩
theorem Enc.canL(h:Enc enc):∀xs:List α,PyData.canLayAll0 (xs.map enc)=true
 |[]=>rfl
 |x::xs=>by
  rw[List.map_cons,PyData.canLayAll0,h.can,Enc.canL h xs];rfl
theorem Enc.depL(h:Enc enc):∀xs:List α,PyData.depthAll (xs.map enc)<=20
 |[]=>Nat.zero_le _
 |x::xs=>by
  rw[List.map_cons,PyData.depthAll]
  have:=h.dep x
  have:=Enc.depL h xs
  omega
theorem Enc.okL(h:Enc enc)(xs:List α):okD (.list (xs.map enc))=true:=by
 unfold okD SeqAt.shaped
 rw[Bool.and_eq_true,PyData.canLay0,PyData.depth]
 exact⟨h.canL xs,decide_eq_true (by have:=h.depL xs;omega)⟩
theorem Enc.eqvL(h:Enc enc):∀xs ys:List α,PyData.eqvAll (xs.map enc) (ys.map enc)=decide (xs=ys)
 |[],[]=>rfl
 |[],_::_=>rfl
 |_::_,[]=>rfl
 |x::xs,y::ys=>by
  rw[List.map_cons,List.map_cons,PyData.eqvAll,h.eqv,Enc.eqvL h xs ys]
  by_cases e:x=y
  ·subst e
   by_cases e':xs=ys
   ·subst e';simp
   ·simp[e']
  ·simp[e]
theorem Enc.eqL(h:Enc enc)(xs ys:List α):PyData.eqv (.list (xs.map enc)) (.list (ys.map enc))=decide (xs=ys):=by
 rw[PyData.eqv];exact h.eqvL xs ys
theorem Enc.fixL(h:Enc enc):∀xs:List α,fixDs (xs.map enc)=true
 |[]=>rfl
 |x::xs=>by rw[List.map_cons,fixDs,h.fix,Enc.fixL h xs];rfl
theorem Enc.fEq(h:Enc enc)(a b:α):DL.fEq (enc a) (enc b)=some (.bool (decide (a=b))):=by
 unfold DL.fEq;rw[h.ok,h.ok,h.eqv];rfl
theorem Enc.fNe(h:Enc enc)(a b:α):DL.fNe (enc a) (enc b)=some (.bool (!decide (a=b))):=by
 unfold DL.fNe;rw[h.ok,h.ok,h.eqv];rfl
theorem Enc.fNeL(h:Enc enc)(a b:List α):DL.fNe (.list (a.map enc)) (.list (b.map enc))=some (.bool (!decide (a=b))):=by
 unfold DL.fNe;rw[h.okL,h.okL,h.eqL];rfl
end
theorem encI:Enc (α:=Int) PyData.int:=⟨fun a b=>by rw[PyData.eqv];by_cases h:a=b<;>simp[h],fun _=>rfl,fun _=>by rw[PyData.depth];decide,fun _=>rfl⟩
def ec(p:Int×Int):PyData:=.tuple [.int p.1,.int p.2]
theorem encC:Enc ec:=by
 refine⟨fun a b=>?_,fun _=>rfl,fun a=>?_,fun _=>rfl⟩
 ·unfold ec
  simp only[PyData.eqv,PyData.eqvAll,Bool.and_true]
  obtain⟨a1,a2⟩:=a
  obtain⟨b1,b2⟩:=b
  by_cases h1:a1=b1
  ·by_cases h2:a2=b2<;>simp[h1,h2]
  ·simp[h1]
 ·unfold ec;simp[PyData.depth,PyData.depthAll]
structure Bx where
 x:Int
 y:Int
 w:Int
 h:Int
 deriving DecidableEq
def eb(b:Bx):PyData:=.tuple [.int b.x,.int b.y,.int b.w,.int b.h]
end DL
end
section
namespace DL
open PySem L2
def rng(lo:Int)(n:Nat):List Int:=(List.range n).map fun(k:Nat)=>lo+(k:Int)
theorem MI(lo:Int)(n:Nat):GL lo n=(rng lo n).map PyData.int:=by
 unfold GL rng
 rw[List.map_map]
 rfl
theorem C9(lo:Int)(n:Nat):(rng lo n).length=n:=by unfold rng;simp
theorem UF{lo v n:Int}:v∈rng lo n.toNat↔lo<=v/\v<lo+n:=by
 unfold rng
 rw[List.mem_map]
 constructor
 ·rintro⟨k,hk,rfl⟩
  rw[List.mem_range]at hk
  omega
 ·rintro⟨h1,h2⟩
  exact⟨(v-lo).toNat,by rw[List.mem_range];omega,by omega⟩
theorem He{α:Type}{R:α->α->Prop}(as:∀a b,R a b->¬R b a):∀{l1 l2:List α},l1.Pairwise R->l2.Pairwise R->(∀x,x∈l1↔x∈l2)->l1=l2
 |[],[],_,_,_=>rfl
 |[],y::_,_,_,h=>by have:=(h y).mpr List.mem_cons_self;simp at this
 |x::_,[],_,_,h=>by have:=(h x).mp List.mem_cons_self;simp at this
 |x::xs,y::ys,h1,h2,h=>by
  rw[List.pairwise_cons]at h1 h2
  have ir:∀a,¬R a a:=fun a z=>as a a z z
  have e:x=y:=by
   rcases List.mem_cons.mp ((h x).mp List.mem_cons_self)with e|e
   ·exact e
   ·rcases List.mem_cons.mp ((h y).mpr List.mem_cons_self)with e'|e'
    ·exact e'.symm
    ·exact absurd (h1.1 y e') (as _ _ (h2.1 x e))
  subst e
  congr 1
  refine He as h1.2 h2.2 fun z=>?_
  constructor
  ·intro hz
   rcases List.mem_cons.mp ((h z).mp (List.mem_cons_of_mem _ hz))with e|e
   ·subst e;exact absurd (h1.1 z hz) (ir z)
   ·exact e
  ·intro hz
   rcases List.mem_cons.mp ((h z).mpr (List.mem_cons_of_mem _ hz))with e|e
   ·subst e;exact absurd (h2.1 z hz) (ir z)
   ·exact e
abbrev Cl:=Int×Int
def lt2(p q:Cl):Prop:=p.2<q.2\/(p.2=q.2/\p.1<q.1)
theorem Kt(a b:Cl)(h:lt2 a b):¬lt2 b a:=by unfold lt2 at *;omega
def GA(x v:Int)(w:Nat):List Cl:=(rng x w).map fun u=>(u,v)
def cells(b:Bx):List Cl:=(rng b.y b.h.toNat).flatMap fun v=>GA b.x v b.w.toNat
def inB(b:Bx)(p:Cl):Prop:=b.x<=p.1/\p.1<b.x+b.w/\b.y<=p.2/\p.2<b.y+b.h
instance {b:Bx} {p:Cl}:Decidable (inB b p):=by unfold inB;infer_instance
def nM(o:Option L):Prop:=(∀xs,o≠some (.m xs))/\∀xs,o≠some (.k xs)
theorem A2:nM none:=⟨fun xs z=>(nomatch z),fun xs z=>(nomatch z)⟩
theorem DR{x:PyData}:nM (some (.d x)):=⟨fun xs z=>(nomatch z),fun xs z=>(nomatch z)⟩
theorem CA{i:Nat}{d:PyData}{τ:DS}{o:Option L}(h:τ[i]?=some o)(hn:nM o):dN i d τ=some (τ.set i (some (.d d))):=by
 unfold dN
 rw[h]
 cases o with
 |none=>rfl
 |some l=>cases l with
  |m xs=>exact absurd rfl (hn.1 xs)
  |k xs=>exact absurd rfl (hn.2 xs)
  |d x=>rfl
  |c x=>rfl
  |g x=>rfl
end DL
end
section
namespace DL
open PySem L2
variable {K:KW}
def isC(τ:DS)(j:Nat):Bool:=match τ[j]? with
 |some (some (.c _))=>true
 |_=>false
def dAS(i:Nat)(r:DA)(τ:DS):Option (List Ar×DS):=if (isM τ i||isC τ i)=true then (r τ).map fun q=>(.s i::q.1,q.2) else none
def mkL(τ:DS):List Ar->Option (List L)
 |[]=>some []
 |.d x::r=>(mkL τ r).map (.d x::·)
 |.s i::r=>match τ[i]? with
  |some (some (.m xs))=>(mkL τ r).map (.m xs::·)
  |some (some (.c xs))=>(mkL τ r).map (.c xs::·)
  |_=>none
def nMb:L->Bool
 |.m _=>false
 |.k _=>false
 |_=>true
def Jc(k i:Nat)(G:List L->Option (PyData×List L))(a:DA)(τ:DS):Option (PyData×DS):=(a τ).bind fun p=>(mkL p.2 p.1).bind fun ls=>match p.1[k]?,ls[k]? with
 |some (.s j),some (.m _)=>if j=i/\(ls.set k (.d .none)).all nMb=true then (G ls).bind fun q=>match q.2[k]? with
   |some (.m xs)=>some (q.1,p.2.set i (some (.m xs)))
   |_=>none
  else none
 |_,_=>none
theorem R1:N6 "int"=true:=rfl
theorem Nk:C6 "int" .none=false:=rfl
theorem Nm{b:Bool}:C6 "int" (.bool b)=true:=rfl
theorem Og{b:Int}:C6 "int" (.int b)=true:=rfl
theorem Of{b:Str}:C6 "int" (.str b)=false:=rfl
theorem Nl{b:List PyData}:C6 "int" (.list b)=false:=rfl
theorem Lu{b:List PyData}:C6 "int" (.tuple b)=false:=rfl
theorem Q6:N6 "bool"=true:=rfl
theorem Lv:C6 "bool" .none=false:=rfl
theorem Lx{b:Bool}:C6 "bool" (.bool b)=true:=rfl
theorem No{b:Int}:C6 "bool" (.int b)=false:=rfl
theorem Nn{b:Str}:C6 "bool" (.str b)=false:=rfl
theorem Lw{b:List PyData}:C6 "bool" (.list b)=false:=rfl
theorem K2{b:List PyData}:C6 "bool" (.tuple b)=false:=rfl
theorem R0:N6 "str"=true:=rfl
theorem Nf:C6 "str" .none=false:=rfl
theorem Nh{b:Bool}:C6 "str" (.bool b)=false:=rfl
theorem Oe{b:Int}:C6 "str" (.int b)=false:=rfl
theorem Od{b:Str}:C6 "str" (.str b)=true:=rfl
theorem Ng{b:List PyData}:C6 "str" (.list b)=false:=rfl
theorem Lp{b:List PyData}:C6 "str" (.tuple b)=false:=rfl
theorem Q5:N6 "list"=true:=rfl
theorem Lq:C6 "list" .none=false:=rfl
theorem Ls{b:Bool}:C6 "list" (.bool b)=false:=rfl
theorem Nj{b:Int}:C6 "list" (.int b)=false:=rfl
theorem Ni{b:Str}:C6 "list" (.str b)=false:=rfl
theorem Lr{b:List PyData}:C6 "list" (.list b)=true:=rfl
theorem K1{b:List PyData}:C6 "list" (.tuple b)=false:=rfl
theorem PB:N6 "tuple"=true:=rfl
theorem Ky:C6 "tuple" .none=false:=rfl
theorem K0{b:Bool}:C6 "tuple" (.bool b)=false:=rfl
theorem Lo{b:Int}:C6 "tuple" (.int b)=false:=rfl
theorem Ln{b:Str}:C6 "tuple" (.str b)=false:=rfl
theorem Kz{b:List PyData}:C6 "tuple" (.list b)=false:=rfl
theorem J7{b:List PyData}:C6 "tuple" (.tuple b)=true:=rfl
theorem Jt{α:Type}{enc:α->PyData}{g:DG}{b:DB}{all:List α}(J:List α->DS->Prop)(h:∀pre x post τ,all=pre++x::post->J pre τ->∃τ1 τ2,g (enc x) τ=some τ1/\b τ1=some (.nx τ2)/\J (pre++[x]) τ2) :
  ∀{xs pre:List α} {τ:DS},all=pre++xs->J pre τ->∃τ',CH g b (xs.map enc) τ=some (.nx τ')/\J all τ'
 |[],pre,τ,e,h0=>⟨τ,rfl,by rw[e,List.append_nil];exact h0⟩
 |x::xs,pre,τ,e,h0=>by
  obtain⟨τ1,τ2,e1,e2,h1⟩:=h pre x xs τ e h0
  obtain⟨τ',e3,h3⟩:=Jt J h (xs:=xs) (pre:=pre++[x]) (τ:=τ2) (by rw[e,List.append_assoc];rfl) h1
  refine⟨τ',?_,h3⟩
  rw[List.map_cons,CH,e1]
  show(b τ1).bind _=_
  rw[e2]
  exact e3
theorem D2{α:Type}{enc:α->PyData}{g:DG}{b:DB}{xs:List α}{τ:DS}(J:List α->DS->Prop)(h0:J [] τ)(h:∀pre x post τ,xs=pre++x::post->J pre τ->∃τ1 τ2,g (enc x) τ=some τ1/\b τ1=some (.nx τ2)/\J (pre++[x]) τ2) :
  ∃τ',CH g b (xs.map enc) τ=some (.nx τ')/\J xs τ':=Jt J h (pre:=[]) rfl h0
theorem Kf{n:Int}{τ τ1:DS}{a:DA}(h:a τ=some ([.d (.int n)],τ1))(h0:-100000<=n)(h1:n<=100000):dR1 a τ=some ((rng 0 n.toNat).map PyData.int,τ1):=by
 unfold dR1
 rw[h]
 show(if -(2 ^ 62)<=n/\n<2 ^ 62 then some (GL 0 n.toNat,τ1) else none)=_
 rw[if_pos (by omega),MI]
theorem XT{i:Nat}{a:DA}{τ τ1:DS}{rs:List Ar}{d:PyData}{xs:List PyData}(h:a τ=some (rs,τ1))(k:Ci rs=some [d])(m:τ1[i]?=some (some (.m xs)))(hz:xs.length<900):D8 (dMt i DD a) τ=some (.nx (τ1.set i (some (.m (xs++[d]))))):=by
 have hs:xs.length<sizeLine:=Nat.lt_of_lt_of_le (Nat.lt_trans hz (by decide:900<1000)) (by decide)
 unfold D8 dMt
 rw[h]
 show(((Ci rs).bind _)).map _=_
 rw[k]
 show((match τ1[i]? with|some (some (.m xs))=>_|_=>_):Option (PyData×DS)).map _=_
 rw[m]
 show((if xs.length<sizeLine then some (PyData.none,xs++[d]) else none).map _).map _=_
 rw[if_pos hs]
 rfl
theorem MD{α:Type}{xs pre post:List α}{x:α}(e:xs=pre++x::post):pre.length<xs.length:=by rw[e,List.length_append,List.length_cons];omega
end DL
end
section
namespace DL
open PySem PySem.Spec L2 PyProof.Rows
section
variable {prog:Program} {w:World} {A:Around} {s:Shared} {R:Result->Shared->Prop}
variable {I:Addr} {fp wr:List Addr} {G:Array GenState->Array GenState->Prop} {n:Nat} {P:Nat->Value->Prop} {St:Nat->Shared->Prop}
end
section
variable {prog:Program} {w:World} {A:Around} {E:Value->Shared->Prop} {s:Shared}
variable {I:Addr} {fp wr:List Addr} {G:Array GenState->Array GenState->Prop} {n:Nat} {P:Nat->Value->Prop} {St:Nat->Shared->Prop}
end
variable {K:KW}
def Rj(f:DX)(τ:DS):Option (PyData×DS):=(f τ).bind fun p=>match p.1 with
 |.list xs=>some (.list xs.reverse,p.2)
 |_=>none
theorem FN:okM none=true:=rfl
theorem MK{x:PyData}:okM (some (.d x))=true:=rfl
theorem ML{x:List PyData}:okM (some (.c x))=true:=rfl
theorem MJ{x:List PyData}:okM (some (.m x))=fixDs x:=rfl
theorem Wl{o:Option L}(h:nM o):okM o=true:=by
 cases o with
 |none=>rfl
 |some l=>cases l with
  |m xs=>exact absurd rfl (h.1 xs)
  |k xs=>exact absurd rfl (h.2 xs)
  |d x=>rfl
  |c x=>rfl
  |g x=>rfl
end DL
end
section
namespace Srt
open PySem PySem.W PyProof.Rows
def Gd(n:Nat)(r:Nat->Nat->Bool){α:Type}:KasT α->(α->Prop)->Prop
 |.ret a,Q=>Q a
 |.ask i j k,Q=>i<n/\j<n/\Gd n r (k (r i j)) Q
variable {n:Nat} {r:Nat->Nat->Bool}
theorem E3{α:Type}{Q Q':α->Prop}(h:∀a,Q a->Q' a):∀{t:KasT α},Gd n r t Q->Gd n r t Q'
 |.ret a,g=>h a g
 |.ask i j k,⟨a,b,g⟩=>⟨a,b,E3 h g⟩
theorem HA{α β:Type}{f:α->KasT β}{Q:β->Prop}:∀{t:KasT α},Gd n r t (fun a=>Gd n r (f a) Q)->Gd n r (t.bind f) Q
 |.ret a,g=>g
 |.ask i j k,⟨a,b,g⟩=>⟨a,b,HA g⟩
theorem U9{α:Type}{cmp:Nat->Nat->(Bool->Shared->Prop)->Shared->Prop}{Q:α->Prop}{s:Shared}(hc:∀i j C,i<n->j<n->C (r i j) s->cmp i j C s):∀{t:KasT α} {R:α->Shared->Prop},Gd n r t Q->(∀a,Q a->R a s)->t.kasWp cmp R s
 |.ret a,R,g,h=>h a g
 |.ask i j k,R,⟨a,b,g⟩,h=>hc i j _ a b (U9 hc g h)
structure Ord(n:Nat)(r:Nat->Nat->Bool):Prop where
 irr:∀i,i<n->r i i=false
 tr:∀i j k,i<n->j<n->k<n->r i j=true->r j k=true->r i k=true
 tot:∀i j,i<n->j<n->i≠j->r i j=false->r j i=true
structure Arr(n:Nat)(p:Array Nat):Prop where
 sz:p.size=n
 lt:∀a,a<n->p.getD a 0<n
 inj:∀a b,a<n->b<n->p.getD a 0=p.getD b 0->a=b
 pm:p.Perm (List.toArray (List.range n))
def Up(r:Nat->Nat->Bool)(p:Array Nat)(k:Nat):Prop:=∀a b,a<b->b<k->r (p.getD a 0) (p.getD b 0)=true
def Dn(r:Nat->Nat->Bool)(p:Array Nat)(k:Nat):Prop:=∀a b,a<b->b<k->r (p.getD b 0) (p.getD a 0)=true
theorem Ti(O:Ord n r){p:Array Nat}(A:Arr n p){k:Nat}(hk:1<=k)(hn:k<n)(u:Up r p k)(h:r (p.getD k 0) (p.getD (k-1) 0)=false):Up r p (k+1):=by
 have h1:r (p.getD (k-1) 0) (p.getD k 0)=true:=O.tot _ _ (A.lt _ hn) (A.lt _ (by omega)) (fun z=>by have:=A.inj _ _ hn (by omega) z;omega) h
 intro a b hab hb
 by_cases e:b=k
 ·subst e
  by_cases e2:a=b-1
  ·subst e2;exact h1
  ·exact O.tr _ _ _ (A.lt _ (by omega)) (A.lt _ (by omega)) (A.lt _ hn) (u a (b-1) (by omega) (by omega)) h1
 ·exact u a b hab (by omega)
theorem Qp(O:Ord n r){p:Array Nat}(A:Arr n p){k:Nat}(hk:1<=k)(hn:k<n)(u:Dn r p k)(h1:r (p.getD k 0) (p.getD (k-1) 0)=true):Dn r p (k+1):=by
 intro a b hab hb
 by_cases e:b=k
 ·subst e
  by_cases e2:a=b-1
  ·subst e2;exact h1
  ·exact O.tr _ _ _ (A.lt _ hn) (A.lt _ (by omega)) (A.lt _ (by omega)) h1 (u a (b-1) (by omega) (by omega))
 ·exact u a b hab (by omega)
theorem asc(O:Ord n r){p:Array Nat}(A:Arr n p):∀(f k:Nat),1<=k->k+f<=n->Up r p k->Gd n r (kas_asc p f k) fun m=>k<=m/\m<=k+f/\Up r p m/\(m<k+f->r (p.getD m 0) (p.getD (m-1) 0)=true)
 |0,k,h1,h2,u=>⟨Nat.le_refl _,by omega,u,by omega⟩
 |f+1,k,h1,h2,u=>by
  refine⟨A.lt _ (by omega),A.lt _ (by omega),?_⟩
  cases c:r (p.getD k 0) (p.getD (k-1) 0) with
  |true=>exact⟨Nat.le_refl _,by omega,u,fun _=>c⟩
  |false =>
   show Gd n r (kas_asc p f (k+1)) _
   refine E3 ?_ (asc O A f (k+1) (by omega) (by omega) (Ti O A h1 (by omega) u c))
   rintro m ⟨h3,h4,h5,h6⟩
   exact⟨by omega,by omega,h5,fun z=>h6 (by omega)⟩
theorem W7(O:Ord n r){p:Array Nat}(A:Arr n p):∀(f k:Nat),1<=k->k+f<=n->Dn r p k->Gd n r (kas_desc f p k 0) fun x=>x.1=p/\x.2.2=0/\k<=x.2.1/\x.2.1<=k+f/\Dn r p x.2.1
 |0,k,h1,h2,u=>⟨rfl,rfl,Nat.le_refl _,by show k<=k+0;omega,u⟩
 |f+1,k,h1,h2,u=>by
  refine⟨A.lt _ (by omega),A.lt _ (by omega),?_⟩
  cases c:r (p.getD k 0) (p.getD (k-1) 0) with
  |true =>
   show Gd n r (kas_desc f p (k+1) 0) _
   refine E3 ?_ (W7 O A f (k+1) (by omega) (by omega) (Qp O A h1 (by omega) u c))
   rintro m ⟨h3,h4,h5,h6,h7⟩
   exact⟨h3,h4,by omega,by omega,h7⟩
  |false =>
   refine⟨A.lt _ (by omega),A.lt _ (by omega),?_⟩
   have h3:r (p.getD (k-1) 0) (p.getD k 0)=true:=O.tot _ _ (A.lt _ (by omega)) (A.lt _ (by omega)) (fun z=>by have:=A.inj _ _ (by omega) (by omega) z;omega) c
   rw[h3]
   exact⟨rfl,rfl,Nat.le_refl _,by show k<=k+(f+1);omega,u⟩
theorem Fn{p q:Array Nat}{a b:Nat}(h:q[a]?=p[b]?):q.getD a 0=p.getD b 0:=by
 rw[Array.getD_eq_getD_getElem?,Array.getD_eq_getD_getElem?,h]
theorem IG{p:Array Nat}{k:Nat}(hk:k<=p.size)(a:Nat):(kas_rev p 0 k).getD a 0=p.getD (if a<k then k-1-a else a) 0:=by
 have e:=getElem?_mirror_all (i:=0) hk a
 unfold kas_rev
 refine Fn (e.trans ?_)
 by_cases h:a<k
 ·rw[if_pos ⟨Nat.zero_le _,h⟩,if_pos h];congr 1;omega
 ·rw[if_neg (fun z=>h z.2),if_neg h]
theorem Qz{p:Array Nat}(A:Arr n p){k:Nat}(hk:k<=n):Arr n (kas_rev p 0 k):=by
 have hz:=A.sz
 refine⟨by unfold kas_rev;rw[mirror_size,hz],fun a ha=>?_,fun a b ha hb e=>?_,?_⟩
 ·rw[IG (by omega)]
  refine A.lt _ ?_
  split<;>omega
 ·rw[IG (by omega),IG (by omega)]at e
  have:=A.inj _ _ (by split<;>omega) (by split<;>omega) e
  split at this<;>split at this<;>omega
 ·exact(mirror_perm _ _ _ _).trans A.pm
theorem VS{p:Array Nat}(A:Arr n p){k:Nat}(hk:k<=n)(d:Dn r p k):Up r (kas_rev p 0 k) k:=by
 have hz:=A.sz
 intro a b hab hb
 rw[IG (by omega),IG (by omega),if_pos (by omega),if_pos hb]
 exact d _ _ (by omega) (by omega)
def Res(n:Nat)(r:Nat->Nat->Bool)(x:Nat×Array Nat):Prop:=Arr n x.2/\1<=x.1/\x.1<=n/\Up r x.2 x.1
theorem WT(O:Ord n r){p:Array Nat}(A:Arr n p){k:Nat}(h1:1<=k)(hk:k<=n)(d:Dn r p k):Gd n r (kas_tail3 k n p) (Res n r):=by
 unfold kas_tail3
 refine HA (E3 ?_ (asc O (Qz A hk) (n-k) k h1 (by omega) (VS A hk d)))
 rintro m ⟨h3,h4,h5,_⟩
 exact⟨Qz A hk,by show 1<=m;omega,by show m<=n;omega,h5⟩
theorem W8(O:Ord n r){p:Array Nat}(A:Arr n p)(h1:1<=n):Gd n r (kas_count n p) (Res n r):=by
 unfold kas_count
 refine HA (E3 ?_ (asc O A (n-1) 1 (Nat.le_refl _) (by omega) (fun a b h h'=>by omega)))
 rintro m ⟨h3,h4,h5,h6⟩
 by_cases e:m=n
 ·rw[if_pos (by simpa using e)]
  exact⟨A,by show 1<=m;omega,by show m<=n;omega,h5⟩
 ·rw[if_neg (by simpa using e)]
  by_cases hm:m>1
  ·rw[if_pos hm]
   refine⟨A.lt _ (by omega),A.lt _ (by omega),?_⟩
   rw[h5 0 (m-1) (by omega) (by omega)]
   exact⟨A,by show 1<=m;omega,by show m<=n;omega,h5⟩
  ·rw[if_neg hm]
   have hm1:m=1:=by omega
   subst hm1
   have c:=h6 (by omega)
   unfold kas_descPart
   refine HA (E3 ?_ (W7 O A (n-2) 2 (by omega) (by omega) (Qp O A (k:=1) (by omega) (by omega) (fun a b h h'=>by omega) c)))
   rintro⟨q,k,z⟩ ⟨rfl,rfl,h7,h8,h9⟩
   dsimp only at *
   rw[if_neg (by omega)]
   exact WT O A (by omega) (by omega) h9
theorem place(O:Ord n r){p:Array Nat}(A:Arr n p){k:Nat}(hk:k<n)(u:Up r p k):∀(f a b:Nat),b-a<=f->a<=b->b<=k->(∀c,c<a->r (p.getD c 0) (p.getD k 0)=true)->(∀c,b<=c->c<k->r (p.getD k 0) (p.getD c 0)=true) ->
  Gd n r (kas_place p k f a b) fun l=>l<=k/\(∀c,c<l->r (p.getD c 0) (p.getD k 0)=true)/\(∀c,l<=c->c<k->r (p.getD k 0) (p.getD c 0)=true)
 |0,a,b,hf,hab,hb,h1,h2=>⟨by omega,h1,fun c hc hk=>h2 c (by omega) hk⟩
 |f+1,a,b,hf,hab,hb,h1,h2=>by
  unfold kas_place
  by_cases e:a≥b
  ·rw[if_pos e]
   exact⟨by omega,h1,fun c hc hk=>h2 c (by omega) hk⟩
  ·rw[if_neg e]
   refine⟨A.lt _ hk,A.lt _ (by omega),?_⟩
   have hm:(a+b) / 2<b:=by omega
   have hm2:a<=(a+b) / 2:=by omega
   generalize (a+b) / 2=m at *
   cases c:r (p.getD k 0) (p.getD m 0) with
   |true =>
    refine place O A hk u f a m (by omega) (by omega) (by omega) h1 fun d hd hdk=>?_
    by_cases e2:d=m
    ·subst e2;exact c
    ·exact O.tr _ _ _ (A.lt _ hk) (A.lt _ (by omega)) (A.lt _ (by omega)) c (u m d (by omega) hdk)
   |false =>
    have c':r (p.getD m 0) (p.getD k 0)=true:=O.tot _ _ (A.lt _ hk) (A.lt _ (by omega)) (fun z=>by have:=A.inj _ _ hk (by omega) z;omega) c
    refine place O A hk u f (m+1) b (by omega) (by omega) hb (fun d hd=>?_) h2
    by_cases e2:d=m
    ·subst e2;exact c'
    ·exact O.tr _ _ _ (A.lt _ (by omega)) (A.lt _ (by omega)) (A.lt _ hk) (u d m (by omega) (by omega)) c'
theorem Ue{p:Array Nat}{k l:Nat}(hk:k<p.size)(hl:l<=k)(a:Nat):(bubble p k (k-l)).getD a 0=p.getD (if a=l then k else if l<a/\a<=k then a-1 else a) 0:=by
 have e:=getElem?_bubble hk (k-l) (by omega) a
 refine Fn (e.trans ?_)
 rw[show k-(k-l)=l by omega]
 split
 ·rfl
 ·split<;>rfl
theorem bin(O:Ord n r):∀(f:Nat) {p:Array Nat} {k:Nat},Arr n p->k+f=n->Up r p k->Gd n r (kas_bin f p k) fun q=>Arr n q/\Up r q n
 |0,p,k,A,h,u=>⟨A,by rw[<- h];exact u⟩
 |f+1,p,k,A,h,u=>by
  unfold kas_bin
  refine HA (E3 ?_ (place O A (by omega) u k 0 k (by omega) (by omega) (Nat.le_refl _) (fun c h=>by omega) (fun c h h'=>by omega)))
  rintro l ⟨h1,h2,h3⟩
  have hz:=A.sz
  have g:=fun a=>Ue (p:=p) (k:=k) (l:=l) (by omega) h1 a
  have A':Arr n (bubble p k (k-l)):=by
   refine⟨by rw[bubble_size,hz],fun a ha=>?_,fun a b ha hb e=>?_,(bubble_perm _ _ _).trans A.pm⟩
   ·rw[g]
    refine A.lt _ ?_
    split
    ·omega
    ·split<;>omega
   ·rw[g,g]at e
    have:=A.inj _ _ (by split<;>first|omega|(split<;>omega)) (by split<;>first|omega|(split<;>omega)) e
    split at this<;>split at this<;>(try split at this)<;>(try split at this)<;>omega
  refine bin O f A' (by omega) fun a b hab hb=>?_
  rw[g,g]
  by_cases ea:a=l
  ·rw[if_pos ea,if_neg (by omega),if_pos (by omega)]
   exact h3 _ (by omega) (by omega)
  ·rw[if_neg ea]
   by_cases eb:b=l
   ·rw[if_pos eb,if_neg (by omega)]
    exact h2 _ (by omega)
   ·rw[if_neg eb]
    by_cases ca:l<a/\a<=k
    ·rw[if_pos ca,if_pos (by omega)]
     exact u _ _ (by omega) (by omega)
    ·rw[if_neg ca]
     by_cases cb:l<b/\b<=k
     ·rw[if_pos cb]
      exact u _ _ (by omega) (by omega)
     ·rw[if_neg cb]
      exact u _ _ (by omega) (by omega)
theorem Mw:Arr n (List.toArray (List.range n)):=by
 have g:∀a,a<n->(List.toArray (List.range n)).getD a 0=a:=fun a ha=>by
  rw[Array.getD_eq_getD_getElem?]
  simp[ha]
 refine⟨by simp,fun a ha=>by rw[g a ha];exact ha,fun a b ha hb e=>by rw[g a ha,g b hb]at e;exact e,.refl _⟩
theorem sort(O:Ord n r)(h1:1<=n):Gd n r (kas_sort n) fun q=>Arr n q/\Up r q n:=by
 unfold kas_sort
 refine HA (E3 ?_ (W8 O Mw h1))
 rintro⟨m,p⟩ ⟨A,h2,h3,u⟩
 dsimp only at *
 by_cases e:m<n
 ·rw[if_pos e]
  exact bin O _ A (by omega) (by rw[show max m 1=m by omega];exact u)
 ·rw[if_neg e]
  exact⟨A,by rw[show n=m by omega];exact u⟩
end Srt
end
section
namespace Srt
open PySem PySem.W PyProof.Rows HT
theorem lex_irr:∀(x:List Int),lexLt x x=false
 |[]=>rfl
 |a::x=>by rw[lexLt_cons,if_pos rfl];exact lex_irr x
theorem lex_tr:∀{x y z:List Int},lexLt x y=true->lexLt y z=true->lexLt x z=true
 |[],[],_,h,_=>by cases h
 |[],_::_,[],_,h=>by cases h
 |[],_::_,_::_,_,_=>rfl
 |_::_,[],_,h,_=>by cases h
 |_::_,_::_,[],_,h=>by cases h
 |a::x,b::y,c::z,h,h'=>by
  rw[lexLt_cons]at *
  by_cases e:a=b
  ·rw[if_pos e]at h
   by_cases e2:b=c
   ·rw[if_pos e2]at h'
    rw[if_pos (e.trans e2)]
    exact lex_tr h h'
   ·rw[if_neg e2]at h'
    rw[if_neg (by omega)]
    simp only[decide_eq_true_eq]at *
    omega
  ·rw[if_neg e]at h
   simp only[decide_eq_true_eq]at h
   by_cases e2:b=c
   ·rw[if_neg (by omega)]
    simp only[decide_eq_true_eq]
    omega
   ·rw[if_neg e2]at h'
    simp only[decide_eq_true_eq]at h'
    rw[if_neg (by omega)]
    simp only[decide_eq_true_eq]
    omega
theorem lex_tot:∀{x y:List Int},x≠y->lexLt x y=false->lexLt y x=true
 |[],[],h,_=>absurd rfl h
 |[],_::_,_,h=>by cases h
 |_::_,[],_,_=>rfl
 |a::x,b::y,h,h'=>by
  rw[lexLt_cons]at *
  by_cases e:a=b
  ·rw[if_pos e]at h'
   rw[if_pos e.symm]
   exact lex_tot (fun z=>h (by rw[e,z])) h'
  ·rw[if_neg e]at h'
   rw[if_neg (fun z=>e z.symm)]
   simp only[decide_eq_true_eq,decide_eq_false_iff_not]at *
   omega
def lexr(ks:List (List Int))(i j:Nat):Bool:=lexLt (ks.getD i []) (ks.getD j [])
theorem Pe{ks:List (List Int)}(h:ks.Nodup){i j:Nat}(hi:i<ks.length)(hj:j<ks.length)(e:ks.getD i []=ks.getD j []):i=j:=by
 rw[List.getD_eq_getElem?_getD,List.getD_eq_getElem?_getD,List.getElem?_eq_getElem hi,List.getElem?_eq_getElem hj]at e
 have e:ks[i]=ks[j]:=e
 have P:=List.pairwise_iff_getElem.mp h
 rcases Nat.lt_trichotomy i j with q|q|q
 ·exact absurd e (P i j hi hj q)
 ·exact q
 ·exact absurd e.symm (P j i hj hi q)
theorem T4{ks:List (List Int)}(h:ks.Nodup):Ord ks.length (lexr ks) :=
 ⟨fun i _=>lex_irr _,fun i j k _ _ _ a b=>lex_tr a b,fun i j hi hj ne e=>lex_tot (fun z=>ne (Pe h hi hj z)) e⟩
def Tp(h:Heap)(d:Nat):List Value->List (List Int)->Prop
 |[],[]=>True
 |v::vs,k::ks=>(∃a its,v = .ref a/\IsTup h a its/\IntsAre its.toList k/\k.length=d+1)/\Tp h d vs ks
 |_,_=>False
theorem Tp.get{h:Heap}{d:Nat}:∀{vs:List Value} {ks:List (List Int)} {i:Nat},Tp h d vs ks->i<vs.length->∃a its,vs.getD i Value.none = .ref a/\IsTup h a its/\IntsAre its.toList (ks.getD i [])/\(ks.getD i []).length=d+1
 |[],_,_,_,hi=>absurd hi (Nat.not_lt_zero _)
 |_::_,[],_,t,_=>t.elim
 |v::vs,k::ks,0,t,_=>t.1
 |v::vs,k::ks,i+1,t,hi=>by
  rw[List.getD_cons_succ,List.getD_cons_succ]
  exact Tp.get t.2 (by simpa using hi)
theorem Tp.mono{h h':Heap}{d:Nat}(k:∀b o,h.get? b=some o->h'.get? b=some o):∀{vs:List Value} {ks:List (List Int)},Tp h d vs ks->Tp h' d vs ks
 |[],[],_=>trivial
 |_::_,_::_,⟨⟨a,its,e,⟨o,ho,hc,n,hd⟩,hi,hl⟩,t⟩=>⟨⟨a,its,e,⟨o,k _ _ ho,hc,n,hd⟩,hi,hl⟩,t.mono k⟩
 |[],_::_,t=>t.elim
 |_::_,[],t=>t.elim
theorem Tp.kat{h:Heap}{d:Nat}:∀{vs:List Value} {ks:List (List Int)},Tp h d vs ks->∃fs,KatTups h vs fs/\fs.length=vs.length/\∀v∈fs,∃n t,v=Value.int n t
 |[],[],_=>⟨[],.nil,rfl,fun v h=>by simp at h⟩
 |v::vs,k::ks,⟨⟨a,its,e,⟨o,ho,hc,n,hd⟩,hi,hl⟩,t⟩=>by
  obtain⟨fs,h1,h2,h3⟩:=t.kat
  subst e
  obtain⟨f,hf,m,u,rfl⟩:∃f,its[0]?=some f/\∃m u,f=Value.int m u:=by
   obtain⟨l⟩:=its
   cases hi with
   |nil=>simp at hl
   |cons m u r=>exact⟨_,rfl,m,u,rfl⟩
  exact ⟨Value.int m u :: fs, .cons ho hc hd hf h1, by rw [List.length_cons, List.length_cons, h2], fun v hv => by
   rcases List.mem_cons.mp hv with rfl|hv
   ·exact⟨m,u,rfl⟩
   ·exact h3 v hv⟩
 |[],_::_,t=>t.elim
 |_::_,[],t=>t.elim
section
variable {prog:Program} {w:World} {A:Around} {E:Value->Shared->Prop} {s:Shared}
theorem Wq{Q:Bool->Shared->Prop}:∀{ns ms:List Int} {vs ws:List Value} (i:Nat),IntsAre vs ns->IntsAre ws ms->ns.length=ms.length->Q (lexLt ns ms) s->KatLex prog w A true false Q (vs.zip ws) i s
 |[],[],_,_,i,.nil,.nil,_,q=>kat_nil q
 |[],_::_,_,_,_,_,_,hl,_=>by simp at hl
 |_::_,[],_,_,_,_,_,hl,_=>by simp at hl
 |n::ns,m::ms,_,_,i,.cons _ t hi,.cons _ u hj,hl,q=>by
  rw[lexLt_cons]at q
  show KatLex prog w A true false Q ((Value.int n t,Value.int m u)::List.zip _ _) i s
  refine kat_cons (wpAny_eqBool_int ?_)
  by_cases e:n=m
  ·rw[if_pos e]at q
   rw[show(n==m)=true by simpa using e]
   exact kat_yes (Wq (i+1) hi hj (by simpa using hl) q)
  ·rw[if_neg e]at q
   rw[show(n==m)=false by simpa using e]
   refine kat_no ?_
   cases i with
   |zero=>exact oneLt_int q
   |succ i =>
    refine kat_one _ _ (PyProof.Rows.lt_int ?_)
    exact q
theorem Uk{d:Nat}{vs:List Value}{ks:List (List Int)}(t:Tp s.heap d vs ks)(i j:Nat)(C:Bool->Shared->Prop)(hi:i<vs.length)(hj:j<vs.length)(h:C (lexr ks i j) s):kas_ask prog w A (tuples' true) vs i j C s:=by
 obtain⟨a,its,e1,⟨o,ho,hc,n,hd⟩,i1,l1⟩:=t.get hi
 obtain⟨b,its2,e2,⟨o2,ho2,hc2,n2,hd2⟩,i2,l2⟩:=t.get hj
 unfold kas_ask
 rw[e1,e2]
 refine kat_lt ho hd ho2 hd2 ?_
 have z1:=i1.length
 have z2:=i2.length
 rw[Array.length_toList]at z1 z2
 rw[show decide (its.size<its2.size)=false by simp only[decide_eq_false_iff_not];omega]
 exact Wq 0 i1 i2 (by omega) h
theorem keptA{h:Heap}{a:Addr}{o1 o2:Obj}{f:Obj->Obj}{b:Addr}{o:Obj}(ha:h.get? b=some o)(hb:b≠a):(((h.update a f).push o1).push o2).get? b=some o:=by
 have hlt:=Heap.lt_size ha
 rw[Heap.get?_push_ne _ _ _ (by rw[size_push',Heap.size_update];exact Nat.ne_of_lt (Nat.lt_succ_of_lt hlt)),Heap.get?_push_ne _ _ _ (by rw[Heap.size_update];exact Nat.ne_of_lt hlt),Heap.get?_update_ne _ _ _ _ hb]
 exact ha
theorem RI:∀{vs:List Value},vs.length<2->(vs.toArray.zip vs.toArray).map (·.2)=List.toArray ((List.toArray (List.range vs.length)).toList.map fun i=>vs.getD i Value.none)
 |[],_=>by simp
 |[x],_=>by simp
 |_::_::_,h=>by simp at h;omega
theorem list_sortT{a:Addr}{d:Nat}{vs:List Value}{ks:List (List Int)}{n:Nat}{P:PySem.Fin->Shared->Prop}(ho:s.heap.get? a=some (seqObj "list" vs.toArray n))(h64:vs.length<64)(hn:ks.Nodup)(hkl:ks.length=vs.length)
  (t:Tp (((s.heap.update a (Obj.mapSeq fun _=>(#[]:Array Value))).push (seqObj "tuple" vs.toArray 0)).push (seqObj "list" #[] 0)) d vs ks)
  (h:∀q:Array Nat,Arr vs.length q->Up (lexr ks) q vs.length->P (.done (.ret .none)) { s with heap:=sortedHeap s.heap a vs (List.toArray (q.toList.map fun i=>vs.getD i Value.none)) }) :
  wpAny (model prog w) A (Builtin.«list.sort» ⟨[.ref a],[]⟩) P E s:=by
 have ha:a<s.heap.objs.size:=Heap.lt_size ho
 rw[list_sort_plain]
 refine wpAny_bind (listItems_at ho rfl ?_)
 refine wpAny_bind (listUpdate_at ho rfl ?_ (by rw[List.size_toArray,sizeLine_eq];omega) (Nat.zero_le _))
 obtain⟨e1,ho1⟩:∃e1,(s.heap.update a (Obj.mapSeq fun _=>(#[]:Array Value))).get? a=some (seqObj "list" #[] e1):=⟨_,get?_update_seq ho (fun _=>#[])⟩
 refine wpAny_bind (seqEpoch_at ho1 rfl ?_)
 refine wpAny_bind (wpAny_newTuple ?_ (by show vs.length<=_;rw[sizeLine_eq];omega))
 refine wpAny_bind (wpAny_newList ?_ (Nat.zero_le _))
 refine wpAny_holding ?_
 have ho6:(((s.heap.update a (Obj.mapSeq fun _=>(#[]:Array Value))).push (seqObj "tuple" vs.toArray 0)).push (seqObj "list" #[] 0)).get? a=some (seqObj "list" #[] e1):=by
  rw[Heap.get?_push_ne _ _ _ (by rw[size_push',Heap.size_update];exact Nat.ne_of_lt (Nat.lt_succ_of_lt ha)),Heap.get?_push_ne _ _ _ (by rw[Heap.size_update];exact Nat.ne_of_lt ha)]
  exact ho1
 show wpAny (model prog w) A _ P E { s with heap:=((s.heap.update a (Obj.mapSeq fun _=>(#[]:Array Value))).push (seqObj "tuple" vs.toArray 0)).push (seqObj "list" #[] 0) }
 dsimp only
 have hsz:vs.toArray.size=vs.length:=by simp
 by_cases h2:vs.toArray.size<2
 ·rw[if_pos h2,if_pos h2]
  refine wpAny_bind (wpAny_pure ?_)
  rw[StateT.run_pure]
  refine wpAny_bind (wpAny_pure ?_)
  dsimp only
  refine wpAny_bind (seqEpoch_at ho6 rfl ?_)
  have hout:(arrOf (SortSt.mk' general' (vs.toArray.zip vs.toArray) #[] 7 none)).map (·.2)=List.toArray ((List.toArray (List.range vs.length)).toList.map fun i=>vs.getD i Value.none):=by
   exact RI (by omega)
  rw[hout]
  refine wpAny_bind (listUpdate_at ho6 rfl ?_ (Nat.zero_le _) (by rw[List.size_toArray,List.length_map,sizeLine_eq];simp;omega))
  simp only[bne_self_eq_false,Bool.false_eq_true,if_false]
  refine wpAny_pure (h _ Mw fun x y hxy hy=>?_)
  omega
 ·rw[if_neg h2,if_neg h2]
  obtain⟨fs,k1,k2,k3⟩:=t.kat
  refine wpAny_bind (kat_kind (s:={ s with heap:=((s.heap.update a (Obj.mapSeq fun _=>(#[]:Array Value))).push (seqObj "tuple" vs.toArray 0)).push (seqObj "list" #[] 0) }) (T:=.type "int") k1 (by omega) (fun v hv=>by obtain⟨n,u,rfl⟩:=k3 v hv;exact Looks.of_pure rfl) (by decide) ?_)
  have hT:(Value.type "int" != Value.type "tuple")=true:=by decide
  rw[hT]
  have wp:=U9 (n:=vs.length) (r:=lexr ks) (cmp:=kas_ask prog w A (tuples' true) vs) (s:={ s with heap:=((s.heap.update a (Obj.mapSeq fun _=>(#[]:Array Value))).push (seqObj "tuple" vs.toArray 0)).push (seqObj "list" #[] 0) }) (R:=fun q s'=>Arr vs.length q/\Up (lexr ks) q vs.length/\s'={ s with heap:=((s.heap.update a (Obj.mapSeq fun _=>(#[]:Array Value))).push (seqObj "tuple" vs.toArray 0)).push (seqObj "list" #[] 0) }) (fun i j C hi hj hC=>Uk t i j C hi hj hC) (sort (by rw[<- hkl];exact T4 hn) (by omega)) (fun q hq=>⟨hq.1,hq.2,rfl⟩)
  refine wpAny_bind (wpAny_mono (kat_run (E := E) (Q := fun st' s' => ∃ p : Array Nat, p.size = vs.length /\ arrOf st' = p.map (kas_item (vs.toArray.zip vs.toArray)) /\ failedOf st' = none /\ Arr vs.length p /\ Up (lexr ks) p vs.length /\ s' = { s with heap := ((s.heap.update a (Obj.mapSeq fun _ => (#[] : Array Value))).push (seqObj "tuple" vs.toArray 0)).push (seqObj "list" #[] 0) })
   rfl (by omega) h64 (fun p' st' s' a1 a2 a3 a4=>⟨p',a1,a2,a3,a4⟩) wp) ?_ fun _ _ e=>e)
  rintro⟨⟨⟩,st'⟩ s' ⟨p,hp,har,hf,hA,hU,rfl⟩
  dsimp only
  have hout:=kat_snds rfl har
  rw[hout]
  refine wpAny_bind (seqEpoch_at ho6 rfl ?_)
  refine wpAny_bind (listUpdate_at ho6 rfl ?_ (Nat.zero_le _) (by rw[List.size_toArray,List.length_map,Array.length_toList,hp,sizeLine_eq];omega))
  rw[hf]
  simp only[bne_self_eq_false,Bool.false_eq_true,if_false]
  exact wpAny_pure (h p hA hU)
end
end Srt
end
section
namespace DL
open PySem L2 PyProof.Rows
variable {K:KW}
theorem L4:∀{zs:List (Addr×List Int)} {us:List Value},Vals (zs.map fun z=>V.ref z.1) us->us=zs.map fun z=>Value.ref z.1
 |[],_,h=>by cases h;rfl
 |z::zs,_,h=>by
  cases h with
  |cons r t=>rw[L4 t,show _=Value.ref z.1 from r];rfl
theorem Hr:∀(zs:List (Addr×List Int)),Vals (zs.map fun z=>V.ref z.1) (zs.map fun z=>Value.ref z.1)
 |[]=>.nil
 |z::zs=>.cons rfl (Hr zs)
theorem Uv{X:Cx}{pins:List (Addr×Obj)}{σ:L2.St}{H:Hp}{s:Shared}(I:Inv X pins σ H s){d:Nat}:∀{zs:List (Addr×List Int)},(∀z∈zs,SqT X.K H z.1 (z.2.map V.int)/\z.2.length=d+1)->Srt.Tp s.heap d (zs.map fun z=>Value.ref z.1) (zs.map (·.2))
 |[],_=>trivial
 |z::zs,h=>by
  obtain⟨h1,h2⟩:=h z List.mem_cons_self
  obtain⟨its,r1,p1,_⟩:=I.tuple h1
  exact⟨⟨z.1,its.toArray,rfl,p1,K3 r1,h2⟩,Uv I fun y hy=>h y (List.mem_cons_of_mem _ hy)⟩
theorem Sd{α β:Type}(f:α->β)(l:List α)(i:Nat)(a:α):(l.map f).getD i (f a)=f (l.getD i a):=by
 rw[List.getD_eq_getElem?_getD,List.getD_eq_getElem?_getD,List.getElem?_map]
 cases l[i]?<;>rfl
theorem PP{α:Type}(l:List α)(a:α):(List.range l.length).map (fun i=>l.getD i a)=l:=by
 apply List.ext_getElem
 ·simp
 ·intro i h1 h2
  simp[List.getD_eq_getElem?_getD,h2]
def Kv:List PyData->Option (List (List Int))
 |[]=>some []
 |.tuple ds::r=>(Su ds).bind fun k=>(Kv r).map (k::·)
 |_::_=>none
def KT(k:List Int):PyData:=.tuple (k.map .int)
def RX(k:List Int):List (List Int)->List (List Int)
 |[]=>[k]
 |x::r=>if HT.lexLt k x=true then k::x::r else x::RX k r
def Kb:List (List Int)->List (List Int)
 |[]=>[]
 |k::r=>RX k (Kb r)
theorem JO(k:List Int):∀(l:List (List Int)),(RX k l).Perm (k::l)
 |[]=>.refl _
 |x::r=>by
  unfold RX
  split
  ·exact .refl _
  ·exact((JO k r).cons x).trans (.swap k x r)
theorem FM:∀(l:List (List Int)),(Kb l).Perm l
 |[]=>.refl _
 |k::r=>(JO k (Kb r)).trans ((FM r).cons k)
theorem Ju{k:List Int}:∀{l:List (List Int)},l.Pairwise (fun x y=>HT.lexLt x y=true)->k∉l->(RX k l).Pairwise (fun x y=>HT.lexLt x y=true)
 |[],_,_=>List.pairwise_singleton _ _
 |x::r,h,hn=>by
  obtain⟨h1,h2⟩:=List.pairwise_cons.mp h
  unfold RX
  split
  ·rename_i c
   refine List.pairwise_cons.mpr ⟨fun y hy=>?_,h⟩
   rcases List.mem_cons.mp hy with rfl|hy
   ·exact c
   ·exact Srt.lex_tr c (h1 y hy)
  ·rename_i c
   have c':HT.lexLt x k=true:=Srt.lex_tot (fun z=>hn (by rw[z];exact List.mem_cons_self)) (by simpa using c)
   refine List.pairwise_cons.mpr ⟨fun y hy=>?_,Ju h2 fun z=>hn (List.mem_cons_of_mem _ z)⟩
   rcases List.mem_cons.mp ((JO k r).mem_iff.mp hy)with rfl|hy
   ·exact c'
   ·exact h1 y hy
theorem GI:∀{l:List (List Int)},l.Nodup->(Kb l).Pairwise (fun x y=>HT.lexLt x y=true)
 |[],_=>.nil
 |k::r,h=>by
  obtain⟨h1,h2⟩:=List.nodup_cons.mp h
  exact Ju (GI h2) fun z=>h1 ((FM r).mem_iff.mp z)
theorem To{l m:List (List Int)}(hn:l.Nodup)(h:m.Pairwise (fun x y=>HT.lexLt x y=true))(hm:∀x,x∈m↔x∈l):Kb l=m :=
 He (R:=fun x y=>HT.lexLt x y=true) (fun a b h1 h2=>by have:=Srt.lex_tr h1 h2;rw[Srt.lex_irr]at this;cases this) (GI hn) h fun x=>((FM l).mem_iff).trans (hm x).symm
theorem Qa{H:Hp}:∀{ds:List PyData} {vs:List V} {ks:List (List Int)},IsL K H ds vs->Kv ds=some ks->∃zs:List (Addr×List Int),vs=zs.map (fun z=>V.ref z.1)/\ks=zs.map (·.2)/\∀z∈zs,SqT K H z.1 (z.2.map V.int)
 |[],_,_,h,e=>by cases e;exact⟨[],h,rfl,fun z hz=>by simp at hz⟩
 |.tuple ds::r,_,_,⟨v,us,e1,⟨a,ws,e2,hs,lw⟩,l⟩,e=>by
  obtain⟨k,ek,e⟩:=oB e
  obtain⟨ms,em,e⟩:=oM e
  subst e e1 e2
  obtain⟨zs,h1,h2,h3⟩:=Qa l em
  subst h1 h2
  rw[Qg lw ek]at hs
  exact ⟨(a, k) :: zs, rfl, rfl, fun z hz => by
   rcases List.mem_cons.mp hz with rfl|hz
   ·exact hs
   ·exact h3 z hz⟩
 |.none::_,_,_,_,e=>by cases e
 |.bool _::_,_,_,_,e=>by cases e
 |.int _::_,_,_,_,e=>by cases e
 |.str _::_,_,_,_,e=>by cases e
 |.list _::_,_,_,_,e=>by cases e
 |.dict _::_,_,_,_,e=>by cases e
theorem Qf{H:Hp}:∀(k:List Int),IsL K H (k.map .int) (k.map V.int)
 |[]=>rfl
 |i::k=>⟨_,_,rfl,rfl,Qf k⟩
theorem Qe{H:Hp}:∀{zs:List (Addr×List Int)},(∀z∈zs,SqT K H z.1 (z.2.map V.int))->IsL K H ((zs.map (·.2)).map KT) (zs.map fun z=>V.ref z.1)
 |[],_=>rfl
 |z::zs,h=>⟨_,_,rfl,⟨z.1,_,rfl,h z List.mem_cons_self,Qf _⟩,Qe fun y hy=>h y (List.mem_cons_of_mem _ hy)⟩
end DL
end
section
namespace DL
open PySem L2
variable {K:KW}
abbrev DO:=DS->Option (Option Int×DS)
structure OO(K:KW)(t:TO)(f:DO):Prop where
 like:∀τ b τ',f τ=some (b,τ')->Like τ τ'
 run:∀S M τ σ H (Q:Option Int->Hp->Prop) b τ',R K S M τ σ H->f τ=some (b,τ')->(∀H',R K S M τ' σ H'->Chg M H H'->Q b H')->t σ H Q
def V7:DO:=fun τ=>some (none,τ)
def dPt(f:DX):DO:=fun τ=>(f τ).bind fun p=>match p.1 with
 |.int i=>some (some i,p.2)
 |_=>none
theorem Wm:OO K P9 V7:=⟨fun τ b τ' e=>by cases e;exact Like.refl,fun S M τ σ H Q b τ' r e q=>by cases e;exact q H r Chg.refl⟩
theorem XI{fr:Bool}{t:TE}{f:DX}(h:E K t fr f):OO K (Ux t) (dPt f):=by
 refine⟨fun τ b τ' e=>?_,?_⟩
 ·unfold dPt at e
  obtain⟨⟨x,τ1⟩,e1,e⟩:=oB e
  dsimp only at e
  split at e
  ·cases e;exact h.like _ _ _ e1
  ·cases e
 intro S M τ σ H Q b τ' r e q
 unfold dPt at e
 obtain⟨⟨x,τ1⟩,e1,e⟩:=oB e
 dsimp only at e
 split at e
 ·rename_i i
  cases e
  refine h.run S M τ σ H _ _ _ r e1 fun v H' r' c iv=>?_
  exact⟨i,(show v = .int i from r.isr iv),q H' r' c⟩
 ·cases e
def V8(xs:List PyData)(lo hi:Option Int):List PyData:=(xs.drop (HT.sIx xs.length 0 lo)).take (HT.sIx xs.length xs.length hi-HT.sIx xs.length 0 lo)
theorem Oc{H:Hp}:∀{xs:List PyData} {vs:List V} (n:Nat),IsL K H xs vs->IsL K H (xs.drop n) (vs.drop n)
 |_,_,0,h=>h
 |[],_,n+1,h=>by rw[show _=[] from h];rfl
 |x::xs,_,n+1,⟨v,us,e,_,l⟩=>by subst e;exact Oc n l
theorem Ob{H:Hp}:∀{xs:List PyData} {vs:List V} (n:Nat),IsL K H xs vs->IsL K H (xs.take n) (vs.take n)
 |_,_,0,h=>rfl
 |[],_,n+1,h=>by rw[show _=[] from h];rfl
 |x::xs,_,n+1,⟨v,us,e,i,l⟩=>by subst e;exact⟨v,_,rfl,i,Ob n l⟩
theorem UK{H:Hp}{xs:List PyData}{vs:List V}{lo hi:Option Int}(h:IsL K H xs vs):IsL K H (V8 xs lo hi) (Py vs lo hi):=by
 unfold V8 Py
 rw[h.length]
 exact Ob _ (Oc _ h)
def dSl(f:DX)(lo hi:DO)(τ:DS):Option (PyData×DS):=(f τ).bind fun p=>(lo p.2).bind fun l=>(hi l.2).bind fun u=>match p.1 with
 |.list xs=>some (.list (V8 xs l.1 u.1),u.2)
 |_=>none
theorem XR{fr:Bool}{te:TE}{tl th:TO}{f:DX}{lo hi:DO}(h:E K te fr f)(hl:OO K tl lo)(hh:OO K th hi):E K (tSl (Wb K) te tl th) true (dSl f lo hi):=by
 refine⟨fun τ d τ' e=>?_,?_⟩
 ·unfold dSl at e
  obtain⟨⟨x,τ1⟩,e1,e⟩:=oB e
  obtain⟨⟨l,τ2⟩,e2,e⟩:=oB e
  obtain⟨⟨u,τ3⟩,e3,e⟩:=oB e
  dsimp only at e
  split at e
  ·cases e;exact((h.like _ _ _ e1).trans (hl.like _ _ _ e2)).trans (hh.like _ _ _ e3)
  ·cases e
 intro S M τ σ H Q d τ' r e q
 unfold dSl at e
 obtain⟨⟨x,τ1⟩,e1,e⟩:=oB e
 obtain⟨⟨l,τ2⟩,e2,e⟩:=oB e
 obtain⟨⟨u,τ3⟩,e3,e⟩:=oB e
 dsimp only at e e2 e3
 cases x with
 |list xs =>
  cases e
  refine h.run S M τ σ H _ _ _ r e1 fun v1 H1 r1 c1 i1=>?_
  refine hl.run S M τ1 σ H1 _ _ _ r1 e2 fun H2 r2 c2=>?_
  refine hh.run S M τ2 σ H2 _ _ _ r2 e3 fun H3 r3 c3=>?_
  have i1':Is K (hid S H3) (.list xs) v1:=((r.isr i1).mono (c2.keep r1.sub).same).mono (c3.keep r2.sub).same
  obtain⟨a,vs,rfl,ha,la⟩:=i1'
  refine⟨a,vs,rfl,SqL.of (hid_iff.mp ha).2,fun p hp=>?_⟩
  have s:=BS hp (HO.lst (Py vs l u))
  exact q _ _ (r3.same s) (((c1.trans c2).trans c3).trans (.of s)) ((Gw hp (UK la)).back r3 ((c1.trans c2).trans c3))
 |_=>cases e
end DL
end
section
namespace L2
open PySem PySem.Spec PyProof.Rows
section
variable {X:Cx} {pins:List (Addr×Obj)} {σ:L2.St} {H:Hp} {s:Shared}
theorem Inv.turned2{t':Nat}{i1 i2:Addr}{h':Heap}(I:Inv X pins σ H s)(k:∀b o,b≠i1->b≠i2->s.heap.get? b=some o->h'.get? b=some o)(f1:Ji X pins H i1)(f2:Ji X pins H i2):Inv X pins σ H { s with heap:=h',toks:=t' }:=by
 obtain⟨a0,a1,a2,a3,a4,a5⟩:=f1
 obtain⟨b0,b1,b2,b3,b4,b5⟩:=f2
 have n1:∀b u,H b=some u->b≠i1:=fun b u e z=>by rw[z,a0]at e;cases e
 have n2:∀b u,H b=some u->b≠i2:=fun b u e z=>by rw[z,b0]at e;cases e
 refine I.step (g':=s.gens) (d':=s.drawn) (ch:=[i1,i2]) (fun b hb=>?_) (fun b o _ _ hc e _=>k b o (fun z=>hc (by simp[z])) (fun z=>hc (by simp[z])) e) (fun b o _ _ hc e _=>⟨o.slots,k b o (fun z=>hc (by simp[z])) (fun z=>hc (by simp[z])) e⟩) (fun _ _ _ _ n=>n)
  (fun b o hc e=>⟨o,k b o (fun z=>hc (by simp[z])) (fun z=>hc (by simp[z])) e⟩) (fun _ _ e=>e) (fun _ _ _ e=>e) (fun b ps e=>⟨#[],by rw[e];simp⟩) (fun m hm=>?_) (fun b u e=>?_) I.bare
 ·have e:b=i1\/b=i2:=by simpa using hb
  rcases e with e|e
  ·subst e;exact⟨a3,a1,a4,a5⟩
  ·subst e;exact⟨b3,b1,b4,b5⟩
 ·obtain⟨o,es,ep,ho,r⟩:=hm
  exact⟨o,es,ep,k _ o (Ne.symm a1) (Ne.symm b1) ho,r⟩
 ·refine(I.hok b u e).stay (fun c v hc q=>k c v ?_ ?_ q) (fun _ q=>q) fun _ _ q=>q
  ·rcases hc with z|z
   ·rw[z];exact n1 b u e
   ·exact n1 c _ z
  ·rcases hc with z|z
   ·rw[z];exact n2 b u e
   ·exact n2 c _ z
end
def Ite(K:PySem.W.Frag)(a:Addr):It :=
 ⟨fun i H=>∃xs x,SqL K H a xs/\xs[i]?=some x,fun i H x H'=>∃(p:Addr) (v:V),H p=none/\x = .ref p/\(∀xs,SqL K H a xs->xs[i]?=some v)/\H'=upd H p (.tup [.int i,v]),fun i H=>∃xs,SqL K H a xs/\xs.length<=i⟩
theorem Q8{P:Program}{w:World}{K:PySem.W.Frag}{elts:List Expr}{c1}{pos:Pos}(a e it:Addr)(hei:e≠it):P5 P w K (.Tuple elts c1 pos) (Ite K a) [e,it] e (fun i h=>(∃old,IsEnum h e it i old)/\h.IsListIter it a i) where
 mem:=by simp
 obj:=fun i h st b hb=>by
  have q:b=e\/b=it:=by simpa using hb
  obtain⟨⟨old,he⟩,o,ho,c,d⟩:=st
  rcases q with rfl|rfl
  ·exact⟨_,he,fun v z=>by cases z⟩
  ·exact⟨o,ho,fun v z=>by rw[d]at z;cases z⟩
 keep:=fun i h h' st k=>⟨let ⟨old,he⟩:=st.1;⟨old,k e (by simp) _ he⟩,st.2.at fun o q=>k it (by simp) o q⟩
 item:=by
  intro X hP hw hK hc i pins s σ H E I hf st hg
  subst hP hw hK
  obtain⟨xs,x,hq,hx⟩:=hg
  obtain⟨its,rv,p,hz⟩:=I.list hq
  obtain⟨u,hu,ru⟩:=rv.get hx
  obtain⟨⟨old,he⟩,hit⟩:=st
  refine wpAny_pyNext_enum_item he hit p.isList (x:=u) (by simpa using hu) hei fun h1 ho hit1 ht hs1 k1=>?_
  refine⟨_,rfl,wpAny_letOwnedTupleGo_enum (s:={ s with heap:=h1,toks:=s.toks+1 }) ho fun h2 he2 sb=>?_⟩
  have fr:H s.heap.objs.size=none:=I.hok.fresh (Nat.le_refl _)
  have hlt1:e<s.heap.objs.size:=Heap.lt_size he
  have hlt2:it<s.heap.objs.size:=by obtain⟨o,q,_⟩:=hit;exact Heap.lt_size q
  have I1:=I.laid (t':=s.toks+1) (a:=s.heap.objs.size) (o:=.tup [.int i,x]) (h':=s.heap.push { cls:=.type "tuple",data:=.seq #[.int i s.toks,u] }) (fun b o q=>Heap.get?_push_of_some _ q) (Nat.le_refl _)
   ⟨by show 2<=sizeLine;decide,[.int i s.toks,u],.cons ⟨_,rfl⟩ (.cons ru .nil),_,Heap.get?_push_size _ rfl,rfl,_,rfl⟩
  have fp:∀b∈[e,it],Ji X pins (upd H s.heap.objs.size (.tup [.int i,x])) b:=fun b hb=>by
   obtain⟨q0,q⟩:=hf b hb
   refine⟨?_,q⟩
   rw[AO (fun z=>?_)]
   ·exact q0
   ·have q:b=e\/b=it:=by simpa using hb
    rcases q with rfl|rfl
    ·exact absurd hlt1 (by rw[z];exact Nat.lt_irrefl _)
    ·exact absurd hlt2 (by rw[z];exact Nat.lt_irrefl _)
  have I2 := I1.turned2 (t' := s.toks + 1) (h' := h2) (i1 := e) (i2 := it) (fun b o ne ni q => by
   have e2:h2.get? b=h1.get? b:=sb.2 b ne
   rw[e2]
   by_cases hb:b=s.heap.objs.size
   ·subst hb
    have q':some ({ cls:=.type "tuple",data:=.seq #[.int i s.toks,u] }:Obj)=some o:=(Heap.get?_push_size s.heap (o:={ cls:=.type "tuple",data:=.seq #[.int i s.toks,u] }) rfl).symm.trans q
    rw[ht];exact q'
   ·have q':(s.heap.push { cls:=.type "tuple",data:=.seq #[.int i s.toks,u] }).get? b=some o:=q
    rw[Heap.get?_push_ne _ _ _ hb]at q'
    exact k1 b o ne ni q') (fp e (by simp)) (fp it (by simp))
  refine⟨.ref s.heap.objs.size,_,I2,rfl,⟨s.heap.objs.size,x,fr,rfl,fun ys hy=>by rw[I.list_inj hy hq];exact hx,rfl⟩,⟨⟨u,?_⟩,?_⟩,fun b hb=>(fp b hb).1⟩
  ·have:((i+1:Nat):Int)=(i:Int)+1:=by omega
   rw[this];exact he2
  ·exact hit1.at fun o q=>by
    have e2:h2.get? it=h1.get? it:=sb.2 it (Ne.symm hei)
    rw[e2];exact q
 done:=by
  intro X hP hw hK hc i pins s σ H E I hf st hg
  subst hP hw hK
  obtain⟨xs,hq,hx⟩:=hg
  obtain⟨its,rv,p,hz⟩:=I.list hq
  obtain⟨⟨old,he⟩,hit⟩:=st
  obtain⟨f0,f1,f2,f3,f4,f5⟩:=hf it (by simp)
  have hl:=rv.length
  exact wpAny_pyNext_enum_end (I.ok.hd hc) he hit p.isList (by simp;omega) fun h' eb=>⟨rfl,I.turned (t':=s.toks) (fun b o hb e=>eb b o hb e) f0 f1 f3 f4 f5⟩
 self:=fun _ _ _ _ _ st h=>let ⟨old,he⟩:=st.1;wpAny_pyIter_enum he h
section
variable {X:Cx} {elts:List Expr} {tp:Pos}
def U7(K:PySem.W.Frag)(ta:TA):TI:=fun σ H R=>ta σ H fun vs H1=>∃a,vs=[.ref a]/\(∃xs,SqL K H1 a xs)/\R (Ite K a) H1
theorem QI{a:Expr}{ta:TA}{p pos:Pos}{c1}(hg:Gl X "enumerate")(hm:X.mg "enumerate"=none)(ha:PA X [a] ta)(hn:("enumerate":Str)≠"__name__")(hdb:(("enumerate":Str)==("__debug__":Str))=false)(hs:starEach [a] X.env=[(false,eval a X.env)]:=by rfl) :
  PI X (.Tuple elts c1 tp) (.Call (.Name "enumerate" p) [a] [] pos) (U7 X.K ta):=by
 intro pins s σ H R I h
 refine Call_ (Ku I hg hm boot_enumerate (PyProof.Rows.callWith_type1 (thn (ha pos pins s σ H _ I h) fun us s1 ⟨vs,H1,I1,r1,q1⟩=>?_) hs rfl) hn hdb)
 obtain⟨l,e,⟨xs,hq⟩,q⟩:=q1
 subst e
 obtain⟨u,rfl,ru⟩:=N3 r1
 cases ru
 obtain⟨its,rv,pl,hz⟩:=I1.list hq
 refine call_enumerate_list pl.isList fun h' he hit hsz hk=>?_
 refine wpAny_pyIter_enum (s:={ s1 with heap:=h' }) he ?_
 have I2:Inv X pins σ H1 { s1 with heap:=h' }:=I1.kept (t':=s1.toks) hk
 refine⟨s1.heap.objs.size+1,[s1.heap.objs.size+1,s1.heap.objs.size],_,_,H1,rfl,I2,Q8 l (s1.heap.objs.size+1) s1.heap.objs.size (Nat.succ_ne_self _),⟨⟨_,he⟩,hit⟩,fun b hb=>?_,q⟩
 have e:b=s1.heap.objs.size+1\/b=s1.heap.objs.size:=by simpa using hb
 rcases e with rfl|rfl
 ·exact I1.fpOk (Nat.le_succ _) (I1.hok.fresh (Nat.le_succ _))
 ·exact I1.fpOk (Nat.le_refl _) (I1.hok.fresh (Nat.le_refl _))
end
end L2
end
section
namespace DL
open PySem L2
variable {K:KW}
def XD(K:KW)(S:Addr->Prop)(J:It)(H:Hp)(ds:List PyData):Prop:=∀(S2:Addr->Prop) (H2:Hp),Keep S H S2 H2->(∀a,H2 a=none->¬S2 a)->(∀(i:Nat) (d:PyData),ds[i]?=some d->J.go i H2/\∀x H3,J.yld i H2 x H3->Same H2 H3/\Is K (hid S2 H3) d x)/\∀i,ds.length<=i->J.stop i H2
structure IT2(K:KW)(wi:TI)(f:DI):Prop where
 like:∀τ ds τ',f τ=some (ds,τ')->Like τ τ'
 run:∀S M τ σ H (Q:It->Hp->Prop) ds τ',R K S M τ σ H->f τ=some (ds,τ')->(∀J H',R K S M τ' σ H'->Chg M H H'->XD K S J H' ds->Q J H')->wi σ H Q
def E4(k:Nat):List PyData->List PyData
 |[]=>[]
 |d::r=>.tuple [.int k,d]::E4 (k+1) r
theorem Mi:∀(k:Nat) (ds:List PyData),(E4 k ds).length=ds.length
 |_,[]=>rfl
 |k,_::r=>by rw[E4,List.length_cons,List.length_cons,Mi]
theorem Mj:∀{k:Nat} {ds:List PyData} {i:Nat} {x:PyData},(E4 k ds)[i]?=some x->∃d,ds[i]?=some d/\x = .tuple [.int ((k+i:Nat):Int),d]
 |_,[],i,_,e=>by simp[E4]at e
 |k,d::r,0,x,e=>by simp[E4]at e;exact⟨d,rfl,e.symm⟩
 |k,d::r,i+1,x,e=>by
  rw[E4,List.getElem?_cons_succ]at e
  obtain⟨d',h1,h2⟩:=Mj e
  exact⟨d',by rw[List.getElem?_cons_succ];exact h1,by rw[h2,show k+1+i=k+(i+1) by omega]⟩
def dIE(f:DX)(τ:DS):Option (List PyData×DS):=(f τ).bind fun p=>match p.1 with
 |.list ds=>some (E4 0 ds,p.2)
 |_=>none
theorem Qd{fr:Bool}{t:TE}{f:DX}(h:E K t fr f):IT2 K (U7 K (Dd t Hz)) (dIE f):=by
 refine⟨fun τ d τ' e=>?_,?_⟩
 ·unfold dIE at e
  obtain⟨⟨x,τ1⟩,e1,e⟩:=oB e
  dsimp only at e
  split at e
  ·cases e;exact h.like _ _ _ e1
  ·cases e
 intro S M τ σ H Q ds τ' r e q
 unfold dIE at e
 obtain⟨⟨x,τ1⟩,e1,e⟩:=oB e
 cases x with
 |list ds =>
  cases e
  refine h.weak.run S M τ σ H _ _ _ r e1 fun v H1 r1 c1 i1=>?_
  have i1':Is K (hid S H1) (.list ds) v:=i1
  obtain⟨a,vs,rfl,hl,ll⟩:=i1'
  refine⟨a,rfl,⟨vs,SqL.of (hid_iff.mp hl).2⟩,q _ H1 r1 c1 fun S2 H2 k nS=>?_⟩
  have hl2:=k.same _ _ hl
  have ll2:=ll.mono k.same
  refine⟨fun i d e=>?_,fun i hi=>⟨vs,SqL.of (hid_iff.mp hl2).2,by rw[ll.length];rw[Mi]at hi;exact hi⟩⟩
  obtain⟨d',e',rfl⟩:=Mj e
  obtain⟨u,h1,h2⟩:=ll2.get e'
  refine⟨⟨vs,u,SqL.of (hid_iff.mp hl2).2,h1⟩,?_⟩
  rintro x H3 ⟨p,v,hp,rfl,y,rfl⟩
  have:=y vs (SqL.of (hid_iff.mp hl2).2)
  rw[h1]at this;cases this
  have s:=BS hp (HO.tup [.int i,u])
  refine⟨s,⟨p,[.int i,u],rfl,.inl (.inl (hid_iff.mpr ⟨nS p hp,AT⟩)),?_⟩⟩
  rw[Nat.zero_add]
  exact⟨_,_,rfl,rfl,_,_,rfl,h2.mono (Same.keep s).same,rfl⟩
 |_=>cases e
theorem WG{np:Nat}{fr:Bool}{wi:TI}{tg:TG}{tb:TS}{it:DI}{g:DG}{b:DB}(hi:IT2 K wi it)(hg:TG1 K tg g)(hb:B K np tb fr b):B K np (Tm wi tg tb) fr (EL it g b):=by
 intro F S M τ σ H D out hnp f ee q
 unfold EL at ee
 obtain⟨⟨ds,τ1⟩,e1,ee⟩:=oB ee
 refine hi.run S M τ σ H _ ds τ1 f.r e1 fun J H1 r1 c1 iJ=>?_
 have f1:=f.step r1 c1 (hi.like _ _ _ e1)
 have q1:=q.trans (c1.keep f.r.sub)
 refine⟨fun i m σ' H'=>m=ds.length-i/\i<=ds.length/\∃S' M' τ',RF K F S' M' τ' σ' H'/\Keep S H1 S' H'/\CH g b (ds.drop i) τ'=some out,⟨ds.length,by simp,Nat.zero_le _,S,M,τ1,f1,.refl,by simpa using ee⟩,?_⟩
 rintro i m σ' H' ⟨rfl,hil,S',M',τ',f',k',hl⟩
 obtain⟨I1,I2⟩:=iJ _ _ k' (fun _=>f'.r.fresh)
 by_cases hlt:i<ds.length
 ·right
  have ed:ds[i]?=some ds[i]:=List.getElem?_eq_getElem hlt
  obtain⟨go,yl⟩:=I1 i _ ed
  refine⟨go,fun σ2 H2=>∃S2 M2 τ2,RF K F S2 M2 τ2 σ2 H2/\Keep S H1 S2 H2/\CH g b (ds.drop (i+1)) τ2=some out,fun σ2 H2 h=>⟨ds.length-(i+1),by omega,rfl,hlt,h⟩,fun x H2 y=>?_⟩
  obtain⟨sm,ix⟩:=yl x H2 y
  have f':=f'.step (f'.r.same sm) (.of sm) .refl
  have k':=k'.trans (Same.keep sm)
  rw[List.drop_eq_getElem_cons hlt,CH]at hl
  obtain⟨τ2,e2,hl⟩:=oB hl
  obtain⟨o,e3,hl⟩:=oB hl
  refine hg.run S' M' τ' σ' H2 x _ τ2 _ f'.r ix e2 fun σ3 r3 k3=>?_
  have f3:=f'.stay r3 (hg.ms _ _ _ e2) k3
  refine hb F S' M' τ2 σ3 H2 _ o hnp f3 e3 ?_
  cases o with
  |nx τ4=>exact fun S4 M4 σ4 H4 f4 k4=>⟨S4,M4,τ4,f4,k'.trans k4,hl⟩
  |ct τ4=>exact fun S4 M4 σ4 H4 f4 k4=>⟨S4,M4,τ4,f4,k'.trans k4,hl⟩
  |bk τ4=>cases hl;exact fun S4 M4 σ4 H4 f4 k4=>q1 S4 M4 σ4 H4 f4 (k'.trans k4)
  |rt d τ4=>cases hl;exact fun S4 M4 σ4 H4 v f4 k4=>q1 S4 M4 σ4 H4 v f4 k4
 ·left
  have e:i=ds.length:=by omega
  subst e
  rw[List.drop_length,CH]at hl
  cases hl
  exact⟨I2 _ (Nat.le_refl _),q1 S' M' σ' H' f' k'⟩
end DL
end
section
namespace DL
open PySem L2 PyProof.Rows
variable {K:KW}
end DL
end
section
namespace DL
open PySem L2
variable {K:KW}
end DL
end
section
namespace Stb
open PySem
def F:Nat->Nat->Nat
 |0,x=>x
 |n+1,x=>F n (5*x+1)
theorem Te:∀(a b x:Nat),F (a+b) x=F b (F a x)
 |0,b,x=>by rw[Nat.zero_add];rfl
 |a+1,b,x=>by rw[show a+1+b=(a+b)+1 by omega];exact Te a b _
theorem F4:∀(n x:Nat),4*F n x+1=5 ^ n*(4*x+1)
 |0,x=>by simp[F]
 |n+1,x=>by
  rw[F,F4 n,Nat.pow_succ,Nat.mul_assoc]
  congr 1
  omega
theorem W0:∀k:Nat,∃q,5 ^ (2 ^ k)=1+2 ^ k*(4*(2*q+1))
 |0=>⟨0,by decide⟩
 |k+1=>by
  obtain⟨q,e⟩:=W0 k
  refine⟨q+2 ^ k*((2*q+1)*(2*q+1)),?_⟩
  rw[Nat.pow_succ 2 k,Nat.pow_mul,e]
  generalize 2 ^ k=P
  grind
theorem F2k(k z:Nat):∃r,F (2 ^ k) z=z+2 ^ k*(2*r+1):=by
 obtain⟨q,e⟩:=W0 k
 have h:=F4 (2 ^ k) z
 rw[e]at h
 refine⟨4*q*z+q+2*z,?_⟩
 generalize 2 ^ k=P at *
 generalize F P z=f at *
 grind
theorem hit:∀(k x y:Nat),∃n,n<2 ^ k/\F n x % 2 ^ k=y % 2 ^ k
 |0,x,y=>⟨0,by decide,by simp[Nat.mod_one]⟩
 |k+1,x,y=>by
  obtain⟨n,hn,e⟩:=hit k x y
  have hp:2 ^ (k+1)=2 ^ k+2 ^ k:=by rw[Nat.pow_succ];omega
  by_cases c:F n x % 2 ^ (k+1)=y % 2 ^ (k+1)
  ·exact⟨n,by omega,c⟩
  ·refine⟨n+2 ^ k,by omega,?_⟩
   rw[Te]
   obtain⟨r,er⟩:=F2k k (F n x)
   rw[er]
   have h1:F n x % 2 ^ (k+1) % 2 ^ k=y % 2 ^ (k+1) % 2 ^ k:=by
    rw[Nat.mod_mod_of_dvd _ ⟨2,by rw[Nat.pow_succ]⟩,Nat.mod_mod_of_dvd _ ⟨2,by rw[Nat.pow_succ]⟩];exact e
   have e2:F n x+2 ^ k*(2*r+1)=F n x+2 ^ k+2 ^ (k+1)*r:=by
    rw[hp];generalize 2 ^ k=P;grind
   rw[e2,Nat.add_mul_mod_self_left,Nat.add_mod]
   have hP:0<2 ^ k:=Nat.pow_pos (by decide)
   rw[hp]at *
   generalize 2 ^ k=P at *
   have l1:=Nat.mod_lt (F n x) (show P+P>0 by omega)
   have l2:=Nat.mod_lt y (show P+P>0 by omega)
   generalize F n x % (P+P)=a at *
   generalize y % (P+P)=b at *
   rw[Nat.mod_eq_of_lt (show P<P+P by omega)]
   have m1:=Nat.div_add_mod a P
   have m2:=Nat.div_add_mod b P
   rw[h1]at m1
   have d1:a / P<2:=Nat.div_lt_of_lt_mul (show a<P*2 by rw[Nat.mul_two];exact l1)
   have d2:b / P<2:=Nat.div_lt_of_lt_mul (show b<P*2 by rw[Nat.mul_two];exact l2)
   generalize a / P=u at *
   generalize b / P=v at *
   generalize b % P=w at *
   have c1:u=0\/u=1:=by omega
   have c2:v=0\/v=1:=by omega
   rcases c1 with c1|c1<;>rcases c2 with c2|c2<;>rw[c1]at m1<;>rw[c2]at m2<;>simp only[Nat.mul_zero,Nat.mul_one,Nat.zero_add]at m1 m2
   ·exact absurd (m1.symm.trans m2) c
   ·rw[Nat.mod_eq_of_lt (by omega)];omega
   ·rw[show a+P=b+(P+P) by omega,Nat.add_mod_right,Nat.mod_eq_of_lt (by omega)]
   ·exact absurd (m1.symm.trans m2) c
end Stb
end
section
namespace Stb
open PySem SetTable
def st(m:Nat)(h:Int):Probe:={ j:=bits h % (m+1),more:=runEnd m (bits h % (m+1))-bits h % (m+1),i:=bits h % (m+1),perturb:=bits h,dummy:=none }
def ad(m:Nat)(p:Probe):Probe :=
 if p.more>0 then { p with j:=p.j+1,more:=p.more-1 } else
 { p with j:=(leap m p.i p.perturb).1,more:=runEnd m (leap m p.i p.perturb).1-(leap m p.i p.perturb).1,i:=(leap m p.i p.perturb).1,perturb:=(leap m p.i p.perturb).2 }
def it(m:Nat)(h:Int):Nat->Probe
 |0=>st m h
 |n+1=>ad m (it m h n)
def pt(m:Nat)(h:Int)(n:Nat):Nat:=(it m h n).j
theorem ME{m i:Nat}(h:i<=m):runEnd m i<=m:=by unfold runEnd;split<;>omega
theorem G8{m i:Nat}:i<=runEnd m i:=by unfold runEnd;split<;>omega
theorem R9{m i:Nat}:runEnd m i<=i+9:=by unfold runEnd;split<;>omega
theorem QX(m i p:Nat):(leap m i p).1<=m:=Nat.le_of_lt_succ (Nat.mod_lt _ (Nat.succ_pos m))
structure Okp(m:Nat)(p:Probe):Prop where
 i:p.i<=m
 j:p.j+p.more=runEnd m p.i
 d:p.dummy=none
theorem Vj(m:Nat)(h:Int):Okp m (st m h):=by
 have e:bits h % (m+1)<=m:=Nat.le_of_lt_succ (Nat.mod_lt _ (Nat.succ_pos m))
 refine⟨e,?_,rfl⟩
 have:=@G8 m (bits h % (m+1))
 show bits h % (m+1)+(runEnd m (bits h % (m+1))-bits h % (m+1))=_
 show _=runEnd m (bits h % (m+1))
 omega
theorem Vk{m:Nat}{p:Probe}(o:Okp m p):Okp m (ad m p):=by
 unfold ad
 by_cases c:p.more>0
 ·rw[if_pos c]
  refine⟨o.i,?_,o.d⟩
  have:=o.j
  show p.j+1+(p.more-1)=runEnd m p.i
  omega
 ·rw[if_neg c]
  refine⟨QX _ _ _,?_,o.d⟩
  have:=@G8 m (leap m p.i p.perturb).1
  show(leap m p.i p.perturb).1+(runEnd m (leap m p.i p.perturb).1-(leap m p.i p.perturb).1)=runEnd m (leap m p.i p.perturb).1
  omega
theorem PY(m:Nat)(h:Int):∀n,Okp m (it m h n)
 |0=>Vj m h
 |n+1=>Vk (PY m h n)
theorem U3(m:Nat)(h:Int)(n:Nat):pt m h n<=m:=by
 have o:=PY m h n
 have:=ME o.i
 have:=o.j
 unfold pt;omega
def R(m:Nat)(h:Int):Nat->Nat×Nat
 |0=>(bits h % (m+1),bits h)
 |r+1=>leap m (R m h r).1 (R m h r).2
def rd(m:Nat)(x:Nat×Nat)(k:Nat):Probe:={ j:=x.1+k,more:=runEnd m x.1-x.1-k,i:=x.1,perturb:=x.2,dummy:=none }
def N(m:Nat)(h:Int):Nat->Nat
 |0=>0
 |r+1=>N m h r+(runEnd m (R m h r).1-(R m h r).1)+1
theorem XA(m:Nat)(h:Int):∀r,(R m h r).1<=m
 |0=>Nat.le_of_lt_succ (Nat.mod_lt _ (Nat.succ_pos m))
 |r+1=>QX _ _ _
theorem K4{m:Nat}{h:Int}{n:Nat}{x:Nat×Nat}(e:it m h n=rd m x 0):∀k,k<=runEnd m x.1-x.1->it m h (n+k)=rd m x k
 |0,_=>e
 |k+1,hk=>by
  show ad m (it m h (n+k))=_
  rw[K4 e k (by omega)]
  unfold ad rd
  rw[if_pos (by show runEnd m x.1-x.1-k>0;omega)]
  show Probe.mk (x.1+k+1) (runEnd m x.1-x.1-k-1) x.1 x.2 none=Probe.mk (x.1+(k+1)) (runEnd m x.1-x.1-(k+1)) x.1 x.2 none
  rw[Nat.sub_sub,Nat.add_assoc]
theorem Vz(m:Nat)(h:Int):∀r,it m h (N m h r)=rd m (R m h r) 0
 |0=>rfl
 |r+1=>by
  show ad m (it m h (N m h r+(runEnd m (R m h r).1-(R m h r).1)))=_
  rw[K4 (Vz m h r) _ (Nat.le_refl _)]
  unfold ad rd
  rw[if_neg (by show ¬(runEnd m (R m h r).1-(R m h r).1-(runEnd m (R m h r).1-(R m h r).1)>0);omega)]
  rfl
theorem XF(m:Nat)(h:Int)(r:Nat):pt m h (N m h r)=(R m h r).1:=by unfold pt;rw[Vz];rfl
theorem IJ{m:Nat}{h:Int}{r k:Nat}(hk:k<=runEnd m (R m h r).1-(R m h r).1):pt m h (N m h r+k)=(R m h r).1+k:=by
 unfold pt;rw[K4 (Vz m h r) k hk];rfl
theorem XB(m:Nat)(h:Int):∀r,N m h r<=10*r
 |0=>Nat.le_refl _
 |r+1=>by
  have a:=XB m h r
  have b:=@R9 m (R m h r).1
  have c:=@G8 m (R m h r).1
  show N m h r+(runEnd m (R m h r).1-(R m h r).1)+1<=_
  omega
theorem VM(m:Nat)(h:Int):∀r,(R m h r).2=bits h / 32 ^ r
 |0=>by show bits h=_;simp
 |r+1=>by
  show(R m h r).2 / 32=_
  rw[VM m h r,Nat.div_div_eq_div_mul,Nat.pow_succ]
theorem Ug(h:Int):bits h<2 ^ 64:=by
 unfold bits
 have a:=Int.emod_nonneg h (show(2 ^ 64:Int)≠0 by decide)
 have b:=Int.emod_lt_of_pos h (show(0:Int)<2 ^ 64 by decide)
 have:(2:Int) ^ 64=18446744073709551616:=by decide
 have:(2:Nat) ^ 64=18446744073709551616:=by decide
 omega
theorem WK(m:Nat)(h:Int)(n:Nat):(R m h (13+n)).2=0:=by
 rw[VM]
 refine Nat.div_eq_of_lt (Nat.lt_of_lt_of_le (Ug h) ?_)
 rw[Nat.pow_add]
 exact Nat.le_trans (by decide) (Nat.le_mul_of_pos_right _ (Nat.pow_pos (by decide)))
theorem WO(n x:Nat):F (n+1) x=5*F n x+1:=by rw[Te n 1];rfl
theorem Tc(m:Nat)(h:Int):∀n,(R m h (12+n)).1=F n (R m h 12).1 % (m+1)
 |0=>by
  show(R m h 12).1=(R m h 12).1 % (m+1)
  rw[Nat.mod_eq_of_lt (Nat.lt_succ_of_le (XA m h 12))]
 |n+1=>by
  have z:=WK m h n
  rw[show 13+n=(12+n)+1 by omega]at z
  have z:(R m h (12+n)).2 / 32=0:=z
  show((R m h (12+n)).1*5+1+(R m h (12+n)).2 / 32) % (m+1)=_
  rw[z,Tc m h n,WO,Nat.add_zero,Nat.mul_comm 5,Nat.add_mod,Nat.mul_mod,Nat.mod_mod,<- Nat.mul_mod,<- Nat.add_mod]
theorem MG{m k:Nat}(hm:m+1=2 ^ k)(h:Int){y:Nat}(hy:y<=m):∃r,r<=12+m/\(R m h r).1=y:=by
 obtain⟨n,hn,e⟩:=hit k (R m h 12).1 y
 refine⟨12+n,by omega,?_⟩
 rw[Tc,hm,e]
 exact Nat.mod_eq_of_lt (by omega)
theorem Vc{m k:Nat}(hm:m+1=2 ^ k)(h:Int){y:Nat}(hy:y<=m):∃n,n<=10*(m+12)/\pt m h n=y:=by
 obtain⟨r,hr,e⟩:=MG hm h hy
 refine⟨N m h r,?_,(XF m h r).trans e⟩
 have:=XB m h r
 omega
end Stb
end
section
namespace Stb
open PySem SetTable
def Rising(xs:Array Nat):Prop:=xs.toList.Pairwise (·<·)
theorem Rising.lt{xs:Array Nat}(r:Rising xs){a b:Nat}(hab:a<b)(hb:b<xs.size):xs.getD a 0<xs.getD b 0:=by
 have P:=List.pairwise_iff_getElem.mp r a b (by simpa using Nat.lt_trans hab hb) (by simpa using hb) hab
 have ha:=Nat.lt_trans hab hb
 simpa[Array.getD,ha,hb] using P
theorem LS{xs:Array Nat}(r:Rising xs)(j:Nat):∀(f lo hi:Nat),lo<=hi->hi<=xs.size->hi-lo<=f->(∀a,a<lo->xs.getD a 0<j)->(∀a,hi<=a->a<xs.size->j<=xs.getD a 0) ->
  below.go xs j f lo hi<=xs.size/\(∀a,a<below.go xs j f lo hi->xs.getD a 0<j)/\(∀a,below.go xs j f lo hi<=a->a<xs.size->j<=xs.getD a 0)
 |0,lo,hi,h1,h2,h3,h4,h5=>by
  have:lo=hi:=by omega
  subst this
  exact⟨h2,h4,h5⟩
 |f+1,lo,hi,h1,h2,h3,h4,h5=>by
  unfold below.go
  by_cases c:lo<hi
  ·rw[if_pos c]
   show(if xs.getD ((lo+hi) / 2) j<j then below.go xs j f ((lo+hi) / 2+1) hi else below.go xs j f lo ((lo+hi) / 2))<=_/\(∀a,a<(if xs.getD ((lo+hi) / 2) j<j then below.go xs j f ((lo+hi) / 2+1) hi else below.go xs j f lo ((lo+hi) / 2))->_)/\(∀a,(if xs.getD ((lo+hi) / 2) j<j then below.go xs j f ((lo+hi) / 2+1) hi else below.go xs j f lo ((lo+hi) / 2))<=a->_)
   have hm:(lo+hi) / 2<xs.size:=by omega
   have e:xs.getD ((lo+hi) / 2) j=xs.getD ((lo+hi) / 2) 0:=by simp[Array.getD,hm]
   rw[e]
   by_cases d:xs.getD ((lo+hi) / 2) 0<j
   ·rw[if_pos d]
    refine LS r j f _ hi (by omega) h2 (by omega) (fun a ha=>?_) h5
    rcases Nat.lt_or_ge a ((lo+hi) / 2)with q|q
    ·exact Nat.lt_trans (r.lt q hm) d
    ·rw[show a=(lo+hi) / 2 by omega];exact d
   ·rw[if_neg d]
    refine LS r j f lo _ (by omega) (by omega) (by omega) h4 (fun a ha hs=>?_)
    rcases Nat.lt_or_ge ((lo+hi) / 2) a with q|q
    ·have:=r.lt q hs;omega
    ·rw[show a=(lo+hi) / 2 by omega];omega
  ·rw[if_neg c]
   have:lo=hi:=by omega
   subst this
   exact⟨h2,h4,h5⟩
theorem Ho{xs:Array Nat}(r:Rising xs)(j:Nat):below xs j<=xs.size/\(∀a,a<below xs j->xs.getD a 0<j)/\(∀a,below xs j<=a->a<xs.size->j<=xs.getD a 0) :=
 LS r j xs.size 0 xs.size (Nat.zero_le _) (Nat.le_refl _) (by omega) (fun a h=>absurd h (Nat.not_lt_zero a)) (fun a h h'=>absurd h (by omega))
theorem Sz{xs:Array Nat}{a:Nat}(h:a<xs.size):xs[a]?=some (xs.getD a 0):=by simp[Array.getD,h]
theorem Jf{xs:Array Nat}(r:Rising xs){j:Nat}(h:j∈xs.toList):xs[below xs j]?=some j:=by
 obtain⟨a,ha,e⟩:=List.getElem_of_mem h
 have ha':a<xs.size:=by simpa using ha
 have ea:xs.getD a 0=j:=by simpa[Array.getD,ha'] using e
 obtain⟨b1,b2,b3⟩:=Ho r j
 have h1:¬a<below xs j:=fun c=>by have:=b2 a c;omega
 have h2:¬below xs j<a:=fun c=>by
  have:=b3 _ (Nat.le_refl _) (Nat.lt_trans c ha')
  have:=r.lt c ha'
  omega
 have:below xs j=a:=by omega
 rw[this,Sz ha',ea]
theorem Lc{xs:Array Nat}{j:Nat}(h:j∉xs.toList):xs[below xs j]?≠some j:=by
 intro e
 exact h (by rw[Array.mem_toList_iff];exact Array.mem_of_getElem? e)
theorem Kc{t:SetTable}(r:Rising t.place){j:Nat}(h:j∈t.place.toList):t.slot j = .live (below t.place j):=by
 unfold SetTable.slot
 have:=Jf r h
 simp[this]
theorem R7{t:SetTable}(hd:t.dummies=#[]){j:Nat}(h:j∉t.place.toList):t.slot j = .empty:=by
 unfold SetTable.slot
 have:=Lc h
 simp[this,hd,SetTable.has]
theorem CU{α:Type}(xs:Array α)(p:Nat)(x:α):(insertAt xs p x).toList=xs.toList.take p++x::xs.toList.drop p:=by
 unfold insertAt
 simp[Array.toList_extract,List.extract]
 exact List.take_of_length_le (by simp)
theorem Fl{α:Type}(xs:Array α)(p:Nat)(x y:α):y∈(insertAt xs p x).toList↔y=x\/y∈xs.toList:=by
 rw[CU]
 have:xs.toList=xs.toList.take p++xs.toList.drop p:=(List.take_append_drop p _).symm
 constructor
 ·intro h
  rcases List.mem_append.mp h with h|h
  ·exact .inr (List.mem_of_mem_take h)
  ·rcases List.mem_cons.mp h with h|h
   ·exact .inl h
   ·exact .inr (List.mem_of_mem_drop h)
 ·rintro(h|h)
  ·subst h;exact List.mem_append_right _ List.mem_cons_self
  ·rw[this]at h
   rcases List.mem_append.mp h with h|h
   ·exact List.mem_append_left _ h
   ·exact List.mem_append_right _ (List.mem_cons_of_mem _ h)
theorem Ds{α:Type}(xs:Array α)(p:Nat)(x:α):(insertAt xs p x).size=xs.size+1:=by
 have:(insertAt xs p x).toList.length=xs.toList.length+1:=by
  rw[CU,List.length_append,List.length_cons]
  have:=congrArg List.length (List.take_append_drop p xs.toList)
  rw[List.length_append]at this
  omega
 simpa using this
theorem La{α:Type}(xs:Array α)(p:Nat)(x:α):(insertAt xs p x).toList.Perm (x::xs.toList):=by
 rw[CU]
 refine List.perm_middle.trans ?_
 rw[List.take_append_drop]
theorem LZ{xs:Array Nat}(r:Rising xs){j:Nat}(h:j∉xs.toList):Rising (insertAt xs (below xs j) j):=by
  unfold Rising
  rw[CU]
  obtain⟨b1,b2,b3⟩:=Ho r j
  have r':(xs.toList.take (below xs j)++xs.toList.drop (below xs j)).Pairwise (·<·):=by rw[List.take_append_drop];exact r
  obtain⟨p1,p2,p3⟩:=List.pairwise_append.mp r'
  have lo:∀a∈xs.toList.take (below xs j),a<j:=by
    intro a ha
    obtain⟨i,hi,e⟩:=List.getElem_of_mem ha
    rw[List.length_take]at hi
    have hi' : i < xs.size := by have : i < xs.toList.length := by omega
                                 simpa using this
    have:=b2 i (by omega)
    rw[List.getElem_take]at e
    have e':xs.getD i 0=a:=by simpa[Array.getD,hi'] using e
    omega
  have hi:∀a∈xs.toList.drop (below xs j),j<a:=by
    intro a ha
    obtain⟨i,hi,e⟩:=List.getElem_of_mem ha
    rw[List.length_drop]at hi
    rw[List.getElem_drop]at e
    have hl:xs.toList.length=xs.size:=by simp
    have hi':below xs j+i<xs.size:=by omega
    have:=b3 (below xs j+i) (by omega) hi'
    have e':xs.getD (below xs j+i) 0=a:=by simpa[Array.getD,hi'] using e
    have:a≠j:=fun z=>h (by rw[<- z];exact List.mem_of_mem_drop ha)
    omega
  refine List.pairwise_append.mpr ⟨p1,List.pairwise_cons.mpr ⟨hi,p2⟩,fun a ha b hb=>?_⟩
  rcases List.mem_cons.mp hb with rfl|hb
  · exact lo a ha
  · exact p3 a ha b hb
theorem HQ:∀{xs ys:List Nat},xs.Nodup->(∀x∈xs,x∈ys)->xs.length<=ys.length
 |[],ys,_,_=>Nat.zero_le _
 |x::xs,ys,n,s=>by
  have hx:=s x List.mem_cons_self
  obtain⟨n1,n2⟩:=List.nodup_cons.mp n
  have := HQ (ys := ys.erase x) n2 (fun y hy => by
   have:y≠x:=fun e=>n1 (e▸hy)
   exact(List.mem_erase_of_ne this).mpr (s y (List.mem_cons_of_mem _ hy)))
  rw[List.length_erase_of_mem hx]at this
  have:0<ys.length:=List.length_pos_of_mem hx
  simp only[List.length_cons]
  omega
theorem U0{m:Nat}{ps:List Nat}(h:ps.length<=m):∃y,y<=m/\y∉ps:=by
 by_cases c:∃y,y<=m/\y∉ps
 ·exact c
 ·have : (List.range (m + 1)).length <= ps.length := HQ List.nodup_range (fun x hx => by
   by_cases d:x∈ps
   ·exact d
   ·exact absurd ⟨x,Nat.le_of_lt_succ (List.mem_range.mp hx),d⟩ c)
  rw[List.length_range]at this
  omega
def Fst(m:Nat)(ps:List Nat)(h:Int)(n:Nat):Prop:=pt m h n∉ps/\∀k,k<n->pt m h k∈ps
theorem Wr{P:Nat->Prop}(h:∃n,P n):∃n,P n/\∀k,k<n->¬P k:=by
 obtain⟨n,hn⟩:=h
 induction n using Nat.strongRecOn with
 |_ n ih =>
  by_cases c:∃k,k<n/\P k
  ·obtain⟨k,h1,h2⟩:=c;exact ih k h1 h2
  ·exact⟨n,hn,fun k hk hp=>c ⟨k,hk,hp⟩⟩
theorem V0{m k:Nat}(hm:m+1=2 ^ k){ps:List Nat}(hl:ps.length<=m)(h:Int):∃n,n<=10*(m+12)/\Fst m ps h n:=by
 obtain⟨y,hy,hn⟩:=U0 hl
 obtain⟨n,h1,h2⟩:=Vc hm h hy
 obtain⟨n',h3,h4⟩:=Wr (P:=fun n=>pt m h n∉ps) ⟨n,by rw[h2];exact hn⟩
 refine⟨n',?_,h3,fun k hk=>Classical.byContradiction (h4 k hk)⟩
 rcases Nat.lt_or_ge n n' with q|q
 ·exact absurd (by rw[h2];exact hn) (h4 n q)
 ·omega
end Stb
end
section
namespace Stb
open PySem SetTable
def Way(m:Nat)(ps:List Nat)(h:Int)(j:Nat):Prop:=∃n,pt m h n=j/\∀k,k<n->pt m h k∈ps
theorem Way.mono{m:Nat}{ps qs:List Nat}{h:Int}{j:Nat}(w:Way m ps h j)(s:∀x∈ps,x∈qs):Way m qs h j:=by
 obtain⟨n,e,a⟩:=w
 exact⟨n,e,fun k hk=>s _ (a k hk)⟩
def Msk(m:Nat):Prop:=m=7\/m=31\/m=127\/m=511\/m=2047\/m=8191
theorem Msk.pow{m:Nat}(h:Msk m):∃k,m+1=2 ^ k:=by
 rcases h with h|h|h|h|h|h<;>subst h
 ·exact⟨3,by decide⟩
 ·exact⟨5,by decide⟩
 ·exact⟨7,by decide⟩
 ·exact⟨9,by decide⟩
 ·exact⟨11,by decide⟩
 ·exact⟨13,by decide⟩
theorem Msk.le{m:Nat}(h:Msk m):m<=8191:=by
 rcases h with h|h|h|h|h|h<;>subst h<;>decide
theorem Msk.odd{m:Nat}(h:Msk m):m % 2=1:=by
 rcases h with h|h|h|h|h|h<;>subst h<;>decide
structure Inv0(t:SetTable)(es:Array (Int×Value)):Prop where
 msk:Msk t.mask
 dum:t.dummies=#[]
 rise:Rising t.place
 le:∀j∈t.place.toList,j<=t.mask
 size:t.place.size=es.size
 room:t.place.size<=t.mask
 way:∀q∈t.place.toList.zip es.toList,Way t.mask t.place.toList q.2.1 q.1
structure Inv(t:SetTable)(es:Array (Int×Value)):Prop extends Inv0 t es where
 full:t.place.size*5<t.mask*3
theorem RW(fi mo:Nat)(led:Bool):Inv (SetTable.fresh fi mo led) #[] :=
 ⟨⟨.inl rfl,rfl,List.Pairwise.nil,fun j h=>(List.not_mem_nil h).elim,rfl,Nat.zero_le _,fun q h=>(List.not_mem_nil h).elim⟩,by show 0*5<7*3;decide⟩
theorem Inv0.fill{t:SetTable}{es:Array (Int×Value)}(I:Inv0 t es):t.fill=es.size:=by
 unfold SetTable.fill;rw[I.dum,I.size];rfl
theorem OF{t:SetTable}(rs:Rising t.place)(hd:t.dummies=#[])(hash:Nat->Int){h:Int}{e:Nat}(hF:Fst t.mask t.place.toList h e) :
  ∀(f n:Nat),n<=e->e-n<f ->
   (probe.go t hash h f (it t.mask h n)=some (.empty (pt t.mask h e) none)/\∀k,n<=k->k<e->hash (below t.place (pt t.mask h k))≠h) \/
   ∃k,n<=k/\k<e/\hash (below t.place (pt t.mask h k))=h/\probe.go t hash h f (it t.mask h n)=some (.candidate (pt t.mask h k) (below t.place (pt t.mask h k)) (it t.mask h (k+1)))/\∀k',n<=k'->k'<k->hash (below t.place (pt t.mask h k'))≠h
 |0,n,h1,h2=>absurd h2 (Nat.not_lt_zero _)
 |f+1,n,h1,h2=>by
  unfold probe.go
  have hdn:(it t.mask h n).dummy=none:=(PY t.mask h n).d
  rcases Nat.lt_or_ge n e with q|q
  ·have hm:=hF.2 n q
   have es:t.slot (it t.mask h n).j = .live (below t.place (pt t.mask h n)):=Kc rs hm
   rw[es]
   by_cases c:hash (below t.place (pt t.mask h n))=h
   ·refine .inr ⟨n,Nat.le_refl _,q,c,?_,fun k' a b=>absurd a (by omega)⟩
    show(if (hash (below t.place (pt t.mask h n))==h)=true then _ else _)=_
    rw[if_pos (by rw[c];exact beq_self_eq_true _)]
    rfl
   ·have e2:(if (hash (below t.place (pt t.mask h n))==h)=true then some (Met.candidate (it t.mask h n).j (below t.place (pt t.mask h n)) (t.advance (it t.mask h n))) else probe.go t hash h f (t.advance (it t.mask h n)))=probe.go t hash h f (it t.mask h (n+1)):=by
     rw[if_neg (by simpa using c)];rfl
    rcases OF rs hd hash hF f (n+1) q (by omega)with ⟨a,b⟩|⟨k,a,b,c',d,e'⟩
    ·refine .inl ⟨e2.trans a,fun k hk hk'=>?_⟩
     rcases Nat.lt_or_ge n k with z|z
     ·exact b k z hk'
     ·rw[show k=n by omega];exact c
    ·refine .inr ⟨k,by omega,b,c',e2.trans d,fun k' hk hk'=>?_⟩
     rcases Nat.lt_or_ge n k' with z|z
     ·exact e' k' z hk'
     ·rw[show k'=n by omega];exact c
  ·have:n=e:=by omega
   subst this
   have es:t.slot (it t.mask h n).j = .empty:=R7 hd hF.1
   rw[es]
   refine .inl ⟨?_,fun k a b=>absurd a (by omega)⟩
   show some (Met.empty (it t.mask h n).j (it t.mask h n).dummy)=_
   rw[hdn];rfl
theorem O8{α β:Type}(xs:Array α)(ys:Array β)(e:xs.size=ys.size)(p:Nat)(x:α)(y:β)(q:α×β)(h:q∈(insertAt xs p x).toList.zip (insertAt ys p y).toList):q=(x,y)\/q∈xs.toList.zip ys.toList:=by
 rw[CU,CU]at h
 have el:(xs.toList.take p).length=(ys.toList.take p).length:=by
  rw[List.length_take,List.length_take];simp[e]
 rw[List.zip_append el,List.zip_cons_cons]at h
 have w:xs.toList.zip ys.toList=(xs.toList.take p).zip (ys.toList.take p)++(xs.toList.drop p).zip (ys.toList.drop p):=by
  rw[<- List.zip_append el,List.take_append_drop,List.take_append_drop]
 rw[w]
 rcases List.mem_append.mp h with h|h
 ·exact .inr (List.mem_append_left _ h)
 ·rcases List.mem_cons.mp h with h|h
  ·exact .inl h
  ·exact .inr (List.mem_append_right _ h)
theorem Vb{t:SetTable}(hd:t.dummies=#[])(j:Nat):t.put j=({ t with place:=insertAt t.place (below t.place j) j },below t.place j):=by
 unfold SetTable.put
 have:has t.dummies j=false:=by rw[hd];simp[SetTable.has]
 simp[this]
theorem UL{t:SetTable}{es:Array (Int×Value)}(I:Inv t es){h:Int}{x:Value}{n:Nat}(hF:Fst t.mask t.place.toList h n) :
  Inv0 { t with place:=insertAt t.place (below t.place (pt t.mask h n)) (pt t.mask h n) } (insertAt es (below t.place (pt t.mask h n)) (h,x)):=by
 have f:=I.full
 refine⟨I.msk,I.dum,LZ I.rise hF.1,fun j hj=>?_,?_,?_,fun q hq=>?_⟩
 ·rcases(Fl _ _ _ _).mp hj with e|e
  ·rw[e];exact U3 _ _ _
  ·exact I.le j e
 ·rw[Ds,Ds,I.size]
 ·show(insertAt t.place _ _).size<=t.mask
  rw[Ds];omega
 ·have sub:∀z∈t.place.toList,z∈(insertAt t.place (below t.place (pt t.mask h n)) (pt t.mask h n)).toList:=fun z hz=>(Fl _ _ _ _).mpr (.inr hz)
  rcases O8 _ _ I.size _ _ _ q hq with e|e
  ·subst e
   exact⟨n,rfl,fun k hk=>sub _ (hF.2 k hk)⟩
  ·exact(I.way q e).mono sub
theorem UE{t:SetTable}{es:Array (Int×Value)}(I:Inv0 t es){h:Int}{e:Nat}(hF:Fst t.mask t.place.toList h e){i:Nat}{x:Value}(hi:es[i]?=some (h,x)):∃k,k<e/\below t.place (pt t.mask h k)=i:=by
 have hs:i<es.size:=(Array.getElem?_eq_some_iff.mp hi).1
 have hp:i<t.place.size:=by rw[I.size];exact hs
 have hm:(t.place[i],(h,x))∈t.place.toList.zip es.toList:=by
  refine List.mem_iff_getElem?.mpr ⟨i,?_⟩
  rw[List.getElem?_zip_eq_some]
  refine⟨by simp[hp],by rw[Array.getElem?_toList];exact hi⟩
 obtain⟨n,e1,e2⟩:=I.way _ hm
 have e1:pt t.mask h n=t.place[i]:=e1
 have hj:pt t.mask h n∈t.place.toList:=by rw[e1];simp
 have hne:n<e:=by
  rcases Nat.lt_or_ge n e with q|q
  ·exact q
  ·rcases Nat.lt_or_ge e n with q'|q'
   ·exact absurd (e2 e q') hF.1
   ·rw[show n=e by omega]at hj;exact absurd hj hF.1
 refine⟨n,hne,?_⟩
 have b:=Jf I.rise hj
 rw[e1]at b ⊢
 have b1:=(Array.getElem?_eq_some_iff.mp b)
 obtain⟨b2,b3⟩:=b1
 rcases Nat.lt_trichotomy (below t.place t.place[i]) i with q|q|q
 ·have:=I.rise.lt q hp
  simp[Array.getD,hp,b2]at this
  omega
 ·exact q
 ·have:=I.rise.lt q b2
  simp[Array.getD,hp,b2]at this
  omega
end Stb
end
section
namespace Stb
open PySem SetTable
structure Own(m:Nat)(ps:List Nat)(ow:Array (Option Nat)):Prop where
 sz:ow.size=m+1
 nd:ps.Nodup
 le:∀j∈ps,j<=m
 yes:∀(i j:Nat),ps[i]?=some j->ow[j]?=some (some i)
 no:∀(j:Nat),j<=m->j∉ps->ow[j]?=some none
theorem Own.none_iff{m:Nat}{ps:List Nat}{ow:Array (Option Nat)}(O:Own m ps ow){j:Nat}(h:j<=m):(ow.getD j (some 0)).isNone=true↔j∉ps:=by
 by_cases c:j∈ps
 ·obtain⟨i,hi⟩:=List.mem_iff_getElem?.mp c
  have:=O.yes i j hi
  rw[Array.getD_eq_getD_getElem?,this]
  simp[c]
 ·have:=O.no j h c
  rw[Array.getD_eq_getD_getElem?,this]
  simp[c]
theorem MY{m:Nat}{ps:List Nat}{ow:Array (Option Nat)}(O:Own m ps ow)(h:Int):∀(f r:Nat),(∀k,k<N m h r->pt m h k∈ps)->(∃r',r<=r'/\r'<r+f/\(R m h r').1∉ps) ->
  ∃n,layClean.free m ow f (R m h r).1 (R m h r).2=some (pt m h n)/\Fst m ps h n
 |0,r,_,⟨r',a,b,_⟩=>absurd b (by omega)
 |f+1,r,hb,⟨r',a,b,c⟩=>by
  unfold layClean.free
  have hR:=XA m h r
  have hl:=@G8 m (R m h r).1
  have hu:=ME hR
  cases e:(List.range (runEnd m (R m h r).1+1-(R m h r).1)).find? fun k=>(ow.getD ((R m h r).1+k) (some 0)).isNone with
  |some k =>
   obtain⟨e1,e2,e3⟩:=List.find?_range_eq_some.mp e
   have e2:=List.mem_range.mp e2
   have hk:k<=runEnd m (R m h r).1-(R m h r).1:=by omega
   refine⟨N m h r+k,?_,?_,fun k' hk'=>?_⟩
   ·show some ((R m h r).1+k)=_
    rw[IJ hk]
   ·rw[IJ hk];exact(O.none_iff (by omega)).mp e1
   ·rcases Nat.lt_or_ge k' (N m h r)with q|q
    ·exact hb k' q
    ·have e4:=e3 (k'-N m h r) (by omega)
     have hk2:k'-N m h r<=runEnd m (R m h r).1-(R m h r).1:=by omega
     have e5:=IJ (h:=h) (r:=r) hk2
     rw[show N m h r+(k'-N m h r)=k' by omega]at e5
     rw[e5]
     refine Classical.byContradiction fun z=>?_
     have:=(O.none_iff (j:=(R m h r).1+(k'-N m h r)) (by omega)).mpr z
     rw[this]at e4;cases e4
  |none =>
   have e3:=List.find?_eq_none.mp e
   have all:∀k,k<=runEnd m (R m h r).1-(R m h r).1->(R m h r).1+k∈ps:=fun k hk=>by
    refine Classical.byContradiction fun z=>?_
    exact e3 k (List.mem_range.mpr (by omega)) ((O.none_iff (j:=(R m h r).1+k) (by omega)).mpr z)
   have hb':∀k,k<N m h (r+1)->pt m h k∈ps:=fun k hk=>by
    rcases Nat.lt_or_ge k (N m h r)with q|q
    ·exact hb k q
    ·have hk:k<N m h r+(runEnd m (R m h r).1-(R m h r).1)+1:=hk
     have e5:=IJ (m:=m) (h:=h) (r:=r) (k:=k-N m h r) (by omega)
     rw[show N m h r+(k-N m h r)=k by omega]at e5
     rw[e5]
     exact all _ (by omega)
   have hr':r≠r':=fun z=>by subst z;exact c (by simpa using all 0 (Nat.zero_le _))
   exact MY O h f (r+1) hb' ⟨r',by omega,by omega,c⟩
theorem T0{m:Nat}{ps:List Nat}{ow:Array (Option Nat)}(O:Own m ps ow){j:Nat}(hj:j<=m)(hn:j∉ps):Own m (ps++[j]) (ow.setIfInBounds j (some ps.length)):=by
 refine⟨by simp[O.sz],?_,?_,?_,?_⟩
 ·refine List.nodup_append.mpr ⟨O.nd,by simp,fun a ha b hb=>?_⟩
  simp at hb
  rw[hb];exact fun z=>hn (z▸ha)
 ·intro x hx
  rcases List.mem_append.mp hx with hx|hx
  ·exact O.le x hx
  ·simp at hx;rw[hx];exact hj
 ·intro i x hx
  rcases Nat.lt_trichotomy i ps.length with q|q|q
  ·rw[List.getElem?_append_left q]at hx
   have:x≠j:=fun z=>hn (z▸List.mem_of_getElem? hx)
   rw[Array.getElem?_setIfInBounds_ne (fun z=>this z.symm)]
   exact O.yes i x hx
  ·subst q
   rw[List.getElem?_append_right (Nat.le_refl _)]at hx
   simp at hx
   rw[<- hx,Array.getElem?_setIfInBounds_self_of_lt (by rw[O.sz];omega)]
  ·rw[List.getElem?_append_right (by omega)]at hx
   have:[j][i-ps.length]?=none:=List.getElem?_eq_none (by simp;omega)
   rw[this]at hx;cases hx
 ·intro x hx hxn
  have h1:x∉ps:=fun z=>hxn (List.mem_append_left _ z)
  have h2:x≠j:=fun z=>hxn (List.mem_append_right _ (by simp[z]))
  rw[Array.getElem?_setIfInBounds_ne (fun z=>h2 z.symm)]
  exact O.no x hx h1
theorem T3(m:Nat):Own m [] (Array.replicate (m+1) none) :=
 ⟨by simp,List.nodup_nil,fun j h=>(List.not_mem_nil h).elim,fun i j h=>(by cases h),fun j h _=>by rw[Array.getElem?_replicate,if_pos (by omega)]⟩
abbrev KK(m:Nat)(acc:Option (Array (Option Nat)×Nat))(h:Int):Option (Array (Option Nat)×Nat):=do
  let (owner,k) <- acc
  let j <- layClean.free m owner (turns m) (bits h % (m+1)) (bits h)
  pure (owner.setIfInBounds j (some k),k+1)
theorem OY{m kk:Nat}(hm:m+1=2 ^ kk):∀(hs done:List Int) (ps:List Nat) (ow:Array (Option Nat)),Own m ps ow->ps.length=done.length->done.length+hs.length<=m ->
  (∀(i:Nat) h (j:Nat),done[i]?=some h->ps[i]?=some j->Way m ps h j) ->
  ∃ps' ow',hs.foldl (KK m) (some (ow,ps.length))=some (ow',ps'.length)/\Own m ps' ow'/\ps'.length=done.length+hs.length/\(∀(i:Nat) h (j:Nat),(done++hs)[i]?=some h->ps'[i]?=some j->Way m ps' h j)
 |[],done,ps,ow,O,hl,hb,hw=>⟨ps,ow,rfl,O,hl,by rw[List.append_nil];exact hw⟩
 |h::hs,done,ps,ow,O,hl,hb,hw=>by
  simp only[List.length_cons]at hb
  obtain⟨y,hy,hyn⟩:=U0 (m:=m) (ps:=ps) (by omega)
  obtain⟨r,hr,e⟩:=MG hm h hy
  obtain⟨n,ef,hF⟩:=MY O h (turns m) 0 (fun k hk=>absurd hk (Nat.not_lt_zero k)) ⟨r,Nat.zero_le _,by unfold turns;omega,by rw[e];exact hyn⟩
  have ef:layClean.free m ow (turns m) (bits h % (m+1)) (bits h)=some (pt m h n):=ef
  have es:KK m (some (ow,ps.length)) h=some (ow.setIfInBounds (pt m h n) (some ps.length),(ps++[pt m h n]).length):=by
   show(layClean.free m ow (turns m) (bits h % (m+1)) (bits h)).bind _=_
   rw[ef];simp
  have O':=T0 O (U3 m h n) hF.1
  obtain ⟨ps', ow', a, b, c, d⟩ := OY hm hs (done ++ [h]) (ps ++ [pt m h n]) _ O' (by simp [hl]) (by simp; omega) (fun i h' j h1 h2 => by
   have sub:∀z∈ps,z∈ps++[pt m h n]:=fun z hz=>List.mem_append_left _ hz
   rcases Nat.lt_trichotomy i done.length with q|q|q
   ·rw[List.getElem?_append_left q]at h1
    rw[List.getElem?_append_left (by omega)]at h2
    exact(hw i h' j h1 h2).mono sub
   ·subst q
    rw[List.getElem?_append_right (Nat.le_refl _)]at h1
    rw[List.getElem?_append_right (by omega),hl]at h2
    simp at h1 h2
    subst h1;subst h2
    exact⟨n,rfl,fun k hk=>sub _ (hF.2 k hk)⟩
   ·rw[List.getElem?_append_right (by omega)]at h1
    have:[h][i-done.length]?=none:=List.getElem?_eq_none (by simp;omega)
    rw[this]at h1;cases h1)
  refine⟨ps',ow',?_,b,by rw[c];simp;omega,by rw[List.append_assoc]at d;exact d⟩
  rw[List.foldl_cons,es];exact a
theorem OZ(m:Nat)(hs:Array Int):layClean m hs=(hs.toList.foldl (KK m) (some (Array.replicate (m+1) none,0))).map (·.1):=by
 unfold layClean
 rw[Array.foldl_toList]
theorem RD{α:Type}(xs:List α):(List.range xs.length).filterMap (fun i=>xs[i]?)=xs:=by
 induction xs with
 |nil=>rfl
 |cons x xs ih =>
  rw[List.length_cons,List.range_succ_eq_map,List.filterMap_cons]
  simp only[List.getElem?_cons_zero]
  rw[List.filterMap_map]
  exact congrArg (x::·) ih
theorem RS{m kk:Nat}(hm:m+1=2 ^ kk)(hk:Msk m)(fi mo:Nat)(led plain:Bool)(es:Array (Int×Value))(hl:es.size<=m) :
  ∃t' order,laid m fi mo led plain (es.map (·.1))=some (t',order)/\t'.led=led/\t'.mask=m/\t'.plain=plain/\Inv0 t' (order.filterMap (es[·]?))/\(order.filterMap (es[·]?)).toList.Perm es.toList:=by
 obtain⟨ps,ow,a,O,c,d⟩:=OY hm (es.map (·.1)).toList [] [] _ (T3 m) rfl (by simpa using hl) (fun i h j h1=>by cases h1)
 have hc:layClean m (es.map (·.1))=some ow:=by
  rw[OZ]
  have a:List.foldl (KK m) (some (Array.replicate (m+1) none,0)) (es.map (·.1)).toList=some (ow,ps.length):=a
  rw[a];rfl
 have hpl:ps.length=es.size:=by rw[c];simp
 let live:=(List.range (m+1)).filterMap fun j=>(ow.getD j none).map (j,·)
 have hlive:∀j i,(j,i)∈live↔ps[i]?=some j:=by
  intro j i
  constructor
  ·intro h
   obtain⟨j',h1,h2⟩:=List.mem_filterMap.mp h
   have h1:=List.mem_range.mp h1
   obtain⟨i',h3,h4⟩:=oM h2
   obtain⟨rfl,rfl⟩:=Prod.mk.inj h4
   by_cases q:j'∈ps
   ·obtain⟨i2,q2⟩:=List.mem_iff_getElem?.mp q
    have:=O.yes i2 j' q2
    rw[Array.getD_eq_getD_getElem?,this]at h3
    simp at h3
    rw[<- h3];exact q2
   ·have:=O.no j' (by omega) q
    rw[Array.getD_eq_getD_getElem?,this]at h3
    simp at h3
  ·intro h
   refine List.mem_filterMap.mpr ⟨j,List.mem_range.mpr (Nat.lt_succ_of_le (O.le j (List.mem_of_getElem? h))),?_⟩
   rw[Array.getD_eq_getD_getElem?,O.yes i j h];rfl
 have hr1:(live.map (·.1)).Pairwise (·<·):=by
  rw[List.pairwise_map]
  refine List.pairwise_filterMap.mpr ((List.pairwise_lt_range).imp ?_)
  intro a b hab x hx y hy
  obtain⟨_,_,rfl⟩:=oM hx
  obtain⟨_,_,rfl⟩:=oM hy
  exact hab
 have hnd:(live.map (·.2)).Nodup:=by
  show(live.map (·.2)).Pairwise (·≠·)
  rw[List.pairwise_map]
  have:live.Pairwise (fun x y=>x.1<y.1):=List.pairwise_map.mp hr1
  refine(List.Pairwise.and_mem.mp this).imp ?_
  rintro⟨x1,x2⟩ ⟨y1,y2⟩ ⟨hx,hy,hlt⟩ e
  have e:x2=y2:=e
  have hx:=(hlive _ _).mp hx
  have hy:=(hlive _ _).mp hy
  rw[e,hy]at hx
  have:y1=x1:=Option.some.inj hx
  have hlt:x1<y1:=hlt
  omega
 have hperm:(live.map (·.2)).Perm (List.range es.size):=by
  refine(List.perm_ext_iff_of_nodup hnd List.nodup_range).mpr fun i=>?_
  constructor
  ·intro h
   obtain⟨⟨j,i'⟩,h1,rfl⟩:=List.mem_map.mp h
   have:=(hlive _ _).mp h1
   rw[<- hpl]
   exact List.mem_range.mpr (List.getElem?_eq_some_iff.mp this).1
  ·intro h
   have h:=List.mem_range.mp h
   rw[<- hpl]at h
   exact List.mem_map.mpr ⟨(ps[i],i),(hlive _ _).mpr (List.getElem?_eq_getElem h),rfl⟩
 have hes:(((live.map (·.2)).toArray).filterMap (es[·]?)).toList=(live.map (·.2)).filterMap (fun i=>es.toList[i]?):=by
  simp
 have hp2:(((live.map (·.2)).toArray).filterMap (es[·]?)).toList.Perm es.toList:=by
  rw[hes]
  refine(hperm.filterMap _).trans ?_
  have:=RD es.toList
  rw[show es.toList.length=es.size by simp]at this
  rw[this]
 have hzip:∀(l:List (Nat×Nat)),(∀x∈l,x.2<es.size)->∀q∈(l.map (·.1)).zip ((l.map (·.2)).filterMap (fun i=>es.toList[i]?)),∃i,(q.1,i)∈l/\es.toList[i]?=some q.2:=by
  intro l
  induction l with
  |nil=>intro _ q hq;simp at hq
  |cons x l ih =>
   intro hx q hq
   have h1:=hx x List.mem_cons_self
   have e:es.toList[x.2]?=some es.toList[x.2]:=List.getElem?_eq_getElem (by simpa using h1)
   rw[List.map_cons,List.map_cons,List.filterMap_cons,e]at hq
   rcases List.mem_cons.mp hq with rfl|hq
   ·exact⟨x.2,List.mem_cons_self,e⟩
   ·obtain⟨i,a1,a2⟩:=ih (fun y hy=>hx y (List.mem_cons_of_mem _ hy)) q hq
    exact⟨i,List.mem_cons_of_mem _ a1,a2⟩
 have hmem:∀j,j∈live.map (·.1)↔j∈ps:=fun j=>by
  constructor
  ·intro h
   obtain⟨⟨j',i⟩,h1,rfl⟩:=List.mem_map.mp h
   exact List.mem_of_getElem? ((hlive _ _).mp h1)
  ·intro h
   obtain⟨i,hi⟩:=List.mem_iff_getElem?.mp h
   exact List.mem_map.mpr ⟨(j,i),(hlive _ _).mpr hi,rfl⟩
 have hlen:live.length=es.size:=by
  have:=hperm.length_eq
  simpa using this
 refine⟨{ mask:=m,place:=(live.map (·.1)).toArray,dummies:=#[],finger:=fi,led,moves:=mo,plain },(live.map (·.2)).toArray,?_,rfl,rfl,rfl,⟨hk,rfl,hr1,?_,?_,?_,?_⟩,hp2⟩
 ·unfold laid;rw[hc];rfl
 ·intro j hj;exact O.le j ((hmem j).mp hj)
 ·have:=hp2.length_eq
  simp only[Array.length_toList]at this
  rw[this]
  show(live.map (·.1)).toArray.size=_
  simp[hlen]
 ·show(live.map (·.1)).toArray.size<=m
  simp[hlen,hl]
 ·intro q hq
  rw[hes]at hq
  obtain ⟨i, a1, a2⟩ := hzip live (fun x hx => by
   have:=(List.getElem?_eq_some_iff.mp ((hlive x.1 x.2).mp hx)).1
   omega) q hq
  have h1:=(hlive _ _).mp a1
  have w:=d i q.2.1 q.1 (by simp at a2 ⊢;rw[a2];exact⟨_,rfl⟩) h1
  exact w.mono fun z hz=>(hmem z).mpr hz
theorem OD{t:SetTable}{es:Array (Int×Value)}(I:Inv0 t es)(hb:es.size<=4914)(hf:t.tooFull=true)(hpre:(es.size-1)*5<t.mask*3) :
  sizeAbove (grown es.size)<=8192/\∃t' order,t.relaid (es.map (·.1)) (grown es.size)=some (t',order)/\t'.led=t.led/\t'.plain=t.plain/\Inv t' (order.filterMap (es[·]?))/\(order.filterMap (es[·]?)).toList.Perm es.toList:=by
 have hfull:es.size*5≥t.mask*3:=by
  unfold SetTable.tooFull at hf
  rw[I.fill]at hf
  exact of_decide_eq_true hf
 have key:∃m',sizeAbove (grown es.size)-1=m'/\Msk m'/\es.size*5<m'*3/\sizeAbove (grown es.size)<=8192:=by
  rcases I.msk with q|q|q|q|q|q<;>rw[q]at hfull hpre
  ·rw[show es.size=5 by omega];exact⟨31,by decide,.inr (.inl rfl),by decide,by decide⟩
  ·rw[show es.size=19 by omega];exact⟨127,by decide,.inr (.inr (.inl rfl)),by decide,by decide⟩
  ·rw[show es.size=77 by omega];exact⟨511,by decide,.inr (.inr (.inr (.inl rfl))),by decide,by decide⟩
  ·rw[show es.size=307 by omega];exact⟨2047,by decide,.inr (.inr (.inr (.inr (.inl rfl)))),by decide,by decide⟩
  ·rw[show es.size=1229 by omega];exact⟨8191,by decide,.inr (.inr (.inr (.inr (.inr rfl)))),by decide,by decide⟩
  ·omega
 obtain⟨m',e,hk,hr,hs⟩:=key
 refine⟨hs,?_⟩
 obtain⟨kk,hm⟩:=hk.pow
 unfold SetTable.relaid
 rw[e]
 obtain⟨t',order,a1,a2,a3,a4,a5,a6⟩:=RS hm hk t.finger (t.movedTo m') t.led t.plain es (by omega)
 refine⟨t',order,a1,a2,a4,⟨a5,?_⟩,a6⟩
 have h1:=a5.size
 have h2:=a6.length_eq
 simp only[Array.length_toList]at h2
 rw[a3];omega
end Stb
end
section
namespace Stb
open PySem PyProof.Rows SetTable
section
variable {prog:Program} {w:World} {A:Around} {E:Value->Shared->Prop} {s:Shared}
abbrev TK(prog:Program)(w:World)(h:Heap)(ks:List Int)(b:Addr):Prop:=IsTupleKey (intKind prog w) h ks b
abbrev hsh(prog:Program)(w:World)(ks:List Int):Int:=tupleKeyHash (intKind prog w) ks
theorem items_int{ks:List Int}{vs:List Value}(h:ItemsAre (intKind prog w) ks vs):∀v∈vs,∃n t,v = .int n t:=by
 induction h with
 |nil=>intro v hv;simp at hv
 |@cons k v' ks vs h1 _ ih =>
  intro v hv
  rcases List.mem_cons.mp hv with rfl|hv
  ·cases v with
   |int n t=>exact⟨n,t,rfl⟩
   |_=>exact absurd h1 (by simp[intKind,Value.isInt])
  ·exact ih v hv
theorem OJ(d:Nat)(n:Int)(t:Tok):ofAClassStatement d (.int n t)=pure false:=by
 unfold ofAClassStatement;rfl
theorem HM{ks:List Int}{a:Addr}{Q:Bool->Shared->Prop}(hk:TK prog w s.heap ks a)(h:Q false s):wpAny (model prog w) A (ofAClassStatement 8 (.ref a)) Q E s:=by
 have hT:=hk.typeIs
 obtain⟨o,items,n,ho,hc,hd,hi⟩:=hk
 unfold ofAClassStatement
 refine wpAny_bind (wpAny_typeOf hT ?_)
 dsimp only
 have e:("tuple"=="tuple")=true:=by decide
 rw[if_pos e]
 refine wpAny_bind (wpAny_pure ?_)
 simp only[Bool.not_true,Bool.false_eq_true,if_false]
 refine wpAny_bind (wpAny_seqItems ho hd ?_)
 dsimp only
 refine wpAny_bind ?_
 rw[<- Array.forIn_toList]
 refine wpAny_forIn_list _ (fun FA r s'=>r.1=none/\s'=s/\∀v∈FA,∃n t,v=Value.int n t) _ ?_ ?_ _ _ ⟨rfl,rfl,items_int hi⟩
 ·rintro v FA r s' ⟨hr,rfl,hall⟩
  obtain⟨n,t,rfl⟩:=hall v List.mem_cons_self
  rw[OJ]
  refine wpAny_bind (wpAny_pure ?_)
  simp only[Bool.false_eq_true,if_false]
  exact wpAny_pure ⟨rfl,rfl,fun u hu'=>hall u (List.mem_cons_of_mem _ hu')⟩
 ·rintro⟨r1,r2⟩ s' ⟨hr,rfl,_⟩
  simp only at hr
  subst hr
  exact wpAny_pure h
theorem PK{ks:List Int}{a:Addr}{ys:List Value}{Q:Bool->Shared->Prop}(hk:TK prog w s.heap ks a)(hy:∀y∈ys,∃b ks',y = .ref b/\TK prog w s.heap ks' b)(h:Q false s):wpAny (model prog w) A (searchCouldBeSeen (.ref a) ys) Q E s:=by
 unfold searchCouldBeSeen
 refine wpAny_bind ?_
 refine wpAny_forIn_list _ (fun FA r s'=>r.1=none/\s'=s/\∀y∈FA,∃b ks',y = .ref b/\TK prog w s.heap ks' b) _ ?_ ?_ _ _ ⟨rfl,rfl,hy⟩
 ·rintro v FA r s' ⟨hr,rfl,hall⟩
  obtain⟨b,ks',rfl,hb⟩:=hall v List.mem_cons_self
  dsimp only
  split
  ·exact wpAny_pure ⟨rfl,rfl,fun u hu'=>hall u (List.mem_cons_of_mem _ hu')⟩
  ·refine wpAny_bind (wpAny_eqIsQuiet_tuple hk ?_)
   simp only[Bool.not_true,Bool.false_eq_true,if_false]
   refine wpAny_bind (wpAny_eqIsQuiet_tuple hb ?_)
   simp only[Bool.not_true,Bool.false_eq_true,if_false]
   refine wpAny_bind (HM hk ?_)
   simp only[Bool.false_eq_true,if_false]
   refine wpAny_bind (HM hb ?_)
   simp only[Bool.false_eq_true,if_false]
   exact wpAny_pure ⟨rfl,rfl,fun u hu'=>hall u (List.mem_cons_of_mem _ hu')⟩
 ·rintro⟨r1,r2⟩ s' ⟨hr,rfl,_⟩
  simp only at hr
  subst hr
  exact wpAny_pure h
theorem L3{ks:List Int}{a:Addr}{Q:Bool->Shared->Prop}(hk:TK prog w s.heap ks a)(h:Q true s):wpAny (model prog w) A (hashByValue 8 (.ref a)) Q E s:=by
 have hT:=hk.typeIs
 obtain⟨o,items,n,ho,hc,hd,hi⟩:=hk
 unfold hashByValue
 refine wpAny_bind (wpAny_specialOf hT F.slot_tuple_hash.lookup ?_)
 dsimp only
 refine wpAny_bind (wpAny_seqItems ho hd ?_)
 show wpAny _ _ (forIn items _ _ >>= _) _ _ s
 refine wpAny_bind ?_
 rw[<- Array.forIn_toList]
 refine wpAny_forIn_list _ (fun FA r s'=>r.1=none/\s'=s/\∀v∈FA,∃n t,v=Value.int n t) _ ?_ ?_ _ _ ⟨rfl,rfl,items_int hi⟩
 ·rintro v FA r s' ⟨hr,rfl,hall⟩
  obtain⟨n,t,rfl⟩:=hall v List.mem_cons_self
  have e:hashByValue 7 (.int n t)=pure true:=by unfold hashByValue;rfl
  rw[e]
  refine wpAny_bind (wpAny_pure ?_)
  simp only[Bool.not_true,Bool.false_eq_true,if_false]
  exact wpAny_pure ⟨rfl,rfl,fun u hu'=>hall u (List.mem_cons_of_mem _ hu')⟩
 ·rintro⟨r1,r2⟩ s' ⟨hr,rfl,_⟩
  simp only at hr
  subst hr
  exact wpAny_pure h
end
end Stb
end
section
namespace Stb
open PySem PyProof.Rows SetTable
def iv:Value->Int
 |.int n _=>n
 |_=>0
def tk(h:Heap):Value->List Int
 |.ref b=>match h.get? b with
  |some o=>match o.data with
   |.seq items _=>items.toList.map iv
   |_=>[]
  |none=>[]
 |_=>[]
section
variable {prog:Program} {w:World} {A:Around} {E:Value->Shared->Prop} {s:Shared}
theorem Sr{ks:List Int}{vs:List Value}(h:ItemsAre (intKind prog w) ks vs):vs.map iv=ks:=by
 induction h with
 |nil=>rfl
 |@cons k v' ks vs h1 h2 ih =>
  rw[List.map_cons,ih]
  obtain⟨n,t,rfl⟩:=items_int (.cons h1 h2) v' List.mem_cons_self
  have:n=k:=by simpa[intKind,Value.isInt] using h1
  rw[this.symm];rfl
theorem tk_eq{h:Heap}{ks:List Int}{b:Addr}(k:TK prog w h ks b):tk h (.ref b)=ks:=by
 obtain⟨o,items,n,ho,hc,hd,hi⟩:=k
 show (match h.get? b with
  |some o=>match o.data with
   |.seq items _=>items.toList.map iv
   |_=>[]
  |none=>[])=ks
 rw[ho]
 dsimp only
 rw[hd]
 exact Sr hi
structure TSet(prog:Program)(w:World)(B:Addr->Prop)(h:Heap)(t:SetTable)(es:Array (Int×Value))(S:List (List Int)):Prop where
 inv:Inv t es
 ent:∀e∈es.toList,∃b ks,e=(hsh prog w ks,Value.ref b)/\TK prog w h ks b/\B b
 nd:S.Nodup
 perm:(es.toList.map fun e=>tk h e.2).Perm S
theorem Inv.fits{t:SetTable}{es:Array (Int×Value)}(I:Inv0 t es):t.fits es.size=true:=by
 unfold SetTable.fits
 rw[I.fill,I.size]
 have:=I.room
 have:=I.size
 simp
 omega
theorem Inv0.even{t:SetTable}{es:Array (Int×Value)}(I:Inv0 t es):t.gaveWay=false:=by
 unfold SetTable.gaveWay
 rw[I.msk.odd];rfl
theorem KP{es:Array (Int×Value)}{i:Nat}{e:Int×Value}(h:es[i]?=some e):((es[i]?.map (·.1)).getD 0)=e.1:=by rw[h];rfl
theorem Kd(t:SetTable):t.sameMemory t.moves t.mask=some true:=by unfold SetTable.sameMemory;simp
theorem PL{B:Addr->Prop}{a b:Addr}{o:Obj}{es:Array (Int×Value)}{ep:Nat}{t:SetTable}{ks:List Int}{S:List (List Int)}{Q:SetFound->Shared->Prop}
  (ho:s.heap.get? a=some o) (hd:o.data = .set es ep t) (T:TSet prog w B s.heap t es S) (hk:TK prog w s.heap ks b) (hu:A.units<cLine) {e:Nat}
  (hF:Fst t.mask t.place.toList (hsh prog w ks) e) (he:e<=10*(t.mask+12)) (q1:ks∈S->Q (.there none) s) (q2:ks∉S->Q (.free (pt t.mask (hsh prog w ks) e) false) s) :
  ∀(f n:Nat) (stand:Option Probe),n<=e->e-n<f->stand.getD (t.probeStart (hsh prog w ks))=it t.mask (hsh prog w ks) n ->
   (∀k,k<n->∀x,es[below t.place (pt t.mask (hsh prog w ks) k)]?=some x->x.1=hsh prog w ks->tk s.heap x.2≠ks) ->
   wpAny (model prog w) A (setSearchFrom a (.ref b) (hsh prog w ks) true f stand) Q E s
 |0,n,stand,h1,h2,_,_=>absurd h2 (Nat.not_lt_zero _)
 |f+1,n,stand,h1,h2,h3,h4=>by
  have I:=T.inv.toInv0
  have hf:=Inv.fits I
  unfold setSearchFrom
  refine wpAny_bind (wpAny_setState_of ho hd hf ?_)
  dsimp only
  rw[I.even,h3]
  simp only[Bool.false_eq_true,if_false]
  have slotEnt:∀k,k<e->∃x,es[below t.place (pt t.mask (hsh prog w ks) k)]?=some x:=fun k hk=>by
   have hm:=Jf I.rise (hF.2 k hk)
   have:=(Array.getElem?_eq_some_iff.mp hm).1
   rw[I.size]at this
   exact⟨_,Array.getElem?_eq_getElem this⟩
  rcases OF I.rise I.dum (fun i=>((es[i]?.map (·.1)).getD 0)) hF (10*turns t.mask) n h1 (by unfold turns;omega)with ⟨e1,e2⟩|⟨k,k1,k2,k3,k4,k5⟩
  ·have e1:t.probe (fun i=>((es[i]?.map (·.1)).getD 0)) (hsh prog w ks) (it t.mask (hsh prog w ks) n)=_:=e1
   show wpAny _ _ (match t.probe (fun i=>((es[i]?.map (·.1)).getD 0)) (hsh prog w ks) (it t.mask (hsh prog w ks) n) with|some met=>_|_=>_) _ _ _
   rw[e1]
   refine wpAny_pure (q2 fun hS=>?_)
   have hm:=T.perm.mem_iff.mpr hS
   obtain⟨x,hx,ex⟩:=List.mem_map.mp hm
   obtain⟨b',ks',rfl,hb',_⟩:=T.ent x hx
   have ek:ks'=ks:=by rw[<- ex];exact(tk_eq hb').symm
   subst ek
   obtain⟨i,hi⟩:=List.mem_iff_getElem?.mp hx
   rw[Array.getElem?_toList]at hi
   obtain⟨k,hke,ei⟩:=UE I hF hi
   rcases Nat.lt_or_ge k n with q|q
   ·exact h4 k q _ (by rw[ei];exact hi) rfl (tk_eq hb')
   ·exact e2 k q hke (by rw[ei];exact KP hi)
  ·have k4:t.probe (fun i=>((es[i]?.map (·.1)).getD 0)) (hsh prog w ks) (it t.mask (hsh prog w ks) n)=_:=k4
   show wpAny _ _ (match t.probe (fun i=>((es[i]?.map (·.1)).getD 0)) (hsh prog w ks) (it t.mask (hsh prog w ks) n) with|some met=>_|_=>_) _ _ _
   rw[k4]
   dsimp only
   obtain⟨x,hx⟩:=slotEnt k k2
   have hxm:x∈es.toList:=by rw[Array.mem_toList_iff];exact Array.mem_of_getElem? hx
   obtain⟨b',ks',rfl,hb',_⟩:=T.ent x hxm
   have hh:hsh prog w ks'=hsh prog w ks:=by have:=KP hx;rw[<- k3];exact this.symm
   cases hl:t.led with
   |true =>
    simp only[Bool.not_true,Bool.false_eq_true,if_false]
    rw[hx]
    dsimp only
    refine wpAny_bind (wpAny_holding (wpAny_eqBool_tuple hu hb' hk ?_))
    refine wpAny_bind (wpAny_setState_of ho hd hf ?_)
    dsimp only
    by_cases c:ks'=ks
    ·subst c
     rw[decide_eq_true rfl]
     simp only[Bool.and_self,if_true]
     refine wpAny_pure (q1 ?_)
     exact T.perm.mem_iff.mp (List.mem_map.mpr ⟨_,hxm,tk_eq hb'⟩)
    ·rw[decide_eq_false c]
     simp only[Bool.and_false,Bool.false_eq_true,if_false]
     rw[Kd]
     dsimp only
     simp only[if_true]
     rw[Kc I.rise (hF.2 k k2)]
     dsimp only
     rw[hx]
     dsimp only
     refine wpAny_bind (wpAny_isSame_ref_self ?_)
     refine wpAny_bind (wpAny_pure ?_)
     simp only[if_true]
     refine PL ho hd T hk hu hF he q1 q2 f (k+1) _ k2 (by omega) rfl fun k' hk' y hy1 hy2=>?_
     rcases Nat.lt_or_ge k' n with q|q
     ·exact h4 k' q y hy1 hy2
     ·rcases Nat.lt_or_ge k' k with q'|q'
      ·exact absurd ((KP hy1).trans hy2) (k5 k' q q')
      ·have:k'=k:=by omega
       subst this
       rw[hx]at hy1
       obtain rfl:=Option.some.inj hy1
       rw[show tk s.heap (hsh prog w ks',Value.ref b').2=ks' from tk_eq hb']
       exact c
   |false =>
    simp only[Bool.not_false,if_true]
    refine wpAny_bind (PK hk ?_ ?_)
    ·intro y hy
     obtain⟨z,hz,rfl⟩:=List.mem_map.mp hy
     have hz':z∈es.toList:=by
      have:=(Array.mem_toList_iff).mp hz
      rw[Array.mem_toList_iff]
      exact(Array.mem_filter.mp this).1
     obtain⟨b2,ks2,rfl,h2,_⟩:=T.ent z hz'
     exact⟨b2,ks2,rfl,h2⟩
    ·simp only[Bool.false_eq_true,if_false]
     rw[hx]
     dsimp only
     refine wpAny_bind (wpAny_holding (wpAny_eqBool_tuple hu hb' hk ?_))
     refine wpAny_bind (wpAny_setState_of ho hd hf ?_)
     dsimp only
     by_cases c:ks'=ks
     ·subst c
      rw[decide_eq_true rfl]
      simp only[Bool.and_self,if_true]
      refine wpAny_pure (q1 ?_)
      exact T.perm.mem_iff.mp (List.mem_map.mpr ⟨_,hxm,tk_eq hb'⟩)
     ·rw[decide_eq_false c]
      simp only[Bool.and_false,Bool.false_eq_true,if_false]
      rw[Kd]
      dsimp only
      simp only[if_true]
      rw[Kc I.rise (hF.2 k k2)]
      dsimp only
      rw[hx]
      dsimp only
      refine wpAny_bind (wpAny_isSame_ref_self ?_)
      refine wpAny_bind (wpAny_pure ?_)
      simp only[if_true]
      refine PL ho hd T hk hu hF he q1 q2 f (k+1) _ k2 (by omega) rfl fun k' hk' y hy1 hy2=>?_
      rcases Nat.lt_or_ge k' n with q|q
      ·exact h4 k' q y hy1 hy2
      ·rcases Nat.lt_or_ge k' k with q'|q'
       ·exact absurd ((KP hy1).trans hy2) (k5 k' q q')
       ·have:k'=k:=by omega
        subst this
        rw[hx]at hy1
        obtain rfl:=Option.some.inj hy1
        rw[show tk s.heap (hsh prog w ks',Value.ref b').2=ks' from tk_eq hb']
        exact c
end
end Stb
end
section
namespace Stb
open PySem PyProof.Rows SetTable
section
variable {prog:Program} {w:World} {A:Around} {E:Value->Shared->Prop} {s:Shared}
def ins(S:List (List Int))(k:List Int):List (List Int):=if k∈S then S else S++[k]
theorem TSet.keep{B:Addr->Prop}{h h':Heap}{t:SetTable}{es:Array (Int×Value)}{S:List (List Int)}(T:TSet prog w B h t es S)(k:∀b ks,TK prog w h ks b->TK prog w h' ks b):TSet prog w B h' t es S:=by
 refine⟨T.inv,fun e he=>?_,T.nd,?_⟩
 ·obtain⟨b,ks,e1,e2,e3⟩:=T.ent e he
  exact⟨b,ks,e1,k b ks e2,e3⟩
 ·have:es.toList.map (fun e=>tk h' e.2)=es.toList.map (fun e=>tk h e.2):=List.map_congr_left fun e he=>by
   obtain⟨b,ks,rfl,e2,_⟩:=T.ent e he
   rw[tk_eq e2,tk_eq (k b ks e2)]
  rw[this];exact T.perm
theorem Iv:(8192:Nat)<=sizeLine:=by rw[sizeLine_eq];decide
theorem add{B:Addr->Prop}{a b:Addr}{o:Obj}{es:Array (Int×Value)}{ep:Nat}{t:SetTable}{ks:List Int}{S:List (List Int)}{Q:Bool->Shared->Prop}
  {h0:Heap} (ext:∀b ks,TK prog w h0 ks b->TK prog w s.heap ks b) (ho:s.heap.get? a=some o) (hd:o.data = .set es ep t) (T:TSet prog w B h0 t es S) (hk:TK prog w h0 ks b) (hB:B b) (hu:A.units<cLine) (hb:S.length<4914)
  (h:∀r h' es' ep' t',Heap.SameBut a s.heap h'->h'.get? a=some { o with data:=.set es' ep' t' }->TSet prog w B h0 t' es' (ins S ks)->t'.led=t.led->t'.plain=t.plain->Q r { s with heap:=h' }) :
  wpAny (model prog w) A (setAddHashed a (.ref b) (hsh prog w ks)) Q E s:=by
 have I:=T.inv.toInv0
 have hf:=Inv.fits I
 have hsz:es.size=S.length:=by have:=T.perm.length_eq;simpa using this
 unfold setAddHashed setAddHashedIn
 refine wpAny_holding (wpAny_bind (wpAny_setState_of ho hd hf ?_))
 dsimp only
 have hsc:byScan (.ref b) es=false:=by unfold byScan;simp[Value.scannable]
 rw[hsc]
 simp only[Bool.false_eq_true,if_false]
 obtain⟨kk,hm⟩:=I.msk.pow
 obtain⟨e,he,hF⟩:=V0 hm (ps:=t.place.toList) (by simpa using I.room) (hsh prog w ks)
 have hle:=I.msk.le
 refine wpAny_bind (m:=setSearch a (.ref b) (hsh prog w ks) true) (PL ho hd (T.keep ext) (ext _ _ hk) hu hF he (fun hS=>?_) (fun hS=>?_) 100000 0 none (Nat.zero_le _) (by omega) rfl (fun k hk=>absurd hk (Nat.not_lt_zero k)))
 ·dsimp only
  refine wpAny_pure ?_
  have:=h false s.heap es ep t (Heap.SameBut.refl a s.heap) (by rw[ho,<- hd]) (by unfold ins;rw[if_pos hS];exact T) rfl rfl
  exact this
 ·dsimp only
  refine wpAny_bind (wpAny_setState_of ho hd hf ?_)
  dsimp only
  rw[Vb I.dum]
  dsimp only
  have I1:=UL T.inv (x:=Value.ref b) hF
  generalize hp:below t.place (pt t.mask (hsh prog w ks) e)=p at I1 ⊢
  have hs1:(insertAt es p (hsh prog w ks,Value.ref b)).size=es.size+1:=Ds _ _ _
  have step : ∀ t1, ({ t with place := insertAt t.place p (pt t.mask (hsh prog w ks) e) } : SetTable) = t1 -> wpAny (model prog w) A (do
    storeSet a (insertAt es p (hsh prog w ks,Value.ref b)) t1
    if (!false&&t1.tooFull)=true then do
      setRelay a (grown (es.size+1))
      pure true
     else pure true) Q E s:=by
   intro t1 ht
   have I1:=ht▸I1
   have hled:t1.led=t.led:=by rw[<- ht]
   have hpl:t1.plain=t.plain:=by rw[<- ht]
   have hmk:t1.mask=t.mask:=by rw[<- ht]
   have hperm1:((insertAt es p (hsh prog w ks,Value.ref b)).toList.map fun e=>tk h0 e.2).Perm (ins S ks):=by
    refine((La es p (hsh prog w ks,Value.ref b)).map _).trans ?_
    rw[List.map_cons,show tk h0 (hsh prog w ks,Value.ref b).2=ks from tk_eq hk]
    unfold ins;rw[if_neg hS]
    exact(T.perm.cons ks).trans (List.perm_append_singleton ks S).symm
   have hent1:∀x∈(insertAt es p (hsh prog w ks,Value.ref b)).toList,∃b' ks',x=(hsh prog w ks',Value.ref b')/\TK prog w h0 ks' b'/\B b':=fun x hx=>by
    rcases(Fl _ _ _ _).mp hx with rfl|hx
    ·exact⟨b,ks,rfl,hk,hB⟩
    ·exact T.ent x hx
   have hnd1:(ins S ks).Nodup:=by
    unfold ins;rw[if_neg hS]
    exact(List.perm_append_singleton ks S).nodup_iff.mpr (List.nodup_cons.mpr ⟨hS,T.nd⟩)
   refine wpAny_bind (wpAny_storeSet_of ho hd ?_ (by rw[hs1];have:=Iv;omega))
   have hg:(s.heap.update a (Obj.putSet (insertAt es p (hsh prog w ks,Value.ref b)) t1)).get? a=some { o with data:=.set (insertAt es p (hsh prog w ks,Value.ref b)) (ep+1) t1 }:=by
    have:=Heap.get?_update_self (Obj.putSet (insertAt es p (hsh prog w ks,Value.ref b)) t1) ho (by rw[putSet_of _ t1 hd];rfl)
    rw[putSet_of _ t1 hd]at this;exact this
   have hsb:=Heap.SameBut.update s.heap a (Obj.putSet (insertAt es p (hsh prog w ks,Value.ref b)) t1)
   cases hfull:t1.tooFull with
   |false =>
    simp only[Bool.not_false,Bool.and_false,Bool.false_eq_true,if_false]
    refine wpAny_pure (h true _ _ (ep+1) t1 hsb hg ?_ hled hpl)
    have T1:TSet prog w B h0 t1 (insertAt es p (hsh prog w ks,Value.ref b)) (ins S ks):=by
     refine⟨⟨I1,?_⟩,hent1,hnd1,hperm1⟩
     have hfl:=I1.fill
     unfold SetTable.tooFull at hfull
     rw[hfl]at hfull
     have:=of_decide_eq_false hfull
     rw[I1.size];omega
    exact T1
   |true =>
    simp only[Bool.not_false,Bool.and_self,if_true]
    have hpre:((insertAt es p (hsh prog w ks,Value.ref b)).size-1)*5<t1.mask*3:=by
     rw[hs1,hmk];have:=T.inv.full;rw[I.size]at this;simpa using this
    obtain⟨r0,t2,order,r1,r2,r3,r4,r5⟩:=OD I1 (by rw[hs1];omega) hfull hpre
    unfold setRelay
    refine wpAny_bind (wpAny_bind (wpAny_setState_of hg rfl (Inv.fits I1) ?_))
    dsimp only
    rw[<- hs1]
    rw[if_neg (by have:=Iv;omega)]
    rw[r1]
    have hz2:=r5.length_eq
    simp only[Array.length_toList]at hz2
    refine wpAny_bind ?_
    show wpAny _ _ (if ((order.filterMap ((insertAt es p (hsh prog w ks,Value.ref b))[·]?)).size != (insertAt es p (hsh prog w ks,Value.ref b)).size)=true then _ else _) _ _ _
    rw[if_neg (by rw[hz2];simp)]
    refine wpAny_pure ?_
    dsimp only
    refine wpAny_storeSet_of hg rfl ?_ (by rw[hz2,hs1];have:=Iv;omega)
    refine wpAny_pure ?_
    have hg2:((s.heap.update a (Obj.putSet (insertAt es p (hsh prog w ks,Value.ref b)) t1)).update a (Obj.putSet (order.filterMap ((insertAt es p (hsh prog w ks,Value.ref b))[·]?)) t2)).get? a=some { o with data:=.set (order.filterMap ((insertAt es p (hsh prog w ks,Value.ref b))[·]?)) (ep+1+1) t2 }:=by
     have:=Heap.get?_update_self (Obj.putSet (order.filterMap ((insertAt es p (hsh prog w ks,Value.ref b))[·]?)) t2) hg (by rw[putSet_of _ t2 rfl];rfl)
     rw[putSet_of _ t2 rfl]at this;exact this
    have hsb2:=hsb.trans (Heap.SameBut.update (s.heap.update a (Obj.putSet (insertAt es p (hsh prog w ks,Value.ref b)) t1)) a (Obj.putSet (order.filterMap ((insertAt es p (hsh prog w ks,Value.ref b))[·]?)) t2))
    refine h true _ _ (ep+1+1) t2 hsb2 hg2 ?_ (r2.trans hled) (r3.trans hpl)
    have T2:TSet prog w B h0 t2 (order.filterMap ((insertAt es p (hsh prog w ks,Value.ref b))[·]?)) (ins S ks) :=
     ⟨r4,fun x hx=>hent1 x (r5.mem_iff.mp hx),hnd1,(r5.map _).trans hperm1⟩
    exact T2
  cases hpv:t.plain with
  |true =>
   simp only[if_true]
   refine wpAny_bind (L3 (ext _ _ hk) ?_)
   simp only[if_true]
   exact step _ (by rw[hpv])
  |false =>
   simp only[Bool.false_eq_true,if_false]
   refine wpAny_bind (wpAny_pure ?_)
   simp only[if_true]
   exact step _ (by rw[hpv])
end
end Stb
end
section
namespace Stb
open PySem PyProof.Rows SetTable
def dd(val:Nat->List Int):Nat->List (List Int)
 |0=>[]
 |i+1=>ins (dd val i) (val i)
theorem TD(val:Nat->List Int):∀i,(dd val i).length<=i
 |0=>Nat.le_refl _
 |i+1=>by
  have:=TD val i
  show(ins (dd val i) (val i)).length<=_
  unfold ins
  split
  ·omega
  ·rw[List.length_append];simp;omega
section
variable {prog:Program} {w:World} {A:Around} {R:Result->Shared->Prop} {I:Addr} {fp wr:List Addr} {G:Array GenState->Array GenState->Prop} {n:Nat} {P:Nat->Value->Prop} {St:Nat->Shared->Prop}
def Q0(prog:Program)(w:World)(B:Addr->Prop)(h0 h:Heap)(S:Addr)(o:Obj)(led:Bool)(X:List (List Int)):Prop:=∃es ep t,h.get? S=some { o with data:=.set es ep t }/\TSet prog w B h0 t es X/\t.led=led/\t.plain=true
theorem TK.at{h0 h:Heap}(k:∀b o,h0.get? b=some o->h.get? b=some o){ks:List Int}{b:Addr}(x:TK prog w h0 ks b):TK prog w h ks b:=by
 obtain⟨o',items,n,ho',hc,hd',hi⟩:=x
 exact⟨o',items,n,k _ _ ho',hc,hd',hi⟩
theorem Wp{B:Addr->Prop}(W:WalksS prog w A.in1 I fp wr G n P St)(S:Addr)(hSf:S∉fp)(h0:Heap)(o:Obj)(led:Bool)(hS0:h0.get? S=none)(hw0:∀b∈wr,h0.get? b=none)
  (val:Nat->List Int) (hval:∀i v,P i v->∃b,v = .ref b/\TK prog w h0 (val i) b/\B b) (hb:n<4914) (hu:A.in1.units<cLine) :
  ∀(k i:Nat) (s:Shared),n-i=k->i<=n->St i s->(∀b o,h0.get? b=some o->s.heap.get? b=some o) ->
   Q0 prog w B h0 s.heap S o led (dd val i) ->
   (∀s',Moved (S::wr) G s s'->Q0 prog w B h0 s'.heap S o led (dd val n)->R (.ok (.ret .none)) s') ->
   codeAny (model prog w) A (.builtin "set.update.loop" ⟨[.ref S,.ref I],[]⟩) R s:=by
 have hSw:S∉wr:=fun h=>hSf (W.sub _ h)
 have hsub:∀b∈wr,b∈S::wr:=fun b hb=>List.mem_cons_of_mem _ hb
 have notW:∀{b o},h0.get? b=some o->b∉wr:=fun e z=>by rw[hw0 _ z]at e;cases e
 have notS:∀{b o},h0.get? b=some o->b≠S:=fun e z=>by rw[z,hS0]at e;cases e
 intro k
 induction k with
 |zero =>
  intro i s hk hi hst h0s hS hR
  have hin:i=n:=by omega
  subst hin
  refine codeAny_builtin F.entry_set_update_loop ?_
  rw[Around.under_plainId F.plain_set_update_loop _]
  show wpAny _ A.in1 (pyNext (.ref I) >>= _) _ _ s
  refine wpAny_bind (W.done s _ _ hst fun s' hm=>?_)
  show wpAny _ A.in1 (ret Value.none) _ _ s'
  obtain⟨es,ep,t,e1,e2,e3,e4⟩:=hS
  exact wpAny_pure (hR s' (hm.mono hsub) ⟨es,ep,t,hm.heap S _ hSw e1,e2,e3,e4⟩)
 |succ k ih =>
  intro i s hk hi hst h0s hS hR
  have hlt:i<n:=by omega
  refine codeAny_builtin F.entry_set_update_loop ?_
  rw[Around.under_plainId F.plain_set_update_loop _]
  show wpAny _ A.in1 (pyNext (.ref I) >>= _) _ _ s
  refine wpAny_bind (W.item i s _ _ hlt hst fun v s' hP hst' hm=>?_)
  obtain⟨b,rfl,hkb,hBb⟩:=hval i v hP
  obtain⟨es,ep,t,e1,e2,e3,e4⟩:=hS
  have e1':=hm.heap S _ hSw e1
  have h0s':∀b o,h0.get? b=some o->s'.heap.get? b=some o:=fun b o e=>hm.heap b _ (notW e) (h0s b o e)
  show wpAny _ A.in1 (holding [Value.ref b] (setAdd S (.ref b)) >>= _) _ _ s'
  refine wpAny_bind (wpAny_holding ?_)
  unfold setAdd
  refine wpAny_holding ?_
  refine wpAny_bind (wpAny_pyHash_tuple hu (TK.at h0s' hkb) ?_)
  refine add (s:={ s' with toks:=s'.toks+((val i).length+1) }) (h0:=h0) (fun b ks z=>TK.at h0s' z) e1' rfl e2 hkb hBb hu (by have:=TD val i;omega) fun r h' es' ep' t' hsb hg T' hl hp=>?_
  have h0h:∀b o,h0.get? b=some o->h'.get? b=some o:=fun b o e=>by rw[hsb.2 b (notS e)];exact h0s' b o e
  refine wpAny_pure ⟨plainId_quiet F.plain_set_update_loop _,ih (i+1) _ (by omega) hlt (W.frame _ s' _ _ hst' (Nat.le_add_right _ _) fun b hb o e=>?_) h0h ⟨es',ep',t',hg,T',hl.trans e3,hp.trans e4⟩ fun s'' hm'' hS''=>?_⟩
  ·rw[hsb.2 b (fun h:b=S=>hSf (by rw[<- h];exact hb))];exact e
  ·refine hR s'' (Moved.trans W.gtrans ((hm.mono hsub).then_heap (Nat.le_add_right _ _) fun b o hb e=>?_) hm'') hS''
   rw[hsb.2 b (fun h:b=S=>hb (by rw[h];exact List.mem_cons_self))];exact e
end
end Stb
end
section
namespace Stb
open PySem PyProof.Rows SetTable
section
variable {prog:Program} {w:World} {A:Around} {E:Value->Shared->Prop} {s:Shared}
abbrev led0(w:World):Bool:=!(w.params.followText "set-order")
abbrev setO(led:Bool):Obj:={ cls:=.type "set",dict:=none,data:=.set #[] 0 (.fresh 0 0 led) }
theorem TL(a:Value){Q₁:Value->Shared->Prop}(h:Q₁ (.ref s.heap.objs.size) { s with heap:=s.heap.push (setO (led0 w)) }) :
  codeAny (model prog w) A (.call (.builtin "set.__new__") ⟨[.type "set",a],[]⟩) (wants Q₁ E) s:=by
 refine codeAny_of_tree ?_
 show wpAny _ A.in1 (do checkBuiltinCall "set.__new__" ⟨[.type "set",a],[]⟩;again (.builtin "set.__new__" ⟨[.type "set",a],[]⟩)) _ _ s
 refine wpAny_bind (wpAny_of_eq (F.newCall_set_1 a) (wpAny_pure ⟨plainId_quiet F.plain_set_new _,codeAny_builtin F.entry_set_new ?_⟩))
 rw[Around.under_plainId F.plain_set_new _]
 unfold Builtin.«set.__new__» Builtin.Frozenset.newClass
 have hsub:=sub_set_self
 obtain⟨hp,g,d,tk,os⟩:=s
 dsimp only
 wp_walk
 refine wpAny_askSetting (wpAny_pure ?_)
 dsimp only
 simp only[newObj]
 refine wpAny_bind (wpAny_alloc (wpAny_pure ?_))
 exact wpAny_pure h
set_option maxHeartbeats 3200000 in
theorem call_set{B:Addr->Prop}{l:Addr}{items:Array Value}{val:Nat->List Int}{Q:Value->Shared->Prop}
  (hh:A.handled=none) (hu:A.units+8<cLine) (hl:s.heap.IsList l items) (hv:∀i v,items[i]?=some v->∃b,v = .ref b/\TK prog w s.heap (val i) b/\B b) (hb:items.size<4914)
  (h : ∀ (h' : Heap) (tk : Nat) (o : Obj), o.cls = .type "set" -> Q0 prog w B s.heap h' s.heap.objs.size o (led0 w) (dd val items.size) ->
   (∀b o,s.heap.get? b=some o->h'.get? b=some o)->Q (.ref s.heap.objs.size) { s with heap:=h',toks:=tk }) :
  wpAny (model prog w) A (call (.type "set") [.ref l]) Q E s:=by
 obtain⟨c,tl,hmro⟩:=F.called_set.mro
 have hmade:=F.called_set.made
 have hsub:=F.called_set.sub
 refine wpAny_call (codeAny_of_tree ?_)
 show wpAny _ _ (callAny (.type "set") _) _ _ _
 refine wpAny_pure ⟨Code.quiet_builtin _ (by decide +kernel),codeAny_builtin F.entry_type_call ?_⟩
 rw[Around.under_plain (weight_type_call_type "set" [.ref l] []) rfl]
 have h1:=F.called_set.notType
 have h2:=F.called_set.canCreate
 have hct:=F.typeCall_set_1 (.ref l)
 repeat (any_goals (first|assumption|wp_step))
 refine codeAny_mono (TL (.ref l) (E:=E) (Q₁:=fun obj s₁=>obj = .ref s.heap.objs.size/\s₁={ s with heap:=s.heap.push (setO (led0 w)) }) ⟨rfl,rfl⟩) fun r s₁ hr=>?_
 cases r with
 |error e=>exact hr
 |ok fl =>
  cases fl with
  |ret obj =>
   obtain⟨rfl,rfl⟩:=hr
   have hS:(s.heap.push (setO (led0 w))).get? s.heap.objs.size=some (setO (led0 w)):=Heap.get?_push_size _ rfl
   have hT:Shared.TypeIs { s with heap:=s.heap.push (setO (led0 w)) } (.ref s.heap.objs.size) "set":=⟨_,hS,rfl⟩
   have hli:=F.called_set.init.lookup
   have hbi:=F.called_set.init.bind (.ref s.heap.objs.size)
   repeat (any_goals (first|assumption|wp_step))
   refine codeAny_mono (codeAny_call_builtin (R := wants (fun r s₂ => r = .none /\ ∃ h' tk, s₂ = { s with heap := h', toks := tk } /\
     Q0 prog w B s.heap h' s.heap.objs.size (setO (led0 w)) (led0 w) (dd val items.size) /\
     (∀b o,s.heap.get? b=some o->h'.get? b=some o)) E) F.called_set.init.plain F.entry_set_init (check_set_init_1 hT ?_)) fun r₂ s₂ hr₂=>?_
   ·obtain⟨ol,hol,hcl,nl,hdl⟩:=hl
    obtain⟨ocls,odict,odata,oslots⟩:=ol
    simp only at hcl hdl
    subst hcl;subst hdl
    have hol':(s.heap.push (setO (led0 w))).get? l=some { cls:=.type "list",dict:=odict,data:=.seq items nl,slots:=oslots }:=Heap.get?_push_of_some _ hol
    have hsls:=F.sub_list_set
    have hslf:=F.sub_list_frozenset
    have hne:(Value.type "list"==Value.type "dict")=false:=by decide
    have hl1:(s.heap.push (setO (led0 w))).IsList l items:=⟨_,hol',rfl,nl,rfl⟩
    unfold Builtin.«set.__init__» noKeywords Builtin.Frozenset.updateFrom
    generalize hPI:pyIter=PI
    wp_walk
    subst hPI
    refine wpAny_pyIter_list hl1 ?_
    refine wpAny_bind (wpAny_runValue ?_)
    have hlS:l<s.heap.objs.size:=Heap.lt_size hol
    have hh3:A.in1.in1.in1.handled=none:=by simp[hh]
    have hneI:l≠(s.heap.push (setO (led0 w))).objs.size:=by
     rw[Heap.size_push];exact Nat.ne_of_lt (Nat.lt_succ_of_lt hlS)
    have hSf:s.heap.objs.size∉[(s.heap.push (setO (led0 w))).objs.size,l]:=by
     rw[Heap.size_push];simp only[List.mem_cons,List.mem_singleton,List.not_mem_nil,or_false,not_or]
     exact⟨Nat.ne_of_lt (Nat.lt_succ_self _),Nat.ne_of_gt hlS⟩
    have hnone:∀{a:Addr},s.heap.objs.size<=a->s.heap.get? a=none:=fun {a} ha=>by
     cases q:s.heap.get? a with
     |none=>rfl
     |some o'=>exact absurd (Heap.lt_size q) (Nat.not_lt.mpr ha)
    have W:=(Walks.list hh3 _ l hneI items).toS (prog:=prog) (w:=w)
    refine Wp W s.heap.objs.size hSf s.heap (setO (led0 w)) (led0 w) (hnone (Nat.le_refl _)) ?hw val hv hb ?hu (items.size-0) 0 _ (by omega) (Nat.zero_le _)
     ⟨⟨_,Heap.get?_push_size _ rfl,rfl,rfl⟩,(hl1.push _)⟩ ?hk ?hS0 ?hR
    case hw =>
     intro b hb
     rw[List.mem_singleton.mp hb,Heap.size_push]
     exact hnone (Nat.le_succ _)
    case hu=>simp only[Around.in1_units];omega
    case hk=>exact fun b o e=>Heap.get?_push_of_some _ (Heap.get?_push_of_some _ e)
    case hS0 =>
     refine⟨#[],0,.fresh 0 0 (led0 w),Heap.get?_push_of_some _ hS,⟨RW 0 0 (led0 w),fun e he=>(List.not_mem_nil he).elim,List.nodup_nil,List.Perm.nil⟩,rfl,rfl⟩
    case hR =>
     intro s' hm hS'
     obtain⟨h',g',d',tk',os'⟩:=s'
     have eg:g'=s.gens:=hm.gens
     have ed:d'=s.drawn:=hm.drawn
     have eo:os'=s.os:=hm.os
     subst eg;subst ed;subst eo
     show wpAny _ _ _ _ _ _
     refine wpAny_pure ?_
     show wpAny _ _ (ret Value.none) _ _ _
     refine wpAny_pure ⟨rfl,h',tk',rfl,hS',fun b o e=>?_⟩
     refine hm.heap b o ?_ (Heap.get?_push_of_some _ (Heap.get?_push_of_some _ e))
     have hb:=Heap.lt_size e
     simp only[List.mem_cons,List.mem_singleton,List.not_mem_nil,or_false,not_or,Heap.size_push]
     exact⟨Nat.ne_of_lt hb,Nat.ne_of_lt (Nat.lt_succ_of_lt hb)⟩
   ·cases r₂ with
    |error e=>exact hr₂
    |ok fl₂ =>
     cases fl₂ with
     |ret r =>
      obtain⟨rfl,h',tk,rfl,hS',hk'⟩:=hr₂
      repeat (any_goals (first|assumption|wp_step))
      exact h _ _ _ rfl hS' hk'
     |_=>exact hr₂.elim
  |_=>exact hr.elim
end
end Stb
end
section
namespace Stb
open PySem PyProof.Rows SetTable
theorem Kn:Manifest.owners.lookup (String.ofList ['r','o','t','a','r','e','t','i','_','t','e','s'].reverse)=some Manifest.sig_set_iterator:=by kernel_rfl
theorem slot_seti_next:Slot "set_iterator" "__next__" "set_iterator.__next__" :=
 .of (owner:="set_iterator") (n:="__next__") (by rw[typeLookup_type,builtinLookup_eq_fast];kernel_rfl) (by decide +kernel) (by decide +kernel) (by decide +kernel)
  (by first|exact .inl (by decide +kernel)|exact .inr (by decide +kernel)) (by rw[isSubtype_type];kernel_rfl)
theorem Fv:entryFor table "set_iterator.__next__"=some Builtin.«set_iterator.__next__»:=entryFor_of_tree (by kernel_rfl)
theorem Gr(a:Value):argsOk "set_iterator.__next__" ⟨[a],[]⟩:=by
 unfold argsOk;rw[signature?_of (id:="set_iterator.__next__") (n:=['_','_','t','x','e','n','_','_']) (o:=['r','o','t','a','r','e','t','i','_','t','e','s']) (by kernel_rfl) Kn];kernel_rfl
theorem GJ:Slot "set_iterator" "__iter__" "set_iterator.__iter__" :=
 .of (owner:="set_iterator") (n:="__iter__") (by rw[typeLookup_type,builtinLookup_eq_fast];kernel_rfl) (by decide +kernel) (by decide +kernel) (by decide +kernel)
  (by first|exact .inl (by decide +kernel)|exact .inr (by decide +kernel)) (by rw[isSubtype_type];kernel_rfl)
theorem KA:entryFor table "set_iterator.__iter__"=some Builtin.«dict_keyiterator.__iter__»:=entryFor_alias (id':="dict_keyiterator.__iter__") (by kernel_rfl) rfl (by decide +kernel) (by kernel_rfl)
theorem LT(a:Value):argsOk "set_iterator.__iter__" ⟨[a],[]⟩:=by
 unfold argsOk;rw[signature?_of (id:="set_iterator.__iter__") (n:=['_','_','r','e','t','i','_','_']) (o:=['r','o','t','a','r','e','t','i','_','t','e','s']) (by kernel_rfl) Kn];kernel_rfl
theorem K8:entryFor table "set.__iter__"=some Builtin.«frozenset.__iter__»:=entryFor_alias (id':="frozenset.__iter__") (by kernel_rfl) rfl (by decide +kernel) (by kernel_rfl)
section
variable {prog:Program} {w:World} {A:Around} {E:Value->Shared->Prop} {s:Shared}
abbrev byT(w:World):Bool:=w.params.followText "set-order"
theorem Io{M:Model}{Q:Bool->Shared->Prop}(h:Q (M.w.params.followText "set-order") s):wpAny M A setsByText Q E s:=by
 unfold setsByText
 exact wpAny_bind (wpAny_askSetting (wpAny_pure h))
abbrev itO(sl k n ep:Nat)(S:Addr):Obj:={ cls:=.type "set_iterator",data:=.fields #[.int (sl:Int) 0,.int (k:Int) 0,.ref S,.int (n:Int) 0,.int (ep:Int) 0] }
theorem Sq{S:Addr}{o:Obj}{es:Array (Int×Value)}{ep:Nat}{t:SetTable}{Q:Value->Shared->Prop}(hc:o.cls = .type "set")(hS:s.heap.get? S=some { o with data:=.set es ep t })(I:Inv0 t es)(hp:t.plain=true)
  (h:Q (.ref s.heap.objs.size) { s with heap:=s.heap.push (itO 0 0 es.size ep S) }):wpAny (model prog w) A (pyIter (.ref S)) Q E s:=by
 have hT:s.TypeIs (.ref S) "set":=⟨_,hS,hc⟩
 have hf:=Inv.fits I
 refine wpAny_pyIter_slot hT F.slot_set_iter (wpAny_call_entry F.slot_set_iter hT K8 ?_ (F.args_set_iter_1 _))
 unfold Builtin.«frozenset.__iter__»
 refine wpAny_bind (m:=Builtin.Frozenset.slot0 "__iter__" ⟨[.ref S],[]⟩) (wpAny_pure ?_)
 unfold Builtin.Frozenset.sizeOf setEntries
 refine wpAny_bind (wpAny_bind (wpAny_bind (wpAny_setState_of hS rfl hf (wpAny_pure (wpAny_pure ?_)))))
 unfold setDrawn
 refine wpAny_bind (wpAny_bind (wpAny_setState_of hS rfl hf ?_))
 refine wpAny_bind (Io (wpAny_pure ?_))
 have hdr:(!(model prog w).w.params.followText "set-order"&&(!t.plain&&decide (es.size>1)))=false:=by rw[hp];simp
 show wpAny _ _ (if (!(model prog w).w.params.followText "set-order"&&(!t.plain&&decide (es.size>1)))=true then _ else _) _ _ _
 rw[hdr]
 simp only[Bool.false_eq_true,if_false]
 refine wpAny_bind (wpAny_pure ?_)
 unfold setEpoch
 refine wpAny_bind (wpAny_bind (wpAny_setState_of hS rfl hf (wpAny_pure ?_)))
 refine wpAny_bind (wpAny_newObj_type (wpAny_pure ⟨_,rfl,"set_iterator",_,⟨_,Heap.get?_push_size _ rfl,rfl⟩,slot_seti_next.lookup,?_⟩))
 exact h
end
end Stb
end
section
namespace Stb
open PySem PyProof.Rows SetTable
theorem Pr{α:Type}{xs:List α}{i:Nat}(h:i<xs.length):(xs[i]::xs.eraseIdx i).Perm xs:=by
 rw[List.eraseIdx_eq_take_drop_succ]
 refine List.perm_middle.symm.trans ?_
 rw[<- List.drop_eq_getElem_cons h,List.take_append_drop]
theorem QH{α:Type}(next:Nat->Nat):∀(f k:Nat) (left:List α) (out:Array α),left.length=f->∃l',(pickOrder.go next f k left out).toList=out.toList++l'/\l'.Perm left
 |0,k,left,out,h=>⟨[],by simp[pickOrder.go],by rw[List.eq_nil_of_length_eq_zero h]⟩
 |f+1,k,left,out,h=>by
  unfold pickOrder.go
  have hlt:next k % left.length<left.length:=Nat.mod_lt _ (by omega)
  rw[List.getElem?_eq_getElem hlt]
  dsimp only
  obtain⟨l',e1,e2⟩:=QH next f (k+1) (left.eraseIdx (next k % left.length)) (out.push left[next k % left.length]) (by rw[List.length_eraseIdx,if_pos hlt];omega)
  refine⟨left[next k % left.length]::l',by rw[e1];simp,?_⟩
  exact(e2.cons _).trans (Pr hlt)
theorem RH{α:Type}(next:Nat->Nat)(xs:Array α):(pickOrder next xs).toList.Perm xs.toList:=by
 obtain⟨l',e1,e2⟩:=QH next xs.size 0 xs.toList #[] (by simp)
 unfold pickOrder
 rw[e1];simpa using e2
section
variable {prog:Program} {w:World} {A:Around} {E:Value->Shared->Prop} {s:Shared}
def eord(w:World)(S:Addr)(ep:Nat)(es:Array (Int×Value)):Array (Int×Value):=if byT w=true then pickOrder (w.params.setOrder S ep) es else es
def slt(w:World)(t:SetTable)(k:Nat):Nat:=if byT w=true then 0 else if k=0 then 0 else t.place.getD (k-1) 0+1
theorem eord_perm(S:Addr)(ep:Nat)(es:Array (Int×Value)):(eord w S ep es).toList.Perm es.toList:=by
 unfold eord;split
 ·exact RH _ _
 ·exact List.Perm.refl _
theorem JT(S:Addr)(ep:Nat)(es:Array (Int×Value)):(eord w S ep es).size=es.size:=by
 have:=(eord_perm (w:=w) S ep es).length_eq
 simpa using this
theorem Rw{t:SetTable}(r:Rising t.place)(hb:byT w=false){k:Nat}(hk:k<=t.place.size):below t.place (slt w t k)=k:=by
 obtain⟨b1,b2,b3⟩:=Ho r (slt w t k)
 have e:slt w t k=if k=0 then 0 else t.place.getD (k-1) 0+1:=by unfold slt;rw[hb];simp
 generalize below t.place (slt w t k)=b at *
 rw[e]at b2 b3
 by_cases h0:k=0
 ·subst h0
  rcases Nat.eq_zero_or_pos b with q|q
  ·exact q
  ·have:=b2 0 q;simp at this
 ·rw[if_neg h0]at b2 b3
  have g1:¬b<=k-1:=fun z=>by have:=b3 (k-1) z (by omega);omega
  have g2:¬k<b:=fun z=>by
   have:=b2 k z
   have:=r.lt (a:=k-1) (b:=k) (by omega) (by omega)
   omega
  omega
theorem N8{S:Addr}{o:Obj}{es:Array (Int×Value)}{ep:Nat}{t:SetTable}{Q:Option (Value×Nat)->Shared->Prop}(hS:s.heap.get? S=some { o with data:=.set es ep t })(I:Inv0 t es)(hp:t.plain=true)(hl:t.led=led0 w)
  {k:Nat} (hk:k<=es.size) (h:Q ((eord w S ep es)[k]?.map fun e=>(e.2,slt w t (k+1))) s):wpAny (model prog w) A (setNext S (slt w t k) k ep) Q E s:=by
 have hf:=Inv.fits I
 unfold setNext
 refine wpAny_bind (wpAny_setState_of hS rfl hf ?_)
 dsimp only
 refine wpAny_bind (Io ?_)
 show wpAny _ _ (if byT w=true then _ else _) _ _ _
 cases hb:byT w with
 |true =>
  simp only[if_true,bne_self_eq_false,Bool.false_eq_true,if_false]
  unfold setWalk
  refine wpAny_bind (wpAny_bind (wpAny_setState_of hS rfl hf ?_))
  dsimp only
  refine wpAny_bind (Io ?_)
  show wpAny _ _ (if byT w=true then _ else _) _ _ _
  rw[hb]
  simp only[if_true]
  refine wpAny_bind (wpAny_askSetting (wpAny_pure (wpAny_pure ?_)))
  have e1:slt w t k=0:=by unfold slt;rw[hb];rfl
  have e2:slt w t (k+1)=0:=by unfold slt;rw[hb];rfl
  have e3:eord w S ep es=pickOrder (w.params.setOrder S ep) es:=by unfold eord;rw[hb];rfl
  rw[e2,e3]at h
  rw[e1]
  exact h
 |false =>
  simp only[Bool.false_eq_true,if_false]
  have hdr:(!t.plain&&decide (es.size>1))=false:=by rw[hp];rfl
  show wpAny _ _ (if (!t.plain&&decide (es.size>1))=true then _ else _) _ _ _
  rw[hdr]
  simp only[Bool.false_eq_true,if_false]
  have hled:(!t.led&&!es.isEmpty)=false:=by rw[hl];simp only[led0];rw[show w.params.followText "set-order"=false from hb];rfl
  refine wpAny_bind (m:=if (!t.led&&!es.isEmpty)=true then unsupported "set:maker-not-led" else pure ()) ?_
  rw[hled]
  simp only[Bool.false_eq_true,if_false]
  refine wpAny_pure ?_
  rw[Rw I.rise hb (by rw[I.size];exact hk)]
  have e3:eord w S ep es=es:=by unfold eord;rw[hb];rfl
  rw[e3]at h
  rcases Nat.lt_or_ge k es.size with q|q
  ·have q':k<t.place.size:=by rw[I.size];exact q
   rw[Array.getElem?_eq_getElem q]at h ⊢
   rw[Array.getElem?_eq_getElem q']
   have e2:slt w t (k+1)=t.place[k]+1:=by unfold slt;rw[hb];simp[Array.getD,q']
   rw[e2]at h
   exact wpAny_pure h
  ·have q':t.place.size<=k:=by rw[I.size];exact q
   rw[Array.getElem?_eq_none q]at h ⊢
   exact wpAny_pure h
end
end Stb
end
section
namespace Stb
open PySem PyProof.Rows SetTable
section
variable {prog:Program} {w:World} {A:Around} {E:Value->Shared->Prop} {s:Shared}
def Uq(w:World)(h:Heap)(J S:Addr)(o:Obj)(es:Array (Int×Value))(ep:Nat)(t:SetTable)(k:Nat):Prop :=
 (∃oj,h.get? J=some oj/\oj.cls = .type "set_iterator"/\oj.data = .fields #[.int (slt w t k:Int) 0,.int (k:Int) 0,.ref S,.int (es.size:Int) 0,.int (ep:Int) 0])/\h.get? S=some { o with data:=.set es ep t }
theorem RL{J S:Addr}{o:Obj}{es:Array (Int×Value)}{ep:Nat}{t:SetTable}{k:Nat}{Q:Option Value->Shared->Prop}(hne:S≠J)(st:Uq w s.heap J S o es ep t k)(I:Inv0 t es)(hp:t.plain=true)(hl:t.led=led0 w)
  (hk:k<es.size) (h:∀e h',(eord w S ep es)[k]?=some e->Uq w h' J S o es ep t (k+1)->Heap.SameBut J s.heap h'->Q (some e.2) { s with heap:=h' }):wpAny (model prog w) A (pyNext (.ref J)) Q E s:=by
 obtain⟨⟨oj,hoj,hc,hd⟩,hS⟩:=st
 have hT:s.TypeIs (.ref J) "set_iterator":=⟨_,hoj,hc⟩
 have hf:=Inv.fits I
 unfold pyNext
 refine wpAny_bind (wpAny_attempt (wpAny_callSpecial?_slot (name := Str.ofString "__next__") hT slot_seti_next
  (wpAny_call_entry slot_seti_next hT Fv ?_ (Gr _))))
 unfold Builtin.«set_iterator.__next__»
 refine wpAny_bind (m:=slotArgs "__next__" 0 ⟨[.ref J],[]⟩) (wpAny_pure ?_)
 dsimp only
 refine wpAny_bind (wpAny_fieldsOf hoj hd ?_)
 dsimp only
 unfold setEntries
 refine wpAny_bind (wpAny_bind (wpAny_setState_of hS rfl hf (wpAny_pure ?_)))
 simp only[bne_self_eq_false,Bool.false_eq_true,if_false,Int.toNat_natCast]
 obtain⟨e,he⟩:∃e,(eord w S ep es)[k]?=some e:=⟨_,Array.getElem?_eq_getElem (by rw[JT];exact hk)⟩
 refine wpAny_bind (N8 hS I hp hl (Nat.le_of_lt hk) ?_)
 rw[he]
 dsimp only[Option.map]
 refine wpAny_bind (wpAny_setField hoj hd (by simp) ?_)
 have ho1:=Heap.get?_update_self (Obj.mapFields (·.setIfInBounds 0 (rawInt (slt w t (k+1):Int)))) hoj (Obj.isFreed_of_fields (Obj.data_mapFields hd _))
 have hd1:=Obj.data_mapFields hd (·.setIfInBounds 0 (rawInt (slt w t (k+1):Int)))
 refine wpAny_bind (wpAny_setField ho1 hd1 (by simp) ?_)
 have ho2:=Heap.get?_update_self (Obj.mapFields (·.setIfInBounds 1 (rawInt ((k:Int)+1)))) ho1 (Obj.isFreed_of_fields (Obj.data_mapFields hd1 _))
 have hd2:=Obj.data_mapFields hd1 (·.setIfInBounds 1 (rawInt ((k:Int)+1)))
 have hs1:=Heap.SameBut.update s.heap J (Obj.mapFields (·.setIfInBounds 0 (rawInt (slt w t (k+1):Int))))
 have hs2:=hs1.trans (Heap.SameBut.update (s.heap.update J (Obj.mapFields (·.setIfInBounds 0 (rawInt (slt w t (k+1):Int))))) J (Obj.mapFields (·.setIfInBounds 1 (rawInt ((k:Int)+1)))))
 refine wpAny_pure ⟨_,rfl,wpAny_pure (h e _ he ⟨⟨_,ho2,?_,?_⟩,?_⟩ hs2)⟩
 ·rw[Obj.cls_mapFields,Obj.cls_mapFields];exact hc
 ·rw[hd2];simp[rawInt]
 ·rw[hs2.2 S hne];exact hS
theorem Sb{J S:Addr}{o:Obj}{es:Array (Int×Value)}{ep:Nat}{t:SetTable}{Q:Option Value->Shared->Prop}(hh:A.handled=none)(st:Uq w s.heap J S o es ep t es.size)(I:Inv0 t es)(hp:t.plain=true)(hl:t.led=led0 w)
  (h:∀h',Heap.ExtBut J s.heap h'->Q none { s with heap:=h' }):wpAny (model prog w) A (pyNext (.ref J)) Q E s:=by
 obtain⟨⟨oj,hoj,hc,hd⟩,hS⟩:=st
 have hT:s.TypeIs (.ref J) "set_iterator":=⟨_,hoj,hc⟩
 have hf:=Inv.fits I
 unfold pyNext
 refine wpAny_bind (wpAny_attempt (wpAny_callSpecial?_slot (name := Str.ofString "__next__") hT slot_seti_next
  (wpAny_call_entry slot_seti_next hT Fv ?_ (Gr _))))
 unfold Builtin.«set_iterator.__next__»
 refine wpAny_bind (m:=slotArgs "__next__" 0 ⟨[.ref J],[]⟩) (wpAny_pure ?_)
 dsimp only
 refine wpAny_bind (wpAny_fieldsOf hoj hd ?_)
 dsimp only
 unfold setEntries
 refine wpAny_bind (wpAny_bind (wpAny_setState_of hS rfl hf (wpAny_pure ?_)))
 simp only[bne_self_eq_false,Bool.false_eq_true,if_false,Int.toNat_natCast]
 refine wpAny_bind (N8 hS I hp hl (Nat.le_refl _) ?_)
 rw[Array.getElem?_eq_none (by rw[JT];exact Nat.le_refl _)]
 dsimp only[Option.map]
 refine wpAny_bind (wpAny_setField hoj hd (by simp) ?_)
 refine wpAny_bind (m:=newExc (.type "StopIteration") []) ?_
 simp only[newExc,newTuple]
 refine wpAny_bind (wpAny_newObj_type ?_ (by size_fits))
 refine wpAny_bind (m:=firstArgMember _ _) (wpAny_of_eq (a:=Value.none) (by first|rfl|(simp only[firstArgMember];rfl)) ?_)
 refine wpAny_newObj_type ?_ (by size_fits)
 simp only[raiseNew]
 refine wpAny_bind (wpAny_handled ?_)
 rw[show A.in1.handled=none from hh]
 refine wpAny_bind (wpAny_pure (wpAny_throw ?_))
 refine wpAny_bind (wpAny_isInstance (T:="StopIteration") (b:=true) ⟨_,Heap.get?_push_size _ rfl,rfl⟩ isSubtype_stop ?_)
 exact wpAny_pure (h _ (((Heap.SameBut.update ..).extBut.push _).push _))
theorem Q1(hh:A.handled=none)(J S:Addr)(hne:S≠J)(o:Obj)(es:Array (Int×Value))(ep:Nat)(t:SetTable)(I:Inv0 t es)(hp:t.plain=true)(hl:t.led=led0 w) :
  Walks prog w A J [J,S] [J] es.size (fun i v=>∃e,(eord w S ep es)[i]?=some e/\v=e.2) (fun i h=>Uq w h J S o es ep t i) where
 sub:=fun b hb=>by simp at hb;simp[hb]
 frame:=fun i h h' st hk=>by
  obtain⟨⟨oj,hoj,hc,hd⟩,hS⟩:=st
  exact⟨⟨oj,hk J (by simp) _ hoj,hc,hd⟩,hk S (by simp) _ hS⟩
 item:=fun i s Q E hi st hQ=>RL hne st I hp hl hi fun e h' he st' hs'=>hQ _ h' s.toks ⟨e,he,rfl⟩ st' fun b ob hb eb=>hs'.extBut b ob (fun z=>hb (by simp[z])) eb
 done:=fun s Q E st hQ=>Sb hh st I hp hl fun h' he'=>hQ h' s.toks fun b ob hb eb=>he' b ob (fun z=>hb (by simp[z])) eb
 self:=fun i s Q E st hQ=>by
  obtain⟨⟨oj,hoj,hc,hd⟩,hS⟩:=st
  have hT:s.TypeIs (.ref J) "set_iterator":=⟨_,hoj,hc⟩
  refine wpAny_pyIter_slot hT GJ (wpAny_call_entry GJ hT KA ?_ (LT _))
  show wpAny _ _ (ret (.ref J)) _ _ s
  exact wpAny_pure ⟨_,rfl,"set_iterator",_,hT,slot_seti_next.lookup,hQ⟩
end
end Stb
end
section
namespace Stb
open PySem PyProof.Rows SetTable
theorem NF:typeLookup (.type "set") "__len__"=pure (some (.builtin "set.__len__")):=by rw[typeLookup_type,builtinLookup_eq_fast];kernel_rfl
section
variable {prog:Program} {w:World} {A:Around} {E:Value->Shared->Prop} {s:Shared}
abbrev lo0:Obj:={ cls:=.type "list",data:=.seq ([]:List Value).toArray }
set_option maxHeartbeats 2000000 in
theorem collect_set{S:Addr}{o:Obj}{es:Array (Int×Value)}{ep:Nat}{t:SetTable}{Q:List Value->Shared->Prop}(hh:A.handled=none)(hc:o.cls = .type "set")(hS:s.heap.get? S=some { o with data:=.set es ep t })(I:Inv0 t es)(hp:t.plain=true)(hl:t.led=led0 w)(hn:es.size<=sizeLine)
  (h:∀(h':Heap) tk,s.heap.objs.size<h'.objs.size->(∀b ob,s.heap.get? b=some ob->h'.get? b=some ob)->Q ((eord w S ep es).toList.map (·.2)) { s with heap:=h',toks:=tk }):wpAny (model prog w) A (collect (.ref S)) Q E s:=by
 have hSlt:=Heap.lt_size hS
 unfold collect
 refine wpAny_bind (wpAny_runValue (codeAny_builtin F.entry_proto_collect ?_))
 rw[Around.under_plainId F.plain_proto_collect _]
 show wpAny _ A.in1 (newList [] >>= fun l=>again (.builtin "list.__iadd__" ⟨[l,.ref S],[]⟩)) _ _ s
 refine wpAny_bind (wpAny_newObj_type ?_)
 refine wpAny_pure ⟨plainId_quiet F.plain_list_iadd _,codeAny_builtin F.entry_list_iadd ?_⟩
 rw[Around.under_plainId F.plain_list_iadd _]
 have hS1:(s.heap.push lo0).get? S=some { o with data:=.set es ep t }:=Heap.get?_push_of_some _ hS
 have hT1:Shared.TypeIs { s with heap:=s.heap.push lo0 } (.ref S) "set":=⟨_,hS1,hc⟩
 show wpAny _ A.in1 (Builtin.List.listExtendWith (.ref s.heap.objs.size) (.ref S) (.ref s.heap.objs.size)) _ _ _
 unfold Builtin.List.listExtendWith
 refine wpAny_bind (wpAny_typeOf hT1 ?_)
 have h1:Builtin.List.listSameRef (.ref s.heap.objs.size) (.ref S)=false:=by simp[Builtin.List.listSameRef];exact Nat.ne_of_gt hSlt
 have h2:(Value.type "set"==Value.type "list")=false:=by decide
 have h3:(Value.type "set"==Value.type "tuple")=false:=by decide
 simp only[h1,h2,h3,Bool.or_false,Bool.false_eq_true,if_false]
 refine wpAny_bind (Sq hc hS1 I hp ?_)
 have hS2:((s.heap.push lo0).push (itO 0 0 es.size ep S)).get? S=some { o with data:=.set es ep t }:=Heap.get?_push_of_some _ hS1
 have hT2:Shared.TypeIs { s with heap:=(s.heap.push lo0).push (itO 0 0 es.size ep S) } (.ref S) "set":=⟨_,hS2,hc⟩
 have hL2:((s.heap.push lo0).push (itO 0 0 es.size ep S)).get? s.heap.objs.size=some lo0:=Heap.get?_push_of_some _ (Heap.get?_push_size _ rfl)
 have hJ2:((s.heap.push lo0).push (itO 0 0 es.size ep S)).get? (s.heap.push lo0).objs.size=some (itO 0 0 es.size ep S):=Heap.get?_push_size _ rfl
 have hJn:(s.heap.push lo0).objs.size=s.heap.objs.size+1:=Heap.size_push ..
 refine wpAny_bind (wpAny_holding ?_)
 unfold Builtin.List.listLengthHint
 refine wpAny_bind (wpAny_specialOf hT2 NF ?_)
 dsimp only
 rw[show splitId "set.__len__"=some ("set","__len__") by decide +kernel]
 dsimp only
 refine wpAny_bind (wpAny_isInstance (b:=true) hT2 sub_set_self ?_)
 simp only[Bool.not_true,Bool.false_eq_true,if_false]
 rw[if_pos (by decide +kernel)]
 refine wpAny_bind (wpAny_typeOf hT2 (wpAny_pure ?_))
 rw[if_pos (by decide +kernel)]
 show wpAny _ A.in1 (rule "list.extend.makes-room" >>= fun _ => Builtin.List.listTouch (.ref s.heap.objs.size) >>= fun _ =>
  again (.builtin "list.extend.loop" ⟨[.ref s.heap.objs.size,.ref (s.heap.push lo0).objs.size,.ref s.heap.objs.size],[]⟩)) _ _ _
 refine wpAny_bind (wpAny_rule ?_)
 refine wpAny_bind ?_
 show wpAny _ A.in1 (updateSeq s.heap.objs.size (·.push .none) >>= fun _=>updateSeq s.heap.objs.size (·.pop)) _ _ _
 refine wpAny_bind (wpAny_updateSeq hL2 rfl ?_)
 have hL3:=Heap.get?_update_self (Obj.mapSeq (·.push Value.none)) hL2 rfl
 refine wpAny_updateSeq hL3 rfl ?_
 have hL4:=Heap.get?_update_self (Obj.mapSeq (·.pop)) hL3 rfl
 have oth:∀b ob,b≠s.heap.objs.size->((s.heap.push lo0).push (itO 0 0 es.size ep S)).get? b=some ob ->
   ((((s.heap.push lo0).push (itO 0 0 es.size ep S)).update s.heap.objs.size (Obj.mapSeq (·.push Value.none))).update s.heap.objs.size (Obj.mapSeq (·.pop))).get? b=some ob :=
  fun b ob hb e=>(Heap.get?_update_other _ _ (Ne.symm hb)).trans ((Heap.get?_update_other _ _ (Ne.symm hb)).trans e)
 have hne:S≠(s.heap.push lo0).objs.size:=by rw[hJn];exact Nat.ne_of_lt (Nat.lt_succ_of_lt hSlt)
 have hJne:(s.heap.push lo0).objs.size≠s.heap.objs.size:=by rw[hJn];exact Nat.ne_of_gt (Nat.lt_succ_self _)
 have hSf:s.heap.objs.size∉[(s.heap.push lo0).objs.size,S]:=by
  simp only[List.mem_cons,List.mem_singleton,List.not_mem_nil,or_false,not_or]
  exact⟨Ne.symm hJne,Nat.ne_of_gt hSlt⟩
 have W:=(Q1 (prog:=prog) (w:=w) (A:=A.in1) (by simpa using hh) (s.heap.push lo0).objs.size S hne o es ep t I hp hl).toS
 have z0:slt w t 0=0:=by unfold slt;split<;>rfl
 refine wpAny_pure ⟨plainId_quiet F.plain_extend_loop _, codeAny_extend_loopS W hn _ hSf _ es.size 0 _ _ _ rfl (Nat.zero_le _)
  ⟨⟨_,oth _ _ hJne hJ2,rfl,by rw[z0]⟩,oth _ _ (Nat.ne_of_lt hSlt) hS2⟩ hL4 (ItemsOf.nil _) fun s' acc' c' hm hS' hacc=>?_⟩
 show wpAny _ A (load s.heap.objs.size >>= _) _ _ s'
 refine wpAny_bind (wpAny_load hS' ?_)
 have el:acc'.toList=(eord w S ep es).toList.map (·.2):=by
  refine List.ext_getElem? fun i=>?_
  rcases Nat.lt_or_ge i es.size with q|q
  ·have q1:i<acc'.size:=by rw[hacc.1];exact q
   obtain⟨e,e1,e2⟩:=hacc.2 i acc'[i] (Array.getElem?_eq_getElem q1)
   rw[Array.getElem?_toList,Array.getElem?_eq_getElem q1,List.getElem?_map,Array.getElem?_toList,e1,e2];rfl
  ·rw[Array.getElem?_toList,Array.getElem?_eq_none (by rw[hacc.1];exact q),List.getElem?_eq_none (by simp[JT];exact q)]
 show wpAny _ _ (pure acc'.toList) _ _ _
 rw[el]
 obtain⟨h',g',d',tk',os'⟩:=s'
 have eg:g'=s.gens:=hm.gens
 have ed:d'=s.drawn:=hm.drawn
 have eo:os'=s.os:=hm.os
 subst eg;subst ed;subst eo
 refine wpAny_pure (h h' tk' (Heap.lt_size hS') fun b ob e=>?_)
 have hb:=Heap.lt_size e
 refine hm.heap b ob ?_ (oth b ob (Nat.ne_of_lt hb) (Heap.get?_push_of_some _ (Heap.get?_push_of_some _ e)))
 rw[hJn]
 simp only[List.mem_cons,List.mem_singleton,List.not_mem_nil,or_false,not_or]
 exact⟨Nat.ne_of_lt hb,Nat.ne_of_lt (Nat.lt_succ_of_lt hb)⟩
end
end Stb
end
section
namespace DL
open PySem L2 PyProof.Rows
variable {K:PySem.W.Frag}
theorem Oa{prog:Program}{w:World}:∀{vs:List Value} {ns:List Int},IntsAre vs ns->ItemsAre (intKind prog w) ns vs
 |_,_,.nil=>.nil
 |_,_,.cons _ _ h=>.cons (by simp[intKind,Value.isInt]) (Oa h)
theorem Kw{X:Cx}{pins:List (Addr×Obj)}{σ:L2.St}{H:Hp}{s:Shared}(I:Inv X pins σ H s){b:Addr}{k:List Int}(h:SqT X.K H b (k.map V.int)):Stb.TK X.prog X.w s.heap k b:=by
 obtain⟨its,r1,⟨o,e,c,n,q⟩,_⟩:=I.tuple h
 exact⟨o,its.toArray,n,e,c,q,by simpa using Oa (K3 r1)⟩
def OG(w:World)(p:Addr)(bs:List Addr):Heap->Prop:=fun h=>∃(o:Obj) (es:Array (Int×Value)) (ep:Nat) (t:SetTable),o.cls = .type "set"/\h.get? p=some { o with data:=.set es ep t }/\Stb.Inv0 t es/\t.plain=true/\t.led=Stb.led0 w/\(es.toList.map (·.2)).Perm (bs.map Value.ref)
def U1(K:PySem.W.Frag)(w:World):List V->Hp->VK->Prop:=fun xs H Q=>∃(a:Addr) (zs:List (Addr×List Int)),xs=[.ref a]/\SqL K H a (zs.map fun z=>V.ref z.1)/\(∀z∈zs,SqT K H z.1 (z.2.map V.int))/\zs.length<4914 /\
 ∀(p:Addr) (zs':List (Addr×List Int)),H p=none->(∀z∈zs',z∈zs)->(zs'.map (·.2)).Nodup->(∀k,k∈zs'.map (·.2)↔k∈zs.map (·.2))->Q (.ref p) (upd H p (.ext (OG w p (zs'.map (·.1)))))
theorem TC{val:Nat->List Int}{k:List Int}:∀{n:Nat},k∈Stb.dd val n↔∃i,i<n/\val i=k
 |0=>⟨fun h=>(List.not_mem_nil h).elim,fun⟨i,h,_⟩=>absurd h (Nat.not_lt_zero i)⟩
 |n+1=>by
  show k∈Stb.ins (Stb.dd val n) (val n)↔_
  have ih:=TC (val:=val) (k:=k) (n:=n)
  have e:k∈Stb.ins (Stb.dd val n) (val n)↔k∈Stb.dd val n\/k=val n:=by
   unfold Stb.ins
   split
   ·rename_i c
    exact⟨.inl,fun z=>z.elim id fun q=>q▸c⟩
   ·simp
  rw[e,ih]
  constructor
  ·rintro(⟨i,h1,h2⟩|h)
   ·exact⟨i,by omega,h2⟩
   ·exact⟨n,by omega,h.symm⟩
  ·rintro⟨i,h1,h2⟩
   rcases Nat.lt_or_ge i n with q|q
   ·exact .inl ⟨i,q,h2⟩
   ·rw[show i=n by omega]at h2;exact .inr h2.symm
theorem QG{h:Heap}{P:Program}{w:World}{zs:List (Addr×List Int)}(hk:∀z∈zs,Stb.TK P w h z.2 z.1):∀{l:List (Int×Value)},(∀e∈l,∃b ks,e=(Stb.hsh P w ks,Value.ref b)/\Stb.TK P w h ks b/\∃z∈zs,z.1=b) ->
  ∃zs':List (Addr×List Int),(∀z∈zs',z∈zs)/\l.map (·.2)=(zs'.map (·.1)).map Value.ref/\zs'.map (·.2)=l.map fun e=>Stb.tk h e.2
 |[],_=>⟨[],fun z hz=>(List.not_mem_nil hz).elim,rfl,rfl⟩
 |e::l,hl=>by
  obtain⟨zs',a1,a2,a3⟩:=QG hk (l:=l) fun x hx=>hl x (List.mem_cons_of_mem _ hx)
  obtain⟨b,ks,rfl,h2,z,hz,rfl⟩:=hl e List.mem_cons_self
  have ek:ks=z.2:=h2.inj (hk z hz)
  subst ek
  refine⟨z::zs',fun y hy=>?_,?_,?_⟩
  ·rcases List.mem_cons.mp hy with rfl|hy
   ·exact hz
   ·exact a1 y hy
  ·rw[List.map_cons,a2];rfl
  ·rw[List.map_cons,List.map_cons,a3,show Stb.tk h (Stb.hsh P w z.2,Value.ref z.1).2=z.2 from Stb.tk_eq h2]
theorem Rv{X:Cx}(hc:X.calm=true)(hu:X.A.units+64<cLine):LV X (.type "set") (U1 X.K X.w):=by
 intro pins s σ H xs us Q I r h
 obtain⟨a,zs,rfl,hq,ht,hz,q⟩:=h
 obtain⟨u,rfl,ru⟩:=N3 r
 cases ru
 obtain⟨its,rv,pl,_⟩:=I.list hq
 have e:=L4 rv
 subst e
 have hsz:(zs.map fun z=>Value.ref z.1).toArray.size=zs.length:=by simp
 refine Stb.call_set (B:=fun b=>∃z∈zs,z.1=b) (val:=fun i=>(zs.getD i (0,[])).2) (I.ok.hd hc) (by omega) pl.isList (fun i v hv=>?_) (by rw[hsz];exact hz) fun h' tk o ho hS keep=>?_
 ·have hi:i<zs.length:=by
   have:=(Array.getElem?_eq_some_iff.mp hv).1
   rwa [hsz]at this
  have ev:v=Value.ref zs[i].1:=by
   simp[hi]at hv
   exact hv.symm
  refine⟨zs[i].1,ev,?_,zs[i],List.getElem_mem hi,rfl⟩
  have:=Kw I (ht zs[i] (List.getElem_mem hi))
  simpa[List.getD_eq_getElem?_getD,hi] using this
 ·rw[hsz]at hS
  obtain⟨es,ep,t,e1,e2,e3,e4⟩:=hS
  obtain⟨zs',hz1,hz2,hz3⟩:=QG (fun z hz=>Kw I (ht z hz)) e2.ent
  have pm:(zs'.map (·.2)).Perm (Stb.dd (fun i=>(zs.getD i (0,[])).2) zs.length):=by rw[hz3];exact e2.perm
  have hp:h'.get? s.heap.objs.size=some { o with data:=.set es ep t }:=e1
  refine⟨.ref s.heap.objs.size,_,I.laid (a:=s.heap.objs.size) (o:=.ext (OG X.w s.heap.objs.size (zs'.map (·.1)))) (t':=tk) keep (Nat.le_refl _) ?_,rfl,q s.heap.objs.size zs' (I.hok.fresh (Nat.le_refl _)) hz1 (pm.nodup_iff.mpr e2.nd) fun k=>?_⟩
  ·refine⟨⟨o,es,ep,t,ho,hp,e2.inv.toInv0,e4,e3,by rw[hz2]⟩,⟨_,hp⟩,fun h1 h2 f k=>?_⟩
   obtain⟨o',es',ep',t',f1,f2,f3⟩:=f
   exact⟨o',es',ep',t',f1,k _ f2,f3⟩
  ·rw[pm.mem_iff,TC]
   constructor
   ·rintro⟨i,hi,rfl⟩
    refine List.mem_map.mpr ⟨zs[i],List.getElem_mem hi,?_⟩
    simp[List.getD_eq_getElem?_getD,hi]
   ·intro hk
    obtain⟨z,hz',rfl⟩:=List.mem_map.mp hk
    obtain⟨i,hi,rfl⟩:=List.getElem_of_mem hz'
    exact⟨i,hi,by simp[List.getD_eq_getElem?_getD,hi]⟩
def SF(K:PySem.W.Frag)(w:World):List V->Hp->VK->Prop:=fun xs H Q=>∃(p:Addr) (zs:List (Addr×List Int)) (d:Nat),xs=[.ref p]/\H p=some (.ext (OG w p (zs.map (·.1))))/\(∀z∈zs,SqT K H z.1 (z.2.map V.int)/\z.2.length=d+1)/\(zs.map (·.2)).Nodup/\zs.length<64 /\
 ∀(q:Addr) (zs':List (Addr×List Int)),H q=none->zs'.Perm zs->(zs'.map (·.2)).Pairwise (fun x y=>HT.lexLt x y=true)->Q (.ref q) (upd H q (.lst (zs'.map fun z=>V.ref z.1)))
theorem IL{α β:Type}{f:α->β}:∀{l:List β} {m:List α},l.Perm (m.map f)->∃m':List α,m'.Perm m/\l=m'.map f
 | [], m, h => ⟨[], by
   have:=h.length_eq
   rw[List.length_map]at this
   rw[List.eq_nil_of_length_eq_zero this.symm],rfl⟩
 |y::l,m,h=>by
  have hy:y∈m.map f:=h.mem_iff.mp List.mem_cons_self
  obtain⟨x,hx,rfl⟩:=List.mem_map.mp hy
  obtain⟨s,t,rfl⟩:=List.append_of_mem hx
  have p:(s++x::t).Perm (x::(s++t)):=List.perm_middle
  have h2:l.Perm ((s++t).map f):=(h.trans (p.map f)).cons_inv
  obtain⟨m',a1,a2⟩:=IL h2
  exact⟨x::m',(a1.cons x).trans p.symm,by rw[a2];rfl⟩
theorem P3{X:Cx}(hc:X.calm=true):LV X (.builtin "sorted") (SF X.K X.w):=by
 intro pins s σ H xs us Q I r h
 obtain⟨p,zs,d,rfl,hp,ht,hn,hz,q⟩:=h
 obtain⟨u,rfl,ru⟩:=N3 r
 cases ru
 obtain⟨⟨o,es,ep,t,ho,hS,iv,hpl,hled,pm⟩,_,_⟩:=(show ObjOk X.prog X.w H s.heap p (.ext (OG X.w p (zs.map (·.1)))) from I.hok p _ hp)
 have hsz:es.size=zs.length:=by have:=pm.length_eq;simpa using this
 have pm2:((Stb.eord X.w p ep es).toList.map (·.2)).Perm (zs.map fun z=>Value.ref z.1):=by
  refine((Stb.eord_perm p ep es).map _).trans (pm.trans ?_)
  rw[List.map_map];exact List.Perm.refl _
 obtain⟨ys,py,ey⟩:=IL pm2
 have hy64:ys.length<64:=by rw[py.length_eq];exact hz
 refine Calls.call_function_entry kind_sorted plain_sorted entry_sorted (args_sorted1 _) ?_
 unfold Builtin.«sorted»
 refine wpAny_bind (m:=checkCount "sorted" 1 1 _) (wpAny_pure ?_)
 refine wpAny_bind (Stb.collect_set (by simpa using I.ok.hd hc) ho hS iv hpl hled (by rw[hsz,sizeLine_eq];omega) fun h1 tk hlt keep=>?_)
 rw[ey]
 refine wpAny_bind (wpAny_newList ?_ (by rw[List.length_map,sizeLine_eq];omega))
 generalize hh2:h1.push (seqObj "list" (ys.map fun z=>Value.ref z.1).toArray 0)=h2
 have hoL:h2.get? h1.objs.size=some (seqObj "list" (ys.map fun z=>Value.ref z.1).toArray 0):=by rw[<- hh2];exact Heap.get?_push_size _ rfl
 have keep2:∀b ob,s.heap.get? b=some ob->h2.get? b=some ob/\b≠h1.objs.size:=fun b ob e=>by
  have e1:=keep b ob e
  refine⟨by rw[<- hh2];exact Heap.get?_push_of_some _ e1,Nat.ne_of_lt (Heap.lt_size e1)⟩
 have tp:Srt.Tp s.heap d (ys.map fun z=>Value.ref z.1) (ys.map (·.2)):=Uv I fun z hz'=>ht z (py.mem_iff.mp hz')
 have nd:(ys.map (·.2)).Nodup:=((py.map (·.2)).nodup_iff).mpr hn
 show wpAny _ _ _ _ _ { s with heap:=h2,toks:=tk }
 have t2:Srt.Tp (((h2.update h1.objs.size (Obj.mapSeq fun _=>(#[]:Array Value))).push (seqObj "tuple" (ys.map fun z=>Value.ref z.1).toArray 0)).push (seqObj "list" #[] 0)) d (ys.map fun z=>Value.ref z.1) (ys.map (·.2)) :=
  tp.mono fun b ob e=>Srt.keptA (keep2 b ob e).1 (keep2 b ob e).2
 refine wpAny_bind (wpAny_holding (wpAny_call_entry slot_list_sort ⟨_,hoL,rfl⟩ entry_list_sort (Srt.list_sortT (d:=d) (ks:=ys.map (·.2)) (s:={ s with heap:=h2,toks:=tk }) hoL (by rw[List.length_map];exact hy64) nd (by rw[List.length_map,List.length_map]) t2 fun pq hA hU=>⟨_,rfl,?_⟩) (args_list_sort _)))
 refine wpAny_pure ⟨_,rfl,?_⟩
 have hlen:(ys.map fun z=>Value.ref z.1).length=ys.length:=by simp
 rw[hlen]at hA hU
 have pmq:pq.toList.Perm (List.range ys.length):=by
  have:=hA.pm.toList
  simpa using this
 have mem:∀i∈pq.toList,i<ys.length:=fun i hi=>List.mem_range.mp (pmq.mem_iff.mp hi)
 have eo:(pq.toList.map fun i=>(ys.map fun z=>Value.ref z.1).getD i Value.none)=(pq.toList.map fun i=>ys.getD i (0,[])).map fun z=>Value.ref z.1:=by
  rw[List.map_map]
  refine List.map_congr_left fun i hi=>?_
  have:=mem i hi
  simp[List.getD_eq_getElem?_getD,this]
 rw[eo]
 obtain⟨c,hcc⟩:=sortedHeap_at (out:=List.toArray ((pq.toList.map fun i=>ys.getD i (0,[])).map fun z=>Value.ref z.1)) hoL
 have perm:(pq.toList.map fun i=>ys.getD i (0,[])).Perm ys:=by
  have:=pmq.map fun i=>ys.getD i (0,[])
  rw[PP]at this
  exact this
 have hl2:=perm.length_eq
 have fresh:s.heap.objs.size<=h1.objs.size:=Nat.le_of_lt hlt
 refine⟨.ref h1.objs.size,_,I.laid (t':=tk) (o:=.lst ((pq.toList.map fun i=>ys.getD i (0,[])).map fun z=>V.ref z.1)) (fun b ob e=>?_) fresh ?_,rfl,q h1.objs.size (pq.toList.map fun i=>ys.getD i (0,[])) (I.hok.fresh fresh) (perm.trans py) ?_⟩
 ·rw[sortedHeap_old (keep2 b ob e).2 (Heap.lt_size (keep2 b ob e).1)];exact(keep2 b ob e).1
 ·exact⟨by rw[List.length_map,hl2];exact Nat.le_trans (Nat.le_of_lt hy64) (by decide),_,c,Hr _,hcc⟩
 ·rw[List.pairwise_iff_getElem]
  intro i j hi hj hij
  simp only[List.length_map,Array.length_toList]at hi hj
  have sz:=hA.sz
  have:=hU i j hij (by omega)
  unfold Srt.lexr at this
  have g:∀(k:Nat) (hk:k<pq.size),(ys.map (·.2)).getD (pq.getD k 0) []=(ys.getD (pq.toList[k]'(by rw[Array.length_toList];exact hk)) (0,[])).2:=fun k hk=>by
   have e1:pq.getD k 0=pq.toList[k]'(by rw[Array.length_toList];exact hk):=by simp[Array.getD,hk]
   rw[e1]
   exact Sd (·.2) ys _ (0,[])
  rw[g i hi,g j hj]at this
  simpa using this
end DL
end
section
namespace DL
open PySem L2 PyProof.Rows
variable {K:KW}
def D1:List (List Int)->List (List Int)
 |[]=>[]
 |k::r=>if k∈r then D1 r else k::D1 r
theorem mem_once{k:List Int}:∀{l:List (List Int)},k∈D1 l↔k∈l
 |[]=>Iff.rfl
 |x::r=>by
  have ih:=mem_once (k:=k) (l:=r)
  unfold D1
  split
  ·rename_i c
   rw[ih]
   exact⟨List.mem_cons_of_mem _,fun z=>(List.mem_cons.mp z).elim (fun e=>e▸c) id⟩
  ·rw[List.mem_cons,List.mem_cons,ih]
theorem ER:∀(l:List (List Int)),(D1 l).Nodup
 |[]=>List.nodup_nil
 |x::r=>by
  unfold D1
  split
  ·exact ER r
  ·rename_i c
   exact List.nodup_cons.mpr ⟨fun z=>c (mem_once.mp z),ER r⟩
def dSS(f:DX)(τ:DS):Option (PyData×DS):=(f τ).bind fun p=>match p.1 with
 |.list xs=>(Kv xs).bind fun ks=>if ks.length<4000/\(D1 ks).length<64/\(∀k∈ks,k.length=((ks.headD [])).length)/\1<=(ks.headD [0]).length then some (.list ((Kb (D1 ks)).map KT),p.2) else none
 |_=>none
theorem Ot{f:DX}{τ τ':DS}{d:PyData}(e:dSS f τ=some (d,τ')):∃xs ks,f τ=some (.list xs,τ')/\Kv xs=some ks/\ks.length<4000/\(D1 ks).length<64/\(∀k∈ks,k.length=((ks.headD [])).length)/\1<=(ks.headD [0]).length/\d = .list ((Kb (D1 ks)).map KT):=by
 unfold dSS at e
 obtain⟨⟨x,τ1⟩,e1,e⟩:=oB e
 dsimp only at e
 split at e
 ·rename_i xs
  obtain⟨ks,e2,e⟩:=oB e
  split at e
  ·rename_i hc
   cases e
   exact⟨xs,ks,e1,e2,hc.1,hc.2.1,hc.2.2.1,hc.2.2.2,rfl⟩
  ·cases e
 ·cases e
theorem XQ{w:World}{fr:Bool}{te:TE}{f:DX}(h:E K te fr f):E K (tCB (SF K w) (Dd (tCB (U1 K w) (Dd te Hz)) Hz)) true (dSS f):=by
 refine⟨fun τ d τ' e=>?_,?_⟩
 ·obtain⟨xs,ks,e1,_⟩:=Ot e
  exact h.like _ _ _ e1
 intro S M τ σ H Q d τ' r e q
 obtain⟨xs,ks,e1,e2,l1,l2,l3,l4,rfl⟩:=Ot e
 refine h.run S M τ σ H _ _ _ r e1 fun v H1 r1 c1 res=>?_
 obtain⟨a,vs,rfl,hv,lv⟩:=r.isr res
 obtain⟨zs,rfl,rfl,hz⟩:=Qa lv e2
 rw[List.length_map]at l1
 refine⟨a,zs,rfl,SqL.of (hid_iff.mp hv).2,fun z hz'=>Same.tup same_hid (hz z hz'),by omega,fun p zs' hp hsub hnd hmem=>?_⟩
 have s1:Same H1 (upd H1 p (.ext (OG w p (zs'.map (·.1))))):=BS hp _
 have pm:(zs'.map (·.2)).Perm (D1 (zs.map (·.2))):=(List.perm_ext_iff_of_nodup hnd (ER _)).mpr fun k=>(hmem k).trans mem_once.symm
 have hl:=pm.length_eq
 rw[List.length_map]at hl
 refine⟨p,zs',((zs.map (·.2)).headD [0]).length-1,rfl,(by unfold upd;rw[if_pos rfl]),fun z hz'=>⟨Same.tup s1 (Same.tup same_hid (hz z (hsub z hz'))),?_⟩,hnd,by omega,fun p2 zs2 hp2 pm2 sr=>?_⟩
 ·have:=l3 z.2 (List.mem_map.mpr ⟨z,hsub z hz',rfl⟩)
  cases zs with
  |nil=>exact absurd (hsub z hz') (by simp)
  |cons y ys =>
   simp only[List.map_cons,List.headD_cons]at *
   omega
 ·have e3:Kb (D1 (zs.map (·.2)))=zs2.map (·.2):=To (ER _) sr fun x=>((pm2.map (·.2)).mem_iff).trans pm.mem_iff
  rw[e3]at q
  have r1':=r1.same s1
  have c1':Chg M H (upd H1 p (.ext (OG w p (zs'.map (·.1))))):=c1.trans (.of s1)
  have s2:Same (upd H1 p (.ext (OG w p (zs'.map (·.1))))) (upd (upd H1 p (.ext (OG w p (zs'.map (·.1))))) p2 (.lst (zs2.map fun z=>V.ref z.1))):=BS hp2 _
  refine q _ _ (r1'.same s2) (c1'.trans (.of s2)) ((Gw hp2 (Qe fun z hz'=>?_)).back r1' c1')
  exact Same.tup (Same.keep s1).same (hz z (hsub z (pm2.mem_iff.mp hz')))
end DL
end
section
namespace DL
open PySem L2
end DL
end
section
namespace Dwk
open PySem
variable {prog:Program} {w:World} {A:Around} {E:Value->Shared->Prop} {s:Shared}
def At(h:Heap)(d:Addr)(ks:List Value)(ep:Nat):Prop:=∃(o:Obj) (es:Array DictEntry),h.get? d=some o/\o.ExactDict/\o.data = .dict es ep/\es.toList.map (·.key)=ks
theorem At.type{d:Addr}{ks:List Value}{ep:Nat}(x:At s.heap d ks ep):s.TypeIs (.ref d) "dict":=let ⟨o,_,h,c,_⟩:=x;⟨o,h,c.1⟩
theorem sizeOf{es:Array DictEntry}{ks:List Value}(h:es.toList.map (·.key)=ks):es.size=ks.length:=by
 rw[<- h,List.length_map,Array.length_toList]
theorem start{d:Addr}{ks:List Value}{ep:Nat}{Q:Value->Shared->Prop}(hd:(d==sysModules)=false)(x:At s.heap d ks ep)
  (q:Q (.ref s.heap.objs.size) { s with heap:=s.heap.push { cls:=.type "dict_keyiterator",data:=.fields #[.ref d,.int 0 0,.int ks.length 0,.int ep 0] } }):wpAny (model prog w) A (pyIter (.ref d)) Q E s:=by
 have hT:=x.type
 obtain⟨o,es,ho,_,hdat,hk⟩:=x
 have hsz:=sizeOf hk
 refine wpAny_pyIter_slot hT F.slot_dict_iter (wpAny_call_entry F.slot_dict_iter hT F.entry_dict_iter ?_ (F.args_dict_iter_1 _))
 unfold Builtin.«dict.__iter__» Builtin.Dict.dictSlotNone
 refine wpAny_bind (wpAny_bind (wpAny_notOrdered_dict hT ?_))
 refine(wpAny_pure ?_:wpAny _ _ (pure (Value.ref d)) _ _ s)
 show wpAny _ _ (Builtin.Dict.showsAll d >>= _) _ _ s
 unfold Builtin.Dict.showsAll
 rw[if_neg (by rw[hd];exact Bool.false_ne_true)]
 refine wpAny_bind (wpAny_pure (wpAny_bind (wpAny_dictEntries ho hdat (wpAny_bind (wpAny_dictEpoch ho hdat ?_)))))
 refine wpAny_bind (wpAny_newObj_type (wpAny_pure ⟨_,rfl,"dict_keyiterator",_,⟨_,Heap.get?_push_size _ rfl,rfl⟩,F.slot_dict_keyiterator_next.lookup,?_⟩))
 simpa[rawInt,hsz] using q
theorem step{J d:Addr}{i ep:Nat}{ks:List Value}{k:Value}{Q:Option Value->Shared->Prop}(hit:s.heap.IsKeyIter J d i ks.length ep)(x:At s.heap d ks ep)(hx:ks[i]?=some k)
  (q:∀h',h'.IsKeyIter J d (i+1) ks.length ep->Heap.SameBut J s.heap h'->Q (some k) { s with heap:=h' }):wpAny (model prog w) A (pyNext (.ref J)) Q E s:=by
 obtain⟨o,ho,hc,hd⟩:=id hit
 obtain⟨od,es,hod,_,hdd,hk⟩:=x
 have hsz:=sizeOf hk
 have hlt:i<es.size:=by rw[hsz];exact(List.getElem?_eq_some_iff.mp hx).1
 have hkey:es[i].key=k:=by
  have:(es.toList.map (·.key))[i]?=some k:=by rw[hk];exact hx
  simpa[hlt] using this
 unfold pyNext
 refine wpAny_bind (wpAny_attempt (wpAny_callSpecial?_slot (name := Str.ofString "__next__") hit.typeIs F.slot_dict_keyiterator_next
  (wpAny_call_entry F.slot_dict_keyiterator_next hit.typeIs F.entry_dict_keyiterator_next ?_ (F.args_dict_keyiterator_next_1 _))))
 refine wpAny_bind (wpAny_pure (wpAny_bind (wpAny_bind ?_)))
 first|refine wpAny_bind (wpAny_typeNameOfWhole_keyiter hit.typeIs (wpAny_pure ?_))|refine wpAny_bind (wpAny_typeNameOf_keyiter hit.typeIs (wpAny_pure ?_))
 refine wpAny_bind (wpAny_fieldsOf ho hd ?_)
 simp only[show Builtin.Dict_items.ownsTuple "dict_keyiterator"=false by decide,Bool.false_eq_true,if_false]
 show wpAny _ _ (if (Value.ref d==Value.none)=true then _ else _) _ _ s
 rw[if_neg (show ¬((Value.ref d==Value.none)=true) from Bool.false_ne_true)]
 refine wpAny_bind (wpAny_pure (wpAny_bind (wpAny_dictEntries hod hdd ?_)))
 rw[if_neg (by rw[hsz];simp)]
 refine wpAny_bind (wpAny_pure (wpAny_bind (wpAny_dictEpoch hod hdd ?_)))
 rw[if_neg (by simp)]
 refine wpAny_pure ?_
 simp only[show ¬((i:Int)<0) from by omega,if_false,Int.toNat_natCast,Array.getElem?_eq_getElem hlt]
 refine wpAny_bind ?_
 first|refine wpAny_bind (wpAny_typeNameOfWhole_keyiter hit.typeIs (wpAny_pure ?_))|refine wpAny_bind (wpAny_typeNameOf_keyiter hit.typeIs (wpAny_pure ?_))
 refine wpAny_bind (wpAny_isOneOf_keyiter hit.typeIs ?_)
 show wpAny _ _ (setField (.ref J) 1 (rawInt ((i:Int)+1)) >>= _) _ _ s
 refine wpAny_bind (wpAny_setField ho hd (by simp) ?_)
 have hit':(s.heap.update J (Obj.mapFields (·.setIfInBounds 1 (rawInt ((i:Int)+1))))).IsKeyIter J d (i+1) ks.length ep :=
  ⟨_,Heap.get?_update_self _ ho (Obj.isFreed_of_fields (Obj.data_mapFields hd _)),(Obj.cls_mapFields ..).trans hc,by rw[Obj.data_mapFields hd];simp[rawInt]⟩
 refine wpAny_bind (wpAny_holding (wpAny_bind (wpAny_isOneOf_keyiter (s:={ s with heap:=s.heap.update J (Obj.mapFields (·.setIfInBounds 1 (rawInt ((i:Int)+1)))) }) hit'.typeIs ?_)))
 show wpAny _ _ (pure es[i].key) _ _ _
 rw[hkey]
 exact wpAny_pure (wpAny_pure ⟨_,rfl,wpAny_pure (q _ hit' (Heap.SameBut.update ..))⟩)
theorem last{J d:Addr}{ep:Nat}{ks:List Value}{Q:Option Value->Shared->Prop}(hh:A.handled=none)(hit:s.heap.IsKeyIter J d ks.length ks.length ep)(x:At s.heap d ks ep)
  (q:∀h',Heap.ExtBut J s.heap h'->Q none { s with heap:=h' }):wpAny (model prog w) A (pyNext (.ref J)) Q E s:=by
 obtain⟨o,ho,hc,hd⟩:=id hit
 obtain⟨od,es,hod,_,hdd,hk⟩:=x
 have hsz:=sizeOf hk
 unfold pyNext
 refine wpAny_bind (wpAny_attempt (wpAny_callSpecial?_slot (name := Str.ofString "__next__") hit.typeIs F.slot_dict_keyiterator_next
  (wpAny_call_entry F.slot_dict_keyiterator_next hit.typeIs F.entry_dict_keyiterator_next ?_ (F.args_dict_keyiterator_next_1 _))))
 refine wpAny_bind (wpAny_pure (wpAny_bind (wpAny_bind ?_)))
 first|refine wpAny_bind (wpAny_typeNameOfWhole_keyiter hit.typeIs (wpAny_pure ?_))|refine wpAny_bind (wpAny_typeNameOf_keyiter hit.typeIs (wpAny_pure ?_))
 refine wpAny_bind (wpAny_fieldsOf ho hd ?_)
 simp only[show Builtin.Dict_items.ownsTuple "dict_keyiterator"=false by decide,Bool.false_eq_true,if_false]
 show wpAny _ _ (if (Value.ref d==Value.none)=true then _ else _) _ _ s
 rw[if_neg (show ¬((Value.ref d==Value.none)=true) from Bool.false_ne_true)]
 refine wpAny_bind (wpAny_pure (wpAny_bind (wpAny_dictEntries hod hdd ?_)))
 rw[if_neg (by rw[hsz];simp)]
 refine wpAny_bind (wpAny_pure (wpAny_bind (wpAny_dictEpoch hod hdd ?_)))
 rw[if_neg (by simp)]
 refine wpAny_pure ?_
 simp only[show ¬((ks.length:Int)<0) from by omega,if_false,Int.toNat_natCast,Array.getElem?_eq_none (Nat.le_of_eq hsz)]
 refine wpAny_bind ?_
 first|refine wpAny_bind (wpAny_typeNameOfWhole_keyiter hit.typeIs (wpAny_pure ?_))|refine wpAny_bind (wpAny_typeNameOf_keyiter hit.typeIs (wpAny_pure ?_))
 show wpAny _ _ (setField (.ref J) 0 .none >>= _) _ _ s
 refine wpAny_bind (wpAny_setField ho hd (by simp) ?_)
 show wpAny _ _ (newExc (.type "StopIteration") [] >>= _) _ _ _
 refine wpAny_bind ?_
 simp only[newExc,newTuple]
 refine wpAny_bind (wpAny_newObj_type ?_ (by size_fits))
 refine wpAny_bind (m:=firstArgMember _ _) (wpAny_of_eq (a:=Value.none) (by first|rfl|(simp only[firstArgMember];rfl)) ?_)
 refine wpAny_newObj_type ?_ (by size_fits)
 simp only[raiseNew]
 refine wpAny_bind (wpAny_handled ?_)
 rw[show A.in1.handled=none from hh]
 refine wpAny_bind (wpAny_pure (wpAny_throw ?_))
 refine wpAny_bind (wpAny_isInstance (T:="StopIteration") (b:=true) ⟨_,Heap.get?_push_size _ rfl,rfl⟩ isSubtype_stop ?_)
 exact wpAny_pure (q _ (((Heap.SameBut.update ..).extBut.push _).push _))
end Dwk
end
section
namespace DL
open PySem L2 PyProof.Rows
variable {K:PySem.W.Frag}
abbrev TsV:=List (List Int×Addr×V)
abbrev Rt:List Int×Addr×V->List Int×Addr×Value->Prop:=fun t x=>t.1=x.1/\t.2.1=x.2.1/\RelV t.2.2 x.2.2
def Pm:TsV->List Int->Option V
 |[],_=>none
 |t::r,k=>if t.1=k then some t.2.2 else Pm r k
def Iw:TsV->List Int->Addr->V->TsV
 |[],k,b,v=>[(k,b,v)]
 |t::r,k,b,v=>if t.1=k then (t.1,t.2.1,v)::r else t::Iw r k b v
def Td(K:PySem.W.Frag)(H:Hp)(ts:TsV):Prop:=∀t∈ts,SqT K H t.2.1 (t.1.map V.int)
theorem Oi{k:List Int}:∀{ts:TsV} {xs:List (List Int×Addr×Value)},Paired Rt ts xs->(match Pm ts k with
  |some v=>∃p,atKey xs k=some p/\RelV v p.2
  |none=>atKey xs k=none)
 |_,_,.nil=>rfl
 |_,_,.cons (a:=t) (b:=x) (l₁:=ts) (l₂:=xs) h r=>by
  obtain⟨h1,h2,h3⟩:=h
  have ih:=Oi (k:=k) r
  unfold Pm
  by_cases e:t.1=k
  ·rw[if_pos e]
   exact⟨x.2,by simp[atKey,List.find?_cons,h1▸e],h3⟩
  ·rw[if_neg e]
   have:atKey (x::xs) k=atKey xs k:=by simp[atKey,List.find?_cons,h1▸e]
   rw[this];exact ih
theorem SJ{k:List Int}{u:Value}:∀{xs:List (List Int×Addr×Value)},k∉xs.map (·.1)->xs.map (putAt k u)=xs
 |[],_=>rfl
 |x::xs,h=>by
  rw[List.map_cons,List.mem_cons,not_or]at h
  rw[List.map_cons,SJ h.2]
  unfold putAt
  rw[if_neg (Ne.symm h.1)]
theorem G3:∀{ts:TsV} {xs:List (List Int×Addr×Value)},Paired Rt ts xs->ts.map (·.1)=xs.map (·.1)
 |_,_,.nil=>rfl
 |_,_,.cons h r=>by rw[List.map_cons,List.map_cons,h.1,G3 r]
theorem QE{k:List Int}{b:Addr}{v:V}{u:Value}(hv:RelV v u):∀{ts:TsV} {xs:List (List Int×Addr×Value)},Paired Rt ts xs->(ts.map (·.1)).Nodup->Paired Rt (Iw ts k b v) (storedH xs k b u)
 |_,_,.nil,_=>.cons ⟨rfl,rfl,hv⟩ .nil
 |_,_,.cons (a:=t) (b:=x) (l₁:=ts) (l₂:=xs) h r,hn=>by
  obtain⟨h1,h2,h3⟩:=h
  rw[List.map_cons,List.nodup_cons]at hn
  have ih:=QE (k:=k) (b:=b) hv r hn.2
  unfold Iw
  by_cases e:t.1=k
  ·rw[if_pos e]
   have ex:x.1=k:=h1▸e
   have a:atKey (x::xs) k=some x.2:=by simp[atKey,List.find?_cons,ex]
   rw[storedH_old a,List.map_cons,SJ (by rw[<- G3 r,<- e];exact hn.1)]
   refine .cons ?_ r
   unfold putAt
   rw[if_pos ex]
   exact⟨h1,h2,hv⟩
  ·rw[if_neg e]
   have ex:¬x.1=k:=h1▸e
   have a:atKey (x::xs) k=atKey xs k:=by simp[atKey,List.find?_cons,ex]
   cases q:atKey xs k with
   |none =>
    rw[storedH_new (a.trans q)]
    rw[storedH_new q]at ih
    exact .cons ⟨h1,h2,h3⟩ ih
   |some p =>
    rw[storedH_old (a.trans q),List.map_cons]
    rw[storedH_old q]at ih
    refine .cons ?_ ih
    unfold putAt
    rw[if_neg ex]
    exact⟨h1,h2,h3⟩
theorem SK(ts:TsV)(k:List Int)(b:Addr)(v:V):(Iw ts k b v).length<=ts.length+1:=by
 induction ts with
 |nil=>exact Nat.le_refl _
 |cons t r ih =>
  unfold Iw
  split
  ·simp
  ·simp only[List.length_cons];omega
theorem RE(ts:TsV)(k:List Int)(b:Addr)(v:V):(Iw ts k b v).map (·.1)=if k∈ts.map (·.1) then ts.map (·.1) else ts.map (·.1)++[k]:=by
 induction ts with
 |nil=>rfl
 |cons t r ih =>
  unfold Iw
  by_cases e:t.1=k
  ·rw[if_pos e,if_pos (by simp[e])];rfl
  ·rw[if_neg e,List.map_cons,ih,List.map_cons]
   by_cases m:k∈r.map (·.1)
   ·rw[if_pos m,if_pos (List.mem_cons_of_mem _ m)]
   ·rw[if_neg m,if_neg (fun z=>(List.mem_cons.mp z).elim (fun q=>e q.symm) m)];rfl
theorem PR{ts:TsV}{k:List Int}{b:Addr}{v:V}(h:(ts.map (·.1)).Nodup):((Iw ts k b v).map (·.1)).Nodup:=by
 rw[RE]
 split
 ·exact h
 ·rename_i m
  refine List.nodup_append.mpr ⟨h,List.nodup_cons.mpr ⟨by simp,List.nodup_nil⟩,fun a ha c hc=>?_⟩
  rw[List.mem_singleton]at hc
  exact fun z=>m (by rw[<- hc,<- z];exact ha)
section
variable {X:Cx} {pins:List (Addr×Obj)} {σ:L2.St} {H:Hp} {s:Shared}
theorem Uu(I:Inv X pins σ H s){a:Addr}{ts:TsV}(h:HD H a ts)(hk:Td X.K H ts):(a==sysModules)=false/\ts.length<=sizeLine/\(ts.map (·.1)).Nodup/\∃xs,Paired Rt ts xs/\s.heap.DictOfH (tupleKind (intKind X.prog X.w)) a xs:=by
 obtain⟨ep,h⟩:=h
 obtain⟨⟨h1,h2,h3,xs,pr,o,es,ho,he,hd,hes⟩,_,_⟩:=(show ObjOk X.prog X.w H s.heap a (.ext (GM a ts ep)) from I.hok a _ h)
 refine⟨h1,h2,h3,xs,pr,o,es,ep,ho,he,hd,hes,?_,by rw[<- G3 pr];exact h3⟩
 have all:∀{ts:TsV} {xs:List (List Int×Addr×Value)},Paired Rt ts xs->Td X.K H ts->∀x∈xs,(tupleKind (intKind X.prog X.w)).is s.heap x.1 x.2.1:=by
  intro ts xs q
  induction q with
  |nil=>intro _ x hx;exact nomatch hx
  |@cons t x ts xs hq _ ih =>
   intro hk y hy
   rcases List.mem_cons.mp hy with e|hy
   ·subst e
    have:=Kw I (hk t List.mem_cons_self)
    rw[hq.1,hq.2.1]at this
    exact this
   ·exact ih (fun t ht=>hk t (List.mem_cons_of_mem _ ht)) y hy
 exact all pr hk
end
def Wd(K:PySem.W.Frag):R2:=fun x y H Q=>∃a b ts k v,x = .ref a/\y = .ref b/\HD H a ts/\Td K H ts/\SqT K H b (k.map V.int)/\Pm ts k=some v/\Q v H
theorem KL{X:Cx}(hu:X.A.units+64<cLine):IxR X (Wd X.K):=by
 intro value slice pins s σ H x y v u Q I rx ry h hs
 obtain⟨a,b,ts,k,z,rfl,rfl,hq,hk,hb,e,q⟩:=h
 cases rx;cases ry
 obtain⟨h1,h2,h3,xs,pr,dd⟩:=Uu I hq hk
 have g:=Oi (k:=k) pr
 rw[e]at g
 obtain⟨p,hp,rp⟩:=g
 exact tail_any dd.typeIs PySem.F.slot_dict_getitem.lookup (wpAny_getItem_heap (tupleKind_room_in1 (by omega)) (Kw I hb) dd hp ⟨z,H,I.tok _,rp,q⟩) hs
theorem Gz:∀{ts:TsV} {xs:List (List Int×Addr×Value)},Paired Rt ts xs->(xs.map fun x=>Value.ref x.2.1)=ts.map fun t=>Value.ref t.2.1
 |_,_,.nil=>rfl
 |_,_,.cons h r=>by rw[List.map_cons,List.map_cons,Gz r,h.2.1]
def U2(K:PySem.W.Frag):V->V->V->Hp->(Hp->Prop)->Prop:=fun o i v H Q=>∃a b ts k,o = .ref a/\i = .ref b/\HD H a ts/\Td K H ts/\SqT K H b (k.map V.int)/\ts.length<sizeLine/\∀ep,Q (upd H a (.ext (GM a (Iw ts k b v) ep)))
theorem N9{X:Cx}(hu:X.A.units+64<cLine):WL X (U2 X.K):=by
 intro pins s σ H o i v ov iv u Q I ro ri rv h
 obtain⟨a,b,ts,k,rfl,rfl,hq,hk,hb,hl,q⟩:=h
 cases ro;cases ri
 obtain⟨h1,h2,h3,xs,pr,dd⟩:=Uu I hq hk
 have hz:xs.length<=sizeLine:=by have:=congrArg List.length (G3 pr);simp at this;omega
 refine wpAny_setItem_heap (hsz:=hz) (tupleKind_room_in1 (by omega)) (Kw I hb) dd fun h' dd' hs=>?_
 obtain⟨o',es,ep,hq',g2,g3,g4,_,g5⟩:=dd'
 refine⟨_,?_,q ep⟩
 obtain⟨ep0,hq⟩:=hq
 refine I.write (x:=a) (e:=a) (by rw[hq];exact True.intro) (.inl rfl) (fun c z hc e=>(hs.2 c hc).trans e) ⟨o',hq'⟩ ?_
 have hp:=QE (k:=k) (b:=b) rv pr h3
 have hl2:=SK ts k b v
 refine⟨⟨h1,by omega,PR h3,_,hp,o',es,hq',g2,g3,g4⟩,⟨o',hq'⟩,fun m1 m2 f kk=>?_⟩
 obtain⟨f1,f2,f3,xs',f4,o',es',f5,f6⟩:=f
 exact⟨f1,f2,f3,xs',f4,o',es',kk _ f5,f6⟩
def Uz:TE:=fun _ H Q=>∀p,H p=none->Q (.ref p) (upd H p (.ext (GM p [] 0)))
theorem QJ{X:Cx}{pos:Pos}:PE X (.Dict [] [] pos) Uz:=fun pins s σ H Q I h=>by
 have hb:sysModules<s.heap.objs.size:=Nat.lt_trans (by decide) (show mainGlobals<s.heap.objs.size from(I.mod.glob.keeps I.bk).lt)
 have e:(s.heap.push { cls:=.type "dict",data:=.dict #[] }).get? s.heap.objs.size=some { cls:=.type "dict",data:=.dict #[] }:=Heap.get?_push_size _ rfl
 refine wpAny_Dict_empty ⟨.ref s.heap.objs.size,_,I.laid (a:=s.heap.objs.size) (o:=.ext (GM s.heap.objs.size [] 0)) (t':=s.toks) (fun _ _ q=>Heap.get?_push_of_some _ q) (Nat.le_refl _) ?_,rfl,h _ (I.hok.fresh (Nat.le_refl _))⟩
 refine⟨⟨beq_eq_false_iff_ne.mpr (Ne.symm (Nat.ne_of_lt hb)),Nat.zero_le _,List.nodup_nil,[],.nil,_,#[],e,⟨rfl,rfl,rfl⟩,rfl,rfl⟩,⟨_,e⟩,fun m1 m2 f kk=>?_⟩
 obtain⟨f1,f2,f3,xs',f4,o',es',f5,f6⟩:=f
 exact⟨f1,f2,f3,xs',f4,o',es',kk _ f5,f6⟩
end DL
end
section
namespace DL
open PySem L2 PyProof.Rows
variable {K:KW}
def Pn:List (List Int×PyData)->List Int->Option PyData
 |[],_=>none
 |t::r,k=>if t.1=k then some t.2 else Pn r k
def NJ:List (List Int×PyData)->List Int->PyData->List (List Int×PyData)
 |[],k,d=>[(k,d)]
 |t::r,k,d=>if t.1=k then (t.1,d)::r else t::NJ r k d
theorem PH{H:Hp}:∀{ks:List PyData} {k:List Int} {vs:List V},tkP.tkI ks=some k->IsL K H ks vs->vs=k.map V.int
 |[],_,_,e,l=>by cases e;exact l
 |.int i::ks,k,vs,e,⟨x,xs,ev,h,l⟩=>by
  unfold tkP.tkI at e
  obtain⟨k',e1,rfl⟩:=oM e
  rw[ev,PH e1 l,show x=V.int i from h];rfl
 |.none::_,_,_,e,_=>by cases e
 |.bool _::_,_,_,e,_=>by cases e
 |.str _::_,_,_,e,_=>by cases e
 |.list _::_,_,_,e,_=>by cases e
 |.tuple _::_,_,_,e,_=>by cases e
 |.dict _::_,_,_,e,_=>by cases e
theorem Sj{H:Hp}:∀{l:List (PyData×PyData)} {ts:TsV},IsKV K H l ts->Td K H ts
 |[],_,h=>by rw[show _=[] from h];exact fun t ht=>nomatch ht
 |(k,d)::l,_,⟨t,tr,e,_,hk,_,r⟩=>by
  subst e
  intro y hy
  rcases List.mem_cons.mp hy with rfl|hy
  ·exact hk
  ·exact Sj r y hy
theorem KO:∀{a b:List Int},a.map PyData.int=b.map PyData.int->a=b
 |[],[],_=>rfl
 |[],_::_,h=>by cases h
 |_::_,[],h=>by cases h
 |x::a,y::b,h=>by
  rw[List.map_cons,List.map_cons]at h
  injection h with h1 h2
  injection h1 with h1
  rw[h1,KO h2]
theorem PF{H:Hp}:∀{l:List (PyData×PyData)} {ts:TsV} {m:List (List Int×PyData)},IsKV K H l ts->tkP l=some m->m.map (·.1)=ts.map (·.1)/\l=CB m
 |[],_,_,h,e=>by cases e;rw[show _=[] from h];exact⟨rfl,rfl⟩
 |(k,d)::l,_,m,⟨t,tr,ev,ek,hk,h,r⟩,e=>by
  subst ev ek
  unfold tkP at e
  obtain⟨k',e1,e⟩:=oB e
  obtain⟨m',e2,rfl⟩:=oM e
  rw[KH]at e1
  cases e1
  obtain⟨a,b⟩:=PF r e2
  exact⟨by rw[List.map_cons,List.map_cons,a],by rw[b];rfl⟩
theorem Sy{H:Hp}{k:List Int}:∀{m:List (List Int×PyData)} {ts:TsV},IsKV K H (CB m) ts->(match Pn m k with
  |some d=>∃v,Pm ts k=some v/\Is K H d v
  |none=>Pm ts k=none)
 |[],_,h=>by rw[show _=[] from h];rfl
 |(k',d)::m,_,⟨t,tr,ev,ek,hk,h,r⟩=>by
  subst ev
  have e1:k'=t.1:=by
   injection ek with ek
   exact KO ek
  have ih:=Sy (k:=k) r
  unfold Pn Pm
  by_cases e:t.1=k
  ·rw[if_pos e,if_pos (show((k',d):List Int×PyData).1=k from e1.trans e)]
   exact⟨_,rfl,h⟩
  ·rw[if_neg e,if_neg (show ¬((k',d):List Int×PyData).1=k from fun z=>e (e1.symm.trans z))]
   exact ih
theorem SI{H:Hp}{k:List Int}{b:Addr}{d:PyData}{v:V}(hb:SqT K H b (k.map V.int))(hd:Is K H d v):∀{m:List (List Int×PyData)} {ts:TsV},IsKV K H (CB m) ts->IsKV K H (CB (NJ m k d)) (Iw ts k b v)
 |[],_,h=>by rw[show _=[] from h];exact⟨_,[],rfl,rfl,hb,hd,rfl⟩
 |(k',d')::m,_,⟨t,tr,ev,ek,hk,h,r⟩=>by
  subst ev
  have e1:k'=t.1:=by
   injection ek with ek
   exact KO ek
  unfold NJ Iw
  by_cases e:t.1=k
  ·rw[if_pos e,if_pos (show((k',d'):List Int×PyData).1=k from e1.trans e)]
   exact⟨_,tr,rfl,ek,hk,hd,r⟩
  ·rw[if_neg e,if_neg (show ¬((k',d'):List Int×PyData).1=k from fun z=>e (e1.symm.trans z))]
   exact⟨t,_,rfl,ek,hk,h,SI hb hd r⟩
def FE:PyData->PyData->Option PyData
 |.dict l,.tuple ks=>(tkP l).bind fun m=>(tkP.tkI ks).bind fun k=>Pn m k
 |_,_=>none
theorem QL:OR K false (Wd K) FE:=by
 intro S H x y dx dy d Q _ ix iy e q
 unfold FE at e
 split at e
 ·rename_i l ks
  obtain⟨m,e1,e4⟩:=oB e
  obtain⟨k,e2,e3⟩:=oB e4
  clear e e4
  obtain⟨a,ts,rfl,h,lv⟩:=ix
  obtain⟨b,vs,rfl,hb,lb⟩:=iy
  obtain rfl:=PH e2 lb
  obtain⟨_,rfl⟩:=PF lv e1
  have g:=Sy (k:=k) lv
  rw[e3]at g
  obtain⟨v,g1,g2⟩:=g
  exact⟨a,b,ts,k,v,rfl,rfl,h.unhid,fun t ht=>Same.tup same_hid (Sj lv t ht),Same.tup same_hid hb,g1,q _ H (fun _ _ e=>e) g2⟩
 ·cases e
theorem MW{H:Hp}:∀{m:List (List Int×PyData)} {ts:TsV},IsKV K H (CB m) ts->IsL K H (m.map fun p=>KT p.1) (ts.map fun t=>V.ref t.2.1)
 |[],_,h=>by rw[show _=[] from h];rfl
 |(k,d)::m,_,⟨t,tr,ev,ek,hk,h,r⟩=>by
  subst ev
  have e1:k=t.1:=by
   injection ek with ek
   exact KO ek
  refine⟨_,_,rfl,⟨t.2.1,_,rfl,hk,?_⟩,MW r⟩
  rw[e1]
  exact Kx t.1
def Qs(np i:Nat)(τ:DS):Option Out:=if np<=i/\i<τ.length then some (.nx (τ.set i (some (.k [])))) else none
theorem TY{np:Nat}{fr:Bool}{i:Nat}:B K np (KZ Uz (Ia i)) fr (Qs np i):=by
 intro F S M τ σ H D out hnp f ee q
 unfold Qs at ee
 split at ee
 ·rename_i hi
  cases ee
  intro a ha
  have s:=BS ha (HO.ext (GM a [] 0))
  have f1:=f.hide s ha ⟨_,AT⟩
  have hM:¬M a:=fun z=>f.r.fresh ha (f.r.sub a z)
  exact q _ _ _ _ (f1.newM (xs:=.t []) hi.2 (Nat.le_trans hnp hi.1) (.inr rfl) hM (f.hnone ha) AT ⟨[],⟨0,rfl⟩,rfl⟩) fun b o hn e=>⟨fun z=>z.elim hn (Am e ha),s b o e⟩
 ·cases ee
def Jx(i:Nat)(e k:DX)(τ:DS):Option Out:=(e τ).bind fun p=>(k p.2).bind fun q=>match q.2[i]?,q.1 with
 |some (some (.k m)),.tuple ks=>(tkP.tkI ks).bind fun c=>if m.length<sizeLine then some (.nx (q.2.set i (some (.k (NJ m c p.1))))) else none
 |_,_=>none
theorem Sk{H:Hp}:∀{l:List (PyData×PyData)} {ts:TsV},IsKV K H l ts->ts.length=l.length
 |[],_,h=>by rw[show _=[] from h];rfl
 |(k,d)::l,_,⟨t,tr,e,_,_,_,r⟩=>by subst e;rw[List.length_cons,List.length_cons,Sk r]
theorem TV{np:Nat}{fr f1 f2:Bool}{i:Nat}{te tk:TE}{e k:DX}(he:E K te f1 e)(hk:E K tk f2 k):B K np (KZ te (S0 (FL i) tk (U2 K))) fr (Jx i e k):=by
 intro F S M τ σ H D out hnp f ee q
 unfold Jx at ee
 obtain⟨⟨x,τ1⟩,e1,ee⟩:=oB ee
 obtain⟨⟨y,τ2⟩,e2,ee⟩:=oB ee
 dsimp only at ee
 split at ee
 ·rename_i m ks hx
  obtain⟨c,e3,ee⟩:=oB ee
  split at ee
  ·rename_i hml
   cases ee
   have lk1:=he.like _ _ _ e1
   have lk2:=hk.like _ _ _ e2
   refine he.weak.run S M τ σ H _ x τ1 f.r e1 fun v H1 r1 c1 i1=>?_
   obtain⟨zs,hz⟩:=lk2.kl hx
   obtain⟨p,ho,hp,hM,_,_⟩:=r1.mt i (.t zs) hz
   refine⟨.ref p,hp,hk.weak.run S M τ1 σ H1 _ _ τ2 r1 e2 fun w H2 r2 c2 i2=>?_⟩
   obtain⟨p',ho',hp',hM',hl,ts,⟨ep0,rfl⟩,lv⟩:=r2.mt i (.t m) hx
   rw[hp]at hp';cases hp'
   have Sp:=r2.sub p hM'
   obtain⟨b,vs,rfl,hb,lb⟩:=i2
   obtain rfl:=PH e3 lb
   have lt:ts.length<sizeLine:=by rw[Sk lv];unfold CB;rw[List.length_map];exact hml
   refine⟨p,b,ts,c,rfl,rfl,⟨ep0,hl⟩,fun t ht=>Same.tup same_hid (Sj lv t ht),Same.tup same_hid hb,lt,fun ep=>?_⟩
   have cc:Chg (fun b=>b=p) H2 (upd H2 p (.ext (GM p (Iw ts c b v) ep))):=fun b o hn e=>by rw[AO hn];exact e
   have iv:Is K (hid S H2) x v:=Is.mono (c2.keep r1.sub).same i1
   have f2:=f.step r2 (c1.trans c2) (lk1.trans lk2)
   have r3:=r2.setO (w:=.t m) (w':=.t (NJ m c x)) hx hp cc AT (by rw[DC Sp];exact⟨_,⟨ep,rfl⟩,SI hb iv lv⟩)
   have c3:Chg M H2 (upd H2 p (.ext (GM p (Iw ts c b v) ep))):=fun b o hn e=>cc b o (fun z=>hn (by subst z;exact hM')) e
   exact q S M σ _ (f2.step r3 c3 (G6 (w:=.t m) (w':=.t (NJ m c x)) hx rfl)) (((c1.trans c2).trans c3).keep f.r.sub)
  ·cases ee
 ·cases ee
theorem Vx{m:List (List Int×PyData)}{k:List Int}:FE (.dict (CB m)) (KT k)=Pn m k:=by
 unfold FE KT
 dsimp only
 rw[KG,KH];rfl
end DL
end
section
namespace DL
open PySem L2
variable {K:KW}
end DL
end
section
namespace L2
open PySem
end L2
namespace DL
open PySem L2
variable {K:KW}
end DL
end
section
namespace EnG
open PySem PyProof.Rows
section
variable {prog:Program} {w:World} {A:Around} {E:Value->Shared->Prop} {s:Shared}
end
end EnG
namespace EnG
open PySem PyProof.Rows
open Sem (wp)
open AutoSeq1 (wpAny_loadPart')
section
variable {prog:Program} {w:World} {A:Around} {E:Value->Shared->Prop} {s:Shared}
end
end EnG
namespace L2
open PySem PySem.Spec PyProof.Rows EnG
section
variable {X:Cx} {elts:List Expr} {tp:Pos}
end
end L2
end
section
namespace DL
open PySem L2 PyProof.Rows
variable {K:KW}
theorem W5{own:Nat}{fr:List Nat}{wi:TI}{it:DI}{tg:TG}{g:DG}{tc:TT}{c:DT}{te:TE}{e:DX}{fe:Bool}(hi:IT2 K wi it)(hg:TG1 K tg g)(hc:T K tc c)(he:E K te fe e):E K (tLC own fr wi tg tc te) true (dLC own fr it g c e):=by
 refine⟨fun τ d τ' e=>?_,?_⟩
 ·unfold dLC at e
  obtain⟨⟨x,τ1⟩,e1,e⟩:=oB e
  split at e
  ·obtain⟨z,e3,e⟩:=oM e
   cases e;exact hi.like _ _ _ e1
  ·cases e
 intro S M τ σ H Q d τ' r ee q
 unfold dLC at ee
 obtain⟨⟨ds,τ1⟩,e1,ee⟩:=oB ee
 split at ee
 ·rename_i hz
  obtain⟨hz,hnm⟩:=hz
  have hz:ds.length<=sizeLine:=hz
  obtain⟨⟨acc,τb⟩,e3,ee⟩:=oM ee
  obtain⟨rfl,rfl⟩:d = .list acc/\τ'=τ1:=by cases ee;exact⟨rfl,rfl⟩
  refine hi.run S M τ σ H _ ds _ r e1 fun J H1 r1 c1 iJ=>?_
  intro D hD
  -- nothing of the def may be changed in the block
  refine⟨fun i m ys σ' H'=>∃τb' acc',R K (fun b=>S b\/b=D) (fun _=>False) τb' σ' H'/\Keep S H1 (fun b=>S b\/b=D) H'/\Chg (fun b=>b=D) H1 H'/\IsL K (hid (fun b=>S b\/b=D) H') acc' ys/\H' D=some (.lst ys)/\ys.length<=i/\i<=ds.length/\m=ds.length-i/\BF g c e (ds.drop i) acc' τb'=some (acc,τb),?_,?_⟩
  ·have s:=BS hD (HO.lst [])
   have k:Keep S H1 (fun b=>S b\/b=D) (upd H1 D (.lst [])):=fun b o hn e=>by
    have:=Am e hD
    exact⟨fun z=>z.elim hn this,s b o e⟩
   refine⟨ds.length,FG own fr τ',[],⟨?_,?_,?_,?_,?_,fun a h=>h.elim,?_,GR.nil N0⟩,k,.of s,rfl,AT,Nat.le_refl _,Nat.zero_le _,by simp,by simpa using e3⟩
   ·unfold blk FG;simp
   ·intro i x e
    obtain⟨kk,j,rfl,ej,et⟩:=Br e
    obtain⟨v,h1,h2⟩:=r1.dat j x et
    exact⟨v,FF ej h1,h2.mono k.same⟩
   ·intro i xs e
    obtain⟨kk,j,rfl,ej,et⟩:=Br e
    have:=List.all_eq_true.mp hnm j (List.mem_of_getElem? ej)
    rw[isM_iff.mpr ⟨xs,et⟩]at this
    cases this
   ·intro i x e
    obtain⟨kk,j,rfl,ej,et⟩:=Br e
    obtain⟨a,vs,h1,h2,h3⟩:=r1.cst j x et
    exact⟨a,vs,FF ej h1,k.same.seq h2,h3.mono k.same⟩
   ·intro i j xs ys a e
    obtain⟨kk,j',rfl,ej,et⟩:=Br e
    have:=List.all_eq_true.mp hnm j' (List.mem_of_getElem? ej)
    rw[isM_iff.mpr ⟨xs,et⟩]at this
    cases this
   ·rintro a (h|rfl)
    ·obtain⟨o,e⟩:=r1.ex a h
     exact⟨o,s _ _ e⟩
    ·exact⟨_,AT⟩
  ·rintro i m ys σ' H' ⟨τb',acc',rb,k,ch,la,hHD,hyl,hil,rfl,hl⟩
   obtain⟨I1,I2⟩:=iJ _ _ k (fun _=>rb.fresh)
   by_cases hlt:i<ds.length
   ·right
    have ed:ds[i]?=some ds[i]:=List.getElem?_eq_getElem hlt
    obtain⟨go,yl⟩:=I1 i _ ed
    refine⟨go,fun x H2 y=>?_⟩
    obtain⟨sm,ix⟩:=yl x H2 y
    have rb:=rb.same sm
    have k:=k.trans (Same.keep sm)
    have ch:=ch.trans (.of sm)
    have la:=la.mono (Same.keep sm).same
    have hHD:=sm _ _ hHD
    rw[List.drop_eq_getElem_cons hlt,BF]at hl
    obtain⟨τ2,e2,hl⟩:=oB hl
    obtain⟨⟨b,τ3⟩,e4,hl⟩:=oB hl
    refine hg.run _ _ τb' σ' H2 x _ τ2 _ rb ix e2 fun σ3 r3 k3=>?_
    refine hc.run _ _ τ2 σ3 H2 _ b τ3 r3 e4 fun H4 r4 c4=>?_
    have s4:Same H2 H4:=fun b o e=>c4 b o (fun z=>z) e
    cases b with
    |false =>
     rw[if_neg Bool.false_ne_true]
     exact⟨ds.length-(i+1),by omega,τ3,acc',r4,k.trans (Same.keep s4),ch.trans (.of s4),la.mono (Same.keep s4).same,s4 _ _ hHD,by omega,hlt,rfl,hl⟩
    |true =>
     rw[if_pos rfl]
     rw[if_pos rfl]at hl
     obtain⟨⟨z,τ5⟩,e5,hl⟩:=oB hl
     refine he.weak.run _ _ τ3 σ3 H4 _ z τ5 r4 e5 fun v H5 r5 c5 i5=>?_
     have s5:Same H2 H5:=s4.trans fun b o e=>c5 b o (fun z=>z) e
     have hD5:=s5 _ _ hHD
     refine⟨hD5,by omega,ds.length-(i+1),by omega,τ5,acc'++[z],?_,?_,?_,?_,AT,by rw[List.length_append,List.length_singleton];omega,hlt,rfl,hl⟩
     ·have kk:Keep (fun b=>S b\/b=D) H5 (fun b=>S b\/b=D) (upd H5 D (.lst (ys++[v]))):=fun b o hn e=>⟨hn,by rw[AO (fun z=>hn (.inr z))];exact e⟩
      refine⟨r5.len,fun j x e=>let ⟨u,a,b⟩:=r5.dat j x e;⟨u,a,b.mono kk.same⟩,fun j xs e=>let ⟨_,_,_,h,_⟩:=r5.mt j xs e;h.elim,fun j xs e=>let ⟨a,vs,h1,h2,h3⟩:=r5.cst j xs e;⟨a,vs,h1,kk.same.seq h2,h3.mono kk.same⟩,r5.inj,fun _ h=>h.elim,fun a h=>?_,r5.gr.to (fun i d e=>⟨e,rfl⟩) (fun j o a e q=>.inl ⟨o,e,q⟩) (fun a h _=>h.elim) (tsS kk.same)⟩
      by_cases e:a=D
      ·subst e;exact⟨_,AT⟩
      ·obtain⟨o,q⟩:=r5.ex a h
       exact⟨o,by rw[AO e];exact q⟩
     ·refine k.trans fun b o hn e=>⟨hn,?_⟩
      rw[AO (fun z=>hn (.inr z))]
      exact s5 _ _ e
     ·refine ch.trans fun b o hn e=>?_
      rw[AO hn]
      exact s5 _ _ e
     ·refine(IY (la.mono (Same.keep s5).same) i5).mono (Keep.same fun b o hn e=>⟨hn,?_⟩)
      rw[AO (fun z=>hn (.inr z))]
      exact e
   ·left
    have e:i=ds.length:=by omega
    subst e
    rw[List.drop_length,BF]at hl
    cases hl
    refine⟨I2 _ (Nat.le_refl _),?_⟩
    have s:Same H1 H':=fun b o e=>ch b o (Am e hD) e
    refine q _ H' (r1.same s) (c1.trans (.of s)) ⟨.l acc,D,_,rfl,rfl,r1.none c1 hD,hHD,ys,rfl,la⟩
 ·cases ee
end DL
end
section
namespace L2
open PySem PySem.Spec PyProof.Rows
section
variable {X:Cx} {pos:Pos}
end
end L2
namespace DL
open PySem L2
variable {K:KW}
end DL
end
section
namespace DL
open PySem L2
variable {K:KW}
theorem RF.frz{F:Frm}{S M:Addr->Prop}{τ:DS}{σ:St}{H:Hp}(f:RF K F S M τ σ H){i:Nat}{w:Ow}{p:Addr}(hi:τ[i]?=some (some w.L))(hp:σ[i]?=some (some (.ref p)))(hnp:F.ar.length<=i) :
  RF K F (fun b=>S b/\b≠p) (fun b=>M b/\b≠p) (τ.set i (some (.d w.D))) σ H:=by
 have np:¬F.M p:=fun z=>by
  obtain⟨j,hj⟩:=f.fma p z
  obtain⟨o,ho⟩:=f.pm j _ hj
  have:=f.r.inj j i o w p ho hi (f.par j _ hj) hp
  subst this
  have:=(List.getElem?_eq_some_iff.mp hj).1
  omega
 have ns:¬F.S p:=fun z=>by
  obtain⟨o,ho⟩:=f.fs p z
  obtain⟨a,h,h1,h2,_⟩:=f.r.mt i w hi
  rw[hp]at h1;cases h1
  rcases f.new p h2 with q|q
  ·exact np q
  ·rw[q]at ho;cases ho
 exact {
  r:=DL.frz f.r hi hp
  sS:=fun a z=>⟨f.sS a z,fun e=>ns (e▸z)⟩
  old:=f.old
  new:=fun a z=>f.new a z.1
  fm:=fun a z=>⟨f.fm a z,fun e=>np (e▸z)⟩
  fs:=f.fs
  fsub:=f.fsub
  snew:=fun a z=>f.snew a z.1
  par:=f.par
  pm:=fun j v e=>by
   obtain⟨o,ho⟩:=f.pm j v e
   have hj:j≠i:=fun z=>by
    subst z
    have:=(List.getElem?_eq_some_iff.mp e).1
    omega
   exact⟨o,by rw[List.getElem?_set_ne (Ne.symm hj)];exact ho⟩
  fma:=f.fma }
end DL
end
section
namespace L2
open PySem PySem.Spec PyProof.Rows
section
variable {X:Cx}
end
end L2
namespace DL
open PySem L2 PyProof.Rows
variable {K:KW}
end DL
end
section
namespace L2
open PySem PySem.Spec PyProof.Rows
section
variable {M:Model} {A:Around} {E:Value->Shared->Prop} {s:Shared} {N:Addr->Prop} {base:Heap} {env:Env} {outer:List Env} {L e C:Addr} {Q:Unit->Shared->Prop}
end
end L2
end
section
namespace L2
open PySem PySem.Spec PyProof.Rows
end L2
end
section
namespace L2
open PySem PySem.Spec PyProof.Rows
section
variable {X:Cx} {pins:List (Addr×Obj)} {σ:St} {H H':Hp} {s s3:Shared} {ea C:Addr} {fl:Value}
end
section
variable {X:Cx} {k:Nat} {f C D':Addr} {fd:FuncData} {ps:List Str} {sp:Sp} {x cn:Str} {p pos p1 np hp p2:Pos} {e:Expr} {es:List Expr} {t:TA} {b₀:Stmt} {suite:List Stmt} {ts:Addr->TS}
end
end L2
end
section
namespace L2
open PySem PySem.Spec PyProof.Rows PySem.W
section
variable {prog:Program} {w:World} {A:Around} {E:Value->Shared->Prop} {s:Shared} {K:Frag} {x C:Addr} {ox:Obj}
end
section
variable {X:Cx} {ea C:Addr} {oe:Obj}
end
end L2
end
section
namespace L2
open PySem PySem.Spec PyProof.Rows
section
variable {X:Cx} {k i:Nat} {f C D':Addr} {fd:FuncData} {ps:List Str} {sp:Sp} {x cn n:Str} {p pos p1 np hp p2:Pos} {e:Expr} {es:List Expr} {t:TA} {b₀:Stmt} {suite:List Stmt} {ts:Addr->TS}
end
end L2
end
section
namespace L2
open PySem PySem.Spec PyProof.Rows
end L2
namespace DL
open PySem L2
instance {i j:Int}:Decidable (VR i j):=by unfold VR Bd;infer_instance
end DL
end
section
namespace L2
open PySem PySem.Spec PyProof.Rows
end L2
namespace DL
open PySem L2 PyProof.Rows
variable {K:KW}
end DL
end
section
namespace DL
open PySem L2
variable {K:KW}
section
variable {S S':Addr->Prop} {H:Hp}
mutual
theorem Dp.is(k:TSm (hid S H) (hid S' H)):∀{d:PyData} {v:V} {F:List Addr},(∀a∈F,¬S' a)->Dp K S H d v F->Is K (hid S' H) d v
 |.none,_,_,_,h=>h.1
 |.bool _,_,_,_,h=>h.1
 |.int _,_,_,_,h=>h.1
 |.str _,_,_,_,h=>h.1
 |.tuple _,_,_,f,⟨a,vs,e,h,l⟩=>⟨a,vs,e,k.tup h,DpL.is k f l⟩
 |.list _,_,_,f,⟨a,vs,G,e,e2,h,l⟩=>⟨a,vs,e,hid_iff.mpr ⟨f a (by rw[e2];exact List.mem_cons_self ..),h⟩,DpL.is k (fun b hb=>f b (by rw[e2];exact List.mem_cons_of_mem _ hb)) l⟩
theorem DpL.is(k:TSm (hid S H) (hid S' H)):∀{ds:List PyData} {vs:List V} {F:List Addr},(∀a∈F,¬S' a)->DpL K S H ds vs F->IsL K (hid S' H) ds vs
 |[],_,_,_,h=>h.1
 |_::_,_,_,f,⟨x,xs,F1,F2,e,e2,h,l⟩=>⟨x,xs,e,Dp.is k (fun b hb=>f b (by rw[e2];exact List.mem_append_left _ hb)) h,DpL.is k (fun b hb=>f b (by rw[e2];exact List.mem_append_right _ hb)) l⟩
end
mutual
theorem Dp.lst:∀{d:PyData} {v:V} {F:List Addr},Dp K S H d v F->∀a∈F,∃vs,H a=some (.lst vs)
 |.none,_,_,h,a,q=>by rw[h.2]at q;cases q
 |.bool _,_,_,h,a,q=>by rw[h.2]at q;cases q
 |.int _,_,_,h,a,q=>by rw[h.2]at q;cases q
 |.str _,_,_,h,a,q=>by rw[h.2]at q;cases q
 |.tuple _,_,_,⟨_,vs,e,h,l⟩,a,q=>DpL.lst l a q
 |.list _,_,_,⟨b,vs,G,e,e2,h,l⟩,a,q=>by
  rw[e2]at q
  rcases List.mem_cons.mp q with rfl|q
  ·exact⟨vs,h⟩
  ·exact DpL.lst l a q
theorem DpL.lst:∀{ds:List PyData} {vs:List V} {F:List Addr},DpL K S H ds vs F->∀a∈F,∃vs,H a=some (.lst vs)
 |[],_,_,h,a,q=>by rw[h.2]at q;cases q
 |_::_,_,_,⟨x,xs,F1,F2,e,e2,h,l⟩,a,q=>by
  rw[e2]at q
  rcases List.mem_append.mp q with q|q
  ·exact Dp.lst h a q
  ·exact DpL.lst l a q
end
mutual
theorem Dp.fix:∀{d:PyData} {v:V},Dm d=true->Is K (hid S H) d v->Dp K S H d v []
 |.none,_,_,h=>⟨h,rfl⟩
 |.bool _,_,_,h=>⟨h,rfl⟩
 |.int _,_,_,h=>⟨h,rfl⟩
 |.str _,_,_,h=>⟨h,rfl⟩
 |.tuple _,_,f,⟨a,vs,e,h,l⟩=>⟨a,vs,e,h,DpL.fix f l⟩
 |.list _,_,f,_=>absurd f Bool.false_ne_true
 |.dict _,_,f,_=>absurd f Bool.false_ne_true
theorem DpL.fix:∀{ds:List PyData} {vs:List V},fixDs ds=true->IsL K (hid S H) ds vs->DpL K S H ds vs []
 |[],_,_,h=>⟨h,rfl⟩
 |_::_,_,f,⟨x,xs,e,h,l⟩=>⟨x,xs,[],[],e,rfl,Dp.fix (by rw[fixDs,Bool.and_eq_true]at f;exact f.1) h,DpL.fix (by rw[fixDs,Bool.and_eq_true]at f;exact f.2) l⟩
end
mutual
theorem Dp.unfix:∀{d:PyData} {v:V} {F:List Addr},Dm d=true->Dp K S H d v F->F=[]/\Is K (hid S H) d v
 |.none,_,_,_,h=>⟨h.2,h.1⟩
 |.bool _,_,_,_,h=>⟨h.2,h.1⟩
 |.int _,_,_,_,h=>⟨h.2,h.1⟩
 |.str _,_,_,_,h=>⟨h.2,h.1⟩
 |.tuple _,_,_,f,⟨a,vs,e,h,l⟩=>let ⟨z,y⟩:=DpL.unfix f l;⟨z,a,vs,e,h,y⟩
 |.list _,_,_,f,_=>absurd f Bool.false_ne_true
 |.dict _,_,_,f,_=>absurd f Bool.false_ne_true
theorem DpL.unfix:∀{ds:List PyData} {vs:List V} {F:List Addr},fixDs ds=true->DpL K S H ds vs F->F=[]/\IsL K (hid S H) ds vs
 |[],_,_,_,h=>⟨h.2,h.1⟩
 |_::_,_,_,f,⟨x,xs,F1,F2,e,e2,h,l⟩=>by
  rw[fixDs,Bool.and_eq_true]at f
  obtain⟨rfl,y1⟩:=Dp.unfix f.1 h
  obtain⟨rfl,y2⟩:=DpL.unfix f.2 l
  exact⟨e2,x,xs,e,y1,y2⟩
end
theorem DpL.length:∀{ds:List PyData} {vs:List V} {F:List Addr},DpL K S H ds vs F->vs.length=ds.length
 |[],_,_,h=>by rw[h.1];rfl
 |_::_,_,_,⟨x,xs,F1,F2,e,e2,h,l⟩=>by rw[e,List.length_cons,List.length_cons,DpL.length l]
theorem DpL.snoc:∀{ds:List PyData} {vs:List V} {F:List Addr} {d:PyData} {v:V} {G:List Addr},DpL K S H ds vs F->Dp K S H d v G->DpL K S H (ds++[d]) (vs++[v]) (F++G)
 |[],_,_,d,v,G,⟨rfl,rfl⟩,h=>⟨v,[],G,[],rfl,by simp,h,rfl,rfl⟩
 |_::_,_,_,d,v,G,⟨x,xs,F1,F2,e,e2,h,l⟩,h2=>⟨x,xs++[v],F1,F2++G,by rw[e];rfl,by rw[e2,List.append_assoc],h,DpL.snoc l h2⟩
theorem DpL.at:∀{ds:List PyData} {vs:List V} {F:List Addr} {y:Nat} {d:PyData},DpL K S H ds vs F->F.Nodup->ds[y]?=some d->∃x Fy,vs[y]?=some x/\(∀a∈Fy,a∈F)/\Fy.Nodup/\Dp K S H d x Fy /\
  ∀(H':Hp) (d':PyData),TSm (hid S H) (hid S H')->(∀a∈F,a∉Fy->H' a=H a)->Dp K S H' d' x Fy->DpL K S H' (ds.set y d') vs F
 |[],_,_,_,_,_,_,e=>by simp at e
 |d0::ds,_,_,0,d,⟨x,xs,F1,F2,e,e2,h,l⟩,hn,q=>by
  subst e e2
  simp at q
  subst q
  obtain⟨n1,n2,n3⟩:=List.nodup_append.mp hn
  refine⟨x,F1,rfl,fun a ha=>List.mem_append_left _ ha,n1,h,fun H' d' ts hh hd=>⟨x,xs,F1,F2,rfl,rfl,hd,l.mono ts fun a ha=>hh a (List.mem_append_right _ ha) fun z=>n3 a z a ha rfl⟩⟩
 |d0::ds,_,_,y+1,d,⟨x,xs,F1,F2,e,e2,h,l⟩,hn,q=>by
  subst e e2
  obtain⟨n1,n2,n3⟩:=List.nodup_append.mp hn
  obtain⟨x',Fy,a1,a2,a3,a4,a5⟩:=DpL.at (y:=y) (d:=d) l n2 (by simpa using q)
  refine⟨x',Fy,by simpa using a1,fun a ha=>List.mem_append_right _ (a2 a ha),a3,a4,fun H' d' ts hh hd=>⟨x,xs,F1,F2,rfl,rfl,h.mono ts fun a ha=>hh a (List.mem_append_left _ ha) fun z=>n3 a ha a (a2 a z) rfl,a5 H' d' ts (fun a ha=>hh a (List.mem_append_right _ ha)) hd⟩⟩
end
theorem Dp.set2{S:Addr->Prop}{H:Hp}{rows cs:List PyData}{v:V}{F:List Addr}{y x:Nat}{d3:PyData}{v3:V}(h:Dp K S H (.list rows) v F)(hn:F.Nodup)(hS:∀a∈F,S a)(hy:rows[y]?=some (.list cs))(hf:fixDs cs=true)(f3:Dm d3=true)(i3:Is K (hid S H) d3 v3) :
  ∃a vs p cvs,v = .ref a/\H a=some (.lst vs)/\vs.length=rows.length/\a∈F/\vs[y]?=some (.ref p)/\p∈F/\H p=some (.lst cvs)/\cvs.length=cs.length/\Dp K S (upd H p (.lst (cvs.set x v3))) (.list (rows.set y (.list (cs.set x d3)))) v F:=by
 obtain⟨a,vs,G,rfl,rfl,ha,l⟩:=h
 obtain⟨na,nG⟩:=List.nodup_cons.mp hn
 obtain⟨u,Fy,h1,h2,h3,⟨p,cvs,Gy,rfl,rfl,hp,lc⟩,h5⟩:=DpL.at l nG hy
 obtain⟨rfl,lc'⟩:=DpL.unfix hf lc
 have pG:p∈G:=h2 p (List.mem_cons_self ..)
 have pF:p∈a::G:=List.mem_cons_of_mem _ pG
 have ap:a≠p:=fun z=>na (z▸pG)
 refine⟨a,vs,p,cvs,rfl,ha,l.length,List.mem_cons_self ..,h1,pF,hp,lc'.length,a,vs,G,rfl,rfl,by rw[AO ap];exact ha,?_⟩
 have eh:hid S (upd H p (.lst (cvs.set x v3)))=hid S H:=DC (hS p pF)
 refine h5 _ _ (by rw[eh];exact .refl) (fun b hb hn=>AO fun z=>hn (by rw[z];exact List.mem_cons_self ..)) ⟨p,_,[],rfl,rfl,AT,?_⟩
 have fs:∀(cs:List PyData) (x:Nat),fixDs cs=true->fixDs (cs.set x d3)=true:=by
  intro cs
  induction cs with
  |nil=>intro x h;exact h
  |cons c cs ih =>
   intro x h
   rw[fixDs,Bool.and_eq_true]at h
   cases x with
   |zero=>rw[List.set_cons_zero,fixDs,Bool.and_eq_true];exact⟨f3,h.2⟩
   |succ x=>rw[List.set_cons_succ,fixDs,Bool.and_eq_true];exact⟨h.1,ih x h.2⟩
 exact DpL.fix (fs cs x hf) (by rw[eh];exact KN lc' i3)
def mem(F:List Addr)(b:Addr):Prop:=b∈F
theorem Po{S M:Addr->Prop}{τ:DS}{σ:St}{H:Hp}(r:R K S M τ σ H){i:Nat}{ds:List PyData}(hi:τ[i]?=some (some (.g (.list ds)))) :
  ∃v F,σ[i]?=some (some v)/\Dp K S H (.list ds) v F/\F.Nodup/\(∀a∈F,M a)/\(∀(j:Nat) (o:Ow) (a:Addr),τ[j]?=some (some o.L)->σ[j]?=some (some (.ref a))->a∉F)/\R K (fun b=>S b/\b∉F) (fun b=>M b/\b∉F) (τ.set i (some (.d (.list ds)))) σ H:=by
 obtain⟨φ,g⟩:=r.gr
 obtain⟨⟨v,g1,g2⟩,g3,g4,g5,g6⟩:=g i _ hi
 have g2:Dp K S H (.list ds) v (φ i):=g2
 refine⟨v,φ i,g1,g2,g3,g4,g5,?_⟩
 have hlt:i<τ.length:=(List.getElem?_eq_some_iff.mp hi).1
 have ne:∀j,j≠i->(τ.set i (some (.d (.list ds))))[j]?=τ[j]?:=fun j hj=>List.getElem?_set_ne (Ne.symm hj)
 have se:(τ.set i (some (.d (.list ds))))[i]?=some (some (.d (.list ds))):=List.getElem?_set_self hlt
 have k:Same (hid S H) (hid (fun b=>S b/\b∉φ i) H):=B9 fun a z=>z.1
 have mn:∀(j:Nat) (ys:Ow),(τ.set i (some (.d (.list ds))))[j]?=some (some ys.L)->j≠i/\τ[j]?=some (some ys.L):=fun j ys e=>by
  by_cases hj:j=i
  ·subst hj;rw[se]at e;exact absurd (Option.some.inj (Option.some.inj e)).symm Ow.not_d
  ·rw[ne j hj]at e;exact⟨hj,e⟩
 have cs:∀(j:Nat) (ys:List PyData),(τ.set i (some (.d (.list ds))))[j]?=some (some (.c ys))->τ[j]?=some (some (.c ys)):=fun j ys e=>by
  by_cases hj:j=i
  ·subst hj;rw[se]at e;cases e
  ·rw[ne j hj]at e;exact e
 refine⟨by rw[List.length_set];exact r.len,fun j x e=>?_,fun j ys e=>?_,fun j ys e=>let ⟨a,vs,h1,h2,h3⟩:=r.cst j ys (cs j ys e);⟨a,vs,h1,k.seq h2,h3.mono k⟩,fun j1 j2 ys zs b e1 e2 f1 f2=>?_,fun a h=>⟨r.sub a h.1,h.2⟩,fun a h=>r.ex a h.1,?_⟩
 ·by_cases hj:j=i
  ·subst hj
   rw[se]at e
   cases e
   exact⟨v,g1,g2.is (tsS k) fun a ha z=>z.2 ha⟩
  ·rw[ne j hj]at e
   obtain⟨v,h1,h2⟩:=r.dat j x e
   exact⟨v,h1,h2.mono k⟩
 ·obtain⟨hj,e⟩:=mn j ys e
  obtain⟨b,us,h1,h2,h3,h4⟩:=r.mt j ys e
  exact⟨b,us,h1,⟨h2,g5 j ys b e h1⟩,h3,h4.mono k⟩
 ·exact r.inj j1 j2 ys zs b (mn _ _ e1).2 (mn _ _ e2).2 f1 f2
 ·refine⟨φ,fun j x e=>?_⟩
  by_cases hj:j=i
  ·subst hj;rw[se]at e;cases e
  ·rw[ne j hj]at e
   obtain⟨⟨v',q1,q2⟩,q3,q4,q5,q6⟩:=g j x e
   refine⟨⟨v',q1,q2.mono (tsS k) fun _ _=>rfl⟩,q3,fun a ha=>⟨q4 a ha,q6 i _ (Ne.symm hj) hi a ha⟩,fun j' o a z1 z2=>q5 j' o a (mn j' o z1).2 z2,fun j' x' hj' z=>?_⟩
   by_cases hj2:j'=i
   ·subst hj2;rw[se]at z;cases z
   ·rw[ne j' hj2]at z;exact q6 j' x' hj' z
theorem Ry{S M:Addr->Prop}{τ τ1:DS}{σ:St}{H H3 H4:Hp}(r:R K S M τ σ H){i:Nat}{d d':PyData}{v:V}{F:List Addr}(hi:τ[i]?=some (some (.g d)))(hv:σ[i]?=some (some v))(hn:F.Nodup)(hM:∀a∈F,M a)
  (ho:∀(j:Nat) (o:Ow) (a:Addr),τ[j]?=some (some o.L)->σ[j]?=some (some (.ref a))->a∉F)
  (r1:R K (fun b=>S b/\b∉F) (fun b=>M b/\b∉F) τ1 σ H3) (lk:Like (τ.set i (some (.d d))) τ1) (c:Chg (fun b=>M b/\b∉F) H H3) (ok:τ1.all okM=true)
  (hl3:∀a∈F,∃vs,H3 a=some (.lst vs)) (c4:∀b,b∉F->H4 b=H3 b) (hd:Dp K S H4 d' v F):R K S M (τ1.set i (some (.g d'))) σ H4:=by
 have hlt:i<τ.length:=(List.getElem?_eq_some_iff.mp hi).1
 have hl1:τ1.length=τ.length:=by have:=lk.1;rw[List.length_set]at this;exact this
 have hlt1:i<τ1.length:=by omega
 have ne:∀j,j≠i->(τ1.set i (some (.g d')))[j]?=τ1[j]?:=fun j hj=>List.getElem?_set_ne (Ne.symm hj)
 have se:(τ1.set i (some (.g d')))[i]?=some (some (.g d')):=List.getElem?_set_self hlt1
 have ne0:∀j,j≠i->(τ.set i (some (.d d)))[j]?=τ[j]?:=fun j hj=>List.getElem?_set_ne (Ne.symm hj)
 have k : Keep S H S H4 := fun b o h e => ⟨h, by
  have hb:b∉F:=fun z=>h (r.sub b (hM b z))
  rw[c4 b hb];exact c b o (fun z=>h (r.sub b z.1)) e⟩
 have ts:TSm (hid (fun b=>S b/\b∉F) H3) (hid S H4):=fun b o e nl ne=>by
  obtain⟨e1,e2⟩:=hid_iff.mp e
  have hb:b∉F:=fun z=>by
   obtain⟨vs,q⟩:=hl3 b z
   rw[e2]at q;cases q;exact nl _ rfl
  exact hid_iff.mpr ⟨fun z=>e1 ⟨z,hb⟩,by rw[c4 b hb];exact e2⟩
 have own:∀(j:Nat) (ys:Ow),(τ1.set i (some (.g d')))[j]?=some (some ys.L)->j≠i/\τ1[j]?=some (some ys.L):=fun j ys e=>by
  by_cases hj:j=i
  ·subst hj;rw[se]at e;exact absurd (Option.some.inj (Option.some.inj e)).symm Ow.not_g
  ·rw[ne j hj]at e;exact⟨hj,e⟩
 have mm:∀(j:Nat) (ys:Ow),j≠i->τ1[j]?=some (some ys.L)->∃zs:Ow,τ[j]?=some (some zs.L):=fun j ys hj e=>by
  obtain⟨zs,q⟩:=(lk.own j).mp ⟨_,e⟩
  rw[ne0 j hj]at q
  exact⟨zs,q⟩
 have cs:∀(j:Nat) (ys:List PyData),(τ1.set i (some (.g d')))[j]?=some (some (.c ys))->τ[j]?=some (some (.c ys)):=fun j ys e=>by
  by_cases hj:j=i
  ·subst hj;rw[se]at e;cases e
  ·rw[ne j hj]at e
   have:=((lk.2 j).1.2 ys).mp e
   rw[ne0 j hj]at this
   exact this
 refine⟨by rw[List.length_set];exact r1.len,fun j x e=>?_,fun j ys e=>?_,fun j ys e=>let ⟨a,vs,h1,h2,h3⟩:=r.cst j ys (cs j ys e);⟨a,vs,h1,k.same.seq h2,h3.mono k.same⟩,fun j1 j2 ys zs b e1 e2 f1 f2=>?_,r.sub,fun a h=>?_,?_⟩
 ·by_cases hj:j=i
  ·subst hj;rw[se]at e;cases e
  ·rw[ne j hj]at e
   have:=((lk.2 j).1.1 x).mp e
   rw[ne0 j hj]at this
   obtain⟨v,h5,h6⟩:=r.dat j x this
   exact⟨v,h5,h6.mono k.same⟩
 ·obtain⟨hj,e⟩:=own j ys e
  obtain⟨b,ws,h5,h6,h7,h8⟩:=r1.mt j ys e
  have fx:okM (some ys.L)=true:=List.all_eq_true.mp ok (some ys.L) (List.mem_of_getElem? e)
  exact⟨b,ws,h5,h6.1,by rw[c4 b h6.2];exact h7,h8.monoT ts fx⟩
 ·obtain⟨g1,e1⟩:=own _ _ e1
  obtain⟨g2,e2⟩:=own _ _ e2
  obtain⟨_,q1⟩:=mm j1 ys g1 e1
  obtain⟨_,q2⟩:=mm j2 zs g2 e2
  exact r.inj _ _ _ _ b q1 q2 f1 f2
 ·by_cases e:a∈F
  ·obtain⟨vs,q⟩:=hd.lst a e;exact⟨_,q⟩
  ·obtain⟨o,q⟩:=r1.ex a ⟨h,e⟩;exact⟨o,by rw[c4 a e];exact q⟩
 ·obtain⟨φ,g⟩:=r1.gr
  refine⟨fun j=>if j=i then F else φ j,fun j x e=>?_⟩
  have gs:∀(j:Nat) (x:PyData),j≠i->(τ1.set i (some (.g d')))[j]?=some (some (.g x))->τ1[j]?=some (some (.g x)):=fun j x hj e=>by rw[ne j hj]at e;exact e
  by_cases hj:j=i
  ·subst hj
   rw[se]at e;cases e
   simp only[if_true]
   refine⟨⟨v,hv,DpT.of hd⟩,hn,hM,fun j' o a z1 z2=>?_,fun j' x' hj' z a ha=>?_⟩
   ·obtain⟨q1,q2⟩:=own j' o z1
    obtain⟨zs,q3⟩:=mm j' o q1 q2
    exact ho j' zs a q3 z2
   ·rw[if_neg hj']
    intro hq
    obtain⟨_,_,q4,_,_⟩:=g j' x' (gs j' x' hj' z)
    exact(q4 a hq).2 ha
  ·dsimp only
   simp only[if_neg hj]
   obtain⟨⟨v',q1,q2⟩,q3,q4,q5,q6⟩:=g j x (gs j x hj e)
   refine⟨⟨v',q1,q2.mono ts fun a ha=>c4 a (q4 a ha).2⟩,q3,fun a ha=>(q4 a ha).1,fun j' o a z1 z2=>q5 j' o a (own j' o z1).2 z2,fun j' x' hj' z a ha=>?_⟩
   by_cases hj2:j'=i
   ·rw[if_pos hj2];exact(q4 a ha).2
   ·rw[if_neg hj2];exact q6 j' x' hj' (gs j' x' hj2 z) a ha
end DL
end
section
namespace DL
open PySem L2
variable {K:KW}
theorem R.hideX{S M:Addr->Prop}{τ τ1:DS}{σ:St}{H H':Hp}(r:R K S M τ σ H){X:List Addr}(r1:R K S M τ1 σ H')(c:Chg M H H')(lk:Like τ τ1)(ok:∀(j:Nat) (o:Ow),τ1[j]?=some (some o.L)->okM (some o.L)=true)(hX:∀a∈X,H a=Option.none)(h':∀a∈X,∃vs,H' a=some (.lst vs)) :
  R K (fun b=>S b\/b∈X) M τ1 σ H':=by
 have k:Keep S H (fun b=>S b\/b∈X) H':=fun b o hn e=>⟨fun z=>z.elim hn (fun z=>by rw[hX b z]at e;cases e),c b o (fun z=>hn (r.sub b z)) e⟩
 have ts:TSm (hid S H') (hid (fun b=>S b\/b∈X) H'):=DH fun b z=>z.elim .inl fun z=>let ⟨vs,e⟩:=h' b z;.inr ⟨_,e,.inl ⟨vs,rfl⟩⟩
 refine⟨r1.len,fun j x e=>?_,fun j x e=>?_,fun j x e=>?_,r1.inj,fun b h=>.inl (r.sub b h),fun b h=>?_,r1.gr.to (fun i d e=>⟨e,rfl⟩) (fun j o a e q=>.inl ⟨o,e,q⟩) (fun a h _=>⟨h,rfl⟩) ts⟩
 ·obtain⟨v,h1,h2⟩:=r.dat j x (((lk.2 j).1.1 x).mp e)
  exact⟨v,h1,h2.mono k.same⟩
 ·obtain⟨b,vs,h1,h2,h3,h4⟩:=r1.mt j x e
  exact⟨b,vs,h1,h2,h3,h4.monoT ts (ok j x e)⟩
 ·obtain⟨b,vs,h1,h2,h3⟩:=r.cst j x (((lk.2 j).1.2 x).mp e)
  exact⟨b,vs,h1,k.same.seq h2,h3.mono k.same⟩
 ·rcases h with h|h
  ·exact r1.ex b h
  ·obtain⟨vs,e⟩:=h' b h
   exact⟨_,e⟩
theorem RF.hideG{F:Frm}{S M:Addr->Prop}{τ τ1:DS}{σ:St}{H H':Hp}(f:RF K F S M τ σ H){X:List Addr}(r1:R K S M τ1 σ H')(c:Chg M H H')(lk:Like τ τ1)(ok:τ1.all okM=true)(hX:∀a∈X,H a=none)(h':∀a∈X,∃vs,H' a=some (.lst vs)) :
  RF K F (fun b=>S b\/b∈X) M τ1 σ H':=by
 have f1:=f.step r1 c lk
 exact⟨f.r.hideX r1 c lk (fun j o e=>List.all_eq_true.mp ok (some o.L) (List.mem_of_getElem? e)) hX h',fun b h=>.inl (f.sS b h),f1.old,f.new,f.fm,f.fs,f.fsub,fun b h=>h.elim (f.snew b) fun z=>.inr (f.hnone (hX b z)),f.par,f1.pm,f.fma⟩
theorem RF.newG{F:Frm}{S M:Addr->Prop}{τ:DS}{σ:St}{H:Hp}(f:RF K F S M τ σ H){X:List Addr}{i:Nat}{d:PyData}{v:V}(hi:i<τ.length)(hnp:F.ar.length<=i)(hS:∀a∈X,S a)(hM:∀a∈X,¬M a)(hF:∀a∈X,F.H a=none)(hn:X.Nodup)
  (h:DpT K S H d v X):RF K F S (fun b=>M b\/b∈X) (τ.set i (some (.g d))) (σ.set i (some v)) H:=by
 have hs:i<σ.length:=by rw[f.r.len];exact hi
 have ne:∀j,j≠i->(τ.set i (some (.g d)))[j]?=τ[j]?:=fun j hj=>List.getElem?_set_ne (Ne.symm hj)
 have ne':∀j,j≠i->(σ.set i (some v))[j]?=σ[j]?:=fun j hj=>List.getElem?_set_ne (Ne.symm hj)
 have se:(τ.set i (some (.g d)))[i]?=some (some (.g d)):=List.getElem?_set_self hi
 have se':(σ.set i (some v))[i]?=some (some v):=List.getElem?_set_self hs
 have own:∀(j:Nat) (ys:Ow),(τ.set i (some (.g d)))[j]?=some (some ys.L)->j≠i/\τ[j]?=some (some ys.L):=fun j ys e=>by
  by_cases hj:j=i
  ·subst hj;rw[se]at e;exact absurd (Option.some.inj (Option.some.inj e)).symm Ow.not_g
  ·rw[ne j hj]at e;exact⟨hj,e⟩
 have jn:∀{j:Nat} {v:V},F.ar[j]?=some (some v)->j≠i:=fun {j v} e z=>by
  subst z
  have:=(List.getElem?_eq_some_iff.mp e).1
  omega
 refine⟨⟨by rw[List.length_set,List.length_set];exact f.r.len,fun j x e=>?_,fun j ys e=>?_,fun j ys e=>?_,fun j1 j2 ys zs b e1 e2 f1 f2=>?_,fun b h=>h.elim (f.r.sub b) (hS b),f.r.ex,?_⟩,f.sS,f.old,fun b h=>h.elim (f.new b) fun z=>.inr (hF b z),fun b h=>.inl (f.fm b h),f.fs,f.fsub,f.snew,fun j v e=>?_,fun j v e=>?_,f.fma⟩
 ·by_cases hj:j=i
  ·subst hj;rw[se]at e;cases e
  ·rw[ne j hj]at e
   rw[ne' j hj]
   exact f.r.dat j x e
 ·obtain⟨hj,e⟩:=own j ys e
  rw[ne' j hj]
  obtain⟨b,us,h1,h2,h3,h4⟩:=f.r.mt j ys e
  exact⟨b,us,h1,.inl h2,h3,h4⟩
 ·by_cases hj:j=i
  ·subst hj;rw[se]at e;cases e
  ·rw[ne j hj]at e
   rw[ne' j hj]
   exact f.r.cst j ys e
 ·obtain⟨h1,e1⟩:=own _ _ e1
  obtain⟨h2,e2⟩:=own _ _ e2
  rw[ne' j1 h1]at f1
  rw[ne' j2 h2]at f2
  exact f.r.inj _ _ _ _ b e1 e2 f1 f2
 ·obtain⟨φ,g⟩:=f.r.gr
  refine⟨fun j=>if j=i then X else φ j,fun j x e=>?_⟩
  by_cases hj:j=i
  ·subst hj
   rw[se]at e;cases e
   simp only[if_true]
   refine⟨⟨v,se',h⟩,hn,fun a ha=>.inr ha,fun j' o a z1 z2 ha=>?_,fun j' x' hj' z a ha=>?_⟩
   ·obtain⟨q1,q2⟩:=own j' o z1
    rw[ne' j' q1]at z2
    obtain⟨b,us,h1,h2,_⟩:=f.r.mt j' o q2
    rw[z2]at h1;cases h1
    exact hM a ha h2
   ·rw[if_neg hj']
    intro hq
    rw[ne j' hj']at z
    obtain⟨_,_,q4,_,_⟩:=g j' x' z
    exact hM a ha (q4 a hq)
  ·dsimp only
   simp only[if_neg hj]
   rw[ne j hj]at e
   obtain⟨⟨v',q1,q2⟩,q3,q4,q5,q6⟩:=g j x e
   refine⟨⟨v',by rw[ne' j hj];exact q1,q2⟩,q3,fun a ha=>.inl (q4 a ha),fun j' o a z1 z2=>?_,fun j' x' hj' z a ha=>?_⟩
   ·obtain⟨w1,w2⟩:=own j' o z1
    rw[ne' j' w1]at z2
    exact q5 j' o a w2 z2
   ·by_cases hj2:j'=i
    ·rw[if_pos hj2];exact fun hq=>hM a hq (q4 a ha)
    ·rw[if_neg hj2]
     rw[ne j' hj2]at z
     exact q6 j' x' hj' z a ha
 ·rw[ne' j (jn e)]
  exact f.par j v e
 ·rw[ne j (jn e)]
  exact f.pm j v e
structure EG(K:KW)(t:TE)(f:DX):Prop where
 like:∀τ d τ',f τ=some (d,τ')->Like τ τ'
 isl:∀τ d τ',f τ=some (d,τ')->∃ds,d = .list ds
 run:∀S M τ σ H (Q:VK) d τ',R K S M τ σ H->f τ=some (d,τ')->(∀v H' F,R K S M τ' σ H'->Chg M H H'->F.Nodup->(∀a∈F,H a=none)->Dp K S H' d v F->Q v H')->t σ H Q
structure EH(K:KW)(t:TE)(f:DX):Prop where
 like:∀τ d τ',f τ=some (d,τ')->Like τ τ'
 run:∀S M τ σ H (Q:VK) d τ',R K S M τ σ H->f τ=some (d,τ')->(∀v H' F,R K S M τ' σ H'->Chg M H H'->F.Nodup->(∀a∈F,H a=none)->Dp K S H' d v F->Q v H')->t σ H Q
theorem EG.h{t:TE}{f:DX}(h:EG K t f):EH K t f:=⟨h.like,h.run⟩
theorem SC{S:Addr->Prop}{H H':Hp}{ds:List PyData}{v:V}{F:List Addr}(hn:F.Nodup)(hF:∀a∈F,H a=none)(hS:∀a,H a=none->¬S a)(h:Dp K S H' (.list ds) v F):Res K true S H H' (.list ds) v:=by
 obtain⟨a,vs,G,rfl,rfl,ha,l⟩:=h
 obtain⟨na,nG⟩:=List.nodup_cons.mp hn
 refine⟨.l ds,a,.lst vs,rfl,rfl,hF a (List.mem_cons_self ..),ha,vs,rfl,l.is (DH fun b z=>?_) fun b hb z=>?_⟩
 ·rcases z with z|rfl
  ·exact .inl z
  ·exact .inr ⟨_,ha,.inl ⟨vs,rfl⟩⟩
 ·rcases z with z|rfl
  ·exact hS b (hF b (List.mem_cons_of_mem _ hb)) z
  ·exact na hb
theorem EG.e{t:TE}{f:DX}(h:EG K t f):E K t true f:=by
 refine⟨h.like,fun S M τ σ H Q d τ' r e q=>h.run S M τ σ H Q d τ' r e fun v H' F r' c hn hF hd=>?_⟩
 obtain⟨ds,rfl⟩:=h.isl _ _ _ e
 exact q v H' r' c (SC hn hF (fun _=>r.fresh) hd)
def dFx(f:DX)(τ:DS):Option (PyData×DS):=(f τ).bind fun p=>match p.1 with
 |.list ds=>if fixDs ds=true then some p else none
 |_=>none
theorem LN{f:DX}{τ τ':DS}{d:PyData}(e:dFx f τ=some (d,τ')):∃ds,d = .list ds/\fixDs ds=true/\f τ=some (.list ds,τ'):=by
 unfold dFx at e
 obtain⟨⟨x,τ1⟩,e1,e⟩:=oB e
 cases x with
 |list ds =>
  have e:(if fixDs ds=true then some (PyData.list ds,τ1) else none)=some (d,τ'):=e
  split at e
  ·rename_i h
   cases e
   exact⟨ds,rfl,h,e1⟩
  ·cases e
 |_=>cases e
theorem Qm{t:TE}{f:DX}(h:E K t true f):EG K t (dFx f):=by
 refine⟨fun τ d τ' e=>?_,fun τ d τ' e=>?_,?_⟩
 ·obtain⟨ds,rfl,_,e1⟩:=LN e;exact h.like _ _ _ e1
 ·obtain⟨ds,rfl,_⟩:=LN e;exact⟨ds,rfl⟩
 intro S M τ σ H Q d τ' r e q
 obtain⟨ds,rfl,fx,e1⟩:=LN e
 refine h.run S M τ σ H Q _ τ' r e1 fun v H' r' c res=>?_
 obtain⟨o,a,ho,e2,rfl,h1,h2,h3⟩:=res
 obtain rfl:=Ow.D_list e2
 obtain⟨vs,rfl,l⟩:=h3
 exact q _ H' [a] r' c (by simp) (fun b hb=>by rw[List.mem_singleton.mp hb];exact h1) ⟨a,vs,[],rfl,rfl,h2,DpL.fix fx (l.mono (B9 fun b z=>.inl z))⟩
def EZ(np i:Nat)(e:DX)(τ:DS):Option Out:=(e τ).bind fun p=>if np<=i/\i<p.2.length/\p.2.all okM=true then some (.nx (p.2.set i (some (.g p.1)))) else none
variable {np:Nat}
theorem Jg{fr:Bool}{i:Nat}{te:TE}{e:DX}(he:EG K te e):B K np (KZ te (Ia i)) fr (EZ np i e):=by
 intro F S M τ σ H D out hnp f ee q
 unfold EZ at ee
 obtain⟨⟨x,τ1⟩,e1,ee⟩:=oB ee
 dsimp only at ee
 split at ee
 ·rename_i hi
  cases ee
  refine he.run S M τ σ H _ x τ1 f.r e1 fun v H1 X r1 c1 hn hX hd=>?_
  have lk:=he.like _ _ _ e1
  have f1:=f.hideG r1 c1 lk hi.2.2 hX hd.lst
  have ts:TSm (hid S H1) (hid (fun b=>S b\/b∈X) H1):=DH fun b z=>z.elim .inl fun z=>let ⟨vs,e⟩:=hd.lst b z;.inr ⟨_,e,.inl ⟨vs,rfl⟩⟩
  exact q _ _ _ _ (f1.newG hi.2.1 (Nat.le_trans hnp hi.1) (fun a ha=>.inr ha) (fun a ha z=>f.r.fresh (hX a ha) (f.r.sub a z)) (fun a ha=>f.hnone (hX a ha)) hn (DpT.of (hd.mono ts fun _ _=>rfl))) fun b o hn e=>⟨fun z=>z.elim hn (fun z=>by rw[hX b z]at e;cases e),c1 b o (fun z=>hn (f.r.sub b z)) e⟩
 ·cases ee
theorem P4{fr:Bool}{te:TE}{i:Nat}{e:DX}(he:EG K te e):B K np (fun D σ H=>te σ H fun v H'=>D.nx (σ.set i (some v)) H') fr (EZ np i e):=Jg he
def LI(i:Nat)(τ:DS):Option Out:=match τ[i]? with
 |some (some (.g (.list ds)))=>some (.rt (.list ds) τ)
 |_=>none
theorem TU{fr:Bool}{i:Nat}:B K np (PJ (FL i)) fr (LI i):=by
 intro F S M τ σ H D out hnp f ee q
 unfold LI at ee
 split at ee
 ·rename_i ds hi
  cases ee
  obtain⟨v,X,hv,hd,hn,hM,ho,_⟩:=Po f.r hi
  have nf:∀a∈X,F.H a=none:=fun a ha=>by
   rcases f.new a (hM a ha)with z|z
   ·obtain⟨j,hj⟩:=f.fma a z
    obtain⟨o,e⟩:=f.pm j _ hj
    exact absurd ha (ho j o a e (f.par j _ hj))
   ·exact z
  have nS:∀a,F.H a=none->¬F.S a:=fun a e z=>by
   obtain⟨o,h⟩:=f.fs a z
   rw[e]at h;cases h
  refine⟨v,hv,q S M σ H v f ?_⟩
  have hd':Dp K F.S H (.list ds) v X:=hd.mono (tsS (B9 f.sS)) fun _ _=>rfl
  cases fr with
  |false=>exact hd'.is .refl fun a ha=>nS a (nf a ha)
  |true=>exact SC hn nf nS hd'
 ·cases ee
def set2(rows:List PyData)(y x:Int)(d:PyData):Option (List PyData):=(ixN rows.length y).bind fun a=>match rows[a]? with
 |some (.list cs)=>if fixDs cs=true then (ixN cs.length x).map fun b=>rows.set a (.list (cs.set b d)) else none
 |_=>none
theorem RA{rows rows':List PyData}{y x:Int}{d:PyData}(h:set2 rows y x d=some rows'):∃a b cs,ixN rows.length y=some a/\rows[a]?=some (.list cs)/\fixDs cs=true/\ixN cs.length x=some b/\rows'=rows.set a (.list (cs.set b d)):=by
 unfold set2 at h
 obtain⟨a,e1,h⟩:=oB h
 split at h
 ·rename_i cs hc
  split at h
  ·rename_i hf
   obtain⟨b,e2,h⟩:=oM h
   exact⟨a,b,cs,e1,hc,hf,e2,h.symm⟩
  ·cases h
 ·cases h
def JZ(i:Nat)(e e1 e2:DX)(τ:DS):Option Out:=match τ[i]? with
 |some (some (.g (.list rows)))=>(e (τ.set i (some (.d (.list rows))))).bind fun p=>(e1 p.2).bind fun q=>(e2 q.2).bind fun w=>match q.1,w.1 with
  |.int y,.int x=>if Dm p.1=true/\w.2.all okM=true then (set2 rows y x p.1).map fun rows'=>.nx (w.2.set i (some (.g (.list rows')))) else none
  |_,_=>none
 |_=>none
theorem Ui{fr f0 f1 f2:Bool}{i:Nat}{te t1 t2:TE}{e e1 e2:DX}(he:E K te f0 e)(h1:E K t1 f1 e1)(h2:E K t2 f2 e2):B K np (KZ te (S0 (tOp (SG K) (FL i) t1) t2 QB)) fr (JZ i e e1 e2):=by
 intro F S M τ σ H D out hnp f ee q
 unfold JZ at ee
 split at ee
 ·rename_i rows hi
  obtain⟨⟨x3,τ1⟩,ea,ee⟩:=oB ee
  obtain⟨⟨y1,τ2⟩,eb,ee⟩:=oB ee
  obtain⟨⟨y2,τ3⟩,ec,ee⟩:=oB ee
  dsimp only at ee
  split at ee
  ·rename_i y x _
   split at ee
   ·rename_i hc
    obtain⟨fx,ok⟩:=hc
    obtain⟨rows',es,ee⟩:=oM ee
    cases ee
    obtain⟨ya,xb,cs,iy,hr,hf,ix,rfl⟩:=RA es
    obtain⟨v,X,hv,hd,hn,hM,ho,rz⟩:=Po f.r hi
    have hS:∀a∈X,S a:=fun a ha=>f.r.sub a (hM a ha)
    have lk:Like (τ.set i (some (.d (.list rows)))) τ3:=((he.like _ _ _ ea).trans (h1.like _ _ _ eb)).trans (h2.like _ _ _ ec)
    have onX:∀{Hx:Hp},Chg (fun b=>M b/\b∉X) H Hx->∀a∈X,Hx a=H a:=fun {Hx} cx a ha=>by
     obtain⟨vs,z⟩:=hd.lst a ha
     rw[z];exact cx a _ (fun z=>z.2 ha) z
    have kp:∀{Hx:Hp},Chg (fun b=>M b/\b∉X) H Hx->Keep S H S Hx:=fun {Hx} cx b o h z=>⟨h,cx b o (fun z=>h (f.r.sub b z.1)) z⟩
    refine he.weak.run _ _ _ σ H _ x3 τ1 rz ea fun v3 Ha ra ca ia=>?_
    refine⟨v,hv,h1.weak.run _ _ τ1 σ Ha _ _ τ2 ra eb fun u Hb rb cb ib=>?_⟩
    cases (show u = .int y from ib)
    have cB:Chg (fun b=>M b/\b∉X) H Hb:=ca.trans cb
    -- the row,as it stands in H
    obtain⟨a,vs,p,cvs,rfl,ha,hvl,aX,hp,pX,hpp,hcl,_⟩:=Dp.set2 (x:=0) hd hn hS hr hf (d3:=.none) (v3:=.non) rfl rfl
    refine⟨a,vs,y,.ref p,rfl,rfl,SqL.of (by rw[onX cB a aX];exact ha),by unfold atI;rw[hvl,iy];exact hp,?_⟩
    refine h2.weak.run _ _ τ2 σ Hb _ _ τ3 rb ec fun w Hc rc cc ic=>?_
    cases (show w = .int x from ic)
    have cC:Chg (fun b=>M b/\b∉X) H Hc:=cB.trans cc
    refine⟨p,cvs,x,xb,rfl,rfl,by rw[onX cC p pX];exact hpp,by rw[hcl];exact ix,?_⟩
    have hdc:Dp K S Hc (.list rows) (.ref a) X:=hd.mono (tsS (kp cC).same) (onX cC)
    have i3 : Is K (hid S Hc) x3 v3 := Is.monoT (fun b o z nl ne => by
     obtain⟨z1,z2⟩:=hid_iff.mp z
     have hb:b∉X:=fun hb=>by
      obtain⟨us,zz⟩:=hd.lst b hb
      rw[<- onX ca b hb,z2]at zz;cases zz;exact nl _ rfl
     have hs:¬S b:=fun hs=>z1 ⟨hs,hb⟩
     exact hid_iff.mpr ⟨hs,(cb.trans cc) b o (fun z=>hs (f.r.sub b z.1)) z2⟩) fx ia
    obtain⟨a',vs',p',cvs',e0,ha',hvl',aX',hp',pX',hpp',hcl',hd4⟩:=Dp.set2 (x:=xb) hdc hn hS hr hf fx i3
    cases e0
    rw[onX cC a aX,ha]at ha'
    cases ha'
    rw[hp]at hp'
    cases hp'
    rw[onX cC p pX,hpp]at hpp'
    cases hpp'
    have r4:=Ry (H4:=upd Hc p (.lst (cvs.set xb v3))) f.r hi hv hn hM ho rc lk cC ok (fun b hb=>by rw[onX cC b hb];exact hd.lst b hb) (fun b hb=>AO fun z=>hb (z▸pX)) hd4
    have c4:Chg M H (upd Hc p (.lst (cvs.set xb v3))):=fun b o h z=>by
     have hb:b≠p:=fun w=>h (by rw[w];exact hM p pX)
     rw[AO hb]
     exact cC b o (fun z=>h z.1) z
    have hlt:i<τ.length:=(List.getElem?_eq_some_iff.mp hi).1
    refine q S M σ _ ⟨r4,f.sS,fun b o e n=>c4 b o (fun z=>(f.new b z).elim n fun w=>by rw[w]at e;cases e) (f.old b o e n),f.new,f.fm,f.fs,f.fsub,f.snew,f.par,fun j v' e=>?_,f.fma⟩ (c4.keep f.r.sub)
    obtain⟨o,ho'⟩:=f.pm j v' e
    have hj:j≠i:=fun z=>by subst z;rw[hi]at ho';exact Ow.not_g (Option.some.inj (Option.some.inj ho')).symm
    obtain⟨o2,h2'⟩:=(lk.own j).mpr ⟨o,by rw[List.getElem?_set_ne (Ne.symm hj)];exact ho'⟩
    exact⟨o2,by rw[List.getElem?_set_ne (Ne.symm hj)];exact h2'⟩
   ·cases ee
  ·cases ee
 ·cases ee
end DL
end
section
namespace DL
open PySem L2
variable {K:KW}
theorem V5{own:Nat}{fr:List Nat}{wi:TI}{it:DI}{tg:TG}{g:DG}{tc:TT}{c:DT}{te:TE}{e:DX}(hi:IT K wi it)(hg:TG1 K tg g)(hc:T K tc c)(he:EH K te e):EG K (tLC own fr wi tg tc te) (dLC own fr it g c e):=by
 refine⟨fun τ d τ' e=>?_,fun τ d τ' e=>?_,?_⟩
 ·unfold dLC at e
  obtain⟨⟨x,τ1⟩,e1,e⟩:=oB e
  split at e
  ·obtain⟨z,e3,e⟩:=oM e
   cases e;exact hi.like _ _ _ e1
  ·cases e
 ·unfold dLC at e
  obtain⟨⟨x,τ1⟩,e1,e⟩:=oB e
  split at e
  ·obtain⟨z,e3,e⟩:=oM e
   cases e;exact⟨_,rfl⟩
  ·cases e
 intro S M τ σ H Q d τ' r ee q
 unfold dLC at ee
 obtain⟨⟨ds,τ1⟩,e1,ee⟩:=oB ee
 split at ee
 ·rename_i hz
  obtain⟨hz,hnm⟩:=hz
  have hz:ds.length<=sizeLine:=hz
  obtain⟨⟨acc,τb⟩,e3,ee⟩:=oM ee
  obtain⟨rfl,rfl⟩:d = .list acc/\τ'=τ1:=by cases ee;exact⟨rfl,rfl⟩
  refine hi.run S M τ σ H _ ds _ r e1 fun J H1 r1 c1 iJ=>?_
  intro D hD
  refine⟨fun i m ys σ' H'=>∃τb' acc' G,R K (fun b=>S b\/b∈D::G) (fun _=>False) τb' σ' H'/\Keep S H1 (fun b=>S b\/b∈D::G) H'/\Chg (fun b=>b=D) H1 H'/\DpL K (fun b=>S b\/b∈D::G) H' acc' ys G/\(D::G).Nodup/\(∀a∈G,H1 a=none)/\H' D=some (.lst ys)/\ys.length<=i/\i<=ds.length/\m=ds.length-i/\BF g c e (ds.drop i) acc' τb'=some (acc,τb),?_,?_⟩
  ·have s:=BS hD (HO.lst [])
   have k:Keep S H1 (fun b=>S b\/b∈[D]) (upd H1 D (.lst [])):=fun b o hn e=>by
    have:=Am e hD
    exact⟨fun z=>z.elim hn fun z=>this (List.mem_singleton.mp z),s b o e⟩
   refine⟨ds.length,FG own fr τ',[],[],⟨?_,?_,?_,?_,?_,fun a h=>h.elim,?_,GR.nil N0⟩,k,.of s,⟨rfl,rfl⟩,by simp,fun _ h=>by simp at h,AT,Nat.le_refl _,Nat.zero_le _,by simp,by simpa using e3⟩
   ·unfold blk FG;simp
   ·intro i x e
    obtain⟨kk,j,rfl,ej,et⟩:=Br e
    obtain⟨v,h1,h2⟩:=r1.dat j x et
    exact⟨v,FF ej h1,h2.mono k.same⟩
   ·intro i xs e
    obtain⟨kk,j,rfl,ej,et⟩:=Br e
    have:=List.all_eq_true.mp hnm j (List.mem_of_getElem? ej)
    rw[isM_iff.mpr ⟨xs,et⟩]at this
    cases this
   ·intro i x e
    obtain⟨kk,j,rfl,ej,et⟩:=Br e
    obtain⟨a,vs,h1,h2,h3⟩:=r1.cst j x et
    exact⟨a,vs,FF ej h1,k.same.seq h2,h3.mono k.same⟩
   ·intro i j xs ys a e
    obtain⟨kk,j',rfl,ej,et⟩:=Br e
    have:=List.all_eq_true.mp hnm j' (List.mem_of_getElem? ej)
    rw[isM_iff.mpr ⟨xs,et⟩]at this
    cases this
   ·rintro a (h|h)
    ·obtain⟨o,e⟩:=r1.ex a h
     exact⟨o,s _ _ e⟩
    ·rw[List.mem_singleton.mp h];exact⟨_,AT⟩
  ·rintro i m ys σ' H' ⟨τb',acc',G,rb,k,ch,la,hG,hG1,hHD,hyl,hil,rfl,hl⟩
   obtain⟨I1,I2⟩:=iJ _ _ k
   by_cases hlt:i<ds.length
   ·right
    have ed:ds[i]?=some ds[i]:=List.getElem?_eq_getElem hlt
    obtain⟨go,yl⟩:=I1 i _ ed
    refine⟨go,fun x H2 y=>?_⟩
    obtain⟨rfl,ix⟩:=yl x H2 y
    rw[List.drop_eq_getElem_cons hlt,BF]at hl
    obtain⟨τ2,e2,hl⟩:=oB hl
    obtain⟨⟨b,τ3⟩,e4,hl⟩:=oB hl
    refine hg.run _ _ τb' σ' H2 x _ τ2 _ rb ix e2 fun σ3 r3 k3=>?_
    refine hc.run _ _ τ2 σ3 H2 _ b τ3 r3 e4 fun H4 r4 c4=>?_
    have s4:Same H2 H4:=fun b o e=>c4 b o (fun z=>z) e
    have on4:∀{Hx:Hp},Same H2 Hx->∀a∈G,Hx a=H2 a:=fun {Hx} s a ha=>by
     obtain⟨vs,z⟩:=la.lst a ha
     rw[z];exact s _ _ z
    cases b with
    |false =>
     rw[if_neg Bool.false_ne_true]
     exact⟨ds.length-(i+1),by omega,τ3,acc',G,r4,k.trans (Same.keep s4),ch.trans (.of s4),la.mono (tsS (Same.keep s4).same) (on4 s4),hG,hG1,s4 _ _ hHD,by omega,hlt,rfl,hl⟩
    |true =>
     rw[if_pos rfl]
     rw[if_pos rfl]at hl
     obtain⟨⟨z,τ5⟩,e5,hl⟩:=oB hl
     refine he.run _ _ τ3 σ3 H4 _ z τ5 r4 e5 fun v H5 X r5 c5 hnX hX hd=>?_
     have s45:Same H4 H5:=fun b o e=>c5 b o (fun z=>z) e
     have s5:Same H2 H5:=s4.trans s45
     have hD5:=s5 _ _ hHD
     have r6:=r4.hideX r5 c5 (he.like _ _ _ e5) (fun j o e=>by obtain⟨_,_,_,h,_⟩:=r5.mt j o e;exact h.elim) hX hd.lst
     have DX:D∉X:=fun z=>by have:=hX D z;rw[s4 _ _ hHD]at this;cases this
     have GX:∀a∈G,a∉X:=fun a ha z=>by
      obtain⟨vs,w⟩:=la.lst a ha
      have:=hX a z;rw[s4 _ _ w]at this;cases this
     have eS:∀b,(S b\/b∈D::(G++X))↔((S b\/b∈D::G)\/b∈X):=fun b=>by
      rw[List.mem_cons,List.mem_cons,List.mem_append,or_assoc,or_assoc]
     have eS':(fun b=>(S b\/b∈D::G)\/b∈X)=fun b=>S b\/b∈D::(G++X):=funext fun b=>propext (eS b).symm
     rw[eS']at r6
     have hDS:S D\/D∈D::(G++X):=.inr (List.mem_cons_self ..)
     have kk:Keep (fun b=>S b\/b∈D::(G++X)) H5 (fun b=>S b\/b∈D::(G++X)) (upd H5 D (.lst (ys++[v]))):=fun b o hn e=>⟨hn,by rw[AO (fun z=>hn (by rw[z];exact hDS))];exact e⟩
     have k5:Keep (fun b=>S b\/b∈D::G) H2 (fun b=>S b\/b∈D::(G++X)) H5:=fun b o hn e=>⟨fun z=>((eS b).mp z).elim hn (fun z=>by have:=hX b z;rw[s4 _ _ e]at this;cases this),s5 _ _ e⟩
     have tX:TSm (hid (fun b=>S b\/b∈D::G) H5) (hid (fun b=>S b\/b∈D::(G++X)) H5):=DH fun b z=>((eS b).mp z).elim .inl fun z=>let ⟨vs,e⟩:=hd.lst b z;.inr ⟨_,e,.inl ⟨vs,rfl⟩⟩
     have hu:hid (fun b=>S b\/b∈D::(G++X)) (upd H5 D (.lst (ys++[v])))=hid (fun b=>S b\/b∈D::(G++X)) H5:=DC hDS
     have DG:D∉G:=(List.nodup_cons.mp hG).1
     refine⟨hD5,by omega,ds.length-(i+1),by omega,τ5,acc'++[z],G++X,?_,(k.trans k5).trans kk,?_,?_,?_,?_,AT,by rw[List.length_append,List.length_singleton];omega,hlt,rfl,hl⟩
     ·refine⟨r6.len,fun j x e=>let ⟨u,a,b⟩:=r6.dat j x e;⟨u,a,b.mono kk.same⟩,fun j xs e=>let ⟨_,_,_,h,_⟩:=r6.mt j xs e;h.elim,fun j xs e=>let ⟨a,vs,h1,h2,h3⟩:=r6.cst j xs e;⟨a,vs,h1,kk.same.seq h2,h3.mono kk.same⟩,r6.inj,fun _ h=>h.elim,fun a h=>?_,r6.gr.to (fun i d e=>⟨e,rfl⟩) (fun j o a e q=>.inl ⟨o,e,q⟩) (fun a h _=>h.elim) (tsS kk.same)⟩
      by_cases e:a=D
      ·subst e;exact⟨_,AT⟩
      ·obtain⟨o,q⟩:=r6.ex a h
       exact⟨o,by rw[AO e];exact q⟩
     ·refine ch.trans fun b o hn e=>?_
      rw[AO hn]
      exact s5 _ _ e
     ·have l1:DpL K (fun b=>S b\/b∈D::(G++X)) (upd H5 D (.lst (ys++[v]))) acc' ys G:=la.mono (tsS (k5.trans kk).same) fun a ha=>by
       have hb:a≠D:=fun w=>DG (by rw[<- w];exact ha)
       rw[AO hb];exact on4 s5 a ha
      have l2:Dp K (fun b=>S b\/b∈D::(G++X)) (upd H5 D (.lst (ys++[v]))) z v X:=hd.mono (by rw[hu];exact tX) fun a ha=>AO fun z=>DX (z▸ha)
      exact l1.snoc l2
     ·refine List.nodup_cons.mpr ⟨fun z=>(List.mem_append.mp z).elim DG DX,List.nodup_append.mpr ⟨(List.nodup_cons.mp hG).2,hnX,fun a ha b hb z=>GX a ha (z▸hb)⟩⟩
     ·intro a ha
      rcases List.mem_append.mp ha with ha|ha
      ·exact hG1 a ha
      ·cases z:H1 a with
       |none=>rfl
       |some o =>
        exfalso
        have h4:=hX a ha
        have:a≠D:=fun w=>DX (w▸ha)
        have h2:=ch a o this z
        rw[s4 _ _ h2]at h4;cases h4
   ·left
    have e:i=ds.length:=by omega
    subst e
    rw[List.drop_length,BF]at hl
    cases hl
    refine⟨I2 _ (Nat.le_refl _),?_⟩
    have s:Same H1 H':=fun b o e=>ch b o (Am e hD) e
    refine q _ H' (D::G) (r1.same s) (c1.trans (.of s)) hG (fun a ha=>?_) ⟨D,ys,G,rfl,rfl,hHD,la.mono (tsS (B9 fun b z=>.inl z)) fun _ _=>rfl⟩
    rcases List.mem_cons.mp ha with rfl|ha
    ·exact r1.none c1 hD
    ·exact r1.none c1 (hG1 a ha)
 ·cases ee
theorem VC{own:Nat}{fr:List Nat}{wi:TI}{it:DI}{tg:TG}{g:DG}{tc:TT}{c:DT}{te:TE}{e:DX}(hi:IT K wi it)(hg:TG1 K tg g)(hc:T K tc c)(he:EG K te e):EG K (tLC own fr wi tg tc te) (dLC own fr it g c e):=V5 hi hg hc he.h
def spG(K:KW)(G:List L->Option (PyData×List L)):Sp:=fun vs H Q _=>∃(S:Addr->Prop) (ds:List PyData) (r:PyData) (ls':List L),R K S (fun _=>False) ((ds.map L.d).map some) (vs.map some) H/\G (ds.map L.d)=some (r,ls') /\
 ∀v H' F,Same H H'->F.Nodup->(∀a∈F,H a=none)->Dp K S H' r v F->Q v H'
theorem Nq{G:List L->Option (PyData×List L)}{vs:List V}{H:Hp}{Q:VK}{X:XK}{np:Nat}(hG:∀ls r,G ls=some r->ls.length=np)(h:spG K G vs H Q X):vs.length=np:=by
 obtain⟨S,ds,r,ls',hR,e,_⟩:=h
 have:=hR.len
 rw[List.length_map,List.length_map]at this
 rw[this,hG _ _ e]
theorem VN{S M:Addr->Prop}{ls:List L}{vs:List V}{H:Hp}(hR:R K S M (ls.map some) (vs.map some) H)(hng:∀(i:Nat) (d:PyData),ls[i]?≠some (.g d))(nl:Nat):R K S M (ls.map some++List.replicate nl none) (vs.map some++List.replicate nl none) H:=by
 have hvl:vs.length=ls.length:=by have:=hR.len;rw[List.length_map,List.length_map]at this;exact this
 have lsm:∀(i:Nat) (l:L),(ls.map some++List.replicate nl none:DS)[i]?=some (some l)->ls[i]?=some l:=fun i l h=>by
  by_cases hi:i<ls.length
  ·rw[List.getElem?_append_left (by rw[List.length_map];exact hi)]at h
   obtain⟨x,h1,h2⟩:=Ef h
   cases h2;exact h1
  ·rw[List.getElem?_append_right (by rw[List.length_map];omega),List.getElem?_replicate]at h
   split at h<;>cases h
 have vsm:∀(i:Nat) (v:V),(vs.map some)[i]?=some (some v)->(vs.map some++List.replicate nl none:St)[i]?=some (some v):=fun i v h=>by
  rw[List.getElem?_append_left (List.getElem?_eq_some_iff.mp h).1];exact h
 have vsb:∀(i:Nat) (v:V),(vs.map some++List.replicate nl none:St)[i]?=some (some v)->(vs.map some)[i]?=some (some v):=fun i v h=>by
  by_cases hi:i<(vs.map some).length
  ·rw[List.getElem?_append_left hi]at h;exact h
  ·rw[List.getElem?_append_right (by omega),List.getElem?_replicate]at h
   split at h<;>cases h
 have lm:∀(i:Nat) (l:L),ls[i]?=some l->(ls.map some)[i]?=some (some l):=fun i l h=>by rw[List.getElem?_map,h];rfl
 refine⟨by simp[hvl],fun i x h=>?_,fun i x h=>?_,fun i x h=>?_,fun i j xs ys a h1 h2 h3 h4=>hR.inj i j xs ys a (lm _ _ (lsm _ _ h1)) (lm _ _ (lsm _ _ h2)) (vsb _ _ h3) (vsb _ _ h4),hR.sub,hR.ex,GR.nil fun i d h=>hng i d (lsm i _ h)⟩
 ·obtain⟨v,h1,h2⟩:=hR.dat i x (lm _ _ (lsm _ _ h))
  exact⟨v,vsm _ _ h1,h2⟩
 ·obtain⟨a,us,h1,h2⟩:=hR.mt i x (lm _ _ (lsm _ _ h))
  exact⟨a,us,vsm _ _ h1,h2⟩
 ·obtain⟨a,us,h1,h2⟩:=hR.cst i x (lm _ _ (lsm _ _ h))
  exact⟨a,us,vsm _ _ h1,h2⟩
theorem UP{np nl:Nat}{te:TE}{e:DX}{N:List Str}{vs:List V}{H:Hp}{Q:VK}{X:XK}(he:EG K te e)(hN:N.length=np+nl)(h:spG K (C5 true np nl (B3 e)) vs H Q X):PJ te { nx:=fun _ H'=>Q .non H',rt:=Q } (L2.start N vs) H:=by
 obtain⟨S,ds,r,ls',hR,ee,q⟩:=h
 have hlen:=BC _ _ ee
 have hvl:vs.length=(ds.map L.d).length:=by have:=hR.len;rw[List.length_map,List.length_map]at this;exact this
 unfold C5 at ee
 rw[if_pos hlen]at ee
 obtain⟨o,e1,ee⟩:=oB ee
 have est:L2.start N vs=vs.map some++List.replicate nl none:=by
  unfold L2.start
  rw[hN,hvl,hlen,Nat.add_sub_cancel_left]
 rw[est]
 have r0:=VN hR (fun i d h=>by rw[List.getElem?_map]at h;cases q:ds[i]? with|none=>rw[q]at h;cases h|some d=>rw[q]at h;cases h) nl
 unfold B3 at e1
 obtain⟨⟨x,τ1⟩,e2,e1⟩:=oM e1
 subst e1
 obtain⟨ls1,e3,ee⟩:=oM ee
 cases ee
 exact he.run S _ _ _ H _ x τ1 r0 e2 fun v H' F _ c hn hF hd=>q v H' F (fun b o z=>c b o (fun w=>w) z) hn hF hd
def dLs(f:DX)(τ:DS):Option (PyData×DS):=(f τ).bind fun p=>match p.1 with
 |.list _=>some p
 |_=>none
theorem LM{f:DX}{τ τ':DS}{d:PyData}(e:dLs f τ=some (d,τ')):f τ=some (d,τ')/\∃ds,d = .list ds:=by
 unfold dLs at e
 obtain⟨⟨x,τ1⟩,e1,e⟩:=oB e
 cases x with
 |list ds=>cases e;exact⟨e1,_,rfl⟩
 |_=>cases e
theorem C7{G:List L->Option (PyData×List L)}{t:TA}{a:DA}{X:XK}(ha:A K t a):EG K (MA (spG K G) [] X t) (dLs (Ae G a)):=by
 refine⟨fun τ d τ' e=>?_,fun τ d τ' e=>(LM e).2,?_⟩
 ·have e:=(LM e).1
  unfold Ae at e
  obtain⟨⟨x,τ1⟩,e1,e⟩:=oB e
  obtain⟨ds,e2,e⟩:=oB e
  obtain⟨z,e3,e⟩:=oM e
  cases e;exact ha.like _ _ _ e1
 intro S M τ σ H Q d τ' rr e q
 have e:=(LM e).1
 unfold Ae at e
 obtain⟨⟨x,τ1⟩,e1,e⟩:=oB e
 obtain⟨ds,e2,e⟩:=oB e
 obtain⟨⟨z,ls'⟩,e3,e⟩:=oM e
 cases e
 refine ha.run S M τ σ H _ x _ rr e1 fun vs H1 r1 c1 i1=>?_
 have l:=Da i1 e2
 show spG K G (vs++[]) H1 Q X
 rw[List.append_nil]
 refine⟨S,ds,_,ls',NH r1 l,e3,fun v H' F s hn hF hd=>?_⟩
 exact q v H' F (r1.same s) (c1.trans (.of s)) hn (fun a ha=>r1.none c1 (hF a ha)) hd
end DL
end
section
namespace DL
open PySem L2
variable {K:KW}
end DL
end
section
namespace DL
open PySem L2
theorem Vq{X:Cx}{N:List Str}{scope2:Scope}{cl:List (Str×Addr)}{fp:List Addr}{s3:Shared}{H3:Hp}{N':List Str}{own:Nat}{fr:List Nat}{scope:Scope}(h:(Sh N' own fr scope N scope2&&scope2.names.all fun y=>y.2 != .cell)=true):Rx (cxC X N scope2 cl fp s3 H3) N' own fr scope:=by
 rw[Bool.and_eq_true]at h
 have o:=GT (X:={ X with N:=N,env:={ X.env with scope:=scope2 } }) rfl rfl h.1
 refine⟨o.kind,o.len,o.cell,o.names,fun x hx=>?_,o.slot⟩
 show(relabel scope2 X.env).names.lookup x=some .cell\/(relabel scope2 X.env).names.lookup x=some .free
 rcases o.free x hx with z|z
 ·have:=List.all_eq_true.mp h.2 _ (PySem.mem_of_lookup z)
  simp at this
 ·exact NG z
end DL
end
section
namespace DL
open PySem L2
variable {K:KW}
end DL
end
section
namespace DL
open PySem L2 PyProof.Rows
section
variable {X:Cx} {pins:List (Addr×Obj)} {σ:L2.St} {H:Hp} {s:Shared}
end
end DL
end
section
namespace DL
open PySem L2
variable {K:KW}
end DL
namespace L2
open PySem
end L2
end
section
namespace DL
open PySem L2
variable {K:KW}
theorem MV{τ τ1:DS}{i:Nat}{ds:List PyData}(hi:τ[i]?=some (some (.g (.list ds))))(lk:Like (τ.set i (some (.d (.list ds)))) τ1):Like τ (τ1.set i (some (.g (.list ds)))):=by
 have hlt:i<τ.length:=(List.getElem?_eq_some_iff.mp hi).1
 have hl1:τ1.length=τ.length:=by have:=lk.1;rw[List.length_set]at this;exact this
 refine⟨by rw[List.length_set];exact hl1,fun j=>?_⟩
 by_cases hj:j=i
 ·subst hj
  rw[List.getElem?_set_self (by omega),hi]
  exact⟨⟨fun x=>Iff.rfl,fun x=>Iff.rfl⟩,fun b=>Iff.rfl⟩
 ·have:=lk.2 j
  rw[List.getElem?_set_ne (Ne.symm hj)]at this ⊢
  exact this
theorem Mv{S M:Addr->Prop}{τ τ1:DS}{σ:St}{H H':Hp}{i:Nat}{ds:List PyData}{v:V}{F:List Addr}(r:R K S M τ σ H)(hi:τ[i]?=some (some (.g (.list ds))))(hv:σ[i]?=some (some v))(hd:Dp K S H (.list ds) v F)(hn:F.Nodup)(hM:∀a∈F,M a)
  (ho:∀(j:Nat) (o:Ow) (a:Addr),τ[j]?=some (some o.L)->σ[j]?=some (some (.ref a))->a∉F) (r1:R K (fun b=>S b/\b∉F) (fun b=>M b/\b∉F) τ1 σ H') (lk:Like (τ.set i (some (.d (.list ds)))) τ1) (c:Chg (fun b=>M b/\b∉F) H H') (ok:τ1.all okM=true) :
  R K S M (τ1.set i (some (.g (.list ds)))) σ H'/\TSm (hid (fun b=>S b/\b∉F) H') (hid S H'):=by
 have on:∀a∈F,H' a=H a:=fun a ha=>by
  obtain⟨vs,z⟩:=hd.lst a ha
  rw[z];exact c a _ (fun z=>z.2 ha) z
 have kp:Keep S H S H':=fun b o h z=>⟨h,c b o (fun z=>h (r.sub b z.1)) z⟩
 have l3:∀a∈F,∃vs,H' a=some (.lst vs):=fun a ha=>by rw[on a ha];exact hd.lst a ha
 refine⟨Ry (H4:=H') r hi hv hn hM ho r1 lk c ok l3 (fun _ _=>rfl) (hd.mono (tsS kp.same) on),fun b o e nl ne=>?_⟩
 obtain⟨e1,e2⟩:=hid_iff.mp e
 have hb:b∉F:=fun z=>by
  obtain⟨vs,q⟩:=l3 b z
  rw[e2]at q;cases q;exact nl _ rfl
 exact hid_iff.mpr ⟨fun z=>e1 ⟨z,hb⟩,e2⟩
def EY(i:Nat)(f:DT)(τ:DS):Option (Bool×DS):=match τ[i]? with
 |some (some (.g (.list ds)))=>(f (τ.set i (some (.d (.list ds))))).bind fun q=>if q.2.all okM then some (q.1,q.2.set i (some (.g (.list ds)))) else none
 |_=>none
theorem Jw{i:Nat}{f:DT}{τ τ':DS}{d:Bool}(e:EY i f τ=some (d,τ')):∃ds τ1,τ[i]?=some (some (.g (.list ds)))/\f (τ.set i (some (.d (.list ds))))=some (d,τ1)/\τ1.all okM=true/\τ'=τ1.set i (some (.g (.list ds))):=by
 unfold EY at e
 split at e
 ·rename_i ds hx
  obtain⟨⟨z,τ1⟩,e1,e⟩:=oB e
  dsimp only at e
  split at e
  ·rename_i h
   cases e
   exact⟨ds,τ1,hx,e1,h,rfl⟩
  ·cases e
 ·cases e
theorem KY{i:Nat}{t:TT}{f:DT}(h:T K t f):T K t (EY i f):=by
 refine⟨fun τ d τ' e=>?_,?_⟩
 ·obtain⟨ds,τ1,e1,e2,_,rfl⟩:=Jw e
  exact MV e1 (h.like _ _ _ e2)
 intro S M τ σ H Q d τ' r e q
 obtain⟨ds,τ1,e1,e2,ok,rfl⟩:=Jw e
 obtain⟨v,F,hv,hd,hn,hM,ho,rz⟩:=Po r e1
 refine h.run _ _ _ σ H _ d τ1 rz e2 fun H' r' c=>?_
 obtain⟨r2,ts⟩:=Mv r e1 hv hd hn hM ho r' (h.like _ _ _ e2) c ok
 exact q H' r2 (fun b o hb z=>c b o (fun w=>hb w.1) z)
end DL
end
section
namespace DL
open PySem L2
variable {K:KW} {np:Nat}
end DL
end
section
namespace DL
open PySem L2
variable {K:KW}
structure AG(K:KW)(t:TA)(f:DS->Option (List PyData×DS)):Prop where
 like:∀τ ds τ',f τ=some (ds,τ')->Like τ τ'
 run:∀S M τ σ H (Q:List V->Hp->Prop) ds τ',R K S M τ σ H->f τ=some (ds,τ')->(∀vs H' F,R K S M τ' σ H'->Chg M H H'->F.Nodup->(∀a∈F,H a=none)->DpL K S H' ds vs F->Q vs H')->t σ H Q
def Bq(τ:DS):Option (List PyData×DS):=some ([],τ)
theorem Jh:AG K Hz Bq:=by
 refine⟨fun τ ds τ' e=>by cases e;exact .refl,fun S M τ σ H Q ds τ' r e q=>?_⟩
 cases e
 exact q [] H [] r .refl List.nodup_nil (fun a ha=>by cases ha) ⟨rfl,rfl⟩
def Ao(e:DX)(r:DS->Option (List PyData×DS))(τ:DS):Option (List PyData×DS):=(e τ).bind fun p=>(r p.2).map fun q=>(p.1::q.1,q.2)
theorem N2{te:TE}{t:TA}{e:DX}{g:DS->Option (List PyData×DS)}(he:EG K te e)(hg:AG K t g):AG K (Dd te t) (Ao e g):=by
 refine⟨fun τ ds τ' ee=>?_,fun S M τ σ H Q ds τ' r ee q=>?_⟩
 ·unfold Ao at ee
  obtain⟨⟨x,τ1⟩,e1,ee⟩:=oB ee
  obtain⟨⟨y,τ2⟩,e2,ee⟩:=oM ee
  cases ee
  exact(he.like _ _ _ e1).trans (hg.like _ _ _ e2)
 unfold Ao at ee
 obtain⟨⟨x,τ1⟩,e1,ee⟩:=oB ee
 obtain⟨⟨y,τ2⟩,e2,ee⟩:=oM ee
 cases ee
 refine he.run S M τ σ H _ x τ1 r e1 fun v1 H1 F1 r1 c1 n1 h1 d1=>?_
 refine hg.run S M τ1 σ H1 _ y _ r1 e2 fun vs H2 F2 r2 c2 n2 h2 d2=>?_
 have nM1:∀a∈F1,¬M a:=fun a ha z=>r.fresh (h1 a ha) (r.sub a z)
 have on:∀a∈F1,H2 a=H1 a:=fun a ha=>by
  obtain⟨us,z⟩:=d1.lst a ha
  rw[z];exact c2 a _ (nM1 a ha) z
 refine q (v1::vs) H2 (F1++F2) r2 (c1.trans c2) (List.nodup_append.mpr ⟨n1,n2,fun a ha b hb z=>?_⟩) (fun a ha=>?_) ⟨v1,vs,F1,F2,rfl,rfl,d1.mono (tsS (c2.keep r1.sub).same) on,d2⟩
 ·subst z
  obtain⟨us,w⟩:=d1.lst a ha
  rw[h2 a hb]at w;cases w
 ·rcases List.mem_append.mp ha with ha|ha
  ·exact h1 a ha
  ·exact r1.none c1 (h2 a ha)
def BX(f:DS->Option (List PyData×DS))(τ:DS):Option (PyData×DS):=(f τ).bind fun p=>if p.1.length<=sizeLine then some (.list p.1,p.2) else none
theorem K9{t:TA}{f:DS->Option (List PyData×DS)}(h:AG K t f):EG K (Tl t) (BX f):=by
 refine⟨fun τ d τ' e=>?_,fun τ d τ' e=>?_,fun S M τ σ H Q d τ' r e q=>?_⟩
 ·unfold BX at e
  obtain⟨⟨x,τ1⟩,e1,e⟩:=oB e
  dsimp only at e
  split at e
  ·cases e;exact h.like _ _ _ e1
  ·cases e
 ·unfold BX at e
  obtain⟨⟨x,τ1⟩,e1,e⟩:=oB e
  dsimp only at e
  split at e
  ·cases e;exact⟨_,rfl⟩
  ·cases e
 unfold BX at e
 obtain⟨⟨x,τ1⟩,e1,e⟩:=oB e
 dsimp only at e
 split at e
 ·rename_i hz
  cases e
  refine h.run S M τ σ H _ x _ r e1 fun vs H1 F r1 c1 hn hF hd=>?_
  refine⟨by rw[hd.length];exact hz,fun p hp=>?_⟩
  have s:=BS hp (HO.lst vs)
  have pF:p∉F:=fun z=>by
   obtain⟨us,w⟩:=hd.lst p z
   rw[hp]at w;cases w
  refine q _ _ (p::F) (r1.same s) (c1.trans (.of s)) (List.nodup_cons.mpr ⟨pF,hn⟩) (fun a ha=>?_) ⟨p,vs,F,rfl,rfl,AT,hd.mono (tsS (Same.keep s).same) fun a ha=>AO fun z=>pF (z▸ha)⟩
  rcases List.mem_cons.mp ha with rfl|ha
  ·exact r1.none c1 hp
  ·exact hF a ha
 ·cases e
end DL
end
section
namespace DL
open PySem L2 PyProof.Rows
variable {K:KW}
end DL
end
section
namespace L2
open PySem PySem.Spec PyProof.Rows
section
variable {X:Cx} {a b:Expr} {p pos:Pos} {e:Expr} {es:List Expr} {te:TE} {t:TA}
end
end L2
namespace DL
open PySem L2 PyProof.Rows
variable {K:KW}
abbrev Mir:=List L->Option (PyData×List L)
inductive TMs (T:Addr->Mir->Prop):List (Str×Addr)->List (Str×Mir)->Prop
 |nil:TMs T [] []
 |cons {k:Str} {f:Addr} {G:Mir} {tb:List (Str×Addr)} {tm:List (Str×Mir)} (h:T f G) (r:TMs T tb tm):TMs T ((k,f)::tb) ((k,G)::tm)
end DL
end
section
namespace DL
open PySem L2
variable {K:KW} {np:Nat}
def dFd(f:DX)(τ:DS):Option (PyData×DS):=(f τ).bind fun p=>if Dm p.1=true then some p else none
theorem Ov{f:DX}{τ τ':DS}{d:PyData}(e:dFd f τ=some (d,τ')):Dm d=true/\f τ=some (d,τ'):=by
 unfold dFd at e
 obtain⟨⟨x,τ1⟩,e1,e⟩:=oB e
 dsimp only at e
 split at e
 ·rename_i h
  cases e;exact⟨h,e1⟩
 ·cases e
theorem Ql{fr:Bool}{t:TE}{f:DX}(h:E K t fr f):EH K t (dFd f):=by
 refine⟨fun τ d τ' e=>h.like _ _ _ (Ov e).2,fun S M τ σ H Q d τ' r e q=>?_⟩
 obtain⟨fx,e⟩:=Ov e
 exact h.weak.run S M τ σ H Q d τ' r e fun v H' r' c res=>q v H' [] r' c List.nodup_nil (fun a ha=>by cases ha) (Dp.fix fx res)
theorem Fi{te:TE}{t:TA}{e:DX}{g:DS->Option (List PyData×DS)}(he:EH K te e)(hg:AG K t g):AG K (Dd te t) (Ao e g):=by
 refine⟨fun τ ds τ' ee=>?_,fun S M τ σ H Q ds τ' r ee q=>?_⟩
 ·unfold Ao at ee
  obtain⟨⟨x,τ1⟩,e1,ee⟩:=oB ee
  obtain⟨⟨y,τ2⟩,e2,ee⟩:=oM ee
  cases ee
  exact(he.like _ _ _ e1).trans (hg.like _ _ _ e2)
 unfold Ao at ee
 obtain⟨⟨x,τ1⟩,e1,ee⟩:=oB ee
 obtain⟨⟨y,τ2⟩,e2,ee⟩:=oM ee
 cases ee
 refine he.run S M τ σ H _ x τ1 r e1 fun v1 H1 F1 r1 c1 n1 h1 d1=>?_
 refine hg.run S M τ1 σ H1 _ y _ r1 e2 fun vs H2 F2 r2 c2 n2 h2 d2=>?_
 have nM1:∀a∈F1,¬M a:=fun a ha z=>r.fresh (h1 a ha) (r.sub a z)
 have on:∀a∈F1,H2 a=H1 a:=fun a ha=>by
  obtain⟨us,z⟩:=d1.lst a ha
  rw[z];exact c2 a _ (nM1 a ha) z
 refine q (v1::vs) H2 (F1++F2) r2 (c1.trans c2) (List.nodup_append.mpr ⟨n1,n2,fun a ha b hb z=>?_⟩) (fun a ha=>?_) ⟨v1,vs,F1,F2,rfl,rfl,d1.mono (tsS (c2.keep r1.sub).same) on,d2⟩
 ·subst z
  obtain⟨us,w⟩:=d1.lst a ha
  rw[h2 a hb]at w;cases w
 ·rcases List.mem_append.mp ha with ha|ha
  ·exact h1 a ha
  ·exact r1.none c1 (h2 a ha)
def Ig(f:DS->Option (List PyData×DS))(τ:DS):Option (PyData×DS):=(f τ).bind fun p=>if p.1.length<=sizeLine then some (.tuple p.1,p.2) else none
theorem V4{t:TA}{f:DS->Option (List PyData×DS)}(h:AG K t f):EH K (Tj t) (Ig f):=by
 refine⟨fun τ d τ' e=>?_,fun S M τ σ H Q d τ' r e q=>?_⟩
 ·unfold Ig at e
  obtain⟨⟨x,τ1⟩,e1,e⟩:=oB e
  dsimp only at e
  split at e
  ·cases e;exact h.like _ _ _ e1
  ·cases e
 unfold Ig at e
 obtain⟨⟨x,τ1⟩,e1,e⟩:=oB e
 dsimp only at e
 split at e
 ·rename_i hz
  cases e
  refine h.run S M τ σ H _ x _ r e1 fun vs H1 F r1 c1 hn hF hd=>?_
  refine⟨by rw[hd.length];exact hz,fun p hp=>?_⟩
  have s:=BS hp (HO.tup vs)
  have pF:p∉F:=fun z=>by
   obtain⟨us,w⟩:=hd.lst p z
   rw[hp]at w;cases w
  refine q _ _ F (r1.same s) (c1.trans (.of s)) hn hF ⟨p,vs,rfl,SqT.of (hid_iff.mpr ⟨r1.fresh hp,AT⟩),hd.mono (tsS (Same.keep s).same) fun a ha=>AO fun z=>pF (z▸ha)⟩
 ·cases e
def GlG(K:KW)(F:Frm)(S:Addr->Prop)(H:Hp)(D:Jj):Out->Prop
 |.nx τ'=>∀S' M' σ' H',RF K F S' M' τ' σ' H'->Keep S H S' H'->D.nx σ' H'
 |.bk τ'=>∀S' M' σ' H',RF K F S' M' τ' σ' H'->Keep S H S' H'->D.bk σ' H'
 |.ct τ'=>∀S' M' σ' H',RF K F S' M' τ' σ' H'->Keep S H S' H'->D.ct σ' H'
 |.rt d _=>∀(H':Hp) v X,(∀b o,F.H b=some o->¬F.M b->H' b=some o)->X.Nodup->(∀a∈X,F.H a=none)->Dp K F.S H' d v X->D.rt v H'
def BG(K:KW)(np:Nat)(t:TS)(f:DB):Prop:=∀(F:Frm) S M τ σ H (D:Jj) out,F.ar.length<=np->RF K F S M τ σ H->f τ=some out->GlG K F S H D out->t D σ H
theorem GlG.trans{F:Frm}{S S1:Addr->Prop}{H H1:Hp}{D:Jj}{o:Out}(k:Keep S H S1 H1)(h:GlG K F S H D o):GlG K F S1 H1 D o:=by
 cases o with
 |nx τ=>exact fun S' M' σ' H' f k'=>h S' M' σ' H' f (k.trans k')
 |bk τ=>exact fun S' M' σ' H' f k'=>h S' M' σ' H' f (k.trans k')
 |ct τ=>exact fun S' M' σ' H' f k'=>h S' M' σ' H' f (k.trans k')
 |rt d τ=>exact h
def HW(a b:DB)(τ:DS):Option Out:=(a τ).bind fun o=>match o with
 |.nx τ'=>b τ'
 |_=>none
theorem Je{t u:TS}{a b:DB}(ha:B K np t true a)(hb:BG K np u b):BG K np (Tk t u) (HW a b):=by
 intro F S M τ σ H D out hnp f ee q
 unfold HW at ee
 obtain⟨o,e1,ee⟩:=oB ee
 refine ha F S M τ σ H _ o hnp f e1 ?_
 cases o with
 |nx τ1=>exact fun S' M' σ' H' r k=>hb F S' M' τ1 σ' H' D out hnp r ee (q.trans k)
 |bk τ1=>cases ee
 |ct τ1=>cases ee
 |rt d τ1=>cases ee
theorem WC{te:TE}{e:DX}(he:EG K te e):BG K np (PJ te) (B3 e):=by
 intro F S M τ σ H D out hnp f ee q
 unfold B3 at ee
 obtain⟨⟨x,τ1⟩,e1,ee⟩:=oM ee
 subst ee
 refine he.run S M τ σ H _ x τ1 f.r e1 fun v H' X r' c hn hX hd=>?_
 have f1:=f.step r' c (he.like _ _ _ e1)
 exact q H' v X f1.old hn (fun a ha=>f.hnone (hX a ha)) (hd.mono (tsS (B9 f.sS)) fun _ _=>rfl)
theorem Uh{i:Nat}:BG K np (PJ (FL i)) (LI i):=by
 intro F S M τ σ H D out hnp f ee q
 unfold LI at ee
 split at ee
 ·rename_i ds hi
  cases ee
  obtain⟨v,X,hv,hd,hn,hM,ho,_⟩:=Po f.r hi
  have nf:∀a∈X,F.H a=none:=fun a ha=>by
   rcases f.new a (hM a ha)with z|z
   ·obtain⟨j,hj⟩:=f.fma a z
    obtain⟨o,e⟩:=f.pm j _ hj
    exact absurd ha (ho j o a e (f.par j _ hj))
   ·exact z
  exact⟨v,hv,q H v X f.old hn nf (hd.mono (tsS (B9 f.sS)) fun _ _=>rfl)⟩
 ·cases ee
theorem Qk{np nl:Nat}{t:TS}{b:DB}{N:List Str}{vs:List V}{H:Hp}{Q:VK}{X:XK}(hb:BG K np t b)(hN:N.length=np+nl)(h:spG K (C5 true np nl b) vs H Q X):t { nx:=fun _ H'=>Q .non H',rt:=Q } (L2.start N vs) H:=by
 obtain⟨S,ds,r,ls',hR,ee,q⟩:=h
 have hlen:=BC _ _ ee
 have hvl:vs.length=(ds.map L.d).length:=by have:=hR.len;rw[List.length_map,List.length_map]at this;exact this
 unfold C5 at ee
 rw[if_pos hlen]at ee
 obtain⟨o,e1,ee⟩:=oB ee
 have est:L2.start N vs=vs.map some++List.replicate nl none:=by
  unfold L2.start
  rw[hN,hvl,hlen,Nat.add_sub_cancel_left]
 rw[est]
 have r0:=VN hR (fun i d h=>by rw[List.getElem?_map]at h;cases q:ds[i]? with|none=>rw[q]at h;cases h|some d=>rw[q]at h;cases h) nl
 have f0:RF K ⟨S,fun _=>False,H,[]⟩ S (fun _=>False) (((ds.map L.d).map some)++List.replicate nl none) (vs.map some++List.replicate nl none) H:=⟨r0,fun _ h=>h,fun _ _ e _=>e,fun _ h=>h.elim,fun _ h=>h,r0.ex,fun _ h=>h.elim,fun _ h=>.inl h,fun i v e=>by simp at e,fun i v e=>by simp at e,fun _ h=>h.elim⟩
 refine hb ⟨S,fun _=>False,H,[]⟩ S _ _ _ H _ o (Nat.zero_le _) f0 e1 ?_
 cases o with
 |nx τ=>simp at ee
 |bk τ=>simp at ee
 |ct τ=>simp at ee
 |rt d τ =>
  obtain⟨ls1,e3,ee⟩:=oM ee
  cases ee
  exact fun H' v X old hn hX hd=>q v H' X (fun b o z=>old b o z fun w=>w) hn hX hd
def Hm(i:Nat)(f:DX)(τ:DS):Option (PyData×DS):=match τ[i]? with
 |some (some (.g (.list ds)))=>(f (τ.set i (some (.d (.list ds))))).bind fun q=>if q.2.all okM then some (q.1,q.2.set i (some (.g (.list ds)))) else none
 |_=>none
theorem Gk{i:Nat}{f:DX}{τ τ':DS}{d:PyData}(e:Hm i f τ=some (d,τ')):∃ds τ1,τ[i]?=some (some (.g (.list ds)))/\f (τ.set i (some (.d (.list ds))))=some (d,τ1)/\τ1.all okM=true/\τ'=τ1.set i (some (.g (.list ds))):=by
 unfold Hm at e
 split at e
 ·rename_i ds hx
  obtain⟨⟨z,τ1⟩,e1,e⟩:=oB e
  dsimp only at e
  split at e
  ·rename_i h
   cases e
   exact⟨ds,τ1,hx,e1,h,rfl⟩
  ·cases e
 ·cases e
theorem Qn{i:Nat}{t:TE}{f:DX}(h:EG K t f):EG K t (Hm i f):=by
 refine⟨fun τ d τ' e=>?_,fun τ d τ' e=>?_,?_⟩
 ·obtain⟨ds,τ1,e1,e2,_,rfl⟩:=Gk e
  exact MV e1 (h.like _ _ _ e2)
 ·obtain⟨ds,τ1,e1,e2,_,rfl⟩:=Gk e
  exact h.isl _ _ _ e2
 intro S M τ σ H Q d τ' r e q
 obtain⟨ds,τ1,e1,e2,ok,rfl⟩:=Gk e
 obtain⟨v,F,hv,hd,hn,hM,ho,rz⟩:=Po r e1
 refine h.run _ _ _ σ H _ d τ1 rz e2 fun u H' X r' c hn' hX hd'=>?_
 obtain⟨r2,ts⟩:=Mv r e1 hv hd hn hM ho r' (h.like _ _ _ e2) c ok
 exact q u H' X r2 (fun b o hb z=>c b o (fun w=>hb w.1) z) hn' hX (hd'.mono ts fun _ _=>rfl)
def Qu(np i:Nat)(b:DB)(τ:DS):Option Out:=match τ[i]? with
 |some (some (.k kvs))=>if np<=i then b (τ.set i (some (.d (.dict (CB kvs))))) else none
 |_=>none
theorem Qw{i:Nat}{tb:TS}{b:DB}(hb:BG K np tb b):BG K np tb (Qu np i b):=by
 intro F S M τ σ H D out hnp f ee q
 unfold Qu at ee
 split at ee
 ·rename_i kvs hx
  split at ee
  ·rename_i hi
   obtain⟨p,h,hp,_⟩:=f.r.mt i (.t kvs) hx
   have kp:Keep S H (fun b=>S b/\b≠p) H:=fun b o hn e=>⟨fun z=>hn z.1,e⟩
   exact hb F (fun b=>S b/\b≠p) (fun b=>M b/\b≠p) _ σ H D out hnp (f.frz (w:=.t kvs) hx hp (Nat.le_trans hnp hi)) ee (q.trans kp)
  ·cases ee
 ·cases ee
end DL
end
section
namespace DL
open PySem L2
variable {K:KW} {np:Nat}
abbrev GRp(K:KW)(S M:Addr->Prop)(τ:DS)(σ:St)(H:Hp)(φ:Nat->List Addr):Prop:=∀(i:Nat) (d:PyData),τ[i]?=some (some (.g d)) ->
 (∃v,σ[i]?=some (some v)/\DpT K S H d v (φ i))/\(φ i).Nodup/\(∀a∈φ i,M a)/\(∀(j:Nat) (o:Ow) (a:Addr),τ[j]?=some (some o.L)->σ[j]?=some (some (.ref a))->a∉φ i) /\
  ∀(j:Nat) (d':PyData),j≠i->τ[j]?=some (some (.g d'))->∀a∈φ i,a∉φ j
theorem RF.graft{F:Frm}{S M:Addr->Prop}{τ τ':DS}{σ:St}{H H':Hp}(f:RF K F S M τ σ H){φ:Nat->List Addr}(g:GRp K S M τ σ H φ){i:Nat}{d d':PyData}{v:V}{J:List Nat}{X F':List Addr}
  (hi:τ[i]?=some (some (.g d))) (hv:σ[i]?=some (some v)) (hl:τ'.length=τ.length) (hti:τ'[i]?=some (some (.g d'))) (ht:∀k,k≠i->τ'[k]?=τ[k]?\/(k∈J/\τ'[k]?=some none)) (hJ:∀j∈J,τ'[j]?=some none/\∃dj,τ[j]?=some (some (.g dj)))
  (hX:∀a∈X,S a/\¬M a/\F.H a=none) (hc:∀b,b∉φ i->H' b=H b) (hex:∀a∈φ i,∃o,H' a=some o) (hd:Dp K S H' d' v F') (hn:F'.Nodup) (hF:∀a∈F',a∈φ i\/(∃j∈J,a∈φ j)\/a∈X) :
  RF K F S (fun b=>M b\/b∈X) τ' σ H'/\Keep S H S H':=by
 obtain⟨_,gi3,gi4,gi5,gi6⟩:=g i d hi
 have k:Keep S H S H':=fun b o h e=>⟨h,by rw[hc b fun z=>h (f.r.sub b (gi4 b z))];exact e⟩
 have ji:∀j∈J,j≠i:=fun j hj z=>by
  have:=(hJ j hj).1
  rw[z,hti]at this;cases this
 have old:∀(j:Nat) (l:L),j≠i->τ'[j]?=some (some l)->τ[j]?=some (some l)/\j∉J:=fun j l hj e=>by
  rcases ht j hj with z|⟨_,z⟩
  ·exact⟨by rw[<- z];exact e,fun w=>by rw[(hJ j w).1]at e;cases e⟩
  ·rw[z]at e;cases e
 have own:∀(j:Nat) (o:Ow),τ'[j]?=some (some o.L)->j≠i/\τ[j]?=some (some o.L):=fun j o e=>by
  have hj:j≠i:=fun z=>by subst z;rw[hti]at e;exact absurd (Option.some.inj (Option.some.inj e)).symm Ow.not_g
  exact⟨hj,(old j _ hj e).1⟩
 have inM:∀a∈F',M a\/a∈X:=fun a ha=>by
  rcases hF a ha with z|⟨j,hj,z⟩|z
  ·exact .inl (gi4 a z)
  ·obtain⟨dj,e⟩:=(hJ j hj).2
   obtain⟨_,_,q4,_⟩:=g j dj e
   exact .inl (q4 a z)
  ·exact .inr z
 have notO:∀(j:Nat) (o:Ow) (a:Addr),τ[j]?=some (some o.L)->σ[j]?=some (some (.ref a))->a∉F':=fun j o a e1 e2 ha=>by
  rcases hF a ha with z|⟨j2,hj2,z⟩|z
  ·exact gi5 j o a e1 e2 z
  ·obtain⟨dj,e⟩:=(hJ j2 hj2).2
   obtain⟨_,_,_,q5,_⟩:=g j2 dj e
   exact q5 j o a e1 e2 z
  ·obtain⟨b,us,h1,h2,_⟩:=f.r.mt j o e1
   rw[e2]at h1;cases h1
   exact(hX a z).2.1 h2
 have notG:∀(j:Nat) (x:PyData),j≠i->j∉J->τ[j]?=some (some (.g x))->∀a∈F',a∉φ j:=fun j x hj hjJ e a ha hq=>by
  obtain⟨_,_,q4,_,q6⟩:=g j x e
  rcases hF a ha with z|⟨j2,hj2,z⟩|z
  ·exact gi6 j x hj e a z hq
  ·obtain⟨dj,e2⟩:=(hJ j2 hj2).2
   exact q6 j2 dj (fun w=>hjJ (w▸hj2)) e2 a hq z
  ·exact(hX a z).2.1 (q4 a hq)
 refine⟨⟨⟨hl▸f.r.len,fun j x e=>?_,fun j o e=>?_,fun j ys e=>?_,fun j1 j2 o p b e1 e2 f1 f2=>f.r.inj _ _ _ _ b (own _ _ e1).2 (own _ _ e2).2 f1 f2,fun b h=>h.elim (f.r.sub b) fun z=>(hX b z).1,fun a h=>?_,?_⟩,f.sS,fun b o e n=>?_,fun b h=>h.elim (f.new b) fun z=>.inr (hX b z).2.2,fun b h=>.inl (f.fm b h),f.fs,f.fsub,f.snew,f.par,fun j v' e=>?_,f.fma⟩,k⟩
 ·have hj:j≠i:=fun z=>by subst z;rw[hti]at e;cases e
  obtain⟨u,h5,h6⟩:=f.r.dat j x (old j _ hj e).1
  exact⟨u,h5,h6.mono k.same⟩
 ·obtain⟨hj,e⟩:=own j o e
  obtain⟨b,us,h1,h2,h3,h4⟩:=f.r.mt j o e
  exact⟨b,us,h1,.inl h2,by rw[hc b (gi5 j o b e h1)];exact h3,h4.mono k.same⟩
 ·have hj:j≠i:=fun z=>by subst z;rw[hti]at e;cases e
  obtain⟨a,vs,h1,h2,h3⟩:=f.r.cst j ys (old j _ hj e).1
  exact⟨a,vs,h1,k.same.seq h2,h3.mono k.same⟩
 ·by_cases z:a∈φ i
  ·exact hex a z
  ·rw[hc a z];exact f.r.ex a h
 ·refine⟨fun j=>if j=i then F' else φ j,fun j x e=>?_⟩
  by_cases hj:j=i
  ·subst hj
   rw[hti]at e;cases e
   simp only[if_true]
   refine⟨⟨v,hv,DpT.of hd⟩,hn,inM,fun j' o a z1 z2=>notO j' o a (own j' o z1).2 z2,fun j' x' hj' z a ha=>?_⟩
   rw[if_neg hj']
   obtain⟨w1,w2⟩:=old j' _ hj' z
   exact notG j' x' hj' w2 w1 a ha
  ·dsimp only
   simp only[if_neg hj]
   obtain⟨w1,w2⟩:=old j _ hj e
   obtain⟨⟨v',q1,q2⟩,q3,q4,q5,q6⟩:=g j x w1
   refine⟨⟨v',q1,q2.mono (tsS k.same) fun a ha=>hc a fun z=>q6 i d (Ne.symm hj) hi a ha z⟩,q3,fun a ha=>.inl (q4 a ha),fun j' o a z1 z2=>q5 j' o a (own j' o z1).2 z2,fun j' x' hj' z a ha=>?_⟩
   by_cases hj2:j'=i
   ·rw[if_pos hj2];exact fun hq=>notG j x hj w2 w1 a hq ha
   ·rw[if_neg hj2];exact q6 j' x' hj' (old j' _ hj2 z).1 a ha
 ·by_cases z:b∈φ i
  ·rcases f.new b (gi4 b z)with w|w
   ·exact absurd w n
   ·rw[w]at e;cases e
  ·rw[hc b z];exact f.old b o e n
 ·obtain⟨o,ho⟩:=f.pm j v' e
  have hj:j≠i:=fun z=>by subst z;rw[hi]at ho;exact Ow.not_g (Option.some.inj (Option.some.inj ho)).symm
  have hjJ:j∉J:=fun z=>by
   obtain⟨dj,w⟩:=(hJ j z).2
   rw[w]at ho;exact Ow.not_g (Option.some.inj (Option.some.inj ho)).symm
  rcases ht j hj with z|⟨z,_⟩
  ·exact⟨o,by rw[z];exact ho⟩
  ·exact absurd z hjJ
def LO(i:Nat)(e:DX)(τ:DS):Option Out:=match τ[i]? with
 |some (some (.g (.list _)))=>(e τ).bind fun p=>match p.2[i]? with
  |some (some (.g (.list rows)))=>if rows.length<sizeLine/\p.2.all okM=true then some (.nx (p.2.set i (some (.g (.list (rows++[p.1])))))) else none
  |_=>none
 |_=>none
theorem WH{fr:Bool}{i:Nat}{te:TE}{e:DX}(he:EH K te e):B K np (IA (tBM K "list" IH (FL i) (Dd te Hz))) fr (LO i e):=by
 intro F S M τ σ H D out hnp f ee q
 unfold LO at ee
 split at ee
 ·rename_i r0 hi0
  obtain⟨⟨d1,τ1⟩,e1,ee⟩:=oB ee
  dsimp only at ee
  split at ee
  ·rename_i rows hi
   split at ee
   ·rename_i hz
    cases ee
    obtain⟨φ0,g0⟩:=f.r.gr
    obtain⟨⟨v,hv,h0⟩,_⟩:=g0 i _ hi0
    obtain⟨a0,vs0,G0,rfl,_,ha0,_⟩:=(show Dp K S H (.list r0) v (φ0 i) from h0)
    refine⟨.ref a0,hv,.inl ⟨rfl,vs0,SqL.of ha0⟩,he.run S M τ σ H _ d1 τ1 f.r e1 fun v1 H1 X r1 c1 hn hX hd1=>?_⟩
    have lk:=he.like _ _ _ e1
    have f1:=f.hideG r1 c1 lk hz.2 hX hd1.lst
    have ts:TSm (hid S H1) (hid (fun b=>S b\/b∈X) H1):=DH fun b z=>z.elim .inl fun z=>let ⟨vs,e⟩:=hd1.lst b z;.inr ⟨_,e,.inl ⟨vs,rfl⟩⟩
    have hd1:=hd1.mono ts fun _ _=>rfl
    obtain⟨φ,g⟩:=f1.r.gr
    obtain⟨⟨v',hv',h1⟩,gn,gM,_⟩:=g i _ hi
    rw[hv]at hv';cases hv'
    obtain⟨a,vs,G,ea,eF,ha,l⟩:=(show Dp K _ H1 (.list rows) (.ref a0) (φ i) from h1)
    cases ea
    have nX:∀b∈X,¬M b:=fun b hb z=>f.r.fresh (hX b hb) (f.r.sub b z)
    have aI:a0∈φ i:=by rw[eF];exact List.mem_cons_self ..
    have aM:=gM a0 aI
    rw[eF]at gn
    obtain⟨na,nG⟩:=List.nodup_cons.mp gn
    have aX:a0∉X:=fun z=>nX a0 z aM
    have kp:Keep S H (fun b=>S b\/b∈X) H1:=fun b o hb e=>⟨fun z=>z.elim hb (fun z=>by rw[hX b z]at e;cases e),c1 b o (fun z=>hb (f.r.sub b z)) e⟩
    refine⟨a0,vs,v1,rfl,rfl,ha,by rw[l.length];exact hz.1,?_⟩
    have hS0:(fun b=>S b\/b∈X) a0:=f1.r.sub a0 aM
    have eh:hid (fun b=>S b\/b∈X) (upd H1 a0 (.lst (vs++[v1])))=hid (fun b=>S b\/b∈X) H1:=DC hS0
    have hdN:Dp K (fun b=>S b\/b∈X) (upd H1 a0 (.lst (vs++[v1]))) (.list (rows++[d1])) (.ref a0) (a0::(G++X)):=by
     refine⟨a0,_,_,rfl,rfl,AT,DpL.snoc (l.mono (by rw[eh];exact .refl) fun b hb=>AO fun z=>na (z▸hb)) (hd1.mono (by rw[eh];exact .refl) fun b hb=>AO fun z=>aX (z▸hb))⟩
    have hlt:i<τ1.length:=(List.getElem?_eq_some_iff.mp hi).1
    have hex:∀b∈φ i,∃o,upd H1 a0 (.lst (vs++[v1])) b=some o:=fun b hb=>by
     by_cases z:b=a0
     ·subst z;exact⟨_,AT⟩
     ·rw[AO z];exact f1.r.ex b (f1.r.sub b (gM b hb))
    have hnd:(a0::(G++X)).Nodup:=by
     refine List.nodup_cons.mpr ⟨fun z=>?_,List.nodup_append.mpr ⟨nG,hn,fun b hb c hc z=>?_⟩⟩
     ·rcases List.mem_append.mp z with z|z
      ·exact na z
      ·exact aX z
     ·subst z
      exact nX b hc (gM b (by rw[eF];exact List.mem_cons_of_mem _ hb))
    have hsb:∀b∈a0::(G++X),b∈φ i\/(∃j∈([]:List Nat),b∈φ j)\/b∈X:=fun b hb=>by
     rw[eF]
     rcases List.mem_cons.mp hb with rfl|hb
     ·exact .inl (List.mem_cons_self ..)
     ·rcases List.mem_append.mp hb with hb|hb
      ·exact .inl (List.mem_cons_of_mem _ hb)
      ·exact .inr (.inr hb)
    obtain⟨f2,k2⟩:=f1.graft (τ':=τ1.set i (some (.g (.list (rows++[d1]))))) (J:=[]) (X:=X) (F':=a0::(G++X)) g hi hv (by rw[List.length_set]) (List.getElem?_set_self hlt) (fun k hk=>.inl (List.getElem?_set_ne (Ne.symm hk))) (fun j hj=>by cases hj)
     (fun b hb=>⟨.inr hb,nX b hb,f.hnone (hX b hb)⟩) (fun b hb=>AO fun z=>hb (z▸aI)) hex hdN hnd hsb
    exact q _ _ _ _ f2 (kp.trans k2)
   ·cases ee
  ·cases ee
 ·cases ee
def Hn(i:Nat)(e1 e2:DX)(j1 j2:Nat)(τ:DS):Option Out:=match τ[i]? with
 |some (some (.g (.list _)))=>(e1 τ).bind fun p=>(e2 p.2).bind fun w=>match w.2[i]?,w.2[j1]?,w.2[j2]? with
  |some (some (.g (.list rows))),some (some (.g (.list l1))),some (some (.g (.list l2)))=>if rows.length<sizeLine/\Dm p.1=true/\Dm w.1=true/\i≠j1/\i≠j2/\j1≠j2 then some (.nx (((w.2.set j1 none).set j2 none).set i (some (.g (.list (rows++[.tuple [p.1,w.1,.list l1,.list l2]])))))) else none
  |_,_,_=>none
 |_=>none
theorem Uj{fr f1 f2:Bool}{i j1 j2:Nat}{t1 t2:TE}{e1 e2:DX}(h1:E K t1 f1 e1)(h2:E K t2 f2 e2):B K np (IA (tBM K "list" IH (FL i) (Dd (Tj (Dd t1 (Dd t2 (Dd (FL j1) (Dd (FL j2) Hz))))) Hz))) fr (Hn i e1 e2 j1 j2):=by
 intro F S M τ σ H D out hnp f ee q
 unfold Hn at ee
 split at ee
 ·rename_i r0 hi0
  obtain⟨⟨d1,τ1⟩,ea,ee⟩:=oB ee
  obtain⟨⟨d2,τ2⟩,eb,ee⟩:=oB ee
  dsimp only at ee
  split at ee
  ·rename_i rows l1 l2 hi hj1 hj2
   split at ee
   ·rename_i hz
    cases ee
    obtain⟨hz,x1,x2,n1,n2,n3⟩:=hz
    obtain⟨φ0,g0⟩:=f.r.gr
    obtain⟨⟨v,hv,h0⟩,_⟩:=g0 i _ hi0
    obtain⟨a0,vs0,G0,rfl,_,ha0,_⟩:=(show Dp K S H (.list r0) v (φ0 i) from h0)
    refine⟨.ref a0,hv,.inl ⟨rfl,vs0,SqL.of ha0⟩,h1.weak.run S M τ σ H _ d1 τ1 f.r ea fun v1 H1 r1 c1 i1=>?_⟩
    refine h2.weak.run S M τ1 σ H1 _ d2 τ2 r1 eb fun v2 H2 r2 c2 i2=>?_
    have f2:=(f.step r1 c1 (h1.like _ _ _ ea)).step r2 c2 (h2.like _ _ _ eb)
    obtain⟨φ1,g1⟩:=f2.r.gr
    obtain⟨⟨u1,hu1,_⟩,_⟩:=g1 j1 _ hj1
    obtain⟨⟨u2,hu2,_⟩,_⟩:=g1 j2 _ hj2
    refine⟨u1,hu1,u2,hu2,by rw[sizeLine_eq];exact Nat.le_trans (show 4<=64 by decide) (by decide),fun p hp=>?_⟩
    have s3:=BS hp (HO.tup [v1,v2,u1,u2])
    have f3:=f2.step (r2.same s3) (.of s3) .refl
    obtain⟨φ,g⟩:=f3.r.gr
    obtain⟨⟨v',hv',hd0⟩,gn,gM,_,g6⟩:=g i _ hi
    rw[hv]at hv';cases hv'
    obtain⟨⟨w1,hw1,hd1⟩,gn1,gM1,_,g61⟩:=g j1 _ hj1
    rw[hu1]at hw1;cases hw1
    obtain⟨⟨w2,hw2,hd2⟩,gn2,gM2,_,g62⟩:=g j2 _ hj2
    rw[hu2]at hw2;cases hw2
    obtain⟨a,vs,G,ea,eF,ha,l⟩:=(show Dp K S _ (.list rows) (.ref a0) (φ i) from hd0)
    cases ea
    have hd1:Dp K S (upd H2 p (.tup [v1,v2,u1,u2])) (.list l1) u1 (φ j1):=hd1
    have hd2:Dp K S (upd H2 p (.tup [v1,v2,u1,u2])) (.list l2) u2 (φ j2):=hd2
    have aI:a0∈φ i:=by rw[eF];exact List.mem_cons_self ..
    have aM:=gM a0 aI
    have gn':=gn
    rw[eF]at gn'
    obtain⟨na,nG⟩:=List.nodup_cons.mp gn'
    have a1:a0∉φ j1:=g6 j1 _ (Ne.symm n1) hj1 a0 aI
    have a2:a0∉φ j2:=g6 j2 _ (Ne.symm n2) hj2 a0 aI
    refine⟨a0,vs,.ref p,rfl,rfl,ha,by rw[l.length];exact hz,?_⟩
    let H4:=upd (upd H2 p (.tup [v1,v2,u1,u2])) a0 (.lst (vs++[.ref p]))
    have eh:hid S H4=hid S (upd H2 p (.tup [v1,v2,u1,u2])):=DC (f.r.sub a0 aM)
    have tsr:TSm (hid S (upd H2 p (.tup [v1,v2,u1,u2]))) (hid S H4):=by rw[eh];exact .refl
    have kA:Same (hid S H1) (hid S (upd H2 p (.tup [v1,v2,u1,u2]))):=((c2.keep r1.sub).trans (Same.keep s3)).same
    have i1':=i1.mono kA
    have i2':=i2.mono (Same.keep (S:=S) s3).same
    have hdN:Dp K S H4 (.list (rows++[.tuple [d1,d2,.list l1,.list l2]])) (.ref a0) (a0::(G++(φ j1++φ j2))):=by
     refine⟨a0,_,_,rfl,rfl,AT,DpL.snoc (l.mono tsr fun b hb=>AO fun z=>na (z▸hb)) ⟨p,[v1,v2,u1,u2],rfl,?_,v1,_,[],_,rfl,rfl,Dp.fix x1 (by rw[eh];exact i1'),v2,_,[],_,rfl,rfl,Dp.fix x2 (by rw[eh];exact i2'),u1,_,φ j1,φ j2,rfl,rfl,hd1.mono tsr fun b hb=>AO fun z=>a1 (z▸hb),u2,_,φ j2,[],rfl,by simp,hd2.mono tsr fun b hb=>AO fun z=>a2 (z▸hb),rfl,rfl⟩⟩
     rw[eh]
     exact SqT.of (hid_iff.mpr ⟨r2.fresh hp,AT⟩)
    have hlt:i<τ2.length:=(List.getElem?_eq_some_iff.mp hi).1
    have hlt1:j1<τ2.length:=(List.getElem?_eq_some_iff.mp hj1).1
    have hlt2:j2<τ2.length:=(List.getElem?_eq_some_iff.mp hj2).1
    have ht:∀k,k≠i->(((τ2.set j1 none).set j2 none).set i (some (.g (.list (rows++[.tuple [d1,d2,.list l1,.list l2]])))))[k]?=τ2[k]?\/(k∈[j1,j2]/\(((τ2.set j1 none).set j2 none).set i (some (.g (.list (rows++[.tuple [d1,d2,.list l1,.list l2]])))))[k]?=some none):=fun k hk=>by
     rw[List.getElem?_set_ne (Ne.symm hk)]
     by_cases z2:k=j2
     ·subst z2
      exact .inr ⟨by simp,List.getElem?_set_self (by simpa using hlt2)⟩
     ·rw[List.getElem?_set_ne (Ne.symm z2)]
      by_cases z1:k=j1
      ·subst z1
       exact .inr ⟨by simp,List.getElem?_set_self hlt1⟩
      ·exact .inl (List.getElem?_set_ne (Ne.symm z1))
    have hJ:∀j∈[j1,j2],(((τ2.set j1 none).set j2 none).set i (some (.g (.list (rows++[.tuple [d1,d2,.list l1,.list l2]])))))[j]?=some none/\∃dj,τ2[j]?=some (some (.g dj)):=fun j hj=>by
     rcases List.mem_cons.mp hj with rfl|hj
     ·exact⟨by rw[List.getElem?_set_ne n1,List.getElem?_set_ne (Ne.symm n3)];exact List.getElem?_set_self hlt1,_,hj1⟩
     ·cases List.mem_singleton.mp hj
      exact⟨by rw[List.getElem?_set_ne n2];exact List.getElem?_set_self (by simpa using hlt2),_,hj2⟩
    have hex:∀b∈φ i,∃o,H4 b=some o:=fun b hb=>by
     by_cases z:b=a0
     ·subst z;exact⟨_,AT⟩
     ·rw[show H4 b=_ from AO z];exact f3.r.ex b (f3.r.sub b (gM b hb))
    have hnd:(a0::(G++(φ j1++φ j2))).Nodup:=by
     refine List.nodup_cons.mpr ⟨fun z=>?_,List.nodup_append.mpr ⟨nG,List.nodup_append.mpr ⟨gn1,gn2,fun b hb c hc z=>?_⟩,fun b hb c hc z=>?_⟩⟩
     ·rcases List.mem_append.mp z with z|z
      ·exact na z
      ·exact(List.mem_append.mp z).elim a1 a2
     ·subst z;exact g61 j2 _ (Ne.symm n3) hj2 b hb hc
     ·subst z
      have hb:b∈φ i:=by rw[eF];exact List.mem_cons_of_mem _ hb
      rcases List.mem_append.mp hc with hc|hc
      ·exact g6 j1 _ (Ne.symm n1) hj1 b hb hc
      ·exact g6 j2 _ (Ne.symm n2) hj2 b hb hc
    have hsb:∀b∈a0::(G++(φ j1++φ j2)),b∈φ i\/(∃j∈[j1,j2],b∈φ j)\/b∈([]:List Addr):=fun b hb=>by
     rw[eF]
     rcases List.mem_cons.mp hb with rfl|hb
     ·exact .inl (List.mem_cons_self ..)
     ·rcases List.mem_append.mp hb with hb|hb
      ·exact .inl (List.mem_cons_of_mem _ hb)
      ·rcases List.mem_append.mp hb with hb|hb
       ·exact .inr (.inl ⟨j1,by simp,hb⟩)
       ·exact .inr (.inl ⟨j2,by simp,hb⟩)
    have kp:Keep S H S (upd H2 p (.tup [v1,v2,u1,u2])):=((c1.keep f.r.sub).trans (c2.keep r1.sub)).trans (Same.keep s3)
    obtain⟨f4,k4⟩:=f3.graft (H':=H4) (J:=[j1,j2]) (X:=[]) (F':=a0::(G++(φ j1++φ j2))) g hi hv (by simp) (List.getElem?_set_self (by simpa using hlt)) ht hJ
     (fun b hb=>by cases hb) (fun b hb=>AO fun z=>hb (z▸aI)) hex hdN hnd hsb
    exact q _ _ _ _ f4 (kp.trans k4)
   ·cases ee
  ·cases ee
 ·cases ee
end DL
end
section
namespace DL
open PySem L2
variable {K:KW} {np:Nat}
theorem P8{S M:Addr->Prop}{τ τ1:DS}{σ:St}{H H3 H4:Hp}(r:R K S M τ σ H){i:Nat}{d d':PyData}{v:V}{F F':List Addr}(hi:τ[i]?=some (some (.g d)))(hv:σ[i]?=some (some v))(hM:∀a∈F,M a)
  (ho:∀(j:Nat) (o:Ow) (a:Addr),τ[j]?=some (some o.L)->σ[j]?=some (some (.ref a))->a∉F)
  (r1:R K (fun b=>S b/\b∉F) (fun b=>M b/\b∉F) τ1 σ H3) (lk:Like (τ.set i (some (.d d))) τ1) (c:Chg (fun b=>M b/\b∉F) H H3) (ok:τ1.all okM=true)
  (hl3:∀a∈F,∃vs,H3 a=some (.lst vs)) (c4:∀b,b∉F->H4 b=H3 b) (hl4:∀a∈F,∃vs,H4 a=some (.lst vs)) (hs:∀a∈F',a∈F) (hn:F'.Nodup) (hd:Dp K S H4 d' v F'):R K S M (τ1.set i (some (.g d'))) σ H4:=by
 have hlt:i<τ.length:=(List.getElem?_eq_some_iff.mp hi).1
 have hl1:τ1.length=τ.length:=by have:=lk.1;rw[List.length_set]at this;exact this
 have hlt1:i<τ1.length:=by omega
 have ne:∀j,j≠i->(τ1.set i (some (.g d')))[j]?=τ1[j]?:=fun j hj=>List.getElem?_set_ne (Ne.symm hj)
 have se:(τ1.set i (some (.g d')))[i]?=some (some (.g d')):=List.getElem?_set_self hlt1
 have ne0:∀j,j≠i->(τ.set i (some (.d d)))[j]?=τ[j]?:=fun j hj=>List.getElem?_set_ne (Ne.symm hj)
 have k : Keep S H S H4 := fun b o h e => ⟨h, by
  have hb:b∉F:=fun z=>h (r.sub b (hM b z))
  rw[c4 b hb];exact c b o (fun z=>h (r.sub b z.1)) e⟩
 have ts:TSm (hid (fun b=>S b/\b∉F) H3) (hid S H4):=fun b o e nl ne=>by
  obtain⟨e1,e2⟩:=hid_iff.mp e
  have hb:b∉F:=fun z=>by
   obtain⟨vs,q⟩:=hl3 b z
   rw[e2]at q;cases q;exact nl _ rfl
  exact hid_iff.mpr ⟨fun z=>e1 ⟨z,hb⟩,by rw[c4 b hb];exact e2⟩
 have own:∀(j:Nat) (ys:Ow),(τ1.set i (some (.g d')))[j]?=some (some ys.L)->j≠i/\τ1[j]?=some (some ys.L):=fun j ys e=>by
  by_cases hj:j=i
  ·subst hj;rw[se]at e;exact absurd (Option.some.inj (Option.some.inj e)).symm Ow.not_g
  ·rw[ne j hj]at e;exact⟨hj,e⟩
 have mm:∀(j:Nat) (ys:Ow),j≠i->τ1[j]?=some (some ys.L)->∃zs:Ow,τ[j]?=some (some zs.L):=fun j ys hj e=>by
  obtain⟨zs,q⟩:=(lk.own j).mp ⟨_,e⟩
  rw[ne0 j hj]at q
  exact⟨zs,q⟩
 have cs:∀(j:Nat) (ys:List PyData),(τ1.set i (some (.g d')))[j]?=some (some (.c ys))->τ[j]?=some (some (.c ys)):=fun j ys e=>by
  by_cases hj:j=i
  ·subst hj;rw[se]at e;cases e
  ·rw[ne j hj]at e
   have:=((lk.2 j).1.2 ys).mp e
   rw[ne0 j hj]at this
   exact this
 refine⟨by rw[List.length_set];exact r1.len,fun j x e=>?_,fun j ys e=>?_,fun j ys e=>let ⟨a,vs,h1,h2,h3⟩:=r.cst j ys (cs j ys e);⟨a,vs,h1,k.same.seq h2,h3.mono k.same⟩,fun j1 j2 ys zs b e1 e2 f1 f2=>?_,r.sub,fun a h=>?_,?_⟩
 ·by_cases hj:j=i
  ·subst hj;rw[se]at e;cases e
  ·rw[ne j hj]at e
   have:=((lk.2 j).1.1 x).mp e
   rw[ne0 j hj]at this
   obtain⟨v,h5,h6⟩:=r.dat j x this
   exact⟨v,h5,h6.mono k.same⟩
 ·obtain⟨hj,e⟩:=own j ys e
  obtain⟨b,ws,h5,h6,h7,h8⟩:=r1.mt j ys e
  have fx:okM (some ys.L)=true:=List.all_eq_true.mp ok (some ys.L) (List.mem_of_getElem? e)
  exact⟨b,ws,h5,h6.1,by rw[c4 b h6.2];exact h7,h8.monoT ts fx⟩
 ·obtain⟨g1,e1⟩:=own _ _ e1
  obtain⟨g2,e2⟩:=own _ _ e2
  obtain⟨_,q1⟩:=mm j1 ys g1 e1
  obtain⟨_,q2⟩:=mm j2 zs g2 e2
  exact r.inj _ _ _ _ b q1 q2 f1 f2
 ·by_cases e:a∈F
  ·obtain⟨vs,q⟩:=hl4 a e;exact⟨_,q⟩
  ·obtain⟨o,q⟩:=r1.ex a ⟨h,e⟩;exact⟨o,by rw[c4 a e];exact q⟩
 ·obtain⟨φ,g⟩:=r1.gr
  refine⟨fun j=>if j=i then F' else φ j,fun j x e=>?_⟩
  have gs:∀(j:Nat) (x:PyData),j≠i->(τ1.set i (some (.g d')))[j]?=some (some (.g x))->τ1[j]?=some (some (.g x)):=fun j x hj e=>by rw[ne j hj]at e;exact e
  by_cases hj:j=i
  ·subst hj
   rw[se]at e;cases e
   simp only[if_true]
   refine⟨⟨v,hv,DpT.of hd⟩,hn,fun a ha=>hM a (hs a ha),fun j' o a z1 z2 ha=>?_,fun j' x' hj' z a ha=>?_⟩
   ·obtain⟨q1,q2⟩:=own j' o z1
    obtain⟨zs,q3⟩:=mm j' o q1 q2
    exact ho j' zs a q3 z2 (hs a ha)
   ·rw[if_neg hj']
    intro hq
    obtain⟨_,_,q4,_,_⟩:=g j' x' (gs j' x' hj' z)
    exact(q4 a hq).2 (hs a ha)
  ·dsimp only
   simp only[if_neg hj]
   obtain⟨⟨v',q1,q2⟩,q3,q4,q5,q6⟩:=g j x (gs j x hj e)
   refine⟨⟨v',q1,q2.mono ts fun a ha=>c4 a (q4 a ha).2⟩,q3,fun a ha=>(q4 a ha).1,fun j' o a z1 z2=>q5 j' o a (own j' o z1).2 z2,fun j' x' hj' z a ha=>?_⟩
   by_cases hj2:j'=i
   ·rw[if_pos hj2];exact fun z=>(q4 a ha).2 (hs a z)
   ·rw[if_neg hj2];exact q6 j' x' hj' (gs j' x' hj2 z) a ha
def gtP:List Nat->PyData->Option PyData
 |[],d=>some d
 |k::π,.list ds=>(ds[k]?).bind (gtP π)
 |k::π,.tuple ds=>(ds[k]?).bind (gtP π)
 |_::_,_=>none
def stP(x:PyData):List Nat->PyData->PyData
 |[],_=>x
 |k::π,.list ds=>.list (ds.set k (stP x π (ds.getD k .none)))
 |k::π,.tuple ds=>.tuple (ds.set k (stP x π (ds.getD k .none)))
 |_::_,d=>d
theorem G9:∀{π:List Nat} {d:PyData} {ds:List PyData} {n:Nat} {x:PyData},gtP π d=some (.list ds)->ds[n]?=some x->gtP (π++[n]) d=some x
 |[],_,_,n,x,h,e=>by cases h;show(_:Option PyData).bind _=_;rw[e];rfl
 |k::π,.list cs,ds,n,x,h,e=>by
  obtain⟨c,h1,h2⟩:=oB (show(cs[k]?).bind (gtP π)=_ from h)
  show(cs[k]?).bind (gtP (π++[n]))=_
  rw[h1];exact G9 (π:=π) h2 e
 |k::π,.tuple cs,ds,n,x,h,e=>by
  obtain⟨c,h1,h2⟩:=oB (show(cs[k]?).bind (gtP π)=_ from h)
  show(cs[k]?).bind (gtP (π++[n]))=_
  rw[h1];exact G9 (π:=π) h2 e
 |_::_,.none,_,_,_,h,_=>by cases h
 |_::_,.bool _,_,_,_,h,_=>by cases h
 |_::_,.int _,_,_,_,h,_=>by cases h
 |_::_,.str _,_,_,_,h,_=>by cases h
 |_::_,.dict _,_,_,_,h,_=>by cases h
theorem JP:∀{π:List Nat} {d:PyData} {ds:List PyData} {n:Nat} {x:PyData},gtP π d=some (.tuple ds)->ds[n]?=some x->gtP (π++[n]) d=some x
 |[],_,_,n,x,h,e=>by cases h;show(_:Option PyData).bind _=_;rw[e];rfl
 |k::π,.list cs,ds,n,x,h,e=>by
  obtain⟨c,h1,h2⟩:=oB (show(cs[k]?).bind (gtP π)=_ from h)
  show(cs[k]?).bind (gtP (π++[n]))=_
  rw[h1];exact JP (π:=π) h2 e
 |k::π,.tuple cs,ds,n,x,h,e=>by
  obtain⟨c,h1,h2⟩:=oB (show(cs[k]?).bind (gtP π)=_ from h)
  show(cs[k]?).bind (gtP (π++[n]))=_
  rw[h1];exact JP (π:=π) h2 e
 |_::_,.none,_,_,_,h,_=>by cases h
 |_::_,.bool _,_,_,_,h,_=>by cases h
 |_::_,.int _,_,_,_,h,_=>by cases h
 |_::_,.str _,_,_,_,h,_=>by cases h
 |_::_,.dict _,_,_,_,h,_=>by cases h
theorem Fn{α:Type}{xs:List α}{k:Nat}{c z:α}(h:xs[k]?=some c):xs.getD k z=c:=by
 rw[List.getD_eq_getElem?_getD,h];rfl
theorem IC{g:List PyData->PyData}{ds:List PyData}{n:Nat}{x:PyData}(hg:stP x [n] (g ds)=g (ds.set n x)):∀{π:List Nat} {d:PyData},gtP π d=some (g ds)->stP x (π++[n]) d=stP (g (ds.set n x)) π d
 |[],_,h=>by cases h;exact hg
 |k::π,.list cs,h=>by
  obtain⟨c,h1,h2⟩:=oB (show(cs[k]?).bind (gtP π)=_ from h)
  show PyData.list (cs.set k (stP x (π++[n]) (cs.getD k .none)))=PyData.list (cs.set k (stP (g (ds.set n x)) π (cs.getD k .none)))
  rw[Fn h1,IC hg h2]
 |k::π,.tuple cs,h=>by
  obtain⟨c,h1,h2⟩:=oB (show(cs[k]?).bind (gtP π)=_ from h)
  show PyData.tuple (cs.set k (stP x (π++[n]) (cs.getD k .none)))=PyData.tuple (cs.set k (stP (g (ds.set n x)) π (cs.getD k .none)))
  rw[Fn h1,IC hg h2]
 |_::_,.none,h=>by cases h
 |_::_,.bool _,h=>by cases h
 |_::_,.int _,h=>by cases h
 |_::_,.str _,h=>by cases h
 |_::_,.dict _,h=>by cases h
theorem DpL.at2{S:Addr->Prop}{H:Hp}:∀{ds:List PyData} {vs:List V} {F:List Addr} {y:Nat} {d:PyData},DpL K S H ds vs F->F.Nodup->ds[y]?=some d->∃x Fy,vs[y]?=some x/\(∀a∈Fy,a∈F)/\Fy.Nodup/\Dp K S H d x Fy /\
  ∀(H':Hp) (d':PyData) (F':List Addr),TSm (hid S H) (hid S H')->(∀a∈F,a∉Fy->H' a=H a)->Dp K S H' d' x F'->(∀a∈F',a∈Fy)->F'.Nodup->∃F3,(∀a∈F3,a∈F)/\F3.Nodup/\DpL K S H' (ds.set y d') vs F3
 |[],_,_,_,_,_,_,e=>by simp at e
 |d0::ds,_,_,0,d,⟨x,xs,F1,F2,e,e2,h,l⟩,hn,q=>by
  subst e e2
  simp at q
  subst q
  obtain⟨n1,n2,n3⟩:=List.nodup_append.mp hn
  refine⟨x,F1,rfl,fun a ha=>List.mem_append_left _ ha,n1,h,fun H' d' F' ts hh hd hs hn'=>⟨F'++F2,fun a ha=>?_,List.nodup_append.mpr ⟨hn',n2,fun a ha b hb=>n3 a (hs a ha) b hb⟩,x,xs,F',F2,rfl,rfl,hd,l.mono ts fun a ha=>hh a (List.mem_append_right _ ha) fun z=>n3 a z a ha rfl⟩⟩
  rcases List.mem_append.mp ha with ha|ha
  ·exact List.mem_append_left _ (hs a ha)
  ·exact List.mem_append_right _ ha
 |d0::ds,_,_,y+1,d,⟨x,xs,F1,F2,e,e2,h,l⟩,hn,q=>by
  subst e e2
  obtain⟨n1,n2,n3⟩:=List.nodup_append.mp hn
  obtain⟨x',Fy,a1,a2,a3,a4,a5⟩:=DpL.at2 (y:=y) (d:=d) l n2 (by simpa using q)
  refine⟨x',Fy,by simpa using a1,fun a ha=>List.mem_append_right _ (a2 a ha),a3,a4,fun H' d' F' ts hh hd hs hn'=>?_⟩
  obtain⟨F3,b1,b2,b3⟩:=a5 H' d' F' ts (fun a ha=>hh a (List.mem_append_right _ ha)) hd hs hn'
  refine⟨F1++F3,fun a ha=>?_,List.nodup_append.mpr ⟨n1,b2,fun a ha b hb=>n3 a ha b (b1 b hb)⟩,x,xs,F1,F3,rfl,rfl,h.mono ts fun a ha=>hh a (List.mem_append_left _ ha) fun z=>n3 a ha a (a2 a z) rfl,b3⟩
  rcases List.mem_append.mp ha with ha|ha
  ·exact List.mem_append_left _ ha
  ·exact List.mem_append_right _ (b1 a ha)
def Lens(K:KW)(S:Addr->Prop)(H:Hp)(F:List Addr)(d:PyData)(v:V)(π:List Nat)(d':PyData)(u:V):Prop:=∃Fy,Dp K S H d' u Fy/\(∀a∈Fy,a∈F)/\Fy.Nodup/\((π=[]->u=v/\d'=d)/\(π≠[]->∀ds,d = .list ds->∀a,v = .ref a->a∉Fy)) /\
 ∀(H':Hp) (x:PyData) (Fx:List Addr),TSm (hid S H) (hid S H')->(∀a∈F,a∉Fy->H' a=H a)->Dp K S H' x u Fx->(∀a∈Fx,a∈Fy)->Fx.Nodup->∃F3,(∀a∈F3,a∈F)/\F3.Nodup/\Dp K S H' (stP x π d) v F3
theorem Lens.nil{S:Addr->Prop}{H:Hp}{F:List Addr}{d:PyData}{v:V}(h:Dp K S H d v F)(hn:F.Nodup):Lens K S H F d v [] d v:=⟨F,h,fun _ h=>h,hn,⟨fun _=>⟨rfl,rfl⟩,fun h=>absurd rfl h⟩,fun H' x Fx _ _ hd hs hn'=>⟨Fx,hs,hn',hd⟩⟩
theorem Lens.mono{S:Addr->Prop}{H H2:Hp}{F:List Addr}{d d':PyData}{v u:V}{π:List Nat}(l:Lens K S H F d v π d' u)(ts:TSm (hid S H) (hid S H2))(on:∀a∈F,H2 a=H a):Lens K S H2 F d v π d' u:=by
 obtain⟨Fy,h1,h2,h3,h5,h4⟩:=l
 refine⟨Fy,h1.mono ts fun a ha=>on a (h2 a ha),h2,h3,h5,fun H' x Fx ts' on' hd hs hn=>h4 H' x Fx ?_ (fun a ha hn=>(on' a ha hn).trans (on a ha)) hd hs hn⟩
 exact fun b o e nl ne=>ts' b o (ts b o e nl ne) nl ne
theorem Lens.list{S:Addr->Prop}{H:Hp}{F:List Addr}{d:PyData}{v u:V}{π:List Nat}{ds:List PyData}{n:Nat}{x:PyData}(l:Lens K S H F d v π (.list ds) u)(g:gtP π d=some (.list ds))(e:ds[n]?=some x) :
  ∃a vs w,u = .ref a/\a∈F/\H a=some (.lst vs)/\vs.length=ds.length/\vs[n]?=some w/\Lens K S H F d v (π++[n]) x w:=by
 obtain⟨Fy,⟨a,vs,G,rfl,rfl,ha,lv⟩,h2,h3,h5,h4⟩:=l
 obtain⟨na,nG⟩:=List.nodup_cons.mp h3
 obtain⟨w,Fw,w1,w2,w3,w4,w5⟩:=lv.at2 nG e
 refine⟨a,vs,w,rfl,h2 a (List.mem_cons_self ..),ha,lv.length,w1,Fw,w4,fun b hb=>h2 b (List.mem_cons_of_mem _ (w2 b hb)),w3,⟨fun z=>by simp at z,fun _ cs hc b hb z=>?_⟩,fun H' y Fx ts on hd hs hn=>?_⟩
 ·by_cases hp:π=[]
  ·obtain⟨e1,_⟩:=h5.1 hp
   rw[hb]at e1;cases e1
   exact na (w2 _ z)
  ·exact h5.2 hp cs hc b hb (List.mem_cons_of_mem _ (w2 b z))
 obtain⟨F3,b1,b2,b3⟩:=w5 H' y Fx ts (fun b hb hb'=>on b (h2 b (List.mem_cons_of_mem _ hb)) hb') hd hs hn
 rw[IC (g:=.list) (by rfl) g]
 exact h4 H' (.list (ds.set n y)) (a::F3) ts (fun b hb hb'=>on b hb fun z=>hb' (List.mem_cons_of_mem _ (w2 b z))) ⟨a,vs,F3,rfl,rfl,(on a (h2 a (List.mem_cons_self ..)) fun z=>na (w2 a z)).trans ha,b3⟩
  (fun b hb=>(List.mem_cons.mp hb).elim (fun z=>z▸List.mem_cons_self ..) fun z=>List.mem_cons_of_mem _ (b1 b z)) (List.nodup_cons.mpr ⟨fun z=>na (b1 a z),b2⟩)
theorem Lens.tuple{S:Addr->Prop}{H:Hp}{F:List Addr}{d:PyData}{v u:V}{π:List Nat}{ds:List PyData}{n:Nat}{x:PyData}(l:Lens K S H F d v π (.tuple ds) u)(g:gtP π d=some (.tuple ds))(e:ds[n]?=some x) :
  ∃a vs w,u = .ref a/\SqT K (hid S H) a vs/\vs.length=ds.length/\vs[n]?=some w/\Lens K S H F d v (π++[n]) x w:=by
 obtain⟨Fy,⟨a,vs,rfl,ha,lv⟩,h2,h3,h5,h4⟩:=l
 obtain⟨w,Fw,w1,w2,w3,w4,w5⟩:=lv.at2 h3 e
 refine⟨a,vs,w,rfl,ha,lv.length,w1,Fw,w4,fun b hb=>h2 b (w2 b hb),w3,⟨fun z=>by simp at z,fun _ cs hc b hb z=>?_⟩,fun H' y Fx ts on hd hs hn=>?_⟩
 ·by_cases hp:π=[]
  ·obtain⟨_,e1⟩:=h5.1 hp
   rw[hc]at e1;cases e1
  ·exact h5.2 hp cs hc b hb (w2 b z)
 obtain⟨F3,b1,b2,b3⟩:=w5 H' y Fx ts (fun b hb hb'=>on b (h2 b hb) hb') hd hs hn
 rw[IC (g:=.tuple) (by rfl) g]
 exact h4 H' (.tuple (ds.set n y)) F3 ts (fun b hb hb'=>on b hb fun z=>hb' (w2 b z)) ⟨a,vs,rfl,ts.tup ha,b3⟩ b1 b2
abbrev DP:=PyData->DS->Option (List Nat×PyData×DS)
structure PT(K:KW)(r:Nat)(t:TE)(g:DP):Prop where
 like:∀d τ π d' τ',g d τ=some (π,d',τ')->Like τ τ'
 gp:∀d τ π d' τ',g d τ=some (π,d',τ')->∀π0 dr,gtP π0 dr=some d->gtP (π0++π) dr=some d'
 run:∀(S M:Addr->Prop) τ σ H (Q:VK) dr v F π0 d0 u0 π d' τ',R K (fun b=>S b/\b∉F) (fun b=>M b/\b∉F) τ σ H->σ[r]?=some (some u0)->(∀a∈F,∃vs,H a=some (.lst vs))->(∀a,M a->S a)->gtP π0 dr=some d0->Lens K S H F dr v π0 d0 u0->g d0 τ=some (π,d',τ') ->
  (∀u H',R K (fun b=>S b/\b∉F) (fun b=>M b/\b∉F) τ' σ H'->Chg (fun b=>M b/\b∉F) H H'->Lens K S H' F dr v (π0++π) d' u->Q u H')->t σ H Q
def dPV:DP:=fun d τ=>some ([],d,τ)
theorem Hh{r:Nat}:PT K r (FL r) dPV:=by
 refine⟨fun d τ π d' τ' e=>by cases e;exact .refl,fun d τ π d' τ' e π0 dr h=>by cases e;rw[List.append_nil];exact h,fun S M τ σ H Q dr v F π0 d0 u0 π d' τ' rr hu hl hs hg l e q=>?_⟩
 cases e
 exact⟨u0,hu,q u0 H rr .refl (by rw[List.append_nil];exact l)⟩
def dPL(g:DP)(e:DX):DP:=fun d τ=>(g d τ).bind fun p=>(e p.2.2).bind fun w=>match p.2.1,w.1 with
 |.list ds,.int k=>(ixN ds.length k).bind fun n=>(ds[n]?).map fun x=>(p.1++[n],x,w.2)
 |_,_=>none
def dPT(g:DP)(e:DX):DP:=fun d τ=>(g d τ).bind fun p=>(e p.2.2).bind fun w=>match p.2.1,w.1 with
 |.tuple ds,.int k=>(ixN ds.length k).bind fun n=>(ds[n]?).map fun x=>(p.1++[n],x,w.2)
 |_,_=>none
theorem LK{g:DP}{e:DX}{d d':PyData}{τ τ':DS}{π:List Nat}(h:dPL g e d τ=some (π,d',τ')):∃π1 ds τ1 k n,g d τ=some (π1,.list ds,τ1)/\e τ1=some (.int k,τ')/\ixN ds.length k=some n/\ds[n]?=some d'/\π=π1++[n]:=by
 unfold dPL at h
 obtain⟨⟨π1,x,τ1⟩,e1,h⟩:=oB h
 obtain⟨⟨y,τ2⟩,e2,h⟩:=oB h
 dsimp only at h
 split at h
 ·rename_i ds k _
  obtain⟨n,e3,h⟩:=oB h
  obtain⟨z,e4,h⟩:=oM h
  cases h
  exact⟨π1,ds,τ1,k,n,e1,e2,e3,e4,rfl⟩
 ·cases h
theorem LJ{g:DP}{e:DX}{d d':PyData}{τ τ':DS}{π:List Nat}(h:dPT g e d τ=some (π,d',τ')):∃π1 ds τ1 k n,g d τ=some (π1,.tuple ds,τ1)/\e τ1=some (.int k,τ')/\ixN ds.length k=some n/\ds[n]?=some d'/\π=π1++[n]:=by
 unfold dPT at h
 obtain⟨⟨π1,x,τ1⟩,e1,h⟩:=oB h
 obtain⟨⟨y,τ2⟩,e2,h⟩:=oB h
 dsimp only at h
 split at h
 ·rename_i ds k _
  obtain⟨n,e3,h⟩:=oB h
  obtain⟨z,e4,h⟩:=oM h
  cases h
  exact⟨π1,ds,τ1,k,n,e1,e2,e3,e4,rfl⟩
 ·cases h
theorem EA{M:Addr->Prop}{F:List Addr}{H H':Hp}(hl:∀a∈F,∃vs,H a=some (.lst vs))(c:Chg (fun b=>M b/\b∉F) H H'):∀a∈F,H' a=H a:=fun a ha=>by
 obtain⟨vs,z⟩:=hl a ha
 rw[z];exact c a _ (fun z=>z.2 ha) z
theorem KU{S M:Addr->Prop}{F:List Addr}{H H':Hp}(hs:∀a,M a->S a)(c:Chg (fun b=>M b/\b∉F) H H'):TSm (hid S H) (hid S H'):=tsS (Keep.same fun b o h z=>⟨h,c b o (fun z=>h (hs b z.1)) z⟩)
theorem Kg{r:Nat}{t ti:TE}{g:DP}{e:DX}{fi:Bool}(h:PT K r t g)(he:E K ti fi e):PT K r (tOp (SG K) t ti) (dPL g e):=by
 refine⟨fun d τ π d' τ' x=>?_,fun d τ π d' τ' x π0 dr hg=>?_,fun S M τ σ H Q dr v F π0 d0 u0 π d' τ' rr hu hl hs hg l x q=>?_⟩
 ·obtain⟨π1,ds,τ1,k,n,e1,e2,e3,e4,rfl⟩:=LK x
  exact(h.like _ _ _ _ _ e1).trans (he.like _ _ _ e2)
 ·obtain⟨π1,ds,τ1,k,n,e1,e2,e3,e4,rfl⟩:=LK x
  rw[<- List.append_assoc]
  exact G9 (h.gp _ _ _ _ _ e1 π0 dr hg) e4
 obtain⟨π1,ds,τ1,k,n,e1,e2,e3,e4,rfl⟩:=LK x
 refine h.run S M τ σ H _ dr v F π0 d0 u0 π1 _ τ1 rr hu hl hs hg l e1 fun u1 H1 r1 c1 l1=>?_
 refine he.weak.run _ _ τ1 σ H1 _ _ τ' r1 e2 fun y H2 r2 c2 iy=>?_
 cases (show y = .int k from iy)
 have hl1:∀a∈F,∃vs,H1 a=some (.lst vs):=fun a ha=>by rw[EA hl c1 a ha];exact hl a ha
 have l2:=l1.mono (KU hs c2) (EA hl1 c2)
 obtain⟨a,vs,w,rfl,haF,ha,hv,hw,lw⟩:=l2.list (h.gp _ _ _ _ _ e1 π0 dr hg) e4
 refine⟨a,vs,k,w,rfl,rfl,SqL.of ha,by unfold atI;rw[hv,e3];exact hw,q w H2 r2 (c1.trans c2) ?_⟩
 rw[<- List.append_assoc];exact lw
theorem NL{r:Nat}{t ti:TE}{g:DP}{e:DX}{fi:Bool}(h:PT K r t g)(he:E K ti fi e):PT K r (tOp (Va K) t ti) (dPT g e):=by
 refine⟨fun d τ π d' τ' x=>?_,fun d τ π d' τ' x π0 dr hg=>?_,fun S M τ σ H Q dr v F π0 d0 u0 π d' τ' rr hu hl hs hg l x q=>?_⟩
 ·obtain⟨π1,ds,τ1,k,n,e1,e2,e3,e4,rfl⟩:=LJ x
  exact(h.like _ _ _ _ _ e1).trans (he.like _ _ _ e2)
 ·obtain⟨π1,ds,τ1,k,n,e1,e2,e3,e4,rfl⟩:=LJ x
  rw[<- List.append_assoc]
  exact JP (h.gp _ _ _ _ _ e1 π0 dr hg) e4
 obtain⟨π1,ds,τ1,k,n,e1,e2,e3,e4,rfl⟩:=LJ x
 refine h.run S M τ σ H _ dr v F π0 d0 u0 π1 _ τ1 rr hu hl hs hg l e1 fun u1 H1 r1 c1 l1=>?_
 refine he.weak.run _ _ τ1 σ H1 _ _ τ' r1 e2 fun y H2 r2 c2 iy=>?_
 cases (show y = .int k from iy)
 have hl1:∀a∈F,∃vs,H1 a=some (.lst vs):=fun a ha=>by rw[EA hl c1 a ha];exact hl a ha
 have l2:=l1.mono (KU hs c2) (EA hl1 c2)
 obtain⟨a,vs,w,rfl,ha,hv,hw,lw⟩:=l2.tuple (h.gp _ _ _ _ _ e1 π0 dr hg) e4
 refine⟨a,vs,k,w,rfl,rfl,(tsS same_hid).tup ha,by unfold atI;rw[hv,e3];exact hw,q w H2 r2 (c1.trans c2) ?_⟩
 rw[<- List.append_assoc];exact lw
end DL
end
section
namespace DL
open PySem L2
variable {K:KW} {np:Nat}
structure OpP(K:KW)(r:V->List V->Hp->VK->Prop)(go:List PyData->List PyData->Option (List PyData)):Prop where
 run:∀(S:Addr->Prop) (H:Hp) cs ds cs' p cvs vs G (Q:VK),go cs ds=some cs'->S p->p∉G->G.Nodup->H p=some (.lst cvs)->DpL K S H cs cvs G->IsL K (hid S H) ds vs->fixDs ds=true ->
  (∀cvs' G',(∀a∈G',a∈G)->G'.Nodup->DpL K S (upd H p (.lst cvs')) cs' cvs' G'->Q .non (upd H p (.lst cvs')))->r (.ref p) vs H Q
theorem Qo{S:Addr->Prop}{H:Hp}{p:Addr}{o:HO}{cs:List PyData}{cvs:List V}{G:List Addr}(hp:S p)(hG:p∉G)(l:DpL K S H cs cvs G):DpL K S (upd H p o) cs cvs G:=l.mono (by rw[DC hp];exact .refl) fun a ha=>AO fun z=>hG (z▸ha)
theorem DpL.rev{S:Addr->Prop}{H:Hp}:∀{ds:List PyData} {vs:List V} {F:List Addr},DpL K S H ds vs F->F.Nodup->∃F',(∀a,a∈F'↔a∈F)/\F'.Nodup/\DpL K S H ds.reverse vs.reverse F'
 |[],_,_,⟨rfl,rfl⟩,_=>⟨[],fun a=>Iff.rfl,List.nodup_nil,rfl,rfl⟩
 |d::ds,_,_,⟨x,xs,F1,F2,rfl,rfl,h,l⟩,hn=>by
  obtain⟨n1,n2,n3⟩:=List.nodup_append.mp hn
  obtain⟨F',e,n,l'⟩:=DpL.rev l n2
  refine⟨F'++F1,fun a=>by rw[List.mem_append,List.mem_append,e,or_comm],List.nodup_append.mpr ⟨n,n1,fun a ha b hb z=>n3 b hb a ((e a).mp ha) z.symm⟩,?_⟩
  rw[List.reverse_cons,List.reverse_cons]
  exact l'.snoc h
def JD(cs ds:List PyData):Option (List PyData):=match ds with
 |[d]=>if cs.length<sizeLine then some (cs++[d]) else none
 |_=>none
theorem PX:OpP K IH JD:=by
 refine⟨fun S H cs ds cs' p cvs vs G Q e hp hG hn hH l ia fx q=>?_⟩
 unfold JD at e
 split at e
 ·rename_i d
  split at e
  ·rename_i hz
   cases e
   obtain⟨w,ws,rfl,iw,iws⟩:=ia
   cases (show ws=[] from iws)
   refine⟨p,cvs,w,rfl,rfl,hH,by rw[l.length];exact hz,q _ G (fun _ h=>h) hn ?_⟩
   have fd:Dm d=true:=by rw[fixDs,Bool.and_eq_true]at fx;exact fx.1
   have:=(Qo (o:=.lst (cvs++[w])) hp hG l).snoc (Dp.fix fd (by rw[DC hp];exact iw))
   rw[List.append_nil]at this
   exact this
  ·cases e
 ·cases e
def Pd(cs ds:List PyData):Option (List PyData):=match ds with
 |[]=>some []
 |_=>none
theorem SU:OpP K SH Pd:=by
 refine⟨fun S H cs ds cs' p cvs vs G Q e hp hG hn hH l ia fx q=>?_⟩
 unfold Pd at e
 split at e
 ·cases e
  cases (show vs=[] from ia)
  exact⟨p,cvs,rfl,rfl,hH,q [] [] (fun a h=>by cases h) List.nodup_nil ⟨rfl,rfl⟩⟩
 ·cases e
def Vn(cs ds:List PyData):Option (List PyData):=match ds with
 |[]=>some cs.reverse
 |_=>none
theorem Vg:OpP K OE Vn:=by
 refine⟨fun S H cs ds cs' p cvs vs G Q e hp hG hn hH l ia fx q=>?_⟩
 unfold Vn at e
 split at e
 ·cases e
  cases (show vs=[] from ia)
  obtain⟨G',eG,nG,l'⟩:=DpL.rev l hn
  exact⟨p,cvs,rfl,rfl,hH,q _ G' (fun a h=>(eG a).mp h) nG (Qo hp (fun z=>hG ((eG p).mp z)) l')⟩
 ·cases e
def Rl(i:Nat)(g:DP)(a:DA)(go:List PyData->List PyData->Option (List PyData))(rows:List PyData)(π0:List Nat)(d0:PyData)(τ:DS):Option DS:=(g d0 (τ.set i (some (.d (.list rows))))).bind fun p=>match p.2.1 with
 |.list cs=>(a p.2.2).bind fun w=>(Ci w.1).bind fun ds=>if fixDs ds=true/\w.2.all okM=true then (go cs ds).map fun cs'=>w.2.set i (some (.g (stP (.list cs') (π0++p.1) (.list rows)))) else none
 |_=>none
theorem RF.back{F:Frm}{S M:Addr->Prop}{τ τ3:DS}{σ:St}{H H4:Hp}{i:Nat}{d d' d2:PyData}(f:RF K F S M τ σ H)(hi:τ[i]?=some (some (.g d)))(lk:Like (τ.set i (some (.d d2))) τ3)(r4:R K S M (τ3.set i (some (.g d'))) σ H4)(c4:Chg M H H4):RF K F S M (τ3.set i (some (.g d'))) σ H4:=by
 refine⟨r4,f.sS,fun b o e n=>c4 b o (fun z=>(f.new b z).elim n fun w=>by rw[w]at e;cases e) (f.old b o e n),f.new,f.fm,f.fs,f.fsub,f.snew,f.par,fun j v' e=>?_,f.fma⟩
 obtain⟨o,ho'⟩:=f.pm j v' e
 have hj:j≠i:=fun z=>by subst z;rw[hi]at ho';exact Ow.not_g (Option.some.inj (Option.some.inj ho')).symm
 obtain⟨o2,h2'⟩:=(lk.own j).mpr ⟨o,by rw[List.getElem?_set_ne (Ne.symm hj)];exact ho'⟩
 exact⟨o2,by rw[List.getElem?_set_ne (Ne.symm hj)];exact h2'⟩
theorem SV{F:Frm}{S M:Addr->Prop}{τ τ':DS}{σ:St}{H:Hp}{D:Jj}(f:RF K F S M τ σ H){i r:Nat}{rows:List PyData}(hi:τ[i]?=some (some (.g (.list rows)))){π0:List Nat}{d0:PyData}{u0 a0:V}(hu:σ[r]?=some (some u0))(hg0:gtP π0 (.list rows)=some d0)
  (l0:∀v X,σ[i]?=some (some v)->Dp K S H (.list rows) v X->X.Nodup->Lens K S H X (.list rows) v π0 d0 u0) {t:TE} {ta:TA} {g:DP} {a:DA} {op:V->List V->Hp->VK->Prop} {go:List PyData->List PyData->Option (List PyData)} (hp:PT K r t g) (ha:A K ta a) (ho:OpP K op go)
  (ee:Rl i g a go rows π0 d0 τ=some τ') (q:∀H',RF K F S M τ' σ H'->Keep S H S H'->(π0≠[]->∀b vs,σ[i]?=some (some (.ref b))->H b=some (.lst vs)->H' b=some (.lst vs))->D.nx σ H'):IA (tBM K "list" op t ta) D σ H:=by
 unfold Rl at ee
 obtain⟨⟨π,d1,τ1⟩,e1,ee⟩:=oB ee
 dsimp only at ee
 split at ee
 ·rename_i cs
  obtain⟨⟨rs,τ2⟩,e2,ee⟩:=oB ee
  obtain⟨ds,e3,ee⟩:=oB ee
  dsimp only at ee
  split at ee
  ·rename_i hc
   obtain⟨cs',e4,ee⟩:=oM ee
   subst ee
   obtain⟨v,X,hv,hd,hn,hM,hO,rz⟩:=Po f.r hi
   have hlX:=hd.lst
   have hS:∀a∈X,S a:=fun a ha=>f.r.sub a (hM a ha)
   refine hp.run S M _ σ H _ (.list rows) v X π0 d0 u0 π _ τ1 rz hu hlX f.r.sub hg0 (l0 v X hv hd hn) e1 fun u H1 r1 c1 l1=>?_
   have hl1:∀a∈X,∃vs,H1 a=some (.lst vs):=fun a ha=>by rw[EA hlX c1 a ha];exact hlX a ha
   have hty:tyV K "list" u H1:=by
    obtain⟨Fy,⟨p,cvs,G,rfl,_,hpp,_⟩,_⟩:=l1
    exact .inl ⟨rfl,cvs,SqL.of hpp⟩
   refine⟨hty,ha.run _ _ τ1 σ H1 _ rs τ2 r1 e2 fun us H2 r2 c2 iA=>?_⟩
   have on2:=EA hl1 c2
   have l2:=l1.mono (KU f.r.sub c2) on2
   have cH:Chg (fun b=>M b/\b∉X) H H2:=c1.trans c2
   have onH:=EA hlX cH
   have hl2:∀a∈X,∃vs,H2 a=some (.lst vs):=fun a ha=>by rw[onH a ha];exact hlX a ha
   have iL:=Da iA e3
   have ts2:TSm (hid (fun b=>S b/\b∉X) H2) (hid S H2):=fun b o z nl ne=>by
    obtain⟨z1,z2⟩:=hid_iff.mp z
    have hb:b∉X:=fun hb=>by
     obtain⟨us,zz⟩:=hl2 b hb
     rw[z2]at zz;cases zz;exact nl _ rfl
    exact hid_iff.mpr ⟨fun hs=>z1 ⟨hs,hb⟩,z2⟩
   have iL':IsL K (hid S H2) ds us:=IsL.monoT ts2 hc.1 iL
   obtain⟨Fy,⟨p,cvs,G,rfl,rfl,hpp,lc⟩,s2,n2,z2,up⟩:=l2
   obtain⟨np,nG⟩:=List.nodup_cons.mp n2
   have pX:p∈X:=s2 p (List.mem_cons_self ..)
   refine ho.run S H2 cs ds cs' p cvs us G _ e4 (hS p pX) np nG hpp lc iL' hc.1 fun cvs' G' sG nG' l'=>?_
   have eh:hid S (upd H2 p (.lst cvs'))=hid S H2:=DC (hS p pX)
   obtain⟨F3,b1,b2,b3⟩:=up (upd H2 p (.lst cvs')) (.list cs') (p::G') (by rw[eh];exact .refl) (fun b _ hb=>AO fun z=>hb (z▸List.mem_cons_self ..)) ⟨p,cvs',G',rfl,rfl,AT,l'⟩
    (fun b hb=>(List.mem_cons.mp hb).elim (fun z=>z▸List.mem_cons_self ..) fun z=>List.mem_cons_of_mem _ (sG b z)) (List.nodup_cons.mpr ⟨fun z=>np (sG p z),nG'⟩)
   have lk:Like (τ.set i (some (.d (.list rows)))) τ2:=(hp.like _ _ _ _ _ e1).trans (ha.like _ _ _ e2)
   have r4 := P8 (H4 := upd H2 p (.lst cvs')) f.r hi hv hM hO r2 lk cH hc.2 hl2 (fun b hb => AO fun z => hb (z ▸ pX)) (fun b hb => by
    by_cases z:b=p
    ·subst z;exact⟨_,AT⟩
    ·rw[AO z];exact hl2 b hb) b1 b2 b3
   have c4:Chg M H (upd H2 p (.lst cvs')):=fun b o h z=>by
    have hb:b≠p:=fun w=>h (by rw[w];exact hM p pX)
    rw[AO hb]
    exact cH b o (fun z=>h z.1) z
   refine q _ (f.back hi lk r4 c4) (c4.keep f.r.sub) fun h0 b vs hb hH=>?_
   rw[hv]at hb;cases hb
   have nb:b≠p:=fun z=>by
    refine z2.2 (fun w=>h0 (List.append_eq_nil_iff.mp w).1) rows rfl b rfl ?_
    rw[z];exact List.mem_cons_self ..
   have bX:b∈X:=by
    obtain⟨_,_,_,e5,e6,_⟩:=(show Dp K S H (.list rows) (.ref b) X from hd)
    cases e5;rw[e6];exact List.mem_cons_self ..
   rw[AO nb,onH b bX];exact hH
  ·cases ee
 ·cases ee
def LL(i:Nat)(g:DP)(a:DA)(go:List PyData->List PyData->Option (List PyData))(τ:DS):Option Out:=match τ[i]? with
 |some (some (.g (.list rows)))=>(Rl i g a go rows [] (.list rows) τ).map .nx
 |_=>none
theorem TX{fr:Bool}{i:Nat}{t:TE}{ta:TA}{g:DP}{a:DA}{op:V->List V->Hp->VK->Prop}{go:List PyData->List PyData->Option (List PyData)}(hp:PT K i t g)(ha:A K ta a)(ho:OpP K op go):B K np (IA (tBM K "list" op t ta)) fr (LL i g a go):=by
 intro F S M τ σ H D out hnp f ee q
 unfold LL at ee
 split at ee
 ·rename_i rows hi
  obtain⟨τ',e1,ee⟩:=oM ee
  subst ee
  obtain⟨φ0,g0⟩:=f.r.gr
  obtain⟨⟨v,hv,h0⟩,_⟩:=g0 i _ hi
  exact SV f hi (a0:=v) hv rfl (fun v' X hv' hd hn=>by rw[hv]at hv';cases hv';exact .nil hd hn) hp ha ho e1 fun H' f' k' _=>q S M σ H' f' k'
 ·cases ee
theorem TW{fr:Bool}{i:Nat}{t:TE}{g:DP}{op:V->List V->Hp->VK->Prop}{go:List PyData->List PyData->Option (List PyData)}(hp:PT K i t g)(ho:OpP K op go):B K np (IA (VT K "list" op t)) fr (LL i g AE go):=TX (ta:=Hz) hp AM ho
def Os(i:Nat)(e:DX)(g:DP)(e2:DX)(τ:DS):Option Out:=match τ[i]? with
 |some (some (.g (.list rows)))=>(e (τ.set i (some (.d (.list rows))))).bind fun p3=>(g (.list rows) p3.2).bind fun p=>(e2 p.2.2).bind fun w=>match p.2.1,w.1 with
  |.list cs,.int k=>if Dm p3.1=true/\fixDs cs=true/\w.2.all okM=true then (ixN cs.length k).map fun n=>.nx (w.2.set i (some (.g (stP (.list (cs.set n p3.1)) p.1 (.list rows))))) else none
  |_,_=>none
 |_=>none
theorem UQ{d3:PyData}(f3:Dm d3=true):∀(cs:List PyData) (x:Nat),fixDs cs=true->fixDs (cs.set x d3)=true:=by
 intro cs
 induction cs with
 |nil=>intro x h;exact h
 |cons c cs ih =>
  intro x h
  rw[fixDs,Bool.and_eq_true]at h
  cases x with
  |zero=>rw[List.set_cons_zero,fixDs,Bool.and_eq_true];exact⟨f3,h.2⟩
  |succ x=>rw[List.set_cons_succ,fixDs,Bool.and_eq_true];exact⟨h.1,ih x h.2⟩
theorem WD{fr f0 f2:Bool}{i:Nat}{te t t2:TE}{e e2:DX}{g:DP}(he:E K te f0 e)(hp:PT K i t g)(h2:E K t2 f2 e2):B K np (KZ te (S0 t t2 QB)) fr (Os i e g e2):=by
 intro F S M τ σ H D out hnp f ee q
 unfold Os at ee
 split at ee
 ·rename_i rows hi
  obtain⟨⟨x3,τ0⟩,e0,ee⟩:=oB ee
  obtain⟨⟨π,d1,τ1⟩,e1,ee⟩:=oB ee
  obtain⟨⟨y2,τ2⟩,e2',ee⟩:=oB ee
  dsimp only at ee
  split at ee
  ·rename_i cs k _
   split at ee
   ·rename_i hc
    obtain⟨n,e4,ee⟩:=oM ee
    subst ee
    obtain⟨v,X,hv,hd,hn,hM,hO,rz⟩:=Po f.r hi
    have hlX:=hd.lst
    have hS:∀a∈X,S a:=fun a ha=>f.r.sub a (hM a ha)
    refine he.weak.run _ _ _ σ H _ x3 τ0 rz e0 fun v3 H0 r0 c0 i0=>?_
    have hl0:∀a∈X,∃vs,H0 a=some (.lst vs):=fun a ha=>by rw[EA hlX c0 a ha];exact hlX a ha
    have hd0:Dp K S H0 (.list rows) v X:=hd.mono (KU f.r.sub c0) (EA hlX c0)
    refine hp.run S M _ σ H0 _ (.list rows) v X [] _ v π _ τ1 r0 hv hl0 f.r.sub rfl (.nil hd0 hn) e1 fun u H1 r1 c1 l1=>?_
    have hl1:∀a∈X,∃vs,H1 a=some (.lst vs):=fun a ha=>by rw[EA hl0 c1 a ha];exact hl0 a ha
    refine h2.weak.run _ _ τ1 σ H1 _ _ τ2 r1 e2' fun y H2 r2 c2 iy=>?_
    cases (show y = .int k from iy)
    have l2:=l1.mono (KU f.r.sub c2) (EA hl1 c2)
    have cH:Chg (fun b=>M b/\b∉X) H H2:=(c0.trans c1).trans c2
    have onH:=EA hlX cH
    have hl2:∀a∈X,∃vs,H2 a=some (.lst vs):=fun a ha=>by rw[onH a ha];exact hlX a ha
    have c12:=c1.trans c2
    have i3 : Is K (hid S H2) x3 v3 := Is.monoT (fun b o z nl ne => by
     obtain⟨z1,z2⟩:=hid_iff.mp z
     have hb:b∉X:=fun hb=>by
      obtain⟨us,zz⟩:=hl0 b hb
      rw[z2]at zz;cases zz;exact nl _ rfl
     have hs:¬S b:=fun hs=>z1 ⟨hs,hb⟩
     exact hid_iff.mpr ⟨hs,c12 b o (fun z=>hs (f.r.sub b z.1)) z2⟩) hc.1 i0
    obtain⟨Fy,⟨p,cvs,G,rfl,rfl,hpp,lc⟩,s2,n2,z2,up⟩:=l2
    obtain⟨rfl,lc'⟩:=DpL.unfix hc.2.1 lc
    have pX:p∈X:=s2 p (List.mem_cons_self ..)
    refine⟨p,cvs,k,n,rfl,rfl,hpp,by rw[lc'.length];exact e4,?_⟩
    have eh:hid S (upd H2 p (.lst (cvs.set n v3)))=hid S H2:=DC (hS p pX)
    obtain⟨F3,b1,b2,b3⟩:=up (upd H2 p (.lst (cvs.set n v3))) (.list (cs.set n x3)) [p] (by rw[eh];exact .refl) (fun b _ hb=>AO fun z=>hb (z▸List.mem_cons_self ..)) ⟨p,_,[],rfl,rfl,AT,DpL.fix (UQ hc.1 cs n hc.2.1) (by rw[eh];exact KN lc' i3)⟩
     (fun b hb=>hb) n2
    have lk:Like (τ.set i (some (.d (.list rows)))) τ2:=((he.like _ _ _ e0).trans (hp.like _ _ _ _ _ e1)).trans (h2.like _ _ _ e2')
    have r4 := P8 (H4 := upd H2 p (.lst (cvs.set n v3))) f.r hi hv hM hO r2 lk cH hc.2.2 hl2 (fun b hb => AO fun z => hb (z ▸ pX)) (fun b hb => by
     by_cases z:b=p
     ·subst z;exact⟨_,AT⟩
     ·rw[AO z];exact hl2 b hb) b1 b2 b3
    have c4:Chg M H (upd H2 p (.lst (cvs.set n v3))):=fun b o h z=>by
     have hb:b≠p:=fun w=>h (by rw[w];exact hM p pX)
     rw[AO hb]
     exact cH b o (fun z=>h z.1) z
    exact q S M σ _ (f.back hi lk r4 c4) (c4.keep f.r.sub)
   ·cases ee
  ·cases ee
 ·cases ee
def BRw(K:KW)(np i r:Nat)(t:TS)(h:Nat->DS->Option DS):Prop:=∀(F:Frm) S M τ σ (H:Hp) (D:Jj) k τ' a vs u,F.ar.length<=np->RF K F S M τ σ H->σ[i]?=some (some (.ref a))->σ[r]?=some (some u)->H a=some (.lst vs)->vs[k]?=some u->h k τ=some τ' ->
 (∀S' M' H',RF K F S' M' τ' σ H'->Keep S H S' H'->H' a=some (.lst vs)->D.nx σ H')->t D σ H
def Qr(h h':Nat->DS->Option DS)(k:Nat)(τ:DS):Option DS:=(h k τ).bind (h' k)
theorem V9{i r:Nat}{t u:TS}{h h':Nat->DS->Option DS}(a:BRw K np i r t h)(b:BRw K np i r u h'):BRw K np i r (Tk t u) (Qr h h'):=by
 intro F S M τ σ H D k τ' x vs u hnp f e1 e2 e3 e4 ee q
 unfold Qr at ee
 obtain⟨τ1,ea,ee⟩:=oB ee
 exact a F S M τ σ H _ k τ1 x vs u hnp f e1 e2 e3 e4 ea fun S' M' H' f' k' e5=>b F S' M' τ1 σ H' D k τ' x vs u hnp f' e1 e2 e5 e4 ee fun S2 M2 H2 f2 k2 e6=>q S2 M2 H2 f2 (k'.trans k2) e6
def Lz(i:Nat)(g:DP)(a:DA)(go:List PyData->List PyData->Option (List PyData))(k:Nat)(τ:DS):Option DS:=match τ[i]? with
 |some (some (.g (.list rows)))=>match rows[k]? with
  |some d0=>Rl i g a go rows [k] d0 τ
  |none=>none
 |_=>none
theorem VJ{i r:Nat}{t:TE}{ta:TA}{g:DP}{a:DA}{op:V->List V->Hp->VK->Prop}{go:List PyData->List PyData->Option (List PyData)}(hp:PT K r t g)(ha:A K ta a)(ho:OpP K op go):BRw K np i r (IA (tBM K "list" op t ta)) (Lz i g a go):=by
 intro F S M τ σ H D k τ' x vs u hnp f e1 e2 e3 e4 ee q
 unfold Lz at ee
 split at ee
 ·rename_i rows hi
  split at ee
  ·rename_i d0 hk
   refine SV f hi (a0:=u) e2 (G9 (π:=[]) rfl hk) (fun v X hv hd hn=>?_) hp ha ho ee fun H' f' k' z=>q S M H' f' k' (z (by simp) x vs e1 e3)
   rw[e1]at hv;cases hv
   obtain⟨a',vs',w,q1,q2,q3,q4,q5,q6⟩:=(Lens.nil hd hn).list rfl hk
   cases q1
   rw[e3]at q3;cases q3
   rw[e4]at q5;cases q5
   exact q6
  ·cases ee
 ·cases ee
theorem WA{i r:Nat}{t:TE}{g:DP}{op:V->List V->Hp->VK->Prop}{go:List PyData->List PyData->Option (List PyData)}(hp:PT K r t g)(ho:OpP K op go):BRw K np i r (IA (VT K "list" op t)) (Lz i g AE go):=VJ (ta:=Hz) hp AM ho
theorem RF.unk{F:Frm}{S M:Addr->Prop}{τ:DS}{σ:St}{H:Hp}(f:RF K F S M τ σ H){r:Nat}(u:V)(hr:F.ar.length<=r):RF K F S M (τ.set r none) (σ.set r (some u)) H:=by
 have ne':∀j,j≠r->(σ.set r (some u))[j]?=σ[j]?:=fun j hj=>List.getElem?_set_ne (Ne.symm hj)
 have old:∀(j:Nat) (l:L),(τ.set r none)[j]?=some (some l)->j≠r/\τ[j]?=some (some l):=fun j l e=>by
  by_cases hj:j=r
  ·subst hj
   rw[List.getElem?_set]at e
   simp only[if_true]at e
   split at e<;>cases e
  ·rw[List.getElem?_set_ne (Ne.symm hj)]at e;exact⟨hj,e⟩
 have jn:∀{j:Nat} {v:V},F.ar[j]?=some (some v)->j≠r:=fun {j v} e z=>by
  subst z
  have:=(List.getElem?_eq_some_iff.mp e).1
  omega
 refine⟨⟨by rw[List.length_set,List.length_set];exact f.r.len,fun j x e=>?_,fun j o e=>?_,fun j ys e=>?_,fun j1 j2 o p b e1 e2 f1 f2=>?_,f.r.sub,f.r.ex,?_⟩,f.sS,f.old,f.new,f.fm,f.fs,f.fsub,f.snew,fun j v e=>?_,fun j v e=>?_,f.fma⟩
 ·obtain⟨hj,e⟩:=old j _ e
  rw[ne' j hj];exact f.r.dat j x e
 ·obtain⟨hj,e⟩:=old j _ e
  rw[ne' j hj];exact f.r.mt j o e
 ·obtain⟨hj,e⟩:=old j _ e
  rw[ne' j hj];exact f.r.cst j ys e
 ·obtain⟨h1,e1⟩:=old _ _ e1
  obtain⟨h2,e2⟩:=old _ _ e2
  rw[ne' j1 h1]at f1
  rw[ne' j2 h2]at f2
  exact f.r.inj _ _ _ _ b e1 e2 f1 f2
 ·refine f.r.gr.to (fun j d e=>⟨(old j _ e).2,ne' j (old j _ e).1⟩) (fun j o a e z=>.inl ⟨o,(old j _ e).2,by rw[<- ne' j (old j _ e).1];exact z⟩) (fun a h _=>⟨h,rfl⟩) .refl
 ·rw[ne' j (jn e)];exact f.par j v e
 ·obtain⟨o,ho⟩:=f.pm j v e
  exact⟨o,by rw[List.getElem?_set_ne (Ne.symm (jn e))];exact ho⟩
def IX(r:Nat)(h:Nat->DS->Option DS):Nat->Nat->DS->Option DS
 |0,_,τ=>some τ
 |n+1,k,τ=>(h k (τ.set r none)).bind (IX r h n (k+1))
def TH(np i r:Nat)(h:Nat->DS->Option DS)(τ:DS):Option Out:=match τ[i]? with
 |some (some (.g (.list rows)))=>if np<=r/\r≠i/\r<τ.length then (IX r h rows.length 0 τ).map .nx else none
 |_=>none
theorem WF{fr:Bool}{i r:Nat}{tb:TS}{h:Nat->DS->Option DS}(hb:BRw K np i r tb h):B K np (Tm (Sv K (FL i)) (Ia r) tb) fr (TH np i r h):=by
 intro F S M τ σ H D out hnp f ee q
 unfold TH at ee
 split at ee
 ·rename_i rows hi
  split at ee
  ·rename_i hc
   obtain⟨τe,el,ee⟩:=oM ee
   subst ee
   obtain⟨φ0,g0⟩:=f.r.gr
   obtain⟨⟨v,hv,h0⟩,_⟩:=g0 i _ hi
   obtain⟨a,vs,G,rfl,_,ha,l⟩:=(show Dp K S H (.list rows) v (φ0 i) from h0)
   have hlen:vs.length=rows.length:=l.length
   refine⟨.ref a,hv,a,rfl,⟨vs,SqL.of ha⟩,fun k m σ' H'=>m=rows.length-k/\k<=rows.length/\r<σ'.length/\σ'[i]?=some (some (.ref a))/\H' a=some (.lst vs)/\∃S' M' τ',RF K F S' M' τ' σ' H'/\Keep S H S' H'/\IX r h (rows.length-k) k τ'=some τe,⟨rows.length,by simp,Nat.zero_le _,by rw[f.r.len];exact hc.2.2,hv,ha,S,M,τ,f,.refl,by simpa using el⟩,?_⟩
   rintro k m σ' H' ⟨rfl,hk,hrl,hv',ha',S',M',τ',f',k',el'⟩
   by_cases hlt:k<rows.length
   ·right
    obtain⟨u,hu⟩:∃u,vs[k]?=some u:=⟨vs[k]'(by omega),List.getElem?_eq_getElem (by omega)⟩
    refine⟨⟨vs,u,SqL.of ha',hu⟩,fun σ2 H2=>r<σ2.length/\σ2[i]?=some (some (.ref a))/\H2 a=some (.lst vs)/\∃S2 M2 τ2,RF K F S2 M2 τ2 σ2 H2/\Keep S H S2 H2/\IX r h (rows.length-(k+1)) (k+1) τ2=some τe,fun σ2 H2 z=>⟨rows.length-(k+1),by omega,rfl,hlt,z⟩,fun x H2 y=>?_⟩
    obtain⟨rfl,y2⟩:=y
    have:=y2 vs (SqL.of ha')
    rw[hu]at this;cases this
    have en:rows.length-k=(rows.length-(k+1))+1:=by omega
    rw[en]at el'
    obtain⟨τ2,eh,el2⟩:=oB (show(h k (τ'.set r none)).bind (IX r h (rows.length-(k+1)) (k+1))=_ from el')
    have f2:=f'.unk u (Nat.le_trans hnp hc.1)
    have hvi:(σ'.set r (some u))[i]?=some (some (.ref a)):=by rw[List.getElem?_set_ne hc.2.1];exact hv'
    show tb _ (σ'.set r (some u)) H2
    exact hb F S' M' _ _ H2 _ k τ2 a vs u hnp f2 hvi (List.getElem?_set_self hrl) ha' hu eh fun S3 M3 H3 f3 k3 e3=>⟨by rw[List.length_set];exact hrl,hvi,e3,S3,M3,τ2,f3,k'.trans k3,el2⟩
   ·left
    have e:k=rows.length:=by omega
    subst e
    rw[Nat.sub_self]at el'
    cases el'
    exact⟨⟨vs,SqL.of ha',by rw[hlen];exact Nat.le_refl _⟩,q S' M' σ' H' f' k'⟩
  ·cases ee
 ·cases ee
end DL
end
section
namespace L2
open PySem DL
def Itd(a:Addr)(ts:List (List Int×Addr×V))(ep:Nat):It :=
 ⟨fun i H=>H a=some (.ext (GM a ts ep))/\i<ts.length,fun i H x H'=>H'=H/\∃t,ts[i]?=some t/\x = .ref t.2.1,fun i H=>H a=some (.ext (GM a ts ep))/\ts.length<=i⟩
theorem Q9{P:Program}{w:World}{K:PySem.W.Frag}{tg:Expr}(a it:Addr)(ts:List (List Int×Addr×V))(ep:Nat)(hne:a≠it):P5 P w K tg (Itd a ts ep) [it] it (fun i h=>h.IsKeyIter it a i ts.length ep/\i<=ts.length) where
 mem:=by simp
 obj:=fun i h st b hb=>by
  have e:b=it:=by simpa using hb
  subst e
  obtain⟨⟨o,e,c,d⟩,_⟩:=st
  exact⟨o,e,fun v z=>by rw[d]at z;cases z⟩
 keep:=fun i h h' st k=>⟨let ⟨o,e,r⟩:=st.1;⟨o,k it (by simp) o e,r⟩,st.2⟩
 item:=by
  intro X hP hw hK hc i pins s σ H E I hf st hg
  subst hP hw hK
  obtain⟨hq,hi⟩:=hg
  obtain⟨⟨h1,h2,h3,xs,pr,o,es,ho,he,hd,hes⟩,_,_⟩:=(show ObjOk X.prog X.w H s.heap a (.ext (GM a ts ep)) from I.hok a _ hq)
  have x:Dwk.At s.heap a (ts.map fun t=>Value.ref t.2.1) ep:=⟨o,es,ho,he,hd,by rw[hes,List.map_map,<- Gz pr];rfl⟩
  obtain⟨f0,f1,f2,f3,f4,f5⟩:=hf it (by simp)
  have et:ts[i]?=some ts[i]:=List.getElem?_eq_getElem hi
  refine Dwk.step (k:=Value.ref ts[i].2.1) (by rw[List.length_map];exact st.1) x (by rw[List.getElem?_map,et];rfl) fun h' st' sb=>?_
  rw[List.length_map]at st'
  have I1:Inv X pins σ H { s with heap:=h' }:=I.turned (t':=s.toks) (fun b o hb e=>(sb.2 b hb).trans e) f0 f1 f3 f4 f5
  obtain⟨o,e,c,d⟩:=id st'
  exact⟨_,rfl,Qi (s:={ s with heap:=h' }) e c d (by decide) ⟨.ref ts[i].2.1,H,I1,rfl,⟨rfl,_,et,rfl⟩,⟨st',hi⟩,fun b hb=>(hf b hb).1⟩⟩
 done:=by
  intro X hP hw hK hc i pins s σ H E I hf st hg
  subst hP hw hK
  obtain⟨hq,hi⟩:=hg
  have hi:ts.length=i:=Nat.le_antisymm hi st.2
  subst hi
  obtain⟨⟨h1,h2,h3,xs,pr,o,es,ho,he,hd,hes⟩,_,_⟩:=(show ObjOk X.prog X.w H s.heap a (.ext (GM a ts ep)) from I.hok a _ hq)
  have x:Dwk.At s.heap a (ts.map fun t=>Value.ref t.2.1) ep:=⟨o,es,ho,he,hd,by rw[hes,List.map_map,<- Gz pr];rfl⟩
  obtain⟨f0,f1,f2,f3,f4,f5⟩:=hf it (by simp)
  have st1:=st.1
  exact Dwk.last (I.ok.hd hc) (by rw[List.length_map];exact st1) x fun h' eb=>⟨rfl,I.turned (t':=s.toks) (fun b o hb e=>eb b o hb e) f0 f1 f3 f4 f5⟩
 self:=fun _ _ _ _ _ st h=>wpAny_pyIter_keyiter st.1 h
def U8(tl:TE):TI:=fun σ H R=>tl σ H fun x H1=>∃a ts ep,x = .ref a/\H1 a=some (.ext (GM a ts ep))/\R (Itd a ts ep) H1
theorem Tw{X:Cx}{tg l:Expr}{tl:TE}(hl:PE X l tl):PI X tg l (U8 tl):=by
 intro pins s σ H R I h
 refine thn (hl pins s σ H _ I h) fun v s1 ⟨x,H1,I1,r1,q1⟩=>?_
 obtain⟨a,ts,ep,rfl,hq,q⟩:=q1
 cases r1
 obtain⟨⟨h1,h2,h3,xs,pr,o,es,ho,he,hd,hes⟩,_,_⟩:=(show ObjOk X.prog X.w H1 s1.heap a (.ext (GM a ts ep)) from I1.hok a _ hq)
 have x:Dwk.At s1.heap a (ts.map fun t=>Value.ref t.2.1) ep:=⟨o,es,ho,he,hd,by rw[hes,List.map_map,<- Gz pr];rfl⟩
 refine Dwk.start h1 x ?_
 rw[List.length_map]
 have hlt:a<s1.heap.objs.size:=Heap.lt_size ho
 refine⟨s1.heap.objs.size,[s1.heap.objs.size],_,_,H1,rfl,I1.kept (t':=s1.toks) fun b o e=>Heap.get?_push_of_some _ e,Q9 a _ ts ep (Nat.ne_of_lt hlt),⟨⟨_,Heap.get?_push_size _ rfl,rfl,rfl⟩,Nat.zero_le _⟩,fun b hb=>?_,q⟩
 have e:b=s1.heap.objs.size:=by simpa using hb
 subst e
 exact I1.fpOk (Nat.le_refl _) (I1.hok.fresh (Nat.le_refl _))
end L2
namespace DL
open PySem L2
variable {K:KW}
def dID(f:DX)(τ:DS):Option (List PyData×DS):=(f τ).bind fun p=>match p.1 with
 |.dict l=>(tkP l).map fun m=>(m.map fun p=>KT p.1,p.2)
 |_=>none
theorem UJ{fr:Bool}{t:TE}{f:DX}(h:E K t fr f):IT K (U8 t) (dID f):=by
 refine⟨fun τ d τ' e=>?_,?_⟩
 ·unfold dID at e
  obtain⟨⟨x,τ1⟩,e1,e⟩:=oB e
  dsimp only at e
  split at e
  ·obtain⟨m,_,e⟩:=oM e
   cases e;exact h.like _ _ _ e1
  ·cases e
 intro S M τ σ H Q ds τ' r e q
 unfold dID at e
 obtain⟨⟨x,τ1⟩,e1,e⟩:=oB e
 dsimp only at e
 split at e
 ·rename_i l
  obtain⟨m,em,e⟩:=oM e
  cases e
  refine h.weak.run S M τ σ H _ _ _ r e1 fun v H1 r1 c1 i1=>?_
  obtain⟨a,ts,rfl,⟨ep,hl⟩,lv⟩:=(show Is K (hid S H1) (.dict l) v from i1)
  obtain⟨_,rfl⟩:=PF lv em
  refine⟨a,ts,ep,rfl,(hid_iff.mp hl).2,q _ H1 r1 c1 fun S2 H2 k=>?_⟩
  have hl2:=k.same _ _ hl
  have ll:=MW (lv.mono k.same)
  have hlen:ts.length=m.length:=by have:=ll.length;simpa using this
  refine⟨fun i d e=>?_,fun i hi=>⟨(hid_iff.mp hl2).2,by rw[List.length_map]at hi;omega⟩⟩
  obtain⟨u,h1,h2⟩:=ll.get e
  have hi:i<ts.length:=by
   have:=(List.getElem?_eq_some_iff.mp e).1
   rw[List.length_map]at this;omega
  refine⟨⟨(hid_iff.mp hl2).2,hi⟩,fun x H3 y=>⟨y.1,?_⟩⟩
  obtain⟨_,t,ht,rfl⟩:=y
  rw[List.getElem?_map,ht]at h1
  cases h1
  exact h2
 ·cases e
end DL
end
section
namespace Duh
open PySem
section
variable {K:Type} [DecidableEq K]
end
section
variable {prog:Program} {w:World} {K:Type} [DecidableEq K] {knd:HeapKind prog w K} {A:Around} {E:Value->Shared->Prop} {s:Shared}
end
end Duh
end
section
namespace DL
open PySem L2 PyProof.Rows
variable {K:KW}
instance (l:List Int):Decidable l.Nodup:=inferInstance
end DL
end
section
namespace DL
open PySem L2
variable {K:KW} {np:Nat}
end DL
end
set_option maxHeartbeats 2000000
namespace My
open PySem L2 DL
local macro_rules|`(tactic| trivial)=>`(tactic| first|rfl|(intro _;rfl)|exact .inl rfl|exact .inr rfl|with_unfolding_all rfl|decide|assumption)
local macro_rules|`(tactic| walk_at "dk")=>`(tactic| decide +kernel)
abbrev dbP(x:Str):Prop:=(x==("__debug__":Str))=false
abbrev clP(x:Str):Prop:=(x==("__classdict__":Str))=false
abbrev glP(s:Stmt)(x:Str):Prop:=(AB s).names.lookup x=some NameKind.globalImplicit
theorem viL{sc:Scope}{x:Str}(h:L2.Loc sc x):Vis sc x:=h.elim Or.inl fun h=>Or.inr (Or.inl h)
def top(i:Nat):Stmt:=PySem.Challenge.pw_scenemend_k67_frames_between.main.body.getD i (.Pass ⟨0,0,0,0⟩)
theorem Jv:dbP "_law_at":=by decide +kernel
theorem J0:clP "_law_at":=by decide +kernel
theorem Nw:dbP "_law_big":=by decide +kernel
theorem E5:dbP "_law_big_here":=by decide +kernel
theorem E6:clP "_law_big_here":=by decide +kernel
theorem Oq:dbP "_law_by":=by decide +kernel
theorem O1:clP "_law_by":=by decide +kernel
theorem HV:dbP "_law_cell":=by decide +kernel
theorem Hd:clP "_law_cell":=by decide +kernel
theorem Fd:dbP "_law_cell_at":=by decide +kernel
theorem C8:dbP "_law_copy":=by decide +kernel
theorem BK:dbP "_law_digit":=by decide +kernel
theorem HH:dbP "_law_digit_here":=by decide +kernel
theorem HI:clP "_law_digit_here":=by decide +kernel
theorem Ay:dbP "_law_due":=by decide +kernel
theorem Az:clP "_law_due":=by decide +kernel
theorem EX:dbP "_law_found":=by decide +kernel
theorem Ee:clP "_law_found":=by decide +kernel
theorem Gh:dbP "_law_frame":=by decide +kernel
theorem Pw:dbP "_law_h":=by decide +kernel
theorem P1:clP "_law_h":=by decide +kernel
theorem A9:dbP "_law_handed":=by decide +kernel
theorem BA:clP "_law_handed":=by decide +kernel
theorem D6:dbP "_law_is_fraction":=by decide +kernel
theorem CL:dbP "_law_k":=by decide +kernel
theorem CN:clP "_law_k":=by decide +kernel
theorem HU:dbP "_law_line":=by decide +kernel
theorem HZ:clP "_law_line":=by decide +kernel
theorem HS:dbP "_law_made":=by decide +kernel
theorem HY:clP "_law_made":=by decide +kernel
theorem Dv:dbP "_law_many":=by decide +kernel
theorem Dx:clP "_law_many":=by decide +kernel
theorem JY:dbP "_law_near_by":=by decide +kernel
theorem Fc:dbP "_law_next_by":=by decide +kernel
theorem A3:dbP "_law_one":=by decide +kernel
theorem A5:clP "_law_one":=by decide +kernel
theorem DY:dbP "_law_other":=by decide +kernel
theorem DZ:clP "_law_other":=by decide +kernel
theorem BV:dbP "_law_picture":=by decide +kernel
theorem BW:clP "_law_picture":=by decide +kernel
theorem EC:dbP "_law_picture_by":=by decide +kernel
theorem LG:dbP "_law_prime":=by decide +kernel
theorem LR:clP "_law_prime":=by decide +kernel
theorem Af:dbP "_law_rest":=by decide +kernel
theorem Ag:clP "_law_rest":=by decide +kernel
theorem BJ:dbP "_law_row":=by decide +kernel
theorem BL:clP "_law_row":=by decide +kernel
theorem B5:dbP "_law_same_frame":=by decide +kernel
theorem CP:dbP "_law_script":=by decide +kernel
theorem CS:clP "_law_script":=by decide +kernel
theorem Gg:dbP "_law_shade":=by decide +kernel
theorem Gq:clP "_law_shade":=by decide +kernel
theorem KB:dbP "_law_shades":=by decide +kernel
theorem KC:clP "_law_shades":=by decide +kernel
theorem EW:dbP "_law_thing":=by decide +kernel
theorem Ed:clP "_law_thing":=by decide +kernel
theorem EV:dbP "_law_three":=by decide +kernel
theorem Ec:clP "_law_three":=by decide +kernel
theorem Du:dbP "_law_told":=by decide +kernel
theorem Dw:clP "_law_told":=by decide +kernel
theorem Cz:dbP "_law_two":=by decide +kernel
theorem C0:clP "_law_two":=by decide +kernel
theorem Pu:dbP "_law_w":=by decide +kernel
theorem P0:clP "_law_w":=by decide +kernel
theorem CK:dbP "_law_x":=by decide +kernel
theorem CM:clP "_law_x":=by decide +kernel
theorem Cn:dbP "_law_y":=by decide +kernel
theorem Cq:clP "_law_y":=by decide +kernel
theorem TF:dbP "bool":=by decide +kernel
theorem Sc:("bool":Str)≠"__name__":=by decide +kernel
theorem EU:dbP "cell":=by decide +kernel
theorem Eb:clP "cell":=by decide +kernel
theorem Fb:dbP "cells":=by decide +kernel
theorem Ff:clP "cells":=by decide +kernel
theorem Ie:dbP "changed_cells":=by decide +kernel
theorem HR:dbP "enumerate":=by decide +kernel
theorem HN:("enumerate":Str)≠"__name__":=by decide +kernel
theorem Ml:dbP "frame":=by decide +kernel
theorem Mq:clP "frame":=by decide +kernel
theorem Cg:dbP "frame_between":=by decide +kernel
theorem Nv:dbP "frame_of":=by decide +kernel
theorem UZ:dbP "int":=by decide +kernel
theorem UB:("int":Str)≠"__name__":=by decide +kernel
theorem Op:dbP "is_next":=by decide +kernel
theorem Bp:dbP "isinstance":=by decide +kernel
theorem Bl:("isinstance":Str)≠"__name__":=by decide +kernel
theorem LF:dbP "last":=by decide +kernel
theorem LQ:clP "last":=by decide +kernel
theorem Cf:dbP "len":=by decide +kernel
theorem Cd:("len":Str)≠"__name__":=by decide +kernel
theorem Gf:dbP "list":=by decide +kernel
theorem GQ:("list":Str)≠"__name__":=by decide +kernel
theorem Oo:dbP "many":=by decide +kernel
theorem O0:clP "many":=by decide +kernel
theorem UY:dbP "new":=by decide +kernel
theorem Ud:clP "new":=by decide +kernel
theorem Ic:dbP "news":=by decide +kernel
theorem Ij:clP "news":=by decide +kernel
theorem UX:dbP "old":=by decide +kernel
theorem Uc:clP "old":=by decide +kernel
theorem Ge:dbP "olds":=by decide +kernel
theorem Gp:clP "olds":=by decide +kernel
theorem Nu:dbP "one":=by decide +kernel
theorem Ny:clP "one":=by decide +kernel
theorem JX:dbP "other":=by decide +kernel
theorem Jd:clP "other":=by decide +kernel
theorem UW:dbP "row":=by decide +kernel
theorem Ub:clP "row":=by decide +kernel
theorem LE:dbP "row_by_row":=by decide +kernel
theorem UV:dbP "set":=by decide +kernel
theorem UA:("set":Str)≠"__name__":=by decide +kernel
theorem Ri:dbP "shade":=by decide +kernel
theorem Ru:clP "shade":=by decide +kernel
theorem Pt:dbP "sorted":=by decide +kernel
theorem Pg:("sorted":Str)≠"__name__":=by decide +kernel
theorem On:dbP "step":=by decide +kernel
theorem Oz:clP "step":=by decide +kernel
theorem Gc:dbP "stretch":=by decide +kernel
theorem Go:clP "stretch":=by decide +kernel
theorem CV:dbP "stretches":=by decide +kernel
theorem CW:clP "stretches":=by decide +kernel
theorem JW:dbP "stretches_of":=by decide +kernel
theorem Mk:dbP "tuple":=by decide +kernel
theorem MM:("tuple":Str)≠"__name__":=by decide +kernel
theorem Ps:dbP "turned":=by decide +kernel
theorem Pz:clP "turned":=by decide +kernel
theorem Gb:dbP "x":=by decide +kernel
theorem Gn:clP "x":=by decide +kernel
theorem Ga:dbP "y":=by decide +kernel
theorem Gm:clP "y":=by decide +kernel
abbrev Bu:Stmt:=top 12
theorem sc_L_digit:Bb ["_law_rest","_law_many","_law_digit_here"] ["_law_rest","_law_many"] (AB Bu):=⟨rfl,rfl,rfl,by decide +kernel,rfl,by decide +kernel,by decide +kernel⟩
theorem OT:L2.Loc (AB Bu) "_law_rest":=by unfold L2.Loc;decide +kernel
theorem GF:Vis (AB Bu) "_law_rest":=viL OT
theorem OS:L2.Loc (AB Bu) "_law_many":=by unfold L2.Loc;decide +kernel
theorem Jk:Vis (AB Bu) "_law_many":=viL OS
theorem Jr:L2.Loc (AB Bu) "_law_digit_here":=by unfold L2.Loc;decide +kernel
theorem N5:Vis (AB Bu) "_law_digit_here":=viL Jr
abbrev Ac:Stmt:=top 14
theorem sc_L_picture_by:Bb ["_law_rest","_law_w","_law_h","_law_many","_law_shades"] ["_law_rest","_law_w","_law_h"] (AB Ac):=⟨rfl,rfl,rfl,by decide +kernel,rfl,by decide +kernel,by decide +kernel⟩
theorem JM:L2.Loc (AB Ac) "_law_rest":=by unfold L2.Loc;decide +kernel
theorem Iu:Vis (AB Ac) "_law_rest":=viL JM
theorem JL:L2.Loc (AB Ac) "_law_h":=by unfold L2.Loc;decide +kernel
theorem Ir:Vis (AB Ac) "_law_h":=viL JL
theorem FT:L2.Loc (AB Ac) "_law_many":=by unfold L2.Loc;decide +kernel
theorem Iq:Vis (AB Ac) "_law_many":=viL FT
theorem JK:L2.Loc (AB Ac) "_law_shades":=by unfold L2.Loc;decide +kernel
theorem Ei:glP Ac "_law_digit":=by decide +kernel
theorem GW:glP Ac "range":=by decide +kernel
theorem JG:List.Nodup (["_law_y","_law_shades","_law_rest","_law_many","_law_w"]:List Str):=by decide +kernel
theorem JE:List.Nodup (["_law_x","_law_shades","_law_rest","_law_many"]:List Str):=by decide +kernel
abbrev Aj:Stmt:=top 15
theorem sc_L_near_by:Bb ["_law_rest","_law_picture","_law_made","_law_k","_law_x"] ["_law_rest","_law_picture"] (AB Aj):=⟨rfl,rfl,rfl,by decide +kernel,rfl,by decide +kernel,by decide +kernel⟩
theorem Lj:L2.Loc (AB Aj) "_law_rest":=by unfold L2.Loc;decide +kernel
theorem Dr:Vis (AB Aj) "_law_rest":=viL Lj
theorem Li:L2.Loc (AB Aj) "_law_picture":=by unfold L2.Loc;decide +kernel
theorem E9:Vis (AB Aj) "_law_picture":=viL Li
theorem Lh:L2.Loc (AB Aj) "_law_made":=by unfold L2.Loc;decide +kernel
theorem HJ:Vis (AB Aj) "_law_made":=viL Lh
theorem Lm:(AB Aj).names.lookup ("_law_made":Str)=some NameKind.local:=by decide +kernel
theorem Lg:L2.Loc (AB Aj) "_law_k":=by unfold L2.Loc;decide +kernel
theorem HP:L2.Loc (AB Aj) "_law_x":=by unfold L2.Loc;decide +kernel
theorem LW:Vis (AB Aj) "_law_x":=viL HP
theorem Bi:glP Aj "_law_digit":=by decide +kernel
theorem IZ:glP Aj "range":=by decide +kernel
theorem Ft:glP Aj "len":=by decide +kernel
theorem Ld:List.Nodup (["_law_line"]:List Str):=by decide +kernel
abbrev A7:Stmt:=top 16
theorem sc_L_next_by:Bb ["_law_rest","_law_picture"] ["_law_rest","_law_picture"] (AB A7):=⟨rfl,rfl,rfl,by decide +kernel,rfl,by decide +kernel,by decide +kernel⟩
theorem Lf:L2.Loc (AB A7) "_law_rest":=by unfold L2.Loc;decide +kernel
theorem E8:Vis (AB A7) "_law_rest":=viL Lf
theorem Le:L2.Loc (AB A7) "_law_picture":=by unfold L2.Loc;decide +kernel
theorem E7:Vis (AB A7) "_law_picture":=viL Le
theorem Fp:glP A7 "_law_digit":=by decide +kernel
theorem Fs:glP A7 "len":=by decide +kernel
theorem EF:glP A7 "_law_picture_by":=by decide +kernel
theorem FC:glP A7 "_law_near_by":=by decide +kernel
abbrev Aa:Stmt:=top 5
theorem sc_changed_cells:Bb ["one","other","cells","y","row"] ["one","other"] (AB Aa):=⟨rfl,rfl,rfl,by decide +kernel,rfl,by decide +kernel,by decide +kernel⟩
theorem IV:L2.Loc (AB Aa) "one":=by unfold L2.Loc;decide +kernel
theorem Hy:Vis (AB Aa) "one":=viL IV
theorem Ex:L2.Loc (AB Aa) "cells":=by unfold L2.Loc;decide +kernel
theorem En:Vis (AB Aa) "cells":=viL Ex
theorem IU:L2.Loc (AB Aa) "y":=by unfold L2.Loc;decide +kernel
theorem Ew:L2.Loc (AB Aa) "row":=by unfold L2.Loc;decide +kernel
theorem Hw:Vis (AB Aa) "row":=viL Ew
theorem C1:glP Aa "enumerate":=by decide +kernel
theorem Er:List.Nodup (["x","shade","y","other"]:List Str):=by decide +kernel
abbrev Aw:Stmt:=top 1
theorem sc_row_by_row:Bb ["cells","turned"] ["cells"] (AB Aw):=⟨rfl,rfl,rfl,by decide +kernel,rfl,by decide +kernel,by decide +kernel⟩
theorem Kr:L2.Loc (AB Aw) "cells":=by unfold L2.Loc;decide +kernel
theorem KS:Vis (AB Aw) "cells":=viL Kr
theorem GS:L2.Loc (AB Aw) "turned":=by unfold L2.Loc;decide +kernel
theorem KR:Vis (AB Aw) "turned":=viL GS
theorem JR:glP Aw "set":=by decide +kernel
theorem HE:glP Aw "sorted":=by decide +kernel
theorem GP:List.Nodup (["x","y"]:List Str):=by decide +kernel
theorem GO:List.Nodup (["y","x"]:List Str):=by decide +kernel
abbrev CT:Stmt:=top 2
theorem sc_is_next:Bb ["stretch","cell"] ["stretch","cell"] (AB CT):=⟨rfl,rfl,rfl,by decide +kernel,rfl,by decide +kernel,by decide +kernel⟩
theorem ON:L2.Loc (AB CT) "stretch":=by unfold L2.Loc;decide +kernel
theorem GD:Vis (AB CT) "stretch":=viL ON
theorem OM:L2.Loc (AB CT) "cell":=by unfold L2.Loc;decide +kernel
theorem N4:Vis (AB CT) "cell":=viL OM
abbrev AY:Stmt:=top 3
theorem sc_stretches_of:Bb ["cells","stretches","cell","last"] ["cells"] (AB AY):=⟨rfl,rfl,rfl,by decide +kernel,rfl,by decide +kernel,by decide +kernel⟩
theorem JH:L2.Loc (AB AY) "cells":=by unfold L2.Loc;decide +kernel
theorem Ip:Vis (AB AY) "cells":=viL JH
theorem FQ:L2.Loc (AB AY) "stretches":=by unfold L2.Loc;decide +kernel
theorem Bj:Vis (AB AY) "stretches":=viL FQ
theorem FP:L2.Loc (AB AY) "cell":=by unfold L2.Loc;decide +kernel
theorem Dg:Vis (AB AY) "cell":=viL FP
theorem FO:L2.Loc (AB AY) "last":=by unfold L2.Loc;decide +kernel
theorem Df:Vis (AB AY) "last":=viL FO
theorem Eh:glP AY "row_by_row":=by decide +kernel
theorem Fo:glP AY "is_next":=by decide +kernel
theorem Hl:glP AY "len":=by decide +kernel
abbrev AS:Stmt:=top 7
theorem sc_frame_of:Bb ["olds","news","cells","frame","x","y","many","old","new"] ["olds","news"] (AB AS):=⟨rfl,rfl,rfl,by decide +kernel,rfl,by decide +kernel,by decide +kernel⟩
theorem NX:L2.Loc (AB AS) "olds":=by unfold L2.Loc;decide +kernel
theorem NA:Vis (AB AS) "olds":=viL NX
theorem NW:L2.Loc (AB AS) "cells":=by unfold L2.Loc;decide +kernel
theorem M9:Vis (AB AS) "cells":=viL NW
theorem Nc:(AB AS).names.lookup ("cells":Str)=some NameKind.local:=by decide +kernel
theorem IQ:L2.Loc (AB AS) "frame":=by unfold L2.Loc;decide +kernel
theorem Hv:Vis (AB AS) "frame":=viL IQ
theorem IP:L2.Loc (AB AS) "x":=by unfold L2.Loc;decide +kernel
theorem M8:Vis (AB AS) "x":=viL IP
theorem IN:L2.Loc (AB AS) "y":=by unfold L2.Loc;decide +kernel
theorem M7:Vis (AB AS) "y":=viL IN
theorem IM:L2.Loc (AB AS) "many":=by unfold L2.Loc;decide +kernel
theorem Hu:Vis (AB AS) "many":=viL IM
theorem NV:L2.Loc (AB AS) "old":=by unfold L2.Loc;decide +kernel
theorem M6:Vis (AB AS) "old":=viL NV
theorem Nb:(AB AS).names.lookup ("old":Str)=some NameKind.local:=by decide +kernel
theorem NU:L2.Loc (AB AS) "new":=by unfold L2.Loc;decide +kernel
theorem M5:Vis (AB AS) "new":=viL NU
theorem Na:(AB AS).names.lookup ("new":Str)=some NameKind.local:=by decide +kernel
theorem FY:glP AS "stretches_of":=by decide +kernel
theorem FZ:glP AS "range":=by decide +kernel
theorem NT:List.Nodup (["cell","olds","news"]:List Str):=by decide +kernel
theorem NS:List.Nodup (["step","olds","y","x"]:List Str):=by decide +kernel
theorem NR:List.Nodup (["step","news","y","x"]:List Str):=by decide +kernel
abbrev AN:Stmt:=top 8
theorem sc_frame_between:Bb ["one","other","olds","news","x","y"] ["one","other"] (AB AN):=⟨rfl,rfl,rfl,by decide +kernel,rfl,by decide +kernel,by decide +kernel⟩
theorem IS:L2.Loc (AB AN) "one":=by unfold L2.Loc;decide +kernel
theorem Em:Vis (AB AN) "one":=viL IS
theorem IR:L2.Loc (AB AN) "other":=by unfold L2.Loc;decide +kernel
theorem El:Vis (AB AN) "other":=viL IR
theorem Ev:L2.Loc (AB AN) "olds":=by unfold L2.Loc;decide +kernel
theorem Ek:Vis (AB AN) "olds":=viL Ev
theorem Eu:L2.Loc (AB AN) "news":=by unfold L2.Loc;decide +kernel
theorem Ej:Vis (AB AN) "news":=viL Eu
theorem Et:L2.Loc (AB AN) "x":=by unfold L2.Loc;decide +kernel
theorem Cc:Vis (AB AN) "x":=viL Et
theorem Es:L2.Loc (AB AN) "y":=by unfold L2.Loc;decide +kernel
theorem Cb:Vis (AB AN) "y":=viL Es
theorem D3:glP AN "changed_cells":=by decide +kernel
theorem FB:glP AN "frame_of":=by decide +kernel
abbrev A8:Stmt:=top 18
theorem sc_L_frame:Bb ["_law_one","_law_other","_law_due","_law_y","_law_x"] ["_law_one","_law_other"] (AB A8):=⟨rfl,rfl,rfl,by decide +kernel,rfl,by decide +kernel,by decide +kernel⟩
theorem OQ:L2.Loc (AB A8) "_law_one":=by unfold L2.Loc;decide +kernel
theorem Dy:Vis (AB A8) "_law_one":=viL OQ
theorem OP:L2.Loc (AB A8) "_law_other":=by unfold L2.Loc;decide +kernel
theorem GE:Vis (AB A8) "_law_other":=viL OP
theorem Jq:L2.Loc (AB A8) "_law_due":=by unfold L2.Loc;decide +kernel
theorem CF:Vis (AB A8) "_law_due":=viL Jq
theorem Jp:L2.Loc (AB A8) "_law_y":=by unfold L2.Loc;decide +kernel
theorem CD:Vis (AB A8) "_law_y":=viL Jp
theorem Jo:L2.Loc (AB A8) "_law_x":=by unfold L2.Loc;decide +kernel
theorem CC:Vis (AB A8) "_law_x":=viL Jo
theorem FD:glP A8 "len":=by decide +kernel
theorem Fu:glP A8 "range":=by decide +kernel
abbrev Ab:Stmt:=top 13
theorem sc_L_is_fraction:Bb ["_law_thing","_law_one"] ["_law_thing"] (AB Ab):=⟨rfl,rfl,rfl,by decide +kernel,rfl,by decide +kernel,by decide +kernel⟩
theorem IW:L2.Loc (AB Ab) "_law_thing":=by unfold L2.Loc;decide +kernel
theorem DK:Vis (AB Ab) "_law_thing":=viL IW
theorem Ey:L2.Loc (AB Ab) "_law_one":=by unfold L2.Loc;decide +kernel
theorem Eo:Vis (AB Ab) "_law_one":=viL Ey
theorem HF:glP Ab "len":=by decide +kernel
theorem GC:glP Ab "tuple":=by decide +kernel
theorem Bo:glP Ab "isinstance":=by decide +kernel
theorem GY:glP Ab "bool":=by decide +kernel
theorem HG:glP Ab "int":=by decide +kernel
abbrev AQ:Stmt:=top 19
theorem sc_L_same_frame:Bb ["_law_found","_law_due","_law_k","_law_row"] ["_law_found","_law_due"] (AB AQ):=⟨rfl,rfl,rfl,by decide +kernel,rfl,by decide +kernel,by decide +kernel⟩
theorem JJ:L2.Loc (AB AQ) "_law_found":=by unfold L2.Loc;decide +kernel
theorem Di:Vis (AB AQ) "_law_found":=viL JJ
theorem JI:L2.Loc (AB AQ) "_law_due":=by unfold L2.Loc;decide +kernel
theorem Dh:Vis (AB AQ) "_law_due":=viL JI
theorem FS:L2.Loc (AB AQ) "_law_k":=by unfold L2.Loc;decide +kernel
theorem FH:Vis (AB AQ) "_law_k":=viL FS
theorem FR:L2.Loc (AB AQ) "_law_row":=by unfold L2.Loc;decide +kernel
theorem A1:Vis (AB AQ) "_law_row":=viL FR
theorem CJ:glP AQ "len":=by decide +kernel
theorem C4:glP AQ "list":=by decide +kernel
theorem BP:glP AQ "isinstance":=by decide +kernel
theorem GV:glP AQ "range":=by decide +kernel
theorem GU:glP AQ "tuple":=by decide +kernel
theorem Db:glP AQ "_law_is_fraction":=by decide +kernel
theorem JF:List.Nodup (["_law_shade"]:List Str):=by decide +kernel
abbrev BY:Stmt:=top 10
theorem sc_L_cell_at:Bb ["_law_script","_law_k"] ["_law_script","_law_k"] (AB BY):=⟨rfl,rfl,rfl,by decide +kernel,rfl,by decide +kernel,by decide +kernel⟩
theorem Ll:L2.Loc (AB BY) "_law_script":=by unfold L2.Loc;decide +kernel
theorem HL:Vis (AB BY) "_law_script":=viL Ll
theorem Lk:L2.Loc (AB BY) "_law_k":=by unfold L2.Loc;decide +kernel
theorem HK:Vis (AB BY) "_law_k":=viL Lk
theorem J9:glP BY "len":=by decide +kernel
abbrev BD:Stmt:=top 11
theorem sc_L_big:Bb ["_law_script","_law_at","_law_by","_law_prime","_law_cell","_law_big_here","_law_k","_law_one"] ["_law_script","_law_at"] (AB BD):=⟨rfl,rfl,rfl,by decide +kernel,rfl,by decide +kernel,by decide +kernel⟩
theorem RN:L2.Loc (AB BD) "_law_script":=by unfold L2.Loc;decide +kernel
theorem L9:Vis (AB BD) "_law_script":=viL RN
theorem RM:L2.Loc (AB BD) "_law_at":=by unfold L2.Loc;decide +kernel
theorem L8:Vis (AB BD) "_law_at":=viL RM
theorem MS:L2.Loc (AB BD) "_law_by":=by unfold L2.Loc;decide +kernel
theorem Q4:Vis (AB BD) "_law_by":=viL MS
theorem MQ:L2.Loc (AB BD) "_law_prime":=by unfold L2.Loc;decide +kernel
theorem Q3:Vis (AB BD) "_law_prime":=viL MQ
theorem MP:L2.Loc (AB BD) "_law_cell":=by unfold L2.Loc;decide +kernel
theorem L7:Vis (AB BD) "_law_cell":=viL MP
theorem JN:L2.Loc (AB BD) "_law_big_here":=by unfold L2.Loc;decide +kernel
theorem L6:Vis (AB BD) "_law_big_here":=viL JN
theorem MO:L2.Loc (AB BD) "_law_k":=by unfold L2.Loc;decide +kernel
theorem FI:Vis (AB BD) "_law_k":=viL MO
theorem MN:L2.Loc (AB BD) "_law_one":=by unfold L2.Loc;decide +kernel
theorem Q2:Vis (AB BD) "_law_one":=viL MN
theorem D4:glP BD "_law_cell_at":=by decide +kernel
theorem Ly:glP BD "range":=by decide +kernel
abbrev DM:Stmt:=top 17
theorem sc_L_copy:Bb ["_law_picture"] ["_law_picture"] (AB DM):=⟨rfl,rfl,rfl,by decide +kernel,rfl,by decide +kernel,by decide +kernel⟩
theorem Ph:L2.Loc (AB DM) "_law_picture":=by unfold L2.Loc;decide +kernel
theorem O9:Vis (AB DM) "_law_picture":=viL Ph
theorem Pf:List.Nodup (["_law_line"]:List Str):=by decide +kernel
abbrev BT:Stmt:=top 20
theorem sc_law:Bb ["_law_script","_law_rest","_law_one","_law_two","_law_three","_law_handed","_law_told","_law_other","_law_due","_law_row"] ["_law_script"] (AB BT):=⟨rfl,rfl,rfl,by decide +kernel,rfl,by decide +kernel,by decide +kernel⟩
theorem UC:L2.Loc (AB BT) "_law_script":=by unfold L2.Loc;decide +kernel
theorem Th:Vis (AB BT) "_law_script":=viL UC
theorem QV:L2.Loc (AB BT) "_law_rest":=by unfold L2.Loc;decide +kernel
theorem Ht:Vis (AB BT) "_law_rest":=viL QV
theorem QU:L2.Loc (AB BT) "_law_one":=by unfold L2.Loc;decide +kernel
theorem Hs:Vis (AB BT) "_law_one":=viL QU
theorem QT:L2.Loc (AB BT) "_law_two":=by unfold L2.Loc;decide +kernel
theorem Gs:Vis (AB BT) "_law_two":=viL QT
theorem QS:L2.Loc (AB BT) "_law_three":=by unfold L2.Loc;decide +kernel
theorem M1:Vis (AB BT) "_law_three":=viL QS
theorem QR:L2.Loc (AB BT) "_law_handed":=by unfold L2.Loc;decide +kernel
theorem ED:Vis (AB BT) "_law_handed":=viL QR
theorem QQ:L2.Loc (AB BT) "_law_told":=by unfold L2.Loc;decide +kernel
theorem KF:Vis (AB BT) "_law_told":=viL QQ
theorem QP:L2.Loc (AB BT) "_law_other":=by unfold L2.Loc;decide +kernel
theorem Tg:Vis (AB BT) "_law_other":=viL QP
theorem QO:L2.Loc (AB BT) "_law_due":=by unfold L2.Loc;decide +kernel
theorem M0:Vis (AB BT) "_law_due":=viL QO
theorem QN:L2.Loc (AB BT) "_law_row":=by unfold L2.Loc;decide +kernel
theorem P7:Vis (AB BT) "_law_row":=viL QN
theorem K5:glP BT "_law_big":=by decide +kernel
theorem FX:glP BT "_law_digit":=by decide +kernel
theorem GB:glP BT "_law_picture_by":=by decide +kernel
theorem ES:glP BT "_law_next_by":=by decide +kernel
theorem CO:glP BT "_law_copy":=by decide +kernel
theorem B4:glP BT "frame_between":=by decide +kernel
theorem FW:glP BT "_law_frame":=by decide +kernel
theorem Bs:glP BT "_law_same_frame":=by decide +kernel
def Ah:List L->Option (PyData×List L):=C5 false 2 1 (A0 (Ch (Ih 0 (dOp Fa (dOp Ad (AD 0) (dC (.int 0))) (AD 1))) (dN 2)) (A0 (Fz 0 (Ih 0 (dOp V1 (dOp Ad (AD 0) (dC (.int 0))) (AD 1))) (dC (.int 0))) (B3 (AD 2))))
def BZ:List L->Option (PyData×List L):=C5 true 3 2 (A0 (Ch (dOp Cy (dC (.int 1)) (A4 0 Ah (AA (dC (.int 4)) AE))) (dN 3)) (A0 (Ch (dSl (D7 (AA (BN (AA (dC (.int 0)) (AA (dC (.int 1)) AE))) (AA (BN (AA (dC (.int 1)) (AA (dC (.int 1)) AE))) (AA (BN (AA (dC (.int 1)) (AA (dC (.int 2)) AE))) (AA (BN (AA (dC (.int 2)) (AA (dC (.int 3)) AE))) AE))))) V7 (dPt (AD 3))) (dN 4)) (B3 (Nx 1 [4] 0 [3,1] (dR1 (AA (AD 2) AE)) (dN 0) Dc (Nx 1 [1] 2 [3] (dR1 (AA (AD 4) AE)) (dN 0) Dc (dOp Ad (AD 1) (A4 2 Ah (AA (AD 3) AE))))))))
def DJ:List L->Option (PyData×List L):=C5 true 2 3 (A0 (EZ 2 2 (dLC 1 [] (dIL (AD 1)) (dN 0) Dc (dFx (Be DE (AA (AD 0) AE))))) (A0 (EL (dR1 (AA (A4 0 Ah (AA (dC (.int 7)) AE)) AE)) (dN 3) (A0 (Ch (A4 0 Ah (AA (Be B2 (AA (dOp Ad (AD 1) (dC (.int 0))) AE)) AE)) (dN 4)) (JZ 2 (dOp Ad (D7 (AA (BN (AA (dC (.int 0)) (AA (dC (.int 1)) AE))) (AA (BN (AA (dC (.int 1)) (AA (dC (.int 2)) AE))) (AA (BN (AA (dC (.int 1)) (AA (dC (.int 3)) AE))) AE)))) (A4 0 Ah (AA (dC (.int 3)) AE))) (A4 0 Ah (AA (Be B2 (AA (AD 1) AE)) AE)) (AD 4)))) (LI 2)))
def Ck:List L->Option (PyData×List L):=C5 true 2 0 (A0 (Co (AR (dOp fEq (A4 0 Ah (AA (dC (.int 3)) AE)) (dC (.int 0)))) (B3 (A4 0 BZ (AA (Be B2 (AA (dOp Ad (AD 1) (dC (.int 0))) AE)) (AA (Be B2 (AA (AD 1) AE)) AE)))) EK) (B3 (A4 0 DJ (AA (AD 1) AE))))
def Bc:List L->Option (PyData×List L):=C5 true 2 3 (A0 (L0 2 2) (A0 (EL (dIE (AD 0)) (dGT (Ai (dN 3) (Ai (dN 4) CI))) (D8 (dMt 2 DU (AA (dLC 2 [3,1] (dIE (AD 4)) (dGT (Ai (dN 0) (Ai (dN 1) CI))) (AR (dOp fNe (AD 1) (dOp Ad (dOp Ad (AD 3) (AD 2)) (AD 0)))) (BN (AA (AD 0) (AA (AD 2) AE)))) AE)))) (Gj 2 2)))
def Ct:List L->Option (PyData×List L):=C5 true 1 1 (A0 (Ch (dSS (dLC 2 [] (dIL (AD 0)) (dGT (Ai (dN 0) (Ai (dN 1) CI))) Dc (BN (AA (AD 1) (AA (AD 0) AE))))) (dN 1)) (B3 (dLC 2 [] (dIL (AD 1)) (dGT (Ai (dN 0) (Ai (dN 1) CI))) Dc (BN (AA (AD 1) (AA (AD 0) AE))))))
def B7:List L->Option (PyData×List L):=C5 false 2 0 (B3 (dOp fEq (AD 1) (BN (AA (dOp Cy (dOp BB (AD 0) (dC (.int 0))) (dOp BB (AD 0) (dC (.int 2)))) (AA (dOp BB (AD 0) (dC (.int 1))) AE)))))
def Bm:List L->Option (PyData×List L):=C5 true 1 3 (A0 (L0 1 1) (A0 (EL (dIL (Ae Ct (AA (AD 0) AE))) (dN 2) (Co (Fe 1 (CQ (AR (dOp fGt (Be B2 (AA (AD 1) AE)) (dC (.int 0)))) (AR (Ae B7 (AA (dOp Ad (AD 1) (dUn Ca (dC (.int 1)))) (AA (AD 2) AE)))))) (A0 (Ch (Ih 1 (dOp Ad (AD 1) (dUn Ca (dC (.int 1))))) (dN 3)) (Fz 1 (BN (AA (dOp BB (AD 3) (dC (.int 0))) (AA (dOp BB (AD 3) (dC (.int 1))) (AA (dOp Cy (dOp BB (AD 3) (dC (.int 2))) (dC (.int 1))) AE)))) (dUn Ca (dC (.int 1))))) (D8 (dMt 1 DD (AA (BN (AA (dOp BB (AD 2) (dC (.int 0))) (AA (dOp BB (AD 2) (dC (.int 1))) (AA (dC (.int 1)) AE)))) AE))))) (Gj 1 1)))
def Cj:List L->Option (PyData×List L):=C5 true 2 7 (HW (Ch (dLC 1 [0,1] (dID (AD 0)) (dN 0) (AR (dOp fNe (dOp FE (AD 1) (AD 0)) (dOp FE (AD 2) (AD 0)))) (AD 0)) (dN 2)) (HW (EZ 2 3 (BX Bq)) (HW (EL (dIL (Ae Bm (AA (AD 2) AE))) (dGT (Ai (dN 4) (Ai (dN 5) (Ai (dN 6) CI)))) (A0 (EZ 2 7 (dFx (dLC 1 [0,5,4] (dR1 (AA (AD 6) AE)) (dN 0) Dc (dOp FE (AD 1) (BN (AA (dOp Cy (AD 3) (AD 0)) (AA (AD 2) AE))))))) (A0 (EZ 2 8 (dFx (dLC 1 [1,5,4] (dR1 (AA (AD 6) AE)) (dN 0) Dc (dOp FE (AD 1) (BN (AA (dOp Cy (AD 3) (AD 0)) (AA (AD 2) AE))))))) (Hn 3 (AD 4) (AD 5) 7 8)))) (LI 3))))
def Aq:List L->Option (PyData×List L):=C5 true 2 4 (HW (Qs 2 2) (HW (Qs 2 3) (HW (EL (dIL (Ae Bc (AA (AD 0) (AA (AD 1) AE)))) (dGT (Ai (dN 4) (Ai (dN 5) CI))) (A0 (Jx 2 (dOp Ad (dOp Ad (AD 0) (AD 5)) (AD 4)) (BN (AA (AD 4) (AA (AD 5) AE)))) (Jx 3 (dOp Ad (dOp Ad (AD 1) (AD 5)) (AD 4)) (BN (AA (AD 4) (AA (AD 5) AE)))))) (Qu 2 3 (Qu 2 2 (B3 (dLs (Ae Cj (AA (AD 2) (AA (AD 3) AE))))))))))
def Cu:List L->Option (PyData×List L):=C5 true 2 3 (A0 (EZ 2 2 (BX Bq)) (A0 (EL (dR1 (AA (Be B2 (AA (AD 0) AE)) AE)) (dN 3) (EL (dR1 (AA (Be B2 (AA (dOp Ad (AD 0) (dC (.int 0))) AE)) AE)) (dN 4) (Co (AR (dOp fNe (dOp Ad (dOp Ad (AD 0) (AD 3)) (AD 4)) (dOp Ad (dOp Ad (AD 1) (AD 3)) (AD 4)))) (Co (EY 2 (CQ (AR (dOp fNe (AD 2) (D7 AE))) (CQ (AR (dOp fEq (dOp BB (dOp Ad (AD 2) (dUn Ca (dC (.int 1)))) (dC (.int 1))) (AD 3))) (AR (dOp fEq (dOp Cy (dOp BB (dOp Ad (AD 2) (dUn Ca (dC (.int 1)))) (dC (.int 0))) (Be B2 (AA (dOp BB (dOp Ad (AD 2) (dUn Ca (dC (.int 1)))) (dC (.int 2))) AE))) (AD 4)))))) (A0 (LL 2 (dPT (dPL dPV (dUn Ca (dC (.int 1)))) (dC (.int 2))) (AA (dOp Ad (dOp Ad (AD 0) (AD 3)) (AD 4)) AE) JD) (LL 2 (dPT (dPL dPV (dUn Ca (dC (.int 1)))) (dC (.int 3))) (AA (dOp Ad (dOp Ad (AD 1) (AD 3)) (AD 4)) AE) JD)) (LO 2 (Ig (Ao (dFd (AD 4)) (Ao (dFd (AD 3)) (Ao (BX (Ao (dFd (dOp Ad (dOp Ad (AD 0) (AD 3)) (AD 4))) Bq)) (Ao (BX (Ao (dFd (dOp Ad (dOp Ad (AD 1) (AD 3)) (AD 4))) Bq)) Bq))))))) EK))) (LI 2)))
def As:List L->Option (PyData×List L):=C5 false 1 1 (A0 (Co (EJ (Bz (AR (Ea "tuple" (AD 0)))) (AR (dOp fNe (Be B2 (AA (AD 0) AE)) (dC (.int 2))))) (B3 (dC (.bool false))) EK) (A0 (EL (dIT (AD 0)) (dN 1) (Co (EJ (Bz (AR (Ea "int" (AD 1)))) (AR (Ea "bool" (AD 1)))) (B3 (dC (.bool false))) EK)) (B3 (dC (.bool true)))))
def An:List L->Option (PyData×List L):=C5 false 2 2 (A0 (Co (EJ (Bz (AR (Ea "list" (AD 0)))) (AR (dOp fNe (Be B2 (AA (AD 0) AE)) (Be B2 (AA (AD 1) AE))))) (B3 (dC (.bool false))) EK) (A0 (EL (dR1 (AA (Be B2 (AA (AD 1) AE)) AE)) (dN 2) (A0 (Ch (dOp Ad (AD 0) (AD 2)) (dN 3)) (A0 (Co (EJ (Bz (AR (Ea "tuple" (AD 3)))) (EJ (AR (dOp fNe (Be B2 (AA (AD 3) AE)) (dC (.int 4)))) (AR (dOp fNe (AD 3) (dOp Ad (AD 1) (AD 2)))))) (B3 (dC (.bool false))) EK) (A0 (Co (EJ (Bz (AR (Ae As (AA (BN (AA (dOp BB (AD 3) (dC (.int 0))) (AA (dOp BB (AD 3) (dC (.int 1))) AE))) AE)))) (EJ (Bz (AR (Ea "list" (dOp BB (AD 3) (dC (.int 2)))))) (Bz (AR (Ea "list" (dOp BB (AD 3) (dC (.int 3)))))))) (B3 (dC (.bool false))) EK) (Co (AR (dOp fNe (dLC 1 [] (dIL (dOp Pq (dOp BB (AD 3) (dC (.int 2))) (dOp BB (AD 3) (dC (.int 3))))) (dN 0) (Bz (AR (Ae As (AA (AD 0) AE)))) (AD 0)) (D7 AE))) (B3 (dC (.bool false))) EK))))) (B3 (dC (.bool true)))))
def Bw:List L->Option (PyData×List L):=C5 false 2 0 (A0 (Co (AR (dOp fLt (AD 1) (HX 0))) (B3 (L1 0 (AD 1))) EK) (B3 (dC (.int 0))))
def Ez:List L->Option (PyData×List L):=C5 false 2 6 (A0 (Ch (BN (AA (dC (.int 48271)) (AA (dC (.int 69621)) (AA (dC (.int 16807)) (AA (dC (.int 39373)) (AA (dC (.int 21401)) (AA (dC (.int 60493)) (AA (dC (.int 87721)) (AA (dC (.int 31337)) AE))))))))) (dN 2)) (A0 (Ch (BN (AA (dC (.int 99991)) (AA (dC (.int 99989)) (AA (dC (.int 99971)) (AA (dC (.int 99961)) (AA (dC (.int 99929)) (AA (dC (.int 99923)) (AA (dC (.int 99907)) (AA (dC (.int 99901)) AE))))))))) (dN 3)) (A0 (Ch (Cp 0 Bw (AA (AD 1) AE)) (dN 4)) (A0 (Co (AR (dOp fGe (AD 4) (dOp S6 (dC (.int 10)) (dC (.int 18))))) (B3 (AD 4)) EK) (A0 (Ch (dC (.int 0)) (dN 5)) (A0 (EL (dR1 (AA (dC (.int 60)) AE)) (dN 6) (A0 (Ch (dOp Cy (dOp Cy (dOp Fa (Cp 0 Bw (AA (dOp Cy (AD 1) (dOp Fa (AD 6) (dC (.int 9)))) AE)) (dOp S6 (dC (.int 10)) (dC (.int 18)))) (dC (.int 1))) (dOp K7 (AD 6) (AD 6))) (dN 7)) (Ch (dOp Cy (dOp K7 (AD 5) (dC (.int 7919))) (dOp Fa (dOp Fa (dOp K7 (AD 7) (dOp BB (AD 2) (dOp Fa (AD 6) (dC (.int 8))))) (dOp BB (AD 3) (dOp Fa (AD 6) (dC (.int 8))))) (dC (.int 7919)))) (dN 5)))) (B3 (AD 5))))))))
def Au:List L->Option (PyData×List L):=C5 true 1 0 (B3 (dLC 1 [] (dIL (AD 0)) (dN 0) Dc (dFx (Be DE (AA (AD 0) AE)))))
def Ks:List L->Option (PyData×List L):=C5 false 1 9 (A0 (Gi 1 1 (D7 (AA (Cp 0 Ez (AA (dC (.int 0)) AE)) AE))) (A0 (Ch (A4 1 BZ (AA (dOp Cy (dC (.int 1)) (A4 1 Ah (AA (dC (.int 9)) AE))) (AA (dOp Cy (dC (.int 1)) (A4 1 Ah (AA (dC (.int 6)) AE))) AE))) (dN 2)) (A0 (Ch (A4 1 Ck (AA (AD 2) AE)) (dN 3)) (A0 (Ch (A4 1 Ck (AA (AD 3) AE)) (dN 4)) (A0 (EZ 1 5 (BX (Ao (dLs (Ae Au (AA (AD 2) AE))) (Ao (dLs (Ae Au (AA (AD 3) AE))) (Ao (dLs (Ae Au (AA (AD 4) AE))) Bq))))) (A0 (EZ 1 6 (Hm 5 (dLs (Ae Aq (AA (dOp Ad (AD 5) (dC (.int 0))) (AA (dOp Ad (AD 5) (dC (.int 1))) AE)))))) (A0 (EZ 1 7 (Hm 5 (dLs (Ae Aq (AA (dOp Ad (AD 5) (dC (.int 1))) (AA (dOp Ad (AD 5) (dC (.int 2))) AE)))))) (A0 (Ch (Ae Cu (AA (AD 2) (AA (AD 3) AE))) (dN 8)) (A0 (Co (EY 7 (EY 6 (EJ (Bz (AR (Ae An (AA (AD 6) (AA (AD 8) AE))))) (Bz (AR (Ae An (AA (AD 7) (AA (Ae Cu (AA (AD 3) (AA (AD 4) AE))) AE)))))))) (B3 (dC (.bool false))) EK) (A0 (Co (EY 5 (EJ (AR (dOp fNe (AD 5) (D7 (AA (AD 2) (AA (AD 3) (AA (AD 4) AE)))))) (AR (dOp fNe (dLs (Ae Aq (AA (dOp Ad (AD 5) (dC (.int 0))) (AA (dOp Ad (AD 5) (dC (.int 0))) AE)))) (D7 AE))))) (B3 (dC (.bool false))) EK) (A0 (Os 5 (BN (AA (dC (.int 9)) (AA (dC (.int 1)) AE))) (dPL (dPL dPV (dC (.int 0))) (dC (.int 0))) (dC (.int 0))) (A0 (LL 5 (dPL dPV (dC (.int 1))) AE Vn) (A0 (Co (EY 6 (Bz (AR (Ae An (AA (AD 6) (AA (AD 8) AE)))))) (B3 (dC (.bool false))) EK) (A0 (TH 1 6 9 (Qr (Lz 6 (dPT dPV (dC (.int 2))) AE Pd) (Lz 6 (dPT dPV (dC (.int 3))) (AA (BN (AA (dC (.int 0)) (AA (dC (.int 1)) AE))) AE) JD))) (A0 (LL 6 dPV AE Pd) (B3 (Ae An (AA (dLs (Ae Aq (AA (dLs (Ae Au (AA (AD 2) AE))) (AA (dLs (Ae Au (AA (AD 3) AE))) AE)))) (AA (AD 8) AE)))))))))))))))))))
theorem Eg{k:Nat}{A:Around}(hr:Room k A):A.units+64<cLine:=hr.units
section
variable {P:Program} {w:World} {K:PySem.W.Frag} {mg:Str->Option Value} {base:Heap} {f:Addr} {fd:FuncData}
theorem Pb(F:Fun K "_law_digit" "_law_digit" Bu f fd):FnOk P w K mg base CX0 1 f fd ["_law_rest","_law_many"] (spD ⟨K,w⟩ Ah false):=by
 have nd:=sc_L_digit.nd
 refine F.ok sc_L_digit (fun vs H Q E h=>DW BC h) (fun cdv A outer s H vs Q E hr h=>?_)
 exact⟨_,(@AK _ _ _ _ _ (@BU _ _ 2 _ _ _ _ nd rfl Jr (@CG _ _ _ _ _ _ _ _ Hi (@AX _ _ _ _ _ _ _ AW (@pv _ 0 _ _ rfl GF Af Ag) AJ (fun _ _=>rfl)) (@pv _ 1 _ _ rfl Jk Dv Dx)) (by trivial) (by trivial)) (@AK _ _ _ _ _ (@Ix _ _ _ _ _ _ (@CG _ _ _ _ _ _ _ _ SS (@AX _ _ _ _ _ _ _ AW (@pv _ 0 _ _ rfl GF Af Ag) AJ (fun _ _=>rfl)) (@pv _ 1 _ _ rfl Jk Dv Dx)) (@Iz _ _ _ _ _ _ _ (@pv _ 0 _ _ rfl GF Af Ag) AJ ID (by trivial)) (by trivial) (by trivial) (by trivial)) (@AV _ _ _ (@BE _ _ _ _ (@pv _ 2 _ _ rfl N5 HH HI))))),DV (N:=["_law_rest","_law_many","_law_digit_here"]) (np:=2) (nl:=1) (Av (De (TB (i:=0) (AZ Kq (AZ BO AH AL) AH)) Ak) (Av (TQ (i:=0) (TB (i:=0) (AZ Wn (AZ BO AH AL) AH)) AL) (C3 AH (by decide)))) rfl h⟩
theorem J6(F:Fun K "_law_picture_by" "_law_picture_by" Ac f fd)(C_L_digit:Cal P w K mg base 1 "_law_digit" ["_law_rest","_law_many"] (spD ⟨K,w⟩ Ah false))(z_range:mg "range"=none):FnOk P w K mg base CX0 2 f fd ["_law_rest","_law_w","_law_h"] (spD ⟨K,w⟩ BZ true):=by
 have nd:=sc_L_picture_by.nd
 refine F.ok sc_L_picture_by (fun vs H Q E h=>DW BC h) (fun cdv A outer s H vs Q E hr h=>?_)
 exact⟨_,(@AK _ _ _ _ _ (@BU _ _ 3 _ _ _ _ nd rfl FT (@CG _ _ _ _ _ _ _ _ D9 AJ (@AU _ _ _ _ _ _ _ _ _ _ C_L_digit hr Ei (@AC _ _ _ _ _ (@pv _ 0 _ _ rfl Iu Af Ag) (@AC _ _ _ _ _ AJ AI (by trivial)) (by trivial)) BK (by trivial) (by trivial))) (by trivial) (by trivial)) (@AK _ _ _ _ _ (@BU _ _ 4 _ _ _ _ nd rfl JK (@SM _ _ _ _ _ _ _ _ _ _ Tq (@DN _ _ _ _ (@AC _ _ _ _ _ (@Bh _ _ _ _ _ (@AC _ _ _ _ _ AJ (@AC _ _ _ _ _ AJ AI (by trivial)) (by trivial))) (@AC _ _ _ _ _ (@Bh _ _ _ _ _ (@AC _ _ _ _ _ AJ (@AC _ _ _ _ _ AJ AI (by trivial)) (by trivial))) (@AC _ _ _ _ _ (@Bh _ _ _ _ _ (@AC _ _ _ _ _ AJ (@AC _ _ _ _ _ AJ AI (by trivial)) (by trivial))) (@AC _ _ _ _ _ (@Bh _ _ _ _ _ (@AC _ _ _ _ _ AJ (@AC _ _ _ _ _ AJ AI (by trivial)) (by trivial))) AI (by trivial)) (by trivial)) (by trivial)) (by trivial))) Tv (@Tu _ _ _ (@pv _ 3 _ _ rfl Iq Dv Dx))) (by trivial) (by trivial)) (@AV _ _ _ (@BE _ _ _ _ (@Kk _ ["_law_y","_law_shades","_law_rest","_law_many","_law_w"] 1 [4,0,3,1] _ _ _ _ _ _ _ _ _ _ rfl (@GT _ ["_law_y","_law_shades","_law_rest","_law_many","_law_w"] 1 [4,0,3,1] _ ["_law_rest","_law_w","_law_h","_law_many","_law_shades"] (AB Ac) rfl rfl (by walk_at "dk")) (@Cs _ _ _ _ _ _ GW z_range (@AC _ _ _ _ _ (@pv _ 2 _ _ rfl Ir Pw P1) AI (by trivial)) (by trivial)) (fun cl fp s3 H3=>(@Ax _ _ 0 _ JG rfl (Ba (by walk_at "dk")) (Or.inr (Bf (by walk_at "dk"))))) (fun cl fp s3 H3=>Ep) (fun cl fp s3 H3=>(@Kk _ ["_law_x","_law_shades","_law_rest","_law_many"] 1 [1,2,3] _ _ _ _ _ _ _ _ _ _ rfl (Vq (N':=["_law_x","_law_shades","_law_rest","_law_many"]) (own:=1) (fr:=[1,2,3]) (N:=["_law_y","_law_shades","_law_rest","_law_many","_law_w"]) (by walk_at "dk")) (@Cs _ _ _ _ _ _ (IF (by walk_at "dk")) z_range (@AC _ _ _ _ _ (@pv _ 4 _ _ rfl (Bk (by walk_at "dk")) Pu P0) AI (by trivial)) (by trivial)) (fun cl fp s3 H3=>(@Ax _ _ 0 _ JE rfl (Ba (by walk_at "dk")) (Or.inr (Bf (by walk_at "dk"))))) (fun cl fp s3 H3=>Ep) (fun cl fp s3 H3=>(@AX _ _ _ _ _ _ _ AW (@pv _ 1 _ _ rfl (Bk (by walk_at "dk")) KB KC) (@AU _ _ _ _ _ _ _ _ _ _ C_L_digit hr (IF (by walk_at "dk")) (@AC _ _ _ _ _ (@pv _ 2 _ _ rfl (Bk (by walk_at "dk")) Af Ag) (@AC _ _ _ _ _ (@pv _ 3 _ _ rfl (Bk (by walk_at "dk")) Dv Dx) AI (by trivial)) (by trivial)) BK (by trivial) (by trivial)) (fun _ _=>rfl))) (by trivial))) (by trivial)))))),DV (N:=["_law_rest","_law_w","_law_h","_law_many","_law_shades"]) (np:=3) (nl:=2) (Av (De (AZ Fr AL (Ce (i:=0) (AF AL AM))) Ak) (Av (De (XR (LA (AF (C2 (AF AL (AF AL AM))) (AF (C2 (AF AL (AF AL AM))) (AF (C2 (AF AL (AF AL AM))) (AF (C2 (AF AL (AF AL AM))) AM))))) Wm (XI AH)) Ak) (C3 (VD (f1:=[4]) (j0:=0) (f2:=[3,1]) (Cv (AF AH AM)) Ak Jm (VD (f1:=[1]) (j0:=2) (f2:=[3]) (Cv (AF AH AM)) Ak Jm (AZ BO AH (Ce (i:=2) (AF AH AM))))) (by decide)))) rfl h⟩
theorem NP(F:Fun K "_law_near_by" "_law_near_by" Aj f fd)(C_L_digit:Cal P w K mg base 1 "_law_digit" ["_law_rest","_law_many"] (spD ⟨K,w⟩ Ah false))(z_list:mg "list"=none)(z_range:mg "range"=none)(z_len:mg "len"=none):FnOk P w K mg base CX0 2 f fd ["_law_rest","_law_picture"] (spD ⟨K,w⟩ DJ true):=by
 have nd:=sc_L_near_by.nd
 refine F.ok sc_L_near_by (fun vs H Q E h=>DW BC h) (fun cdv A outer s H vs Q E hr h=>?_)
 exact⟨_,(@AK _ _ _ _ _ (@IK _ ["_law_line"] 1 [] _ _ _ _ _ _ _ _ _ _ 2 _ _ _ nd rfl Lm rfl (@GT _ ["_law_line"] 1 [] _ ["_law_rest","_law_picture","_law_made","_law_k","_law_x"] (AB Aj) rfl rfl (by walk_at "dk")) (@EE _ _ _ _ (@pv _ 1 _ _ rfl E9 BV BW)) (fun cl fp s3 H3=>(@Ax _ _ 0 _ Ld rfl (Ba (by walk_at "dk")) (Or.inr (Bf (by walk_at "dk"))))) (fun cl fp s3 H3=>Ep) (fun cl fp s3 H3=>(@I0 _ _ _ _ _ _ _ _ _ Ik (IF (by walk_at "dk")) z_list PySem.Pv.boot_list (@AC _ _ _ _ _ (@pv _ 0 _ _ rfl (BM (by walk_at "dk")) HU HZ) AI (by trivial)) GQ Gf (by trivial) (by trivial))) (by trivial) (by trivial)) (@AK _ _ _ _ _ (@EO _ _ _ _ _ _ _ _ PassesOwn.never rfl (@Cs _ _ _ _ _ _ IZ z_range (@AC _ _ _ _ _ (@AU _ _ _ _ _ _ _ _ _ _ C_L_digit hr Bi (@AC _ _ _ _ _ (@pv _ 0 _ _ rfl Dr Af Ag) (@AC _ _ _ _ _ AJ AI (by trivial)) (by trivial)) BK (by trivial) (by trivial)) AI (by trivial)) (by trivial)) (@Ax _ _ 3 _ nd rfl Lg (by trivial)) (@AK _ _ _ _ _ (@BU _ _ 4 _ _ _ _ nd rfl HP (@AU _ _ _ _ _ _ _ _ _ _ C_L_digit hr Bi (@AC _ _ _ _ _ (@pv _ 0 _ _ rfl Dr Af Ag) (@AC _ _ _ _ _ (@A6 _ _ _ _ _ _ _ _ _ B0 Ft z_len PySem.boot_len (@AC _ _ _ _ _ (@AX _ _ _ _ _ _ _ AW (@pv _ 1 _ _ rfl E9 BV BW) AJ (fun _ _=>rfl)) AI (by trivial)) Cd Cf (by trivial) (by trivial)) AI (by trivial)) (by trivial)) BK (by trivial) (by trivial)) (by trivial) (by trivial)) (@AV _ _ _ (@Ix _ _ _ _ _ _ (@AX _ _ _ _ _ _ _ AW (@DN _ _ _ _ (@AC _ _ _ _ _ (@Bh _ _ _ _ _ (@AC _ _ _ _ _ AJ (@AC _ _ _ _ _ AJ AI (by trivial)) (by trivial))) (@AC _ _ _ _ _ (@Bh _ _ _ _ _ (@AC _ _ _ _ _ AJ (@AC _ _ _ _ _ AJ AI (by trivial)) (by trivial))) (@AC _ _ _ _ _ (@Bh _ _ _ _ _ (@AC _ _ _ _ _ AJ (@AC _ _ _ _ _ AJ AI (by trivial)) (by trivial))) AI (by trivial)) (by trivial)) (by trivial))) (@AU _ _ _ _ _ _ _ _ _ _ C_L_digit hr Bi (@AC _ _ _ _ _ (@pv _ 0 _ _ rfl Dr Af Ag) (@AC _ _ _ _ _ AJ AI (by trivial)) (by trivial)) BK (by trivial) (by trivial)) (fun _ _=>rfl)) (@Iz _ _ _ _ _ _ _ (@AX _ _ _ _ _ _ _ AW (@pv _ 2 _ _ rfl HJ HS HY) (@AU _ _ _ _ _ _ _ _ _ _ C_L_digit hr Bi (@AC _ _ _ _ _ (@pv _ 0 _ _ rfl Dr Af Ag) (@AC _ _ _ _ _ (@A6 _ _ _ _ _ _ _ _ _ B0 Ft z_len PySem.boot_len (@AC _ _ _ _ _ (@pv _ 1 _ _ rfl E9 BV BW) AI (by trivial)) Cd Cf (by trivial) (by trivial)) AI (by trivial)) (by trivial)) BK (by trivial) (by trivial)) (fun _ _=>rfl)) (@pv _ 4 _ _ rfl LW CK CM) ID (by trivial)) (by trivial) (by trivial) (by trivial)))) (by trivial)) (@AV _ _ _ (@BE _ _ _ _ (@pv _ 2 _ _ rfl HJ HS HY))))),DV (N:=["_law_rest","_law_picture","_law_made","_law_k","_law_x"]) (np:=2) (nl:=3) (Av (P4 (VC (E2 AH) Ak Jm (Qm (ET TM (AF AH AM))))) (Av (Il (Cv (AF (Ce (i:=0) (AF AL AM)) AM)) Ak (Av (De (Ce (i:=0) (AF (ET Fg (AF (AZ BO AH AL) AM)) AM)) Ak) (Ui (i:=2) (AZ BO (LA (AF (C2 (AF AL (AF AL AM))) (AF (C2 (AF AL (AF AL AM))) (AF (C2 (AF AL (AF AL AM))) AM)))) (Ce (i:=0) (AF AL AM))) (Ce (i:=0) (AF (ET Fg (AF AH AM)) AM)) AH))) (TU (i:=2)))) rfl h⟩
theorem NO(F:Fun K "_law_next_by" "_law_next_by" A7 f fd)(C_L_digit:Cal P w K mg base 2 "_law_digit" ["_law_rest","_law_many"] (spD ⟨K,w⟩ Ah false))(C_L_picture_by:Cal P w K mg base 2 "_law_picture_by" ["_law_rest","_law_w","_law_h"] (spD ⟨K,w⟩ BZ true))(C_L_near_by:Cal P w K mg base 2 "_law_near_by" ["_law_rest","_law_picture"] (spD ⟨K,w⟩ DJ true))(z_len:mg "len"=none):FnOk P w K mg base CX0 3 f fd ["_law_rest","_law_picture"] (spD ⟨K,w⟩ Ck true):=by
 have nd:=sc_L_next_by.nd
 refine F.ok sc_L_next_by (fun vs H Q E h=>DW BC h) (fun cdv A outer s H vs Q E hr h=>?_)
 exact⟨_,(@AK _ _ _ _ _ (@EN _ _ _ _ _ _ _ _ (@Bv _ _ _ _ _ _ _ _ (@NN _ (Eg hr)) (@AU _ _ _ _ _ _ _ _ _ _ C_L_digit hr Fp (@AC _ _ _ _ _ (@pv _ 0 _ _ rfl E8 Af Ag) (@AC _ _ _ _ _ AJ AI (by trivial)) (by trivial)) BK (by trivial) (by trivial)) AJ (CZ _)) (@AV _ _ _ (@BE _ _ _ _ (@AU _ _ _ _ _ _ _ _ _ _ C_L_picture_by hr EF (@AC _ _ _ _ _ (@pv _ 0 _ _ rfl E8 Af Ag) (@AC _ _ _ _ _ (@A6 _ _ _ _ _ _ _ _ _ B0 Fs z_len PySem.boot_len (@AC _ _ _ _ _ (@AX _ _ _ _ _ _ _ AW (@pv _ 1 _ _ rfl E7 BV BW) AJ (fun _ _=>rfl)) AI (by trivial)) Cd Cf (by trivial) (by trivial)) (@AC _ _ _ _ _ (@A6 _ _ _ _ _ _ _ _ _ B0 Fs z_len PySem.boot_len (@AC _ _ _ _ _ (@pv _ 1 _ _ rfl E7 BV BW) AI (by trivial)) Cd Cf (by trivial) (by trivial)) AI (by trivial)) (by trivial)) (by trivial)) EC (by trivial) (by trivial)))) Cr) (@AV _ _ _ (@BE _ _ _ _ (@AU _ _ _ _ _ _ _ _ _ _ C_L_near_by hr FC (@AC _ _ _ _ _ (@pv _ 0 _ _ rfl E8 Af Ag) (@AC _ _ _ _ _ (@pv _ 1 _ _ rfl E7 BV BW) AI (by trivial)) (by trivial)) JY (by trivial) (by trivial))))),DV (N:=["_law_rest","_law_picture"]) (np:=2) (nl:=0) (Av (Hq (CY (AZ T8 (Ce (i:=0) (AF AL AM)) AL)) (C3 (Ce (i:=0) (AF (ET Fg (AF (AZ BO AH AL) AM)) (AF (ET Fg (AF AH AM)) AM))) (by decide)) Fh) (C3 (Ce (i:=0) (AF AH AM)) (by decide))) rfl h⟩
theorem JB(F:Fun K "changed_cells" "changed_cells" Aa f fd)(z_enumerate:mg "enumerate"=none):FnOk P w K mg base CX0 1 f fd ["one","other"] (spD ⟨K,w⟩ Bc true):=by
 have nd:=sc_changed_cells.nd
 refine F.ok sc_changed_cells (fun vs H Q E h=>DW BC h) (fun cdv A outer s H vs Q E hr h=>?_)
 exact⟨_,(@AK _ _ _ _ _ (@BU _ _ 2 _ _ _ _ nd rfl Ex (@DN _ _ _ _ AI) (by trivial) (by trivial)) (@AK _ _ _ _ _ (@EO _ _ _ _ _ _ _ _ PassesOwn.never rfl (@QI _ _ _ _ _ _ _ _ C1 z_enumerate (@AC _ _ _ _ _ (@pv _ 0 _ _ rfl Hy Nu Ny) AI (by trivial)) HN HR (by trivial)) (@Iy _ _ _ _ _ _ rfl (@B6 _ _ _ _ _ (@Ax _ _ 3 _ nd rfl IU (by trivial)) (@B6 _ _ _ _ _ (@Ax _ _ 4 _ nd rfl Ew (by trivial)) Gx (by trivial)) (by trivial)) (by trivial) (by trivial)) (@AV _ _ _ (@Dt _ _ _ _ (@Kl _ _ _ _ _ _ _ _ _ _ _ _ PySem.F.plainAttrs_list PySem.F.slot_list_extend PySem.F.type_list_extend RO (@pv _ 2 _ _ rfl En Fb Ff) (@AC _ _ _ _ _ (@Kk _ ["x","shade","y","other"] 2 [3,1] _ _ _ _ _ _ _ _ _ _ rfl (@GT _ ["x","shade","y","other"] 2 [3,1] _ ["one","other","cells","y","row"] (AB Aa) rfl rfl (by walk_at "dk")) (@QI _ _ _ _ _ _ _ _ C1 z_enumerate (@AC _ _ _ _ _ (@pv _ 4 _ _ rfl Hw UW Ub) AI (by trivial)) HN HR (by trivial)) (fun cl fp s3 H3=>(@Iy _ _ _ _ _ _ rfl (@B6 _ _ _ _ _ (@Ax _ _ 0 _ Er rfl (Ba (by walk_at "dk")) (Or.inr (Bf (by walk_at "dk")))) (@B6 _ _ _ _ _ (@Ax _ _ 1 _ Er rfl (Ba (by walk_at "dk")) (Or.inr (Bf (by walk_at "dk")))) Gx (by trivial)) (by trivial)) (by trivial) (by trivial))) (fun cl fp s3 H3=>(@NK _ _ _ (@Bv _ _ _ _ _ _ _ _ (@EQ _ (Eg hr)) (@pv _ 1 _ _ rfl (BM (by walk_at "dk")) Ri Ru) (@AX _ _ _ _ _ _ _ AW (@AX _ _ _ _ _ _ _ AW (@pv _ 3 _ _ rfl (Bk (by walk_at "dk")) JX Jd) (@pv _ 2 _ _ rfl (Bk (by walk_at "dk")) Ga Gm) (fun _ _=>rfl)) (@pv _ 0 _ _ rfl (BM (by walk_at "dk")) Gb Gn) (fun _ _=>rfl)) (CZ _)))) (fun cl fp s3 H3=>(@Bh _ _ _ _ _ (@AC _ _ _ _ _ (@pv _ 0 _ _ rfl (BM (by walk_at "dk")) Gb Gn) (@AC _ _ _ _ _ (@pv _ 2 _ _ rfl (Bk (by walk_at "dk")) Ga Gm) AI (by trivial)) (by trivial)))) (by trivial)) AI (by trivial)) (by trivial) (by trivial) (by trivial) (by trivial) (by trivial)) (by trivial))) (by trivial)) (@AV _ _ _ (@BE _ _ _ _ (@pv _ 2 _ _ rfl En Fb Ff))))),DV (N:=["one","other","cells","y","row"]) (np:=2) (nl:=3) (Av VL (Av (WG (Qd AH) (MX (Cw Ak (Cw Ak JQ)) (B8 (B8 G7))) (TZ (W4 (i:=2) Se (AF (W5 (Qd AH) (MX (Cw Ak (Cw Ak JQ)) (B8 (B8 G7))) (CY (AZ Kp AH (AZ BO (AZ BO AH AH) AH))) (C2 (AF AH (AF AH AM)))) AM)))) (TR (i:=2)))) rfl h⟩
theorem Lb(F:Fun K "row_by_row" "row_by_row" Aw f fd)(z_set:mg "set"=none)(z_sorted:mg "sorted"=none):FnOk P w K mg base CX0 1 f fd ["cells"] (spD ⟨K,w⟩ Ct true):=by
 have nd:=sc_row_by_row.nd
 refine F.ok sc_row_by_row (fun vs H Q E h=>DW BC h) (fun cdv A outer s H vs Q E hr h=>?_)
 exact⟨_,(@AK _ _ _ _ _ (@BU _ _ 1 _ _ _ _ nd rfl GS (@A6 _ _ _ _ _ _ _ _ _ (@P3 _ rfl) HE z_sorted PyProof.Rows.boot_sorted (@AC _ _ _ _ _ (@I0 _ _ _ _ _ _ _ _ _ (@Rv _ rfl (Eg hr)) JR z_set PySem.Pv.boot_set (@AC _ _ _ _ _ (@Kk _ ["x","y"] 2 [] _ _ _ _ _ _ _ _ _ _ rfl (@GT _ ["x","y"] 2 [] _ ["cells","turned"] (AB Aw) rfl rfl (by walk_at "dk")) (@EE _ _ _ _ (@pv _ 0 _ _ rfl KS Fb Ff)) (fun cl fp s3 H3=>(@Iy _ _ _ _ _ _ rfl (@B6 _ _ _ _ _ (@Ax _ _ 0 _ GP rfl (Ba (by walk_at "dk")) (Or.inr (Bf (by walk_at "dk")))) (@B6 _ _ _ _ _ (@Ax _ _ 1 _ GP rfl (Ba (by walk_at "dk")) (Or.inr (Bf (by walk_at "dk")))) Gx (by trivial)) (by trivial)) (by trivial) (by trivial))) (fun cl fp s3 H3=>Ep) (fun cl fp s3 H3=>(@Bh _ _ _ _ _ (@AC _ _ _ _ _ (@pv _ 1 _ _ rfl (BM (by walk_at "dk")) Ga Gm) (@AC _ _ _ _ _ (@pv _ 0 _ _ rfl (BM (by walk_at "dk")) Gb Gn) AI (by trivial)) (by trivial)))) (by trivial)) AI (by trivial)) UA UV (by trivial) (by trivial)) AI (by trivial)) Pg Pt (by trivial) (by trivial)) (by trivial) (by trivial)) (@AV _ _ _ (@BE _ _ _ _ (@Kk _ ["y","x"] 2 [] _ _ _ _ _ _ _ _ _ _ rfl (@GT _ ["y","x"] 2 [] _ ["cells","turned"] (AB Aw) rfl rfl (by walk_at "dk")) (@EE _ _ _ _ (@pv _ 1 _ _ rfl KR Ps Pz)) (fun cl fp s3 H3=>(@Iy _ _ _ _ _ _ rfl (@B6 _ _ _ _ _ (@Ax _ _ 0 _ GO rfl (Ba (by walk_at "dk")) (Or.inr (Bf (by walk_at "dk")))) (@B6 _ _ _ _ _ (@Ax _ _ 1 _ GO rfl (Ba (by walk_at "dk")) (Or.inr (Bf (by walk_at "dk")))) Gx (by trivial)) (by trivial)) (by trivial) (by trivial))) (fun cl fp s3 H3=>Ep) (fun cl fp s3 H3=>(@Bh _ _ _ _ _ (@AC _ _ _ _ _ (@pv _ 1 _ _ rfl (BM (by walk_at "dk")) Gb Gn) (@AC _ _ _ _ _ (@pv _ 0 _ _ rfl (BM (by walk_at "dk")) Ga Gm) AI (by trivial)) (by trivial)))) (by trivial))))),DV (N:=["cells","turned"]) (np:=1) (nl:=1) (Av (De (XQ (Re (E2 AH) (MX (Cw Ak (Cw Ak JQ)) (B8 (B8 G7))) Jm (C2 (AF AH (AF AH AM))))) Ak) (C3 (Re (E2 AH) (MX (Cw Ak (Cw Ak JQ)) (B8 (B8 G7))) Jm (C2 (AF AH (AF AH AM)))) (by decide))) rfl h⟩
theorem PZ(F:Fun K "is_next" "is_next" CT f fd):FnOk P w K mg base CX0 1 f fd ["stretch","cell"] (spD ⟨K,w⟩ B7 false):=by
 have nd:=sc_is_next.nd
 refine F.ok sc_is_next (fun vs H Q E h=>DW BC h) (fun cdv A outer s H vs Q E hr h=>?_)
 exact⟨_,(@AV _ _ _ (@BE _ _ _ _ (@Tx _ _ _ _ _ _ _ _ (@NN _ (Eg hr)) (@pv _ 1 _ _ rfl N4 EU Eb) (@Bh _ _ _ _ _ (@AC _ _ _ _ _ (@CG _ _ _ _ _ _ _ _ D9 (@AX _ _ _ _ _ _ _ Bn (@pv _ 0 _ _ rfl GD Gc Go) AJ (fun _ _=>rfl)) (@AX _ _ _ _ _ _ _ Bn (@pv _ 0 _ _ rfl GD Gc Go) AJ (fun _ _=>rfl))) (@AC _ _ _ _ _ (@AX _ _ _ _ _ _ _ Bn (@pv _ 0 _ _ rfl GD Gc Go) AJ (fun _ _=>rfl)) AI (by trivial)) (by trivial))) (CZ _)))),DV (N:=["stretch","cell"]) (np:=2) (nl:=0) (C3 (AZ T8 AH (C2 (AF (AZ Fr (AZ DQ AH AL) (AZ DQ AH AL)) (AF (AZ DQ AH AL) AM)))) (by decide)) rfl h⟩
theorem J4(F:Fun K "stretches_of" "stretches_of" AY f fd)(C_row_by_row:Cal P w K mg base 1 "row_by_row" ["cells"] (spD ⟨K,w⟩ Ct true))(C_is_next:Cal P w K mg base 1 "is_next" ["stretch","cell"] (spD ⟨K,w⟩ B7 false))(z_len:mg "len"=none):FnOk P w K mg base CX0 2 f fd ["cells"] (spD ⟨K,w⟩ Bm true):=by
 have nd:=sc_stretches_of.nd
 refine F.ok sc_stretches_of (fun vs H Q E h=>DW BC h) (fun cdv A outer s H vs Q E hr h=>?_)
 exact⟨_,(@AK _ _ _ _ _ (@BU _ _ 1 _ _ _ _ nd rfl FQ (@DN _ _ _ _ AI) (by trivial) (by trivial)) (@AK _ _ _ _ _ (@EO _ _ _ _ _ _ _ _ PassesOwn.never rfl (@EE _ _ _ _ (@AU _ _ _ _ _ _ _ _ _ _ C_row_by_row hr Eh (@AC _ _ _ _ _ (@pv _ 0 _ _ rfl Ip Fb Ff) AI (by trivial)) LE (by trivial) (by trivial))) (@Ax _ _ 2 _ nd rfl FP (by trivial)) (@AV _ _ _ (@EN _ _ _ _ _ _ _ _ (@PW.pt _ _ _ (@PQ _ _ _ _ _ _ _ (@Bv _ _ _ _ _ _ _ _ Wj (@A6 _ _ _ _ _ _ _ _ _ B0 Hl z_len PySem.boot_len (@AC _ _ _ _ _ (@pv _ 1 _ _ rfl Bj CV CW) AI (by trivial)) Cd Cf (by trivial) (by trivial)) AJ (CZ _)) (@QD _ _ _ _ (@Dj _ _ _ (@AU _ _ _ _ _ _ _ _ _ _ C_is_next hr Fo (@AC _ _ _ _ _ (@AX _ _ _ _ _ _ _ AW (@pv _ 1 _ _ rfl Bj CV CW) (@Jn _ _ _ _ _ _ GG AJ) (fun _ _=>rfl)) (@AC _ _ _ _ _ (@pv _ 2 _ _ rfl Dg EU Eb) AI (by trivial)) (by trivial)) Op (by trivial) (by trivial)) (by trivial))))) (@AK _ _ _ _ _ (@BU _ _ 3 _ _ _ _ nd rfl FO (@AX _ _ _ _ _ _ _ AW (@pv _ 1 _ _ rfl Bj CV CW) (@Jn _ _ _ _ _ _ GG AJ) (fun _ _=>rfl)) (by trivial) (by trivial)) (@AV _ _ _ (@Ix _ _ _ _ _ _ (@Bh _ _ _ _ _ (@AC _ _ _ _ _ (@AX _ _ _ _ _ _ _ Bn (@pv _ 3 _ _ rfl Df LF LQ) AJ (fun _ _=>rfl)) (@AC _ _ _ _ _ (@AX _ _ _ _ _ _ _ Bn (@pv _ 3 _ _ rfl Df LF LQ) AJ (fun _ _=>rfl)) (@AC _ _ _ _ _ (@CG _ _ _ _ _ _ _ _ D9 (@AX _ _ _ _ _ _ _ Bn (@pv _ 3 _ _ rfl Df LF LQ) AJ (fun _ _=>rfl)) AJ) AI (by trivial)) (by trivial)) (by trivial))) (@Iz _ _ _ _ _ _ _ (@pv _ 1 _ _ rfl Bj CV CW) (@Jn _ _ _ _ _ _ GG AJ) ID (by trivial)) (by trivial) (by trivial) (by trivial)))) (@AV _ _ _ (@Dt _ _ _ _ (@Kl _ _ _ _ _ _ _ _ _ _ _ _ PySem.F.plainAttrs_list PySem.F.slot_list_append PySem.F.type_list_append Dk (@pv _ 1 _ _ rfl Bj CV CW) (@AC _ _ _ _ _ (@Bh _ _ _ _ _ (@AC _ _ _ _ _ (@AX _ _ _ _ _ _ _ Bn (@pv _ 2 _ _ rfl Dg EU Eb) AJ (fun _ _=>rfl)) (@AC _ _ _ _ _ (@AX _ _ _ _ _ _ _ Bn (@pv _ 2 _ _ rfl Dg EU Eb) AJ (fun _ _=>rfl)) (@AC _ _ _ _ _ AJ AI (by trivial)) (by trivial)) (by trivial))) AI (by trivial)) (by trivial) (by trivial) (by trivial) (by trivial) (by trivial)) (by trivial))))) (by trivial)) (@AV _ _ _ (@BE _ _ _ _ (@pv _ 1 _ _ rfl Bj CV CW))))),DV (N:=["cells","stretches","cell","last"]) (np:=1) (nl:=3) (Av VL (Av (Il (E2 (EB (AF AH AM))) Ak (Hq (WV (i:=1) (R3 (CY (AZ XL (ET Fg (AF AH AM)) AL)) (FK (EB (AF (AZ BO AH (Om Jl AL)) (AF AH AM)))))) (Av (De (TB (i:=1) (AZ BO AH (Om Jl AL))) Ak) (TQ (i:=1) (C2 (AF (AZ DQ AH AL) (AF (AZ DQ AH AL) (AF (AZ Fr (AZ DQ AH AL) AL) AM)))) (Om Jl AL))) (TZ (W4 (i:=1) Sf (AF (C2 (AF (AZ DQ AH AL) (AF (AZ DQ AH AL) (AF AL AM)))) AM))))) (TR (i:=1)))) rfl h⟩
theorem OI(F:Fun K "frame_of" "frame_of" AS f fd)(C_stretches_of:Cal P w K mg base 2 "stretches_of" ["cells"] (spD ⟨K,w⟩ Bm true))(z_range:mg "range"=none):FnOk P w K mg base CX0 3 f fd ["olds","news"] (spG ⟨K,w⟩ Cj):=by
 have nd:=sc_frame_of.nd
 refine F.ok sc_frame_of (fun vs H Q E h=>Nq BC h) (fun cdv A outer s H vs Q E hr h=>?_)
 exact⟨_,(@AK _ _ _ _ _ (@IK _ ["cell","olds","news"] 1 [0,1] _ _ _ _ _ _ _ _ _ _ 2 _ _ _ nd rfl Nc rfl (@GT _ ["cell","olds","news"] 1 [0,1] _ ["olds","news","cells","frame","x","y","many","old","new"] (AB AS) rfl rfl (by walk_at "dk")) (Tw (@pv _ 0 _ _ rfl NA Ge Gp)) (fun cl fp s3 H3=>(@Ax _ _ 0 _ NT rfl (Ba (by walk_at "dk")) (Or.inr (Bf (by walk_at "dk"))))) (fun cl fp s3 H3=>(@NK _ _ _ (@Bv _ _ _ _ _ _ _ _ (@EQ _ (Eg hr)) (@AX _ _ _ _ _ _ _ (@KL _ (Eg hr)) (@pv _ 1 _ _ rfl (Bk (by walk_at "dk")) Ge Gp) (@pv _ 0 _ _ rfl (BM (by walk_at "dk")) EU Eb) (fun _ _=>rfl)) (@AX _ _ _ _ _ _ _ (@KL _ (Eg hr)) (@pv _ 2 _ _ rfl (Bk (by walk_at "dk")) Ic Ij) (@pv _ 0 _ _ rfl (BM (by walk_at "dk")) EU Eb) (fun _ _=>rfl)) (CZ _)))) (fun cl fp s3 H3=>(@pv _ 0 _ _ rfl (BM (by walk_at "dk")) EU Eb)) (by trivial) (by trivial)) (@AK _ _ _ _ _ (@BU _ _ 3 _ _ _ _ nd rfl IQ (@DN _ _ _ _ AI) (by trivial) (by trivial)) (@AK _ _ _ _ _ (@EO _ _ _ _ _ _ _ _ PassesOwn.never rfl (@EE _ _ _ _ (@AU _ _ _ _ _ _ _ _ _ _ C_stretches_of hr FY (@AC _ _ _ _ _ (@pv _ 2 _ _ rfl M9 Fb Ff) AI (by trivial)) JW (by trivial) (by trivial))) (@Iy _ _ _ _ _ _ rfl (@B6 _ _ _ _ _ (@Ax _ _ 4 _ nd rfl IP (by trivial)) (@B6 _ _ _ _ _ (@Ax _ _ 5 _ nd rfl IN (by trivial)) (@B6 _ _ _ _ _ (@Ax _ _ 6 _ nd rfl IM (by trivial)) Gx (by trivial)) (by trivial)) (by trivial)) (by trivial) (by trivial)) (@AK _ _ _ _ _ (@IK _ ["step","olds","y","x"] 1 [0,5,4] _ _ _ _ _ _ _ _ _ _ 7 _ _ _ nd rfl Nb rfl (@GT _ ["step","olds","y","x"] 1 [0,5,4] _ ["olds","news","cells","frame","x","y","many","old","new"] (AB AS) rfl rfl (by walk_at "dk")) (@Cs _ _ _ _ _ _ FZ z_range (@AC _ _ _ _ _ (@pv _ 6 _ _ rfl Hu Oo O0) AI (by trivial)) (by trivial)) (fun cl fp s3 H3=>(@Ax _ _ 0 _ NS rfl (Ba (by walk_at "dk")) (Or.inr (Bf (by walk_at "dk"))))) (fun cl fp s3 H3=>Ep) (fun cl fp s3 H3=>(@AX _ _ _ _ _ _ _ (@KL _ (Eg hr)) (@pv _ 1 _ _ rfl (Bk (by walk_at "dk")) Ge Gp) (@Bh _ _ _ _ _ (@AC _ _ _ _ _ (@CG _ _ _ _ _ _ _ _ D9 (@pv _ 3 _ _ rfl (Bk (by walk_at "dk")) Gb Gn) (@pv _ 0 _ _ rfl (BM (by walk_at "dk")) On Oz)) (@AC _ _ _ _ _ (@pv _ 2 _ _ rfl (Bk (by walk_at "dk")) Ga Gm) AI (by trivial)) (by trivial))) (fun _ _=>rfl))) (by trivial) (by trivial)) (@AK _ _ _ _ _ (@IK _ ["step","news","y","x"] 1 [1,5,4] _ _ _ _ _ _ _ _ _ _ 8 _ _ _ nd rfl Na rfl (@GT _ ["step","news","y","x"] 1 [1,5,4] _ ["olds","news","cells","frame","x","y","many","old","new"] (AB AS) rfl rfl (by walk_at "dk")) (@Cs _ _ _ _ _ _ FZ z_range (@AC _ _ _ _ _ (@pv _ 6 _ _ rfl Hu Oo O0) AI (by trivial)) (by trivial)) (fun cl fp s3 H3=>(@Ax _ _ 0 _ NR rfl (Ba (by walk_at "dk")) (Or.inr (Bf (by walk_at "dk"))))) (fun cl fp s3 H3=>Ep) (fun cl fp s3 H3=>(@AX _ _ _ _ _ _ _ (@KL _ (Eg hr)) (@pv _ 1 _ _ rfl (Bk (by walk_at "dk")) Ic Ij) (@Bh _ _ _ _ _ (@AC _ _ _ _ _ (@CG _ _ _ _ _ _ _ _ D9 (@pv _ 3 _ _ rfl (Bk (by walk_at "dk")) Gb Gn) (@pv _ 0 _ _ rfl (BM (by walk_at "dk")) On Oz)) (@AC _ _ _ _ _ (@pv _ 2 _ _ rfl (Bk (by walk_at "dk")) Ga Gm) AI (by trivial)) (by trivial))) (fun _ _=>rfl))) (by trivial) (by trivial)) (@AV _ _ _ (@Dt _ _ _ _ (@Kl _ _ _ _ _ _ _ _ _ _ _ _ PySem.F.plainAttrs_list PySem.F.slot_list_append PySem.F.type_list_append Dk (@pv _ 3 _ _ rfl Hv Ml Mq) (@AC _ _ _ _ _ (@Bh _ _ _ _ _ (@AC _ _ _ _ _ (@pv _ 4 _ _ rfl M8 Gb Gn) (@AC _ _ _ _ _ (@pv _ 5 _ _ rfl M7 Ga Gm) (@AC _ _ _ _ _ (@pv _ 7 _ _ rfl M6 UX Uc) (@AC _ _ _ _ _ (@pv _ 8 _ _ rfl M5 UY Ud) AI (by trivial)) (by trivial)) (by trivial)) (by trivial))) AI (by trivial)) (by trivial) (by trivial) (by trivial) (by trivial) (by trivial)) (by trivial))))) (by trivial)) (@AV _ _ _ (@BE _ _ _ _ (@pv _ 3 _ _ rfl Hv Ml Mq)))))),Qk (N:=["olds","news","cells","frame","x","y","many","old","new"]) (np:=2) (nl:=7) (Je (W9 (Re (UJ AH) Ak (CY (AZ Kp (AZ QL AH AH) (AZ QL AH AH))) AH)) (Je (Jg (K9 Jh)) (Je (Il (E2 (EB (AF AH AM))) (MX (Cw Ak (Cw Ak (Cw Ak JQ))) (B8 (B8 (B8 G7)))) (Av (P4 (Qm (Re (Cv (AF AH AM)) Ak Jm (AZ QL AH (C2 (AF (AZ Fr AH AH) (AF AH AM))))))) (Av (P4 (Qm (Re (Cv (AF AH AM)) Ak Jm (AZ QL AH (C2 (AF (AZ Fr AH AH) (AF AH AM))))))) (Uj (i:=3) (j1:=7) (j2:=8) AH AH)))) (Uh (i:=3))))) rfl h⟩
theorem JA(F:Fun K "frame_between" "frame_between" AN f fd)(C_changed_cells:Cal P w K mg base 3 "changed_cells" ["one","other"] (spD ⟨K,w⟩ Bc true))(C_frame_of:Cal P w K mg base 3 "frame_of" ["olds","news"] (spG ⟨K,w⟩ Cj)):FnOk P w K mg base CX0 4 f fd ["one","other"] (spG ⟨K,w⟩ Aq):=by
 have nd:=sc_frame_between.nd
 refine F.ok sc_frame_between (fun vs H Q E h=>Nq BC h) (fun cdv A outer s H vs Q E hr h=>?_)
 exact⟨_,(@AK _ _ _ _ _ (@BU _ _ 2 _ _ _ _ nd rfl Ev QJ (by trivial) (by trivial)) (@AK _ _ _ _ _ (@BU _ _ 3 _ _ _ _ nd rfl Eu QJ (by trivial) (by trivial)) (@AK _ _ _ _ _ (@EO _ _ _ _ _ _ _ _ PassesOwn.never rfl (@EE _ _ _ _ (@AU _ _ _ _ _ _ _ _ _ _ C_changed_cells hr D3 (@AC _ _ _ _ _ (@pv _ 0 _ _ rfl Em Nu Ny) (@AC _ _ _ _ _ (@pv _ 1 _ _ rfl El JX Jd) AI (by trivial)) (by trivial)) Ie (by trivial) (by trivial))) (@Iy _ _ _ _ _ _ rfl (@B6 _ _ _ _ _ (@Ax _ _ 4 _ nd rfl Et (by trivial)) (@B6 _ _ _ _ _ (@Ax _ _ 5 _ nd rfl Es (by trivial)) Gx (by trivial)) (by trivial)) (by trivial) (by trivial)) (@AK _ _ _ _ _ (@Ix _ _ _ _ _ _ (@AX _ _ _ _ _ _ _ AW (@AX _ _ _ _ _ _ _ AW (@pv _ 0 _ _ rfl Em Nu Ny) (@pv _ 5 _ _ rfl Cb Ga Gm) (fun _ _=>rfl)) (@pv _ 4 _ _ rfl Cc Gb Gn) (fun _ _=>rfl)) (@Iz _ _ _ _ _ _ _ (@pv _ 2 _ _ rfl Ek Ge Gp) (@Bh _ _ _ _ _ (@AC _ _ _ _ _ (@pv _ 4 _ _ rfl Cc Gb Gn) (@AC _ _ _ _ _ (@pv _ 5 _ _ rfl Cb Ga Gm) AI (by trivial)) (by trivial))) (@N9 _ (Eg hr)) (by trivial)) (by trivial) (by trivial) (by trivial)) (@AV _ _ _ (@Ix _ _ _ _ _ _ (@AX _ _ _ _ _ _ _ AW (@AX _ _ _ _ _ _ _ AW (@pv _ 1 _ _ rfl El JX Jd) (@pv _ 5 _ _ rfl Cb Ga Gm) (fun _ _=>rfl)) (@pv _ 4 _ _ rfl Cc Gb Gn) (fun _ _=>rfl)) (@Iz _ _ _ _ _ _ _ (@pv _ 3 _ _ rfl Ej Ic Ij) (@Bh _ _ _ _ _ (@AC _ _ _ _ _ (@pv _ 4 _ _ rfl Cc Gb Gn) (@AC _ _ _ _ _ (@pv _ 5 _ _ rfl Cb Ga Gm) AI (by trivial)) (by trivial))) (@N9 _ (Eg hr)) (by trivial)) (by trivial) (by trivial) (by trivial)))) (by trivial)) (@AV _ _ _ (@BE _ _ _ _ (@AU _ _ _ _ _ _ _ _ _ _ C_frame_of hr FB (@AC _ _ _ _ _ (@pv _ 2 _ _ rfl Ek Ge Gp) (@AC _ _ _ _ _ (@pv _ 3 _ _ rfl Ej Ic Ij) AI (by trivial)) (by trivial)) Nv (by trivial) (by trivial))))))),Qk (N:=["one","other","olds","news","x","y"]) (np:=2) (nl:=4) (Je TY (Je TY (Je (Il (E2 (EB (AF AH (AF AH AM)))) (MX (Cw Ak (Cw Ak JQ)) (B8 (B8 G7))) (Av (TV (i:=2) (AZ BO (AZ BO AH AH) AH) (C2 (AF AH (AF AH AM)))) (TV (i:=3) (AZ BO (AZ BO AH AH) AH) (C2 (AF AH (AF AH AM)))))) (Qw (i:=3) (Qw (i:=2) (WC (C7 (AF AH (AF AH AM))))))))) rfl h⟩
theorem Pa(F:Fun K "_law_frame" "_law_frame" A8 f fd)(z_len:mg "len"=none)(z_range:mg "range"=none):FnOk P w K mg base CX0 1 f fd ["_law_one","_law_other"] (spD ⟨K,w⟩ Cu true):=by
 have nd:=sc_L_frame.nd
 refine F.ok sc_L_frame (fun vs H Q E h=>DW BC h) (fun cdv A outer s H vs Q E hr h=>?_)
 exact⟨_,(@AK _ _ _ _ _ (@BU _ _ 2 _ _ _ _ nd rfl Jq (@DN _ _ _ _ AI) (by trivial) (by trivial)) (@AK _ _ _ _ _ (@EO _ _ _ _ _ _ _ _ PassesOwn.never rfl (@Cs _ _ _ _ _ _ Fu z_range (@AC _ _ _ _ _ (@A6 _ _ _ _ _ _ _ _ _ B0 FD z_len PySem.boot_len (@AC _ _ _ _ _ (@pv _ 0 _ _ rfl Dy A3 A5) AI (by trivial)) Cd Cf (by trivial) (by trivial)) AI (by trivial)) (by trivial)) (@Ax _ _ 3 _ nd rfl Jp (by trivial)) (@AV _ _ _ (@EO _ _ _ _ _ _ _ _ PassesOwn.never rfl (@Cs _ _ _ _ _ _ Fu z_range (@AC _ _ _ _ _ (@A6 _ _ _ _ _ _ _ _ _ B0 FD z_len PySem.boot_len (@AC _ _ _ _ _ (@AX _ _ _ _ _ _ _ AW (@pv _ 0 _ _ rfl Dy A3 A5) AJ (fun _ _=>rfl)) AI (by trivial)) Cd Cf (by trivial) (by trivial)) AI (by trivial)) (by trivial)) (@Ax _ _ 4 _ nd rfl Jo (by trivial)) (@AV _ _ _ (@EN _ _ _ _ _ _ _ _ (@Bv _ _ _ _ _ _ _ _ (@EQ _ (Eg hr)) (@AX _ _ _ _ _ _ _ AW (@AX _ _ _ _ _ _ _ AW (@pv _ 0 _ _ rfl Dy A3 A5) (@pv _ 3 _ _ rfl CD Cn Cq) (fun _ _=>rfl)) (@pv _ 4 _ _ rfl CC CK CM) (fun _ _=>rfl)) (@AX _ _ _ _ _ _ _ AW (@AX _ _ _ _ _ _ _ AW (@pv _ 1 _ _ rfl GE DY DZ) (@pv _ 3 _ _ rfl CD Cn Cq) (fun _ _=>rfl)) (@pv _ 4 _ _ rfl CC CK CM) (fun _ _=>rfl)) (CZ _)) (@AV _ _ _ (@EN _ _ _ _ _ _ _ _ (@PW.pt _ _ _ (@PQ _ _ _ _ _ _ _ (@Bv _ _ _ _ _ _ _ _ (@EQ _ (Eg hr)) (@pv _ 2 _ _ rfl CF Ay Az) (@DN _ _ _ _ AI) (CZ _)) (@PQ _ _ _ _ _ _ _ (@Bv _ _ _ _ _ _ _ _ (@NN _ (Eg hr)) (@AX _ _ _ _ _ _ _ Bn (@AX _ _ _ _ _ _ _ AW (@pv _ 2 _ _ rfl CF Ay Az) (@Jn _ _ _ _ _ _ GG AJ) (fun _ _=>rfl)) AJ (fun _ _=>rfl)) (@pv _ 3 _ _ rfl CD Cn Cq) (CZ _)) (@QD _ _ _ _ (@Bv _ _ _ _ _ _ _ _ (@NN _ (Eg hr)) (@CG _ _ _ _ _ _ _ _ D9 (@AX _ _ _ _ _ _ _ Bn (@AX _ _ _ _ _ _ _ AW (@pv _ 2 _ _ rfl CF Ay Az) (@Jn _ _ _ _ _ _ GG AJ) (fun _ _=>rfl)) AJ (fun _ _=>rfl)) (@A6 _ _ _ _ _ _ _ _ _ B0 FD z_len PySem.boot_len (@AC _ _ _ _ _ (@AX _ _ _ _ _ _ _ Bn (@AX _ _ _ _ _ _ _ AW (@pv _ 2 _ _ rfl CF Ay Az) (@Jn _ _ _ _ _ _ GG AJ) (fun _ _=>rfl)) AJ (fun _ _=>rfl)) AI (by trivial)) Cd Cf (by trivial) (by trivial))) (@pv _ 4 _ _ rfl CC CK CM) (CZ _)))))) (@AK _ _ _ _ _ (@Dt _ _ _ _ (@Kl _ _ _ _ _ _ _ _ _ _ _ _ PySem.F.plainAttrs_list PySem.F.slot_list_append PySem.F.type_list_append Dk (@AX _ _ _ _ _ _ _ Bn (@AX _ _ _ _ _ _ _ AW (@pv _ 2 _ _ rfl CF Ay Az) (@Jn _ _ _ _ _ _ GG AJ) (fun _ _=>rfl)) AJ (fun _ _=>rfl)) (@AC _ _ _ _ _ (@AX _ _ _ _ _ _ _ AW (@AX _ _ _ _ _ _ _ AW (@pv _ 0 _ _ rfl Dy A3 A5) (@pv _ 3 _ _ rfl CD Cn Cq) (fun _ _=>rfl)) (@pv _ 4 _ _ rfl CC CK CM) (fun _ _=>rfl)) AI (by trivial)) (by trivial) (by trivial) (by trivial) (by trivial) (by trivial)) (by trivial)) (@AV _ _ _ (@Dt _ _ _ _ (@Kl _ _ _ _ _ _ _ _ _ _ _ _ PySem.F.plainAttrs_list PySem.F.slot_list_append PySem.F.type_list_append Dk (@AX _ _ _ _ _ _ _ Bn (@AX _ _ _ _ _ _ _ AW (@pv _ 2 _ _ rfl CF Ay Az) (@Jn _ _ _ _ _ _ GG AJ) (fun _ _=>rfl)) AJ (fun _ _=>rfl)) (@AC _ _ _ _ _ (@AX _ _ _ _ _ _ _ AW (@AX _ _ _ _ _ _ _ AW (@pv _ 1 _ _ rfl GE DY DZ) (@pv _ 3 _ _ rfl CD Cn Cq) (fun _ _=>rfl)) (@pv _ 4 _ _ rfl CC CK CM) (fun _ _=>rfl)) AI (by trivial)) (by trivial) (by trivial) (by trivial) (by trivial) (by trivial)) (by trivial)))) (@AV _ _ _ (@Dt _ _ _ _ (@Kl _ _ _ _ _ _ _ _ _ _ _ _ PySem.F.plainAttrs_list PySem.F.slot_list_append PySem.F.type_list_append Dk (@pv _ 2 _ _ rfl CF Ay Az) (@AC _ _ _ _ _ (@Bh _ _ _ _ _ (@AC _ _ _ _ _ (@pv _ 4 _ _ rfl CC CK CM) (@AC _ _ _ _ _ (@pv _ 3 _ _ rfl CD Cn Cq) (@AC _ _ _ _ _ (@DN _ _ _ _ (@AC _ _ _ _ _ (@AX _ _ _ _ _ _ _ AW (@AX _ _ _ _ _ _ _ AW (@pv _ 0 _ _ rfl Dy A3 A5) (@pv _ 3 _ _ rfl CD Cn Cq) (fun _ _=>rfl)) (@pv _ 4 _ _ rfl CC CK CM) (fun _ _=>rfl)) AI (by trivial))) (@AC _ _ _ _ _ (@DN _ _ _ _ (@AC _ _ _ _ _ (@AX _ _ _ _ _ _ _ AW (@AX _ _ _ _ _ _ _ AW (@pv _ 1 _ _ rfl GE DY DZ) (@pv _ 3 _ _ rfl CD Cn Cq) (fun _ _=>rfl)) (@pv _ 4 _ _ rfl CC CK CM) (fun _ _=>rfl)) AI (by trivial))) AI (by trivial)) (by trivial)) (by trivial)) (by trivial))) AI (by trivial)) (by trivial) (by trivial) (by trivial) (by trivial) (by trivial)) (by trivial))))) Cr)) (by trivial))) (by trivial)) (@AV _ _ _ (@BE _ _ _ _ (@pv _ 2 _ _ rfl CF Ay Az))))),DV (N:=["_law_one","_law_other","_law_due","_law_y","_law_x"]) (np:=2) (nl:=3) (Av (Jg (K9 Jh)) (Av (Il (Cv (AF (ET Fg (AF AH AM)) AM)) Ak (Il (Cv (AF (ET Fg (AF (AZ BO AH AL) AM)) AM)) Ak (Hq (CY (AZ Kp (AZ BO (AZ BO AH AH) AH) (AZ BO (AZ BO AH AH) AH))) (Hq (KY (i:=2) (R3 (CY (AZ Kp AH (LA AM))) (R3 (CY (AZ T8 (AZ DQ (AZ BO AH (Om Jl AL)) AL) AH)) (CY (AZ T8 (AZ Fr (AZ DQ (AZ BO AH (Om Jl AL)) AL) (ET Fg (AF (AZ DQ (AZ BO AH (Om Jl AL)) AL) AM))) AH))))) (Av (TX (NL (Kg Hh (Om Jl AL)) AL) (AF (AZ BO (AZ BO AH AH) AH) AM) PX) (TX (NL (Kg Hh (Om Jl AL)) AL) (AF (AZ BO (AZ BO AH AH) AH) AM) PX)) (WH (i:=2) (V4 (Fi (Ql AH) (Fi (Ql AH) (Fi (EG.h (K9 (Fi (Ql (AZ BO (AZ BO AH AH) AH)) Jh))) (Fi (EG.h (K9 (Fi (Ql (AZ BO (AZ BO AH AH) AH)) Jh))) Jh))))))) Fh))) (TU (i:=2)))) rfl h⟩
theorem JC(F:Fun K "_law_is_fraction" "_law_is_fraction" Ab f fd)(z_len:mg "len"=none)(z_tuple:mg "tuple"=none)(z_isinstance:mg "isinstance"=none)(z_bool:mg "bool"=none)(z_int:mg "int"=none):FnOk P w K mg base CX0 1 f fd ["_law_thing"] (spD ⟨K,w⟩ As false):=by
 have nd:=sc_L_is_fraction.nd
 refine F.ok sc_L_is_fraction (fun vs H Q E h=>DW BC h) (fun cdv A outer s H vs Q E hr h=>?_)
 exact⟨_,(@AK _ _ _ _ _ (@EN _ _ _ _ _ _ _ _ (@PW.pt _ _ _ (@II _ _ _ _ _ _ _ (@EM _ _ _ _ (@Dj _ _ _ (@A6 _ _ _ _ _ _ _ _ _ Do Bo z_isinstance PyProof.Rows.boot_isinstance (@AC _ _ _ _ _ (@pv _ 0 _ _ rfl DK EW Ed) (@AC _ _ _ _ _ (Kj GC z_tuple PySem.Pv.boot_tuple MM Mk) AI (by trivial)) (by trivial)) Bl Bp (by trivial) (by trivial)) (by trivial))) (@Hg _ _ _ _ (@Bv _ _ _ _ _ _ _ _ (@EQ _ (Eg hr)) (@A6 _ _ _ _ _ _ _ _ _ B0 HF z_len PySem.boot_len (@AC _ _ _ _ _ (@pv _ 0 _ _ rfl DK EW Ed) AI (by trivial)) Cd Cf (by trivial) (by trivial)) AJ (CZ _))))) (@AV _ _ _ (@BE _ _ _ _ GN)) Cr) (@AK _ _ _ _ _ (@EO _ _ _ _ _ _ _ _ PassesOwn.never rfl (@Vd _ _ _ _ (@pv _ 0 _ _ rfl DK EW Ed)) (@Ax _ _ 1 _ nd rfl Ey (by trivial)) (@AV _ _ _ (@EN _ _ _ _ _ _ _ _ (@PW.pt _ _ _ (@II _ _ _ _ _ _ _ (@EM _ _ _ _ (@Dj _ _ _ (@A6 _ _ _ _ _ _ _ _ _ Do Bo z_isinstance PyProof.Rows.boot_isinstance (@AC _ _ _ _ _ (@pv _ 1 _ _ rfl Eo A3 A5) (@AC _ _ _ _ _ (Kj HG z_int PySem.Pv.boot_int UB UZ) AI (by trivial)) (by trivial)) Bl Bp (by trivial) (by trivial)) (by trivial))) (@Hg _ _ _ _ (@Dj _ _ _ (@A6 _ _ _ _ _ _ _ _ _ Do Bo z_isinstance PyProof.Rows.boot_isinstance (@AC _ _ _ _ _ (@pv _ 1 _ _ rfl Eo A3 A5) (@AC _ _ _ _ _ (Kj GY z_bool PySem.Pv.boot_bool Sc TF) AI (by trivial)) (by trivial)) Bl Bp (by trivial) (by trivial)) (by trivial))))) (@AV _ _ _ (@BE _ _ _ _ GN)) Cr)) (by trivial)) (@AV _ _ _ (@BE _ _ _ _ GN)))),DV (N:=["_law_thing","_law_one"]) (np:=1) (nl:=1) (Av (Hq (NC (GH (FK (LB (T:="tuple") AH))) (CY (AZ Kp (ET Fg (AF AH AM)) AL))) (C3 LC (by decide)) Fh) (Av (Il (Vy AH) Ak (Hq (NC (GH (FK (LB (T:="int") AH))) (FK (LB (T:="bool") AH))) (C3 LC (by decide)) Fh)) (C3 LC (by decide)))) rfl h⟩
theorem J5(F:Fun K "_law_same_frame" "_law_same_frame" AQ f fd)(C_L_is_fraction:Cal P w K mg base 1 "_law_is_fraction" ["_law_thing"] (spD ⟨K,w⟩ As false))(z_len:mg "len"=none)(z_list:mg "list"=none)(z_isinstance:mg "isinstance"=none)(z_range:mg "range"=none)(z_tuple:mg "tuple"=none):FnOk P w K mg base CX0 2 f fd ["_law_found","_law_due"] (spD ⟨K,w⟩ An false):=by
 have nd:=sc_L_same_frame.nd
 refine F.ok sc_L_same_frame (fun vs H Q E h=>DW BC h) (fun cdv A outer s H vs Q E hr h=>?_)
 exact⟨_,(@AK _ _ _ _ _ (@EN _ _ _ _ _ _ _ _ (@PW.pt _ _ _ (@II _ _ _ _ _ _ _ (@EM _ _ _ _ (@Dj _ _ _ (@A6 _ _ _ _ _ _ _ _ _ Do BP z_isinstance PyProof.Rows.boot_isinstance (@AC _ _ _ _ _ (@pv _ 0 _ _ rfl Di EX Ee) (@AC _ _ _ _ _ (Kj C4 z_list PySem.Pv.boot_list GQ Gf) AI (by trivial)) (by trivial)) Bl Bp (by trivial) (by trivial)) (by trivial))) (@Hg _ _ _ _ (@Bv _ _ _ _ _ _ _ _ (@EQ _ (Eg hr)) (@A6 _ _ _ _ _ _ _ _ _ B0 CJ z_len PySem.boot_len (@AC _ _ _ _ _ (@pv _ 0 _ _ rfl Di EX Ee) AI (by trivial)) Cd Cf (by trivial) (by trivial)) (@A6 _ _ _ _ _ _ _ _ _ B0 CJ z_len PySem.boot_len (@AC _ _ _ _ _ (@pv _ 1 _ _ rfl Dh Ay Az) AI (by trivial)) Cd Cf (by trivial) (by trivial)) (CZ _))))) (@AV _ _ _ (@BE _ _ _ _ GN)) Cr) (@AK _ _ _ _ _ (@EO _ _ _ _ _ _ _ _ PassesOwn.never rfl (@Cs _ _ _ _ _ _ GV z_range (@AC _ _ _ _ _ (@A6 _ _ _ _ _ _ _ _ _ B0 CJ z_len PySem.boot_len (@AC _ _ _ _ _ (@pv _ 1 _ _ rfl Dh Ay Az) AI (by trivial)) Cd Cf (by trivial) (by trivial)) AI (by trivial)) (by trivial)) (@Ax _ _ 2 _ nd rfl FS (by trivial)) (@AK _ _ _ _ _ (@BU _ _ 3 _ _ _ _ nd rfl FR (@AX _ _ _ _ _ _ _ AW (@pv _ 0 _ _ rfl Di EX Ee) (@pv _ 2 _ _ rfl FH CL CN) (fun _ _=>rfl)) (by trivial) (by trivial)) (@AK _ _ _ _ _ (@EN _ _ _ _ _ _ _ _ (@PW.pt _ _ _ (@II _ _ _ _ _ _ _ (@EM _ _ _ _ (@Dj _ _ _ (@A6 _ _ _ _ _ _ _ _ _ Do BP z_isinstance PyProof.Rows.boot_isinstance (@AC _ _ _ _ _ (@pv _ 3 _ _ rfl A1 BJ BL) (@AC _ _ _ _ _ (Kj GU z_tuple PySem.Pv.boot_tuple MM Mk) AI (by trivial)) (by trivial)) Bl Bp (by trivial) (by trivial)) (by trivial))) (@II _ _ _ _ _ _ _ (@Bv _ _ _ _ _ _ _ _ (@EQ _ (Eg hr)) (@A6 _ _ _ _ _ _ _ _ _ B0 CJ z_len PySem.boot_len (@AC _ _ _ _ _ (@pv _ 3 _ _ rfl A1 BJ BL) AI (by trivial)) Cd Cf (by trivial) (by trivial)) AJ (CZ _)) (@Hg _ _ _ _ (@Bv _ _ _ _ _ _ _ _ (@EQ _ (Eg hr)) (@pv _ 3 _ _ rfl A1 BJ BL) (@AX _ _ _ _ _ _ _ AW (@pv _ 1 _ _ rfl Dh Ay Az) (@pv _ 2 _ _ rfl FH CL CN) (fun _ _=>rfl)) (CZ _)))))) (@AV _ _ _ (@BE _ _ _ _ GN)) Cr) (@AK _ _ _ _ _ (@EN _ _ _ _ _ _ _ _ (@PW.pt _ _ _ (@II _ _ _ _ _ _ _ (@EM _ _ _ _ (@Dj _ _ _ (@AU _ _ _ _ _ _ _ _ _ _ C_L_is_fraction hr Db (@AC _ _ _ _ _ (@Bh _ _ _ _ _ (@AC _ _ _ _ _ (@AX _ _ _ _ _ _ _ Bn (@pv _ 3 _ _ rfl A1 BJ BL) AJ (fun _ _=>rfl)) (@AC _ _ _ _ _ (@AX _ _ _ _ _ _ _ Bn (@pv _ 3 _ _ rfl A1 BJ BL) AJ (fun _ _=>rfl)) AI (by trivial)) (by trivial))) AI (by trivial)) D6 (by trivial) (by trivial)) (by trivial))) (@II _ _ _ _ _ _ _ (@EM _ _ _ _ (@Dj _ _ _ (@A6 _ _ _ _ _ _ _ _ _ Do BP z_isinstance PyProof.Rows.boot_isinstance (@AC _ _ _ _ _ (@AX _ _ _ _ _ _ _ Bn (@pv _ 3 _ _ rfl A1 BJ BL) AJ (fun _ _=>rfl)) (@AC _ _ _ _ _ (Kj C4 z_list PySem.Pv.boot_list GQ Gf) AI (by trivial)) (by trivial)) Bl Bp (by trivial) (by trivial)) (by trivial))) (@Hg _ _ _ _ (@EM _ _ _ _ (@Dj _ _ _ (@A6 _ _ _ _ _ _ _ _ _ Do BP z_isinstance PyProof.Rows.boot_isinstance (@AC _ _ _ _ _ (@AX _ _ _ _ _ _ _ Bn (@pv _ 3 _ _ rfl A1 BJ BL) AJ (fun _ _=>rfl)) (@AC _ _ _ _ _ (Kj C4 z_list PySem.Pv.boot_list GQ Gf) AI (by trivial)) (by trivial)) Bl Bp (by trivial) (by trivial)) (by trivial))))))) (@AV _ _ _ (@BE _ _ _ _ GN)) Cr) (@AV _ _ _ (@EN _ _ _ _ _ _ _ _ (@Bv _ _ _ _ _ _ _ _ (@EQ _ (Eg hr)) (@Kk _ ["_law_shade"] 1 [] _ _ _ _ _ _ _ _ _ _ rfl (@GT _ ["_law_shade"] 1 [] _ ["_law_found","_law_due","_law_k","_law_row"] (AB AQ) rfl rfl (by walk_at "dk")) (@EE _ _ _ _ (@CG _ _ _ _ _ _ _ _ Vh (@AX _ _ _ _ _ _ _ Bn (@pv _ 3 _ _ rfl A1 BJ BL) AJ (fun _ _=>rfl)) (@AX _ _ _ _ _ _ _ Bn (@pv _ 3 _ _ rfl A1 BJ BL) AJ (fun _ _=>rfl)))) (fun cl fp s3 H3=>(@Ax _ _ 0 _ JF rfl (Ba (by walk_at "dk")) (Or.inr (Bf (by walk_at "dk"))))) (fun cl fp s3 H3=>(@NK _ _ _ (@EM _ _ _ _ (@Dj _ _ _ (@AU _ _ _ _ _ _ _ _ _ _ C_L_is_fraction hr (IF (by walk_at "dk")) (@AC _ _ _ _ _ (@pv _ 0 _ _ rfl (BM (by walk_at "dk")) Gg Gq) AI (by trivial)) D6 (by trivial) (by trivial)) (by trivial))))) (fun cl fp s3 H3=>(@pv _ 0 _ _ rfl (BM (by walk_at "dk")) Gg Gq)) (by trivial)) (@DN _ _ _ _ AI) (CZ _)) (@AV _ _ _ (@BE _ _ _ _ GN)) Cr))))) (by trivial)) (@AV _ _ _ (@BE _ _ _ _ GN)))),DV (N:=["_law_found","_law_due","_law_k","_law_row"]) (np:=2) (nl:=2) (Av (Hq (NC (GH (FK (LB (T:="list") AH))) (CY (AZ Kp (ET Fg (AF AH AM)) (ET Fg (AF AH AM))))) (C3 LC (by decide)) Fh) (Av (Il (Cv (AF (ET Fg (AF AH AM)) AM)) Ak (Av (De (AZ BO AH AH) Ak) (Av (Hq (NC (GH (FK (LB (T:="tuple") AH))) (NC (CY (AZ Kp (ET Fg (AF AH AM)) AL)) (CY (AZ Kp AH (AZ BO AH AH))))) (C3 LC (by decide)) Fh) (Av (Hq (NC (GH (FK (EB (AF (C2 (AF (AZ DQ AH AL) (AF (AZ DQ AH AL) AM))) AM)))) (NC (GH (FK (LB (T:="list") (AZ DQ AH AL)))) (GH (FK (LB (T:="list") (AZ DQ AH AL)))))) (C3 LC (by decide)) Fh) (Hq (CY (AZ Kp (Re (E2 (AZ Wo (AZ DQ AH AL) (AZ DQ AH AL))) Ak (GH (FK (EB (AF AH AM)))) AH) (LA AM))) (C3 LC (by decide)) Fh))))) (C3 LC (by decide)))) rfl h⟩
theorem NQ(F:Fun K "_law_cell_at" "_law_cell_at" BY f fd)(z_len:mg "len"=none):FnOk P w K mg base CX0 1 f fd ["_law_script","_law_k"] (spD ⟨K,w⟩ Bw false):=by
 have nd:=sc_L_cell_at.nd
 refine F.ok sc_L_cell_at (fun vs H Q E h=>DW BC h) (fun cdv A outer s H vs Q E hr h=>?_)
 exact⟨_,(@AK _ _ _ _ _ (@EN _ _ _ _ _ _ _ _ (@Bv _ _ _ _ _ _ _ _ Wi (@pv _ 1 _ _ rfl HK CL CN) (@A6 _ _ _ _ _ _ _ _ _ B0 J9 z_len PySem.boot_len (@AC _ _ _ _ _ (@pv _ 0 _ _ rfl HL CP CS) AI (by trivial)) Cd Cf (by trivial) (by trivial)) (CZ _)) (@AV _ _ _ (@BE _ _ _ _ (@AX _ _ _ _ _ _ _ AW (@pv _ 0 _ _ rfl HL CP CS) (@pv _ 1 _ _ rfl HK CL CN) (fun _ _=>rfl)))) Cr) (@AV _ _ _ (@BE _ _ _ _ AJ))),DV (N:=["_law_script","_law_k"]) (np:=2) (nl:=0) (Av (Hq (CY (AZ XJ AH (V6 (i:=0)))) (C3 (W6 (i:=0) AH) (by decide)) Fh) (C3 AL (by decide))) rfl h⟩
theorem SW(F:Fun K "_law_big" "_law_big" BD f fd)(C_L_cell_at:Cal P w K mg base 1 "_law_cell_at" ["_law_script","_law_k"] (spD ⟨K,w⟩ Bw false))(z_range:mg "range"=none):FnOk P w K mg base CX0 2 f fd ["_law_script","_law_at"] (spD ⟨K,w⟩ Ez false):=by
 have nd:=sc_L_big.nd
 refine F.ok sc_L_big (fun vs H Q E h=>DW BC h) (fun cdv A outer s H vs Q E hr h=>?_)
 exact⟨_,(@AK _ _ _ _ _ (@BU _ _ 2 _ _ _ _ nd rfl MS (@Bh _ _ _ _ _ (@AC _ _ _ _ _ AJ (@AC _ _ _ _ _ AJ (@AC _ _ _ _ _ AJ (@AC _ _ _ _ _ AJ (@AC _ _ _ _ _ AJ (@AC _ _ _ _ _ AJ (@AC _ _ _ _ _ AJ (@AC _ _ _ _ _ AJ AI (by trivial)) (by trivial)) (by trivial)) (by trivial)) (by trivial)) (by trivial)) (by trivial)) (by trivial))) (by trivial) (by trivial)) (@AK _ _ _ _ _ (@BU _ _ 3 _ _ _ _ nd rfl MQ (@Bh _ _ _ _ _ (@AC _ _ _ _ _ AJ (@AC _ _ _ _ _ AJ (@AC _ _ _ _ _ AJ (@AC _ _ _ _ _ AJ (@AC _ _ _ _ _ AJ (@AC _ _ _ _ _ AJ (@AC _ _ _ _ _ AJ (@AC _ _ _ _ _ AJ AI (by trivial)) (by trivial)) (by trivial)) (by trivial)) (by trivial)) (by trivial)) (by trivial)) (by trivial))) (by trivial) (by trivial)) (@AK _ _ _ _ _ (@BU _ _ 4 _ _ _ _ nd rfl MP (@AU _ _ _ _ _ _ _ _ _ _ C_L_cell_at hr D4 (@AC _ _ _ _ _ (@pv _ 0 _ _ rfl L9 CP CS) (@AC _ _ _ _ _ (@pv _ 1 _ _ rfl L8 Jv J0) AI (by trivial)) (by trivial)) Fd (by trivial) (by trivial)) (by trivial) (by trivial)) (@AK _ _ _ _ _ (@EN _ _ _ _ _ _ _ _ (@Bv _ _ _ _ _ _ _ _ Wk (@pv _ 4 _ _ rfl L7 HV Hd) (@CG _ _ _ _ _ _ _ _ SQ AJ AJ) (CZ _)) (@AV _ _ _ (@BE _ _ _ _ (@pv _ 4 _ _ rfl L7 HV Hd))) Cr) (@AK _ _ _ _ _ (@BU _ _ 5 _ _ _ _ nd rfl JN AJ (by trivial) (by trivial)) (@AK _ _ _ _ _ (@EO _ _ _ _ _ _ _ _ PassesOwn.never rfl (@Cs _ _ _ _ _ _ Ly z_range (@AC _ _ _ _ _ AJ AI (by trivial)) (by trivial)) (@Ax _ _ 6 _ nd rfl MO (by trivial)) (@AK _ _ _ _ _ (@BU _ _ 7 _ _ _ _ nd rfl MN (@CG _ _ _ _ _ _ _ _ D9 (@CG _ _ _ _ _ _ _ _ D9 (@CG _ _ _ _ _ _ _ _ Hi (@AU _ _ _ _ _ _ _ _ _ _ C_L_cell_at hr D4 (@AC _ _ _ _ _ (@pv _ 0 _ _ rfl L9 CP CS) (@AC _ _ _ _ _ (@CG _ _ _ _ _ _ _ _ D9 (@pv _ 1 _ _ rfl L8 Jv J0) (@CG _ _ _ _ _ _ _ _ Hi (@pv _ 6 _ _ rfl FI CL CN) AJ)) AI (by trivial)) (by trivial)) Fd (by trivial) (by trivial)) (@CG _ _ _ _ _ _ _ _ SQ AJ AJ)) AJ) (@CG _ _ _ _ _ _ _ _ NM (@pv _ 6 _ _ rfl FI CL CN) (@pv _ 6 _ _ rfl FI CL CN))) (by trivial) (by trivial)) (@AV _ _ _ (@BU _ _ 5 _ _ _ _ nd rfl JN (@CG _ _ _ _ _ _ _ _ D9 (@CG _ _ _ _ _ _ _ _ NM (@pv _ 5 _ _ rfl L6 E5 E6) AJ) (@CG _ _ _ _ _ _ _ _ Hi (@CG _ _ _ _ _ _ _ _ Hi (@CG _ _ _ _ _ _ _ _ NM (@pv _ 7 _ _ rfl Q2 A3 A5) (@AX _ _ _ _ _ _ _ Bn (@pv _ 2 _ _ rfl Q4 Oq O1) (@CG _ _ _ _ _ _ _ _ Hi (@pv _ 6 _ _ rfl FI CL CN) AJ) (fun _ _=>rfl))) (@AX _ _ _ _ _ _ _ Bn (@pv _ 3 _ _ rfl Q3 LG LR) (@CG _ _ _ _ _ _ _ _ Hi (@pv _ 6 _ _ rfl FI CL CN) AJ) (fun _ _=>rfl))) AJ)) (by trivial) (by trivial)))) (by trivial)) (@AV _ _ _ (@BE _ _ _ _ (@pv _ 5 _ _ rfl L6 E5 E6))))))))),DV (N:=["_law_script","_law_at","_law_by","_law_prime","_law_cell","_law_big_here","_law_k","_law_one"]) (np:=2) (nl:=6) (Av (De (C2 (AF AL (AF AL (AF AL (AF AL (AF AL (AF AL (AF AL (AF AL AM))))))))) Ak) (Av (De (C2 (AF AL (AF AL (AF AL (AF AL (AF AL (AF AL (AF AL (AF AL AM))))))))) Ak) (Av (De (Nt (i:=0) (AF AH AM)) Ak) (Av (Hq (CY (AZ XM AH (AZ U4 AL AL))) (C3 AH (by decide)) Fh) (Av (De AL Ak) (Av (Il (Cv (AF AL AM)) Ak (Av (De (AZ Fr (AZ Fr (AZ Kq (Nt (i:=0) (AF (AZ Fr AH (AZ Kq AH AL)) AM)) (AZ U4 AL AL)) AL) (AZ SY AH AH)) Ak) (De (AZ Fr (AZ SY AH AL) (AZ Kq (AZ Kq (AZ SY AH (AZ DQ AH (AZ Kq AH AL))) (AZ DQ AH (AZ Kq AH AL))) AL)) Ak))) (C3 AH (by decide)))))))) rfl h⟩
theorem RJ(F:Fun K "_law_copy" "_law_copy" DM f fd)(z_list:mg "list"=none):FnOk P w K mg base CX0 1 f fd ["_law_picture"] (spG ⟨K,w⟩ Au):=by
 have nd:=sc_L_copy.nd
 refine F.ok sc_L_copy (fun vs H Q E h=>Nq BC h) (fun cdv A outer s H vs Q E hr h=>?_)
 exact⟨_,(@AV _ _ _ (@BE _ _ _ _ (@Kk _ ["_law_line"] 1 [] _ _ _ _ _ _ _ _ _ _ rfl (@GT _ ["_law_line"] 1 [] _ ["_law_picture"] (AB DM) rfl rfl (by walk_at "dk")) (@EE _ _ _ _ (@pv _ 0 _ _ rfl O9 BV BW)) (fun cl fp s3 H3=>(@Ax _ _ 0 _ Pf rfl (Ba (by walk_at "dk")) (Or.inr (Bf (by walk_at "dk"))))) (fun cl fp s3 H3=>Ep) (fun cl fp s3 H3=>(@I0 _ _ _ _ _ _ _ _ _ Ik (IF (by walk_at "dk")) z_list PySem.Pv.boot_list (@AC _ _ _ _ _ (@pv _ 0 _ _ rfl (BM (by walk_at "dk")) HU HZ) AI (by trivial)) GQ Gf (by trivial) (by trivial))) (by trivial)))),UP (N:=["_law_picture"]) (np:=1) (nl:=0) (VC (E2 AH) Ak Jm (Qm (ET TM (AF AH AM)))) rfl h⟩
theorem Vm(F:Fun K "law" "law" BT f fd)(C_L_big:Cal P w K mg base 4 "_law_big" ["_law_script","_law_at"] (spD ⟨K,w⟩ Ez false))(C_L_picture_by:Cal P w K mg base 4 "_law_picture_by" ["_law_rest","_law_w","_law_h"] (spD ⟨K,w⟩ BZ true))(C_L_digit:Cal P w K mg base 4 "_law_digit" ["_law_rest","_law_many"] (spD ⟨K,w⟩ Ah false))(C_L_next_by:Cal P w K mg base 4 "_law_next_by" ["_law_rest","_law_picture"] (spD ⟨K,w⟩ Ck true))(C_L_copy:Cal P w K mg base 4 "_law_copy" ["_law_picture"] (spG ⟨K,w⟩ Au))(C_frame_between:Cal P w K mg base 4 "frame_between" ["one","other"] (spG ⟨K,w⟩ Aq))(C_L_frame:Cal P w K mg base 4 "_law_frame" ["_law_one","_law_other"] (spD ⟨K,w⟩ Cu true))(C_L_same_frame:Cal P w K mg base 4 "_law_same_frame" ["_law_found","_law_due"] (spD ⟨K,w⟩ An false)):FnOk P w K mg base CX0 5 f fd ["_law_script"] (spD ⟨K,w⟩ Ks false):=by
 have nd:=sc_law.nd
 refine F.ok sc_law (fun vs H Q E h=>DW BC h) (fun cdv A outer s H vs Q E hr h=>?_)
 exact⟨_,(@AK _ _ _ _ _ (@BU _ _ 1 _ _ _ _ nd rfl QV (@DN _ _ _ _ (@AC _ _ _ _ _ (@AU _ _ _ _ _ _ _ _ _ _ C_L_big hr K5 (@AC _ _ _ _ _ (@pv _ 0 _ _ rfl Th CP CS) (@AC _ _ _ _ _ AJ AI (by trivial)) (by trivial)) Nw (by trivial) (by trivial)) AI (by trivial))) (by trivial) (by trivial)) (@AK _ _ _ _ _ (@BU _ _ 2 _ _ _ _ nd rfl QU (@AU _ _ _ _ _ _ _ _ _ _ C_L_picture_by hr GB (@AC _ _ _ _ _ (@pv _ 1 _ _ rfl Ht Af Ag) (@AC _ _ _ _ _ (@CG _ _ _ _ _ _ _ _ D9 AJ (@AU _ _ _ _ _ _ _ _ _ _ C_L_digit hr FX (@AC _ _ _ _ _ (@pv _ 1 _ _ rfl Ht Af Ag) (@AC _ _ _ _ _ AJ AI (by trivial)) (by trivial)) BK (by trivial) (by trivial))) (@AC _ _ _ _ _ (@CG _ _ _ _ _ _ _ _ D9 AJ (@AU _ _ _ _ _ _ _ _ _ _ C_L_digit hr FX (@AC _ _ _ _ _ (@pv _ 1 _ _ rfl Ht Af Ag) (@AC _ _ _ _ _ AJ AI (by trivial)) (by trivial)) BK (by trivial) (by trivial))) AI (by trivial)) (by trivial)) (by trivial)) EC (by trivial) (by trivial)) (by trivial) (by trivial)) (@AK _ _ _ _ _ (@BU _ _ 3 _ _ _ _ nd rfl QT (@AU _ _ _ _ _ _ _ _ _ _ C_L_next_by hr ES (@AC _ _ _ _ _ (@pv _ 1 _ _ rfl Ht Af Ag) (@AC _ _ _ _ _ (@pv _ 2 _ _ rfl Hs A3 A5) AI (by trivial)) (by trivial)) Fc (by trivial) (by trivial)) (by trivial) (by trivial)) (@AK _ _ _ _ _ (@BU _ _ 4 _ _ _ _ nd rfl QS (@AU _ _ _ _ _ _ _ _ _ _ C_L_next_by hr ES (@AC _ _ _ _ _ (@pv _ 1 _ _ rfl Ht Af Ag) (@AC _ _ _ _ _ (@pv _ 3 _ _ rfl Gs Cz C0) AI (by trivial)) (by trivial)) Fc (by trivial) (by trivial)) (by trivial) (by trivial)) (@AK _ _ _ _ _ (@BU _ _ 5 _ _ _ _ nd rfl QR (@DN _ _ _ _ (@AC _ _ _ _ _ (@AU _ _ _ _ _ _ _ _ _ _ C_L_copy hr CO (@AC _ _ _ _ _ (@pv _ 2 _ _ rfl Hs A3 A5) AI (by trivial)) C8 (by trivial) (by trivial)) (@AC _ _ _ _ _ (@AU _ _ _ _ _ _ _ _ _ _ C_L_copy hr CO (@AC _ _ _ _ _ (@pv _ 3 _ _ rfl Gs Cz C0) AI (by trivial)) C8 (by trivial) (by trivial)) (@AC _ _ _ _ _ (@AU _ _ _ _ _ _ _ _ _ _ C_L_copy hr CO (@AC _ _ _ _ _ (@pv _ 4 _ _ rfl M1 EV Ec) AI (by trivial)) C8 (by trivial) (by trivial)) AI (by trivial)) (by trivial)) (by trivial))) (by trivial) (by trivial)) (@AK _ _ _ _ _ (@BU _ _ 6 _ _ _ _ nd rfl QQ (@AU _ _ _ _ _ _ _ _ _ _ C_frame_between hr B4 (@AC _ _ _ _ _ (@AX _ _ _ _ _ _ _ AW (@pv _ 5 _ _ rfl ED A9 BA) AJ (fun _ _=>rfl)) (@AC _ _ _ _ _ (@AX _ _ _ _ _ _ _ AW (@pv _ 5 _ _ rfl ED A9 BA) AJ (fun _ _=>rfl)) AI (by trivial)) (by trivial)) Cg (by trivial) (by trivial)) (by trivial) (by trivial)) (@AK _ _ _ _ _ (@BU _ _ 7 _ _ _ _ nd rfl QP (@AU _ _ _ _ _ _ _ _ _ _ C_frame_between hr B4 (@AC _ _ _ _ _ (@AX _ _ _ _ _ _ _ AW (@pv _ 5 _ _ rfl ED A9 BA) AJ (fun _ _=>rfl)) (@AC _ _ _ _ _ (@AX _ _ _ _ _ _ _ AW (@pv _ 5 _ _ rfl ED A9 BA) AJ (fun _ _=>rfl)) AI (by trivial)) (by trivial)) Cg (by trivial) (by trivial)) (by trivial) (by trivial)) (@AK _ _ _ _ _ (@BU _ _ 8 _ _ _ _ nd rfl QO (@AU _ _ _ _ _ _ _ _ _ _ C_L_frame hr FW (@AC _ _ _ _ _ (@pv _ 2 _ _ rfl Hs A3 A5) (@AC _ _ _ _ _ (@pv _ 3 _ _ rfl Gs Cz C0) AI (by trivial)) (by trivial)) Gh (by trivial) (by trivial)) (by trivial) (by trivial)) (@AK _ _ _ _ _ (@EN _ _ _ _ _ _ _ _ (@PW.pt _ _ _ (@II _ _ _ _ _ _ _ (@EM _ _ _ _ (@Dj _ _ _ (@AU _ _ _ _ _ _ _ _ _ _ C_L_same_frame hr Bs (@AC _ _ _ _ _ (@pv _ 6 _ _ rfl KF Du Dw) (@AC _ _ _ _ _ (@pv _ 8 _ _ rfl M0 Ay Az) AI (by trivial)) (by trivial)) B5 (by trivial) (by trivial)) (by trivial))) (@Hg _ _ _ _ (@EM _ _ _ _ (@Dj _ _ _ (@AU _ _ _ _ _ _ _ _ _ _ C_L_same_frame hr Bs (@AC _ _ _ _ _ (@pv _ 7 _ _ rfl Tg DY DZ) (@AC _ _ _ _ _ (@AU _ _ _ _ _ _ _ _ _ _ C_L_frame hr FW (@AC _ _ _ _ _ (@pv _ 3 _ _ rfl Gs Cz C0) (@AC _ _ _ _ _ (@pv _ 4 _ _ rfl M1 EV Ec) AI (by trivial)) (by trivial)) Gh (by trivial) (by trivial)) AI (by trivial)) (by trivial)) B5 (by trivial) (by trivial)) (by trivial)))))) (@AV _ _ _ (@BE _ _ _ _ GN)) Cr) (@AK _ _ _ _ _ (@EN _ _ _ _ _ _ _ _ (@PW.pt _ _ _ (@II _ _ _ _ _ _ _ (@Bv _ _ _ _ _ _ _ _ (@EQ _ (Eg hr)) (@pv _ 5 _ _ rfl ED A9 BA) (@DN _ _ _ _ (@AC _ _ _ _ _ (@pv _ 2 _ _ rfl Hs A3 A5) (@AC _ _ _ _ _ (@pv _ 3 _ _ rfl Gs Cz C0) (@AC _ _ _ _ _ (@pv _ 4 _ _ rfl M1 EV Ec) AI (by trivial)) (by trivial)) (by trivial))) (CZ _)) (@Hg _ _ _ _ (@Bv _ _ _ _ _ _ _ _ (@EQ _ (Eg hr)) (@AU _ _ _ _ _ _ _ _ _ _ C_frame_between hr B4 (@AC _ _ _ _ _ (@AX _ _ _ _ _ _ _ AW (@pv _ 5 _ _ rfl ED A9 BA) AJ (fun _ _=>rfl)) (@AC _ _ _ _ _ (@AX _ _ _ _ _ _ _ AW (@pv _ 5 _ _ rfl ED A9 BA) AJ (fun _ _=>rfl)) AI (by trivial)) (by trivial)) Cg (by trivial) (by trivial)) (@DN _ _ _ _ AI) (CZ _))))) (@AV _ _ _ (@BE _ _ _ _ GN)) Cr) (@AK _ _ _ _ _ (@Ix _ _ _ _ _ _ (@Bh _ _ _ _ _ (@AC _ _ _ _ _ AJ (@AC _ _ _ _ _ AJ AI (by trivial)) (by trivial))) (@Iz _ _ _ _ _ _ _ (@AX _ _ _ _ _ _ _ AW (@AX _ _ _ _ _ _ _ AW (@pv _ 5 _ _ rfl ED A9 BA) AJ (fun _ _=>rfl)) AJ (fun _ _=>rfl)) AJ ID (by trivial)) (by trivial) (by trivial) (by trivial)) (@AK _ _ _ _ _ (@Dt _ _ _ _ (@PU _ _ _ _ _ _ _ _ _ PySem.F.plainAttrs_list PySem.F.slot_list_reverse PySem.F.type_list_reverse Pi (@AX _ _ _ _ _ _ _ AW (@pv _ 5 _ _ rfl ED A9 BA) AJ (fun _ _=>rfl)) (by trivial) (by trivial)) (by trivial)) (@AK _ _ _ _ _ (@EN _ _ _ _ _ _ _ _ (@EM _ _ _ _ (@Dj _ _ _ (@AU _ _ _ _ _ _ _ _ _ _ C_L_same_frame hr Bs (@AC _ _ _ _ _ (@pv _ 6 _ _ rfl KF Du Dw) (@AC _ _ _ _ _ (@pv _ 8 _ _ rfl M0 Ay Az) AI (by trivial)) (by trivial)) B5 (by trivial) (by trivial)) (by trivial))) (@AV _ _ _ (@BE _ _ _ _ GN)) Cr) (@AK _ _ _ _ _ (@EO _ _ _ _ _ _ _ _ PassesOwn.never rfl (@EE _ _ _ _ (@pv _ 6 _ _ rfl KF Du Dw)) (@Ax _ _ 9 _ nd rfl QN (by trivial)) (@AK _ _ _ _ _ (@Dt _ _ _ _ (@PU _ _ _ _ _ _ _ _ _ PySem.F.plainAttrs_list PySem.F.slot_list_clear PySem.F.type_list_clear OU (@AX _ _ _ _ _ _ _ Bn (@pv _ 9 _ _ rfl P7 BJ BL) AJ (fun _ _=>rfl)) (by trivial) (by trivial)) (by trivial)) (@AV _ _ _ (@Dt _ _ _ _ (@Kl _ _ _ _ _ _ _ _ _ _ _ _ PySem.F.plainAttrs_list PySem.F.slot_list_append PySem.F.type_list_append Dk (@AX _ _ _ _ _ _ _ Bn (@pv _ 9 _ _ rfl P7 BJ BL) AJ (fun _ _=>rfl)) (@AC _ _ _ _ _ (@Bh _ _ _ _ _ (@AC _ _ _ _ _ AJ (@AC _ _ _ _ _ AJ AI (by trivial)) (by trivial))) AI (by trivial)) (by trivial) (by trivial) (by trivial) (by trivial) (by trivial)) (by trivial)))) (by trivial)) (@AK _ _ _ _ _ (@Dt _ _ _ _ (@PU _ _ _ _ _ _ _ _ _ PySem.F.plainAttrs_list PySem.F.slot_list_clear PySem.F.type_list_clear OU (@pv _ 6 _ _ rfl KF Du Dw) (by trivial) (by trivial)) (by trivial)) (@AV _ _ _ (@BE _ _ _ _ (@AU _ _ _ _ _ _ _ _ _ _ C_L_same_frame hr Bs (@AC _ _ _ _ _ (@AU _ _ _ _ _ _ _ _ _ _ C_frame_between hr B4 (@AC _ _ _ _ _ (@AU _ _ _ _ _ _ _ _ _ _ C_L_copy hr CO (@AC _ _ _ _ _ (@pv _ 2 _ _ rfl Hs A3 A5) AI (by trivial)) C8 (by trivial) (by trivial)) (@AC _ _ _ _ _ (@AU _ _ _ _ _ _ _ _ _ _ C_L_copy hr CO (@AC _ _ _ _ _ (@pv _ 3 _ _ rfl Gs Cz C0) AI (by trivial)) C8 (by trivial) (by trivial)) AI (by trivial)) (by trivial)) Cg (by trivial) (by trivial)) (@AC _ _ _ _ _ (@pv _ 8 _ _ rfl M0 Ay Az) AI (by trivial)) (by trivial)) B5 (by trivial) (by trivial))))))))))))))))))),DV (N:=["_law_script","_law_rest","_law_one","_law_two","_law_three","_law_handed","_law_told","_law_other","_law_due","_law_row"]) (np:=1) (nl:=9) (Av (WE (LA (AF (Nt (i:=0) (AF AL AM)) AM))) (Av (De (Ce (i:=1) (AF (AZ Fr AL (Ce (i:=1) (AF AL AM))) (AF (AZ Fr AL (Ce (i:=1) (AF AL AM))) AM))) Ak) (Av (De (Ce (i:=1) (AF AH AM)) Ak) (Av (De (Ce (i:=1) (AF AH AM)) Ak) (Av (Jg (K9 (N2 (C7 (AF AH AM)) (N2 (C7 (AF AH AM)) (N2 (C7 (AF AH AM)) Jh))))) (Av (Jg (Qn (i:=5) (C7 (AF (AZ BO AH AL) (AF (AZ BO AH AL) AM))))) (Av (Jg (Qn (i:=5) (C7 (AF (AZ BO AH AL) (AF (AZ BO AH AL) AM))))) (Av (De (EB (AF AH (AF AH AM))) Ak) (Av (Hq (KY (i:=7) (KY (i:=6) (NC (GH (FK (EB (AF AH (AF AH AM))))) (GH (FK (EB (AF AH (AF (EB (AF AH (AF AH AM))) AM)))))))) (C3 LC (by decide)) Fh) (Av (Hq (KY (i:=5) (NC (CY (AZ Kp AH (LA (AF AH (AF AH (AF AH AM)))))) (CY (AZ Kp (EG.e (C7 (AF (AZ BO AH AL) (AF (AZ BO AH AL) AM)))) (LA AM))))) (C3 LC (by decide)) Fh) (Av (WD (i:=5) (C2 (AF AL (AF AL AM))) (Kg (Kg Hh AL) AL) AL) (Av (TW (Kg Hh AL) Vg) (Av (Hq (KY (i:=6) (GH (FK (EB (AF AH (AF AH AM)))))) (C3 LC (by decide)) Fh) (Av (WF (V9 (WA (i:=6) (NL Hh AL) SU) (VJ (i:=6) (NL Hh AL) (AF (C2 (AF AL (AF AL AM))) AM) PX))) (Av (TW Hh SU) (C3 (EB (AF (EG.e (C7 (AF (EG.e (C7 (AF AH AM))) (AF (EG.e (C7 (AF AH AM))) AM)))) (AF AH AM))) (by decide))))))))))))))))) rfl h⟩
end
theorem RP{i j:Int}(h:0<j):Fa (.int i) (.int j)=some (.int (i % j)):=if_pos h
theorem XS{i j:Int}(h:0<j)(h1:j<10 ^ 70):V1 (.int i) (.int j)=some (.int (i / j)):=if_pos ⟨h,TN h h1⟩
theorem Vp{i j:Int}(h:CMulB i j):K7 (.int i) (.int j)=some (.int (i*j)):=if_pos h
theorem SL:S6 (.int 10) (.int 18)=some (.int 1000000000000000000):=rfl
theorem Uo{v m:Int}(h0:0<m)(h1:m<10 ^ 70):Ah [.m [.int v],.d (.int m)]=some (.int (v % m),[.m [.int (v / m)],.d (.int m)]):=by
 simp only[Ah,RP h0,XS h0 h1,C5,A0,Ch,dN,L0,Gi,B3,Gj,Mm,D8,dMt,DD,DU,JS,Fz,EK,Co,Ro,Rn,Ja,EL,Rk,AD,dC,dOp,dUn,fI,Cy,Ra,fLt,fLe,fGt,fGe,Ca,Oh,Rb,Me,Ad,BB,AR,CQ,EJ,Bz,dIf,Rp,dOr,Rm,Jb,AE,AA,Ci,BN,D7,Be,Ae,A4,Cp,Jc,dAS,mkL,nMb,isM,isC,Ih,Mp,Fe,Dc,dIL,dIT,dR1,dR2,CI,Ai,dGT,HC,Mc,Md,MZ,B2,f1,f2,Rc,Mg,Mf,Mh,DE,Rj,Ea,L1,HX,atI,ixN,FN,MK,ML,MJ,Dm,fixDs,sz',Option.bind_some,Option.bind_none,Option.map_some,Option.map_none,List.map_cons,List.map_nil,List.cons_append,List.nil_append,List.length_cons,List.length_nil,List.getElem?_cons_zero,List.getElem?_cons_succ,List.set_cons_zero,List.set_cons_succ,List.replicate_succ,List.replicate_zero,List.all_cons,List.all_nil,Bool.and_self,Bool.and_true,Bool.true_and,Bool.false_and,Bool.and_false,Bool.or_true,Bool.true_or,Bool.false_or,Bool.or_false,Bool.not_true,Bool.not_false,if_true,if_false,reduceIte,Bool.false_eq_true,Nat.reduceAdd,Nat.reduceLT,Nat.reduceSub,Nat.reduceMul,Int.reduceEq,Int.reduceSub,Int.reduceMul,Int.reducePow,Int.reduceDiv,Int.reduceMod,Nat.reduceLeDiff,Nat.reduceEqDiff,and_self,and_true,true_and,Int.natCast_add,Int.reduceAdd,Int.reduceLT,Int.reduceLE,Int.reduceToNat,Int.reduceNeg,Int.toNat_zero,Int.toNat_one,Int.zero_lt_one,Int.le_refl,Int.reduceNegSucc,Int.cast_ofNat_Int,Nat.zero_add,Nat.add_zero]
theorem Im{v m:Int}(h0:0<m)(h1:m<1000000000):Ah [.m [.int v],.d (.int m)]=some (.int (v % m),[.m [.int (v / m)],.d (.int m)]):=Uo h0 (by omega)
theorem Mz{ns:List Int}{k:Int}(h0:0<=k):∃v:Int,Bw [.c (ns.map .int),.d (.int k)]=some (.int v,[.c (ns.map .int),.d (.int k)]):=by
 by_cases h:k<(ns.length:Int)
 ·have hk:k.toNat<ns.length:=by omega
  have e:(ns.map PyData.int)[k.toNat]?=some (.int ns[k.toNat]):=by simp[hk]
  exact⟨ns[k.toNat],by simp only[Bw,List.length_map,h0,h,decide_true,e,C5,A0,Ch,dN,L0,Gi,B3,Gj,Mm,D8,dMt,DD,DU,JS,Fz,EK,Co,Ro,Rn,Ja,EL,Rk,AD,dC,dOp,dUn,fI,Cy,Ra,fLt,fLe,fGt,fGe,Ca,Oh,Rb,Me,Ad,BB,AR,CQ,EJ,Bz,dIf,Rp,dOr,Rm,Jb,AE,AA,Ci,BN,D7,Be,Ae,A4,Cp,Jc,dAS,mkL,nMb,isM,isC,Ih,Mp,Fe,Dc,dIL,dIT,dR1,dR2,CI,Ai,dGT,HC,Mc,Md,MZ,B2,f1,f2,Rc,Mg,Mf,Mh,DE,Rj,Ea,L1,HX,atI,ixN,FN,MK,ML,MJ,Dm,fixDs,sz',Option.bind_some,Option.bind_none,Option.map_some,Option.map_none,List.map_cons,List.map_nil,List.cons_append,List.nil_append,List.length_cons,List.length_nil,List.getElem?_cons_zero,List.getElem?_cons_succ,List.set_cons_zero,List.set_cons_succ,List.replicate_succ,List.replicate_zero,List.all_cons,List.all_nil,Bool.and_self,Bool.and_true,Bool.true_and,Bool.false_and,Bool.and_false,Bool.or_true,Bool.true_or,Bool.false_or,Bool.or_false,Bool.not_true,Bool.not_false,if_true,if_false,reduceIte,Bool.false_eq_true,Nat.reduceAdd,Nat.reduceLT,Nat.reduceSub,Nat.reduceMul,Int.reduceEq,Int.reduceSub,Int.reduceMul,Int.reducePow,Int.reduceDiv,Int.reduceMod,Nat.reduceLeDiff,Nat.reduceEqDiff,and_self,and_true,true_and,Int.natCast_add,Int.reduceAdd,Int.reduceLT,Int.reduceLE,Int.reduceToNat,Int.reduceNeg,Int.toNat_zero,Int.toNat_one,Int.zero_lt_one,Int.le_refl,Int.reduceNegSucc,Int.cast_ofNat_Int,Nat.zero_add,Nat.add_zero]⟩
 ·exact⟨0,by simp only[Bw,List.length_map,h0,h,decide_false,C5,A0,Ch,dN,L0,Gi,B3,Gj,Mm,D8,dMt,DD,DU,JS,Fz,EK,Co,Ro,Rn,Ja,EL,Rk,AD,dC,dOp,dUn,fI,Cy,Ra,fLt,fLe,fGt,fGe,Ca,Oh,Rb,Me,Ad,BB,AR,CQ,EJ,Bz,dIf,Rp,dOr,Rm,Jb,AE,AA,Ci,BN,D7,Be,Ae,A4,Cp,Jc,dAS,mkL,nMb,isM,isC,Ih,Mp,Fe,Dc,dIL,dIT,dR1,dR2,CI,Ai,dGT,HC,Mc,Md,MZ,B2,f1,f2,Rc,Mg,Mf,Mh,DE,Rj,Ea,L1,HX,atI,ixN,FN,MK,ML,MJ,Dm,fixDs,sz',Option.bind_some,Option.bind_none,Option.map_some,Option.map_none,List.map_cons,List.map_nil,List.cons_append,List.nil_append,List.length_cons,List.length_nil,List.getElem?_cons_zero,List.getElem?_cons_succ,List.set_cons_zero,List.set_cons_succ,List.replicate_succ,List.replicate_zero,List.all_cons,List.all_nil,Bool.and_self,Bool.and_true,Bool.true_and,Bool.false_and,Bool.and_false,Bool.or_true,Bool.true_or,Bool.false_or,Bool.or_false,Bool.not_true,Bool.not_false,if_true,if_false,reduceIte,Bool.false_eq_true,Nat.reduceAdd,Nat.reduceLT,Nat.reduceSub,Nat.reduceMul,Int.reduceEq,Int.reduceSub,Int.reduceMul,Int.reducePow,Int.reduceDiv,Int.reduceMod,Nat.reduceLeDiff,Nat.reduceEqDiff,and_self,and_true,true_and,Int.natCast_add,Int.reduceAdd,Int.reduceLT,Int.reduceLE,Int.reduceToNat,Int.reduceNeg,Int.toNat_zero,Int.toNat_one,Int.zero_lt_one,Int.le_refl,Int.reduceNegSucc,Int.cast_ofNat_Int,Nat.zero_add,Nat.add_zero]⟩
theorem WU{xs:List Int}{k:Int}(h0:0<=k)(h:k<(xs.length:Int)):∃v:Int,atI (xs.map PyData.int) k=some (.int v)/\v∈xs:=by
 have hk:k.toNat<xs.length:=by omega
 refine⟨xs[k.toNat],?_,List.getElem_mem hk⟩
 unfold atI ixN
 rw[List.length_map,if_pos h0,if_pos h]
 simp[hk]
def by8:PyData:=.tuple ([48271,69621,16807,39373,21401,60493,87721,31337].map .int)
def pr8:PyData:=.tuple ([99991,99989,99971,99961,99929,99923,99907,99901].map .int)
theorem XC{ns:List Int}{k:Int}(h0:0<=k):∃(v:Int) (ls:List L),Ez [.c (ns.map .int),.d (.int k)]=some (.int v,ls):=by
 obtain⟨cell,hc⟩:=Mz (ns:=ns) h0
 by_cases hb:(1000000000000000000:Int)<=cell
 ·exact⟨cell,_,by simp only[Ez,hc,SL,hb,decide_true,C5,A0,Ch,dN,L0,Gi,B3,Gj,Mm,D8,dMt,DD,DU,JS,Fz,EK,Co,Ro,Rn,Ja,EL,Rk,AD,dC,dOp,dUn,fI,Cy,Ra,fLt,fLe,fGt,fGe,Ca,Oh,Rb,Me,Ad,BB,AR,CQ,EJ,Bz,dIf,Rp,dOr,Rm,Jb,AE,AA,Ci,BN,D7,Be,Ae,A4,Cp,Jc,dAS,mkL,nMb,isM,isC,Ih,Mp,Fe,Dc,dIL,dIT,dR1,dR2,CI,Ai,dGT,HC,Mc,Md,MZ,B2,f1,f2,Rc,Mg,Mf,Mh,DE,Rj,Ea,L1,HX,atI,ixN,FN,MK,ML,MJ,Dm,fixDs,sz',Option.bind_some,Option.bind_none,Option.map_some,Option.map_none,List.map_cons,List.map_nil,List.cons_append,List.nil_append,List.length_cons,List.length_nil,List.getElem?_cons_zero,List.getElem?_cons_succ,List.set_cons_zero,List.set_cons_succ,List.replicate_succ,List.replicate_zero,List.all_cons,List.all_nil,Bool.and_self,Bool.and_true,Bool.true_and,Bool.false_and,Bool.and_false,Bool.or_true,Bool.true_or,Bool.false_or,Bool.or_false,Bool.not_true,Bool.not_false,if_true,if_false,reduceIte,Bool.false_eq_true,Nat.reduceAdd,Nat.reduceLT,Nat.reduceSub,Nat.reduceMul,Int.reduceEq,Int.reduceSub,Int.reduceMul,Int.reducePow,Int.reduceDiv,Int.reduceMod,Nat.reduceLeDiff,Nat.reduceEqDiff,and_self,and_true,true_and,Int.natCast_add,Int.reduceAdd,Int.reduceLT,Int.reduceLE,Int.reduceToNat,Int.reduceNeg,Int.toNat_zero,Int.toNat_one,Int.zero_lt_one,Int.le_refl,Int.reduceNegSucc,Int.cast_ofNat_Int,Nat.zero_add,Nat.add_zero];rfl⟩
 ·have lp:∃τ',CH (dN 6) (A0 (Ch (dOp Cy (dOp Cy (dOp Fa (Cp 0 Bw (AA (dOp Cy (AD 1) (dOp Fa (AD 6) (dC (.int 9)))) AE)) (dOp S6 (dC (.int 10)) (dC (.int 18)))) (dC (.int 1))) (dOp K7 (AD 6) (AD 6))) (dN 7)) (Ch (dOp Cy (dOp K7 (AD 5) (dC (.int 7919))) (dOp Fa (dOp Fa (dOp K7 (AD 7) (dOp BB (AD 2) (dOp Fa (AD 6) (dC (.int 8))))) (dOp BB (AD 3) (dOp Fa (AD 6) (dC (.int 8))))) (dC (.int 7919)))) (dN 5)))
    ((rng 0 60).map PyData.int) [some (.c (ns.map .int)),some (.d (.int k)),some (.d by8),some (.d pr8),some (.d (.int cell)),some (.d (.int 0)),none,none]=some (.nx τ') /\
    ∃(b:Int) (o1 o2:Option L),nM o1/\nM o2/\τ'=[some (.c (ns.map .int)),some (.d (.int k)),some (.d by8),some (.d pr8),some (.d (.int cell)),some (.d (.int b)),o1,o2]:=by
   refine MT (enc:=PyData.int) (pre:=[]) (fun _ τ=>∃(b:Int) (o1 o2:Option L),nM o1/\nM o2/\τ=[some (.c (ns.map .int)),some (.d (.int k)),some (.d by8),some (.d pr8),some (.d (.int cell)),some (.d (.int b)),o1,o2]) ⟨0,none,none,A2,A2,rfl⟩ ?_
   rintro j _ τ hj ⟨b,o1,o2,n1,n2,rfl⟩
   have hj':=(UF (n:=60)).mp hj
   have h9:0<=j % 9:=Int.emod_nonneg _ (by decide)
   obtain⟨c,hc⟩:=Mz (ns:=ns) (k:=k+j % 9) (by omega)
   obtain⟨u1,hu1,m1⟩:=WU (xs:=[48271,69621,16807,39373,21401,60493,87721,31337]) (k:=j % 8) (Int.emod_nonneg _ (by decide)) (Int.emod_lt_of_pos _ (by decide))
   obtain⟨u2,hu2,m2⟩:=WU (xs:=[99991,99989,99971,99961,99929,99923,99907,99901]) (k:=j % 8) (Int.emod_nonneg _ (by decide)) (Int.emod_lt_of_pos _ (by decide))
   have hu1':BB by8 (.int (j % 8))=some (.int u1):=hu1
   have hu2':BB pr8 (.int (j % 8))=some (.int u2):=hu2
   have m1':-(2 ^ 64)<u1/\u1<2 ^ 64:=by
    simp only[List.mem_cons,List.not_mem_nil,or_false]at m1
    omega
   have m2':0<u2:=by
    simp only[List.mem_cons,List.not_mem_nil,or_false]at m2
    omega
   have x1:K7 (.int j) (.int j)=some (.int (j*j)):=Vp (.inl (.inl ⟨by omega,by omega⟩))
   have x2:K7 (.int b) (.int 7919)=some (.int (b*7919)):=Vp (.inl (.inr ⟨by decide,by decide⟩))
   have x3:∀z:Int,K7 (.int z) (.int u1)=some (.int (z*u1)):=fun z=>Vp (.inl (.inr m1'))
   have x4:∀z:Int,Fa (.int z) (.int u2)=some (.int (z % u2)):=fun z=>RP m2'
   have x5:∀z:Int,Fa (.int z) (.int 7919)=some (.int (z % 7919)):=fun z=>RP (by decide)
   have x6:∀z:Int,Fa (.int z) (.int 9)=some (.int (z % 9)):=fun z=>RP (by decide)
   have x7:∀z:Int,Fa (.int z) (.int 8)=some (.int (z % 8)):=fun z=>RP (by decide)
   have x8:∀z:Int,Fa (.int z) (.int 1000000000000000000)=some (.int (z % 1000000000000000000)):=fun z=>RP (by decide)
   refine⟨_,[some (.c (ns.map .int)),some (.d (.int k)),some (.d by8),some (.d pr8),some (.d (.int cell)),some (.d (.int (b*7919+(c % 1000000000000000000+1+j*j)*u1 % u2 % 7919))),some (.d (.int j)),some (.d (.int (c % 1000000000000000000+1+j*j)))],CA rfl n1,?_,_,_,_,DR,DR,rfl⟩
   refine(Al (τ1:=[some (.c (ns.map .int)),some (.d (.int k)),some (.d by8),some (.d pr8),some (.d (.int cell)),some (.d (.int b)),some (.d (.int j)),some (.d (.int (c % 1000000000000000000+1+j*j)))]) (Dq (d:=.int (c % 1000000000000000000+1+j*j)) (τ1:=[some (.c (ns.map .int)),some (.d (.int k)),some (.d by8),some (.d pr8),some (.d (.int cell)),some (.d (.int b)),some (.d (.int j)),o2]) ?_ (CA rfl n2))).trans ?_
   ·simp only[dOp,AD,dC,Cp,AA,AE,Ci,Cy,fI,SL,hc,x1,x6,x8,List.getElem?_cons_zero,List.getElem?_cons_succ,List.set_cons_zero,List.set_cons_succ,Option.bind_some,Option.map_some,List.map_cons,List.map_nil]
   ·simp only[Ch,dN,dOp,AD,dC,Cy,fI,hu1',hu2',x2,x3,x4,x5,x7,List.getElem?_cons_zero,List.getElem?_cons_succ,List.set_cons_zero,List.set_cons_succ,Option.bind_some,Option.map_some]
  obtain⟨τ',e,b,o1,o2,n1,n2,rfl⟩:=lp
  refine⟨b,[.c (ns.map .int),.d (.int k)],?_⟩
  have hr:dR1 (AA (dC (.int 60)) AE) [some (.c (ns.map .int)),some (.d (.int k)),some (.d by8),some (.d pr8),some (.d (.int cell)),some (.d (.int 0)),none,none]=some ((rng 0 60).map PyData.int,[some (.c (ns.map .int)),some (.d (.int k)),some (.d by8),some (.d pr8),some (.d (.int cell)),some (.d (.int 0)),none,none]):=by
   rw[<- MI];rfl
  refine DF (τ:=[some (.c (ns.map .int)),some (.d (.int k)),some (.d by8),some (.d pr8),some (.d (.int cell)),some (.d (.int b)),o1,o2]) ?_ rfl rfl
  refine(Al rfl).trans ((Al rfl).trans ((Al (τ1:=[some (.c (ns.map .int)),some (.d (.int k)),some (.d by8),some (.d pr8),some (.d (.int cell)),none,none,none]) (Dq (O4 (xs:=ns.map .int) rfl rfl rfl hc) rfl)).trans ?_))
  refine(Al (τ1:=[some (.c (ns.map .int)),some (.d (.int k)),some (.d by8),some (.d pr8),some (.d (.int cell)),none,none,none]) ?_).trans ((Al (τ1:=[some (.c (ns.map .int)),some (.d (.int k)),some (.d by8),some (.d pr8),some (.d (.int cell)),some (.d (.int 0)),none,none]) rfl).trans ((Al ((Fq hr).trans e)).trans rfl))
  simp only[SL,hb,decide_false,C5,A0,Ch,dN,L0,Gi,B3,Gj,Mm,D8,dMt,DD,DU,JS,Fz,EK,Co,Ro,Rn,Ja,EL,Rk,AD,dC,dOp,dUn,fI,Cy,Ra,fLt,fLe,fGt,fGe,Ca,Oh,Rb,Me,Ad,BB,AR,CQ,EJ,Bz,dIf,Rp,dOr,Rm,Jb,AE,AA,Ci,BN,D7,Be,Ae,A4,Cp,Jc,dAS,mkL,nMb,isM,isC,Ih,Mp,Fe,Dc,dIL,dIT,dR1,dR2,CI,Ai,dGT,HC,Mc,Md,MZ,B2,f1,f2,Rc,Mg,Mf,Mh,DE,Rj,Ea,L1,HX,atI,ixN,FN,MK,ML,MJ,Dm,fixDs,sz',Option.bind_some,Option.bind_none,Option.map_some,Option.map_none,List.map_cons,List.map_nil,List.cons_append,List.nil_append,List.length_cons,List.length_nil,List.getElem?_cons_zero,List.getElem?_cons_succ,List.set_cons_zero,List.set_cons_succ,List.replicate_succ,List.replicate_zero,List.all_cons,List.all_nil,Bool.and_self,Bool.and_true,Bool.true_and,Bool.false_and,Bool.and_false,Bool.or_true,Bool.true_or,Bool.false_or,Bool.or_false,Bool.not_true,Bool.not_false,if_true,if_false,reduceIte,Bool.false_eq_true,Nat.reduceAdd,Nat.reduceLT,Nat.reduceSub,Nat.reduceMul,Int.reduceEq,Int.reduceSub,Int.reduceMul,Int.reducePow,Int.reduceDiv,Int.reduceMod,Nat.reduceLeDiff,Nat.reduceEqDiff,and_self,and_true,true_and,Int.natCast_add,Int.reduceAdd,Int.reduceLT,Int.reduceLE,Int.reduceToNat,Int.reduceNeg,Int.toNat_zero,Int.toNat_one,Int.zero_lt_one,Int.le_refl,Int.reduceNegSucc,Int.cast_ofNat_Int,Nat.zero_add,Nat.add_zero]
theorem XO{i:Nat}{a:DA}{τ τ1:DS}{rs:List Ar}{xs ys:List PyData}(h:a τ=some (rs,τ1))(k:Ci rs=some [.list ys])(m:τ1[i]?=some (some (.m xs)))(hz:xs.length+ys.length<=900):D8 (dMt i DU a) τ=some (.nx (τ1.set i (some (.m (xs++ys))))):=by
 have hs:xs.length+ys.length<=sizeLine:=sz (Nat.le_trans hz (by decide))
 unfold D8 dMt
 rw[h]
 show(((Ci rs).bind _)).map _=_
 rw[k]
 show((match τ1[i]? with|some (some (.m xs))=>_|_=>_):Option (PyData×DS)).map _=_
 rw[m]
 show((if xs.length+ys.length<=sizeLine then some (PyData.none,xs++ys) else none).map _).map _=_
 rw[if_pos hs]
 rfl
theorem ac1{f:DX}{τ τ1:DS}{d:PyData}(h:f τ=some (d,τ1)):AA f AE τ=some ([.d d],τ1):=by
 simp only[h,C5,A0,Ch,dN,L0,Gi,B3,Gj,Mm,D8,dMt,DD,DU,JS,Fz,EK,Co,Ro,Rn,Ja,EL,Rk,AD,dC,dOp,dUn,fI,Cy,Ra,fLt,fLe,fGt,fGe,Ca,Oh,Rb,Me,Ad,BB,AR,CQ,EJ,Bz,dIf,Rp,dOr,Rm,Jb,AE,AA,Ci,BN,D7,Be,Ae,A4,Cp,Jc,dAS,mkL,nMb,isM,isC,Ih,Mp,Fe,Dc,dIL,dIT,dR1,dR2,CI,Ai,dGT,HC,Mc,Md,MZ,B2,f1,f2,Rc,Mg,Mf,Mh,DE,Rj,Ea,R1,Nk,Nm,Og,Of,Nl,Lu,Q6,Lv,Lx,No,Nn,Lw,K2,R0,Nf,Nh,Oe,Od,Ng,Lp,Q5,Lq,Ls,Nj,Ni,Lr,K1,PB,Ky,K0,Lo,Ln,Kz,J7,L1,HX,atI,ixN,FN,MK,ML,MJ,Dm,fixDs,sz',Option.bind_some,Option.bind_none,Option.map_some,Option.map_none,List.map_cons,List.map_nil,List.cons_append,List.nil_append,List.length_cons,List.length_nil,List.getElem?_cons_zero,List.getElem?_cons_succ,List.set_cons_zero,List.set_cons_succ,List.replicate_succ,List.replicate_zero,List.all_cons,List.all_nil,Bool.and_self,Bool.and_true,Bool.true_and,Bool.false_and,Bool.and_false,Bool.or_true,Bool.true_or,Bool.false_or,Bool.or_false,Bool.not_true,Bool.not_false,if_true,if_false,reduceIte,Bool.false_eq_true,Nat.reduceAdd,Nat.reduceLT,Nat.reduceSub,Nat.reduceMul,Int.reduceEq,Int.reduceSub,Int.reduceMul,Int.reducePow,Int.reduceDiv,Int.reduceMod,Nat.reduceLeDiff,Nat.reduceEqDiff,and_self,and_true,true_and,Int.natCast_add,Int.reduceAdd,Int.reduceLT,Int.reduceLE,Int.reduceToNat,Int.reduceNeg,Int.toNat_zero,Int.toNat_one,Int.zero_lt_one,Int.le_refl,Int.reduceNegSucc,Int.cast_ofNat_Int,Nat.zero_add,Nat.add_zero]
theorem acc{f:DX}{a:DA}{τ τ1 τ2:DS}{d:PyData}{rs:List Ar}(h:f τ=some (d,τ1))(k:a τ1=some (rs,τ2)):AA f a τ=some (.d d::rs,τ2):=by
 unfold AA
 rw[h]
 show((a τ1).map _)=_
 rw[k];rfl
theorem tst{f:DX}{τ τ1:DS}{b:Bool}(h:f τ=some (.bool b,τ1)):AR f τ=some (b,τ1):=by
 unfold AR
 rw[h];rfl
theorem NB{t:DT}{τ τ1:DS}{b:Bool}(h:t τ=some (b,τ1)):Bz t τ=some (!b,τ1):=by
 unfold Bz
 rw[h];rfl
theorem op2{F:PyData->PyData->Option PyData}{f g:DX}{τ τ1 τ2:DS}{x y r:PyData}(h:f τ=some (x,τ1))(k:g τ1=some (y,τ2))(e:F x y=some r):dOp F f g τ=some (r,τ2):=by
 unfold dOp
 rw[h]
 show((g τ1).bind _)=_
 rw[k]
 show((F x y).map _)=_
 rw[e];rfl
theorem PV{x y:DT}{τ τ1 τ2:DS}(h1:x τ=some (false,τ1))(h2:y τ1=some (false,τ2)):EJ x y τ=some (false,τ2):=by
 unfold EJ
 rw[h1];exact h2
theorem Ts{np i:Nat}{e:DX}{τ τ1:DS}{xs:List PyData}(h:e τ=some (.list xs,τ1))(h1:np<=i)(h2:i<τ1.length)(h3:τ1.all okM=true):Gi np i e τ=some (.nx (τ1.set i (some (.m xs)))):=by
 unfold Gi
 rw[h]
 dsimp only[Option.bind]
 rw[if_pos ⟨h1,h2,h3⟩]
theorem WS{a b:DT}{τ:DS}{p q:Bool}(h1:a τ=some (p,τ))(h2:b τ=some (q,τ)):CQ a b τ=some (p&&q,τ):=by
 unfold CQ
 rw[h1]
 cases p with
 |true=>exact h2
 |false=>rfl
theorem NZ{α β:Type}{enc:α->PyData}{en2:β->PyData}{g:DG}{c:DT}{e:DX}(J:DS->Prop)(Z:β->Prop):∀{xs:List α} {acc:List PyData} {τ:DS},J τ ->
  (∀x τ,x∈xs->J τ->∃τ1 τ2 τ3 y,g (enc x) τ=some τ1/\c τ1=some (true,τ2)/\e τ2=some (en2 y,τ3)/\J τ3/\Z y)->∃(ys:List β) (τ':DS),BF g c e (xs.map enc) acc τ=some (acc++ys.map en2,τ')/\J τ'/\ys.length=xs.length/\∀y∈ys,Z y
 |[],acc,τ,h0,_=>⟨[],τ,by simp[BF],h0,rfl,fun y hy=>by simp at hy⟩
 |x::xs,acc,τ,h0,h=>by
  obtain⟨τ1,τ2,τ3,y,e1,e2,e3,h3,z3⟩:=h x τ List.mem_cons_self h0
  obtain⟨ys,τ',e4,h4,hl,hz⟩:=NZ J Z (xs:=xs) (acc:=acc++[en2 y]) (τ:=τ3) h3 (fun z t hz hj=>h z t (List.mem_cons_of_mem _ hz) hj)
  refine⟨y::ys,τ',?_,h4,by rw[List.length_cons,hl,List.length_cons],fun u hu=>(List.mem_cons.mp hu).elim (fun q=>q▸z3) (hz u)⟩
  rw[List.map_cons,BF,e1]
  show(c τ1).bind _=_
  rw[e2]
  show(e τ2).bind _=_
  rw[e3]
  show BF g c e (xs.map enc) (acc++[en2 y]) τ3=_
  rw[e4,List.append_assoc]
  rfl
theorem Qq{own:Nat}{f1 f2:List Nat}{j0:Nat}{it:DI}{g:DG}{c:DT}{e:DX}{τ τ1 τb:DS}{ds acc xs ys:List PyData}(h:it τ=some (ds,τ1))(hz:ds.length<=sizeLine)(hj:τ1[j0]?=some (some (.m ys)))(hm:((f1++f2).all fun j=>!isM τ1 j)=true)(hl:BF g c e ds [] (FG own (f1++j0::f2) τ1)=some (acc,τb))(hx:τb[own+f1.length]?=some (some (.m xs))) :
  Nx own f1 j0 f2 it g c e τ=some (.list acc,τ1.set j0 (some (.m xs))):=by
 unfold Nx
 rw[h]
 show(if ds.length<=sizeLine/\isM τ1 j0=true/\((f1++f2).all fun j=>!isM τ1 j)=true then _ else _)=_
 rw[if_pos ⟨hz,isM_iff.mpr ⟨.l ys,hj⟩,hm⟩,hl]
 dsimp only[Option.bind]
 rw[hx,hj]
abbrev Pc:=List (List Cl)
def eL(r:List Cl):PyData:=.list (r.map ec)
def ep(P:Pc):PyData:=.list (P.map eL)
structure OkP(P:Pc)(w h:Nat):Prop where
 len:P.length=h
 all:∀r∈P,r.length=w
def Ap(P:Pc)(x y:Int):Cl:=(P.getD y.toNat []).getD x.toNat (0,0)
def Km(P:Pc)(x y:Int)(s:Cl):Pc:=P.set y.toNat ((P.getD y.toNat []).set x.toNat s)
theorem OkP.row{P:Pc}{w h:Nat}(o:OkP P w h){y:Int}(h0:0<=y)(h1:y<h):(P.getD y.toNat []).length=w:=by
 have hk:y.toNat<P.length:=by rw[o.len];omega
 rw[List.getD_eq_getElem?_getD,List.getElem?_eq_getElem hk]
 exact o.all _ (List.getElem_mem hk)
theorem OkP.put{P:Pc}{w h:Nat}(o:OkP P w h){x y:Int}{s:Cl}(h0:0<=y)(h1:y<h):OkP (Km P x y s) w h:=by
 refine⟨by unfold Km;rw[List.length_set];exact o.len,fun r hr=>?_⟩
 unfold Km at hr
 rcases List.mem_or_eq_of_mem_set hr with hr|rfl
 ·exact o.all r hr
 ·rw[List.length_set];exact o.row h0 h1
theorem Hk{n:Nat}{i:Int}(h0:0<=i)(h1:i<n):ixN n i=some i.toNat:=by unfold ixN;rw[if_pos h0,if_pos h1]
theorem Hj{P:Pc}{w h:Nat}(o:OkP P w h){y:Int}(h0:0<=y)(h1:y<h):Ad (ep P) (.int y)=some (eL (P.getD y.toNat [])):=by
 have hk:y.toNat<P.length:=by rw[o.len];omega
 show atI (P.map eL) y=_
 unfold atI
 rw[List.length_map,Hk h0 (by rw[o.len];exact h1)]
 show(P.map eL)[y.toNat]?=_
 rw[List.getElem?_map,List.getD_eq_getElem?_getD,List.getElem?_eq_getElem hk];rfl
theorem So{cs:List Cl}{k:Int}(h0:0<=k)(h1:k<cs.length):Ad (eL cs) (.int k)=some (ec (cs.getD k.toNat (0,0))):=by
 have hk:k.toNat<cs.length:=by omega
 show atI (cs.map ec) k=_
 unfold atI
 rw[List.length_map,Hk h0 h1]
 show(cs.map ec)[k.toNat]?=_
 rw[List.getElem?_map,List.getD_eq_getElem?_getD,List.getElem?_eq_getElem hk];rfl
theorem KM{P:Pc}{w h:Nat}(o:OkP P w h){x y:Int}(h0:0<=y)(h1:y<h)(x0:0<=x)(x1:x<w):Ad (eL (P.getD y.toNat [])) (.int x)=some (ec (Ap P x y)):=So x0 (by rw[o.row h0 h1];exact x1)
theorem Tt{P:Pc}{w h:Nat}(o:OkP P w h){x y:Int}{s:Cl}(h0:0<=y)(h1:y<h)(x0:0<=x)(x1:x<w):set2 (P.map eL) y x (ec s)=some ((Km P x y s).map eL):=by
 have hk:y.toNat<P.length:=by rw[o.len];omega
 have hr:=o.row h0 h1
 have er:P.getD y.toNat []=P[y.toNat]:=by rw[List.getD_eq_getElem?_getD,List.getElem?_eq_getElem hk];rfl
 unfold set2
 rw[List.length_map,Hk h0 (by rw[o.len];exact h1),Option.bind_some,List.getElem?_map,List.getElem?_eq_getElem hk]
 show(if fixDs ((P[y.toNat]).map ec)=true then _ else _)=_
 rw[if_pos (encC.fixL _),List.length_map,<- er,Hk x0 (by rw[hr];exact x1),Option.map_some]
 unfold Km
 rw[List.map_set]
 unfold eL
 rw[List.map_set]
theorem R8{i:Nat}{e e1 e2:DX}{τ τ1 τ2 τ3:DS}{P:Pc}{w h:Nat}{x y:Int}{s:Cl}(o:OkP P w h)(hi:τ[i]?=some (some (.g (ep P))))(ha:e (τ.set i (some (.d (ep P))))=some (ec s,τ1))(hb:e1 τ1=some (.int y,τ2))(hc:e2 τ2=some (.int x,τ3))(ok:τ3.all okM=true)
  (h0:0<=y) (h1:y<h) (x0:0<=x) (x1:x<w):JZ i e e1 e2 τ=some (.nx (τ3.set i (some (.g (ep (Km P x y s)))))):=by
 unfold JZ
 rw[hi]
 show(e (τ.set i (some (.d (ep P))))).bind _=_
 rw[ha]
 show(e1 τ1).bind _=_
 rw[hb]
 show(e2 τ2).bind _=_
 rw[hc]
 show(if Dm (ec s)=true/\τ3.all okM=true then (set2 (P.map eL) y x (ec s)).map _ else none)=_
 rw[if_pos ⟨encC.fix s,ok⟩,Tt o h0 h1 x0 x1];rfl
theorem Gu{np i:Nat}{e:DX}{τ τ1:DS}{d:PyData}(h:e τ=some (d,τ1))(h1:np<=i)(h2:i<τ1.length)(h3:τ1.all okM=true):EZ np i e τ=some (.nx (τ1.set i (some (.g d)))):=by
 unfold EZ
 rw[h]
 show(if np<=i/\i<τ1.length/\τ1.all okM=true then _ else _)=_
 rw[if_pos ⟨h1,h2,h3⟩]
theorem QY{P:Pc}{τ:DS}{i:Nat}(hi:τ[i]?=some (some (.d (ep P))))(hz:P.length<=1000):dLC 1 [] (dIL (AD i)) (dN 0) Dc (dFx (Be DE (AA (AD 0) AE))) τ=some (ep P,τ):=by
 obtain ⟨τb, el⟩ := E1 (enc := eL) (g := dN 0) (c := Dc) (e := dFx (Be DE (AA (AD 0) AE))) (fun τ => ∃ o, nM o /\ τ = [o]) (fun _ => true) eL (xs := P) (acc := []) (τ := [none]) ⟨none, A2, rfl⟩ (by
  rintro r τ _ ⟨o,ho,rfl⟩
  refine⟨_,[some (.d (eL r))],CA (o:=o) rfl ho,rfl,fun z=>(nomatch z),fun _=>⟨[some (.d (eL r))],?_,_,DR,rfl⟩⟩
  show(if fixDs (r.map ec)=true then _ else _)=_
  rw[if_pos (encC.fixL r)];rfl)
 rw[List.nil_append,List.filter_eq_self.mpr (fun _ _=>rfl)]at el
 have h1:dIL (AD i) τ=some (P.map eL,τ):=by
  unfold dIL AD
  rw[hi];rfl
 exact JV (τb:=τb) h1 (by rw[List.length_map];exact sz hz) rfl el
theorem VP:∀P:Pc,PyData.canLayAll0 (P.map eL)=true
 |[]=>rfl
 |r::P=>by
  rw[List.map_cons,PyData.canLayAll0,VP P]
  unfold eL
  rw[PyData.canLay0,encC.canL];rfl
theorem VO:∀P:Pc,PyData.depthAll (P.map eL)<=21
 |[]=>Nat.zero_le _
 |r::P=>by
  rw[List.map_cons,PyData.depthAll]
  have:=VO P
  have:(eL r).depth<=21:=by unfold eL;rw[PyData.depth];have:=encC.depL r;omega
  omega
theorem VQ(r:List Cl):(eL r).canLay0=true:=by unfold eL;rw[PyData.canLay0];exact encC.canL r
theorem S8(r:List Cl):PyData.eqv (eL r) (eL r)=true:=by
 unfold eL;rw[encC.eqL];simp
theorem S9:∀P:Pc,PyData.eqvAll (P.map eL) (P.map eL)=true
 |[]=>rfl
 |r::P=>by rw[List.map_cons,PyData.eqvAll,S8,S9 P];rfl
theorem S7(P:Pc):PyData.eqv (ep P) (ep P)=true:=by
 unfold ep;rw[PyData.eqv];exact S9 P
theorem SO(P:Pc):(ep P).canLay0=true:=by unfold ep;rw[PyData.canLay0];exact VP P
theorem SN(P:Pc):(ep P).depth<=22:=by unfold ep;rw[PyData.depth];have:=VO P;omega
theorem SX{d:PyData}(h1:d.canLay0=true)(h2:d.depth<=40):okD d=true:=by
 unfold okD SeqAt.shaped
 rw[Bool.and_eq_true]
 exact⟨h1,decide_eq_true (Nat.le_trans h2 (by decide))⟩
theorem Ol{d:PyData}(h1:d.canLay0=true)(h2:d.depth<=40)(h3:PyData.eqv d d=true):fNe d d=some (.bool false):=by
 unfold DL.fNe;rw[SX h1 h2,h3];rfl
def sh4:List Cl:=[(0,1),(1,1),(1,2),(2,3)]
theorem VY{o:Option L}{cs:List Cl}{u many w:Int}(hm:many=cs.length)(h1:1<=many)(h4:many<=4)(w1:1<=w)(w9:w<=9) :
  ∃(r:List Cl) (u':Int),Nx 1 [1] 2 [3] (dR1 (AA (AD 4) AE)) (dN 0) Dc (dOp Ad (AD 1) (A4 2 Ah (AA (AD 3) AE))) [o,some (.d (eL cs)),some (.m [.int u]),some (.d (.int many)),some (.d (.int w))]=some (eL r,[o,some (.d (eL cs)),some (.m [.int u']),some (.d (.int many)),some (.d (.int w))])/\r.length=w.toNat:=by
 obtain ⟨r, τ', el, ⟨o', u', ho', rfl⟩, hl, _⟩ := NZ (enc := PyData.int) (en2 := ec) (g := dN 0) (c := Dc) (e := dOp Ad (AD 1) (A4 2 Ah (AA (AD 3) AE))) (fun τ => ∃ o u, nM o /\ τ = [o, some (.d (eL cs)), some (.m [.int u]), some (.d (.int many))]) (fun _ => True) (xs := rng 0 w.toNat) (acc := []) (τ := [none, some (.d (eL cs)), some (.m [.int u]), some (.d (.int many))]) ⟨none, u, A2, rfl⟩ (by
  rintro k τ _ ⟨o,u,ho,rfl⟩
  have e:=Im (v:=u) (m:=many) (by omega) (by omega)
  have e2:=So (cs:=cs) (k:=u % many) (Int.emod_nonneg _ (by omega)) (by rw[<- hm];exact Int.emod_lt_of_pos _ (by omega))
  refine⟨[some (.d (.int k)),some (.d (eL cs)),some (.m [.int u]),some (.d (.int many))],[some (.d (.int k)),some (.d (eL cs)),some (.m [.int u]),some (.d (.int many))],[some (.d (.int k)),some (.d (eL cs)),some (.m [.int (u / many)]),some (.d (.int many))],cs.getD (u % many).toNat (0,0),CA (o:=o) rfl ho,rfl,?_,⟨_,_,DR,rfl⟩,trivial⟩
  exact op2 (τ1:=[some (.d (.int k)),some (.d (eL cs)),some (.m [.int u]),some (.d (.int many))]) rfl (B1 (τ1:=[some (.d (.int k)),some (.d (eL cs)),some (.m [.int u]),some (.d (.int many))]) (rs:=[.d (.int many)]) (ds:=[.int many]) (xs:=[.int u]) rfl rfl rfl e) e2)
 rw[List.nil_append]at el
 refine⟨r,u',Qq (τ1:=[o,some (.d (eL cs)),some (.m [.int u]),some (.d (.int many)),some (.d (.int w))]) (Kf (n:=w) rfl (by omega) (by omega)) (by rw[List.length_map,C9];exact sz (by omega)) rfl rfl el rfl,?_⟩
 rw[hl,C9]
theorem Ki{v w h:Int}(w1:1<=w)(w9:w<=9)(h1:1<=h)(h6:h<=9):∃(P:Pc) (v':Int),BZ [.m [.int v],.d (.int w),.d (.int h)]=some (ep P,[.m [.int v'],.d (.int w),.d (.int h)])/\OkP P w.toNat h.toNat:=by
 have hv:v % 4=0\/v % 4=1\/v % 4=2\/v % 4=3:=by omega
 let many:Int:=1+v % 4
 have hmany:many=1\/many=2\/many=3\/many=4:=by
  show 1+v % 4=1\/_
  omega
 let cs:List Cl:=sh4.take many.toNat
 have hcs:many=cs.length:=by
  rcases hmany with e|e|e|e<;>(show many=((sh4.take many.toNat).length:Nat);rw[e];rfl)
 let st:=fun(u:Int) (s:Option L)=>[some (.m [.int u]),some (.d (.int w)),some (.d (.int h)),some (.d (.int many)),s]
 have sl:dSl (D7 (AA (BN (AA (dC (.int 0)) (AA (dC (.int 1)) AE))) (AA (BN (AA (dC (.int 1)) (AA (dC (.int 1)) AE))) (AA (BN (AA (dC (.int 1)) (AA (dC (.int 2)) AE))) (AA (BN (AA (dC (.int 2)) (AA (dC (.int 3)) AE))) AE))))) V7 (dPt (AD 3)) (st (v / 4) none)=some (eL cs,st (v / 4) none):=by
  show dSl _ _ _ [some (.m [.int (v / 4)]),some (.d (.int w)),some (.d (.int h)),some (.d (.int many)),none]=some (eL (sh4.take many.toNat),[some (.m [.int (v / 4)]),some (.d (.int w)),some (.d (.int h)),some (.d (.int many)),none])
  generalize many=k at hmany
  rcases hmany with rfl|rfl|rfl|rfl<;>rfl
 obtain ⟨P, τ', el, ⟨o', u', ho', rfl⟩, hl, hz⟩ := NZ (enc := PyData.int) (en2 := eL) (g := dN 0) (c := Dc) (e := Nx 1 [1] 2 [3] (dR1 (AA (AD 4) AE)) (dN 0) Dc (dOp Ad (AD 1) (A4 2 Ah (AA (AD 3) AE)))) (fun τ => ∃ o u, nM o /\ τ = [o, some (.d (eL cs)), some (.m [.int u]), some (.d (.int many)), some (.d (.int w))]) (fun r => r.length = w.toNat) (xs := rng 0 h.toNat) (acc := []) (τ := [none, some (.d (eL cs)), some (.m [.int (v / 4)]), some (.d (.int many)), some (.d (.int w))]) ⟨none, v / 4, A2, rfl⟩ (by
  rintro k τ _ ⟨o,u,ho,rfl⟩
  obtain⟨r,u',e,hr⟩:=VY (o:=some (.d (.int k))) (u:=u) (w:=w) hcs (by omega) (by omega) w1 w9
  exact⟨_,[some (.d (.int k)),some (.d (eL cs)),some (.m [.int u]),some (.d (.int many)),some (.d (.int w))],_,r,CA (o:=o) rfl ho,rfl,e,⟨_,_,DR,rfl⟩,hr⟩)
 rw[List.nil_append]at el
 refine⟨P,u',?_,⟨by rw[hl,C9],hz⟩⟩
 unfold BZ
 refine DF (τ:=st u' (some (.d (eL cs)))) ?_ rfl rfl
 refine(Al (τ1:=st (v / 4) none) ?_).trans ((Al (τ1:=st (v / 4) (some (.d (eL cs)))) (Dq sl rfl)).trans (GK ?_))
 ·exact Dq (op2 (x:=.int 1) (y:=.int (v % 4)) rfl (B1 (τ1:=[some (.m [.int v]),some (.d (.int w)),some (.d (.int h)),none,none]) (rs:=[.d (.int 4)]) (ds:=[.int 4]) (xs:=[.int v]) rfl rfl rfl (Im (by decide) (by decide))) rfl) rfl
 ·exact Qq (τ1:=st (v / 4) (some (.d (eL cs)))) (Kf (n:=h) rfl (by omega) (by omega)) (by rw[List.length_map,C9];exact sz (by omega)) rfl rfl el rfl
theorem OX{P:Pc}{w h:Nat}(o:OkP P w h)(h1:1<=h){τ:DS}(ht:τ[1]?=some (some (.d (ep P)))):Be B2 (AA (dOp Ad (AD 1) (dC (.int 0))) AE) τ=some (.int (w:Int),τ):=by
 have e:=Hj o (y:=0) (by omega) (by omega)
 have hv:AD 1 τ=some (ep P,τ):=by unfold AD;rw[ht]
 have e2:=op2 (f:=AD 1) (g:=dC (.int 0)) hv rfl e
 have hr:=o.row (y:=0) (by omega) (by omega)
 unfold Be
 rw[ac1 e2]
 show some (PyData.int (((P.getD (0:Int).toNat []).map ec).length:Nat),τ)=_
 rw[List.length_map,hr]
theorem Sg{P:Pc}{w h:Nat}(o:OkP P w h){τ:DS}(ht:τ[1]?=some (some (.d (ep P)))):Be B2 (AA (AD 1) AE) τ=some (.int (h:Int),τ):=by
 have hv:AD 1 τ=some (ep P,τ):=by unfold AD;rw[ht]
 unfold Be
 rw[ac1 hv]
 show some (PyData.int ((P.map eL).length:Nat),τ)=_
 rw[List.length_map,o.len]
theorem T9{P:Pc}{w h:Nat}{v:Int}(o:OkP P w h)(w1:1<=w)(w9:w<=9)(h1:1<=h)(h9:h<=9):∃(Q:Pc) (v':Int),DJ [.m [.int v],.d (ep P)]=some (ep Q,[.m [.int v'],.d (ep P)])/\OkP Q w h:=by
 let st:=fun(u:Int) (Q:Pc) (a b:Option L)=>[some (.m [.int u]),some (.d (ep P)),some (.g (ep Q)),a,b]
 have lp:∃τ',CH (dN 3) (A0 (Ch (A4 0 Ah (AA (Be B2 (AA (dOp Ad (AD 1) (dC (.int 0))) AE)) AE)) (dN 4)) (JZ 2 (dOp Ad (D7 (AA (BN (AA (dC (.int 0)) (AA (dC (.int 1)) AE))) (AA (BN (AA (dC (.int 1)) (AA (dC (.int 2)) AE))) (AA (BN (AA (dC (.int 1)) (AA (dC (.int 3)) AE))) AE)))) (A4 0 Ah (AA (dC (.int 3)) AE))) (A4 0 Ah (AA (Be B2 (AA (AD 1) AE)) AE)) (AD 4))) ((rng 0 (v % 7).toNat).map PyData.int) (st (v / 7) P none none)=some (.nx τ')/\∃u Q a b,nM a/\nM b/\OkP Q w h/\τ'=st u Q a b:=by
  refine D2 (fun(_:List Int) τ=>∃u Q a b,nM a/\nM b/\OkP Q w h/\τ=st u Q a b) ⟨v / 7,P,none,none,A2,A2,o,rfl⟩ ?_
  rintro pre k post τ _ ⟨u,Q,a,b,ha,hb,oQ,rfl⟩
  have hw:(0:Int)<w:=by omega
  have hh:(0:Int)<h:=by omega
  have x0:=Int.emod_nonneg u (b:=(w:Int)) (by omega)
  have x1:=Int.emod_lt_of_pos u hw
  have hk3:(u / w) % 3=0\/(u / w) % 3=1\/(u / w) % 3=2:=by omega
  obtain⟨s,hs⟩:∃s:Cl,Ad (.list [.tuple [.int 0,.int 1],.tuple [.int 1,.int 2],.tuple [.int 1,.int 3]]) (.int (u / w % 3))=some (ec s):=by
   rcases hk3 with e|e|e<;>rw[e]
   ·exact⟨(0,1),rfl⟩
   ·exact⟨(1,2),rfl⟩
   ·exact⟨(1,3),rfl⟩
  have y0:=Int.emod_nonneg (u / w / 3) (b:=(h:Int)) (by omega)
  have y1:=Int.emod_lt_of_pos (u / w / 3) hh
  refine⟨st u Q (some (.d (.int k))) b,st (u / w / 3 / h) (Km Q (u % w) (u / w / 3 % h) s) (some (.d (.int k))) (some (.d (.int (u % w)))),CA (o:=a) rfl ha,?_,_,_,_,_,DR,DR,oQ.put y0 y1,rfl⟩
  refine(Al (τ1:=st (u / w) Q (some (.d (.int k))) (some (.d (.int (u % w))))) ?_).trans ?_
  ·exact Dq (B1 (τ1:=st u Q (some (.d (.int k))) b) (ds:=[.int (w:Int)]) (xs:=[.int u]) (ac1 (OX o h1 rfl)) rfl rfl (Im hw (by omega))) (CA (o:=b) rfl hb)
  ·let sf:=fun(u':Int)=>[some (L.m [.int u']),some (.d (ep P)),some (.d (ep Q)),some (.d (.int k)),some (.d (.int (u % w)))]
   exact R8 (τ1:=sf (u / w / 3)) (τ2:=sf (u / w / 3 / h)) (τ3:=sf (u / w / 3 / h)) oQ rfl (op2 (τ1:=sf (u / w)) rfl (B1 (τ1:=sf (u / w)) (rs:=[.d (.int 3)]) (ds:=[.int 3]) (xs:=[.int (u / w)]) rfl rfl rfl (Im (by decide) (by decide))) hs) (B1 (τ1:=sf (u / w / 3)) (ds:=[.int (h:Int)]) (xs:=[.int (u / w / 3)]) (ac1 (Sg o rfl)) rfl rfl (Im hh (by omega))) rfl rfl y0 y1 x0 x1
 obtain⟨τ',e,u,Q,a,b,ha,hb,oQ,rfl⟩:=lp
 refine⟨Q,u,?_,oQ⟩
 unfold DJ
 refine DF (τ:=st u Q a b) ?_ rfl rfl
 have z0:=Int.emod_nonneg v (b:=7) (by decide)
 have z1:=Int.emod_lt_of_pos v (b:=7) (by decide)
 refine(Al (τ1:=st v P none none) (Gu (QY rfl (by rw[o.len];omega)) (by decide) (by show 2<5;decide) rfl)).trans ?_
 refine(Al ((Fq (τ1:=st (v / 7) P none none) (Kf (n:=v % 7) (ac1 (B1 (τ1:=st v P none none) (rs:=[.d (.int 7)]) (ds:=[.int 7]) (xs:=[.int v]) rfl rfl rfl (Im (by decide) (by decide)))) (by omega) (by omega))).trans e)).trans rfl
theorem QM{P:Pc}{w h:Nat}{v:Int}(o:OkP P w h)(w1:1<=w)(w9:w<=9)(h1:1<=h)(h9:h<=9):∃(Q:Pc) (v':Int),Ck [.m [.int v],.d (ep P)]=some (ep Q,[.m [.int v'],.d (ep P)])/\OkP Q w h:=by
 let st:=fun(u:Int)=>[some (L.m [.int u]),some (.d (ep P))]
 have t:AR (dOp fEq (A4 0 Ah (AA (dC (.int 3)) AE)) (dC (.int 0))) (st v)=some (decide (v % 3=0),st (v / 3)) :=
  tst (op2 (B1 (τ1:=st v) (rs:=[.d (.int 3)]) (ds:=[.int 3]) (xs:=[.int v]) rfl rfl rfl (Im (by decide) (by decide))) rfl (encI.fEq (v % 3) 0))
 unfold Ck
 by_cases hv:v % 3=0
 ·obtain⟨Q,u,e,oQ⟩:=Ki (v:=v / 3) (w:=w) (h:=h) (by omega) (by omega) (by omega) (by omega)
  rw[Int.toNat_natCast,Int.toNat_natCast]at oQ
  refine⟨Q,u,DF (τ:=st u) ?_ rfl rfl,oQ⟩
  rw[decide_eq_true hv]at t
  have la:=acc (OX o h1 (τ:=st (v / 3)) rfl) (ac1 (Sg o (τ:=st (v / 3)) rfl))
  exact VW ((Qh t).trans (GK (B1 (ds:=[.int (w:Int),.int (h:Int)]) (xs:=[.int (v / 3)]) la rfl rfl e)))
 ·obtain⟨Q,u,e,oQ⟩:=T9 (v:=v / 3) o w1 w9 h1 h9
  refine⟨Q,u,DF (τ:=st u) ?_ rfl rfl,oQ⟩
  rw[decide_eq_false hv]at t
  exact(Al ((FV t).trans rfl)).trans (GK (B1 (τ1:=st (v / 3)) (rs:=[.d (ep P)]) (ds:=[ep P]) (xs:=[.int (v / 3)]) rfl rfl rfl e))
theorem Ua{P:Pc}(hz:P.length<=1000):Au [.d (ep P)]=some (ep P,[.d (ep P)]):=by
 unfold Au
 exact DF (τ:=[some (.d (ep P))]) (GK (QY rfl hz)) rfl rfl
theorem Wx{p:Cl}{o1 o2:Option L}(h1:nM o1)(h2:nM o2):dGT (Ai (dN 0) (Ai (dN 1) CI)) (ec p) [o1,o2]=some [some (.d (.int p.1)),some (.d (.int p.2))]:=by
 show((dN 0 (.int p.1) [o1,o2]).bind fun τ1=>(dN 1 (.int p.2) τ1).bind fun τ2=>some τ2)=_
 rw[CA (o:=o1) rfl h1]
 show((dN 1 (.int p.2) [some (.d (.int p.1)),o2]).bind fun τ2=>some τ2)=_
 rw[CA (o:=o2) rfl h2]
 rfl
theorem lcq{cs:List Cl}{τ:DS}{e:DX}{i:Nat}(f:Cl->PyData)(h:dIL (AD i) τ=some (cs.map ec,τ))(hz:cs.length<=1000)(he:∀p:Cl,e [some (.d (.int p.1)),some (.d (.int p.2))]=some (f p,[some (.d (.int p.1)),some (.d (.int p.2))])) :
  dLC 2 [] (dIL (AD i)) (dGT (Ai (dN 0) (Ai (dN 1) CI))) Dc e τ=some (.list (cs.map f),τ):=by
 obtain ⟨τb, el⟩ := E1 (enc := ec) (g := dGT (Ai (dN 0) (Ai (dN 1) CI))) (c := Dc) (e := e) (fun τ => ∃ o1 o2, nM o1 /\ nM o2 /\ τ = [o1, o2]) (fun _ => true) f (xs := cs) (acc := []) (τ := [none, none]) ⟨none, none, A2, A2, rfl⟩ (by
  rintro x τ _ ⟨o1,o2,h1,h2,rfl⟩
  exact⟨_,[some (.d (.int x.1)),some (.d (.int x.2))],Wx h1 h2,rfl,fun z=>(nomatch z),fun _=>⟨_,he x,_,_,DR,DR,rfl⟩⟩)
 rw[List.nil_append,List.filter_eq_self.mpr (fun _ _=>rfl)]at el
 exact JV (ds:=cs.map ec) (τ1:=τ) (τb:=τb) h (by rw[List.length_map];exact sz hz) rfl el
def sw(p:Cl):List Int:=[p.2,p.1]
def us(k:List Int):Cl:=(k.getD 1 0,k.getD 0 0)
theorem QZ:∀cs:List Cl,Kv (cs.map fun p=>PyData.tuple [.int p.2,.int p.1])=some (cs.map sw)
 |[]=>rfl
 |c::cs=>by
  rw[List.map_cons,Kv,QZ cs]
  rfl
def rbr(cs:List Cl):List Cl:=(Kb (D1 (cs.map sw))).map us
theorem srt_mem{cs:List Cl}{k:List Int}:k∈Kb (D1 (cs.map sw))↔∃p∈cs,sw p=k:=by
 rw[(FM _).mem_iff,mem_once,List.mem_map]
theorem mem_rbr{cs:List Cl}{p:Cl}:p∈rbr cs↔p∈cs:=by
 unfold rbr
 rw[List.mem_map]
 constructor
 ·rintro⟨k,hk,rfl⟩
  obtain⟨q,hq,rfl⟩:=srt_mem.mp hk
  exact hq
 ·intro h
  exact⟨sw p,srt_mem.mpr ⟨p,h,rfl⟩,rfl⟩
theorem lex_sw{p q:Cl}:HT.lexLt (sw p) (sw q)=true↔lt2 p q:=by
 unfold sw lt2
 rw[HT.lexLt_cons,HT.lexLt_cons]
 by_cases e:p.2=q.2
 ·rw[if_pos e]
  by_cases e1:p.1=q.1
  ·rw[if_pos e1]
   have:HT.lexLt [] ([]:List Int)=false:=rfl
   rw[this]
   constructor
   ·intro z;cases z
   ·omega
  ·rw[if_neg e1,decide_eq_true_eq];omega
 ·rw[if_neg e,decide_eq_true_eq];omega
theorem PN(cs:List Cl):(rbr cs).Pairwise lt2:=by
 unfold rbr
 rw[List.pairwise_map]
 refine(List.Pairwise.and_mem.mp (GI (ER (cs.map sw)))).imp ?_
 rintro a b ⟨ha,hb,h⟩
 obtain⟨p,_,rfl⟩:=srt_mem.mp ha
 obtain⟨q,_,rfl⟩:=srt_mem.mp hb
 exact lex_sw.mp h
theorem VZ{cs l:List Cl}(h:l.Pairwise lt2)(m:∀p,p∈l↔p∈cs):rbr cs=l:=He Kt (PN cs) h fun p=>mem_rbr.trans (m p).symm
theorem Ko:∀(l:List (List Int)),(D1 l).length<=l.length
 |[]=>Nat.le_refl _
 |x::r=>by
  have:=Ko r
  unfold D1
  split
  ·exact Nat.le_succ_of_le this
  ·exact Nat.succ_le_succ this
theorem QA(cs:List Cl):(rbr cs).length<=cs.length:=by
 unfold rbr
 rw[List.length_map,(FM _).length_eq]
 have:=Ko (cs.map sw)
 rw[List.length_map]at this
 exact this
theorem Wa{cs:List Cl}{f:DX}{τ τ1:DS}(h:f τ=some (.list (cs.map fun p=>PyData.tuple [.int p.2,.int p.1]),τ1))(hz:cs.length<64):dSS f τ=some (.list ((rbr cs).map fun p=>PyData.tuple [.int p.2,.int p.1]),τ1):=by
 unfold dSS
 rw[h]
 show(Kv (cs.map fun p=>PyData.tuple [.int p.2,.int p.1])).bind _=_
 rw[QZ]
 show(if _ then _ else _)=_
 have ol:=Ko (cs.map sw)
 rw[List.length_map]at ol
 rw[if_pos]
 ·have e:(Kb (D1 (cs.map sw))).map KT=(rbr cs).map fun p=>PyData.tuple [.int p.2,.int p.1]:=by
   unfold rbr
   rw[List.map_map]
   refine List.map_congr_left fun k hk=>?_
   obtain⟨q,_,rfl⟩:=srt_mem.mp hk
   rfl
  rw[e]
 ·refine⟨by rw[List.length_map];omega,by omega,?_,?_⟩
  ·intro k hk
   obtain⟨p,hp,rfl⟩:=List.mem_map.mp hk
   cases cs with
   |nil=>simp at hp
   |cons c cs=>rfl
  ·cases cs with
   |nil=>decide
   |cons c cs=>show 1<=2;decide
def te(p:Cl):PyData:=.tuple [.int p.2,.int p.1]
theorem LY{cs:List Cl}(hz:cs.length<64):Ct [.d (.list (cs.map ec))]=some (.list ((rbr cs).map ec),[.d (.list (cs.map ec))]):=by
 have hl:=QA cs
 have e1:dLC 2 [] (dIL (AD 0)) (dGT (Ai (dN 0) (Ai (dN 1) CI))) Dc (BN (AA (AD 1) (AA (AD 0) AE))) [some (.d (.list (cs.map ec))),none]=some (.list (cs.map fun p=>PyData.tuple [.int p.2,.int p.1]),[some (.d (.list (cs.map ec))),none]) :=
  lcq (fun p=>PyData.tuple [.int p.2,.int p.1]) rfl (by omega) fun p=>rfl
 have e2:((rbr cs).map fun p=>PyData.tuple [.int p.2,.int p.1])=((rbr cs).map fun p=>((p.2,p.1):Cl)).map ec:=by rw[List.map_map];rfl
 unfold Ct
 refine DF (τ:=[some (.d (.list (cs.map ec))),some (.d (.list (((rbr cs).map fun p=>((p.2,p.1):Cl)).map ec)))]) ?_ rfl rfl
 refine(Al (τ1:=[some (.d (.list (cs.map ec))),some (.d (.list (((rbr cs).map fun p=>((p.2,p.1):Cl)).map ec)))]) (Dq (Wa e1 hz) (by rw[e2];rfl))).trans ?_
 refine GK ?_
 have:=lcq (cs:=(rbr cs).map fun p=>((p.2,p.1):Cl)) (τ:=[some (.d (.list (cs.map ec))),some (.d (.list (((rbr cs).map fun p=>((p.2,p.1):Cl)).map ec)))]) (i:=1) (e:=BN (AA (AD 1) (AA (AD 0) AE))) (fun p=>PyData.tuple [.int p.2,.int p.1]) rfl (by rw[List.length_map];omega) fun p=>rfl
 have e3:(rbr cs).map ec=((rbr cs).map fun p=>((p.2,p.1):Cl)).map fun p=>PyData.tuple [.int p.2,.int p.1]:=by rw[List.map_map];rfl
 rw[e3]
 exact this
structure Sx where
 x:Int
 y:Int
 m:Int
 deriving DecidableEq
def es(s:Sx):PyData:=.tuple [.int s.x,.int s.y,.int s.m]
def GZ(l:List Sx):List Cl:=l.flatMap fun s=>GA s.x s.y s.m.toNat
def stS(l:List Sx)(c:Cl):List Sx:=match l.getLast? with
 |some s=>if c=(s.x+s.m,s.y) then l.dropLast++[⟨s.x,s.y,s.m+1⟩] else l++[⟨c.1,c.2,1⟩]
 |none=>l++[⟨c.1,c.2,1⟩]
def Dz(cs:List Cl):List Sx:=cs.foldl stS []
theorem MB(cs:List Cl)(c:Cl):Dz (cs++[c])=stS (Dz cs) c:=by unfold Dz;rw[List.foldl_append];rfl
theorem OC(x y m:Int)(h:0<=m):GA x y (m+1).toNat=GA x y m.toNat++[(x+m,y)]:=by
 unfold GA rng
 rw[show(m+1).toNat=m.toNat+1 by omega,List.range_succ]
 simp
 omega
theorem HB(l:List Sx)(s:Sx):GZ (l++[s])=GZ l++GA s.x s.y s.m.toNat:=by unfold GZ;rw[List.flatMap_append];simp
theorem R5(c:Cl):stS [] c=[⟨c.1,c.2,1⟩]:=rfl
theorem KI(l:List Sx)(s:Sx)(c:Cl):stS (l++[s]) c=if c=(s.x+s.m,s.y) then l++[⟨s.x,s.y,s.m+1⟩] else l++[s]++[⟨c.1,c.2,1⟩]:=by
 unfold stS
 rw[List.getLast?_concat,List.dropLast_concat]
structure Js(rs pre:List Cl)(acc:List Sx):Prop where
 flat:GZ acc=pre
 pos:∀s∈acc,1<=s.m
 lo:∀s∈acc,(s.x-1,s.y)∉rs
 hi:∀s∈acc.dropLast,(s.x+s.m,s.y)∉rs
theorem adj{P post:List Cl}{a c q:Cl}(h:(P++a::c::post).Pairwise lt2)(h1:lt2 a q)(h2:lt2 q c):q∉P++a::c::post:=by
 obtain⟨p1,p2,p3⟩:=List.pairwise_append.mp h
 obtain⟨p4,p5⟩:=List.pairwise_cons.mp p2
 obtain⟨p6,p7⟩:=List.pairwise_cons.mp p5
 intro hq
 rcases List.mem_append.mp hq with hq|hq
 ·exact Kt _ _ h1 (p3 q hq a List.mem_cons_self)
 ·rcases List.mem_cons.mp hq with e|hq
  ·subst e;exact Kt _ _ h1 h1
  ·rcases List.mem_cons.mp hq with e|hq
   ·subst e;exact Kt _ _ h2 h2
   ·exact Kt _ _ h2 (p6 q hq)
theorem Qb{rs pre:List Cl}{l:List Sx}{s:Sx}(J:Js rs pre (l++[s])):∃P,pre=P++[(s.x+s.m-1,s.y)]:=by
 have hm:=J.pos s (List.mem_append_right _ List.mem_cons_self)
 have f:=J.flat
 rw[HB,show s.m=s.m-1+1 by omega,OC _ _ _ (by omega),<- List.append_assoc]at f
 exact⟨_,by rw[<- f,show s.x+(s.m-1)=s.x+s.m-1 by omega]⟩
theorem UI{rs pre post:List Cl}{c:Cl}{acc:List Sx}(hs:rs.Pairwise lt2)(e:rs=pre++c::post)(J:Js rs pre acc):Js rs (pre++[c]) (stS acc c):=by
 rcases List.eq_nil_or_concat acc with rfl|⟨l,s,rfl⟩
 ·have hp:pre=[]:=J.flat.symm
  subst hp
  rw[R5]
  refine⟨?_,fun s hs'=>?_,fun s hs'=>?_,fun s hs'=>(List.not_mem_nil hs').elim⟩
  ·show GA c.1 c.2 1++[]=_
   unfold GA rng
   simp
  ·rw[List.mem_singleton.mp hs'];exact Int.le_refl _
  ·rw[List.mem_singleton.mp hs',e]
   rw[e]at hs
   obtain⟨p1,_⟩:=List.pairwise_cons.mp hs
   intro hq
   rcases List.mem_cons.mp hq with q|q
   ·have:=congrArg Prod.fst q;dsimp only at this;omega
   ·have:=p1 _ q;unfold lt2 at this;dsimp only at this;omega
 ·rw[List.concat_eq_append]at J ⊢
  obtain⟨P,hP⟩:=Qb J
  have e2:rs=P++(s.x+s.m-1,s.y)::c::post:=by rw[e,hP,List.append_assoc];rfl
  have hm:=J.pos s (List.mem_append_right _ List.mem_cons_self)
  rw[KI]
  by_cases hc:c=(s.x+s.m,s.y)
  ·rw[if_pos hc]
   refine⟨?_,fun t ht=>?_,fun t ht=>?_,fun t ht=>?_⟩
   ·have f:=J.flat
    rw[HB]at f ⊢
    show GZ l++GA s.x s.y (s.m+1).toNat=_
    rw[OC _ _ _ (by omega),<- List.append_assoc,f,hc]
   ·rcases List.mem_append.mp ht with ht|ht
    ·exact J.pos t (List.mem_append_left _ ht)
    ·rw[List.mem_singleton.mp ht];show 1<=s.m+1;omega
   ·rcases List.mem_append.mp ht with ht|ht
    ·exact J.lo t (List.mem_append_left _ ht)
    ·rw[List.mem_singleton.mp ht];exact J.lo s (List.mem_append_right _ List.mem_cons_self)
   ·rw[List.dropLast_concat]at ht
    exact J.hi t (by rw[List.dropLast_concat];exact ht)
  ·rw[if_neg hc]
   have hs2:=hs
   rw[e2]at hs2
   have lt:lt2 (s.x+s.m-1,s.y) c:=by
    obtain⟨_,p2,_⟩:=List.pairwise_append.mp hs2
    exact(List.pairwise_cons.mp p2).1 c List.mem_cons_self
   have hc':¬(c.1=s.x+s.m/\c.2=s.y):=fun z=>hc (Prod.ext z.1 z.2)
   refine⟨?_,fun t ht=>?_,fun t ht=>?_,fun t ht=>?_⟩
   ·rw[HB,J.flat]
    show pre++GA c.1 c.2 1=_
    unfold GA rng
    simp
   ·rcases List.mem_append.mp ht with ht|ht
    ·exact J.pos t ht
    ·rw[List.mem_singleton.mp ht];exact Int.le_refl _
   ·rcases List.mem_append.mp ht with ht|ht
    ·exact J.lo t ht
    ·rw[List.mem_singleton.mp ht,e2]
     refine adj hs2 ?_ ?_<;>unfold lt2 at*<;> dsimp only at*<;> omega
   ·rw[List.dropLast_concat]at ht
    rcases List.mem_append.mp ht with ht|ht
    ·exact J.hi t (by rw[List.dropLast_concat];exact ht)
    ·rw[List.mem_singleton.mp ht,e2]
     refine adj hs2 ?_ ?_<;>unfold lt2 at*<;> dsimp only at*<;> omega
theorem Vw(rs:List Cl):Js rs [] []:=⟨rfl,fun s h=>(List.not_mem_nil h).elim,fun s h=>(List.not_mem_nil h).elim,fun s h=>(List.not_mem_nil h).elim⟩
theorem Sm{rs:List Cl}(hs:rs.Pairwise lt2):∀(post pre:List Cl) (acc:List Sx),rs=pre++post->Js rs pre acc->Js rs rs (post.foldl stS acc)
 |[],pre,acc,e,J=>by rw[List.append_nil]at e;subst e;exact J
 |c::post,pre,acc,e,J=>Sm hs post (pre++[c]) (stS acc c) (by rw[e,List.append_assoc];rfl) (UI hs e J)
theorem Ka{rs:List Cl}(hs:rs.Pairwise lt2):GZ (Dz rs)=rs/\(∀s∈Dz rs,1<=s.m/\(s.x-1,s.y)∉rs/\(s.x+s.m,s.y)∉rs):=by
 have J:Js rs rs (Dz rs):=Sm hs rs [] [] rfl (Vw rs)
 refine⟨J.flat,fun s hs'=>⟨J.pos s hs',J.lo s hs',?_⟩⟩
 rcases List.eq_nil_or_concat (Dz rs)with e|⟨l,t,e⟩
 ·rw[e]at hs';exact(List.not_mem_nil hs').elim
 ·rw[e,List.concat_eq_append]at hs' J
  rcases List.mem_append.mp hs' with h|h
  ·exact J.hi s (by rw[List.dropLast_concat];exact h)
  ·rw[List.mem_singleton.mp h]
   obtain⟨P,hP⟩:=Qb J
   rw[hP]at hs ⊢
   obtain⟨p1,p2,p3⟩:=List.pairwise_append.mp hs
   intro hq
   rcases List.mem_append.mp hq with hq|hq
   ·have:=p3 _ hq _ List.mem_cons_self
    unfold lt2 at this;dsimp only at this;omega
   ·have:=congrArg Prod.fst (List.mem_singleton.mp hq)
    dsimp only at this;omega
theorem Vl{o:Option L}(h:nM o):okM o=true:=Wl h
theorem Pl(s:Sx)(c:Cl):B7 [.d (es s),.d (ec c)]=some (.bool (decide (c=(s.x+s.m,s.y))),[.d (es s),.d (ec c)]):=by
 have e:fEq (ec c) (.tuple [.int (s.x+s.m),.int s.y])=some (.bool (decide (c=(s.x+s.m,s.y)))):=encC.fEq c (s.x+s.m,s.y)
 unfold B7
 refine DF (τ:=[some (.d (es s)),some (.d (ec c))]) (GK ?_) rfl rfl
 show((fEq (ec c) (.tuple [.int (s.x+s.m),.int s.y])).map fun d=>(d,_))=_
 rw[e];rfl
theorem Qx(l:List Sx)(s:Sx):atI ((l++[s]).map es) (-1)=some (es s):=by
 unfold atI ixN
 rw[if_neg (by decide),List.length_map,List.length_append,if_pos (by simp;omega)]
 have:(-1+((l.length+[s].length:Nat):Int)).toNat=l.length:=by simp;omega
 rw[this]
 simp
theorem Nd(n:Nat):ixN (n+1) (-1)=some n:=by
 unfold ixN
 rw[if_neg (by decide),if_pos (by omega)]
 congr 1
 omega
def ND:DB:=Co (Fe 1 (CQ (AR (dOp fGt (Be B2 (AA (AD 1) AE)) (dC (.int 0)))) (AR (Ae B7 (AA (dOp Ad (AD 1) (dUn Ca (dC (.int 1)))) (AA (AD 2) AE)))))) (A0 (Ch (Ih 1 (dOp Ad (AD 1) (dUn Ca (dC (.int 1))))) (dN 3)) (Fz 1 (BN (AA (dOp BB (AD 3) (dC (.int 0))) (AA (dOp BB (AD 3) (dC (.int 1))) (AA (dOp Cy (dOp BB (AD 3) (dC (.int 2))) (dC (.int 1))) AE)))) (dUn Ca (dC (.int 1))))) (D8 (dMt 1 DD (AA (BN (AA (dOp BB (AD 2) (dC (.int 0))) (AA (dOp BB (AD 2) (dC (.int 1))) (AA (dC (.int 1)) AE)))) AE)))
theorem R4{D:PyData}{acc:List Sx}{c:Cl}{o3:Option L}(n3:nM o3)(hl:acc.length<800) :
  ∃o3',nM o3'/\ND [some (.d D),some (.m (acc.map es)),some (.d (ec c)),o3]=some (.nx [some (.d D),some (.m ((stS acc c).map es)),some (.d (ec c)),o3']):=by
 let st:List Sx->Option L->DS:=fun a o=>[some (.d D),some (.m (a.map es)),some (.d (ec c)),o]
 have ok3:=Vl n3
 have app:∀o,D8 (dMt 1 DD (AA (BN (AA (dOp BB (AD 2) (dC (.int 0))) (AA (dOp BB (AD 2) (dC (.int 1))) (AA (dC (.int 1)) AE)))) AE)) (st acc o)=some (.nx (st (acc++[⟨c.1,c.2,1⟩]) o)):=fun o=>by
  refine(XT (d:=es ⟨c.1,c.2,1⟩) (xs:=acc.map es) (τ1:=st acc o) rfl rfl rfl (by rw[List.length_map];omega)).trans ?_
  show some (Out.nx [_,some (.m (acc.map es++[es ⟨c.1,c.2,1⟩])),_,_])=_
  show _=some (Out.nx [_,some (.m ((acc++[(⟨c.1,c.2,1⟩:Sx)]).map es)),_,_])
  rw[List.map_append];rfl
 have tst:∀(q:Bool),CQ (AR (dOp fGt (Be B2 (AA (AD 1) AE)) (dC (.int 0)))) (AR (Ae B7 (AA (dOp Ad (AD 1) (dUn Ca (dC (.int 1)))) (AA (AD 2) AE)))) [some (.d D),some (.d (.list (acc.map es))),some (.d (ec c)),o3]=some (q,[some (.d D),some (.d (.list (acc.map es))),some (.d (ec c)),o3]) ->
   Fe 1 (CQ (AR (dOp fGt (Be B2 (AA (AD 1) AE)) (dC (.int 0)))) (AR (Ae B7 (AA (dOp Ad (AD 1) (dUn Ca (dC (.int 1)))) (AA (AD 2) AE))))) (st acc o3)=some (q,st acc o3):=fun q h=>by
  unfold Fe
  show((CQ _ _ [some (.d D),some (.d (.list (acc.map es))),some (.d (ec c)),o3]).bind _)=_
  rw[h]
  show(if (okM _&&(okM _&&(okM _&&(okM o3&&true))))=true then _ else _)=_
  rw[ok3];rfl
 unfold ND
 rcases List.eq_nil_or_concat acc with rfl|⟨l,s,rfl⟩
 ·exact⟨o3,n3,(FV (τ1:=st [] o3) (tst false rfl)).trans (app o3)⟩
 ·rw[List.concat_eq_append]at *
  rw[KI]
  have tt:CQ (AR (dOp fGt (Be B2 (AA (AD 1) AE)) (dC (.int 0)))) (AR (Ae B7 (AA (dOp Ad (AD 1) (dUn Ca (dC (.int 1)))) (AA (AD 2) AE)))) [some (.d D),some (.d (.list ((l++[s]).map es))),some (.d (ec c)),o3]=some (decide (c=(s.x+s.m,s.y)),[some (.d D),some (.d (.list ((l++[s]).map es))),some (.d (ec c)),o3]):=by
   let τ:DS:=[some (.d D),some (.d (.list ((l++[s]).map es))),some (.d (ec c)),o3]
   have t1:AR (dOp fGt (Be B2 (AA (AD 1) AE)) (dC (.int 0))) τ=some (true,τ):=by
    show(((fGt (.int (((l++[s]).map es).length:Int)) (.int 0)).map fun d=>(d,τ)).bind _)=_
    have:fGt (.int (((l++[s]).map es).length:Int)) (.int 0)=some (.bool true):=by
     show some (PyData.bool (decide ((0:Int)<(((l++[s]).map es).length:Int))))=_
     rw[decide_eq_true (by rw[List.length_map,List.length_append];simp only[List.length_cons];omega)]
    rw[this];rfl
   have t2:AA (dOp Ad (AD 1) (dUn Ca (dC (.int 1)))) (AA (AD 2) AE) τ=some ([.d (es s),.d (ec c)],τ):=by
    show((((atI ((l++[s]).map es) (-1)).map fun d=>(d,τ)).bind fun p=>_))=_
    rw[Qx];rfl
   have t3:AR (Ae B7 (AA (dOp Ad (AD 1) (dUn Ca (dC (.int 1)))) (AA (AD 2) AE))) τ=some (decide (c=(s.x+s.m,s.y)),τ):=by
    unfold AR
    rw[Bt t2 rfl (Pl s c)];rfl
   show CQ _ _ τ=_
   unfold CQ
   rw[t1]
   exact t3
  by_cases hc:c=(s.x+s.m,s.y)
  ·rw[if_pos hc]
   rw[decide_eq_true hc]at tt
   refine⟨some (.d (es s)),DR,(Qh (τ1:=st (l++[s]) o3) (tst true tt)).trans ?_⟩
   refine(Al (τ1:=st (l++[s]) (some (.d (es s)))) (Dq (d:=es s) (τ1:=st (l++[s]) o3) ?_ (CA rfl n3))).trans ?_
   ·unfold Ih
    show((((atI ((l++[s]).map es) (-1)).map fun d=>(d,[some (.d D),some (.d (.list ((l++[s]).map es))),some (.d (ec c)),o3])).bind _))=_
    rw[Qx]
    show(if (Dm (es s)&&(okM _&&(okM _&&(okM _&&(okM o3&&true)))))=true then _ else _)=_
    rw[ok3];rfl
   ·unfold Fz
    show((ixN ((l++[s]).map es).length (-1)).map fun j=>Out.nx ((st (l++[s]) (some (.d (es s)))).set 1 (some (.m (((l++[s]).map es).set j (es ⟨s.x,s.y,s.m+1⟩))))))=_
    rw[List.length_map,List.length_append,show l.length+[s].length=l.length+1 from rfl,Nd]
    show some (Out.nx [_,some (.m (((l++[s]).map es).set l.length (es ⟨s.x,s.y,s.m+1⟩))),_,_])=_
    have:((l++[s]).map es).set l.length (es ⟨s.x,s.y,s.m+1⟩)=(l++[(⟨s.x,s.y,s.m+1⟩:Sx)]).map es:=by
     rw[List.map_append,List.map_append,List.set_append_right _ _ (by rw[List.length_map];exact Nat.le_refl _),List.length_map,Nat.sub_self];rfl
    rw[this]
  ·rw[if_neg hc]
   rw[decide_eq_false hc]at tt
   exact⟨o3,n3,(FV (τ1:=st (l++[s]) o3) (tst false tt)).trans (app o3)⟩
theorem VU(l:List Sx)(c:Cl):(stS l c).length<=l.length+1:=by
 rcases List.eq_nil_or_concat l with rfl|⟨l,s,rfl⟩
 ·exact Nat.le_refl _
 ·rw[List.concat_eq_append,KI]
  split<;>simp
theorem IB:∀(cs:List Cl) (acc:List Sx),(cs.foldl stS acc).length<=acc.length+cs.length
 |[],acc=>Nat.le_refl _
 |c::cs,acc=>by
  have h1:=IB cs (stS acc c)
  have h2:=VU acc c
  rw[List.foldl_cons,List.length_cons]
  omega
theorem J3{cs:List Cl}(hz:cs.length<64):Bm [.d (.list (cs.map ec))]=some (.list ((Dz (rbr cs)).map es),[.d (.list (cs.map ec))]):=by
 have hl:=QA cs
 have key:∃τ',CH (dN 2) ND ((rbr cs).map ec) [some (.d (.list (cs.map ec))),some (.m []),none,none]=some (.nx τ') /\
   ∃o2 o3,nM o2/\nM o3/\τ'=[some (.d (.list (cs.map ec))),some (.m ((Dz (rbr cs)).map es)),o2,o3]:=by
  refine D2 (fun pre τ=>∃o2 o3,nM o2/\nM o3/\τ=[some (.d (.list (cs.map ec))),some (.m ((Dz pre).map es)),o2,o3]) ⟨none,none,A2,A2,rfl⟩ ?_
  rintro pre c post τ hx ⟨o2,o3,n2,n3,rfl⟩
  have hp:=MD hx
  have hq:=IB pre []
  obtain⟨o3',n3',e⟩:=R4 (D:=.list (cs.map ec)) (acc:=Dz pre) (c:=c) n3 (by unfold Dz;simp only[List.length_nil]at hq;omega)
  refine⟨_,_,CA rfl n2,e,some (.d (ec c)),o3',DR,n3',?_⟩
  rw[MB]
 obtain⟨τ',e,o2,o3,n2,n3,rfl⟩:=key
 unfold Bm
 refine DF (τ:=[some (.d (.list (cs.map ec))),some (.m ((Dz (rbr cs)).map es)),o2,o3]) ?_ rfl rfl
 refine(Al (τ1:=[some (.d (.list (cs.map ec))),some (.m []),none,none]) rfl).trans ?_
 refine(Al ((Fq (ds:=(rbr cs).map ec) (τ1:=[some (.d (.list (cs.map ec))),some (.m []),none,none]) ?_).trans e)).trans rfl
 unfold dIL
 rw[Bt (τ1:=[some (.d (.list (cs.map ec))),some (.m []),none,none]) (ds:=[.list (cs.map ec)]) rfl rfl (LY (by omega))]
 rfl
theorem JU:∀(k:Nat) (ds:List PyData) (f:Nat->PyData),(∀i (h:i<ds.length),f (k+i) = .tuple [.int ((k+i:Nat):Int),ds[i]])->E4 k ds=(List.range ds.length).map fun i=>f (k+i)
 |k,[],f,_=>rfl
 |k,d::r,f,h=>by
  rw[E4,List.length_cons,List.range_succ_eq_map,List.map_cons,List.map_map]
  congr 1
  ·have:=h 0 (by simp)
   rw[this];rfl
  ·rw [JU (k + 1) r f (fun i hi => by
    have:=h (i+1) (by simpa using hi)
    rw[show k+(i+1)=k+1+i by omega]at this
    rw[this];rfl)]
   refine List.map_congr_left fun i _=>?_
   show f (k+1+i)=f (k+(i+1))
   congr 1;omega
def eRw(P:Pc)(k:Nat):PyData:=.tuple [.int (k:Int),eL (P.getD k [])]
def eSh(r:List Cl)(x:Nat):PyData:=.tuple [.int (x:Int),ec (r.getD x (0,0))]
theorem V3(P:Pc):E4 0 (P.map eL)=(List.range P.length).map (eRw P):=by
 have := JU 0 (P.map eL) (eRw P) (fun i hi => by
  rw[List.length_map]at hi
  unfold eRw
  rw[Nat.zero_add,List.getD_eq_getElem?_getD,List.getElem?_eq_getElem hi]
  simp)
 rw[this,List.length_map]
 refine List.map_congr_left fun i _=>?_
 rw[Nat.zero_add]
theorem V2(r:List Cl):E4 0 (r.map ec)=(List.range r.length).map (eSh r):=by
 have := JU 0 (r.map ec) (eSh r) (fun i hi => by
  rw[List.length_map]at hi
  unfold eSh
  rw[Nat.zero_add,List.getD_eq_getElem?_getD,List.getElem?_eq_getElem hi]
  simp)
 rw[this,List.length_map]
 refine List.map_congr_left fun i _=>?_
 rw[Nat.zero_add]
def dif(A B:Pc)(y x:Nat):Bool:=!decide ((A.getD y []).getD x (0,0)=(B.getD y []).getD x (0,0))
def Bg(A B:Pc)(y n:Nat):List Cl:=((List.range n).filter (dif A B y)).map fun(x:Nat)=>((x:Int),(y:Int))
def BH(A B:Pc)(w h:Nat):List Cl:=(List.range h).flatMap fun y=>Bg A B y w
theorem LP(A B:Pc)(y n:Nat):(Bg A B y n).length<=n:=by
 unfold Bg
 rw[List.length_map]
 have:=List.length_filter_le (dif A B y) (List.range n)
 rw[List.length_range]at this
 exact this
theorem IE(A B:Pc)(w:Nat):∀h,((List.range h).flatMap fun y=>Bg A B y w).length<=w*h
 |0=>by simp
 |h+1=>by
  rw[List.range_succ,List.flatMap_append,List.length_append]
  have:=IE A B w h
  have h2:=LP A B h w
  simp only[List.flatMap_cons,List.flatMap_nil,List.append_nil]
  rw[Nat.mul_succ]
  omega
theorem P2{A B:Pc}{w h:Nat}(oA:OkP A w h)(oB:OkP B w h)(w12:w<=12)(h9:h<=9):∃ls,Bc [.d (ep A),.d (ep B)]=some (.list ((BH A B w h).map ec),ls):=by
 let I:=fun(i:Int)=>some (L.d (.int i))
 let D:=fun(d:PyData)=>some (L.d d)
 let st:=fun(cs:List Cl) (y r:Option L)=>[D (ep A),D (ep B),some (.m (cs.map ec)),y,r]
 have lp:∃τ',CH (dGT (Ai (dN 3) (Ai (dN 4) CI))) (D8 (dMt 2 DU (AA (dLC 2 [3,1] (dIE (AD 4)) (dGT (Ai (dN 0) (Ai (dN 1) CI))) (AR (dOp fNe (AD 1) (dOp Ad (dOp Ad (AD 3) (AD 2)) (AD 0)))) (BN (AA (AD 0) (AA (AD 2) AE)))) AE))) ((List.range h).map (eRw A)) (st [] none none)=some (.nx τ')/\∃y r,nM y/\nM r/\τ'=st ((List.range h).flatMap fun y=>Bg A B y w) y r:=by
  refine D2 (fun(pre:List Nat) τ=>∃y r,nM y/\nM r/\τ=st (pre.flatMap fun y=>Bg A B y w) y r) ⟨none,none,A2,A2,rfl⟩ ?_
  rintro pre k post τ hp ⟨y,r,ny,nr,rfl⟩
  have hk:k<h:=List.mem_range.mp (by rw[hp];simp)
  have hpl:=MD hp
  rw[List.length_range]at hpl
  have hpre:pre=List.range pre.length:=by
   have h1:List.range h=pre++k::post:=hp
   have h2:=congrArg (List.take pre.length) h1
   rw[List.take_left,List.take_range]at h2
   rw[Nat.min_eq_left (by omega)]at h2
   exact h2.symm
  have hl:(pre.flatMap fun y=>Bg A B y w).length<=w*pre.length:=by
   conv=>lhs;rw[hpre]
   exact IE A B w pre.length
  have hl2:w*pre.length<=12*9:=Nat.mul_le_mul w12 (by omega)
  let ra:=A.getD k []
  let rb:=B.getD k []
  have hra:ra.length=w:=by have:=oA.row (y:=(k:Int)) (by omega) (by omega);rw[Int.toNat_natCast]at this;exact this
  have hrb:rb.length=w:=by have:=oB.row (y:=(k:Int)) (by omega) (by omega);rw[Int.toNat_natCast]at this;exact this
  let cs:=pre.flatMap fun y=>Bg A B y w
  let τ1:=st cs (I k) (D (eL ra))
  have tg:dGT (Ai (dN 3) (Ai (dN 4) CI)) (eRw A k) (st cs y r)=some τ1:=by
   show(dN 3 (.int (k:Int)) (st cs y r)).bind _=_
   rw[CA (o:=y) rfl ny]
   show(dN 4 (eL ra) (st cs (I k) r)).bind _=_
   rw[CA (o:=r) rfl nr];rfl
  obtain ⟨τb, el⟩ := E1 (enc := eSh ra) (g := dGT (Ai (dN 0) (Ai (dN 1) CI))) (c := AR (dOp fNe (AD 1) (dOp Ad (dOp Ad (AD 3) (AD 2)) (AD 0)))) (e := BN (AA (AD 0) (AA (AD 2) AE))) (fun τ => ∃ o1 o2, nM o1 /\ nM o2 /\ τ = [o1, o2, I k, D (ep B)]) (dif A B k) (fun x => ec ((x : Int), (k : Int))) (xs := List.range w) (acc := []) (τ := [none, none, I k, D (ep B)]) ⟨none, none, A2, A2, rfl⟩ (by
   rintro x τ hx ⟨o1,o2,n1,n2,rfl⟩
   have hx:=List.mem_range.mp hx
   let t1:DS:=[I x,D (ec (ra.getD x (0,0))),I k,D (ep B)]
   have e1:Ad (ep B) (.int (k:Int))=some (eL rb):=by have:=Hj oB (y:=(k:Int)) (by omega) (by omega);rw[Int.toNat_natCast]at this;exact this
   have e2:Ad (eL rb) (.int (x:Int))=some (ec (rb.getD x (0,0))):=by have:=So (cs:=rb) (k:=(x:Int)) (by omega) (by omega);rw[Int.toNat_natCast]at this;exact this
   refine⟨t1,t1,?_,tst (op2 (x:=ec (ra.getD x (0,0))) (y:=ec (rb.getD x (0,0))) (τ1:=t1) rfl (op2 (op2 rfl rfl e1) rfl e2) (encC.fNe _ _)),fun _=>⟨_,_,DR,DR,rfl⟩,fun _=>⟨t1,rfl,_,_,DR,DR,rfl⟩⟩
   show(dN 0 (.int (x:Int)) [o1,o2,I k,D (ep B)]).bind _=_
   rw[CA (o:=o1) rfl n1]
   show(dN 1 (ec (ra.getD x (0,0))) [I x,o2,I k,D (ep B)]).bind _=_
   rw[CA (o:=o2) rfl n2];rfl)
  rw[List.nil_append]at el
  have hi:dIE (AD 4) τ1=some ((List.range w).map (eSh ra),τ1):=by
   show some (E4 0 (ra.map ec),τ1)=_
   rw[V2,hra]
  have ef:((List.range w).filter (dif A B k)).map (fun(x:Nat)=>ec ((x:Int),(k:Int)))=(Bg A B k w).map ec:=by unfold Bg;rw[List.map_map];rfl
  rw[ef]at el
  have e1:=JV (own:=2) (fr:=[3,1]) (τb:=τb) hi (by rw[List.length_map,List.length_range];exact sz (by omega)) rfl el
  have hcl:=LP A B k w
  have e2:=XO (i:=2) (xs:=cs.map ec) (ys:=(Bg A B k w).map ec) (ac1 e1) rfl rfl (by rw[List.length_map,List.length_map];show(pre.flatMap fun y=>Bg A B y w).length+_<=900;omega)
  refine⟨τ1,st ((pre++[k]).flatMap fun y=>Bg A B y w) (I k) (D (eL ra)),tg,e2.trans ?_,_,_,DR,DR,rfl⟩
  show some (Out.nx [D (ep A),D (ep B),some (.m (cs.map ec++(Bg A B k w).map ec)),I k,D (eL ra)])=some (Out.nx [D (ep A),D (ep B),some (.m (((pre++[k]).flatMap fun y=>Bg A B y w).map ec)),I k,D (eL ra)])
  rw[List.flatMap_append,List.map_append]
  simp only[List.flatMap_cons,List.flatMap_nil,List.append_nil]
  rfl
 obtain⟨τ',el,y,r,ny,nr,rfl⟩:=lp
 refine⟨[.d (ep A),.d (ep B)],?_⟩
 unfold Bc
 refine DF (τ:=st (BH A B w h) y r) ?_ rfl rfl
 refine(Al (τ1:=st [] none none) rfl).trans ((Al ((Fq (ds:=(List.range h).map (eRw A)) (τ1:=st [] none none) ?_).trans el)).trans rfl)
 show some (E4 0 (A.map eL),st [] none none)=_
 rw[V3,oA.len]
theorem Ii{A B:Pc}{y n:Nat}{c:Cl}(h:c∈Bg A B y n):c.2=y/\0<=c.1/\c.1<n/\dif A B y c.1.toNat=true:=by
 unfold Bg at h
 obtain⟨x,hx,rfl⟩:=List.mem_map.mp h
 obtain⟨h1,h2⟩:=List.mem_filter.mp hx
 have:=List.mem_range.mp h1
 exact⟨rfl,by show(0:Int)<=x;omega,by show(x:Int)<n;omega,by show dif A B y ((x:Int)).toNat=true;rw[Int.toNat_natCast];exact h2⟩
theorem Jz(A B:Pc)(y n:Nat):(Bg A B y n).Pairwise lt2:=by
 unfold Bg
 rw[List.pairwise_map]
 refine List.Pairwise.imp ?_ ((List.pairwise_lt_range (n:=n)).filter (dif A B y))
 intro a b hab
 show lt2 ((a:Int),(y:Int)) ((b:Int),(y:Int))
 unfold lt2
 simp
 omega
theorem D5(A B:Pc)(w:Nat):∀h,(BH A B w h).Pairwise lt2
 |0=>by simp[BH]
 |h+1=>by
  have e:BH A B w (h+1)=BH A B w h++Bg A B h w:=by unfold BH;rw[List.range_succ,List.flatMap_append];simp
  rw[e]
  refine List.pairwise_append.mpr ⟨D5 A B w h,Jz A B h w,fun a ha b hb=>?_⟩
  obtain⟨y,hy,ha⟩:=List.mem_flatMap.mp ha
  have:=List.mem_range.mp hy
  have h1:=(Ii ha).1
  have h2:=(Ii hb).1
  unfold lt2
  left
  omega
theorem LD(A B:Pc){w h:Nat}(w12:w<=12)(h9:h<=9):(BH A B w h).length<=108:=by
 have:=IE A B w h
 have h2:w*h<=12*9:=Nat.mul_le_mul w12 h9
 unfold BH
 omega
theorem N1{F:List PyData->Option PyData}{a:DA}{τ τ1:DS}{rs:List Ar}{ds:List PyData}{d:PyData}(h:a τ=some (rs,τ1))(k:Ci rs=some ds)(f:F ds=some d):Be F a τ=some (d,τ1):=by
 unfold Be
 rw[h]
 show(Ci rs).bind _=_
 rw[k]
 show(F ds).map _=_
 rw[f];rfl
theorem Gv{a b:DB}{τ τ1:DS}(h:a τ=some (.nx τ1)):HW a b τ=b τ1:=by
 unfold HW
 rw[h];rfl
theorem QF{i:Nat}{e k:DX}{τ τ1 τ2:DS}{d:PyData}{ks:List PyData}{c:List Int}{m:List (List Int×PyData)}(he:e τ=some (d,τ1))(hk:k τ1=some (.tuple ks,τ2))(hm:τ2[i]?=some (some (.k m)))(hc:tkP.tkI ks=some c)(hz:m.length<sizeLine):Jx i e k τ=some (.nx (τ2.set i (some (.k (NJ m c d))))):=by
 unfold Jx
 rw[he]
 show(k τ1).bind _=_
 rw[hk]
 dsimp only[Option.bind]
 rw[hm]
 dsimp only
 rw[hc]
 dsimp only
 rw[if_pos hz]
theorem G5{G:List L->Option (PyData×List L)}{a:DA}{τ τ1:DS}{xs:List PyData}(h:Ae G a τ=some (.list xs,τ1)):dLs (Ae G a) τ=some (.list xs,τ1):=by
 unfold dLs
 rw[h];rfl
theorem W1{α:Type}(l:List α):l.filter (fun _=>true)=l:=List.filter_eq_self.mpr fun _ _=>rfl
structure Fw where
 x:Int
 y:Int
 o:List Cl
 n:List Cl
def ef(f:Fw):PyData:=.tuple [.int f.x,.int f.y,eL f.o,eL f.n]
def D0(A B:Pc)(s:Sx):Fw:=⟨s.x,s.y,(rng 0 s.m.toNat).map fun v=>Ap A (s.x+v) s.y,(rng 0 s.m.toNat).map fun v=>Ap B (s.x+v) s.y⟩
def frS(A B:Pc)(cs:List Cl):List Fw:=(Dz cs).map (D0 A B)
theorem Pp:∀cs:List Cl,fixDs (cs.map ec)=true
 |[]=>rfl
 |c::cs=>by
  rw[List.map_cons,fixDs,Pp cs];rfl
theorem Wy{f:DX}{τ τ1:DS}{cs:List Cl}(h:f τ=some (eL cs,τ1)):dFx f τ=some (eL cs,τ1):=by
 unfold dFx
 rw[h]
 show(if fixDs (cs.map ec)=true then _ else _)=_
 rw[if_pos (Pp cs)]
def kv(A:Pc)(cs:List Cl):List (List Int×PyData):=cs.map fun c=>([c.1,c.2],ec (Ap A c.1 c.2))
theorem Qj{A:Pc}{c:Cl}:∀{cs:List Cl},c∈cs->Pn (kv A cs) [c.1,c.2]=some (ec (Ap A c.1 c.2))
 |d::cs,h=>by
  show(if [d.1,d.2]=[c.1,c.2] then _ else Pn (kv A cs) [c.1,c.2])=_
  by_cases e:[d.1,d.2]=[c.1,c.2]
  ·rw[if_pos e]
   injection e with e1 e2
   injection e2 with e2 _
   show some (ec (Ap A d.1 d.2))=_
   rw[e1,e2]
  ·rw[if_neg e]
   rcases List.mem_cons.mp h with z|z
   ·subst z;exact absurd rfl e
   ·exact Qj z
theorem NI{A:Pc}{c:Cl}:∀{cs:List Cl},c∉cs->NJ (kv A cs) [c.1,c.2] (ec (Ap A c.1 c.2))=kv A (cs++[c])
 |[],_=>rfl
 |d::cs,h=>by
  show(if [d.1,d.2]=[c.1,c.2] then _ else ([d.1,d.2],ec (Ap A d.1 d.2))::NJ (kv A cs) [c.1,c.2] (ec (Ap A c.1 c.2)))=_
  rw [if_neg (fun e => h (by
   injection e with e1 e2
   injection e2 with e2 _
   rw[show d=c from Prod.ext e1 e2];exact List.mem_cons_self ..))]
  exact congrArg (([d.1,d.2],ec (Ap A d.1 d.2))::·) (NI (A:=A) (cs:=cs) fun z=>h (List.mem_cons_of_mem _ z))
theorem Sn{A:Pc}{c:Cl}{cs:List Cl}(h:c∈cs):FE (.dict (CB (kv A cs))) (ec c)=some (ec (Ap A c.1 c.2)):=by
 show FE (.dict (CB (kv A cs))) (KT [c.1,c.2])=_
 rw[Vx];exact Qj h
theorem Ta{τ:DS}{rows l1 l2:List PyData}{x y:Int}(h3:τ[3]?=some (some (.g (.list rows))))(h4:τ[4]?=some (some (.d (.int x))))(h5:τ[5]?=some (some (.d (.int y))))(h7:τ[7]?=some (some (.g (.list l1))))(h8:τ[8]?=some (some (.g (.list l2))))(hz:rows.length<=1000-1) :
  Hn 3 (AD 4) (AD 5) 7 8 τ=some (.nx (((τ.set 7 none).set 8 none).set 3 (some (.g (.list (rows++[.tuple [.int x,.int y,.list l1,.list l2]])))))):=by
 have e4:AD 4 τ=some (.int x,τ):=by unfold AD;rw[h4]
 have e5:AD 5 τ=some (.int y,τ):=by unfold AD;rw[h5]
 unfold Hn
 rw[h3]
 dsimp only
 rw[e4]
 dsimp only[Option.bind]
 rw[e5]
 dsimp only
 rw[h3,h7,h8]
 dsimp only
 rw[if_pos ⟨Nat.lt_of_le_of_lt hz (by decide),rfl,rfl,by decide,by decide,by decide⟩]
theorem Oj{A B:Pc}{cs:List Cl}(hs:cs.Pairwise lt2)(hl:cs.length<=63)(hd:∀c∈cs,Ap A c.1 c.2≠Ap B c.1 c.2) :
  ∃ls,Cj [.d (.dict (CB (kv A cs))),.d (.dict (CB (kv B cs)))]=some (.list ((frS A B cs).map ef),ls):=by
 let I:=fun(i:Int)=>some (L.d (.int i))
 let D:=fun(d:PyData)=>some (L.d d)
 let OA:=D (.dict (CB (kv A cs)))
 let OB:=D (.dict (CB (kv B cs)))
 let t0:DS:=[OA,OB,none,none,none,none,none,none,none]
 let st:=fun(fr:List Fw) (x y m:Option L)=>[OA,OB,D (.list (cs.map ec)),some (L.g (.list (fr.map ef))),x,y,m,none,none]
 -- the cells
 obtain ⟨τb, el⟩ := E1 (enc := ec) (g := dN 0) (c := AR (dOp fNe (dOp FE (AD 1) (AD 0)) (dOp FE (AD 2) (AD 0)))) (e := AD 0) (fun τ => ∃ o, nM o /\ τ = [o, OA, OB]) (fun _ => true) ec (xs := cs) (acc := []) (τ := [none, OA, OB]) ⟨none, A2, rfl⟩ (by
  rintro c τ hc ⟨o,no,rfl⟩
  refine⟨[D (ec c),OA,OB],[D (ec c),OA,OB],CA (o:=o) rfl no,?_,(fun z=>nomatch z),fun _=>⟨_,rfl,_,DR,rfl⟩⟩
  have:=tst (op2 (F:=fNe) (op2 (F:=FE) (f:=AD 1) (g:=AD 0) (τ:=[D (ec c),OA,OB]) rfl rfl (Sn hc)) (op2 (F:=FE) (f:=AD 2) (g:=AD 0) (τ:=[D (ec c),OA,OB]) rfl rfl (Sn hc)) (encC.fNe _ _))
  rw[this]
  simp[hd c hc])
 rw[List.nil_append,W1]at el
 have e0:dLC 1 [0,1] (dID (AD 0)) (dN 0) (AR (dOp fNe (dOp FE (AD 1) (AD 0)) (dOp FE (AD 2) (AD 0)))) (AD 0) t0=some (.list (cs.map ec),t0):=by
  refine JV (ds:=cs.map ec) (τb:=τb) ?_ (by rw[List.length_map];exact sz (by omega)) rfl el
  show((tkP (CB (kv A cs))).map fun m=>(m.map fun p=>KT p.1,t0))=_
  rw[KG]
  show some ((kv A cs).map (fun p=>KT p.1),t0)=_
  unfold kv
  rw[List.map_map];rfl
 have hr:rbr cs=cs:=VZ hs fun _=>Iff.rfl
 obtain⟨hf,hm⟩:=Ka hs
 have hsl:(Dz cs).length<=700:=by have:=IB cs [];simp at this;unfold Dz;omega
 have inC:∀s∈Dz cs,∀v∈rng 0 s.m.toNat,(s.x+v,s.y)∈cs:=fun s hs v hv=>by
  rw[<- hf]
  refine List.mem_flatMap.mpr ⟨s,hs,?_⟩
  unfold rng at hv
  obtain⟨k,hk,rfl⟩:=List.mem_map.mp hv
  unfold GA
  exact List.mem_map.mpr ⟨s.x+(k:Int),List.mem_map.mpr ⟨k,hk,rfl⟩,by simp⟩
 have lp:∃τ',CH (dGT (Ai (dN 4) (Ai (dN 5) (Ai (dN 6) CI)))) (A0 (EZ 2 7 (dFx (dLC 1 [0,5,4] (dR1 (AA (AD 6) AE)) (dN 0) Dc (dOp FE (AD 1) (BN (AA (dOp Cy (AD 3) (AD 0)) (AA (AD 2) AE))))))) (A0 (EZ 2 8 (dFx (dLC 1 [1,5,4] (dR1 (AA (AD 6) AE)) (dN 0) Dc (dOp FE (AD 1) (BN (AA (dOp Cy (AD 3) (AD 0)) (AA (AD 2) AE))))))) (Hn 3 (AD 4) (AD 5) 7 8))) ((Dz cs).map es) (st [] none none none)=some (.nx τ')/\∃x y m,nM x/\nM y/\nM m/\τ'=st ((Dz cs).map (D0 A B)) x y m:=by
  refine D2 (fun(pre:List Sx) τ=>∃x y m,nM x/\nM y/\nM m/\τ=st (pre.map (D0 A B)) x y m) ⟨none,none,none,A2,A2,A2,rfl⟩ ?_
  rintro pre s post τ hp ⟨x,y,m,nx,ny,nm,rfl⟩
  have hsm:s∈Dz cs:=by rw[hp];simp
  have hpl:pre.length<700:=by have:=congrArg List.length hp;simp at this;omega
  have m1:=(hm s hsm).1
  have mz:s.m<=100000:=by
   have h1:cs.length=(GZ (pre++s::post)).length:=by rw[<- hp,hf]
   unfold GZ at h1
   rw[List.flatMap_append,List.flatMap_cons,List.length_append,List.length_append]at h1
   have h2:(GA s.x s.y s.m.toNat).length=s.m.toNat:=by unfold GA;rw[List.length_map,C9]
   omega
  let fr:=pre.map (D0 A B)
  let t1:=st fr (I s.x) (I s.y) (I s.m)
  have tg:dGT (Ai (dN 4) (Ai (dN 5) (Ai (dN 6) CI))) (es s) (st fr x y m)=some t1:=by
   show(dN 4 (.int s.x) (st fr x y m)).bind _=_
   rw[CA (o:=x) rfl nx]
   show(dN 5 (.int s.y) (st fr (I s.x) y m)).bind _=_
   rw[CA (o:=y) rfl ny]
   show(dN 6 (.int s.m) (st fr (I s.x) (I s.y) m)).bind _=_
   rw[CA (o:=m) rfl nm];rfl
  have col:∀(P:Pc) (τ:DS) (j:Nat),(∀(o:Option L),FG 1 [j,5,4] τ=[none,D (.dict (CB (kv P cs))),I s.y,I s.x])->([j,5,4].all fun j=>!isM τ j)=true->AA (AD 6) AE τ=some ([.d (.int s.m)],τ) ->
    dFx (dLC 1 [j,5,4] (dR1 (AA (AD 6) AE)) (dN 0) Dc (dOp FE (AD 1) (BN (AA (dOp Cy (AD 3) (AD 0)) (AA (AD 2) AE))))) τ=some (eL ((rng 0 s.m.toNat).map fun v=>Ap P (s.x+v) s.y),τ):=by
   intro P τ j hb hm6 h6
   refine Wy ?_
   obtain ⟨τc, ec1⟩ := E1 (enc := PyData.int) (g := dN 0) (c := Dc) (e := dOp FE (AD 1) (BN (AA (dOp Cy (AD 3) (AD 0)) (AA (AD 2) AE)))) (fun τ => ∃ o, nM o /\ τ = [o, D (.dict (CB (kv P cs))), I s.y, I s.x]) (fun _ => true) (fun v => ec (Ap P (s.x + v) s.y)) (xs := rng 0 s.m.toNat) (acc := []) (τ := [none, D (.dict (CB (kv P cs))), I s.y, I s.x]) ⟨none, A2, rfl⟩ (by
    rintro v τ hv ⟨o,no,rfl⟩
    refine⟨[I v,D (.dict (CB (kv P cs))),I s.y,I s.x],[I v,D (.dict (CB (kv P cs))),I s.y,I s.x],CA (o:=o) rfl no,rfl,(fun z=>nomatch z),fun _=>⟨[I v,D (.dict (CB (kv P cs))),I s.y,I s.x],?_,_,DR,rfl⟩⟩
    exact op2 (F:=FE) (x:=.dict (CB (kv P cs))) (y:=ec (s.x+v,s.y)) rfl rfl (Sn (inC s hsm v hv)))
   rw[List.nil_append,W1]at ec1
   have:=JV (own:=1) (fr:=[j,5,4]) (τb:=τc) (Kf (n:=s.m) h6 (by omega) mz) (by rw[List.length_map,C9];exact Nat.le_trans (show s.m.toNat<=100000 by omega) (by decide)) hm6 (by rw[hb none];exact ec1)
   rw[this]
   unfold eL
   rw[List.map_map];rfl
  let o:=(rng 0 s.m.toNat).map fun v=>Ap A (s.x+v) s.y
  let n:=(rng 0 s.m.toNat).map fun v=>Ap B (s.x+v) s.y
  let t2:DS:=[OA,OB,D (.list (cs.map ec)),some (L.g (.list (fr.map ef))),I s.x,I s.y,I s.m,some (.g (eL o)),none]
  let t3:DS:=[OA,OB,D (.list (cs.map ec)),some (L.g (.list (fr.map ef))),I s.x,I s.y,I s.m,some (.g (eL o)),some (.g (eL n))]
  have c1:=Gu (np:=2) (i:=7) (col A t1 0 (fun _=>rfl) rfl rfl) (by decide) (by show 7<9;decide) rfl
  have c2:=Gu (np:=2) (i:=8) (col B t2 1 (fun _=>rfl) rfl rfl) (by decide) (by show 8<9;decide) rfl
  have c3:Hn 3 (AD 4) (AD 5) 7 8 t3=some (.nx (st (fr++[D0 A B s]) (I s.x) (I s.y) (I s.m))):=by
   have:=Ta (τ:=t3) (rows:=fr.map ef) (l1:=o.map ec) (l2:=n.map ec) (x:=s.x) (y:=s.y) rfl rfl rfl rfl rfl (by rw[List.length_map,List.length_map];omega)
   rw[this]
   show some (Out.nx [OA,OB,D (.list (cs.map ec)),some (L.g (.list (fr.map ef++[ef (D0 A B s)]))),I s.x,I s.y,I s.m,none,none])=some (Out.nx [OA,OB,D (.list (cs.map ec)),some (L.g (.list ((fr++[D0 A B s]).map ef))),I s.x,I s.y,I s.m,none,none])
   rw[List.map_append];rfl
  refine⟨t1,st (fr++[D0 A B s]) (I s.x) (I s.y) (I s.m),tg,?_,_,_,_,DR,DR,DR,by rw[List.map_append];rfl⟩
  exact(Al (τ1:=t2) c1).trans ((Al (τ1:=t3) c2).trans c3)
 obtain⟨τ',elp,x,y,m,nx,ny,nm,rfl⟩:=lp
 refine⟨[.d (.dict (CB (kv A cs))),.d (.dict (CB (kv B cs)))],?_⟩
 unfold Cj
 refine DF (τ:=st ((Dz cs).map (D0 A B)) x y m) ?_ rfl rfl
 let t1:DS:=[OA,OB,D (.list (cs.map ec)),none,none,none,none,none,none]
 refine(Gv (τ1:=t1) (Dq e0 rfl)).trans ?_
 refine(Gv (τ1:=st [] none none none) rfl).trans ?_
 have ci:=Bt (G:=Bm) (a:=AA (AD 2) AE) (τ:=st [] none none none) (τ1:=st [] none none none) (rs:=[.d (.list (cs.map ec))]) (ds:=[.list (cs.map ec)]) rfl rfl (J3 (by omega))
 rw[hr]at ci
 refine(Gv ((Fq (ds:=(Dz cs).map es) (τ1:=st [] none none none) ?_).trans elp)).trans rfl
 unfold dIL
 rw[ci];rfl
theorem KQ{A B:Pc}{w h:Nat}{c:Cl}(hc:c∈BH A B w h):0<=c.1/\c.1<w/\0<=c.2/\c.2<h/\Ap A c.1 c.2≠Ap B c.1 c.2:=by
 obtain⟨y,hy,hc⟩:=List.mem_flatMap.mp hc
 have:=List.mem_range.mp hy
 obtain⟨h1,h2,h3,h4⟩:=Ii hc
 refine⟨h2,h3,by omega,by omega,fun e=>?_⟩
 unfold dif at h4
 have e2:c.2.toNat=y:=by omega
 unfold Ap at e
 rw[e2]at e
 rw[e]at h4
 simp at h4
theorem Rh(A B:Pc){w h:Nat}(w9:w<=9)(h6:h<=6):(BH A B w h).length<=63:=by
 have h1:=IE A B w h
 have h2:w*h<=9*6:=Nat.mul_le_mul w9 h6
 unfold BH
 omega
theorem Dl{A B:Pc}{w h:Nat}(oA:OkP A w h)(oB:OkP B w h)(w9:w<=9)(h9:h<=6) :
  ∃ls,Aq [.d (ep A),.d (ep B)]=some (.list ((frS A B (BH A B w h)).map ef),ls):=by
 let I:=fun(i:Int)=>some (L.d (.int i))
 let D:=fun(d:PyData)=>some (L.d d)
 let cs:=BH A B w h
 have hs:cs.Pairwise lt2:=D5 A B w h
 have hl:cs.length<=63:=Rh A B w9 h9
 let st:=fun(pre:List Cl) (x y:Option L)=>[D (ep A),D (ep B),some (L.k (kv A pre)),some (L.k (kv B pre)),x,y]
 have lp:∃τ',CH (dGT (Ai (dN 4) (Ai (dN 5) CI))) (A0 (Jx 2 (dOp Ad (dOp Ad (AD 0) (AD 5)) (AD 4)) (BN (AA (AD 4) (AA (AD 5) AE)))) (Jx 3 (dOp Ad (dOp Ad (AD 1) (AD 5)) (AD 4)) (BN (AA (AD 4) (AA (AD 5) AE))))) (cs.map ec) (st [] none none)=some (.nx τ')/\∃x y,nM x/\nM y/\τ'=st cs x y:=by
  refine D2 (fun(pre:List Cl) τ=>∃x y,nM x/\nM y/\τ=st pre x y) ⟨none,none,A2,A2,rfl⟩ ?_
  rintro pre c post τ hp ⟨x,y,nx,ny,rfl⟩
  have hc:c∈cs:=by rw[hp];simp
  obtain⟨x0,x1,y0,y1,_⟩:=KQ hc
  have hpl:pre.length<108:=by have:=congrArg List.length hp;simp at this;omega
  have hn:c∉pre:=fun z=>by
   rw[hp]at hs
   have:=(List.pairwise_append.mp hs).2.2 c z c (List.mem_cons_self ..)
   unfold lt2 at this
   omega
  let t1:=st pre (I c.1) (I c.2)
  let t2:DS:=[D (ep A),D (ep B),some (L.k (kv A (pre++[c]))),some (L.k (kv B pre)),I c.1,I c.2]
  have tg:dGT (Ai (dN 4) (Ai (dN 5) CI)) (ec c) (st pre x y)=some t1:=by
   show(dN 4 (.int c.1) (st pre x y)).bind _=_
   rw[CA (o:=x) rfl nx]
   show(dN 5 (.int c.2) (st pre (I c.1) y)).bind _=_
   rw[CA (o:=y) rfl ny];rfl
  have kl:∀P:Pc,(kv P pre).length<sizeLine:=fun P=>by
   unfold kv
   rw[List.length_map]
   exact Nat.lt_of_lt_of_le hpl (by decide)
  have p1:=QF (i:=2) (e:=dOp Ad (dOp Ad (AD 0) (AD 5)) (AD 4)) (k:=BN (AA (AD 4) (AA (AD 5) AE))) (τ:=t1) (τ2:=t1) (ks:=[.int c.1,.int c.2]) (c:=[c.1,c.2]) (m:=kv A pre)
   (op2 (op2 (x:=ep A) (y:=.int c.2) (τ1:=t1) (τ2:=t1) rfl rfl (Hj oA y0 y1)) (τ2:=t1) (y:=.int c.1) rfl (KM oA y0 y1 x0 x1)) rfl rfl rfl (kl A)
  rw[NI hn]at p1
  have p2:=QF (i:=3) (e:=dOp Ad (dOp Ad (AD 1) (AD 5)) (AD 4)) (k:=BN (AA (AD 4) (AA (AD 5) AE))) (τ:=t2) (τ2:=t2) (ks:=[.int c.1,.int c.2]) (c:=[c.1,c.2]) (m:=kv B pre)
   (op2 (op2 (x:=ep B) (y:=.int c.2) (τ1:=t2) (τ2:=t2) rfl rfl (Hj oB y0 y1)) (τ2:=t2) (y:=.int c.1) rfl (KM oB y0 y1 x0 x1)) rfl rfl rfl (kl B)
  rw[NI hn]at p2
  exact⟨t1,st (pre++[c]) (I c.1) (I c.2),tg,(Al (τ1:=t2) p1).trans p2,_,_,DR,DR,rfl⟩
 obtain⟨τ',el,x,y,nx,ny,rfl⟩:=lp
 obtain⟨l1,e1⟩:=P2 oA oB (by omega) (by omega)
 obtain⟨l2,e2⟩:=Oj (A:=A) (B:=B) hs (by omega) fun c hc=>(KQ hc).2.2.2.2
 refine⟨[.d (ep A),.d (ep B)],?_⟩
 unfold Aq
 let t5:DS:=[D (ep A),D (ep B),D (.dict (CB (kv A cs))),D (.dict (CB (kv B cs))),x,y]
 refine DF (τ:=t5) ?_ rfl rfl
 refine(Gv (τ1:=[D (ep A),D (ep B),some (L.k []),none,none,none]) rfl).trans ?_
 refine(Gv (τ1:=st [] none none) rfl).trans ?_
 have c1:=Bt (G:=Bc) (a:=AA (AD 0) (AA (AD 1) AE)) (τ:=st [] none none) (τ1:=st [] none none) (rs:=[.d (ep A),.d (ep B)]) (ds:=[ep A,ep B]) rfl rfl e1
 refine(Gv ((Fq (ds:=cs.map ec) (τ1:=st [] none none) ?_).trans el)).trans ?_
 ·unfold dIL
  rw[c1];rfl
 ·have c2:=Bt (G:=Cj) (a:=AA (AD 2) (AA (AD 3) AE)) (τ:=t5) (τ1:=t5) (rs:=[.d (.dict (CB (kv A cs))),.d (.dict (CB (kv B cs)))]) (ds:=[.dict (CB (kv A cs)),.dict (CB (kv B cs))]) rfl rfl e2
  show B3 (dLs (Ae Cj (AA (AD 2) (AA (AD 3) AE)))) t5=_
  exact GK (G5 c2)
theorem O6{α:Type}(l:List α)(a:α):atI (l++[a]) (-1)=some a:=by
 unfold atI
 rw[List.length_append,List.length_singleton,Nd]
 simp
theorem R6{x:PyData}{pre tup:List PyData}{j:Nat}:stP x [pre.length,j] (.list (pre++[.tuple tup])) = .list (pre++[.tuple (tup.set j x)]):=by
 show PyData.list ((pre++[PyData.tuple tup]).set pre.length (stP x [j] ((pre++[PyData.tuple tup]).getD pre.length .none)))=_
 have h:(pre++[PyData.tuple tup])[pre.length]?=some (.tuple tup):=by simp
 rw[Fn h]
 show PyData.list ((pre++[PyData.tuple tup]).set pre.length (PyData.tuple (tup.set j x)))=_
 rw[List.set_append_right _ _ (Nat.le_refl _)]
 simp
theorem QK{τ τz:DS}{pre tup:List PyData}{j:Nat}{k:Int}{cs:List Cl}{c:Cl}{e:DX}(hτ:τ[2]?=some (some (.g (.list (pre++[.tuple tup])))))(hz:τ.set 2 (some (.d (.list (pre++[.tuple tup]))))=τz)(he:e τz=some (ec c,τz))(hk:ixN tup.length k=some j)(hj:tup[j]?=some (eL cs))(ok:τz.all okM=true)(hl:cs.length<=900) :
  LL 2 (dPT (dPL dPV (dUn Ca (dC (.int 1)))) (dC (.int k))) (AA e AE) JD τ=some (.nx (τz.set 2 (some (.g (.list (pre++[.tuple (tup.set j (eL (cs++[c])))])))))):=by
 have g1:dPL dPV (dUn Ca (dC (.int 1))) (.list (pre++[.tuple tup])) τz=some ([pre.length],.tuple tup,τz):=by
  show((ixN (pre++[PyData.tuple tup]).length (-1)).bind fun n=>((pre++[PyData.tuple tup])[n]?).map fun x=>([]++[n],x,τz))=_
  rw[List.length_append,List.length_singleton,Nd]
  show((pre++[PyData.tuple tup])[pre.length]?).map _=_
  simp
 have g2:dPT (dPL dPV (dUn Ca (dC (.int 1)))) (dC (.int k)) (.list (pre++[.tuple tup])) τz=some ([pre.length,j],eL cs,τz):=by
  unfold dPT
  rw[g1]
  show(ixN tup.length k).bind _=_
  rw[hk]
  show(tup[j]?).map _=_
  rw[hj];rfl
 unfold LL
 rw[hτ]
 dsimp only
 unfold Rl
 rw[hz,g2]
 show((AA e AE τz).bind _).map _=_
 rw[ac1 he]
 show((if fixDs [ec c]=true/\τz.all okM=true then (JD (cs.map ec) [ec c]).map (fun cs'=>τz.set 2 (some (.g (stP (.list cs') [pre.length,j] (.list (pre++[.tuple tup])))))) else none)).map Out.nx=_
 rw[if_pos ⟨rfl,ok⟩]
 have ha:JD (cs.map ec) [ec c]=some (cs.map ec++[ec c]):=by
  show(if (cs.map ec).length<sizeLine then _ else _)=_
  rw[if_pos (by rw[List.length_map];exact Nat.lt_of_le_of_lt hl (by decide))]
 rw[ha]
 show some (Out.nx (τz.set 2 (some (.g (stP (.list (cs.map ec++[ec c])) [pre.length,j] (.list (pre++[.tuple tup])))))))=_
 rw[R6]
 unfold eL
 rw[List.map_append];rfl
theorem Tb{τ:DS}{rows:List PyData}{x y:Int}{a b:Cl}{eA eB:DX}(hτ:τ[2]?=some (some (.g (.list rows))))(h4:AD 4 τ=some (.int x,τ))(h3:AD 3 τ=some (.int y,τ))(ha:eA τ=some (ec a,τ))(hb:eB τ=some (ec b,τ))(ok:τ.all okM=true)(hz:rows.length<=900) :
  LO 2 (Ig (Ao (dFd (AD 4)) (Ao (dFd (AD 3)) (Ao (BX (Ao (dFd eA) Bq)) (Ao (BX (Ao (dFd eB) Bq)) Bq))))) τ=some (.nx (τ.set 2 (some (.g (.list (rows++[.tuple [.int x,.int y,eL [a],eL [b]]])))))):=by
 have f4:dFd (AD 4) τ=some (.int x,τ):=by unfold dFd;rw[h4];rfl
 have f3:dFd (AD 3) τ=some (.int y,τ):=by unfold dFd;rw[h3];rfl
 have fA:BX (Ao (dFd eA) Bq) τ=some (eL [a],τ):=by
  unfold BX Ao dFd
  rw[ha];rfl
 have fB:BX (Ao (dFd eB) Bq) τ=some (eL [b],τ):=by
  unfold BX Ao dFd
  rw[hb];rfl
 have t:Ig (Ao (dFd (AD 4)) (Ao (dFd (AD 3)) (Ao (BX (Ao (dFd eA) Bq)) (Ao (BX (Ao (dFd eB) Bq)) Bq)))) τ=some (.tuple [.int x,.int y,eL [a],eL [b]],τ):=by
  have g0:Ao (BX (Ao (dFd eB) Bq)) Bq τ=some ([eL [b]],τ):=by
   show(BX (Ao (dFd eB) Bq) τ).bind _=_
   rw[fB];rfl
  have g1:Ao (BX (Ao (dFd eA) Bq)) (Ao (BX (Ao (dFd eB) Bq)) Bq) τ=some ([eL [a],eL [b]],τ):=by
   show((BX (Ao (dFd eA) Bq)) τ).bind _=_
   rw[fA]
   show(Ao (BX (Ao (dFd eB) Bq)) Bq τ).map _=_
   rw[g0];rfl
  have g2:Ao (dFd (AD 3)) (Ao (BX (Ao (dFd eA) Bq)) (Ao (BX (Ao (dFd eB) Bq)) Bq)) τ=some ([.int y,eL [a],eL [b]],τ):=by
   show(dFd (AD 3) τ).bind _=_
   rw[f3]
   show(Ao (BX (Ao (dFd eA) Bq)) (Ao (BX (Ao (dFd eB) Bq)) Bq) τ).map _=_
   rw[g1];rfl
  have g3:Ao (dFd (AD 4)) (Ao (dFd (AD 3)) (Ao (BX (Ao (dFd eA) Bq)) (Ao (BX (Ao (dFd eB) Bq)) Bq))) τ=some ([.int x,.int y,eL [a],eL [b]],τ):=by
   show(dFd (AD 4) τ).bind _=_
   rw[f4]
   show(Ao (dFd (AD 3)) (Ao (BX (Ao (dFd eA) Bq)) (Ao (BX (Ao (dFd eB) Bq)) Bq)) τ).map _=_
   rw[g2];rfl
  unfold Ig
  rw[g3];rfl
 unfold LO
 rw[hτ]
 dsimp only
 rw[t]
 show(match τ[2]? with|some (some (.g (.list rows)))=>_|_=>_)=_
 rw[hτ]
 dsimp only
 rw[if_pos ⟨Nat.lt_of_le_of_lt hz (by decide),ok⟩]
theorem VH(f:Fw):(ef f).canLay0=true:=by
 unfold ef
 rw[PyData.canLay0,PyData.canLayAll0,PyData.canLayAll0,PyData.canLayAll0,PyData.canLayAll0,VQ,VQ];rfl
theorem VF(r:List Cl):(eL r).depth<=21:=by
 unfold eL
 rw[PyData.depth]
 have:=encC.depL r
 omega
theorem VE(f:Fw):(ef f).depth<=22:=by
 unfold ef
 rw[PyData.depth,PyData.depthAll,PyData.depthAll,PyData.depthAll,PyData.depthAll,PyData.depthAll,PyData.depth,PyData.depth]
 have:=VF f.o
 have:=VF f.n
 omega
theorem W3(f:Fw):PyData.eqv (ef f) (ef f)=true:=by
 unfold ef
 rw[PyData.eqv,PyData.eqvAll,PyData.eqvAll,PyData.eqvAll,PyData.eqvAll,S8,S8]
 simp[PyData.eqv,PyData.eqvAll]
theorem VI:∀l:List Fw,PyData.canLayAll0 (l.map ef)=true
 |[]=>rfl
 |f::l=>by rw[List.map_cons,PyData.canLayAll0,VH,VI l];rfl
theorem VG:∀l:List Fw,PyData.depthAll (l.map ef)<=22
 |[]=>by rw[List.map_nil,PyData.depthAll];omega
 |f::l=>by
  rw[List.map_cons,PyData.depthAll]
  have:=VE f
  have:=VG l
  omega
theorem XH(l:List Fw):okD (.list (l.map ef))=true:=SX (by rw[PyData.canLay0];exact VI l) (by rw[PyData.depth];have:=VG l;omega)
theorem Vo(l:List Fw):fNe (.list (l.map ef)) (.list [])=some (.bool (!l.isEmpty)):=by
 unfold fNe
 rw[XH,show okD (.list [])=true from rfl]
 cases l with
 |nil=>rfl
 |cons f l=>rfl
theorem KJ(n:Nat)(f:Int->Cl):((rng 0 n).map f).length=n:=by rw[List.length_map,C9]
theorem SA(A B:Pc)(c:Cl):D0 A B ⟨c.1,c.2,1⟩=⟨c.1,c.2,[Ap A c.1 c.2],[Ap B c.1 c.2]⟩:=by
 unfold D0
 show Fw.mk c.1 c.2 [Ap A (c.1+(0+((0:Nat):Int))) c.2] [Ap B (c.1+(0+((0:Nat):Int))) c.2]=_
 simp
theorem SB(m:Int)(h:0<=m):rng 0 (m+1).toNat=rng 0 m.toNat++[m]:=by
 unfold rng
 rw[show(m+1).toNat=m.toNat+1 by omega,List.range_succ,List.map_append]
 simp
 omega
theorem RC(A B:Pc)(s:Sx)(h:1<=s.m):D0 A B ⟨s.x,s.y,s.m+1⟩=⟨s.x,s.y,(D0 A B s).o++[Ap A (s.x+s.m) s.y],(D0 A B s).n++[Ap B (s.x+s.m) s.y]⟩:=by
 unfold D0
 dsimp only
 rw[SB s.m (by omega),List.map_append,List.map_append]
 rfl
theorem FJ{i:Nat}{f:DT}{τ τ1:DS}{b:Bool}{xs:List PyData}(hi:τ[i]?=some (some (.g (.list xs))))(hf:f (τ.set i (some (.d (.list xs))))=some (b,τ1))(hx:τ1.all okM=true):EY i f τ=some (b,τ1.set i (some (.g (.list xs)))):=by
 unfold EY
 rw[hi]
 dsimp only
 rw[hf]
 dsimp only[Option.bind]
 rw[if_pos hx]
theorem WR{a b:DT}{τ τ1:DS}(h:a τ=some (false,τ1)):CQ a b τ=some (false,τ1):=by
 unfold CQ
 rw[h];rfl
def cA:DX:=dOp Ad (dOp Ad (AD 0) (AD 3)) (AD 4)
def cB:DX:=dOp Ad (dOp Ad (AD 1) (AD 3)) (AD 4)
def S5:DT:=CQ (AR (dOp fNe (AD 2) (D7 AE))) (CQ (AR (dOp fEq (dOp BB (dOp Ad (AD 2) (dUn Ca (dC (.int 1)))) (dC (.int 1))) (AD 3))) (AR (dOp fEq (dOp Cy (dOp BB (dOp Ad (AD 2) (dUn Ca (dC (.int 1)))) (dC (.int 0))) (Be B2 (AA (dOp BB (dOp Ad (AD 2) (dUn Ca (dC (.int 1)))) (dC (.int 2))) AE))) (AD 4))))
def K6:DB:=Co (AR (dOp fNe cA cB)) (Co (EY 2 S5) (A0 (LL 2 (dPT (dPL dPV (dUn Ca (dC (.int 1)))) (dC (.int 2))) (AA cA AE) JD) (LL 2 (dPT (dPL dPV (dUn Ca (dC (.int 1)))) (dC (.int 3))) (AA cB AE) JD)) (LO 2 (Ig (Ao (dFd (AD 4)) (Ao (dFd (AD 3)) (Ao (BX (Ao (dFd cA) Bq)) (Ao (BX (Ao (dFd cB) Bq)) Bq))))))) EK
theorem UO{A B:Pc}{w h:Nat}(oA:OkP A w h)(oB:OkP B w h){pre:List Cl}(hp:pre.Pairwise lt2)(hl:pre.length<=200){x y:Int}(x0:0<=x)(x1:x<w)(y0:0<=y)(y1:y<h) :
  K6 [some (.d (ep A)),some (.d (ep B)),some (.g (.list ((frS A B pre).map ef))),some (.d (.int y)),some (.d (.int x))]=some (.nx [some (.d (ep A)),some (.d (ep B)),some (.g (.list ((if Ap A x y=Ap B x y then frS A B pre else frS A B (pre++[(x,y)])).map ef))),some (.d (.int y)),some (.d (.int x))]):=by
 let st:=fun(o:Option L)=>[some (L.d (ep A)),some (L.d (ep B)),o,some (L.d (.int y)),some (L.d (.int x))]
 have eA:∀o,cA (st o)=some (ec (Ap A x y),st o):=fun o=>op2 (op2 (x:=ep A) (y:=.int y) (τ1:=st o) (τ2:=st o) rfl rfl (Hj oA y0 y1)) (τ2:=st o) (y:=.int x) rfl (KM oA y0 y1 x0 x1)
 have eB:∀o,cB (st o)=some (ec (Ap B x y),st o):=fun o=>op2 (op2 (x:=ep B) (y:=.int y) (τ1:=st o) (τ2:=st o) rfl rfl (Hj oB y0 y1)) (τ2:=st o) (y:=.int x) rfl (KM oB y0 y1 x0 x1)
 let G:=fun(fr:List Fw)=>some (L.g (.list (fr.map ef)))
 show K6 (st (G (frS A B pre)))=some (.nx (st (G _)))
 have t0:=tst (op2 (F:=fNe) (eA (G (frS A B pre))) (eB _) (encC.fNe _ _))
 by_cases hc:Ap A x y=Ap B x y
 ·rw[if_pos hc]
  refine(FV (τ1:=st (G (frS A B pre))) ?_).trans rfl
  rw[t0];simp[hc]
 ·rw[if_neg hc]
  refine(Qh (τ1:=st (G (frS A B pre))) ?_).trans ?_
  ·rw[t0];simp[hc]
  obtain⟨hf,hm⟩:=Ka hp
  have hsl:(Dz pre).length<=200:=by have:=IB pre [];simp at this;unfold Dz;omega
  have push:∀fr:List Fw,fr.length<=200->LO 2 (Ig (Ao (dFd (AD 4)) (Ao (dFd (AD 3)) (Ao (BX (Ao (dFd cA) Bq)) (Ao (BX (Ao (dFd cB) Bq)) Bq))))) (st (G fr))=some (.nx (st (G (fr++[D0 A B ⟨x,y,1⟩])))):=fun fr hfr=>by
   rw[Tb (τ:=st (G fr)) (rows:=fr.map ef) (x:=x) (y:=y) rfl rfl rfl (eA _) (eB _) rfl (by rw[List.length_map];omega)]
   show some (Out.nx (st (some (L.g (.list (fr.map ef++[.tuple [.int x,.int y,eL [Ap A x y],eL [Ap B x y]]]))))))=some (Out.nx (st (some (L.g (.list ((fr++[D0 A B ⟨x,y,1⟩]).map ef))))))
   rw[List.map_append,SA A B (x,y)];rfl
  have e1:frS A B (pre++[(x,y)])=(stS (Dz pre) (x,y)).map (D0 A B):=by unfold frS;rw[MB]
  rcases List.eq_nil_or_concat (Dz pre)with hn|⟨l,s,hn⟩
  ·have e0:frS A B pre=[]:=by unfold frS;rw[hn];rfl
   rw[e1,e0,hn,R5]
   refine(FV (τ1:=st (G [])) (FJ (xs:=[]) (τ1:=st (some (.d (.list [])))) rfl (WR (tst rfl)) rfl)).trans ?_
   exact push [] (by simp)
  ·rw[List.concat_eq_append]at hn
   have e0:frS A B pre=l.map (D0 A B)++[D0 A B s]:=by unfold frS;rw[hn,List.map_append];rfl
   have m1:=(hm s (by rw[hn];simp)).1
   let fl:=l.map (D0 A B)
   let f:=D0 A B s
   have hll:l.length<200:=by rw[hn]at hsl;simp at hsl;omega
   have lo:f.o.length=s.m.toNat:=KJ _ _
   have ln:f.n.length=s.m.toNat:=KJ _ _
   have mz:s.m.toNat<=200:=by
    have h1:pre.length=(GZ (l++[s])).length:=by rw[<- hn,hf]
    rw[HB,List.length_append]at h1
    have h2:(GA s.x s.y s.m.toNat).length=s.m.toNat:=by unfold GA;rw[List.length_map,C9]
    omega
   let rows:=(fl++[f]).map ef
   have er:rows=fl.map ef++[ef f]:=by show(fl++[f]).map ef=_;rw[List.map_append];rfl
   let tz:=st (some (.d (.list rows)))
   have lst:dOp Ad (AD 2) (dUn Ca (dC (.int 1))) tz=some (ef f,tz):=op2 (x:=.list rows) (y:=.int (-1)) (τ1:=tz) rfl rfl (by show atI rows (-1)=_;rw[er,O6])
   have k1:AR (dOp fNe (AD 2) (D7 AE)) tz=some (true,tz):=tst (op2 (x:=.list rows) (y:=.list []) (τ1:=tz) rfl rfl (by rw[show rows=(fl++[f]).map ef from rfl,Vo];simp))
   have k2:AR (dOp fEq (dOp BB (dOp Ad (AD 2) (dUn Ca (dC (.int 1)))) (dC (.int 1))) (AD 3)) tz=some (decide (s.y=y),tz):=tst (op2 (op2 lst (y:=.int 1) (τ2:=tz) rfl (r:=.int s.y) rfl) (y:=.int y) (τ2:=tz) rfl (by rw[encI.fEq]))
   have k3:AR (dOp fEq (dOp Cy (dOp BB (dOp Ad (AD 2) (dUn Ca (dC (.int 1)))) (dC (.int 0))) (Be B2 (AA (dOp BB (dOp Ad (AD 2) (dUn Ca (dC (.int 1)))) (dC (.int 2))) AE))) (AD 4)) tz=some (decide (s.x+s.m=x),tz):=by
    have q1:=op2 (F:=BB) lst (g:=dC (.int 0)) (y:=.int 0) (τ2:=tz) rfl (r:=.int s.x) rfl
    have q2:=op2 (F:=BB) lst (g:=dC (.int 2)) (y:=.int 2) (τ2:=tz) rfl (r:=eL f.o) rfl
    have q3:Be B2 (AA (dOp BB (dOp Ad (AD 2) (dUn Ca (dC (.int 1)))) (dC (.int 2))) AE) tz=some (.int s.m,tz):=N1 (ac1 q2) rfl (by show some (PyData.int ((f.o.map ec).length:Int))=_;rw[List.length_map,lo];congr 2;omega)
    exact tst (op2 (op2 q1 q3 (r:=.int (s.x+s.m)) rfl) (y:=.int x) (τ2:=tz) rfl (by rw[encI.fEq]))
   have kt:=FJ (i:=2) (f:=S5) (τ:=st (G (fl++[f]))) (τ1:=tz) (xs:=rows) rfl (WS k1 (WS k2 k3)) rfl
   rw[e1,e0,hn,KI]
   by_cases hx:(x,y)=(s.x+s.m,s.y)
   ·injection hx with hx1 hx2
    rw[if_pos (by rw[hx1,hx2]),List.map_append]
    show Co _ _ _ (st (G (fl++[f])))=some (.nx (st (G (fl++[D0 A B ⟨s.x,s.y,s.m+1⟩]))))
    refine(Qh (τ1:=st (G (fl++[f]))) (by rw[kt,hx1,hx2];simp;rfl)).trans ?_
    let f1:Fw:=⟨s.x,s.y,f.o++[Ap A x y],f.n⟩
    have o1:=QK (τ:=st (G (fl++[f]))) (τz:=st (some (.d (.list (fl.map ef++[ef f]))))) (pre:=fl.map ef) (tup:=[.int s.x,.int s.y,eL f.o,eL f.n]) (j:=2) (k:=2) (cs:=f.o) (c:=Ap A x y) (e:=cA) (by show some (some (L.g (.list rows)))=_;rw[er];rfl) rfl (eA _) rfl rfl rfl (by omega)
    have o2:=QK (τ:=st (some (.g (.list (fl.map ef++[ef f1]))))) (τz:=st (some (.d (.list (fl.map ef++[ef f1]))))) (pre:=fl.map ef) (tup:=[.int s.x,.int s.y,eL (f.o++[Ap A x y]),eL f.n]) (j:=3) (k:=3) (cs:=f.n) (c:=Ap B x y) (e:=cB) rfl rfl (eB _) rfl rfl rfl (by omega)
    refine(Al (τ1:=st (some (.g (.list (fl.map ef++[ef f1]))))) o1).trans (o2.trans ?_)
    rw[RC A B s m1,<- hx1,<- hx2]
    show some (Out.nx (st (some (L.g (.list (fl.map ef++[ef (Fw.mk s.x y (f.o++[Ap A x y]) (f.n++[Ap B x y]))]))))))=some (Out.nx (st (some (L.g (.list ((fl++[Fw.mk s.x y (f.o++[Ap A x y]) (f.n++[Ap B x y])]).map ef))))))
    rw[List.map_append];rfl
   ·rw[if_neg hx,List.map_append,List.map_append]
    show Co _ _ _ (st (G (fl++[f])))=some (.nx (st (G (fl++[f]++[D0 A B ⟨x,y,1⟩]))))
    refine (FV (τ1 := st (G (fl ++ [f]))) (by
     rw[kt]
     have:(decide (s.y=y)&&decide (s.x+s.m=x))=false:=by
      by_cases z1:s.y=y
      ·by_cases z2:s.x+s.m=x
       ·exact absurd (by rw[z1,z2]) hx
       ·simp[z2]
      ·simp[z1]
     rw[this];rfl)).trans (push (fl++[f]) (by simp[fl];omega))
theorem PM{n:Nat}{pre post:List Int}{v:Int}(h:rng 0 n=pre++v::post):v=(pre.length:Int)/\pre.length<n:=by
 have hl:=congrArg List.length h
 rw[C9,List.length_append,List.length_cons]at hl
 have e:(rng 0 n)[pre.length]?=some v:=by rw[h];simp
 unfold rng at e
 rw[List.getElem?_map,List.getElem?_range (by omega)]at e
 simp at e
 exact⟨by omega,by omega⟩
theorem Rs(A B:Pc)(y k:Nat):Bg A B y (k+1)=Bg A B y k++if Ap A k y=Ap B k y then [] else [((k:Int),(y:Int))]:=by
 unfold Bg
 rw[List.range_succ,List.filter_append,List.map_append]
 congr 1
 have e:dif A B y k=!decide (Ap A (k:Int) (y:Int)=Ap B (k:Int) (y:Int)):=by unfold dif Ap;simp
 rw[List.filter_cons,e]
 by_cases hc:Ap A (k:Int) (y:Int)=Ap B (k:Int) (y:Int)
 ·simp[hc]
 ·simp[hc]
theorem Rf(A B:Pc)(w h:Nat):BH A B w (h+1)=BH A B w h++Bg A B h w:=by unfold BH;rw[List.range_succ,List.flatMap_append];simp
theorem OH(A B:Pc)(w y k:Nat):(BH A B w y++Bg A B y k).Pairwise lt2:=by
 refine List.pairwise_append.mpr ⟨D5 A B w y,Jz A B y k,fun a ha b hb=>?_⟩
 have h1:=(KQ ha).2.2.2.1
 have h2:=(Ii hb).1
 unfold lt2
 omega
theorem LU{A B:Pc}{w h:Nat}(oA:OkP A w h)(oB:OkP B w h)(w9:w<=9)(h1:1<=h)(h9:h<=9) :
  ∃ls,Cu [.d (ep A),.d (ep B)]=some (.list ((frS A B (BH A B w h)).map ef),ls):=by
 let I:=fun(i:Int)=>some (L.d (.int i))
 let D:=fun(d:PyData)=>some (L.d d)
 let st:=fun(cs:List Cl) (y x:Option L)=>[D (ep A),D (ep B),some (L.g (.list ((frS A B cs).map ef))),y,x]
 have lenA:∀τ:DS,τ[0]?=some (D (ep A))->Be B2 (AA (AD 0) AE) τ=some (.int (h:Int),τ):=fun τ h0=>by
  have e0:AD 0 τ=some (ep A,τ):=by unfold AD;rw[h0]
  exact N1 (ac1 e0) rfl (by show some (PyData.int ((A.map eL).length:Int))=_;rw[List.length_map,oA.len])
 have lenR:∀τ:DS,τ[0]?=some (D (ep A))->Be B2 (AA (dOp Ad (AD 0) (dC (.int 0))) AE) τ=some (.int (w:Int),τ):=fun τ h0=>by
  have e0:AD 0 τ=some (ep A,τ):=by unfold AD;rw[h0]
  have e1:=op2 (F:=Ad) e0 (g:=dC (.int 0)) (τ2:=τ) (y:=.int 0) rfl (Hj oA (y:=0) (by omega) (by omega))
  exact N1 (ac1 e1) rfl (by show some (PyData.int (((A.getD (0:Int).toNat []).map ec).length:Int))=_;rw[List.length_map,oA.row (y:=0) (by omega) (by omega)])
 have inn:∀(y:Nat) (x:Option L),y<h->nM x->∃x',nM x'/\EL (dR1 (AA (Be B2 (AA (dOp Ad (AD 0) (dC (.int 0))) AE)) AE)) (dN 4) K6 (st (BH A B w y) (I y) x)=some (.nx (st (BH A B w (y+1)) (I y) x')):=by
  intro y x hy nx
  have lp:∃τ',CH (dN 4) K6 ((rng 0 w).map PyData.int) (st (BH A B w y) (I y) x)=some (.nx τ')/\∃x',nM x'/\τ'=st (BH A B w y++Bg A B y (rng 0 w).length) (I y) x':=by
   refine D2 (fun(pre:List Int) τ=>∃x',nM x'/\τ=st (BH A B w y++Bg A B y pre.length) (I y) x') ⟨x,nx,by show _=st (BH A B w y++Bg A B y 0) (I y) x;rw[show Bg A B y 0=[] from rfl,List.append_nil]⟩ ?_
   rintro pre v post τ hp ⟨x',nx',rfl⟩
   obtain⟨rfl,hv⟩:=PM hp
   let cs:=BH A B w y++Bg A B y pre.length
   have hcl:cs.length<=200:=by
    have h3:=LD A B (w:=w) (h:=y) (by omega) (by omega)
    have h4:=LP A B y pre.length
    show(BH A B w y++Bg A B y pre.length).length<=200
    rw[List.length_append]
    omega
   have fb:=UO oA oB (pre:=cs) (OH A B w y pre.length) hcl (x:=(pre.length:Int)) (y:=(y:Int)) (by omega) (by omega) (by omega) (by omega)
   refine⟨st cs (I y) (I pre.length),st (BH A B w y++Bg A B y (pre++[(pre.length:Int)]).length) (I y) (I pre.length),CA (o:=x') rfl nx',fb.trans ?_,_,DR,rfl⟩
   have e2:(if Ap A (pre.length:Int) (y:Int)=Ap B (pre.length:Int) (y:Int) then frS A B cs else frS A B (cs++[((pre.length:Int),(y:Int))]))=frS A B (BH A B w y++Bg A B y (pre++[(pre.length:Int)]).length):=by
    rw[List.length_append,List.length_singleton,Rs]
    by_cases hc:Ap A (pre.length:Int) (y:Int)=Ap B (pre.length:Int) (y:Int)
    ·rw[if_pos hc,if_pos hc,List.append_nil]
    ·rw[if_neg hc,if_neg hc,<- List.append_assoc]
   rw[e2]
  obtain⟨τ',el,x',nx',rfl⟩:=lp
  refine⟨x',nx',(Fq (Kf (n:=(w:Int)) (ac1 (lenR _ rfl)) (by omega) (by omega))).trans ?_⟩
  rw[Int.toNat_natCast,el,C9,Rf]
 have lp:∃τ',CH (dN 3) (EL (dR1 (AA (Be B2 (AA (dOp Ad (AD 0) (dC (.int 0))) AE)) AE)) (dN 4) K6) ((rng 0 h).map PyData.int) (st [] none none)=some (.nx τ')/\∃y x,nM y/\nM x/\τ'=st (BH A B w (rng 0 h).length) y x:=by
  refine D2 (fun(pre:List Int) τ=>∃y x,nM y/\nM x/\τ=st (BH A B w pre.length) y x) ⟨none,none,A2,A2,rfl⟩ ?_
  rintro pre v post τ hp ⟨y,x,ny,nx,rfl⟩
  obtain⟨rfl,hv⟩:=PM hp
  obtain⟨x',nx',e⟩:=inn pre.length x hv nx
  exact⟨st (BH A B w pre.length) (I pre.length) x,_,CA (o:=y) rfl ny,e,I pre.length,x',DR,nx',by rw[List.length_append,List.length_singleton]⟩
 obtain⟨τ',el,y,x,ny,nx,rfl⟩:=lp
 rw[C9]at el
 refine⟨[.d (ep A),.d (ep B)],?_⟩
 unfold Cu
 refine DF (τ:=st (BH A B w h) y x) ?_ rfl rfl
 refine(Al (τ1:=st [] none none) rfl).trans ?_
 refine(Al (τ1:=st (BH A B w h) y x) ((Fq (Kf (n:=(h:Int)) (ac1 (lenA _ rfl)) (by omega) (by omega))).trans ?_)).trans rfl
 rw[Int.toNat_natCast]
 exact el
theorem Ss(p:Cl):∃ls,As [.d (ec p)]=some (.bool true,ls):=⟨_,rfl⟩
theorem W2(f:Fw):fNe (ef f) (ef f)=some (.bool false):=Ol (VH f) (Nat.le_trans (VE f) (by decide)) (W3 f)
theorem Ke{fr:List Fw}(hl:fr.length<=500)(hr:∀f∈fr,f.o.length+f.n.length<=900):∃ls,An [.d (.list (fr.map ef)),.d (.list (fr.map ef))]=some (.bool true,ls):=by
 let F:PyData:=.list (fr.map ef)
 let st:=fun(k r:Option L)=>[some (L.d F),some (L.d F),k,r]
 have ln:∀(i:Nat) (k r:Option L),i<2->Be B2 (AA (AD i) AE) (st k r)=some (.int fr.length,st k r):=fun i k r hi=>by
  have hv:AD i (st k r)=some (F,st k r):=by
   rcases(show i=0\/i=1 by omega)with rfl|rfl<;>rfl
  exact N1 (ac1 hv) rfl (by show some (PyData.int ((fr.map ef).length:Nat))=_;rw[List.length_map])
 have lp:∃τ',CH (dN 2) (A0 (Ch (dOp Ad (AD 0) (AD 2)) (dN 3)) (A0 (Co (EJ (Bz (AR (Ea "tuple" (AD 3)))) (EJ (AR (dOp fNe (Be B2 (AA (AD 3) AE)) (dC (.int 4)))) (AR (dOp fNe (AD 3) (dOp Ad (AD 1) (AD 2)))))) (B3 (dC (.bool false))) EK) (A0 (Co (EJ (Bz (AR (Ae As (AA (BN (AA (dOp BB (AD 3) (dC (.int 0))) (AA (dOp BB (AD 3) (dC (.int 1))) AE))) AE)))) (EJ (Bz (AR (Ea "list" (dOp BB (AD 3) (dC (.int 2)))))) (Bz (AR (Ea "list" (dOp BB (AD 3) (dC (.int 3)))))))) (B3 (dC (.bool false))) EK) (Co (AR (dOp fNe (dLC 1 [] (dIL (dOp Pq (dOp BB (AD 3) (dC (.int 2))) (dOp BB (AD 3) (dC (.int 3))))) (dN 0) (Bz (AR (Ae As (AA (AD 0) AE)))) (AD 0)) (D7 AE))) (B3 (dC (.bool false))) EK)))) ((rng 0 fr.length).map PyData.int) (st none none)=some (.nx τ')/\∃k r,nM k/\nM r/\τ'=st k r:=by
  refine D2 (fun(_:List Int) τ=>∃k r,nM k/\nM r/\τ=st k r) ⟨none,none,A2,A2,rfl⟩ ?_
  rintro pre v post τ hp ⟨k,r,nk,nr,rfl⟩
  obtain⟨rfl,hv⟩:=PM hp
  let f:=fr[pre.length]
  have hfm:f∈fr:=List.getElem_mem hv
  have ix:Ad F (.int (pre.length:Int))=some (ef f):=by
   show atI (fr.map ef) (pre.length:Int)=_
   unfold atI
   rw[List.length_map,Hk (by omega) (by omega),Int.toNat_natCast]
   show(fr.map ef)[pre.length]?=_
   rw[List.getElem?_map,List.getElem?_eq_getElem hv];rfl
  let tk:=st (some (.d (.int pre.length))) r
  let t:=st (some (.d (.int pre.length))) (some (.d (ef f)))
  have a0:Ch (dOp Ad (AD 0) (AD 2)) (dN 3) tk=some (.nx t):=Dq (op2 (x:=F) (y:=.int pre.length) (τ1:=tk) (τ2:=tk) rfl rfl ix) (CA (o:=r) rfl nr)
  have t1:AR (Ea "tuple" (AD 3)) t=some (true,t):=rfl
  have t2:AR (dOp fNe (Be B2 (AA (AD 3) AE)) (dC (.int 4))) t=some (false,t):=rfl
  have t3:AR (dOp fNe (AD 3) (dOp Ad (AD 1) (AD 2))) t=some (false,t):=tst (op2 (x:=ef f) (τ1:=t) rfl (op2 (x:=F) (y:=.int pre.length) (τ1:=t) (τ2:=t) rfl rfl ix) (W2 f))
  obtain⟨lq,eq⟩:=Ss (f.x,f.y)
  have t4:AR (Ae As (AA (BN (AA (dOp BB (AD 3) (dC (.int 0))) (AA (dOp BB (AD 3) (dC (.int 1))) AE))) AE)) t=some (true,t):=tst (Bt (rs:=[.d (ec (f.x,f.y))]) (ds:=[ec (f.x,f.y)]) rfl rfl eq)
  have t5:AR (Ea "list" (dOp BB (AD 3) (dC (.int 2)))) t=some (true,t):=rfl
  have t6:AR (Ea "list" (dOp BB (AD 3) (dC (.int 3)))) t=some (true,t):=rfl
  let rs:=f.o++f.n
  have hrs:rs.length<=900:=by show(f.o++f.n).length<=900;rw[List.length_append];exact hr f hfm
  have t7:AR (dOp fNe (dLC 1 [] (dIL (dOp Pq (dOp BB (AD 3) (dC (.int 2))) (dOp BB (AD 3) (dC (.int 3))))) (dN 0) (Bz (AR (Ae As (AA (AD 0) AE)))) (AD 0)) (D7 AE)) t=some (false,t):=by
   obtain ⟨τb, el⟩ := E1 (enc := ec) (g := dN 0) (c := Bz (AR (Ae As (AA (AD 0) AE)))) (e := AD 0) (fun τ => ∃ o, nM o /\ τ = [o]) (fun _ => false) ec (xs := rs) (acc := []) (τ := [none]) ⟨none, A2, rfl⟩ (by
    rintro c τ _ ⟨o,ho,rfl⟩
    obtain⟨ls,e⟩:=Ss c
    exact⟨_,[some (.d (ec c))],CA (o:=o) rfl ho,NB (b:=true) (tst (Bt (rs:=[.d (ec c)]) (ds:=[ec c]) rfl rfl e)),fun _=>⟨_,DR,rfl⟩,fun z=>(nomatch z)⟩)
   have hf:rs.filter (fun _=>false)=[]:=by simp
   rw[List.nil_append,hf]at el
   have hi:dIL (dOp Pq (dOp BB (AD 3) (dC (.int 2))) (dOp BB (AD 3) (dC (.int 3)))) t=some (rs.map ec,t):=by
    have := op2 (F := Pq) (f := dOp BB (AD 3) (dC (.int 2))) (g := dOp BB (AD 3) (dC (.int 3))) (τ := t) (τ1 := t) (τ2 := t) (x := eL f.o) (y := eL f.n) (r := .list (rs.map ec)) rfl rfl (by
     show(if (f.o.map ec).length+(f.n.map ec).length<=sizeLine then some (PyData.list (f.o.map ec++f.n.map ec)) else none)=_
     rw[if_pos (by rw[List.length_map,List.length_map];exact sz (by have:=hr f hfm;omega)),<- List.map_append])
    unfold dIL
    rw[this];rfl
   exact tst (op2 (JV (τb:=τb) hi (by rw[List.length_map];exact sz (by omega)) rfl el) (y:=.list (([]:List Cl).map ec)) rfl (encC.fNeL [] []))
  refine⟨tk,t,CA (o:=k) rfl nk,?_,_,_,DR,DR,rfl⟩
  refine(Al (τ1:=t) a0).trans ?_
  refine(Al (τ1:=t) ((FV (PV (NB t1) (PV t2 t3))).trans rfl)).trans ?_
  exact(Al (τ1:=t) ((FV (PV (NB t4) (PV (NB t5) (NB t6)))).trans rfl)).trans ((FV t7).trans rfl)
 obtain⟨τ',el,k,r,nk,nr,rfl⟩:=lp
 unfold An
 refine⟨_,DF (τ:=st k r) ?_ rfl rfl⟩
 have t1:AR (Ea "list" (AD 0)) (st none none)=some (true,st none none):=rfl
 have t2:AR (dOp fNe (Be B2 (AA (AD 0) AE)) (Be B2 (AA (AD 1) AE))) (st none none)=some (false,st none none):=by
  refine tst (op2 (ln 0 none none (by decide)) (ln 1 none none (by decide)) ?_)
  have:=encI.fNe (fr.length:Int) fr.length
  rw[decide_eq_true (rfl:(fr.length:Int)=fr.length)]at this
  exact this
 refine(Al (τ1:=st none none) ((FV (PV (NB t1) t2)).trans rfl)).trans ((Al (τ1:=st k r) ((Fq (Kf (n:=(fr.length:Int)) (ac1 (ln 1 none none (by decide))) (by omega) (by omega))).trans ?_)).trans rfl)
 rw[Int.toNat_natCast]
 exact el
theorem VB{A B:Pc}{cs:List Cl}(hs:cs.Pairwise lt2):(frS A B cs).length<=cs.length/\∀f∈frS A B cs,f.o.length<=cs.length/\f.n.length<=cs.length:=by
 obtain⟨hf,hm⟩:=Ka hs
 refine⟨?_,fun f hfm=>?_⟩
 ·unfold frS
  rw[List.length_map]
  have:=IB cs []
  simp at this
  exact this
 ·unfold frS at hfm
  obtain⟨s,hs',rfl⟩:=List.mem_map.mp hfm
  obtain⟨a,b,e⟩:=List.append_of_mem hs'
  have h1:cs.length=(GZ (a++s::b)).length:=by rw[<- e,hf]
  unfold GZ at h1
  rw[List.flatMap_append,List.flatMap_cons,List.length_append,List.length_append]at h1
  have h2:(GA s.x s.y s.m.toNat).length=s.m.toNat:=by unfold GA;rw[List.length_map,C9]
  have h3:(D0 A B s).o.length=s.m.toNat:=KJ _ _
  have h4:(D0 A B s).n.length=s.m.toNat:=KJ _ _
  omega
theorem Rg(A:Pc)(w h:Nat):BH A A w h=[]:=List.eq_nil_iff_forall_not_mem.mpr fun c hc=>(KQ hc).2.2.2.2 rfl
theorem US(P Q E:Pc):fNe (.list [ep P,ep Q,ep E]) (.list [ep P,ep Q,ep E])=some (.bool false):=by
 refine Ol ?_ ?_ ?_
 ·rw[PyData.canLay0,PyData.canLayAll0,PyData.canLayAll0,PyData.canLayAll0,SO,SO,SO];rfl
 ·rw[PyData.depth,PyData.depthAll,PyData.depthAll,PyData.depthAll,PyData.depthAll]
  have:=SN P
  have:=SN Q
  have:=SN E
  omega
 ·rw[PyData.eqv,PyData.eqvAll,PyData.eqvAll,PyData.eqvAll,S7,S7,S7];rfl
theorem Tn{x:PyData}{pre tup post:List PyData}{j:Nat}:stP x [pre.length,j] (.list (pre++.tuple tup::post)) = .list (pre++.tuple (tup.set j x)::post):=by
 show PyData.list ((pre++PyData.tuple tup::post).set pre.length (stP x [j] ((pre++PyData.tuple tup::post).getD pre.length .none)))=_
 have h:(pre++PyData.tuple tup::post)[pre.length]?=some (.tuple tup):=by simp
 rw[Fn h]
 show PyData.list ((pre++PyData.tuple tup::post).set pre.length (PyData.tuple (tup.set j x)))=_
 rw[List.set_append_right _ _ (Nat.le_refl _)]
 simp
theorem SR{τ τz:DS}{pre tup post cs cs' ds:List PyData}{j:Nat}{k:Int}{a:DA}{rs:List Ar}{go:List PyData->List PyData->Option (List PyData)}(hτ:τ[6]?=some (some (.g (.list (pre++.tuple tup::post)))))(hz:τ.set 6 (some (.d (.list (pre++.tuple tup::post))))=τz)(hk:ixN tup.length k=some j)(hj:tup[j]?=some (.list cs))(ha:a τz=some (rs,τz))(hd:Ci rs=some ds)(fx:fixDs ds=true)(ok:τz.all okM=true)(hg:go cs ds=some cs') :
  Lz 6 (dPT dPV (dC (.int k))) a go pre.length τ=some (τz.set 6 (some (.g (.list (pre++.tuple (tup.set j (.list cs'))::post))))):=by
 have h:(pre++PyData.tuple tup::post)[pre.length]?=some (.tuple tup):=by simp
 unfold Lz
 rw[hτ]
 dsimp only
 rw[h]
 dsimp only
 unfold Rl
 rw[hz]
 have g1:dPT dPV (dC (.int k)) (.tuple tup) τz=some ([j],.list cs,τz):=by
  show((ixN tup.length k).bind fun n=>(tup[n]?).map fun x=>([]++[n],x,τz))=_
  rw[hk]
  show(tup[j]?).map _=_
  rw[hj];rfl
 rw[g1]
 show(a τz).bind _=_
 rw[ha]
 show(Ci rs).bind _=_
 rw[hd]
 show(if fixDs ds=true/\τz.all okM=true then (go cs ds).map (fun cs'=>τz.set 6 (some (.g (stP (.list cs') [pre.length,j] (.list (pre++.tuple tup::post)))))) else none)=_
 rw[if_pos ⟨fx,ok⟩,hg]
 show some (τz.set 6 (some (.g (stP (.list cs') [pre.length,j] (.list (pre++.tuple tup::post))))))=_
 rw[Tn]
def RZ:Nat->DS->Option DS:=Qr (Lz 6 (dPT dPV (dC (.int 2))) AE Pd) (Lz 6 (dPT dPV (dC (.int 3))) (AA (BN (AA (dC (.int 0)) (AA (dC (.int 1)) AE))) AE) JD)
theorem MF{v:Int}{ns:List PyData}{a b c d e f:Option L}(ok:∀T:PyData,[some (L.c ns),some (L.m [.int v]),a,b,c,d,some (.d T),e,f,none].all okM=true):∀(fr:List Fw) (pre:List PyData),(∀g∈fr,g.n.length<=900) ->
  ∃T,IX 9 RZ fr.length pre.length [some (L.c ns),some (L.m [.int v]),a,b,c,d,some (.g (.list (pre++fr.map ef))),e,f,none]=some [some (L.c ns),some (L.m [.int v]),a,b,c,d,some (.g (.list T)),e,f,none]
 |[],pre,_=>⟨_,rfl⟩
 |g::fr,pre,hn=>by
  let st:=fun(o:Option L)=>[some (L.c ns),some (L.m [.int v]),a,b,c,d,o,e,f,none]
  let G1:PyData:=.tuple [.int g.x,.int g.y,.list [],eL g.n]
  let G2:PyData:=.tuple [.int g.x,.int g.y,.list [],.list (g.n.map ec++[ec (0,1)])]
  have o1:=SR (τ:=st (some (.g (.list (pre++ef g::fr.map ef))))) (τz:=st (some (.d (.list (pre++ef g::fr.map ef))))) (pre:=pre) (tup:=[.int g.x,.int g.y,eL g.o,eL g.n]) (post:=fr.map ef) (cs:=g.o.map ec) (cs':=[]) (ds:=[]) (j:=2) (k:=2) (a:=AE) (rs:=[]) (go:=Pd) rfl rfl rfl rfl rfl rfl rfl (ok _) rfl
  have hap:JD (g.n.map ec) [ec (0,1)]=some (g.n.map ec++[ec (0,1)]):=by
   show(if (g.n.map ec).length<sizeLine then _ else _)=_
   rw[if_pos (by rw[List.length_map];exact Nat.lt_of_le_of_lt (hn g (List.mem_cons_self ..)) (by decide))]
  have o2:=SR (τ:=st (some (.g (.list (pre++G1::fr.map ef))))) (τz:=st (some (.d (.list (pre++G1::fr.map ef))))) (pre:=pre) (tup:=[.int g.x,.int g.y,.list [],eL g.n]) (post:=fr.map ef) (cs:=g.n.map ec) (cs':=g.n.map ec++[ec (0,1)]) (ds:=[ec (0,1)]) (j:=3) (k:=3) (a:=AA (BN (AA (dC (.int 0)) (AA (dC (.int 1)) AE))) AE) (rs:=[.d (ec (0,1))]) (go:=JD) rfl rfl rfl rfl rfl rfl rfl (ok _) hap
  have hs:RZ pre.length (st (some (.g (.list (pre++ef g::fr.map ef)))))=some (st (some (.g (.list (pre++G2::fr.map ef))))):=by
   show(Lz 6 (dPT dPV (dC (.int 2))) AE Pd pre.length _).bind _=_
   rw[o1]
   exact o2
  obtain⟨T,ih⟩:=MF ok fr (pre++[G2]) fun z hz=>hn z (List.mem_cons_of_mem _ hz)
  refine⟨T,?_⟩
  show(RZ pre.length (st (some (.g (.list (pre++ef g::fr.map ef)))))).bind (IX 9 RZ fr.length (pre.length+1))=_
  rw[hs]
  rw[List.length_append,List.length_singleton,List.append_assoc]at ih
  exact ih
theorem O5{i:Nat}{f:DX}{τ τ1:DS}{d:PyData}{xs:List PyData}(hi:τ[i]?=some (some (.g (.list xs))))(hf:f (τ.set i (some (.d (.list xs))))=some (d,τ1))(hx:τ1.all okM=true):Hm i f τ=some (d,τ1.set i (some (.g (.list xs)))):=by
 unfold Hm
 rw[hi]
 dsimp only
 rw[hf]
 dsimp only[Option.bind]
 rw[if_pos hx]
theorem VV{x b c:PyData}{r:List Cl}{A' A:Pc}(hA:A=r::A'):stP x [0,0] (.list [ep A,b,c]) = .list [.list (x::A'.map eL),b,c]:=by subst hA;rfl
theorem Vf{b c:PyData}{r:List Cl}{A' A:Pc}{τz:DS}(hA:A=r::A'):dPL (dPL dPV (dC (.int 0))) (dC (.int 0)) (.list [ep A,b,c]) τz=some ([0,0],eL r,τz):=by
 subst hA
 show((ixN ((r::A').map eL).length 0).bind fun n=>(((r::A').map eL)[n]?).map fun x=>([0]++[n],x,τz))=_
 rw[Hk (by omega) (by rw[List.length_map,List.length_cons];omega)]
 rfl
theorem Tr{τ τz:DS}{rows cs:List PyData}{π:List Nat}{n:Nat}{k:Int}{d:PyData}{e e2:DX}{g:DP}(hi:τ[5]?=some (some (.g (.list rows))))(hz:τ.set 5 (some (.d (.list rows)))=τz)(he:e τz=some (d,τz))(hg:g (.list rows) τz=some (π,.list cs,τz))(h2:e2 τz=some (.int k,τz))(f1:Dm d=true)(f2:fixDs cs=true)(ok:τz.all okM=true)(hk:ixN cs.length k=some n) :
  Os 5 e g e2 τ=some (.nx (τz.set 5 (some (.g (stP (.list (cs.set n d)) π (.list rows)))))):=by
 unfold Os
 rw[hi]
 dsimp only
 rw[hz,he]
 dsimp only[Option.bind]
 rw[hg]
 dsimp only
 rw[h2]
 dsimp only
 rw[if_pos ⟨f1,f2,ok⟩,hk]
 rfl
theorem OV(ns:List Int)(h63:ns.length<=63):∃ls,Ks [.c (ns.map .int)]=some (.bool true,ls):=by
 obtain⟨v0,lb,hbig⟩:=XC (ns:=ns) (k:=0) (by decide)
 let C:=some (L.c (ns.map .int))
 let M:=fun(i:Int)=>some (L.m [.int i])
 let D:=fun(d:PyData)=>some (L.d d)
 let w:Nat:=(1+v0 % 9).toNat
 let h:Nat:=(1+v0 / 9 % 6).toNat
 have ew:1+v0 % 9=(w:Int):=by show _=(((1+v0 % 9).toNat:Nat):Int);omega
 have eh:1+v0 / 9 % 6=(h:Int):=by show _=(((1+v0 / 9 % 6).toNat:Nat):Int);omega
 have w1:1<=w:=by omega
 have w9:w<=9:=by omega
 have h1:1<=h:=by omega
 have h6:h<=9:=by omega
 have h66:h<=6:=by omega
 obtain⟨A,v3,eA,oA⟩:=Ki (v:=v0 / 9 / 6) (w:=w) (h:=h) (by omega) (by omega) (by omega) (by omega)
 rw[Int.toNat_natCast,Int.toNat_natCast]at oA
 obtain⟨B,v4,eB,oB⟩:=QM (v:=v3) oA w1 w9 h1 h6
 obtain⟨E,v5,eE,oE⟩:=QM (v:=v4) oB w1 w9 h1 h6
 have zA:A.length<=1000:=by rw[oA.len];omega
 have zB:B.length<=1000:=by rw[oB.len];omega
 have zE:E.length<=1000:=by rw[oE.len];omega
 let fAB:=frS A B (BH A B w h)
 let fBE:=frS B E (BH B E w h)
 let FAB:PyData:=.list (fAB.map ef)
 let FBE:PyData:=.list (fBE.map ef)
 obtain⟨l1,p1⟩:=Dl oA oB w9 h66
 obtain⟨l2,p2⟩:=Dl oB oE w9 h66
 obtain⟨l3,p3⟩:=Dl oA oA w9 h66
 rw[Rg]at p3
 obtain⟨l4,q1⟩:=LU oA oB w9 h1 h6
 obtain⟨l5,q2⟩:=LU oB oE w9 h1 h6
 have dAB:=LD A B (w:=w) (h:=h) (by omega) h6
 have dBE:=LD B E (w:=w) (h:=h) (by omega) h6
 obtain⟨bAB,cAB⟩:=VB (A:=A) (B:=B) (D5 A B w h)
 obtain⟨bBE,cBE⟩:=VB (A:=B) (B:=E) (D5 B E w h)
 obtain⟨l6,s1⟩:=Ke (fr:=fAB) (by show(frS A B (BH A B w h)).length<=500;omega) fun f hf=>by have:=cAB f hf;omega
 obtain⟨l7,s2⟩:=Ke (fr:=fBE) (by show(frS B E (BH B E w h)).length<=500;omega) fun f hf=>by have:=cBE f hf;omega
 -- the first row of the first picture
 obtain⟨c0,r0,A',hA⟩:∃c0 r0 A',A=(c0::r0)::A':=by
  cases hA:A with
  |nil=>have:=oA.len;rw[hA]at this;simp at this;omega
  |cons r A' =>
   have hr:=oA.row (y:=0) (by omega) (by omega)
   rw[hA]at hr
   cases r with
   |nil=>exact absurd hr (by show ¬(0=w);omega)
   |cons c0 r0=>exact⟨c0,r0,A',rfl⟩
 let st:=fun(v:Int) (a b c d e f g:Option L)=>[C,M v,a,b,c,d,e,f,g,none]
 let hd:List PyData:=[ep A,ep B,ep E]
 let g:=fun(xs:List PyData)=>some (L.g (.list xs))
 let t0:DS:=[C,none,none,none,none,none,none,none,none,none]
 let t1:=st v0 none none none none none none none
 let t2:=st v3 (D (ep A)) none none none none none none
 let t3:=st v4 (D (ep A)) (D (ep B)) none none none none none
 let t4:=st v5 (D (ep A)) (D (ep B)) (D (ep E)) none none none none
 let t5:=st v5 (D (ep A)) (D (ep B)) (D (ep E)) (g hd) none none none
 let t6:=st v5 (D (ep A)) (D (ep B)) (D (ep E)) (g hd) (g (fAB.map ef)) none none
 let t7:=st v5 (D (ep A)) (D (ep B)) (D (ep E)) (g hd) (g (fAB.map ef)) (g (fBE.map ef)) none
 let t8:=st v5 (D (ep A)) (D (ep B)) (D (ep E)) (g hd) (g (fAB.map ef)) (g (fBE.map ef)) (D FAB)
 let hd1:List PyData:=[.list (.list (ec (9,1)::r0.map ec)::A'.map eL),ep B,ep E]
 let hd2:List PyData:=[.list (.list (ec (9,1)::r0.map ec)::A'.map eL),.list (B.map eL).reverse,ep E]
 let t9:=st v5 (D (ep A)) (D (ep B)) (D (ep E)) (g hd1) (g (fAB.map ef)) (g (fBE.map ef)) (D FAB)
 let t10:=st v5 (D (ep A)) (D (ep B)) (D (ep E)) (g hd2) (g (fAB.map ef)) (g (fBE.map ef)) (D FAB)
 obtain⟨T,lpr⟩:=MF (v:=v5) (ns:=ns.map .int) (a:=D (ep A)) (b:=D (ep B)) (c:=D (ep E)) (d:=g hd2) (e:=g (fBE.map ef)) (f:=D FAB) (fun _=>rfl) fAB [] fun f hf=>by have:=cAB f hf;omega
 let t11:=st v5 (D (ep A)) (D (ep B)) (D (ep E)) (g hd2) (g T) (g (fBE.map ef)) (D FAB)
 let t12:=st v5 (D (ep A)) (D (ep B)) (D (ep E)) (g hd2) (g []) (g (fBE.map ef)) (D FAB)
 unfold Ks
 refine⟨_,DF (τ:=t12) ?_ rfl rfl⟩
 refine(Al (τ1:=t1) (Ts (τ1:=t0) (xs:=[.int v0]) ?_ (by decide) (by show 1<10;decide) rfl)).trans ?_
 ·show D7 (AA (Cp 0 Ez (AA (dC (.int 0)) AE)) AE) t0=_
  have:=O4 (i:=0) (G:=Ez) (a:=AA (dC (.int 0)) AE) (τ:=t0) (τ1:=t0) (rs:=[.d (.int 0)]) (ds:=[.int 0]) rfl rfl rfl hbig
  unfold D7
  rw[ac1 this];rfl
 refine(Al (τ1:=t2) ?_).trans ?_
 ·have z1:=op2 (F:=Cy) (f:=dC (.int 1)) (g:=A4 1 Ah (AA (dC (.int 9)) AE)) (τ:=t1) (τ1:=t1) (x:=.int 1) (r:=.int w) rfl (B1 (τ:=t1) (τ1:=t1) (rs:=[.d (.int 9)]) (ds:=[.int 9]) (xs:=[.int v0]) rfl rfl rfl (Im (by decide) (by decide))) (by show some (PyData.int (1+v0 % 9))=_;rw[ew])
  let t1':=st (v0 / 9) none none none none none none none
  have z2:=op2 (F:=Cy) (f:=dC (.int 1)) (g:=A4 1 Ah (AA (dC (.int 6)) AE)) (τ:=t1') (τ1:=t1') (x:=.int 1) (r:=.int h) rfl (B1 (τ:=t1') (τ1:=t1') (rs:=[.d (.int 6)]) (ds:=[.int 6]) (xs:=[.int (v0 / 9)]) rfl rfl rfl (Im (by decide) (by decide))) (by show some (PyData.int (1+v0 / 9 % 6))=_;rw[eh])
  let t1'':=st (v0 / 9 / 6) none none none none none none none
  exact Dq (d:=ep A) (τ1:=st v3 none none none none none none none) (B1 (τ1:=t1'') (rs:=[.d (.int w),.d (.int h)]) (ds:=[.int w,.int h]) (xs:=[.int (v0 / 9 / 6)]) (acc z1 (ac1 z2)) rfl rfl eA) rfl
 refine(Al (τ1:=t3) (Dq (B1 (τ1:=t2) (rs:=[.d (ep A)]) (ds:=[ep A]) (xs:=[.int v3]) rfl rfl rfl eB) rfl)).trans ?_
 refine(Al (τ1:=t4) (Dq (B1 (τ1:=t3) (rs:=[.d (ep B)]) (ds:=[ep B]) (xs:=[.int v4]) rfl rfl rfl eE) rfl)).trans ?_
 have cp:∀(τ:DS) (i:Nat) (P:Pc),P.length<=1000->AD i τ=some (ep P,τ)->dLs (Ae Au (AA (AD i) AE)) τ=some (ep P,τ):=fun τ i P hz hv=>G5 (Bt (rs:=[.d (ep P)]) (ds:=[ep P]) (ac1 hv) rfl (Ua hz))
 refine(Al (τ1:=t5) (Gu (τ1:=t4) (d:=.list hd) ?_ (by decide) (by show 5<10;decide) rfl)).trans ?_
 ·have g0:Ao (dLs (Ae Au (AA (AD 4) AE))) Bq t4=some ([ep E],t4):=by
   show(dLs (Ae Au (AA (AD 4) AE)) t4).bind _=_
   rw[cp t4 4 E zE rfl];rfl
  have g1:Ao (dLs (Ae Au (AA (AD 3) AE))) (Ao (dLs (Ae Au (AA (AD 4) AE))) Bq) t4=some ([ep B,ep E],t4):=by
   show(dLs (Ae Au (AA (AD 3) AE)) t4).bind _=_
   rw[cp t4 3 B zB rfl]
   show(Ao (dLs (Ae Au (AA (AD 4) AE))) Bq t4).map _=_
   rw[g0];rfl
  have g2:Ao (dLs (Ae Au (AA (AD 2) AE))) (Ao (dLs (Ae Au (AA (AD 3) AE))) (Ao (dLs (Ae Au (AA (AD 4) AE))) Bq)) t4=some (hd,t4):=by
   show(dLs (Ae Au (AA (AD 2) AE)) t4).bind _=_
   rw[cp t4 2 A zA rfl]
   show(Ao (dLs (Ae Au (AA (AD 3) AE))) (Ao (dLs (Ae Au (AA (AD 4) AE))) Bq) t4).map _=_
   rw[g1];rfl
  unfold BX
  rw[g2];rfl
 refine(Al (τ1:=t6) (Gu (τ1:=t5) (d:=FAB) (O5 (xs:=hd) (τ1:=st v5 (D (ep A)) (D (ep B)) (D (ep E)) (D (.list hd)) none none none) rfl (G5 (Bt (rs:=[.d (ep A),.d (ep B)]) (ds:=[ep A,ep B]) rfl rfl p1)) rfl) (by decide) (by show 6<10;decide) rfl)).trans ?_
 refine(Al (τ1:=t7) (Gu (τ1:=t6) (d:=FBE) (O5 (xs:=hd) (τ1:=st v5 (D (ep A)) (D (ep B)) (D (ep E)) (D (.list hd)) (g (fAB.map ef)) none none) rfl (G5 (Bt (rs:=[.d (ep B),.d (ep E)]) (ds:=[ep B,ep E]) rfl rfl p2)) rfl) (by decide) (by show 7<10;decide) rfl)).trans ?_
 refine(Al (τ1:=t8) (Dq (Bt (τ1:=t7) (rs:=[.d (ep A),.d (ep B)]) (ds:=[ep A,ep B]) rfl rfl q1) rfl)).trans ?_
 refine(Al (τ1:=t8) ((FV (τ1:=t8) ?_).trans rfl)).trans ?_
 ·let z7:=st v5 (D (ep A)) (D (ep B)) (D (ep E)) (g hd) (g (fAB.map ef)) (D FBE) (D FAB)
  let z6:=st v5 (D (ep A)) (D (ep B)) (D (ep E)) (g hd) (D FAB) (D FBE) (D FAB)
  have k1:=NB (tst (Bt (G:=An) (a:=AA (AD 6) (AA (AD 8) AE)) (τ:=z6) (τ1:=z6) (rs:=[.d FAB,.d FAB]) (ds:=[FAB,FAB]) rfl rfl s1))
  have k2:=Bt (G:=Cu) (a:=AA (AD 3) (AA (AD 4) AE)) (τ:=z6) (τ1:=z6) (rs:=[.d (ep B),.d (ep E)]) (ds:=[ep B,ep E]) rfl rfl q2
  have k3:=NB (tst (Bt (G:=An) (a:=AA (AD 7) (AA (Ae Cu (AA (AD 3) (AA (AD 4) AE))) AE)) (τ:=z6) (τ1:=z6) (rs:=[.d FBE,.d FBE]) (ds:=[FBE,FBE]) (acc (d:=FBE) rfl (ac1 k2)) rfl s2))
  exact FJ (i:=7) (τ1:=z7) (xs:=fBE.map ef) rfl (FJ (i:=6) (τ1:=z6) (xs:=fAB.map ef) rfl (PV k1 k3) rfl) rfl
 refine(Al (τ1:=t8) ((FV (τ1:=t8) ?_).trans rfl)).trans ?_
 ·let z5:=st v5 (D (ep A)) (D (ep B)) (D (ep E)) (D (.list hd)) (g (fAB.map ef)) (g (fBE.map ef)) (D FAB)
  have k1:=tst (op2 (F:=fNe) (f:=AD 5) (g:=D7 (AA (AD 2) (AA (AD 3) (AA (AD 4) AE)))) (τ:=z5) (τ1:=z5) (τ2:=z5) (x:=.list hd) (y:=.list hd) rfl rfl (US A B E))
  have k2:=tst (op2 (F:=fNe) (f:=dLs (Ae Aq (AA (dOp Ad (AD 5) (dC (.int 0))) (AA (dOp Ad (AD 5) (dC (.int 0))) AE)))) (g:=D7 AE) (τ:=z5) (τ1:=z5) (τ2:=z5) (x:=.list []) (y:=.list []) (G5 (Bt (rs:=[.d (ep A),.d (ep A)]) (ds:=[ep A,ep A]) rfl rfl p3)) rfl rfl)
  exact FJ (i:=5) (τ1:=z5) (xs:=hd) rfl (PV k1 k2) rfl
 refine(Al (τ1:=t9) ?_).trans ?_
 ·have:=Tr (τ:=t8) (τz:=st v5 (D (ep A)) (D (ep B)) (D (ep E)) (D (.list hd)) (g (fAB.map ef)) (g (fBE.map ef)) (D FAB)) (rows:=hd) (cs:=(c0::r0).map ec) (π:=[0,0]) (n:=0) (k:=0) (d:=ec (9,1)) (e:=BN (AA (dC (.int 9)) (AA (dC (.int 1)) AE))) (e2:=dC (.int 0)) rfl rfl rfl (Vf hA) rfl rfl (Pp (c0::r0)) rfl (by rw[Hk (by omega) (by rw[List.length_map,List.length_cons];omega)];rfl)
  rw[this]
  show some (Out.nx (st v5 (D (ep A)) (D (ep B)) (D (ep E)) (some (L.g (stP (.list (((c0::r0).map ec).set 0 (ec (9,1)))) [0,0] (.list [ep A,ep B,ep E])))) (g (fAB.map ef)) (g (fBE.map ef)) (D FAB)))=_
  rw[VV hA]
  rfl
 refine(Al (τ1:=t10) rfl).trans ?_
 refine(Al (τ1:=t10) ((FV (τ1:=t10) ?_).trans rfl)).trans ?_
 ·let z6:=st v5 (D (ep A)) (D (ep B)) (D (ep E)) (g hd2) (D FAB) (g (fBE.map ef)) (D FAB)
  have k1:=NB (tst (Bt (G:=An) (a:=AA (AD 6) (AA (AD 8) AE)) (τ:=z6) (τ1:=z6) (rs:=[.d FAB,.d FAB]) (ds:=[FAB,FAB]) rfl rfl s1))
  exact FJ (i:=6) (τ1:=z6) (xs:=fAB.map ef) rfl k1 rfl
 refine(Al (τ1:=t11) ?_).trans ?_
 ·show(IX 9 RZ (fAB.map ef).length 0 t10).map Out.nx=_
  rw[List.length_map]
  have:IX 9 RZ fAB.length 0 t10=some t11:=lpr
  rw[this];rfl
 refine(Al (τ1:=t12) rfl).trans ?_
 have c1:=Bt (G:=Aq) (a:=AA (dLs (Ae Au (AA (AD 2) AE))) (AA (dLs (Ae Au (AA (AD 3) AE))) AE)) (τ:=t12) (τ1:=t12) (rs:=[.d (ep A),.d (ep B)]) (ds:=[ep A,ep B]) (acc (cp t12 2 A zA rfl) (ac1 (cp t12 3 B zB rfl))) rfl p1
 exact GK (Bt (G:=An) (τ1:=t12) (rs:=[.d FAB,.d FAB]) (ds:=[FAB,FAB]) (acc (G5 c1) (ac1 (d:=FAB) rfl)) rfl s1)
theorem all_mk{l:PySem.W.OpenLaw}{w:World}{K:PySem.W.Frag}{h:Heap}{mg:Str->Option Value}{fa:Addr}(X:K.In h)(G:h.Ns mainGlobals mg)(hfa:mg "law"=some (.ref fa))
  {f0:Addr} {od0 an0:Option Addr} {sl0:Array (Option Value)} {oc0 kV0 dc0 pm0 cd0 ct0:Value}
  (a0:PySem.W.nsIn K mainGlobals "_law_digit"=some (some (.ref f0))) (l0:K.lookup f0=some ⟨oc0,od0,.func (PySem.W.fnOf "_law_digit" "_law_digit" (BQ Bu) (BI Bu) (AB Bu) .none kV0 dc0 pm0 an0 cd0 ct0),sl0⟩) (c0:PySem.W.codeIn K cd0 "_law_digit"=true) (k0:PySem.W.keepIn K (.ref f0)=true)
  {f1:Addr} {od1 an1:Option Addr} {sl1:Array (Option Value)} {oc1 kV1 dc1 pm1 cd1 ct1:Value}
  (a1:PySem.W.nsIn K mainGlobals "_law_picture_by"=some (some (.ref f1))) (l1:K.lookup f1=some ⟨oc1,od1,.func (PySem.W.fnOf "_law_picture_by" "_law_picture_by" (BQ Ac) (BI Ac) (AB Ac) .none kV1 dc1 pm1 an1 cd1 ct1),sl1⟩) (c1:PySem.W.codeIn K cd1 "_law_picture_by"=true) (k1:PySem.W.keepIn K (.ref f1)=true)
  {f2:Addr} {od2 an2:Option Addr} {sl2:Array (Option Value)} {oc2 kV2 dc2 pm2 cd2 ct2:Value}
  (a2:PySem.W.nsIn K mainGlobals "_law_near_by"=some (some (.ref f2))) (l2:K.lookup f2=some ⟨oc2,od2,.func (PySem.W.fnOf "_law_near_by" "_law_near_by" (BQ Aj) (BI Aj) (AB Aj) .none kV2 dc2 pm2 an2 cd2 ct2),sl2⟩) (c2:PySem.W.codeIn K cd2 "_law_near_by"=true) (k2:PySem.W.keepIn K (.ref f2)=true)
  {f3:Addr} {od3 an3:Option Addr} {sl3:Array (Option Value)} {oc3 kV3 dc3 pm3 cd3 ct3:Value}
  (a3:PySem.W.nsIn K mainGlobals "_law_next_by"=some (some (.ref f3))) (l3:K.lookup f3=some ⟨oc3,od3,.func (PySem.W.fnOf "_law_next_by" "_law_next_by" (BQ A7) (BI A7) (AB A7) .none kV3 dc3 pm3 an3 cd3 ct3),sl3⟩) (c3:PySem.W.codeIn K cd3 "_law_next_by"=true) (k3:PySem.W.keepIn K (.ref f3)=true)
  {f4:Addr} {od4 an4:Option Addr} {sl4:Array (Option Value)} {oc4 kV4 dc4 pm4 cd4 ct4:Value}
  (a4:PySem.W.nsIn K mainGlobals "changed_cells"=some (some (.ref f4))) (l4:K.lookup f4=some ⟨oc4,od4,.func (PySem.W.fnOf "changed_cells" "changed_cells" (BQ Aa) (BI Aa) (AB Aa) .none kV4 dc4 pm4 an4 cd4 ct4),sl4⟩) (c4:PySem.W.codeIn K cd4 "changed_cells"=true) (k4:PySem.W.keepIn K (.ref f4)=true)
  {f5:Addr} {od5 an5:Option Addr} {sl5:Array (Option Value)} {oc5 kV5 dc5 pm5 cd5 ct5:Value}
  (a5:PySem.W.nsIn K mainGlobals "row_by_row"=some (some (.ref f5))) (l5:K.lookup f5=some ⟨oc5,od5,.func (PySem.W.fnOf "row_by_row" "row_by_row" (BQ Aw) (BI Aw) (AB Aw) .none kV5 dc5 pm5 an5 cd5 ct5),sl5⟩) (c5:PySem.W.codeIn K cd5 "row_by_row"=true) (k5:PySem.W.keepIn K (.ref f5)=true)
  {f6:Addr} {od6 an6:Option Addr} {sl6:Array (Option Value)} {oc6 kV6 dc6 pm6 cd6 ct6:Value}
  (a6:PySem.W.nsIn K mainGlobals "is_next"=some (some (.ref f6))) (l6:K.lookup f6=some ⟨oc6,od6,.func (PySem.W.fnOf "is_next" "is_next" (BQ CT) (BI CT) (AB CT) .none kV6 dc6 pm6 an6 cd6 ct6),sl6⟩) (c6:PySem.W.codeIn K cd6 "is_next"=true) (k6:PySem.W.keepIn K (.ref f6)=true)
  {f7:Addr} {od7 an7:Option Addr} {sl7:Array (Option Value)} {oc7 kV7 dc7 pm7 cd7 ct7:Value}
  (a7:PySem.W.nsIn K mainGlobals "stretches_of"=some (some (.ref f7))) (l7:K.lookup f7=some ⟨oc7,od7,.func (PySem.W.fnOf "stretches_of" "stretches_of" (BQ AY) (BI AY) (AB AY) .none kV7 dc7 pm7 an7 cd7 ct7),sl7⟩) (c7:PySem.W.codeIn K cd7 "stretches_of"=true) (k7:PySem.W.keepIn K (.ref f7)=true)
  {f8:Addr} {od8 an8:Option Addr} {sl8:Array (Option Value)} {oc8 kV8 dc8 pm8 cd8 ct8:Value}
  (a8:PySem.W.nsIn K mainGlobals "frame_of"=some (some (.ref f8))) (l8:K.lookup f8=some ⟨oc8,od8,.func (PySem.W.fnOf "frame_of" "frame_of" (BQ AS) (BI AS) (AB AS) .none kV8 dc8 pm8 an8 cd8 ct8),sl8⟩) (c8:PySem.W.codeIn K cd8 "frame_of"=true) (k8:PySem.W.keepIn K (.ref f8)=true)
  {f9:Addr} {od9 an9:Option Addr} {sl9:Array (Option Value)} {oc9 kV9 dc9 pm9 cd9 ct9:Value}
  (a9:PySem.W.nsIn K mainGlobals "frame_between"=some (some (.ref f9))) (l9:K.lookup f9=some ⟨oc9,od9,.func (PySem.W.fnOf "frame_between" "frame_between" (BQ AN) (BI AN) (AB AN) .none kV9 dc9 pm9 an9 cd9 ct9),sl9⟩) (c9:PySem.W.codeIn K cd9 "frame_between"=true) (k9:PySem.W.keepIn K (.ref f9)=true)
  {f10:Addr} {od10 an10:Option Addr} {sl10:Array (Option Value)} {oc10 kV10 dc10 pm10 cd10 ct10:Value}
  (a10:PySem.W.nsIn K mainGlobals "_law_frame"=some (some (.ref f10))) (l10:K.lookup f10=some ⟨oc10,od10,.func (PySem.W.fnOf "_law_frame" "_law_frame" (BQ A8) (BI A8) (AB A8) .none kV10 dc10 pm10 an10 cd10 ct10),sl10⟩) (c10:PySem.W.codeIn K cd10 "_law_frame"=true) (k10:PySem.W.keepIn K (.ref f10)=true)
  {f11:Addr} {od11 an11:Option Addr} {sl11:Array (Option Value)} {oc11 kV11 dc11 pm11 cd11 ct11:Value}
  (a11:PySem.W.nsIn K mainGlobals "_law_is_fraction"=some (some (.ref f11))) (l11:K.lookup f11=some ⟨oc11,od11,.func (PySem.W.fnOf "_law_is_fraction" "_law_is_fraction" (BQ Ab) (BI Ab) (AB Ab) .none kV11 dc11 pm11 an11 cd11 ct11),sl11⟩) (c11:PySem.W.codeIn K cd11 "_law_is_fraction"=true) (k11:PySem.W.keepIn K (.ref f11)=true)
  {f12:Addr} {od12 an12:Option Addr} {sl12:Array (Option Value)} {oc12 kV12 dc12 pm12 cd12 ct12:Value}
  (a12:PySem.W.nsIn K mainGlobals "_law_same_frame"=some (some (.ref f12))) (l12:K.lookup f12=some ⟨oc12,od12,.func (PySem.W.fnOf "_law_same_frame" "_law_same_frame" (BQ AQ) (BI AQ) (AB AQ) .none kV12 dc12 pm12 an12 cd12 ct12),sl12⟩) (c12:PySem.W.codeIn K cd12 "_law_same_frame"=true) (k12:PySem.W.keepIn K (.ref f12)=true)
  {f13:Addr} {od13 an13:Option Addr} {sl13:Array (Option Value)} {oc13 kV13 dc13 pm13 cd13 ct13:Value}
  (a13:PySem.W.nsIn K mainGlobals "_law_cell_at"=some (some (.ref f13))) (l13:K.lookup f13=some ⟨oc13,od13,.func (PySem.W.fnOf "_law_cell_at" "_law_cell_at" (BQ BY) (BI BY) (AB BY) .none kV13 dc13 pm13 an13 cd13 ct13),sl13⟩) (c13:PySem.W.codeIn K cd13 "_law_cell_at"=true) (k13:PySem.W.keepIn K (.ref f13)=true)
  {f14:Addr} {od14 an14:Option Addr} {sl14:Array (Option Value)} {oc14 kV14 dc14 pm14 cd14 ct14:Value}
  (a14:PySem.W.nsIn K mainGlobals "_law_big"=some (some (.ref f14))) (l14:K.lookup f14=some ⟨oc14,od14,.func (PySem.W.fnOf "_law_big" "_law_big" (BQ BD) (BI BD) (AB BD) .none kV14 dc14 pm14 an14 cd14 ct14),sl14⟩) (c14:PySem.W.codeIn K cd14 "_law_big"=true) (k14:PySem.W.keepIn K (.ref f14)=true)
  {f15:Addr} {od15 an15:Option Addr} {sl15:Array (Option Value)} {oc15 kV15 dc15 pm15 cd15 ct15:Value}
  (a15:PySem.W.nsIn K mainGlobals "_law_copy"=some (some (.ref f15))) (l15:K.lookup f15=some ⟨oc15,od15,.func (PySem.W.fnOf "_law_copy" "_law_copy" (BQ DM) (BI DM) (AB DM) .none kV15 dc15 pm15 an15 cd15 ct15),sl15⟩) (c15:PySem.W.codeIn K cd15 "_law_copy"=true) (k15:PySem.W.keepIn K (.ref f15)=true)
  {f16:Addr} {od16 an16:Option Addr} {sl16:Array (Option Value)} {oc16 kV16 dc16 pm16 cd16 ct16:Value}
  (a16:PySem.W.nsIn K mainGlobals "law"=some (some (.ref f16))) (l16:K.lookup f16=some ⟨oc16,od16,.func (PySem.W.fnOf "law" "law" (BQ BT) (BI BT) (AB BT) .none kV16 dc16 pm16 an16 cd16 ct16),sl16⟩) (c16:PySem.W.codeIn K cd16 "law"=true) (k16:PySem.W.keepIn K (.ref f16)=true)
  (z_bool:PySem.W.nsIn K mainGlobals "bool"=some none)
  (z_enumerate:PySem.W.nsIn K mainGlobals "enumerate"=some none)
  (z_int:PySem.W.nsIn K mainGlobals "int"=some none)
  (z_isinstance:PySem.W.nsIn K mainGlobals "isinstance"=some none)
  (z_len:PySem.W.nsIn K mainGlobals "len"=some none)
  (z_list:PySem.W.nsIn K mainGlobals "list"=some none)
  (z_range:PySem.W.nsIn K mainGlobals "range"=some none)
  (z_set:PySem.W.nsIn K mainGlobals "set"=some none)
  (z_sorted:PySem.W.nsIn K mainGlobals "sorted"=some none)
  (z_tuple:PySem.W.nsIn K mainGlobals "tuple"=some none)
  : ∃fd:FuncData,(∀(s:Shared) (v:Value),BindsTo s fd ⟨[v],[]⟩ [("_law_script",v)])/\∀base:Heap,K.In base->base.Ns mainGlobals mg->FnOk l.prog w K mg base CX0 5 fa fd ["_law_script"] (spD ⟨K,w⟩ Ks false):=by
 have e:=hfa.symm.trans (PySem.W.mg_of X G a16)
 cases e
 have F0:=Cm (st:=Bu) l0 c0 k0
 have F1:=Cm (st:=Ac) l1 c1 k1
 have F2:=Cm (st:=Aj) l2 c2 k2
 have F3:=Cm (st:=A7) l3 c3 k3
 have F4:=Cm (st:=Aa) l4 c4 k4
 have F5:=Cm (st:=Aw) l5 c5 k5
 have F6:=Cm (st:=CT) l6 c6 k6
 have F7:=Cm (st:=AY) l7 c7 k7
 have F8:=Cm (st:=AS) l8 c8 k8
 have F9:=Cm (st:=AN) l9 c9 k9
 have F10:=Cm (st:=A8) l10 c10 k10
 have F11:=Cm (st:=Ab) l11 c11 k11
 have F12:=Cm (st:=AQ) l12 c12 k12
 have F13:=Cm (st:=BY) l13 c13 k13
 have F14:=Cm (st:=BD) l14 c14 k14
 have F15:=Cm (st:=DM) l15 c15 k15
 have F16:=Cm (st:=BT) l16 c16 k16
 have b0:=F0.binds (ps:=["_law_rest","_law_many"]) fun _ _ _ _ _ _ us hl=>match us,hl with|[_,_],_=>rfl
 have b1:=F1.binds (ps:=["_law_rest","_law_w","_law_h"]) fun _ _ _ _ _ _ us hl=>match us,hl with|[_,_,_],_=>rfl
 have b2:=F2.binds (ps:=["_law_rest","_law_picture"]) fun _ _ _ _ _ _ us hl=>match us,hl with|[_,_],_=>rfl
 have b3:=F3.binds (ps:=["_law_rest","_law_picture"]) fun _ _ _ _ _ _ us hl=>match us,hl with|[_,_],_=>rfl
 have b4:=F4.binds (ps:=["one","other"]) fun _ _ _ _ _ _ us hl=>match us,hl with|[_,_],_=>rfl
 have b5:=F5.binds (ps:=["cells"]) fun _ _ _ _ _ _ us hl=>match us,hl with|[_],_=>rfl
 have b6:=F6.binds (ps:=["stretch","cell"]) fun _ _ _ _ _ _ us hl=>match us,hl with|[_,_],_=>rfl
 have b7:=F7.binds (ps:=["cells"]) fun _ _ _ _ _ _ us hl=>match us,hl with|[_],_=>rfl
 have b8:=F8.binds (ps:=["olds","news"]) fun _ _ _ _ _ _ us hl=>match us,hl with|[_,_],_=>rfl
 have b9:=F9.binds (ps:=["one","other"]) fun _ _ _ _ _ _ us hl=>match us,hl with|[_,_],_=>rfl
 have b10:=F10.binds (ps:=["_law_one","_law_other"]) fun _ _ _ _ _ _ us hl=>match us,hl with|[_,_],_=>rfl
 have b11:=F11.binds (ps:=["_law_thing"]) fun _ _ _ _ _ _ us hl=>match us,hl with|[_],_=>rfl
 have b12:=F12.binds (ps:=["_law_found","_law_due"]) fun _ _ _ _ _ _ us hl=>match us,hl with|[_,_],_=>rfl
 have b13:=F13.binds (ps:=["_law_script","_law_k"]) fun _ _ _ _ _ _ us hl=>match us,hl with|[_,_],_=>rfl
 have b14:=F14.binds (ps:=["_law_script","_law_at"]) fun _ _ _ _ _ _ us hl=>match us,hl with|[_,_],_=>rfl
 have b15:=F15.binds (ps:=["_law_picture"]) fun _ _ _ _ _ _ us hl=>match us,hl with|[_],_=>rfl
 have y_bool:=PySem.W.mg_none_of X G z_bool
 have y_enumerate:=PySem.W.mg_none_of X G z_enumerate
 have y_int:=PySem.W.mg_none_of X G z_int
 have y_isinstance:=PySem.W.mg_none_of X G z_isinstance
 have y_len:=PySem.W.mg_none_of X G z_len
 have y_list:=PySem.W.mg_none_of X G z_list
 have y_range:=PySem.W.mg_none_of X G z_range
 have y_set:=PySem.W.mg_none_of X G z_set
 have y_sorted:=PySem.W.mg_none_of X G z_sorted
 have y_tuple:=PySem.W.mg_none_of X G z_tuple
 refine⟨PySem.W.fnOf "law" "law" (BQ BT) (BI BT) (AB BT) .none kV16 dc16 pm16 an16 cd16 ct16,fun s v=>.of_eq rfl,fun base _ _=>?_⟩
 have R_L_digit:Cal l.prog w K mg base 1 "_law_digit" ["_law_rest","_law_many"] (spD ⟨K,w⟩ Ah false):=Cal.of F0 (Pb F0) b0 (PySem.W.mg_of X G a0)
 have R_changed_cells:Cal l.prog w K mg base 1 "changed_cells" ["one","other"] (spD ⟨K,w⟩ Bc true):=Cal.of F4 (JB F4 y_enumerate) b4 (PySem.W.mg_of X G a4)
 have R_row_by_row:Cal l.prog w K mg base 1 "row_by_row" ["cells"] (spD ⟨K,w⟩ Ct true):=Cal.of F5 (Lb F5 y_set y_sorted) b5 (PySem.W.mg_of X G a5)
 have R_is_next:Cal l.prog w K mg base 1 "is_next" ["stretch","cell"] (spD ⟨K,w⟩ B7 false):=Cal.of F6 (PZ F6) b6 (PySem.W.mg_of X G a6)
 have R_L_frame:Cal l.prog w K mg base 1 "_law_frame" ["_law_one","_law_other"] (spD ⟨K,w⟩ Cu true):=Cal.of F10 (Pa F10 y_len y_range) b10 (PySem.W.mg_of X G a10)
 have R_L_is_fraction:Cal l.prog w K mg base 1 "_law_is_fraction" ["_law_thing"] (spD ⟨K,w⟩ As false):=Cal.of F11 (JC F11 y_len y_tuple y_isinstance y_bool y_int) b11 (PySem.W.mg_of X G a11)
 have R_L_cell_at:Cal l.prog w K mg base 1 "_law_cell_at" ["_law_script","_law_k"] (spD ⟨K,w⟩ Bw false):=Cal.of F13 (NQ F13 y_len) b13 (PySem.W.mg_of X G a13)
 have R_L_copy:Cal l.prog w K mg base 1 "_law_copy" ["_law_picture"] (spG ⟨K,w⟩ Au):=Cal.of F15 (RJ F15 y_list) b15 (PySem.W.mg_of X G a15)
 have R_L_picture_by:Cal l.prog w K mg base 2 "_law_picture_by" ["_law_rest","_law_w","_law_h"] (spD ⟨K,w⟩ BZ true):=Cal.of F1 (J6 F1 (R_L_digit.mono (by decide)) y_range) b1 (PySem.W.mg_of X G a1)
 have R_L_near_by:Cal l.prog w K mg base 2 "_law_near_by" ["_law_rest","_law_picture"] (spD ⟨K,w⟩ DJ true):=Cal.of F2 (NP F2 (R_L_digit.mono (by decide)) y_list y_range y_len) b2 (PySem.W.mg_of X G a2)
 have R_stretches_of:Cal l.prog w K mg base 2 "stretches_of" ["cells"] (spD ⟨K,w⟩ Bm true):=Cal.of F7 (J4 F7 (R_row_by_row.mono (by decide)) (R_is_next.mono (by decide)) y_len) b7 (PySem.W.mg_of X G a7)
 have R_L_same_frame:Cal l.prog w K mg base 2 "_law_same_frame" ["_law_found","_law_due"] (spD ⟨K,w⟩ An false):=Cal.of F12 (J5 F12 (R_L_is_fraction.mono (by decide)) y_len y_list y_isinstance y_range y_tuple) b12 (PySem.W.mg_of X G a12)
 have R_L_big:Cal l.prog w K mg base 2 "_law_big" ["_law_script","_law_at"] (spD ⟨K,w⟩ Ez false):=Cal.of F14 (SW F14 (R_L_cell_at.mono (by decide)) y_range) b14 (PySem.W.mg_of X G a14)
 have R_L_next_by:Cal l.prog w K mg base 3 "_law_next_by" ["_law_rest","_law_picture"] (spD ⟨K,w⟩ Ck true):=Cal.of F3 (NO F3 (R_L_digit.mono (by decide)) (R_L_picture_by.mono (by decide)) (R_L_near_by.mono (by decide)) y_len) b3 (PySem.W.mg_of X G a3)
 have R_frame_of:Cal l.prog w K mg base 3 "frame_of" ["olds","news"] (spG ⟨K,w⟩ Cj):=Cal.of F8 (OI F8 (R_stretches_of.mono (by decide)) y_range) b8 (PySem.W.mg_of X G a8)
 have R_frame_between:Cal l.prog w K mg base 4 "frame_between" ["one","other"] (spG ⟨K,w⟩ Aq):=Cal.of F9 (JA F9 (R_changed_cells.mono (by decide)) (R_frame_of.mono (by decide))) b9 (PySem.W.mg_of X G a9)
 exact Vm F16 (R_L_big.mono (by decide)) (R_L_picture_by.mono (by decide)) (R_L_digit.mono (by decide)) (R_L_next_by.mono (by decide)) (R_L_copy.mono (by decide)) (R_frame_between.mono (by decide)) (R_L_frame.mono (by decide)) (R_L_same_frame.mono (by decide))
theorem entry{K:KW}{H:Hp}{a:Addr}{ns:List Int}{Q:VK}{X:XK}(hS:SqL K H a (ns.map V.int))(h63:ns.length<=63)(q:∀H',Q (.bl true) H'):spD K Ks false [.ref a] H Q X:=by
 obtain⟨ls,e⟩:=OV ns h63
 refine⟨fun _=>False,fun _=>False,[.c (ns.map PyData.int)],.bool true,ls,⟨rfl,fun i x e=>?_,fun i x e=>?_,fun i x e=>?_,fun i j xs ys b e=>?_,fun _ h=>h.elim,fun _ h=>h.elim,GR.nil fun i x e=>?_⟩,e,fun v H' _ _ res=>?_⟩
 ·match i,e with
  |0,e=>cases e
  |i+1,e=>cases e
 ·match i,e with
  |0,e=>exact absurd (Option.some.inj (Option.some.inj e)).symm Ow.not_c
  |i+1,e=>cases e
 ·match i,e with
  |0,e =>
   cases e
   exact⟨a,ns.map V.int,rfl,TJ hS,Kx ns⟩
  |i+1,e=>cases e
 ·match i,e with
  |0,e=>exact absurd (Option.some.inj (Option.some.inj e)).symm Ow.not_c
  |i+1,e=>cases e
 ·match i,e with
  |0,e=>cases e
  |i+1,e=>cases e
 ·cases (show v = .bl true from res)
  exact q H'
theorem walk{l:PySem.W.OpenLaw}{q:Program}{loose:List Str}{XP:(Str->Option Value)->Heap->Prop}{YP:World->Heap->Prop}{d:DefRec}{K:Params->PySem.W.Frag}(hn:l.most=some 63)(hdf:d.params.defaults=[])
  (hY:∀(w:World) (h:Heap),YP w h->(K w.params).In h)
  (F : ∀ (w : World) (mg : Str -> Option Value) (fa : Addr) (h : Heap), (K w.params).In h -> h.Ns mainGlobals mg -> mg d.name = some (.ref fa) ->
   ∃fd:FuncData,(∀(s:Shared) (u:Value),BindsTo s fd ⟨[u],[]⟩ [("_law_script",u)])/\∀base:Heap,(K w.params).In base->base.Ns mainGlobals mg->FnOk l.prog w (K w.params) mg base CX0 5 fa fd ["_law_script"] (spD ⟨K w.params,w⟩ Ks false)) :
  PySem.W.WalkO q loose XP YP l.row.toRowW d [] (fun f vs=>PySem.call f vs) :=
 L2.walk_of (n:=63) (k:=5) (x:="_law_script") (CX:=fun _=>CX0) (sp:=fun w=>spD ⟨K w.params,w⟩ Ks false) hn (by decide) hdf ⟨rfl,by decide,by decide⟩ hY F (fun _ _ a ns hl _ hS=>entry hS hl fun _=>rfl) fun _ _ _ _ _ z=>z
end My
open PySem PySem.W PyProof.Rows
set_option maxRecDepth 100000 in
set_option maxHeartbeats 0 in
theorem PySem.Challenge.cw_scenemend_k67_frames_between_holds : PySem.Challenge.rw_scenemend_k67_frames_between.Holds := by
 w_on;o_law;k_head;(case hw=>w_witness2)
 k_fill
 refine My.walk (l:=PySem.Challenge.rw_scenemend_k67_frames_between) rfl rfl (fun w h Y=>PySem.W.kIn_of Y) ?F
 case F =>
  intro w mg fa h KX G hmg
  refine' My.all_mk KX G hmg ?a0 ?l0 ?c0 ?k0 ?a1 ?l1 ?c1 ?k1 ?a2 ?l2 ?c2 ?k2 ?a3 ?l3 ?c3 ?k3 ?a4 ?l4 ?c4 ?k4 ?a5 ?l5 ?c5 ?k5 ?a6 ?l6 ?c6 ?k6 ?a7 ?l7 ?c7 ?k7 ?a8 ?l8 ?c8 ?k8 ?a9 ?l9 ?c9 ?k9 ?a10 ?l10 ?c10 ?k10 ?a11 ?l11 ?c11 ?k11 ?a12 ?l12 ?c12 ?k12 ?a13 ?l13 ?c13 ?k13 ?a14 ?l14 ?c14 ?k14 ?a15 ?l15 ?c15 ?k15 ?a16 ?l16 ?c16 ?k16 ?z_bool ?z_enumerate ?z_int ?z_isinstance ?z_len ?z_list ?z_range ?z_set ?z_sorted ?z_tuple
  (case a0=>k_is)
  (case l0=>k_is)
  (case c0=>k_is)
  (case k0=>k_is)
  (case a1=>k_is)
  (case l1=>k_is)
  (case c1=>k_is)
  (case k1=>k_is)
  (case a2=>k_is)
  (case l2=>k_is)
  (case c2=>k_is)
  (case k2=>k_is)
  (case a3=>k_is)
  (case l3=>k_is)
  (case c3=>k_is)
  (case k3=>k_is)
  (case a4=>k_is)
  (case l4=>k_is)
  (case c4=>k_is)
  (case k4=>k_is)
  (case a5=>k_is)
  (case l5=>k_is)
  (case c5=>k_is)
  (case k5=>k_is)
  (case a6=>k_is)
  (case l6=>k_is)
  (case c6=>k_is)
  (case k6=>k_is)
  (case a7=>k_is)
  (case l7=>k_is)
  (case c7=>k_is)
  (case k7=>k_is)
  (case a8=>k_is)
  (case l8=>k_is)
  (case c8=>k_is)
  (case k8=>k_is)
  (case a9=>k_is)
  (case l9=>k_is)
  (case c9=>k_is)
  (case k9=>k_is)
  (case a10=>k_is)
  (case l10=>k_is)
  (case c10=>k_is)
  (case k10=>k_is)
  (case a11=>k_is)
  (case l11=>k_is)
  (case c11=>k_is)
  (case k11=>k_is)
  (case a12=>k_is)
  (case l12=>k_is)
  (case c12=>k_is)
  (case k12=>k_is)
  (case a13=>k_is)
  (case l13=>k_is)
  (case c13=>k_is)
  (case k13=>k_is)
  (case a14=>k_is)
  (case l14=>k_is)
  (case c14=>k_is)
  (case k14=>k_is)
  (case a15=>k_is)
  (case l15=>k_is)
  (case c15=>k_is)
  (case k15=>k_is)
  (case a16=>k_is)
  (case l16=>k_is)
  (case c16=>k_is)
  (case k16=>k_is)
  (case z_bool=>k_is)
  (case z_enumerate=>k_is)
  (case z_int=>k_is)
  (case z_isinstance=>k_is)
  (case z_len=>k_is)
  (case z_list=>k_is)
  (case z_range=>k_is)
  (case z_set=>k_is)
  (case z_sorted=>k_is)
  (case z_tuple=>k_is)
