import PyProof.Rows.All
import Wide.All
import OpenK.AllK
import Wide.FinOn
import Lean
import PyProof.EqAt
import PyProof.EqKinds
import PyProof.TupleCall
import KE.KSortTup
import PyProof.EnumMake
import PyProof.EnumStmt
import PyProof.EnumFor
import PyProof.TupleKey
import PyProof.Rows.SetFrom
import PyProof.IsRules
import PyProof.DictWalks
import PyProof.FactsAll.set
import PyProof.CollectIter
import PyProof.ConsumeS
import PySem.SetOps
import KE.KDictList
import PyProof.DictRoadsH
import PyProof.DictFindH
import PyProof.Rows.SortRuns
import PyProof.Draws
import PyProof.Rows.TupIter
import PyProof.Rows.FStr
import PyProof.StrCalls2
import PyProof.SliceStr2
import PyProof.StrBlockI
import PyProof.StrLawsNeg
import PyProof.StrLawsJoin
import KE.KIntText
import PyProof.RaisesStr
import PyProof.ConsumeWalk
import PyProof.WalkInts
import PyProof.DictUpdate
import KE.KDictOf
import PyProof.Rows.Range3
import PyProof.DictTable
import PyProof.ListMulRoad
import PyProof.FactsAll.tuple_2
import PySem.Challenge.RW_scenemend_k47_whole_rows_of_deeds
set_option Elab.async false
set_option linter.all false
set_option maxRecDepth 100000
theorem oB{α β:Type}{x:Option α}{f:α->Option β}{b:β}(h:x.bind f=some b):∃a,x=some a/\f a=some b:=Option.bind_eq_some_iff.mp h
theorem oM{α β:Type}{x:Option α}{f:α->β}{b:β}(h:x.map f=some b):∃a,x=some a/\f a=b:=Option.map_eq_some_iff.mp h
section
namespace L2
open PySem PySem.Spec PyProof.Rows
abbrev Key:=Sum Int Str
def Qn:Key->Value->Bool
 |.inl k,v=>Value.isInt k v
 |.inr x,v=>Value.isStrOf x v
def eP(w:World):Key->Int
 |.inl k=>hashInt k
 |.inr x=>hashStr w x
theorem By:∀{k:Key} {v:Value},Qn k v=true->(∃i t,k=Sum.inl i/\v=Value.int i t)\/(∃x t,k=Sum.inr x/\v=Value.str x t)
 |.inl i,v,h=>by
  obtain⟨t,e⟩:=Value.isInt_shape (k:=i) (v:=v) h
  exact .inl ⟨i,t,rfl,e⟩
 |.inr x,v,h=>by
  obtain⟨t,e⟩:=Value.isStrOf_shape (x:=x) (v:=v) h
  exact .inr ⟨x,t,rfl,e⟩
theorem Rj(x:Str)(t:Tok):Qn (.inr x) (.str x t)=true:=by simp[Qn,Value.isStrOf]
theorem YS(a b:Int):decide ((Sum.inl a:Key)=Sum.inl b)=(a==b):=by
 by_cases e:a=b
 ·subst e;simp
 ·have h:¬(Sum.inl a:Key)=Sum.inl b:=fun q=>e (Sum.inl.inj q)
  rw[decide_eq_false h]
  exact(beq_eq_false_iff_ne.mpr e).symm
theorem YO(a b:Str):decide ((Sum.inr a:Key)=Sum.inr b)=decide (a=b):=by
 by_cases e:a=b
 ·subst e;simp
 ·have h:¬(Sum.inr a:Key)=Sum.inr b:=fun q=>e (Sum.inr.inj q)
  rw[decide_eq_false h,decide_eq_false e]
theorem YR(a:Int)(b:Str):decide ((Sum.inl a:Key)=Sum.inr b)=false:=decide_eq_false (fun q=>nomatch q)
theorem YQ(a:Str)(b:Int):decide ((Sum.inr a:Key)=Sum.inl b)=false:=decide_eq_false (fun q=>nomatch q)
def Ik(prog:Program)(w:World):PySem.KeyKind prog w Key where
 is:=Qn
 hash:=eP w
 inj:=fun v a b ha hb=>by
  rcases By ha with ⟨i,t,rfl,rfl⟩|⟨x,t,rfl,rfl⟩
  ·rcases By hb with ⟨j,u,rfl,e⟩|⟨y,u,rfl,e⟩
   ·injection e with e1 _;rw[e1]
   ·exact nomatch e
  ·rcases By hb with ⟨j,u,rfl,e⟩|⟨y,u,rfl,e⟩
   ·exact nomatch e
   ·injection e with e1 _;rw[e1]
 byValue:=fun k v h=>by
  rcases By h with ⟨i,t,rfl,rfl⟩|⟨x,t,rfl,rfl⟩<;>rfl
 pyHash:=fun hv h=>by
  rcases By hv with ⟨i,t,rfl,rfl⟩|⟨x,t,rfl,rfl⟩
  ·exact wpAny_pyHash_int h
  ·exact wpAny_pyHash_str h
 eqBool:=fun hu hv h=>by
  rcases By hu with ⟨i,t,rfl,rfl⟩|⟨x,t,rfl,rfl⟩
  ·rcases By hv with ⟨j,u,rfl,rfl⟩|⟨y,u,rfl,rfl⟩
   ·rw[YS]at h;exact wpAny_eqBool_int h
   ·rw[YR]at h;exact SeqAt.EqAt.int_str i t y u _ _ _ _ h
  ·rcases By hv with ⟨j,u,rfl,rfl⟩|⟨y,u,rfl,rfl⟩
   ·rw[YQ]at h;exact SeqAt.EqAt.str_int x t j u _ _ _ _ h
   ·rw[YO]at h;exact wpAny_eqBool_str h
 «strs»:=fun k x t v h=>by
  rcases By h with ⟨i,u,rfl,e⟩|⟨y,u,rfl,e⟩
  ·exact nomatch e
  ·injection e with e1 _
   subst e1
   cases v<;>rfl
theorem OU(prog:Program)(w:World)(x:Str)(t:Tok):(Ik prog w).is (.inr x) (.str x t)=true:=Rj x t
end L2
namespace L2
open PySem PySem.Spec PyProof.Rows
inductive V where
 |non|bl (b:Bool)|int (i:Int)|str (x:Str)|byt (b:Array UInt8)|flt (b:UInt64)|ref (a:Addr)|ty (n:String)
 deriving DecidableEq
def RelV:V->Value->Prop
 |.non,u=>u=Value.none
 |.bl b,u=>u=Value.bool b
 |.int i,u=>∃t,u=Value.int i t
 |.str x,u=>∃t,u=Value.str x t
 |.byt b,u=>∃t,u=Value.bytes b t
 |.flt b,u=>∃t,u=Value.float b t
 |.ref a,u=>u=Value.ref a
 |.ty n,u=>u=Value.type n
abbrev Vals:List V->List Value->Prop:=Paired RelV
theorem Vals.length{xs:List V}{us:List Value}(r:Vals xs us):xs.length=us.length:=Paired.length r
theorem Vals.get:∀{xs:List V} {us:List Value} {i:Nat} {x:V},Vals xs us->xs[i]?=some x->∃u,us[i]?=some u/\RelV x u
 |_,_,_,_,.nil,e=>by simp at e
 |_,_,0,_,.cons r _,e=>by simp at e;subst e;exact⟨_,rfl,r⟩
 |_,_,i+1,x,.cons _ t,e=>by
  obtain⟨u,h1,h2⟩:=Vals.get (i:=i) (x:=x) t (by simpa using e)
  exact⟨u,by simpa using h1,h2⟩
theorem Vals.append:∀{xs ys:List V} {us ws:List Value},Vals xs us->Vals ys ws->Vals (xs++ys) (us++ws)
 |_,_,_,_,.nil,s=>s
 |_,_,_,_,.cons r t,s=>.cons r (Vals.append t s)
theorem Vals.take:∀{xs:List V} {us:List Value} (n:Nat),Vals xs us->Vals (xs.take n) (us.take n)
 |_,_,0,_=>.nil
 |_,_,_+1,.nil=>.nil
 |_,_,n+1,.cons r t=>.cons r (Vals.take n t)
theorem Vals.drop:∀{xs:List V} {us:List Value} (n:Nat),Vals xs us->Vals (xs.drop n) (us.drop n)
 |_,_,0,r=>r
 |_,_,_+1,.nil=>.nil
 |_,_,n+1,.cons _ t=>Vals.drop n t
def Z5:Option V->Option Value->Prop
 |some v,some u=>RelV v u
 |none,none=>True
 |_,_=>False
def KV{κ:Type}:List (κ×V)->List (κ×Value)->Prop:=Paired fun(p:κ×V) (q:κ×Value)=>p.1=q.1/\RelV p.2 q.2
def kV:Key->V
 |.inl i=>.int i
 |.inr x=>.str x
inductive HO where
 |lst (xs:List V)
 |tup (xs:List V)
 |dK (kvs:List (Key×V))|dT (kvs:List (List Key×V))
 |set (S:Int->Bool) (n:Nat)
 |ins (C dx:Addr) (fs:List (Str×V))
 |own (x:Addr)
 |xd (fs:List (Str×V))
 |met (f x:Addr)
 |rng (lo hi:Int)
 |frz (o:Obj) (u:HO)
 |tbl (ps:Array Value)
 |ext (φ:Heap->Prop)
abbrev Hp:=Addr->Option HO
def upd(H:Hp)(a:Addr)(o:HO):Hp:=fun b=>if b=a then some o else H b
theorem Aq{H:Hp}{a:Addr}{o:HO}:upd H a o a=some o:=by unfold upd;rw[if_pos rfl]
theorem BF{H:Hp}{a b:Addr}{o:HO}(h:b≠a):upd H a o b=H b:=by unfold upd;rw[if_neg h]
theorem A9{H:Hp}{a b:Addr}{o:HO}(h:H a=some o)(h':H b=none):a≠b:=by
 intro e;subst e;rw[h]at h';cases h'
section
variable (P:Program) (w:World)
def ObjOk(H:Hp)(h:Heap)(a:Addr):HO->Prop
 |.lst xs=>xs.length<=sizeLine/\∃(its:List Value) (n:Nat),Vals xs its/\h.get? a=some { cls:=.type "list",data:=.seq its.toArray n }
 |.tup xs=>xs.length<=sizeLine/\∃its:List Value,Vals xs its/\IsTup h a its.toArray
 |.dK kvs=>kvs.length<=sizeLine/\(a==sysModules)=false/\∃vs,KV kvs vs/\h.DictOf (Ik P w) a vs
 |.dT kvs=>kvs.length<=sizeLine/\(a==sysModules)=false/\∃xs:List (List Key×Addr×Value),
   Paired (fun(p:List Key×V) (q:List Key×Addr×Value)=>p.1=q.1/\H q.2.1=some (.tup (p.1.map kV))/\RelV p.2 q.2.2) kvs xs /\
   ∃o es ep,h.get? a=some o/\o.ExactDict/\o.data = .dict es ep/\es.toList=xs.map (entryOfKey (tupleKind (Ik P w)))/\(xs.map (·.1)).Nodup
 |.set S n=>h.SetOf (intKind P w) a S n
 |.ins C dx fs=>H dx=some (.own a)/\fs.length<=1000/\dx≠a/\h.get? a=some (PySem.W.instObj C dx) /\
   ∃mA,h.Ns1 dx mA/\(∀f,Z5 (fs.lookup f) (mA f))/\PySem.Within mA (fs.map (·.1))
 |.own _=>∃o,h.get? a=some o
 |.xd fs=>∃mA,h.Ns1 a mA/\∀f,Z5 (fs.lookup f) (mA f)
 |.rng lo hi=>∃t u v,h.get? a=some { cls:=.type "range",data:=.fields #[.int lo t,.int hi u,.int 1 v] }
 |.frz o u=>h.get? a=some o/\ObjOk H h a u
 |.tbl ps=>h.get? a=some { cls:=.none,data:=.fields ps }
 |.met f x=>h.get? a=some (PySem.W.methodObj (.ref f) (.ref x))
 |.ext φ=>φ h/\(∃o,h.get? a=some o)/\∀h1 h2:Heap,φ h1->(∀o,h1.get? a=some o->h2.get? a=some o)->φ h2
def HOk(H:Hp)(h:Heap):Prop:=∀a o,H a=some o->ObjOk P w H h a o
end
section
variable {P:Program} {w:World} {H H':Hp} {h h':Heap} {a:Addr} {o:HO}
theorem ObjOk.lt(x:ObjOk P w H h a o):a<h.objs.size:=by
 cases o with
 |lst xs=>obtain⟨_,_,_,_,e⟩:=x;exact Heap.lt_size e
 |tup xs=>obtain⟨_,_,_,p⟩:=x;exact p.lt
 |dK kvs=>obtain⟨_,_,_,_,o,_,_,e,_⟩:=x;exact Heap.lt_size e
 |dT kvs=>obtain⟨_,_,_,_,o,_,_,e,_⟩:=x;exact Heap.lt_size e
 |set S n=>obtain⟨o,_,_,_,e,_⟩:=x;exact Heap.lt_size e
 |ins C dx fs=>obtain⟨_,_,_,e,_⟩:=x;exact Heap.lt_size e
 |own y=>obtain⟨_,e⟩:=x;exact Heap.lt_size e
 |xd fs=>obtain⟨_,⟨_,_,_,e,_⟩,_⟩:=x;exact Heap.lt_size e
 |rng lo hi=>obtain⟨_,_,_,e⟩:=x;exact Heap.lt_size e
 |frz ob u=>obtain⟨e,_⟩:=x;exact Heap.lt_size e
 |tbl ps=>exact Heap.lt_size (show h.get? a=some _ from x)
 |met f y=>exact Heap.lt_size (show h.get? a=some _ from x)
 |ext φ=>obtain⟨_,⟨_,e⟩,_⟩:=x;exact Heap.lt_size e
theorem Paired.mapP{α β:Type}{F G:α->β->Prop}:∀{l₁:List α} {l₂:List β},Paired F l₁ l₂->(∀a b,F a b->G a b)->Paired G l₁ l₂
 |_,_,.nil,_=>.nil
 |_,_,.cons r t,f=>.cons (f _ _ r) (Paired.mapP t f)
theorem ObjOk.stay(x:ObjOk P w H h a o)(k:∀b u,(b=a\/H b=some (.own a))->h.get? b=some u->h'.get? b=some u)
  (ho:∀b,H b=some (.own a)->H' b=some (.own a)) (ht:∀b xs,H b=some (.tup xs)->H' b=some (.tup xs)):ObjOk P w H' h' a o:=by
 induction o with
 |lst xs=>obtain⟨z,its,n,r,e⟩:=x;exact⟨z,its,n,r,k _ _ (.inl rfl) e⟩
 |tup xs=>obtain⟨z,its,r,ob,e,c⟩:=x;exact⟨z,its,r,ob,k _ _ (.inl rfl) e,c⟩
 |dK kvs=>obtain⟨z,y,vs,r,ob,es,ep,e,c⟩:=x;exact⟨z,y,vs,r,ob,es,ep,k _ _ (.inl rfl) e,c⟩
 |dT kvs =>
  obtain⟨z,y,xs,r,ob,es,ep,e,c⟩:=x
  exact⟨z,y,xs,Paired.mapP r fun p q z=>⟨z.1,ht _ _ z.2.1,z.2.2⟩,ob,es,ep,k _ _ (.inl rfl) e,c⟩
 |set S n=>obtain⟨ob,es,ep,t,e,c⟩:=x;exact⟨ob,es,ep,t,k _ _ (.inl rfl) e,c⟩
 |ins C dx fs =>
  obtain⟨d,z,ne,e,mA,⟨od,es,ep,e2,c⟩,r⟩:=x
  exact⟨ho _ d,z,ne,k _ _ (.inl rfl) e,mA,⟨od,es,ep,k _ _ (.inr d) e2,c⟩,r⟩
 |own y=>obtain⟨ob,e⟩:=x;exact⟨ob,k _ _ (.inl rfl) e⟩
 |xd fs=>obtain⟨mA,⟨od,es,ep,e,c⟩,r⟩:=x;exact⟨mA,⟨od,es,ep,k _ _ (.inl rfl) e,c⟩,r⟩
 |rng lo hi=>obtain⟨t,u,v,e⟩:=x;exact⟨t,u,v,k _ _ (.inl rfl) e⟩
 |frz ob u ih=>obtain⟨e,q⟩:=x;exact⟨k _ _ (.inl rfl) e,ih q⟩
 |tbl ps =>
  have e:h.get? a=some { cls:=.none,data:=.fields ps }:=x
  show h'.get? a=some { cls:=.none,data:=.fields ps }
  exact k a _ (.inl rfl) e
 |met f y =>
  have e:h.get? a=some (PySem.W.methodObj (.ref f) (.ref y)):=x
  show h'.get? a=some (PySem.W.methodObj (.ref f) (.ref y))
  exact k a _ (.inl rfl) e
 |ext φ=>obtain⟨p,⟨o,e⟩,st⟩:=x;exact⟨st _ _ p fun o q=>k _ _ (.inl rfl) q,⟨o,k _ _ (.inl rfl) e⟩,st⟩
theorem HOk.lt(x:HOk P w H h)(e:H a=some o):a<h.objs.size:=(x a o e).lt
theorem HOk.fresh(x:HOk P w H h)(e:h.objs.size<=a):H a=none:=by
 cases q:H a with
 |none=>rfl
 |some u=>exact absurd (Nat.lt_of_lt_of_le (x.lt q) e) (Nat.lt_irrefl _)
theorem HOk.kept(x:HOk P w H h)(k:∀b u,h.get? b=some u->h'.get? b=some u):HOk P w H h':=fun a o e =>
 (x a o e).stay (fun b u _ q=>k b u q) (fun _ q=>q) fun _ _ q=>q
theorem HOk.laid(x:HOk P w H h)(k:∀b u,h.get? b=some u->h'.get? b=some u)(hp:h.objs.size<=a)(new:ObjOk P w (upd H a o) h' a o):HOk P w (upd H a o) h':=fun b u e=>by
 have hn:=x.fresh hp
 by_cases hb:b=a
 ·subst hb;rw[Aq]at e;cases e;exact new
 ·rw[BF hb]at e
  exact(x b u e).stay (fun c v _ q=>k c v q) (fun c q=>by rw[BF (A9 q hn)];exact q) fun c xs q=>by rw[BF (A9 q hn)];exact q
end
def Rd(H:Hp)(a:Addr)(u:HO):Prop:=H a=some u\/∃o,H a=some (.frz o u)
theorem Rd.ok{P:Program}{w:World}{H:Hp}{h:Heap}{a:Addr}{u:HO}(r:Rd H a u)(x:HOk P w H h):ObjOk P w H h a u:=by
 rcases r with r|⟨o,r⟩
 ·exact x a u r
 ·obtain⟨_,q⟩:=x a _ r
  exact q
def Mut:Option HO->Prop
 |some (.lst _)=>True
 |some (.dK _)=>True
 |some (.dT _)=>True
 |some (.set _ _)=>True
 |some (.ins _ _ _)=>True
 |some (.ext _)=>True
 |_=>False
section
variable {P:Program} {w:World} {H:Hp} {h h':Heap} {x e:Addr} {o':HO}
theorem HOk.write(ok:HOk P w H h)(mu:Mut (H x))(he:e=x\/H e=some (.own x))(k:∀b u,b≠e->h.get? b=some u->h'.get? b=some u)(heo:∃u,h'.get? e=some u)
  (new:ObjOk P w (upd H x o') h' x o'):HOk P w (upd H x o') h':=fun b u q=>by
 have nown:∀c y,H c=some (.own y)->c≠x:=fun c y r z=>by subst z;rw[r]at mu;exact mu
 have ntup:∀c xs,H c=some (.tup xs)->c≠x:=fun c xs r z=>by subst z;rw[r]at mu;exact mu
 by_cases hb:b=x
 ·subst hb;rw[Aq]at q;cases q;exact new
 ·rw[BF hb]at q
  by_cases hbe:b=e
  ·have q':H b=some (.own x):=by
    rcases he with z|z
    ·exact absurd (hbe.trans z) hb
    ·rw[hbe];exact z
   rw[q]at q';cases q'
   obtain⟨v,hv⟩:=heo
   exact⟨v,by rw[hbe];exact hv⟩
  ·refine(ok b u q).stay (fun c v hc r=>k c v ?_ r) (fun c r=>by rw[BF (nown c b r)];exact r) fun c xs r=>by rw[BF (ntup c xs r)];exact r
   rcases hc with rfl|hc
   ·exact hbe
   ·rintro rfl
    rcases he with z|z
    ·exact nown c b hc z
    ·rw[hc]at z;cases z;exact hb rfl
end
structure Un(fs ex:List Addr)(H H':Hp)(h h':Heap):Prop where
 keep:∀b o,h.get? b=some o->H b=none->b∉fs->b∉ex->h'.get? b=some o
 slot:∀b o,h.get? b=some o->H b=none->b∈fs->b∉ex->∃sl,h'.get? b=some { o with slots:=sl }
 free:∀b o,h.get? b=some o->H b=none->b∉ex->H' b=none
 there:∀b o,h.get? b=some o->b∉ex->∃o',h'.get? b=some o'
 tups:∀b xs,H b=some (.tup xs)->H' b=some (.tup xs)
 frzs:∀b o u,H b=some (.frz o u)->H' b=some (.frz o u)
 tbls:∀b ps,H b=some (.tbl ps)->∃more,H' b=some (.tbl (ps++more))
section
variable {fs fs' ex ex':List Addr} {H H1 H2:Hp} {h h1 h2 h':Heap} {a x e:Addr} {o:HO}
theorem Un.any(u:Un fs ex H H1 h h1){b:Addr}{ob:Obj}(q:h.get? b=some ob)(n:H b=none)(hx:b∉ex):∃sl,h1.get? b=some { ob with slots:=sl }:=by
 by_cases hb:b∈fs
 ·exact u.slot b ob q n hb hx
 ·exact⟨ob.slots,u.keep b ob q n hb hx⟩
theorem Un.trans(a:Un fs ex H H1 h h1)(b:Un fs ex H1 H2 h1 h2):Un fs ex H H2 h h2 where
 keep:=fun c ob q n hc hx=>b.keep c ob (a.keep c ob q n hc hx) (a.free c ob q n hx) hc hx
 slot:=fun c ob q n hc hx=>by
  obtain⟨sl,e1⟩:=a.slot c ob q n hc hx
  obtain⟨sl',e2⟩:=b.slot c _ e1 (a.free c ob q n hx) hc hx
  exact⟨sl',e2⟩
 free:=fun c ob q n hx=>by
  obtain⟨o',e1⟩:=a.there c ob q hx
  exact b.free c o' e1 (a.free c ob q n hx) hx
 there:=fun c ob q hx=>by
  obtain⟨o',e1⟩:=a.there c ob q hx
  exact b.there c o' e1 hx
 tups:=fun c xs q=>b.tups c xs (a.tups c xs q)
 frzs:=fun c ob xs q=>b.frzs c ob xs (a.frzs c ob xs q)
 tbls:=fun c ps q=>by
  obtain⟨m1,e1⟩:=a.tbls c ps q
  obtain⟨m2,e2⟩:=b.tbls c _ e1
  exact⟨m1++m2,by rw[e2,Array.append_assoc]⟩
theorem Un.kept(k:∀b u,h.get? b=some u->h'.get? b=some u):Un fs ex H H h h' :=
 ⟨fun b ob q _ _ _=>k b ob q,fun b ob q _ _ _=>⟨ob.slots,k b ob q⟩,fun _ _ _ n _=>n,fun b ob q _=>⟨ob,k b ob q⟩,fun _ _ q=>q,fun _ _ _ q=>q,fun _ ps q=>⟨#[],by rw[q];simp⟩⟩
theorem Un.refl:Un fs ex H H h h:=Un.kept fun _ _ q=>q
theorem Un.laid(k:∀b u,h.get? b=some u->h'.get? b=some u)(hp:h.objs.size<=a)(hn:H a=none):Un fs ex H (upd H a o) h h' where
 keep:=fun b u q _ _ _=>k b u q
 slot:=fun b u q _ _ _=>⟨u.slots,k b u q⟩
 free:=fun b u q n _=>by rw[BF (Nat.ne_of_lt (Nat.lt_of_lt_of_le (Heap.lt_size q) hp))];exact n
 there:=fun b u q _=>⟨u,k b u q⟩
 tups:=fun b xs q=>by rw[BF (A9 q hn)];exact q
 frzs:=fun b u xs q=>by rw[BF (A9 q hn)];exact q
 tbls:=fun b ps q=>⟨#[],by rw[BF (A9 q hn),q];simp⟩
theorem Un.write(mu:Mut (H x))(he:e=x\/H e=some (.own x))(k:∀b u,b≠e->h.get? b=some u->h'.get? b=some u)(heo:∃u,h'.get? e=some u):Un fs ex H (upd H x o) h h':=by
 have hx:∀b,H b=none->b≠x:=fun b n z=>by subst z;rw[n]at mu;exact mu
 have hb:∀b,H b=none->b≠e:=fun b n z=>by
  subst z
  rcases he with r|r
  ·exact hx b n r
  ·rw[n]at r;cases r
 have hm:∀b u,H b=some u->¬Mut (some u)->b≠x:=fun b u q nm z=>by subst z;rw[q]at mu;exact nm mu
 refine ⟨fun b u q n _ _ => k b u (hb b n) q, fun b u q n _ _ => ⟨u.slots, k b u (hb b n) q⟩, fun b u q n _ => by rw [BF (hx b n)]; exact n, fun b u q _ => ?_,
  fun b xs q=>by rw[BF (hm b _ q fun z=>z)];exact q,fun b u xs q=>by rw[BF (hm b _ q fun z=>z)];exact q,fun b ps q=>⟨#[],by rw[BF (hm b _ q fun z=>z),q];simp⟩⟩
 by_cases hbe:b=e
 ·subst hbe;exact heo
 ·exact⟨u,k b u hbe q⟩
end
def trk(h:Heap)(H:Hp):List Addr:=(List.range h.objs.size).filter fun a=>(H a).isSome
def NY(h:Heap)(H:Hp):Heap:=PySem.W.hideAll h (trk h H)
theorem Rn(h:Heap)(H:Hp):(NY h H).objs.size=h.objs.size:=PySem.W.hideAll_size _ _
theorem UA{h:Heap}{H:Hp}{b:Addr}{o:Obj}(e:h.get? b=some o)(n:H b=none):(NY h H).get? b=some o :=
 PySem.W.hideAll_get _ e fun hm=>by
  have q:(H b).isSome=true:=(List.mem_filter.mp hm).2
  rw[n]at q;simp at q
theorem Ve{h:Heap}{H:Hp}{b:Addr}{o:Obj}(e:(NY h H).get? b=some o):h.get? b=some o/\H b=none:=by
 have e':h.get? b=some o:=PySem.W.of_hideAll (trk h H) e
 refine⟨e',?_⟩
 cases q:H b with
 |none=>rfl
 |some x =>
  have hm:b∈trk h H:=List.mem_filter.mpr ⟨List.mem_range.mpr (Heap.lt_size e'),by simp[q]⟩
  have z:(NY h H).get? b=none:=PySem.W.hideAll_none (trk h H) hm
  rw[z]at e;cases e
def Wh(g h:Heap)(L:Addr):List (Addr×Obj):=(List.range h.objs.size).filterMap fun a=>if a=L\/(g.get? a).isSome=true then none else (h.get? a).map fun o=>(a,o)
def A0(g h:Heap)(L d:Addr):List (Addr×Obj):=(Wh g h L).filter fun p=>decide (p.1≠d)
end L2
namespace L2
open PySem PySem.Spec PyProof.Rows
structure Mod(K:PySem.W.Frag)(mg:Str->Option Value)(base:Heap):Prop where
 kin:K.In base
 glob:base.Ns mainGlobals mg
 blt:∃mb,base.Ns builtinsNs mb/\∀x:Str,x≠"__name__"->mb x=bootBuiltins x
 nolimit:base.NoLimit
structure Cx where
 prog:Program
 w:World
 K:PySem.W.Frag
 mg:Str->Option Value
 base:Heap
 A:Around
 N:List Str
 s₀:Shared
 H₀:Hp
 env:Env
 outer:List Env
 stack:List Env
 ex:List Addr
 fn:Str->Bool
 calm:Bool
 pn:List (Addr×Obj)
 xe:Value->Shared->Prop
def frs(l:List Env):List Addr:=l.filterMap (·.frame)
abbrev Cx.fs(X:Cx):List Addr:=frs X.outer
def Vis(sc:Scope)(x:Str):Prop:=sc.names.lookup x=some .local\/sc.names.lookup x=some .cell\/sc.names.lookup x=some .free
def Loc(sc:Scope)(x:Str):Prop:=sc.names.lookup x=some .local\/sc.names.lookup x=some .cell
def fK(env:Env)(h:Heap)(m:Str->Option Value)(x:Str)(u:Value):Prop :=
 (env.kindOf x=some .local/\m x=some u)\/((env.kindOf x=some .cell\/env.kindOf x=some .free)/\∃c,env.cells.lookup x=some c/\h.IsCell c (some u))
structure Cx.Ok(X:Cx):Prop where
 mod:Mod X.K X.mg X.base
 kind:X.env.scope.kind = .function
 glob:X.env.globals=mainGlobals
 blt:X.env.builtins=builtinsNs
 above:X.s₀.heap.objs.size<=X.env.locals
 inj:∀x y c,X.env.cells.lookup x=some c->X.env.cells.lookup y=some c->x=y
 has:∀x,(X.env.kindOf x=some .cell\/X.env.kindOf x=some .free)->∃c,X.env.cells.lookup x=some c
 cab:∀x c,X.fn x=true->X.env.cells.lookup x=some c->X.s₀.heap.objs.size<=c
 hd:X.calm=true->X.A.handled=none
 frames:X.A.frames=some X.stack
 stk:X.stack=X.outer\/(X.stack=X.env::X.outer/\X.env.frame=some X.env.locals)
 exf:∀b∈X.ex,b≠X.env.locals/\∀x c,X.env.cells.lookup x=some c->c≠b
 bs:∀b o,X.base.get? b=some o->X.s₀.heap.get? b=some o/\X.H₀ b=none
 bsz:X.base.objs.size<=X.s₀.heap.objs.size
 noex:∀b o,X.base.get? b=some o->b∉X.ex
 exfs:∀b∈X.ex,b∉X.fs
 funs:X.s₀.heap.FunFrames X.base X.outer
 frf:∀b∈X.fs,X.H₀ b=none
structure Inv(X:Cx)(pins:List (Addr×Obj))(σ:List (Option V))(H:Hp)(s:Shared):Prop where
 ok:X.Ok
 os:s.os=X.s₀.os
 bare:AllBare s.gens
 base:Un X.fs X.ex X.H₀ H X.s₀.heap s.heap
 loc:∃m,s.heap.Ns X.env.locals m/\∀(i:Nat) (x:Str) (v:V),X.N[i]?=some x->σ[i]?=some (some v)->Vis X.env.scope x->∃u,RelV v u/\fK X.env s.heap m x u
 cell:∀x c,X.env.cells.lookup x=some c->∃v,s.heap.IsCell c v
 free:H X.env.locals=none
 freeC:∀x c,X.env.cells.lookup x=some c->H c=none
 pin:∀p∈X.pn++pins,s.heap.get? p.1=some p.2/\H p.1=none/\p.1≠X.env.locals/\p.1∉X.fs/\∀v,p.2.data≠.cell v
 hok:HOk X.prog X.w H s.heap
 len:σ.length=X.N.length
section
variable {X:Cx} {pins:List (Addr×Obj)} {σ:List (Option V)} {H H':Hp} {s:Shared} {h':Heap}
theorem Cx.Ok.nofr(ok:X.Ok){b:Addr}{o:Obj}(e:X.base.get? b=some o):b∉X.fs:=fun hb=>by
 have:=(ok.funs.mem hb).1
 rw[e]at this;cases this
theorem Inv.bs(I:Inv X pins σ H s):∀b o,X.base.get? b=some o->s.heap.get? b=some o/\H b=none:=fun b o e =>
 ⟨I.base.keep b o (I.ok.bs b o e).1 (I.ok.bs b o e).2 (I.ok.nofr e) (I.ok.noex b o e),I.base.free b o (I.ok.bs b o e).1 (I.ok.bs b o e).2 (I.ok.noex b o e)⟩
theorem Inv.bk(I:Inv X pins σ H s):∀b o,X.base.get? b=some o->s.heap.get? b=some o:=fun b o e=>(I.bs b o e).1
theorem Inv.mod(I:Inv X pins σ H s):Mod X.K X.mg X.base:=I.ok.mod
theorem Inv.kIn(I:Inv X pins σ H s):X.K.In s.heap:=I.ok.mod.kin.keeps I.bk
theorem Inv.lt(I:Inv X pins σ H s):X.env.locals<s.heap.objs.size:=let ⟨_,hn,_⟩:=I.loc;hn.lt
theorem Inv.sz(I:Inv X pins σ H s):X.s₀.heap.objs.size<=s.heap.objs.size:=Nat.le_trans I.ok.above (Nat.le_of_lt I.lt)
theorem Inv.nofs(I:Inv X pins σ H s){a:Addr}(h:s.heap.objs.size<=a):a∉X.fs:=fun hb=>by
 obtain⟨_,o,ho,_⟩:=I.ok.funs.mem hb
 exact absurd (Nat.lt_of_lt_of_le (Heap.lt_size ho) (Nat.le_trans I.sz h)) (Nat.lt_irrefl _)
theorem Inv.cne(I:Inv X pins σ H s):∀x c,X.env.cells.lookup x=some c->c≠X.env.locals:=fun x c e z=>by
 obtain⟨v,o,ho,hd⟩:=I.cell x c e
 obtain⟨m,⟨o',es,ep,ho',hd',_⟩,_⟩:=I.loc
 rw[z,ho']at ho;cases ho;rw[hd']at hd;cases hd
theorem Inv.funs(I:Inv X pins σ H s):s.heap.FunFrames X.base X.outer:=by
 have all:∀(l:List Env),(∀b∈frs l,b∈X.fs)->X.s₀.heap.FunFrames X.base l->s.heap.FunFrames X.base l:=by
  intro l
  induction l with
  |nil=>intro _ _;trivial
  |cons env r ih =>
   intro hs hl
   obtain⟨hk,⟨L,o,hf,hn,ho,hd⟩,hr⟩:=hl
   have hL:L∈X.fs:=hs L (by unfold frs;rw[List.filterMap_cons,hf];exact List.mem_cons_self)
   obtain⟨sl,e⟩:=I.base.slot L o ho (I.ok.frf L hL) hL fun z=>I.ok.exfs L z hL
   exact⟨hk,⟨L,_,hf,hn,e,hd⟩,ih (fun b hb=>hs b (by unfold frs;rw[List.filterMap_cons,hf];exact List.mem_cons_of_mem _ hb)) hr⟩
 exact all X.outer (fun _ hb=>hb) I.ok.funs
theorem Inv.stack(I:Inv X pins σ H s):s.heap.FunFrames X.base X.stack:=by
 rcases I.ok.stk with e|⟨e,hf⟩
 ·rw[e];exact I.funs
 ·rw[e]
  obtain⟨m,hn,_⟩:=I.loc
  refine .cons (by rw[I.ok.kind];decide) hf hn ?_ I.funs
  exact Heap.get?_none_of_le (Nat.le_trans I.ok.bsz I.ok.above)
theorem Inv.stkSub(I:Inv X pins σ H s):∀b∈frs X.stack,b∈X.env.locals::X.fs:=fun b hb=>by
 rcases I.ok.stk with e|⟨e,hf⟩
 ·rw[e]at hb;exact List.mem_cons_of_mem _ hb
 ·rw[e]at hb
  unfold frs at hb
  rw[List.filterMap_cons,hf]at hb
  exact hb
theorem Inv.stkFree(I:Inv X pins σ H s):∀b∈frs X.stack,H b=none:=fun b hb=>by
 rcases List.mem_cons.mp (I.stkSub b hb)with e|hb
 ·rw[e];exact I.free
 ·obtain⟨_,o,ho,_⟩:=I.ok.funs.mem hb
  exact I.base.free b o ho (I.ok.frf b hb) fun z=>I.ok.exfs b z hb
theorem Inv.step{g':Array GenState}{t':Nat}{d':Drawn}{ch:List Addr}(I:Inv X pins σ H s)
  (hch:∀b∈ch,(b∈X.ex\/X.s₀.heap.objs.size<=b)/\b≠X.env.locals/\(∀x c,X.env.cells.lookup x=some c->c≠b)/\∀p∈X.pn++pins,p.1≠b)
  (keep:∀b o,b≠X.env.locals->b∉X.fs->b∉ch->s.heap.get? b=some o->H b=none->h'.get? b=some o)
  (slot:∀b o,b≠X.env.locals->b∈X.fs->b∉ch->s.heap.get? b=some o->H b=none->∃sl,h'.get? b=some { o with slots:=sl }) (free:∀b o,b∉ch->s.heap.get? b=some o->H b=none->H' b=none)
  (there:∀b o,b∉ch->s.heap.get? b=some o->∃o',h'.get? b=some o')
  (tups:∀b xs,H b=some (.tup xs)->H' b=some (.tup xs)) (frzs:∀b o u,H b=some (.frz o u)->H' b=some (.frz o u)) (tbls:∀b ps,H b=some (.tbl ps)->∃more,H' b=some (.tbl (ps++more)))
  (ns:∀m,s.heap.Ns X.env.locals m->h'.Ns X.env.locals m) (hok:HOk X.prog X.w H' h') (hg:AllBare g') :
  Inv X pins σ H' { s with heap:=h',gens:=g',drawn:=d',toks:=t' }:=by
 have neL:∀b o,X.s₀.heap.get? b=some o->b≠X.env.locals:=fun b o e=>Nat.ne_of_lt (Nat.lt_of_lt_of_le (Heap.lt_size e) I.ok.above)
 have neC:∀b o,X.s₀.heap.get? b=some o->b∉X.ex->b∉ch:=fun b o e hx hb=>by
  rcases(hch b hb).1 with z|z
  ·exact hx z
  ·exact absurd (Nat.lt_of_lt_of_le (Heap.lt_size e) z) (Nat.lt_irrefl _)
 have cellK:∀x c,X.env.cells.lookup x=some c->∀v,s.heap.IsCell c v->h'.IsCell c v:=fun x c e v ⟨o,ho,hd⟩=>by
  have nch:c∉ch:=fun z=>(hch c z).2.2.1 x c e rfl
  by_cases hc:c∈X.fs
  ·obtain⟨sl,q⟩:=slot c o (I.cne x c e) hc nch ho (I.freeC x c e)
   exact⟨_,q,hd⟩
  ·exact⟨o,keep c o (I.cne x c e) hc nch ho (I.freeC x c e),hd⟩
 refine⟨I.ok,I.os,hg,⟨fun b o e n hb hx=>?_,fun b o e n hb hx=>?_,fun b o e n hx=>?_,fun b o e hx=>?_,fun b xs e=>tups b xs (I.base.tups b xs e),fun b o xs e=>frzs b o xs (I.base.frzs b o xs e),fun b ps e=>?_⟩,?_,fun x c e=>?_,?_,fun x c e=>?_,fun p hp=>?_,hok,I.len⟩
 ·exact keep b o (neL b o e) hb (neC b o e hx) (I.base.keep b o e n hb hx) (I.base.free b o e n hx)
 ·obtain⟨sl,e1⟩:=I.base.slot b o e n hb hx
  obtain⟨sl',e2⟩:=slot b _ (neL b o e) hb (neC b o e hx) e1 (I.base.free b o e n hx)
  exact⟨sl',e2⟩
 ·obtain⟨o',e1⟩:=I.base.there b o e hx
  exact free b o' (neC b o e hx) e1 (I.base.free b o e n hx)
 ·obtain⟨o',e1⟩:=I.base.there b o e hx
  exact there b o' (neC b o e hx) e1
 ·obtain⟨m1,e1⟩:=I.base.tbls b ps e
  obtain⟨m2,e2⟩:=tbls b _ e1
  exact⟨m1++m2,by rw[e2,Array.append_assoc]⟩
 ·obtain⟨m,hn,hl⟩:=I.loc
  refine⟨m,ns m hn,fun i x v e1 e2 e3=>?_⟩
  obtain⟨u,r,l⟩:=hl i x v e1 e2 e3
  refine⟨u,r,?_⟩
  rcases l with l|⟨k,c,e,z⟩
  ·exact .inl l
  ·exact .inr ⟨k,c,e,cellK x c e _ z⟩
 ·obtain⟨v,z⟩:=I.cell x c e
  exact⟨v,cellK x c e v z⟩
 ·obtain⟨m,⟨o,_,_,ho,_⟩,_⟩:=I.loc
  exact free _ o (fun z=>(hch _ z).2.1 rfl) ho I.free
 ·obtain⟨v,o,ho,hd⟩:=I.cell x c e
  exact free c o (fun z=>(hch c z).2.2.1 x c e rfl) ho (I.freeC x c e)
 ·obtain⟨e,n,ne,nf,d⟩:=I.pin p hp
  have nch:p.1∉ch:=fun z=>(hch p.1 z).2.2.2 p hp rfl
  exact⟨keep p.1 p.2 ne nf nch e n,free p.1 p.2 nch e n,ne,nf,d⟩
theorem Inv.un{t':Nat}(I:Inv X pins σ H s)(u:Un X.fs [] H H' s.heap h')(hok:HOk X.prog X.w H' h'):Inv X pins σ H' { s with heap:=h',toks:=t' }:=by
 obtain⟨m,⟨o,es,ep,ho,r⟩,_⟩:=id I.loc
 obtain⟨sl,hL⟩:=u.any ho I.free (by simp)
 exact I.step (g' := s.gens) (d' := s.drawn) (ch := []) (fun _ z => nomatch z) (fun b o _ hb _ e n => u.keep b o e n hb (by simp)) (fun b o _ hb _ e n => u.slot b o e n hb (by simp)) (fun b o _ e n => u.free b o e n (by simp)) (fun b o _ e => u.there b o e (by simp)) u.tups u.frzs u.tbls (fun m' hm => by
  obtain⟨o',es',ep',ho',r'⟩:=hm
  rw[ho]at ho';cases ho'
  exact⟨_,es',ep',hL,r'⟩) hok I.bare
theorem Inv.call{g':Array GenState}{t':Nat}{d':Drawn}{ch:List Addr}(I:Inv X pins σ H s)(u:Un (frs X.stack) ch H H' s.heap h')(hok:HOk X.prog X.w H' h')(hg:AllBare g')
  (hch:∀b∈ch,(b∈X.ex\/X.s₀.heap.objs.size<=b)/\b≠X.env.locals/\(∀x c,X.env.cells.lookup x=some c->c≠b)/\∀p∈X.pn++pins,p.1≠b) :
  Inv X pins σ H' { s with heap:=h',gens:=g',drawn:=d',toks:=t' }:=by
 obtain⟨m,⟨o,es,ep,ho,r⟩,_⟩:=id I.loc
 obtain⟨sl,hL⟩:=u.any ho I.free fun z=>(hch _ z).2.1 rfl
 exact I.step (ch := ch) hch (fun b o hL hb hc e n => u.keep b o e n (fun z => (List.mem_cons.mp (I.stkSub b z)).elim hL hb) hc) (fun b o _ _ hc e n => u.any e n hc) (fun b o hc e n => u.free b o e n hc) (fun b o hc e => u.there b o e hc) u.tups u.frzs u.tbls (fun m' hm => by
  obtain⟨o',es',ep',ho',r'⟩:=hm
  rw[ho]at ho';cases ho'
  exact⟨_,es',ep',hL,r'⟩) hok hg
theorem Inv.turned{t':Nat}{it:Addr}(I:Inv X pins σ H s)(k:∀b o,b≠it->s.heap.get? b=some o->h'.get? b=some o)(hn:H it=none)(hL:it≠X.env.locals)
  (h1:it∈X.ex\/X.s₀.heap.objs.size<=it) (h2:∀x c,X.env.cells.lookup x=some c->c≠it) (h3:∀p∈X.pn++pins,p.1≠it):Inv X pins σ H { s with heap:=h',toks:=t' }:=by
 have nit:∀b u,H b=some u->b≠it:=fun b u e z=>by rw[z,hn]at e;cases e
 refine I.step (g':=s.gens) (d':=s.drawn) (ch:=[it]) (fun b hb=>?_) (fun b o _ _ hc e _=>k b o (fun z=>hc (by simp[z])) e) (fun b o _ _ hc e _=>⟨o.slots,k b o (fun z=>hc (by simp[z])) e⟩) (fun _ _ _ _ n=>n)
  (fun b o hc e=>⟨o,k b o (fun z=>hc (by simp[z])) e⟩) (fun _ _ e=>e) (fun _ _ _ e=>e) (fun b ps e=>⟨#[],by rw[e];simp⟩) (fun m hm=>?_) (fun b u e=>?_) I.bare
 ·have e:b=it:=by simpa using hb
  subst e
  exact⟨h1,hL,h2,h3⟩
 ·obtain⟨o,es,ep,ho,r⟩:=hm
  exact⟨o,es,ep,k _ o (Ne.symm hL) ho,r⟩
 ·refine(I.hok b u e).stay (fun c v hc q=>k c v ?_ q) (fun _ q=>q) fun _ _ q=>q
  rcases hc with z|z
  ·rw[z];exact nit b u e
  ·exact nit c _ z
theorem Inv.tok(I:Inv X pins σ H s)(t:Nat):Inv X pins σ H { s with toks:=t }:=I.un (h':=s.heap) (t':=t) Un.refl I.hok
theorem Inv.kept{t':Nat}(I:Inv X pins σ H s)(k:∀b u,s.heap.get? b=some u->h'.get? b=some u):Inv X pins σ H { s with heap:=h',toks:=t' }:=I.un (Un.kept k) (I.hok.kept k)
theorem Inv.laid{a:Addr}{o:HO}{t':Nat}(I:Inv X pins σ H s)(k:∀b u,s.heap.get? b=some u->h'.get? b=some u)(hp:s.heap.objs.size<=a)(new:ObjOk X.prog X.w (upd H a o) h' a o) :
  Inv X pins σ (upd H a o) { s with heap:=h',toks:=t' }:=I.un (Un.laid k hp (I.hok.fresh hp)) (I.hok.laid k hp new)
theorem Inv.write{x e:Addr}{o:HO}{t':Nat}(I:Inv X pins σ H s)(mu:Mut (H x))(he:e=x\/H e=some (.own x))(k:∀b u,b≠e->s.heap.get? b=some u->h'.get? b=some u)(heo:∃u,h'.get? e=some u)
  (new:ObjOk X.prog X.w (upd H x o) h' x o):Inv X pins σ (upd H x o) { s with heap:=h',toks:=t' }:=I.un (Un.write mu he k heo) (I.hok.write mu he k heo new)
theorem Inv.pins_of{pins':List (Addr×Obj)}(I:Inv X pins σ H s)(h:∀p∈pins',s.heap.get? p.1=some p.2/\H p.1=none/\p.1≠X.env.locals/\p.1∉X.fs/\∀v,p.2.data≠.cell v):Inv X pins' σ H s :=
 ⟨I.ok,I.os,I.bare,I.base,I.loc,I.cell,I.free,I.freeC,fun p hp=>(List.mem_append.mp hp).elim (fun z=>I.pin p (List.mem_append_left _ z)) (h p),I.hok,I.len⟩
theorem OQ{N:List Str}(hN:N.Nodup){i j:Nat}{x:Str}(a:N[i]?=some x)(b:N[j]?=some x):i=j:=by
 obtain⟨h1,e1⟩:=List.getElem?_eq_some_iff.mp a
 obtain⟨h2,e2⟩:=List.getElem?_eq_some_iff.mp b
 exact(List.getElem_inj hN).mp (e1.trans e2.symm)
theorem JK{M:Model}{A:Around}{E:Value->Shared->Prop}{i:Nat}{x:Str}{v:V}{u:Value}{Q:Unit->Shared->Prop}(I:Inv X pins σ H s)(hN:X.N.Nodup)(hi:X.N[i]?=some x)(hx:Loc X.env.scope x)(r:RelV v u)
  (h:∀s',Inv X pins (σ.set i (some v)) H s'->(∃a,Heap.SameBut a s.heap s'.heap/\(a=X.env.locals\/X.env.cells.lookup x=some a))->Q () s') (hf:X.fn x=true\/X.env.scope.names.lookup x=some .local:=by first|exact .inl rfl|exact .inr rfl|assumption):wpAny M A (storeName X.env x u) Q E s:=by
 obtain⟨m,hn,hl⟩:=id I.loc
 have hcls:(X.env.scope.kind==.class||(X.env.scope.kind==.module&&X.env.locals != X.env.globals))=false:=by rw[I.ok.kind];rfl
 have hiσ:i<σ.length:=by rw[I.len];exact(List.getElem?_eq_some_iff.mp hi).1
 have cne:=I.cne
 have tracked:∀{a:Addr} {h':Heap},(∃o,s.heap.get? a=some o/\H a=none)->Heap.SameBut a s.heap h'->HOk X.prog X.w H h':=fun {a h'} ha hs b ob e=>by
  obtain⟨_,_,hfree⟩:=ha
  refine(I.hok b ob e).stay (fun c w' hc q=>(hs.2 c ?_).trans q) (fun _ q=>q) fun _ _ q=>q
  rintro rfl
  rcases hc with rfl|hc
  ·rw[hfree]at e;cases e
  ·rw[hfree]at hc;cases hc
 rcases hx with hk|hk
 ·refine wpAny_storeName_local hk hn (fun h' hn' hs=>?_) hcls
  obtain⟨oL,_,_,hoL,_⟩:=id hn
  refine h _ ⟨I.ok,I.os,I.bare,⟨fun b o e n hb hx=>?_,fun b o e n hb hx=>?_,I.base.free,fun b o e hx=>?_,I.base.tups,I.base.frzs,I.base.tbls⟩,⟨_,hn',fun j y v' e1 e2 e3=>?_⟩,fun y c e=>?_,I.free,I.freeC,fun p hp=>?_,tracked ⟨oL,hoL,I.free⟩ hs,by simpa using I.len⟩ ⟨_,hs,.inl rfl⟩
  ·exact(hs.2 b (Nat.ne_of_lt (Nat.lt_of_lt_of_le (Heap.lt_size e) I.ok.above))).trans (I.base.keep b o e n hb hx)
  ·obtain⟨sl,e1⟩:=I.base.slot b o e n hb hx
   exact⟨sl,(hs.2 b (Nat.ne_of_lt (Nat.lt_of_lt_of_le (Heap.lt_size e) I.ok.above))).trans e1⟩
  ·obtain⟨o',e1⟩:=I.base.there b o e hx
   exact⟨o',(hs.2 b (Nat.ne_of_lt (Nat.lt_of_lt_of_le (Heap.lt_size e) I.ok.above))).trans e1⟩
  ·by_cases hj:j=i
   ·subst hj
    rw[hi]at e1;cases e1
    rw[List.getElem?_set_self hiσ]at e2
    cases e2
    exact⟨u,r,.inl ⟨hk,by simp⟩⟩
   ·rw[List.getElem?_set_ne (Ne.symm hj)]at e2
    obtain⟨u',r',q⟩:=hl j y v' e1 e2 e3
    refine⟨u',r',?_⟩
    rcases q with ⟨k,e⟩|⟨k,c,e,z⟩
    ·refine .inl ⟨k,?_⟩
     have:y≠x:=fun e=>hj (OQ hN e1 (e▸hi))
     simp[this,e]
    ·exact .inr ⟨k,c,e,z.sameBut hs (cne y c e)⟩
  ·obtain⟨w',z⟩:=I.cell y c e
   exact⟨w',z.sameBut hs (cne y c e)⟩
  ·obtain⟨e,n,ne,nf,d⟩:=I.pin p hp
   exact⟨(hs.2 p.1 ne).trans e,n,ne,nf,d⟩
 ·have hfn:X.fn x=true:=by
   rcases hf with z|z
   ·exact z
   ·rw[z]at hk;cases hk
  obtain⟨c,hc⟩:=I.ok.has x (.inl hk)
  obtain⟨w',z⟩:=I.cell x c hc
  refine wpAny_storeName_cell I.ok.kind hk hc z (fun h' hc' hs=>?_)
  obtain⟨oc,hoc,hocd⟩:=id z
  refine h { s with heap:=h' } ⟨I.ok,I.os,I.bare,⟨fun b o e n hb hx=>?_,fun b o e n hb hx=>?_,I.base.free,fun b o e hx=>?_,I.base.tups,I.base.frzs,I.base.tbls⟩,⟨m,hn.sameBut hs (Ne.symm (cne x c hc)),fun j y v' e1 e2 e3=>?_⟩,fun y c' e=>?_,I.free,I.freeC,fun p hp=>?_,tracked ⟨oc,hoc,I.freeC x c hc⟩ hs,by simpa using I.len⟩ ⟨c,hs,.inr hc⟩
  ·exact(hs.2 b (Nat.ne_of_lt (Nat.lt_of_lt_of_le (Heap.lt_size e) (I.ok.cab x c hfn hc)))).trans (I.base.keep b o e n hb hx)
  ·obtain⟨sl,e1⟩:=I.base.slot b o e n hb hx
   exact⟨sl,(hs.2 b (Nat.ne_of_lt (Nat.lt_of_lt_of_le (Heap.lt_size e) (I.ok.cab x c hfn hc)))).trans e1⟩
  ·obtain⟨o',e1⟩:=I.base.there b o e hx
   exact⟨o',(hs.2 b (Nat.ne_of_lt (Nat.lt_of_lt_of_le (Heap.lt_size e) (I.ok.cab x c hfn hc)))).trans e1⟩
  ·by_cases hj:j=i
   ·subst hj
    rw[hi]at e1;cases e1
    rw[List.getElem?_set_self hiσ]at e2
    cases e2
    exact⟨u,r,.inr ⟨.inl hk,c,hc,hc'⟩⟩
   ·rw[List.getElem?_set_ne (Ne.symm hj)]at e2
    obtain⟨u',r',q⟩:=hl j y v' e1 e2 e3
    refine⟨u',r',?_⟩
    rcases q with q|⟨k,c',e,z'⟩
    ·exact .inl q
    ·refine .inr ⟨k,c',e,z'.sameBut hs ?_⟩
     rintro rfl
     exact hj (OQ hN e1 (I.ok.inj _ _ _ e hc▸hi))
  ·by_cases hcc:c'=c
   ·subst hcc;exact⟨_,hc'⟩
   ·obtain⟨w2,z2⟩:=I.cell y c' e
    exact⟨w2,z2.sameBut hs hcc⟩
  ·obtain⟨e,n,ne,nf,d⟩:=I.pin p hp
   refine⟨(hs.2 p.1 ?_).trans e,n,ne,nf,d⟩
   intro q
   rw[q,hoc]at e
   have q':oc=p.2:=Option.some.inj e
   exact d w' (by rw[<- q'];exact hocd)
theorem Fi{M:Model}{A:Around}{E:Value->Shared->Prop}{i:Nat}{x:Str}{v:V}{u:Value}{Q:Unit->Shared->Prop}(I:Inv X pins σ H s)(hN:X.N.Nodup)(hi:X.N[i]?=some x)(hx:Loc X.env.scope x)(r:RelV v u)
  (h:∀s',Inv X pins (σ.set i (some v)) H s'->Q () s') (hf:X.fn x=true\/X.env.scope.names.lookup x=some .local:=by first|exact .inl rfl|exact .inr rfl|assumption):wpAny M A (storeName X.env x u) Q E s :=
 JK I hN hi hx r (fun s' I' _=>h s' I') hf
theorem Inv.call'{s':Shared}{ch:List Addr}(I:Inv X pins σ H s)(ho:s'.os=s.os)(u:Un (frs X.stack) ch H H' s.heap s'.heap)(hok:HOk X.prog X.w H' s'.heap)(hg:AllBare s'.gens)
  (hch:∀b∈ch,(b∈X.ex\/X.s₀.heap.objs.size<=b)/\b≠X.env.locals/\(∀x c,X.env.cells.lookup x=some c->c≠b)/\∀p∈X.pn++pins,p.1≠b):Inv X pins σ H' s':=by
 obtain⟨h',g',d',t',o'⟩:=s'
 have e:o'=s.os:=ho
 subst e
 exact I.call (g':=g') (t':=t') (d':=d') u hok hg hch
end
abbrev XK:=Value->Option Addr->Hp->Prop
abbrev St:=List (Option V)
abbrev VK:=V->Hp->Prop
abbrev TE:=St->Hp->VK->Prop
abbrev TT:=St->Hp->(Bool->Hp->Prop)->Prop
abbrev TA:=St->Hp->(List V->Hp->Prop)->Prop
structure Lo where
 nx:St->Hp->Prop
 rt:VK
 bk:St->Hp->Prop:=fun _ _=>False
 ct:St->Hp->Prop:=fun _ _=>False
abbrev TS:=Lo->St->Hp->Prop
def EP(X:Cx)(pins:List (Addr×Obj))(σ:St)(Q:VK)(u:Value)(s':Shared):Prop:=∃v H',Inv X pins σ H' s'/\RelV v u/\Q v H'
def TP(X:Cx)(pins:List (Addr×Obj))(σ:St)(Q:Bool->Hp->Prop)(b:Bool)(s':Shared):Prop:=∃H',Inv X pins σ H' s'/\Q b H'
def AP(X:Cx)(pins:List (Addr×Obj))(σ:St)(Q:List V->Hp->Prop)(us:List Value)(s':Shared):Prop:=∃vs H',Inv X pins σ H' s'/\Vals vs us/\Q vs H'
def SP(X:Cx)(pins:List (Addr×Obj))(D:Lo)(f:Flow)(s':Shared):Prop :=
 match f with
 |.next=>∃σ' H',Inv X pins σ' H' s'/\D.nx σ' H'
 |.brk=>∃σ' H',Inv X pins σ' H' s'/\D.bk σ' H'
 |.cont=>∃σ' H',Inv X pins σ' H' s'/\D.ct σ' H'
 |.ret u=>∃v σ' H',Inv X pins σ' H' s'/\RelV v u/\D.rt v H'
def PE(X:Cx)(e:Expr)(t:TE):Prop :=
 ∀(pins:List (Addr×Obj)) (s:Shared) (σ:St) (H:Hp) (Q:VK),Inv X pins σ H s->t σ H Q->wpAny (model X.prog X.w) X.A (eval e X.env) (EP X pins σ Q) X.xe s
def PT(X:Cx)(e:Expr)(t:TT):Prop :=
 ∀(pins:List (Addr×Obj)) (s:Shared) (σ:St) (H:Hp) (Q:Bool->Hp->Prop),Inv X pins σ H s->t σ H Q->wpAny (model X.prog X.w) X.A (isTrue e X.env (eval e X.env)) (TP X pins σ Q) X.xe s
def PW(X:Cx)(e:Expr)(t:TT):Prop :=
 ∀(whole:Sem Value) (pins:List (Addr×Obj)) (s:Shared) (σ:St) (H:Hp) (Q:Bool->Hp->Prop),Inv X pins σ H s->t σ H Q->wpAny (model X.prog X.w) X.A (isTrue e X.env whole) (TP X pins σ Q) X.xe s
theorem PW.pt{X:Cx}{e:Expr}{t:TT}(h:PW X e t):PT X e t:=h _
def PA(X:Cx)(es:List Expr)(t:TA):Prop :=
 ∀(pos:Pos) (pins:List (Addr×Obj)) (s:Shared) (σ:St) (H:Hp) (Q:List V->Hp->Prop),Inv X pins σ H s->t σ H Q->wpAny (model X.prog X.w) X.A (spliced (backTo pos (starEach es X.env))) (AP X pins σ Q) X.xe s
def PS(X:Cx)(st:Stmt)(t:TS):Prop :=
 ∀(pins:List (Addr×Obj)) (s:Shared) (σ:St) (H:Hp) (D:Lo),Inv X pins σ H s->t D σ H->wpAny (model X.prog X.w) X.A (exec st X.env) (SP X pins D) X.xe s
def PSs(X:Cx)(st:List Stmt)(t:TS):Prop :=
 ∀(pins:List (Addr×Obj)) (s:Shared) (σ:St) (H:Hp) (D:Lo),Inv X pins σ H s->t D σ H->wpAny (model X.prog X.w) X.A (execs st X.env) (SP X pins D) X.xe s
theorem thn{α:Type}{t:Sem α}{Q Q':α->Shared->Prop}{M:Model}{A:Around}{E:Value->Shared->Prop}{s:Shared}(h:wpAny M A t Q E s)(hQ:∀a s,Q a s->Q' a s):wpAny M A t Q' E s:=wpAny_mono h hQ fun _ _ x=>x
end L2
namespace L2
open PySem PySem.Spec PyProof.Rows
section
variable {X:Cx}
def Eb(i:Nat):TE:=fun σ H Q=>∃v,σ[i]?=some (some v)/\Q v H
def tC(v:V):TE:=fun _ H Q=>Q v H
theorem Mv{i:Nat}{x:Str}{pos:Pos}(hN:X.N[i]?=some x)(hv:Vis X.env.scope x)(hd:(x==("__debug__":Str))=false:=by decide)(hcd:(x==("__classdict__":Str))=false:=by decide):PE X (.Name x pos) (Eb i):=by
 intro pins s σ H Q I h
 obtain⟨v,e,h⟩:=h
 obtain⟨m,hn,hl⟩:=I.loc
 obtain⟨u,r,l⟩:=hl i x v hN e hv
 have fin:EP X pins σ Q u s:=⟨v,H,I,r,h⟩
 rcases l with ⟨hk,hm⟩|⟨hk,c,hc,hcell⟩
 ·exact wpAny_Name (wpAny_loadName_local I.ok.kind hk hn hm fin) hd
 ·rcases hk with hk|hk
  ·exact wpAny_Name (wpAny_loadName_cell I.ok.kind hk hc hcell fin) hd
  ·exact wpAny_Name (wpAny_loadName_free I.ok.kind hk hc hcell fin hcd) hd
theorem LD{i j pos}:PE X (.Constant (.int i) j pos) (tC (.int i)):=fun _ _ _ H _ I h=>wpAny_Constant_int ⟨.int i,H,I.tok _,⟨_,rfl⟩,h⟩
theorem ag{b j pos}:PE X (.Constant (.bool b) j pos) (tC (.bl b)):=fun _ _ _ H _ I h=>Constant_bool ⟨.bl b,H,I,rfl,h⟩
theorem TR{j pos}:PE X (.Constant .none j pos) (tC .non):=fun _ _ _ H _ I h=>Constant_none ⟨.non,H,I,rfl,h⟩
theorem EY{x j pos}:PE X (.Constant (.str x) j pos) (tC (.str x)):=fun _ _ _ H _ I h=>Calls.Constant_str ⟨.str x,H,I.tok _,⟨_,rfl⟩,h⟩
def Gl(X:Cx)(x:Str):Prop:=X.env.kindOf x=some .globalImplicit
theorem GH{E:Value->Shared->Prop}{pins:List (Addr×Obj)}{s:Shared}{σ:St}{H:Hp}{x:Str}{u:Value}{pos:Pos}{Q:Value->Shared->Prop}(I:Inv X pins σ H s)(hg:Gl X x)(hm:X.mg x=some u)(h:Q u s)
  (hd:(x==("__debug__":Str))=false:=by decide):wpAny (model X.prog X.w) X.A (eval (.Name x pos) X.env) Q E s :=
 Calls.Name_function_global I.ok.kind hg (Calls.loadGlobal_global (by rw[I.ok.glob];exact I.mod.glob.keeps I.bk) hm h) hd
theorem LO{E:Value->Shared->Prop}{pins:List (Addr×Obj)}{s:Shared}{σ:St}{H:Hp}{x:Str}{u:Value}{pos:Pos}{Q:Value->Shared->Prop}(I:Inv X pins σ H s)(hg:Gl X x)(hm:X.mg x=none)(hv:bootBuiltins x=some u)(h:Q u s)
  (hn:x≠"__name__":=by decide) (hd:(x==("__debug__":Str))=false:=by decide):wpAny (model X.prog X.w) X.A (eval (.Name x pos) X.env) Q E s:=by
 obtain⟨mb,h1,h2⟩:=I.mod.blt
 exact Calls.Name_function_global I.ok.kind hg (Calls.loadGlobal_builtin (by rw[I.ok.glob];exact I.mod.glob.keeps I.bk) hm (by rw[I.ok.blt];exact h1.keeps I.bk) ((h2 x hn).trans hv) h) hd
theorem Cu{x:Str}{v:V}{u:Value}{pos:Pos}(hg:Gl X x)(hm:X.mg x=some u)(r:RelV v u)(hd:(x==("__debug__":Str))=false:=by decide):PE X (.Name x pos) (tC v) :=
 fun _ _ _ H _ I h=>GH I hg hm ⟨v,H,I,r,h⟩ hd
theorem VR{x:Str}{v:V}{u:Value}{pos:Pos}(hg:Gl X x)(hm:X.mg x=none)(hv:bootBuiltins x=some u)(r:RelV v u)(hn:x≠"__name__":=by decide)(hd:(x==("__debug__":Str))=false:=by decide):PE X (.Name x pos) (tC v) :=
 fun _ _ _ H _ I h=>LO I hg hm hv ⟨v,H,I,r,h⟩ hn hd
variable {a b:Expr} {ta tb:TE} {pos:Pos}
def tB(t:TE):TT:=fun σ H Q=>t σ H fun x H1=>∃c,x = .bl c/\Q c H1
theorem Pa{e:Expr}{t:TE}(h:PE X e t)(he:∀whole,isTrue e X.env whole=(do let v <- whole;standAt e.pos;holding [v] (truthy v)):=by intro _;rfl):PT X e (tB t):=by
 intro pins s σ H Q I hw
 refine isTrue_plain (thn (h pins s σ H _ I hw) fun v s1 ⟨x,H1,I1,r1,q1⟩=>?_) (he _)
 obtain⟨d,rfl,q⟩:=q1
 cases r1
 exact wpAny_truthy_bool ⟨H1,I1,q⟩
variable {tA tB':TT} {A0:List Expr}
def aQ(t u:TT):TT:=fun σ H Q=>t σ H fun c H1=>if c=true then u σ H1 Q else Q false H1
def tOr(t u:TT):TT:=fun σ H Q=>t σ H fun c H1=>if c=true then Q true H1 else u σ H1 Q
def aO(t:TT):TT:=fun σ H Q=>t σ H fun c H1=>Q (!c) H1
theorem VC(ha:PT X a tA):PW X (.BoolOp .And [a] pos) tA:=by
 intro wh pins s σ H Q I h
 refine isTrue_and (thn (ha pins s σ H Q I h) fun c s1 e=>?_)
 cases c with
 |true=>exact isTrue_and_nil e
 |false=>exact e
theorem S0(ha:PT X a tA):PW X (.BoolOp .Or [a] pos) tA:=by
 intro wh pins s σ H Q I h
 refine isTrue_or (thn (ha pins s σ H Q I h) fun c s1 e=>?_)
 cases c with
 |false=>exact isTrue_or_nil e
 |true=>exact e
theorem Xv(ha:PT X a tA)(hb:PW X (.BoolOp .And (b::A0) pos) tB'):PW X (.BoolOp .And (a::b::A0) pos) (aQ tA tB'):=by
 intro wh pins s σ H Q I h
 refine isTrue_and (thn (ha pins s σ H _ I h) fun c s1 ⟨H1,I1,q1⟩=>?_)
 cases c with
 |true=>exact hb wh pins s1 σ H1 Q I1 q1
 |false=>exact⟨H1,I1,q1⟩
theorem W0(ha:PT X a tA)(hb:PW X (.BoolOp .Or (b::A0) pos) tB'):PW X (.BoolOp .Or (a::b::A0) pos) (tOr tA tB'):=by
 intro wh pins s σ H Q I h
 refine isTrue_or (thn (ha pins s σ H _ I h) fun c s1 ⟨H1,I1,q1⟩=>?_)
 cases c with
 |true=>exact⟨H1,I1,q1⟩
 |false=>exact hb wh pins s1 σ H1 Q I1 q1
theorem S7(ha:PT X a tA):PT X (.UnaryOp .Not a pos) (aO tA):=by
 intro pins s σ H Q I h
 exact isTrue_not (ha pins s σ H (fun c H1=>Q (!c) H1) I h)
def Ww(ta tb:TE):TE:=fun σ H Q=>ta σ H fun x H1=>∃c,x = .bl c/\if c=true then tb σ H1 Q else Q (.bl false) H1
def Wt(ta:TE):TE:=fun σ H Q=>ta σ H fun x H1=>∃c,x = .bl c/\Q (.bl (!c)) H1
theorem X3{op}{t:TE}(h:PE X a t):PE X (.BoolOp op [a] pos) t:=fun pins s σ H Q I hw=>BoolOp_one (h pins s σ H Q I hw)
theorem X5(ha:PE X a ta)(hb:PE X (.BoolOp .And (b::A0) pos) tb):PE X (.BoolOp .And (a::b::A0) pos) (Ww ta tb):=by
 intro pins s σ H Q I h
 refine BoolOp_and (thn (ha pins s σ H _ I h) fun v s1 ⟨x,H1,I1,r1,q1⟩=>?_)
 obtain⟨c,rfl,q1⟩:=q1
 cases r1
 refine wpAny_truthy_bool ?_
 cases c with
 |true=>exact hb pins s1 σ H1 Q I1 q1
 |false=>exact⟨.bl false,H1,I1,rfl,q1⟩
theorem X4(ha:PE X a ta):PE X (.UnaryOp .Not a pos) (Wt ta):=by
 intro pins s σ H Q I h
 refine UnaryOp_ (thn (ha pins s σ H _ I h) fun v s1 ⟨x,H1,I1,r1,q1⟩=>?_)
 obtain⟨c,rfl,q1⟩:=q1
 cases r1
 exact not_of (wpAny_truthy_bool ⟨.bl (!c),H1,I1,rfl,q1⟩)
def tIf(t:TT)(ta tb:TE):TE:=fun σ H Q=>t σ H fun c H1=>if c=true then ta σ H1 Q else tb σ H1 Q
theorem TU{c:Expr}(hc:PT X c tA)(ha:PE X a ta)(hb:PE X b tb):PE X (.IfExp c a b pos) (tIf tA ta tb):=by
 intro pins s σ H Q I h
 refine wpAny_IfExp (thn (hc pins s σ H _ I h) fun d s1 ⟨H1,I1,q1⟩=>?_)
 cases d with
 |true=>exact ha pins s1 σ H1 Q I1 q1
 |false=>exact hb pins s1 σ H1 Q I1 q1
end
end L2
namespace L2
open PySem PySem.Spec PyProof.Rows
def SqL(K:PySem.W.Frag)(H:Hp)(a:Addr)(xs:List V):Prop :=
 Rd H a (.lst xs) \/
  ∃(o:Obj) (its:Array Value) (n:Nat),K.lookup a=some o/\o.cls = .type "list"/\o.dict=none/\o.data = .seq its n/\its.size<=sizeLine/\Vals xs its.toList
def SqT(K:PySem.W.Frag)(H:Hp)(a:Addr)(xs:List V):Prop :=
 Rd H a (.tup xs) \/
  ∃(o:Obj) (its:Array Value) (n:Nat),K.lookup a=some o/\o.cls = .type "tuple"/\o.data = .seq its n/\its.size<=sizeLine/\Vals xs its.toList
def fJ:Value->Option V
 |.none=>some .non
 |.bool b=>some (.bl b)
 |.int i _=>some (.int i)
 |.str x _=>some (.str x)
 |.bytes b _=>some (.byt b)
 |.float b _=>some (.flt b)
 |.ref a=>some (.ref a)
 |.type n=>some (.ty n)
 |_=>none
theorem RelV.abs{x:V}{u:Value}(r:RelV x u):fJ u=some x:=by
 cases x with
 |non=>cases r;rfl
 |bl _=>cases r;rfl
 |int _=>obtain⟨t,rfl⟩:=r;rfl
 |str _=>obtain⟨t,rfl⟩:=r;rfl
 |byt _=>obtain⟨t,rfl⟩:=r;rfl
 |flt _=>obtain⟨t,rfl⟩:=r;rfl
 |ref _=>cases r;rfl
 |ty _=>cases r;rfl
theorem RelV.inj{x y:V}{u:Value}(r:RelV x u)(q:RelV y u):x=y:=Option.some.inj (r.abs.symm.trans q.abs)
theorem Vals.inj:∀{xs ys:List V} {us:List Value},Vals xs us->Vals ys us->xs=ys
 |_,_,_,.nil,.nil=>rfl
 |_,_,_,.cons r t,.cons r' t'=>by rw[r.inj r',Vals.inj t t']
section
variable {X:Cx} {pins:List (Addr×Obj)} {σ:St} {H:Hp} {s:Shared} {a:Addr} {xs ys:List V}
theorem SqL.of{K:PySem.W.Frag}(h:H a=some (.lst xs)):SqL K H a xs:=.inl (.inl h)
theorem SqT.of{K:PySem.W.Frag}(h:H a=some (.tup xs)):SqT K H a xs:=.inl (.inl h)
theorem Inv.list(I:Inv X pins σ H s)(h:SqL X.K H a xs):∃its:List Value,Vals xs its/\PlainL s.heap a its.toArray/\xs.length<=sizeLine:=by
 rcases h with h|⟨o,its,n,hk,hc,hd,hs,hz,r⟩
 ·obtain⟨z,its,n,r,e⟩:=h.ok I.hok
  exact⟨its,r,⟨_,n,e,rfl,rfl,rfl⟩,z⟩
 ·refine⟨its.toList,r,⟨o,n,I.kIn a o hk,hc,hd,by simpa using hs⟩,?_⟩
  have e:=r.length
  simp only[Array.length_toList]at e
  omega
theorem Inv.tuple(I:Inv X pins σ H s)(h:SqT X.K H a xs):∃its:List Value,Vals xs its/\IsTup s.heap a its.toArray/\xs.length<=sizeLine:=by
 rcases h with h|⟨o,its,n,hk,hc,hs,hz,r⟩
 ·obtain⟨z,its,r,p⟩:=h.ok I.hok
  exact⟨its,r,p,z⟩
 ·refine⟨its.toList,r,⟨o,I.kIn a o hk,hc,n,by simpa using hs⟩,?_⟩
  have e:=r.length
  simp only[Array.length_toList]at e
  omega
theorem Inv.list_inj(I:Inv X pins σ H s)(h:SqL X.K H a xs)(h':SqL X.K H a ys):xs=ys:=by
 obtain⟨its,r,⟨o,n,e,_,_,d⟩,_⟩:=I.list h
 obtain⟨its',r',⟨o',n',e',_,_,d'⟩,_⟩:=I.list h'
 rw[e]at e';cases e'
 rw[d]at d'
 injection d' with d1 _
 have:its=its':=by simpa using congrArg Array.toList d1
 subst this
 exact r.inj r'
theorem Inv.tuple_inj(I:Inv X pins σ H s)(h:SqT X.K H a xs)(h':SqT X.K H a ys):xs=ys:=by
 obtain⟨its,r,⟨o,e,_,n,d⟩,_⟩:=I.tuple h
 obtain⟨its',r',⟨o',e',_,n',d'⟩,_⟩:=I.tuple h'
 rw[e]at e';cases e'
 rw[d]at d'
 injection d' with d1 _
 have:its=its':=by simpa using congrArg Array.toList d1
 subst this
 exact r.inj r'
end
abbrev Cx.wish(X:Cx)(E:Value->Shared->Prop):Cx:={ X with xe:=E }
abbrev Cx.nox(X:Cx):Cx:=X.wish fun _ _=>False
theorem Cx.Ok.wish{X:Cx}(ok:X.Ok)(E:Value->Shared->Prop):(X.wish E).Ok :=
 ⟨ok.mod,ok.kind,ok.glob,ok.blt,ok.above,ok.inj,ok.has,ok.cab,ok.hd,ok.frames,ok.stk,ok.exf,ok.bs,ok.bsz,ok.noex,ok.exfs,ok.funs,ok.frf⟩
theorem Cx.Ok.unwish{X:Cx}{E:Value->Shared->Prop}(ok:(X.wish E).Ok):X.Ok :=
 ⟨ok.mod,ok.kind,ok.glob,ok.blt,ok.above,ok.inj,ok.has,ok.cab,ok.hd,ok.frames,ok.stk,ok.exf,ok.bs,ok.bsz,ok.noex,ok.exfs,ok.funs,ok.frf⟩
section
variable {X:Cx} {pins:List (Addr×Obj)} {σ:St} {H:Hp} {s:Shared} {E:Value->Shared->Prop}
theorem Inv.wish(I:Inv X pins σ H s)(E:Value->Shared->Prop):Inv (X.wish E) pins σ H s:=⟨I.ok.wish E,I.os,I.bare,I.base,I.loc,I.cell,I.free,I.freeC,I.pin,I.hok,I.len⟩
theorem Inv.unwish(I:Inv (X.wish E) pins σ H s):Inv X pins σ H s:=⟨I.ok.unwish,I.os,I.bare,I.base,I.loc,I.cell,I.free,I.freeC,I.pin,I.hok,I.len⟩
theorem SP.unwish{D:Lo}{f:Flow}{s':Shared}(h:SP (X.wish E) pins D f s'):SP X pins D f s':=by
 cases f with
 |next=>obtain⟨σ',H',I,q⟩:=h;exact⟨σ',H',I.unwish,q⟩
 |brk=>obtain⟨σ',H',I,q⟩:=h;exact⟨σ',H',I.unwish,q⟩
 |cont=>obtain⟨σ',H',I,q⟩:=h;exact⟨σ',H',I.unwish,q⟩
 |ret u=>obtain⟨v,σ',H',I,r,q⟩:=h;exact⟨v,σ',H',I.unwish,r,q⟩
theorem PSs.nox{st:List Stmt}{t:TS}(h:PSs X.nox st t):PSs X st t:=fun pins s σ H D I hw =>
 wpAny_mono (h pins s σ H D (I.wish _) hw) (fun _ _ q=>q.unwish) fun _ _ z=>False.elim z
end
section
variable {X:Cx} {st:Stmt} {A0:List Stmt} {t u:TS} {e:Expr} {te:TE} {pos:Pos}
def Wu:TS:=fun D σ H=>D.nx σ H
def SY(t u:TS):TS:=fun D σ H=>t { D with nx:=u D } σ H
theorem Mu:PSs X [] Wu:=fun _ _ σ H _ I h=>wpAny_execs_nil ⟨σ,H,I,h⟩
theorem Dg(h1:PS X st t)(h2:PSs X A0 u):PSs X (st::A0) (SY t u):=by
 intro pins s σ H D I h
 refine wpAny_execs_cons (thn (h1 pins s σ H { D with nx:=u D } I h) fun f s1 q=>?_)
 cases f with
 |next =>
  obtain⟨σ',H',I',q⟩:=q
  exact h2 pins s1 σ' H' D I' q
 |ret v=>exact q
 |brk=>exact q
 |cont=>exact q
theorem Ig(h1:PS X st t):PSs X [st] t:=by
 intro pins s σ H D I h
 refine wpAny_execs_cons (thn (h1 pins s σ H D I h) fun f s1 q=>?_)
 cases f with
 |next=>exact wpAny_execs_nil q
 |ret v=>exact q
 |brk=>exact q
 |cont=>exact q
theorem Inv.quiet{pins:List (Addr×Obj)}{σ:St}{H:Hp}{s:Shared}(I:Inv X pins σ H s):interactive X.env=false:=by simp[interactive,I.ok.kind]
def Sf(te:TE):TS:=fun D σ H=>te σ H fun _ H1=>D.nx σ H1
theorem Qd(he:PE X e te)(hs:swapsWith e none pos.line X.env=pure false:=by rfl):PS X (.Expr e pos) (Sf te):=by
 intro pins s σ H D I h
 exact wpAny_Expr_any (thn (he pins s σ H _ I h) fun v s1 ⟨x,H1,I1,r1,q1⟩=>⟨σ,H1,I1,q1⟩) I.quiet hs
def Sb(te:TE):TS:=fun D σ H=>te σ H D.rt
theorem JN(he:PE X e te):PS X (.Return (some e) pos) (Sb te):=by
 intro pins s σ H D I h
 exact wpAny_Return_some (thn (he pins s σ H _ I h) fun v s1 ⟨x,H1,I1,r1,q1⟩=>⟨x,σ,H1,I1,r1,q1⟩)
def Wr:TS:=fun D _ H=>D.rt .non H
theorem VG:PS X (.Return none pos) Wr:=fun _ _ σ H _ I h=>wpAny_Return_none ⟨.non,σ,H,I,rfl,h⟩
def Xm(c:TT)(t u:TS):TS:=fun D σ H=>c σ H fun b H1=>if b=true then t D σ H1 else u D σ H1
theorem TH{c:Expr}{a b:List Stmt}{tc:TT}(hc:PT X c tc)(ha:PSs X a t)(hb:PSs X b u):PS X (.If c a b pos) (Xm tc t u):=by
 intro pins s σ H D I h
 refine wpAny_If (thn (hc pins s σ H _ I h) fun d s1 ⟨H1,I1,q1⟩=>?_)
 cases d with
 |true=>exact ha pins s1 σ H1 D I1 q1
 |false=>exact hb pins s1 σ H1 D I1 q1
def Sd:TS:=fun _ _ _=>False
theorem TF:PS X st Sd:=fun _ _ _ _ _ _ h=>h.elim
end
abbrev TG:=V->St->Hp->(St->Hp->Prop)->Prop
abbrev TGs:=List V->St->Hp->(St->Hp->Prop)->Prop
def PG(X:Cx)(target:Expr)(t:TG):Prop :=
 ∀(pins:List (Addr×Obj)) (s:Shared) (σ:St) (H:Hp) (v:V) (u:Value) (Q:St->Hp->Prop),Inv X pins σ H s->RelV v u->t v σ H Q ->
  wpAny (model X.prog X.w) X.A (assign target X.env u) (fun _ s'=>∃σ' H',Inv X pins σ' H' s'/\Q σ' H') X.xe s
def PGs(X:Cx)(ts:List Expr)(t:TGs):Prop :=
 ∀(pins:List (Addr×Obj)) (s:Shared) (σ:St) (H:Hp) (vs:List V) (us:List Value) (Q:St->Hp->Prop),Inv X pins σ H s->Vals vs us->t vs σ H Q ->
  wpAny (model X.prog X.w) X.A (assignInOrder ((assignEach ts X.env).map (·.2)) us) (fun _ s'=>∃σ' H',Inv X pins σ' H' s'/\Q σ' H') X.xe s
abbrev Wj:=V->V->V->Hp->(Hp->Prop)->Prop
def Z6(X:Cx)(t:Wj):Prop :=
 ∀(pins:List (Addr×Obj)) (s:Shared) (σ:St) (H:Hp) (o i v:V) (ov iv u:Value) (Q:Hp->Prop),Inv X pins σ H s->RelV o ov->RelV i iv->RelV v u->t o i v H Q ->
  wpAny (model X.prog X.w) X.A (setItem ov iv u) (fun _ s'=>∃H',Inv X pins σ H' s'/\Q H') X.xe s
abbrev TIp:=V->V->Hp->VK->Prop
def PIp(X:Cx)(op:Operator)(t:TIp):Prop :=
 ∀(pins:List (Addr×Obj)) (s:Shared) (σ:St) (H:Hp) (x y:V) (v u:Value) (Q:VK),Inv X pins σ H s->RelV x v->RelV y u->t x y H Q ->
  wpAny (model X.prog X.w) X.A (inplaceOp op v u) (EP X pins σ Q) X.xe s
section
variable {X:Cx} {pos:Pos}
def Gb(i:Nat):TG:=fun v σ H Q=>Q (σ.set i (some v)) H
theorem Qf{i:Nat}{x:Str}(hN:X.N.Nodup)(hi:X.N[i]?=some x)(hx:Loc X.env.scope x)(hf:X.fn x=true\/X.env.scope.names.lookup x=some .local:=by first|exact .inl rfl|exact .inr rfl|assumption):PG X (.Name x pos) (Gb i):=by
 intro pins s σ H v u Q I r h
 exact wpAny_assign_Name (Fi I hN hi hx r (fun s' I'=>⟨_,H,I',h⟩) hf)
def bX:TGs:=fun vs σ H Q=>vs=[]/\Q σ H
def XC(t:TG)(u:TGs):TGs:=fun vs σ H Q=>∃v r,vs=v::r/\t v σ H fun σ' H'=>u r σ' H' Q
theorem VP:PGs X [] bX:=by
 intro pins s σ H vs us Q I r h
 obtain⟨e,h⟩:=h
 subst e
 cases r
 exact assignInOrder_nil ⟨σ,H,I,h⟩
theorem TQ{e:Expr}{es:List Expr}{t:TG}{u:TGs}(h1:PG X e t)(h2:PGs X es u)
  (hs:(assignEach (e::es) X.env).map (·.2)=assign e X.env::(assignEach es X.env).map (·.2):=by rfl):PGs X (e::es) (XC t u):=by
 intro pins s σ H vs us Q I r h
 obtain⟨v,vr,e1,h⟩:=h
 subst e1
 cases r with
 |cons r rr =>
  rw[hs]
  refine assignInOrder_cons (thn (h1 pins s σ H _ _ _ I r h) fun _ s1 ⟨σ1,H1,I1,q1⟩=>?_)
  exact h2 pins s1 σ1 H1 _ _ Q I1 rr q1
def Vv(K:PySem.W.Frag)(n:Nat)(t:TGs):TG:=fun v σ H Q=>∃a xs,v = .ref a/\SqT K H a xs/\xs.length=n/\t xs σ H Q
theorem X1{es:List Expr}{k:Nat}{t:TGs}{n:Nat}(hc:X.calm=true)(h:PGs X es t)
  (hn:(assignEach es X.env).length=n:=by rfl) (hst:(assignEach es X.env).findIdx? (·.1)=none:=by rfl):PG X (.Tuple es k pos) (Vv X.K n t):=by
 intro pins s σ H v u Q I r hw
 obtain⟨a,xs,e1,hq,hl,hw⟩:=hw
 subst e1
 cases r
 obtain⟨its,rv,ht,hz⟩:=I.tuple hq
 refine assign_Tuple_tuple (I.ok.hd hc) ht (by simp[hn,<- hl,rv.length]) hst fun h' hx=>?_
 have I1:Inv X pins σ H { s with heap:=h' }:=I.kept (t':=s.toks) fun b o e=>hx b o (Nat.ne_of_lt (Heap.lt_size e)) e
 exact h pins _ σ H xs _ Q I1 (by simpa using rv) hw
def Yd(to ti:TE)(t:Wj):TG:=fun v σ H Q=>to σ H fun o H1=>ti σ H1 fun i H2=>t o i v H2 fun H3=>Q σ H3
theorem X2{o i:Expr}{to ti:TE}{t:Wj}(ho:PE X o to)(hi:PE X i ti)(hs:Z6 X t)
  (ha : ∀ v, assign (.Subscript o i pos) X.env v = (do
   let ov <- holding [v] (eval o X.env)
   let iv <- holding [v,ov] (eval i X.env)
   standAt pos
   holding [v,ov,iv] (setItem ov iv v)
   release [v,ov,iv] []):=by intro _;rfl):PG X (.Subscript o i pos) (Yd to ti t):=by
 intro pins s σ H v u Q I r h
 rw[ha]
 refine wpAny_bind (wpAny_holding (thn (ho pins s σ H _ I h) fun ov s1 ⟨x,H1,I1,r1,q1⟩=>?_))
 refine wpAny_bind (wpAny_holding (thn (hi pins s1 σ H1 _ I1 q1) fun iv s2 ⟨y,H2,I2,r2,q2⟩=>?_))
 refine wpAny_bind (wpAny_standAt (wpAny_bind (wpAny_holding (thn (hs pins s2 σ H2 x y v ov iv u _ I2 r1 r2 r q2) fun _ s3 ⟨H3,I3,q3⟩=>?_))))
 exact wpAny_release ⟨σ,H3,I3,q3⟩
def Ko(te:TE)(g:TG):TS:=fun D σ H=>te σ H fun x H1=>g x σ H1 D.nx
theorem TJ{tg e:Expr}{te:TE}{g:TG}(he:PE X e te)(hg:PG X tg g)(hs:swapsWithSole [tg] e pos.line X.env=pure false:=by rfl)(hw:swappedStores [tg] e X.env=pure none:=by rfl)
  (h1:(assignEach [tg] X.env).map (·.2)=[assign tg X.env]:=by rfl):PS X (.Assign [tg] e pos) (Ko te g):=by
 intro pins s σ H D I h
 refine wpAny_Assign_stores (thn (he pins s σ H _ I h) fun v s1 ⟨x,H1,I1,r1,q1⟩=>?_) hs hw
 rw[h1]
 exact thn (hg pins s1 σ H1 x v _ I1 r1 q1) fun _ s2 q=>q
theorem Hx{i:Nat}{x:Str}{e:Expr}{te:TE}{pos':Pos}(hN:X.N.Nodup)(hi:X.N[i]?=some x)(hx:Loc X.env.scope x)(he:PE X e te)(hs:swapsWith e (some (.Name x pos')) pos.line X.env=pure false:=by rfl)(hf:X.fn x=true\/X.env.scope.names.lookup x=some .local:=by first|exact .inl rfl|exact .inr rfl|assumption) :
  PS X (.Assign [.Name x pos'] e pos) (Ko te (Gb i)):=by
 intro pins s σ H D I h
 refine wpAny_Assign_Name (thn (he pins s σ H _ I h) fun v s1 ⟨y,H1,I1,r1,q1⟩=>?_) hs
 exact Fi I1 hN hi hx r1 (fun s2 I2=>⟨_,H1,I2,q1⟩) hf
def aN(i j:Nat)(ta:TA):TS:=fun D σ H=>ta σ H fun vs H1=>∃v w,vs=[v,w]/\D.nx ((σ.set i (some v)).set j (some w)) H1
theorem Xx{i j:Nat}{x y:Str}{a b:Expr}{ta:TA}{px py pt:Pos}{kt k2 pt2}(hc:X.calm=true)(hN:X.N.Nodup)(hi:X.N[i]?=some x)(hj:X.N[j]?=some y)(hij:i≠j)
  (hx:X.env.scope.names.lookup x=some .local) (hy:X.env.scope.names.lookup y=some .local) (ha:PA X [a,b] ta)
  (hw:swappedStores [.Tuple [.Name x px,.Name y py] kt pt] (.Tuple [a,b] k2 pt2) X.env=pure (some [x,y]))
  (hs:swapsWithSole [.Tuple [.Name x px,.Name y py] kt pt] (.Tuple [a,b] k2 pt2) pos.line X.env=pure false:=by rfl) :
  PS X (.Assign [.Tuple [.Name x px,.Name y py] kt pt] (.Tuple [a,b] k2 pt2) pos) (aN i j ta):=by
 intro pins s σ H D I h
 rw[exec_Assign_arm]
 refine wpAny_bind (wpAny_standAt ?_)
 rw[hs]
 refine wpAny_bind (wpAny_pure ?_)
 rw[if_neg (by decide)]
 refine wpAny_bind (Tuple_ (thn (ha _ pins s σ H _ I h) fun us s1 ⟨vs,H1,I1,r1,q1⟩=>?_))
 obtain⟨v,w,e1,q1⟩:=q1
 subst e1
 obtain⟨u1,u2,rfl,rv,rw'⟩:∃u1 u2,us=[u1,u2]/\RelV v u1/\RelV w u2:=by
  cases r1 with
  |cons p q =>
   cases q with
   |cons p' q' =>
    cases q'
    exact⟨_,_,rfl,p,p'⟩
 refine wpAny_newObj_type ?_ (by show 2<=sizeLine;decide)
 have I2:Inv X pins σ H1 { s1 with heap:=s1.heap.push { cls:=.type "tuple",data:=.seq [u1,u2].toArray } }:=I1.kept (t':=s1.toks) fun b o e=>Heap.get?_push_of_some _ e
 rw[hw]
 refine wpAny_bind (wpAny_pure ?_)
 show wpAny (model X.prog X.w) X.A (do rule "assign.swapped-stores";let items <- unpackItems (.ref s1.heap.objs.size) 2 none;assignInOrder [fun v=>bindName X.env y v,fun v=>bindName X.env x v] items.reverse;pure Flow.next) _ _ _
 refine wpAny_bind (wpAny_rule (wpAny_bind (unpackItems_tuple (items:=#[u1,u2]) (I.ok.hd hc) (IsTup.new s1.heap _) fun h' hx'=>?_)))
 have I3:=I2.kept (h':=h') (t':=s1.toks) fun b o e=>hx' b o (Nat.ne_of_lt (Heap.lt_size e)) e
 show wpAny _ _ (assignInOrder [fun v=>bindName X.env y v,fun v=>bindName X.env x v] [u2,u1] >>= fun _=>pure Flow.next) _ _ _
 refine wpAny_bind (assignInOrder_cons (wpAny_bindName (Fi I3 hN hj (.inl hy) rw' (fun s2 I4=>?_) (.inr hy))))
 refine assignInOrder_cons (wpAny_bindName (Fi I4 hN hi (.inl hx) rv (fun s3 I5=>assignInOrder_nil (wpAny_pure ?_)) (.inr hx)))
 rw[List.set_comm _ _ (Ne.symm hij)]at I5
 exact⟨_,H1,I5,q1⟩
def aP(i:Nat)(te:TE)(ti:TIp):TS:=fun D σ H=>∃x,σ[i]?=some (some x)/\te σ H fun y H1=>ti x y H1 fun z H2=>D.nx (σ.set i (some z)) H2
theorem Xy{i:Nat}{x:Str}{e:Expr}{te:TE}{op:Operator}{ti:TIp}{pos':Pos}(hN:X.N.Nodup)(hi:X.N[i]?=some x)(hx:Loc X.env.scope x)(he:PE X e te)(ho:PIp X op ti)(hf:X.fn x=true\/X.env.scope.names.lookup x=some .local:=by first|exact .inl rfl|exact .inr rfl|assumption) :
  PS X (.AugAssign (.Name x pos') op e pos) (aP i te ti):=by
 intro pins s σ H D I h
 obtain⟨v,e1,h⟩:=h
 obtain⟨m,hn,hl⟩:=I.loc
 have vis:Vis X.env.scope x:=by rcases hx with k|k;exact .inl k;exact .inr (.inl k)
 obtain⟨u,r,l⟩:=hl i x v hi e1 vis
 refine wpAny_AugAssign_Name ?_
 have go:wpAny (model X.prog X.w) X.A (eval e X.env) (fun w s₂=>wpAny (model X.prog X.w) X.A (inplaceOp op u w) (fun r s₃=>wpAny (model X.prog X.w) X.A (storeName X.env x r) (fun _=>SP X pins D .next) X.xe s₃) X.xe s₂) X.xe s:=by
  refine thn (he pins s σ H _ I h) fun w s1 ⟨y,H1,I1,r1,q1⟩=>?_
  refine thn (ho pins s1 σ H1 v y u w _ I1 r r1 q1) fun z s2 ⟨zv,H2,I2,r2,q2⟩=>?_
  exact Fi I2 hN hi hx r2 (fun s3 I3=>⟨_,H2,I3,q2⟩) hf
 rcases l with ⟨hk,hm⟩|⟨hk,c,hc,hcell⟩
 ·exact wpAny_loadName_local I.ok.kind hk hn hm go
 ·rcases hk with hk|hk
  ·exact wpAny_loadName_cell I.ok.kind hk hc hcell go
  ·rcases hx with k|k
   ·have:X.env.scope.names.lookup x=some .free:=hk
    rw[k]at this;cases this
   ·have:X.env.scope.names.lookup x=some .free:=hk
    rw[k]at this;cases this
def ipI(f:Int->Int->Int):TIp:=fun x y H Q=>∃i j,x = .int i/\y = .int j/\Q (.int (f i j)) H
theorem YY:PIp X .Add (ipI fun i j=>i+j):=by
 intro pins s σ H x y v u Q I r1 r2 h
 obtain⟨i,j,e1,e2,q⟩:=h
 subst e1;subst e2
 obtain⟨t,rfl⟩:=r1
 obtain⟨t',rfl⟩:=r2
 exact iadd_int ⟨.int _,H,I.tok _,⟨_,rfl⟩,q⟩
end
section
variable {X:Cx} {pos:Pos}
def SX(c:TT)(tb:TS):TS:=fun D σ H=>∃W:Nat->St->Hp->Prop,(∃m,W m σ H)/\∀m σ H,W m σ H ->
 c σ H fun b H1=>if b=true then ∃N:St->Hp->Prop,(∀σ' H',N σ' H'->∃m',m'<m/\W m' σ' H')/\tb { D with nx:=N,ct:=N,bk:=D.nx } σ H1 else D.nx σ H1
theorem S9{c:Expr}{body:List Stmt}{tc:TT}{tb:TS}(hp:PassesOwn (model X.prog X.w) X.A X.env X.xe)(hc:PT X c tc)(hb:PSs X body tb):PS X (.While c body [] pos) (SX tc tb):=by
 intro pins s σ H D I h
 obtain⟨W,⟨m0,w0⟩,turn⟩:=h
 refine wpAny_While (codeAny_whileLoop (fun n s'=>∃σ' H',Inv X pins σ' H' s'/\W n σ' H') ?_ m0 ⟨σ,H,I,w0⟩)
 rintro n s1 ⟨σ1,H1,I1,w1⟩
 refine wpAny_passesOwn hp (thn (hc pins s1 σ1 H1 _ I1 (turn n σ1 H1 w1)) fun b s2 ⟨H2,I2,q2⟩=>?_)
 cases b with
 |true =>
  obtain⟨N,hN,q2⟩:=q2
  rw[if_pos rfl]
  refine wpAny_passesOwn hp (thn (hb pins s2 σ1 H2 _ I2 q2) fun f s3 q3=>?_)
  cases f with
  |next =>
   obtain⟨σ3,H3,I3,n3⟩:=q3
   obtain⟨m',hm,w3⟩:=hN σ3 H3 n3
   exact⟨m',hm,σ3,H3,I3,w3⟩
  |cont =>
   obtain⟨σ3,H3,I3,n3⟩:=q3
   obtain⟨m',hm,w3⟩:=hN σ3 H3 n3
   exact⟨m',hm,σ3,H3,I3,w3⟩
  |brk=>exact q3
  |ret v=>exact q3
 |false =>
  rw[if_neg Bool.false_ne_true]
  exact wpAny_execs_nil ⟨σ1,H2,I2,q2⟩
end
structure It where
 go:Nat->Hp->Prop
 yld:Nat->Hp->V->Hp->Prop
 stop:Nat->Hp->Prop
def IM(X:Cx)(pins:List (Addr×Obj))(H:Hp)(b:Addr):Prop :=
 H b=none/\b≠X.env.locals/\b∉X.fs/\(b∈X.ex\/X.s₀.heap.objs.size<=b)/\(∀x c,X.env.cells.lookup x=some c->c≠b)/\∀p∈X.pn++pins,p.1≠b
theorem Inv.fpOk{X:Cx}{pins:List (Addr×Obj)}{σ:St}{H H':Hp}{s:Shared}{b:Addr}(I:Inv X pins σ H s)(hb:s.heap.objs.size<=b)(hn:H' b=none):IM X pins H' b:=by
 refine⟨hn,Nat.ne_of_gt (Nat.lt_of_lt_of_le I.lt hb),I.nofs hb,.inr (Nat.le_trans I.sz hb),fun x c e z=>?_,fun p hp z=>?_⟩
 ·obtain⟨v,q⟩:=I.cell x c e
  exact absurd (Nat.lt_of_lt_of_le q.lt (by rw[z];exact hb)) (Nat.lt_irrefl _)
 ·exact absurd (Nat.lt_of_lt_of_le (Heap.lt_size (I.pin p hp).1) (by rw[z];exact hb)) (Nat.lt_irrefl _)
structure Turn(P:Program)(w:World)(K:PySem.W.Frag)(tg:Expr)(J:It)(fp:List Addr)(it:Addr)(tn:Nat->Heap->Prop):Prop where
 mem:it∈fp
 obj:∀i h,tn i h->∀b∈fp,∃o,h.get? b=some o/\∀v,o.data≠.cell v
 keep:∀i h h',tn i h->(∀b∈fp,∀o,h.get? b=some o->h'.get? b=some o)->tn i h'
 item:∀(X:Cx),X.prog=P->X.w=w->X.K=K->X.calm=true->∀(i:Nat) (pins:List (Addr×Obj)) (s:Shared) (σ:St) (H:Hp) (E:Value->Shared->Prop),Inv X pins σ H s->(∀b∈fp,IM X pins H b)->tn i s.heap->J.go i H ->
  wpAny (model P w) X.A (pyNext (.ref it)) (fun r s1 => ∃ u, r = some u /\
   wpAny (model P w) X.A (letOwnedTupleGo tg (.ref it) u) (fun _ s2=>∃x H',Inv X pins σ H' s2/\RelV x u/\J.yld i H x H'/\tn (i+1) s2.heap/\∀b∈fp,H' b=none) E s1) E s
 done:∀(X:Cx),X.prog=P->X.w=w->X.K=K->X.calm=true->∀(i:Nat) (pins:List (Addr×Obj)) (s:Shared) (σ:St) (H:Hp) (E:Value->Shared->Prop),Inv X pins σ H s->(∀b∈fp,IM X pins H b)->tn i s.heap->J.stop i H ->
  wpAny (model P w) X.A (pyNext (.ref it)) (fun r s1=>r=none/\Inv X pins σ H s1) E s
 self:∀(A:Around) (i:Nat) (s:Shared) (Q:Value->Shared->Prop) (E:Value->Shared->Prop),tn i s.heap->Q (.ref it) s->wpAny (model P w) A (pyIter (.ref it)) Q E s
abbrev TI:=St->Hp->(It->Hp->Prop)->Prop
def PIE(X:Cx)(pins:List (Addr×Obj))(σ:St)(tg:Expr)(R:It->Hp->Prop)(itv:Value)(s2:Shared):Prop :=
 ∃(it:Addr) (fp:List Addr) (tn:Nat->Heap->Prop) (J:It) (H':Hp),itv = .ref it/\Inv X pins σ H' s2/\Turn X.prog X.w X.K tg J fp it tn/\tn 0 s2.heap/\(∀b∈fp,IM X pins H' b)/\R J H'
def PI(X:Cx)(tg iter:Expr)(wi:TI):Prop :=
 ∀(pins:List (Addr×Obj)) (s:Shared) (σ:St) (H:Hp) (R:It->Hp->Prop),Inv X pins σ H s->wi σ H R ->
  wpAny (model X.prog X.w) X.A (eval iter X.env) (fun v s1=>wpAny (model X.prog X.w) X.A (pyIter v) (PIE X pins σ tg R) X.xe s1) X.xe s
theorem Ol{M:Model}{A:Around}{E:Value->Shared->Prop}{s:Shared}{tg:Expr}{it:Addr}{u:Value}{o:Obj}{n:String}{vs:Array Value}{Q:Unit->Shared->Prop}(ho:s.heap.get? it=some o)(hc:o.cls = .type n)(hd:o.data = .fields vs)
    (hn:["enumerate","zip","dict_itemiterator","dict_reverseitemiterator","odict_iterator","itertools.zip_longest","itertools.pairwise"].contains n=false) (hQ:Q () s):wpAny M A (letOwnedTupleGo tg (.ref it) u) Q E s:=by
  unfold letOwnedTupleGo
  cases tg<;>first
    |exact wpAny_pure hQ
    | (cases u <;> first
        |exact wpAny_pure hQ
        | (refine wpAny_bind (wpAny_load ho ?_)
           rw[hc,hd]
           show wpAny M A (if (["enumerate","zip","dict_itemiterator","dict_reverseitemiterator","odict_iterator","itertools.zip_longest","itertools.pairwise"].contains n&&vs[0]?==some (rawInt _))=true then _ else _) Q E s
           rw[if_neg (by intro h;rw[hn,Bool.false_and]at h;cases h)]
           exact wpAny_pure hQ))
def Itl(K:PySem.W.Frag)(a:Addr):It :=
 ⟨fun i H=>∃xs x,SqL K H a xs/\xs[i]?=some x,fun i H x H'=>H'=H/\∀xs,SqL K H a xs->xs[i]?=some x,fun i H=>∃xs,SqL K H a xs/\xs.length<=i⟩
def Itt(K:PySem.W.Frag)(a:Addr):It :=
 ⟨fun i H=>∃xs x,SqT K H a xs/\xs[i]?=some x,fun i H x H'=>H'=H/\∀xs,SqT K H a xs->xs[i]?=some x,fun i H=>∃xs,SqT K H a xs/\xs.length<=i⟩
def Itr(lo:Int)(n:Nat):It:=⟨fun i _=>i<n,fun i H x H'=>H'=H/\x = .int (lo+i),fun i _=>n<=i⟩
theorem JI{P:Program}{w:World}{K:PySem.W.Frag}{tg:Expr}(a it:Addr):Turn P w K tg (Itl K a) [it] it (fun i h=>h.IsListIter it a i) where
 mem:=by simp
 obj:=fun i h st b hb=>by
  have e:b=it:=by simpa using hb
  subst e
  obtain⟨o,e,c,d⟩:=st
  exact⟨o,e,fun v z=>by rw[d]at z;cases z⟩
 keep:=fun i h h' st k=>st.at fun o e=>k it (by simp) o e
 item:=by
  intro X hP hw hK hc i pins s σ H E I hf st hg
  subst hP hw hK
  obtain⟨xs,x,hq,hx⟩:=hg
  obtain⟨its,rv,p,hz⟩:=I.list hq
  obtain⟨u,hu,ru⟩:=rv.get hx
  obtain⟨f0,f1,f2,f3,f4,f5⟩:=hf it (by simp)
  refine wpAny_pyNext_list_item st p.isList (x:=u) (by simpa using hu) fun h' st' sb=>?_
  have I1:Inv X pins σ H { s with heap:=h' }:=I.turned (t':=s.toks) (fun b o hb e=>(sb.2 b hb).trans e) f0 f1 f3 f4 f5
  obtain⟨o,e,c,d⟩:=id st'
  exact⟨u,rfl,Ol (s:={ s with heap:=h' }) e c d (by decide) ⟨x,H,I1,ru,⟨rfl,fun ys hy=>by rw[I.list_inj hy hq];exact hx⟩,st',fun b hb=>(hf b hb).1⟩⟩
 done:=by
  intro X hP hw hK hc i pins s σ H E I hf st hg
  subst hP hw hK
  obtain⟨xs,hq,hx⟩:=hg
  obtain⟨its,rv,p,hz⟩:=I.list hq
  obtain⟨f0,f1,f2,f3,f4,f5⟩:=hf it (by simp)
  have hl:=rv.length
  exact wpAny_pyNext_list_end (I.ok.hd hc) st p.isList (by simp;omega) fun h' eb=>⟨rfl,I.turned (t':=s.toks) (fun b o hb e=>eb b o hb e) f0 f1 f3 f4 f5⟩
 self:=fun _ _ _ _ _ st h=>wpAny_pyIter_listiter st h
theorem PM{P:Program}{w:World}{K:PySem.W.Frag}{tg:Expr}(a it:Addr):Turn P w K tg (Itt K a) [it] it (fun i h=>h.IsTupleIter it a i) where
 mem:=by simp
 obj:=fun i h st b hb=>by
  have e:b=it:=by simpa using hb
  subst e
  obtain⟨o,e,c,d⟩:=st
  exact⟨o,e,fun v z=>by rw[d]at z;cases z⟩
 keep:=fun i h h' st k=>st.at fun o e=>k it (by simp) o e
 item:=by
  intro X hP hw hK hc i pins s σ H E I hf st hg
  subst hP hw hK
  obtain⟨xs,x,hq,hx⟩:=hg
  obtain⟨its,rv,p,hz⟩:=I.tuple hq
  obtain⟨u,hu,ru⟩:=rv.get hx
  obtain⟨f0,f1,f2,f3,f4,f5⟩:=hf it (by simp)
  refine wpAny_pyNext_tuple_item st (show s.heap.IsTuple a its.toArray from p) (x:=u) (by simpa using hu) fun h' st' sb=>?_
  have I1:Inv X pins σ H { s with heap:=h' }:=I.turned (t':=s.toks) (fun b o hb e=>(sb.2 b hb).trans e) f0 f1 f3 f4 f5
  obtain⟨o,e,c,d⟩:=id st'
  exact⟨u,rfl,Ol (s:={ s with heap:=h' }) e c d (by decide) ⟨x,H,I1,ru,⟨rfl,fun ys hy=>by rw[I.tuple_inj hy hq];exact hx⟩,st',fun b hb=>(hf b hb).1⟩⟩
 done:=by
  intro X hP hw hK hc i pins s σ H E I hf st hg
  subst hP hw hK
  obtain⟨xs,hq,hx⟩:=hg
  obtain⟨its,rv,p,hz⟩:=I.tuple hq
  obtain⟨f0,f1,f2,f3,f4,f5⟩:=hf it (by simp)
  have hl:=rv.length
  exact wpAny_pyNext_tuple_end (I.ok.hd hc) st (show s.heap.IsTuple a its.toArray from p) (by simp;omega) fun h' eb=>⟨rfl,I.turned (t':=s.toks) (fun b o hb e=>eb b o hb e) f0 f1 f3 f4 f5⟩
 self:=fun _ _ _ _ _ st h=>wpAny_pyIter_tupleiter st h
theorem PN{P:Program}{w:World}{K:PySem.W.Frag}{tg:Expr}(it:Addr)(lo:Int)(n:Nat):Turn P w K tg (Itr lo n) [it] it (fun i h=>IsRangeIter h it (lo+(i:Nat)*1) ((n:Int)-(i:Nat)) 1) where
 mem:=by simp
 obj:=fun i h st b hb=>by
  have e:b=it:=by simpa using hb
  subst e
  exact ⟨_, st, fun v z => by
   have z':Data.fields _=Data.cell v:=z
   cases z'⟩
 keep:=fun i h h' st k=>k it (by simp) _ st
 item:=by
  intro X hP hw hK hc i pins s σ H E I hf st hg
  subst hP hw hK
  obtain⟨f0,f1,f2,f3,f4,f5⟩:=hf it (by simp)
  have W:=Walks.range (prog:=X.prog) (w:=X.w) (I.ok.hd hc) it lo 1 n
  refine W.item i s _ _ hg st fun v h' tk hv st' kk=>?_
  obtain⟨t,rfl⟩:=hv
  have I1:Inv X pins σ H { s with heap:=h',toks:=tk }:=I.turned (fun b o hb e=>kk b o (by simpa using hb) e) f0 f1 f3 f4 f5
  refine⟨_,rfl,Ol (s:={ s with heap:=h',toks:=tk }) (n:="range_iterator") st' rfl rfl (by decide) ⟨.int (lo+i),H,I1,⟨t,?_⟩,⟨rfl,rfl⟩,st',fun b hb=>(hf b hb).1⟩⟩
  rw[Int.mul_one]
 done:=by
  intro X hP hw hK hc i pins s σ H E I hf st hg
  subst hP hw hK
  obtain⟨f0,f1,f2,f3,f4,f5⟩:=hf it (by simp)
  exact wpAny_pyNext_range_end (I.ok.hd hc) st (by have:n<=i:=hg;omega) fun h' eb=>⟨rfl,I.turned (t':=s.toks) (fun b o hb e=>eb b o hb e) f0 f1 f3 f4 f5⟩
 self:=fun _ _ _ _ _ st h=>wpAny_pyIter_rangeiter st h
end L2
namespace L2
open PySem PySem.Spec PyProof.Rows
section
variable {X:Cx} {tg:Expr}
def MZ(K:PySem.W.Frag)(tl:TE):TI:=fun σ H R=>tl σ H fun x H1=>∃a,x = .ref a/\(∃xs,SqL K H1 a xs)/\R (Itl K a) H1
def Vs(K:PySem.W.Frag)(tl:TE):TI:=fun σ H R=>tl σ H fun x H1=>∃a,x = .ref a/\(∃xs,SqT K H1 a xs)/\R (Itt K a) H1
theorem VM{l:Expr}{tl:TE}(hl:PE X l tl):PI X tg l (MZ X.K tl):=by
 intro pins s σ H R I h
 refine thn (hl pins s σ H _ I h) fun v s1 ⟨x,H1,I1,r1,q1⟩=>?_
 obtain⟨a,e,⟨xs,hq⟩,q⟩:=q1
 subst e
 cases r1
 obtain⟨its,rv,p,hz⟩:=I1.list hq
 refine wpAny_pyIter_list p.isList ?_
 refine⟨s1.heap.objs.size,[s1.heap.objs.size],_,_,H1,rfl,I1.kept (t':=s1.toks) fun b o e=>Heap.get?_push_of_some _ e,JI a _,⟨_,Heap.get?_push_size _ rfl,rfl,rfl⟩,fun b hb=>?_,q⟩
 have e:b=s1.heap.objs.size:=by simpa using hb
 subst e
 exact I1.fpOk (Nat.le_refl _) (I1.hok.fresh (Nat.le_refl _))
theorem Xz{l:Expr}{tl:TE}(hl:PE X l tl):PI X tg l (Vs X.K tl):=by
 intro pins s σ H R I h
 refine thn (hl pins s σ H _ I h) fun v s1 ⟨x,H1,I1,r1,q1⟩=>?_
 obtain⟨a,e,⟨xs,hq⟩,q⟩:=q1
 subst e
 cases r1
 obtain⟨its,rv,p,hz⟩:=I1.tuple hq
 refine wpAny_pyIter_tuple (show s1.heap.IsTuple a its.toArray from p) ?_
 refine⟨s1.heap.objs.size,[s1.heap.objs.size],_,_,H1,rfl,I1.kept (t':=s1.toks) fun b o e=>Heap.get?_push_of_some _ e,PM a _,⟨_,Heap.get?_push_size _ rfl,rfl,rfl⟩,fun b hb=>?_,q⟩
 have e:b=s1.heap.objs.size:=by simpa using hb
 subst e
 exact I1.fpOk (Nat.le_refl _) (I1.hok.fresh (Nat.le_refl _))
theorem Ss{pins:List (Addr×Obj)}{σ:St}{H:Hp}{s:Shared}{R:It->Hp->Prop}{E:Value->Shared->Prop}{lo hi:Int}{t u v:Tok}{tk:Nat}(I:Inv X pins σ H s)(h1:-(2 ^ 62)<=lo)(h2:lo<2 ^ 62)(h3:-(2 ^ 62)<=hi)(h4:hi<2 ^ 62)
  (q:R (Itr lo (hi-lo).toNat) H):wpAny (model X.prog X.w) X.A (pyIter (.ref s.heap.objs.size)) (PIE X pins σ tg R) E { s with heap:=s.heap.push { cls:=.type "range",data:=.fields #[.int lo t,.int hi u,.int 1 v] },toks:=tk }:=by
 refine wpAny_pyIter_range (IsRange.new ..) (small_one h1 h2 h3 h4) ?_
 have I1:Inv X pins σ H { s with heap:=s.heap.push { cls:=.type "range",data:=.fields #[.int lo t,.int hi u,.int 1 v] },toks:=tk }:=I.kept fun b o e=>Heap.get?_push_of_some _ e
 refine ⟨(s.heap.push { cls := .type "range", data := .fields #[.int lo t, .int hi u, .int 1 v] }).objs.size, [(s.heap.push { cls := .type "range", data := .fields #[.int lo t, .int hi u, .int 1 v] }).objs.size], _, _, H, rfl,
  I1.kept (t':=tk) fun b o e=>Heap.get?_push_of_some _ e,PN _ lo (hi-lo).toNat,?_,fun b hb=>?_,q⟩
 ·have e1:lo+((0:Nat):Int)*1=lo:=by simp
  have e2:(((hi-lo).toNat:Nat):Int)-((0:Nat):Int)=Builtin.Range.rangeSize lo hi 1:=by rw[rangeSize_one];split<;>omega
  show IsRangeIter _ _ (lo+((0:Nat):Int)*1) ((((hi-lo).toNat:Nat):Int)-((0:Nat):Int)) 1
  rw[e1,e2]
  exact Heap.get?_push_size _ rfl
 ·have e:b=(s.heap.push { cls:=.type "range",data:=.fields #[.int lo t,.int hi u,.int 1 v] }).objs.size:=by simpa using hb
  subst e
  exact I1.fpOk (Nat.le_refl _) (I1.hok.fresh (Nat.le_refl _))
def XB(ta:TA):TI:=fun σ H R=>ta σ H fun vs H1=>∃j:Int,vs=[.int j]/\-(2 ^ 62)<=j/\j<2 ^ 62/\R (Itr 0 j.toNat) H1
theorem RO{a:Expr}{ta:TA}{p pos:Pos}(hg:Gl X "range")(hm:X.mg "range"=none)(ha:PA X [a] ta)(hs:starEach [a] X.env=[(false,eval a X.env)]:=by rfl):PI X tg (.Call (.Name "range" p) [a] [] pos) (XB ta):=by
 intro pins s σ H R I h
 refine Call_ (LO I hg hm boot_range (PyProof.Rows.callWith_type1 (thn (ha pos pins s σ H _ I h) fun us s1 ⟨vs,H1,I1,r1,q1⟩=>?_) hs rfl))
 obtain⟨j,e,q1,q2,q⟩:=q1
 subst e
 cases r1 with
 |cons r rr =>
  cases rr
  obtain⟨t,rfl⟩:=r
  exact call_range_1 (Ss I1 (by omega) (by omega) q1 q2 (by simpa using q))
def U0(wi:TI)(g:TG)(tb:TS):TS:=fun D σ H=>wi σ H fun J H1=>∃W:Nat->Nat->St->Hp->Prop,(∃m,W 0 m σ H1)/\∀i m σ H,W i m σ H ->
 (J.stop i H/\D.nx σ H)\/(J.go i H/\∃N:St->Hp->Prop,(∀σ' H',N σ' H'->∃m',m'<m/\W (i+1) m' σ' H')/\∀x H',J.yld i H x H'->g x σ H' fun σ2 H2=>tb { D with nx:=N,ct:=N,bk:=D.nx } σ2 H2)
def LA(fp:List Addr)(h:Heap):List (Addr×Obj):=fp.filterMap fun b=>(h.get? b).map fun o=>(b,o)
theorem GB{fp:List Addr}{h:Heap}{b:Addr}{o:Obj}(hb:b∈fp)(e:h.get? b=some o):(b,o)∈LA fp h:=List.mem_filterMap.mpr ⟨b,hb,by rw[e];rfl⟩
theorem Rb{fp:List Addr}{h:Heap}{p:Addr×Obj}(hp:p∈LA fp h):p.1∈fp/\h.get? p.1=some p.2:=by
 obtain⟨b,hb,e⟩:=List.mem_filterMap.mp hp
 cases q:h.get? b with
 |none=>rw[q]at e;cases e
 |some o =>
  rw[q]at e
  have e':(b,o)=p:=Option.some.inj e
  subst e'
  exact⟨hb,q⟩
theorem Inv.pinned{pins:List (Addr×Obj)}{σ:St}{H:Hp}{s:Shared}{fp:List Addr}(I:Inv X pins σ H s)(hf:∀b∈fp,IM X pins H b)(ho:∀b∈fp,∃o,s.heap.get? b=some o/\∀v,o.data≠.cell v):Inv X (pins++LA fp s.heap) σ H s :=
 I.pins_of fun p hp=>(List.mem_append.mp hp).elim (fun z=>I.pin p (List.mem_append_right _ z)) fun z=>by
  obtain⟨hb,e⟩:=Rb z
  obtain⟨f0,f1,f2,_⟩:=hf p.1 hb
  obtain⟨o,e',d⟩:=ho p.1 hb
  rw[e]at e';cases e'
  exact⟨e,f0,f1,f2,d⟩
theorem Inv.unpinned{pins pl:List (Addr×Obj)}{σ:St}{H:Hp}{s:Shared}(I:Inv X (pins++pl) σ H s):Inv X pins σ H s:=I.pins_of fun p hp=>I.pin p (List.mem_append_right _ (List.mem_append_left _ hp))
theorem Pb{iter:Expr}{body:List Stmt}{wi:TI}{g:TG}{tb:TS}{pos:Pos}(hp:PassesOwn (model X.prog X.w) X.A X.env X.xe)(hc:X.calm=true)(hi:PI X tg iter wi)(hg:PG X tg g)(hb:PSs X body tb)
  (hs:∀x,foldedSetIterable iter X.env x=pure x:=by intro _;rfl):PS X (.For tg iter body [] pos) (U0 wi g tb):=by
 intro pins s σ H D I h
 refine wpAny_For (thn (hi pins s σ H _ I h) fun v s1 h1=>thn h1 fun itv s2 h2=>?_) hs
 obtain⟨it,fp,tn,J,H2,e,I2,T,st2,f2,W,⟨m0,w0⟩,turn⟩:=h2
 subst e
 -- what stays true of the iterator's objects through the loop
 have stat:∀{H':Hp},(∀b∈fp,H' b=none)->∀b∈fp,IM X pins H' b:=fun hn b hb=>⟨hn b hb,(f2 b hb).2⟩
 refine codeAny_forLoop_any (fun n s'=>∃i σ' H',Inv X pins σ' H' s'/\tn i s'.heap/\(∀b∈fp,H' b=none)/\W i n σ' H') ?_ m0 ⟨0,σ,H2,I2,st2,fun b hb=>(f2 b hb).1,w0⟩
 rintro n s3 ⟨i,σ3,H3,I3,st3,fr3,w3⟩
 rcases turn i n σ3 H3 w3 with ⟨stop,qn⟩|⟨go,N,hN,step⟩
 ·refine wpAny_passesOwn hp (thn (T.done X rfl rfl rfl hc i pins s3 σ3 H3 X.xe I3 (stat fr3) st3 stop) fun r s4 ⟨hr,I4⟩=>?_)
  subst hr
  exact wpAny_execs_nil ⟨σ3,H3,I4,qn⟩
 ·refine wpAny_passesOwn hp (thn (T.item X rfl rfl rfl hc i pins s3 σ3 H3 X.xe I3 (stat fr3) st3 go) fun r s4 ⟨u,hr,h4⟩=>?_)
  subst hr
  refine wpAny_passesOwn hp (thn h4 fun _ s5 ⟨x,H5,I5,r5,y5,st5,fr5⟩=>?_)
  have I5':=I5.pinned (stat fr5) (T.obj _ _ st5)
  refine wpAny_passesOwn hp (thn (hg _ s5 σ3 H5 x u _ I5' r5 (step x H5 y5)) fun _ s6 ⟨σ6,H6,I6,q6⟩=>?_)
  refine wpAny_passesOwn hp (thn (hb _ s6 σ6 H6 _ I6 q6) fun f s7 q7=>?_)
  have again:∀{σ7:St} {H7:Hp},Inv X (pins++LA fp s5.heap) σ7 H7 s7->N σ7 H7->∃m,m<n/\∃i σ' H',Inv X pins σ' H' s7/\tn i s7.heap/\(∀b∈fp,H' b=none)/\W i m σ' H':=fun {σ7 H7} I7 n7=>by
   obtain⟨m',hm,w7⟩:=hN σ7 H7 n7
   refine⟨m',hm,i+1,σ7,H7,I7.unpinned,T.keep _ _ _ st5 fun b hb o e=>(I7.pin (b,o) (List.mem_append_right _ (List.mem_append_right _ (GB hb e)))).1,fun b hb=>?_,w7⟩
   obtain⟨o,e,d⟩:=T.obj _ _ st5 b hb
   exact(I7.pin (b,o) (List.mem_append_right _ (List.mem_append_right _ (GB hb e)))).2.1
  cases f with
  |next=>obtain⟨σ7,H7,I7,n7⟩:=q7;exact again I7 n7
  |cont=>obtain⟨σ7,H7,I7,n7⟩:=q7;exact again I7 n7
  |brk=>obtain⟨σ7,H7,I7,q7⟩:=q7;exact⟨σ7,H7,I7.unpinned,q7⟩
  |ret v=>obtain⟨x7,σ7,H7,I7,r7,q7⟩:=q7;exact⟨x7,σ7,H7,I7.unpinned,r7,q7⟩
end
end L2
namespace L2
open PySem PySem.Spec PyProof.Rows
abbrev R2:=V->V->Hp->VK->Prop
def OpR(X:Cx)(f:Value->Value->Sem Value)(r:R2):Prop :=
 ∀(pins:List (Addr×Obj)) (s:Shared) (σ:St) (H:Hp) (x y:V) (v u:Value) (Q:VK),Inv X pins σ H s->RelV x v->RelV y u->r x y H Q ->
  wpAny (model X.prog X.w) X.A (f v u) (EP X pins σ Q) X.xe s
def UnR(X:Cx)(f:Value->Sem Value)(r:V->Hp->VK->Prop):Prop :=
 ∀(pins:List (Addr×Obj)) (s:Shared) (σ:St) (H:Hp) (x:V) (v:Value) (Q:VK),Inv X pins σ H s->RelV x v->r x H Q ->
  wpAny (model X.prog X.w) X.A (f v) (EP X pins σ Q) X.xe s
def DC(X:Cx)(f:Value)(r:List V->Hp->VK->Prop):Prop :=
 ∀(pins:List (Addr×Obj)) (s:Shared) (σ:St) (H:Hp) (xs:List V) (us:List Value) (Q:VK),Inv X pins σ H s->Vals xs us->r xs H Q ->
  wpAny (model X.prog X.w) X.A (call f us) (EP X pins σ Q) X.xe s
def tOp(r:R2)(ta tb:TE):TE:=fun σ H Q=>ta σ H fun x H1=>tb σ H1 fun y H2=>r x y H2 Q
def tUn(r:V->Hp->VK->Prop)(ta:TE):TE:=fun σ H Q=>ta σ H fun x H1=>r x H1 Q
def rI(C:Int->Int->Prop)(g:Int->Int->V):R2:=fun x y H Q=>∃i j,x = .int i/\y = .int j/\C i j/\Q (g i j) H
def rI0(g:Int->Int->V):R2:=fun x y H Q=>∃i j,x = .int i/\y = .int j/\Q (g i j) H
def rU(g:Int->V):V->Hp->VK->Prop:=fun x H Q=>∃i,x = .int i/\Q (g i) H
section
variable {X:Cx} {a b c:Expr} {ta tb tc:TE} {pos:Pos}
theorem Zt(ha:PE X a ta)(hb:PE X b tb){pins:List (Addr×Obj)}{s:Shared}{σ:St}{H:Hp}{R:V->V->Hp->Prop}(I:Inv X pins σ H s)
  (h:ta σ H fun x H1=>tb σ H1 fun y H2=>R x y H2) {Q:Value->Shared->Prop} {f:Value->Value->Sem Value}
  (hf:∀v u s2 x y H2,Inv X pins σ H2 s2->RelV x v->RelV y u->R x y H2->wpAny (model X.prog X.w) X.A (f v u) Q X.xe s2) :
  wpAny (model X.prog X.w) X.A (eval a X.env) (fun v s₁=>wpAny (model X.prog X.w) X.A (eval b X.env) (fun u s₂=>wpAny (model X.prog X.w) X.A (f v u) Q X.xe s₂) X.xe s₁) X.xe s:=by
 refine thn (ha pins s σ H _ I h) fun v s1 ⟨x,H1,I1,r1,q1⟩=>?_
 refine thn (hb pins s1 σ H1 _ I1 q1) fun u s2 ⟨y,H2,I2,r2,q2⟩=>?_
 exact hf v u s2 x y H2 I2 r1 r2 q2
theorem N5{op:Operator}{r:R2}(ho:OpR X (binaryOp op) r)(ha:PE X a ta)(hb:PE X b tb):PE X (.BinOp a op b pos) (tOp r ta tb):=by
 intro pins s σ H Q I h
 exact wpAny_BinOp (Zt ha hb I h fun v u s2 x y H2 I2 rx ry q=>ho pins s2 σ H2 x y v u Q I2 rx ry q)
theorem ae{op:UnaryOp}{r:V->Hp->VK->Prop}(ho:UnR X (unaryOp op) r)(ha:PE X a ta):PE X (.UnaryOp op a pos) (tUn r ta):=by
 intro pins s σ H Q I h
 exact UnaryOp_ (thn (ha pins s σ H _ I h) fun v s1 ⟨x,H1,I1,r1,q1⟩=>ho pins s1 σ H1 x v Q I1 r1 q1)
theorem opI{f:Value->Value->Sem Value}{C:Int->Int->Prop}{g:Int->Int->Int}
  (rule:∀(i j:Int) (t u:Tok) (s:Shared) (Q:Value->Shared->Prop) (E:Value->Shared->Prop),C i j->Q (.int (g i j) s.toks) { s with toks:=s.toks+1 }->wpAny (model X.prog X.w) X.A (f (.int i t) (.int j u)) Q E s) :
  OpR X f (rI C fun i j=>.int (g i j)):=by
 intro pins s σ H x y v u Q I rx ry h
 obtain⟨i,j,rfl,rfl,hc,q⟩:=h
 obtain⟨t,rfl⟩:=rx
 obtain⟨t',rfl⟩:=ry
 exact rule i j t t' s _ _ hc ⟨.int (g i j),H,I.tok _,⟨_,rfl⟩,q⟩
theorem aq{f:Value->Value->Sem Value}{g:Int->Int->Int}
  (rule:∀(i j:Int) (t u:Tok) (s:Shared) (Q:Value->Shared->Prop) (E:Value->Shared->Prop),Q (.int (g i j) s.toks) { s with toks:=s.toks+1 }->wpAny (model X.prog X.w) X.A (f (.int i t) (.int j u)) Q E s) :
  OpR X f (rI0 fun i j=>.int (g i j)):=by
 intro pins s σ H x y v u Q I rx ry h
 obtain⟨i,j,rfl,rfl,q⟩:=h
 obtain⟨t,rfl⟩:=rx
 obtain⟨t',rfl⟩:=ry
 exact rule i j t t' s _ _ ⟨.int (g i j),H,I.tok _,⟨_,rfl⟩,q⟩
theorem VZ{f:Value->Value->Sem Value}{g:Int->Int->Bool}
  (rule:∀(i j:Int) (t u:Tok) (s:Shared) (Q:Value->Shared->Prop) (E:Value->Shared->Prop),Q (.bool (g i j)) s->wpAny (model X.prog X.w) X.A (f (.int i t) (.int j u)) Q E s) :
  OpR X f (rI0 fun i j=>.bl (g i j)):=by
 intro pins s σ H x y v u Q I rx ry h
 obtain⟨i,j,rfl,rfl,q⟩:=h
 obtain⟨t,rfl⟩:=rx
 obtain⟨t',rfl⟩:=ry
 exact rule i j t t' s _ _ ⟨.bl (g i j),H,I,rfl,q⟩
def Us(i j:Int):Prop:=0<=j/\j<=1000000/\i.natAbs<2 ^ 64
def CMul(i j:Int):Prop:=(-(2 ^ 64)<i/\i<2 ^ 64)\/(-(2 ^ 64)<j/\j<2 ^ 64)
theorem CMul.ok{i j:Int}(h:CMul i j):IntMulOk i j:=by
 rcases h with ⟨h1,h2⟩|⟨h1,h2⟩
 ·exact .of_left (intBits_le_64 h1 h2)
 ·exact .of_right (intBits_le_64 h1 h2)
theorem YD:OpR X (binaryOp .Add) (rI0 fun i j=>.int (i+j)):=aq fun _ _ _ _ _ _ _ q=>add_int q
theorem X6:OpR X (binaryOp .Sub) (rI0 fun i j=>.int (i-j)):=aq fun _ _ _ _ _ _ _ q=>sub_int q
theorem X8:OpR X (binaryOp .Mod) (rI (fun _ j=>0<j) fun i j=>.int (i % j)):=opI fun i j _ _ _ _ _ hc q=>by
 have h1:(0:Int)<j:=hc
 exact mod_int' (by omega) (by rw[Int.fmod_eq_emod_of_nonneg i (by omega)];exact q)
theorem X7:OpR X (binaryOp .Pow) (rI Us fun i j=>.int (i ^ j.toNat)):=opI fun _ _ _ _ _ _ _ hc q=>pow_int_small hc.1 hc.2.1 hc.2.2 q
theorem unI{f:Value->Sem Value}{g:Int->Int}
  (rule:∀(i:Int) (t:Tok) (s:Shared) (Q:Value->Shared->Prop) (E:Value->Shared->Prop),Q (.int (g i) s.toks) { s with toks:=s.toks+1 }->wpAny (model X.prog X.w) X.A (f (.int i t)) Q E s) :
  UnR X f (rU fun i=>.int (g i)):=by
 intro pins s σ H x v Q I rx h
 obtain⟨i,rfl,q⟩:=h
 obtain⟨t,rfl⟩:=rx
 exact rule i t s _ _ ⟨.int (g i),H,I.tok _,⟨_,rfl⟩,q⟩
theorem Xg:UnR X (unaryOp .USub) (rU fun i=>.int (-i)):=unI fun _ _ _ _ _ q=>neg_int q
end
section
variable {X:Cx} {a b c:Expr} {ta tb tc:TE} {pos:Pos}
theorem P0{pins:List (Addr×Obj)}{σ:St}{H:Hp}{s:Shared}{Q:VK}{k k':Bool}(I:Inv X pins σ H s)(q:Q (.bl k) H)(e:k=k'):EP X pins σ Q (.bool k') s:=by
 subst e
 exact⟨.bl k,H,I,rfl,q⟩
theorem ai:OpR X (compareOp .Lt) (rI0 fun i j=>.bl (decide (i<j))):=VZ fun _ _ _ _ _ _ _ q=>lt_int q
theorem aj:OpR X (compareOp .LtE) (rI0 fun i j=>.bl (decide (i<=j))):=VZ fun _ _ _ _ _ _ _ q=>le_int q
theorem ak:OpR X (compareOp .Gt) (rI0 fun i j=>.bl (decide (j<i))):=VZ fun _ _ _ _ _ _ _ q=>gt_int q
theorem ao:OpR X (compareOp .GtE) (rI0 fun i j=>.bl (decide (j<=i))):=VZ fun _ _ _ _ _ _ _ q=>ge_int q
theorem RV:OpR X (compareOp .In) (fun x y H Q=>∃i j,x = .str i/\y = .str j/\Q (.bl (!(Builtin.Str.occurrences j i 0 j.length 1).isEmpty)) H):=by
 intro pins s σ H x y v u Q I rx ry h
 obtain⟨i,j,rfl,rfl,q⟩:=h
 obtain⟨t,rfl⟩:=rx
 obtain⟨t',rfl⟩:=ry
 exact in_str (P0 I q rfl)
theorem X9:OpR X (compareOp .Is) (fun x y H Q=>y = .non/\Q (.bl (decide (x = .non))) H):=by
 intro pins s σ H x y v u Q I rx ry h
 obtain⟨rfl,q⟩:=h
 cases ry
 refine is_none_gen (P0 I q ?_)
 cases x<;>first
  |(cases rx;rfl)
  |(obtain⟨t,rfl⟩:=rx;rfl)
theorem VT:OpR X (compareOp .IsNot) (fun x y H Q=>y = .non/\Q (.bl (!decide (x = .non))) H):=by
 intro pins s σ H x y v u Q I rx ry h
 obtain⟨rfl,q⟩:=h
 cases ry
 refine isnot_none_gen (P0 I q ?_)
 cases x<;>first
  |(cases rx;rfl)
  |(obtain⟨t,rfl⟩:=rx;rfl)
theorem YK(b:Expr){op:CmpOp}(h:op≠.In:=by decide)(h2:op≠.NotIn:=by decide):behindInMarks op b=false:=by
 have e1:(op==CmpOp.In)=false:=by cases op<;>first|rfl|exact absurd rfl h
 have e2:(op==CmpOp.NotIn)=false:=by cases op<;>first|rfl|exact absurd rfl h2
 cases b<;>simp[behindInMarks,e1,e2]
theorem Mw{op:CmpOp}{r:R2}(ho:OpR X (compareOp op) r)(ha:PE X a ta)(hb:PE X b tb)(hm:behindInMarks op b=false):PE X (.Compare a [op] [b] pos) (tOp r ta tb):=by
 intro pins s σ H Q I h
 exact wpAny_Compare1 (Zt ha hb I h fun v u s2 x y H2 I2 rx ry q=>ho pins s2 σ H2 x y v u Q I2 rx ry q) hm
def QO(t:TE):TT:=fun σ H Q=>t σ H fun x H'=>∃k,x = .bl k/\Q k H'
theorem Mt{op:CmpOp}{r:R2}(ho:OpR X (compareOp op) r)(ha:PE X a ta)(hb:PE X b tb)(hm:behindInMarks op b=false):PT X (.Compare a [op] [b] pos) (QO (tOp r ta tb)):=by
 intro pins s σ H Q I h
 refine wpAny_isTrue_Compare1 (thn (ha pins s σ H _ I h) fun v s1 ⟨x, H1, I1, r1, q1⟩ => thn (hb pins s1 σ H1 _ I1 q1) fun u s2 ⟨y, H2, I2, r2, q2⟩ =>
  thn (ho pins s2 σ H2 x y v u _ I2 r1 r2 q2) fun c s3 ⟨z,H3,I3,r3,k,e,q3⟩=>?_) hm
 subst e
 cases r3
 exact wpAny_truthy_bool ⟨H3,I3,q3⟩
def PU(r r':R2)(ta tb tc:TE):TE:=fun σ H Q=>ta σ H fun x H1=>tb σ H1 fun y H2=>r x y H2 fun z H3=>∃k,z = .bl k /\
 (if k=true then tc σ H3 fun w' H4=>r' y w' H4 Q else Q (.bl false) H3)
theorem TV{op op':CmpOp}{r r':R2}(ho:OpR X (compareOp op) r)(ho':OpR X (compareOp op') r')(ha:PE X a ta)(hb:PE X b tb)(hc:PE X c tc)
  (hm:lastMarks [op,op'] [b,c]=false:=by with_unfolding_all rfl):PE X (.Compare a [op,op'] [b,c] pos) (PU r r' ta tb tc):=by
 intro pins s σ H Q I h
 refine Compare_chain (thn (ha pins s σ H _ I h) fun v s1 ⟨x, H1, I1, r1, q1⟩ => chain_link (thn (hb pins s1 σ H1 _ I1 q1) fun u s2 ⟨y, H2, I2, r2, q2⟩ =>
  thn (ho pins s2 σ H2 x y v u _ I2 r1 r2 q2) fun d s3 ⟨z,H3,I3,r3,k,e,q3⟩=>?_)) hm
 subst e
 cases r3
 refine wpAny_truthy_bool ?_
 cases k with
 |false=>exact ite_ff ⟨.bl false,H3,I3,rfl,q3⟩
 |true=>exact ite_tt (chain_last (thn (hc pins s3 σ H3 _ I3 q3) fun w' s4 ⟨z',H4,I4,r4,q4⟩=>ho' pins s4 σ H4 y z' u w' Q I4 r2 r4 q4))
theorem S8{op op':CmpOp}{r r':R2}(ho:OpR X (compareOp op) r)(ho':OpR X (compareOp op') r')(ha:PE X a ta)(hb:PE X b tb)(hc:PE X c tc)
  (hm:lastMarks [op,op'] [b,c]=false:=by with_unfolding_all rfl):PT X (.Compare a [op,op'] [b,c] pos) (QO (PU r r' ta tb tc)):=by
 intro pins s σ H Q I h
 refine isTrue_chain (thn (ha pins s σ H _ I h) fun v s1 ⟨x, H1, I1, r1, q1⟩ => test_link (thn (hb pins s1 σ H1 _ I1 q1) fun u s2 ⟨y, H2, I2, r2, q2⟩ =>
  thn (ho pins s2 σ H2 x y v u _ I2 r1 r2 q2) fun d s3 ⟨z,H3,I3,r3,k,e,q3⟩=>?_)) hm
 subst e
 cases r3
 refine wpAny_truthy_bool ?_
 cases k with
 |false =>
  obtain⟨k',e',q'⟩:=q3
  cases e'
  exact ite_ff ⟨H3,I3,q'⟩
 |true =>
  refine ite_tt (test_last (thn (hc pins s3 σ H3 _ I3 q3) fun w' s4 ⟨z',H4,I4,r4,q4⟩=>thn (ho' pins s4 σ H4 y z' u w' _ I4 r2 r4 q4) fun d' s5 ⟨z2,H5,I5,r5,k2,e2,q5⟩=>?_))
  subst e2
  cases r5
  exact wpAny_truthy_bool ⟨H5,I5,q5⟩
theorem NN:(sizeLine:Nat)<2 ^ 63:=by rw[sizeLine_eq];decide
theorem Pf:OpR X (binaryOp .Add) (fun x y H Q=>∃i j,x = .str i/\y = .str j/\i.length+j.length<=sizeLine/\Q (.str (i++j)) H):=by
 intro pins s σ H x y v u Q I rx ry h
 obtain⟨i,j,rfl,rfl,hz,q⟩:=h
 obtain⟨t,rfl⟩:=rx
 obtain⟨t',rfl⟩:=ry
 exact add_str (fun t' tk=>⟨.str (i++j),H,I.tok _,⟨_,rfl⟩,q⟩) hz
theorem Hq{x:V}{us:List Value}(r:Vals [x] us):∃u,us=[u]/\RelV x u:=by
 cases r with
 |cons r1 r2=>cases r2;exact⟨_,rfl,r1⟩
theorem SR{x y:V}{us:List Value}(r:Vals [x,y] us):∃u w',us=[u,w']/\RelV x u/\RelV y w':=by
 cases r with
 |cons r1 r2 =>
  cases r2 with
  |cons r3 r4=>cases r4;exact⟨_,_,rfl,r1,r3⟩
theorem Ua:DC X (.builtin "abs") (fun xs H Q=>∃i,xs=[.int i]/\Q (.int (if i<0 then -i else i)) H):=by
 intro pins s σ H xs us Q I r h
 obtain⟨i,rfl,q⟩:=h
 obtain⟨u,rfl,t,rfl⟩:=Hq r
 exact call_abs_int fun u tk=>⟨.int (if i<0 then -i else i),H,I.tok _,⟨_,rfl⟩,q⟩
theorem R3(hc:X.calm=true):DC X (.builtin "max") (fun xs H Q=>∃i j,xs=[.int i,.int j]/\Q (.int (if j>i then j else i)) H):=by
 intro pins s σ H xs us Q I r h
 obtain⟨i,j,rfl,q⟩:=h
 obtain⟨u,w',rfl,⟨t,rfl⟩,⟨t',rfl⟩⟩:=SR r
 refine max_two_ints (I.ok.hd hc) fun h' tk k=>⟨_,H,I.kept k,?_,q⟩
 by_cases hj:j>i
 ·rw[if_pos hj,if_pos hj];exact⟨_,rfl⟩
 ·rw[if_neg hj,if_neg hj];exact⟨_,rfl⟩
theorem Ry(hc:X.calm=true):DC X (.builtin "min") (fun xs H Q=>∃i j,xs=[.int i,.int j]/\Q (.int (if j<i then j else i)) H):=by
 intro pins s σ H xs us Q I r h
 obtain⟨i,j,rfl,q⟩:=h
 obtain⟨u,w',rfl,⟨t,rfl⟩,⟨t',rfl⟩⟩:=SR r
 refine min_two_ints (I.ok.hd hc) fun h' tk k=>⟨_,H,I.kept k,?_,q⟩
 by_cases hj:j<i
 ·rw[if_pos hj,if_pos hj];exact⟨_,rfl⟩
 ·rw[if_neg hj,if_neg hj];exact⟨_,rfl⟩
theorem R6:DC X (.type "int") (fun xs H Q=>(∃i,xs=[.int i]/\Q (.int i) H)\/∃k,xs=[.bl k]/\Q (.int (if k then 1 else 0)) H):=by
 intro pins s σ H xs us Q I r h
 rcases h with ⟨i,rfl,q⟩|⟨k,rfl,q⟩
 ·obtain⟨u,rfl,t,rfl⟩:=Hq r
  exact call_int_int ⟨.int i,H,I,⟨_,rfl⟩,q⟩
 ·obtain⟨u,rfl,r1⟩:=Hq r
  cases r1
  exact call_int_bool ⟨.int (if k then 1 else 0),H,I.tok _,⟨_,rfl⟩,q⟩
def R9(K:PySem.W.Frag)(x:V)(H:Hp)(n:Nat):Prop :=
 match x with
 |.str y=>y.length<=sizeLine/\n=y.length
 |.byt y=>y.size<=sizeLine/\n=y.size
 |.ref p=>(∃xs,SqL K H p xs/\n=xs.length)\/∃xs,SqT K H p xs/\n=xs.length
 |_=>False
theorem Lf:DC X (.builtin "len") (fun xs H Q=>∃x n,xs=[x]/\R9 X.K x H n/\Q (.int n) H):=by
 intro pins s σ H xs us Q I r h
 obtain⟨x,n,rfl,e,q⟩:=h
 obtain⟨u,rfl,rx⟩:=Hq r
 have hl:=NN
 have hs:sizeLine=16777216:=sizeLine_eq
 cases x with
 |str y =>
  obtain⟨t,rfl⟩:=rx
  obtain⟨hy,e'⟩:y.length<=sizeLine/\n=y.length:=e
  subst e'
  exact len_str (by omega) ⟨.int _,H,I.tok _,⟨_,rfl⟩,q⟩
 |byt y =>
  obtain⟨t,rfl⟩:=rx
  obtain⟨hy,e'⟩:y.size<=sizeLine/\n=y.size:=e
  subst e'
  exact PySem.W.len_bytes (by omega) ⟨.int _,H,I.tok _,⟨_,rfl⟩,q⟩
 |ref p =>
  cases rx
  have e':(∃xs,SqL X.K H p xs/\n=xs.length)\/∃xs,SqT X.K H p xs/\n=xs.length:=e
  rcases e' with ⟨xs,hx,e'⟩|⟨xs,hx,e'⟩
  ·subst e'
   obtain⟨its,r',pl,hz⟩:=I.list hx
   have hlen:=r'.length
   exact Calls.call_len_list pl.isList (by simp only[List.size_toArray];omega) ⟨.int xs.length,H,I.tok _,⟨_,by simp only[List.size_toArray];rw[hlen]⟩,q⟩
  ·subst e'
   obtain⟨its,r',pl,hz⟩:=I.tuple hx
   have hlen:=r'.length
   exact len_tuple pl (by simp only[List.size_toArray];omega) ⟨.int xs.length,H,I.tok _,⟨_,by simp only[List.size_toArray];rw[hlen]⟩,q⟩
 |_=>exact(show False from e).elim
end
end L2
namespace L2
open PySem PySem.Spec PyProof.Rows
structure ObjM(h:Heap)(x dx C:Addr)(mA:Str->Option Value):Prop where
 obj:h.get? x=some (PySem.W.instObj C dx)
 ns:h.Ns1 dx mA
 ne:dx≠x
theorem Rf{h:Heap}{dx:Addr}{mA:Str->Option Value}(n:h.Ns1 dx mA):∃od,h.get? dx=some od/\∀name,PySem.W.lookIn name od=some (mA name):=by
 obtain⟨o,es,ep,ho,hd,hk,_,hm⟩:=n
 refine⟨o,ho,fun name=>?_⟩
 have e:=hm name
 unfold nsFind findBy at e
 rw[<- Array.find?_toList]at e
 unfold PySem.W.lookIn
 rw[hd]
 dsimp only
 split
 ·rename_i y q
  rw[q]at e
  exact congrArg some e
 ·rename_i q
  rw[q]at e
  have a:es.toList.any (·.refKey)=false:=by
   rw[List.any_eq_false]
   intro y hy
   obtain⟨z,t,hkey⟩:=hk y (Array.mem_toList_iff.mp hy)
   simp[DictEntry.refKey,hkey]
  have a':¬es.toList.any (·.refKey)=true:=by rw[a];exact Bool.false_ne_true
  rw[if_neg a']
  exact congrArg some e
theorem ObjM.look{h:Heap}{x dx C:Addr}{mA:Str->Option Value}(I:ObjM h x dx C mA):∃od,PySem.W.InstAt h x (PySem.W.instObj C dx) C (some od)/\∀name,PySem.W.lookIn name od=some (mA name) :=
 let ⟨od,ho,hl⟩:=Rf I.ns
 ⟨od,⟨I.obj,rfl,rfl,ho⟩,hl⟩
section
variable {prog:Program} {w:World} {A:Around} {E:Value->Shared->Prop} {s:Shared} {K:PySem.W.Frag} {x dx C f:Addr} {mA:Str->Option Value} {name:Str} {v:Value}
end
section
variable {P:Program} {w:World} {H H':Hp} {h h':Heap} {a C dx:Addr} {fs fs':List (Str×V)}
theorem Vq(hok:HOk P w H h)(e:H a=some (.ins C dx fs)):∃mA,ObjM h a dx C mA/\(∀f,Z5 (fs.lookup f) (mA f))/\PySem.Within mA (fs.map (·.1))/\fs.length<=1000/\H dx=some (.own a):=by
 obtain⟨d,z,ne,ob,mA,n,r,q⟩:=(show ObjOk P w H h a (.ins C dx fs) from hok a _ e)
 exact⟨mA,⟨ob,n,ne⟩,r,q,z,d⟩
end
structure Cls(K:PySem.W.Frag)(C:Addr):Prop where
 pg:PySem.W.plainGet K C Str.empty=true
 hd:PySem.W.hasDictIn K C=true
 po:PySem.W.plainOver K C=true
 sa:PySem.W.findIn K (.ref C) "__setattr__"=some (some (.builtin "object.__setattr__"))
theorem Cls.get{K:PySem.W.Frag}{C:Addr}(c:Cls K C)(f:Str):PySem.W.plainGet K C f=true:=c.pg
section
variable {X:Cx} {pins:List (Addr×Obj)} {σ:St} {H:Hp} {s:Shared} {a C dx:Addr} {fs:List (Str×V)} {f:Str} {v:V} {A:Around} {E:Value->Shared->Prop}
end
section
variable {X:Cx} {o e value:Expr} {f:Str} {pos pos' tpos:Pos} {ta tv:TE}
end
section
variable {X:Cx} {pins:List (Addr×Obj)} {σ:St} {H:Hp} {s:Shared} {A:Around} {E:Value->Shared->Prop} {Q:Value->Shared->Prop} {c:Value} {b:Bool}
inductive KS (K:PySem.W.Frag) (H:Hp):V->Value->Prop where
 |non:KS K H .non (.type "NoneType")
 |bl (x:Bool):KS K H (.bl x) (.type "bool")
 |int (i:Int):KS K H (.int i) (.type "int")
 |str (x:Str):KS K H (.str x) (.type "str")
 |flt (x:UInt64):KS K H (.flt x) (.type "float")
 |lst {a:Addr} {xs:List V} (e:H a=some (.lst xs)):KS K H (.ref a) (.type "list")
 |frz {a:Addr} {o:Obj} {xs:List V} (e:H a=some (.frz o (.lst xs))):KS K H (.ref a) (.type "list")
 |tup {a:Addr} {xs:List V} (e:H a=some (.tup xs)):KS K H (.ref a) (.type "tuple")
 |dK {a:Addr} {kvs:List (Key×V)} (e:H a=some (.dK kvs)):KS K H (.ref a) (.type "dict")
 |dT {a:Addr} {kvs:List (List Key×V)} (e:H a=some (.dT kvs)):KS K H (.ref a) (.type "dict")
 |ins {a C dx:Addr} {fs:List (Str×V)} (e:H a=some (.ins C dx fs)) (cl:Cls K C) (ha:PySem.W.findIn K (.ref C) "__class__"=some (some (.builtin "object.__class__")))
   (hn:PySem.W.specialIn K (.builtin "object.__class__") "__get__"=some (some (.builtin "getset_descriptor.__get__"))) (htk:PySem.W.takesIn K (.builtin "object.__class__")=some true)
   (hm:PySem.W.mroIn K C (.type "object")=some true):KS K H (.ref a) (.ref C)
theorem Fv{x:V}{u t:Value}(I:Inv X pins σ H s)(rx:RelV x u)(ty:KS X.K H x t)(e:PySem.W.kitOne X.K t c=some b)(h:∀tk,Q (.bool b) { s with toks:=tk }) :
  wpAny (model X.prog X.w) A (call (.builtin "isinstance") [u,c]) Q E s:=by
 cases ty with
 |non=>cases (show u=Value.none from rx);exact PySem.W.kia_one PySem.W.kitx_none I.kIn True.intro e (fun z=>nomatch z) h
 |bl y=>cases (show u=Value.bool y from rx);exact PySem.W.kia_one PySem.W.kitx_bool I.kIn True.intro e (fun z=>nomatch z) h
 |int i=>obtain⟨t,q⟩:=(show ∃t,u=Value.int i t from rx);cases q;exact PySem.W.kia_one PySem.W.kitx_int I.kIn True.intro e (fun z=>nomatch z) h
 |str y=>obtain⟨t,q⟩:=(show ∃t,u=Value.str y t from rx);cases q;exact PySem.W.kia_one PySem.W.kitx_str I.kIn True.intro e (fun z=>nomatch z) h
 |flt y=>obtain⟨t,q⟩:=(show ∃t,u=Value.float y t from rx);cases q;exact PySem.W.kia_one PySem.W.kitx_float I.kIn True.intro e (fun z=>nomatch z) h
 |@lst a xs ea =>
  cases (show u=Value.ref a from rx)
  obtain⟨_,_,n,_,h1⟩:=(show ObjOk X.prog X.w H s.heap a (.lst xs) from I.hok a _ ea)
  exact PySem.W.kia_one PySem.W.kitx_list I.kIn ⟨_,h1,rfl⟩ e (fun z=>nomatch z) h
 |@frz a ob xs ea =>
  cases (show u=Value.ref a from rx)
  obtain⟨_,_,_,n,_,h1⟩:=(show ObjOk X.prog X.w H s.heap a (.frz ob (.lst xs)) from I.hok a _ ea)
  exact PySem.W.kia_one PySem.W.kitx_list I.kIn ⟨_,h1,rfl⟩ e (fun z=>nomatch z) h
 |@tup a xs ea =>
  cases (show u=Value.ref a from rx)
  obtain⟨_,_,_,p⟩:=(show ObjOk X.prog X.w H s.heap a (.tup xs) from I.hok a _ ea)
  obtain⟨o,h1,h2,_⟩:=p
  exact PySem.W.kia_one PySem.W.kitx_tuple I.kIn ⟨o,h1,h2⟩ e (fun z=>nomatch z) h
 |@dK a kvs ea =>
  cases (show u=Value.ref a from rx)
  obtain⟨_,_,vs,_,p⟩:=(show ObjOk X.prog X.w H s.heap a (.dK kvs) from I.hok a _ ea)
  obtain⟨o,es,ep,h1,h2,_⟩:=p
  exact PySem.W.kia_one PySem.W.kitx_dict I.kIn ⟨o,h1,h2.1⟩ e (fun z=>nomatch z) h
 |@dT a kvs ea =>
  cases (show u=Value.ref a from rx)
  obtain⟨_,_,xs,_,o,es,ep,h1,h2,_⟩:=(show ObjOk X.prog X.w H s.heap a (.dT kvs) from I.hok a _ ea)
  exact PySem.W.kia_one PySem.W.kitx_dict I.kIn ⟨o,h1,h2.1⟩ e (fun z=>nomatch z) h
 |@ins a C dx fs ea cl ha hn htk hm =>
  cases (show u=Value.ref a from rx)
  obtain⟨mA,O,_⟩:=Vq I.hok ea
  obtain⟨od,J,_⟩:=O.look
  exact PySem.W.kia_one (PySem.W.kitx_own (cl.get _) cl.hd ha hn htk hm) I.kIn J e (fun z=>nomatch z) h
end
end L2
namespace L2
open PySem PySem.Spec PyProof.Rows
structure Room(k:Nat)(A:Around):Prop where
 hd:A.handled=none
 dp:A.depth+3*k+5<recursionLimit
 un:A.units+16*k+200<cLine
theorem Room.mono{j k:Nat}{A:Around}(r:Room k A)(h:j<=k):Room j A:=⟨r.hd,by have:=r.dp;omega,by have:=r.un;omega⟩
theorem Room.deeper{k:Nat}{A:Around}(r:Room (k+1) A)(env:Env):Room k (A.deeper env) :=
 ⟨r.hd,by have:=r.dp;show A.depth+1+3*k+5<_;omega,by have:=r.un;show A.units+3+16*k+200<_;omega⟩
theorem Room.depth{k:Nat}{A:Around}(r:Room k A):A.depth<recursionLimit:=by have:=r.dp;omega
theorem Room.units{k:Nat}{A:Around}(r:Room k A):A.units+64<cLine:=by have:=r.un;omega
def FG:TA:=fun _ H Q=>Q [] H
def CJ(ta:TE)(tr:TA):TA:=fun σ H Q=>ta σ H fun x H1=>tr σ H1 fun xs H2=>Q (x::xs) H2
section
variable {X:Cx} {e:Expr} {es:List Expr} {te:TE} {t:TA} {pos:Pos}
theorem A8:PA X [] FG:=fun _ _ _ _ H Q I h=>Calls.spliced_nil ⟨[],H,I,.nil,h⟩
theorem AU(ha:PE X e te)(hr:PA X es t)(hs:starEach (e::es) X.env=(false,eval e X.env)::starEach es X.env:=by rfl):PA X (e::es) (CJ te t):=by
 intro pos pins s σ H Q I h
 rw[hs]
 show wpAny _ _ (spliced ((false,eval e X.env)::backTo pos (starEach es X.env))) _ _ s
 refine Calls.spliced_cons (thn (ha pins s σ H _ I h) fun u s1 ⟨x,H1,I1,r1,q1⟩=>?_)
 exact thn (hr pos pins s1 σ H1 _ I1 q1) fun us s2 ⟨xs,H2,I2,r2,q2⟩=>⟨x::xs,H2,I2,.cons r1 r2,q2⟩
def Uz(t:TA):TE:=fun σ H Q=>t σ H fun xs H1=>xs.length<=sizeLine/\∀p,H1 p=none->Q (.ref p) (upd H1 p (.tup xs))
def Se(t:TA):TE:=fun σ H Q=>t σ H fun xs H1=>xs.length<=sizeLine/\∀p,H1 p=none->Q (.ref p) (upd H1 p (.lst xs))
theorem Es{x1}(h:PA X es t):PE X (.Tuple es x1 pos) (Uz t):=by
 intro pins s σ H Q I hq
 refine wpAny_Tuple_spliced (thn (h pos pins s σ H _ I hq) fun us s1 ⟨xs,H1,I1,r,z,q⟩=>⟨by rw[<- r.length];exact z,?_⟩)
 have hf:H1 s1.heap.objs.size=none:=I1.hok.fresh (Nat.le_refl _)
 refine⟨.ref s1.heap.objs.size,upd H1 s1.heap.objs.size (.tup xs),I1.laid (t':=s1.toks) (fun b u e=>Heap.get?_push_of_some _ e) (Nat.le_refl _) ?_,rfl,q _ hf⟩
 exact⟨z,us,r,⟨_,Heap.get?_push_size _ rfl,rfl,_,rfl⟩⟩
theorem Hy(h:PA X es t):PE X (.List es pos) (Se t):=by
 intro pins s σ H Q I hq
 refine wpAny_List_spliced (thn (h pos pins s σ H _ I hq) fun us s1 ⟨xs,H1,I1,r,z,q⟩=>⟨by rw[<- r.length];exact z,?_⟩)
 have hf:H1 s1.heap.objs.size=none:=I1.hok.fresh (Nat.le_refl _)
 refine⟨.ref s1.heap.objs.size,upd H1 s1.heap.objs.size (.lst xs),I1.laid (t':=s1.toks) (fun b u e=>Heap.get?_push_of_some _ e) (Nat.le_refl _) ?_,rfl,q _ hf⟩
 exact⟨z,us,0,r,Heap.get?_push_size _ rfl⟩
end
abbrev Sp:=List V->Hp->VK->XK->Prop
abbrev CXT:=List Env->Hp->Shared->XK->Value->Shared->Prop
structure Ur(P:Program)(w:World)(K:PySem.W.Frag)(mg:Str->Option Value)(base:Heap)(A:Around)(outer:List Env)(s:Shared)(H:Hp):Prop where
 frames:A.frames=some outer
 mod:Mod K mg base
 bs:∀b o,base.get? b=some o->s.heap.get? b=some o/\H b=none
 bsz:base.objs.size<=s.heap.objs.size
 funs:s.heap.FunFrames base outer
 frf:∀b∈frs outer,H b=none
 hok:HOk P w H s.heap
 bare:AllBare s.gens
def CE(outer:List Env)(P:Program)(w:World)(H:Hp)(s:Shared)(Q:VK)(u:Value)(s':Shared):Prop :=
 ∃v H',s'.os=s.os/\AllBare s'.gens/\Un (frs outer) [] H H' s.heap s'.heap/\HOk P w H' s'.heap/\RelV v u/\Q v H'
def CR(CX:CXT)(outer:List Env)(P:Program)(w:World)(H:Hp)(s:Shared)(Q:VK)(E:XK)(r:Result)(s':Shared):Prop :=
 match r with
 |.ok (.ret u)=>CE outer P w H s Q u s'
 |.ok _=>False
 |.error e=>CX outer H s E e s'
structure FnOk(P:Program)(w:World)(K:PySem.W.Frag)(mg:Str->Option Value)(base:Heap)(CX:CXT)(k:Nat)(f:Addr)(fd:FuncData)(ps:List Str)(sp:Sp):Prop where
 len:∀vs H Q E,sp vs H Q E->vs.length=ps.length
 run:∀(A:Around) (outer:List Env) (s:Shared) (H:Hp) (args:Args) (us:List Value) (vs:List V) (Q:VK) (E:XK),Room k A->Ur P w K mg base A outer s H->BindsTo s fd args (ps.zip us)->Vals vs us->sp vs H Q E ->
  codeAny (model P w) A (.call (.ref f) args) (CR CX outer P w H s Q E) s
theorem FnOk.mono{P:Program}{w:World}{K:PySem.W.Frag}{mg:Str->Option Value}{base:Heap}{CX:CXT}{j k:Nat}{f:Addr}{fd:FuncData}{ps:List Str}{sp:Sp}(F:FnOk P w K mg base CX j f fd ps sp)(h:j<=k) :
  FnOk P w K mg base CX k f fd ps sp:=⟨F.len,fun A outer s H args us vs Q E hr=>F.run A outer s H args us vs Q E (hr.mono h)⟩
section
variable {X:Cx} {pins:List (Addr×Obj)} {σ:St} {H:Hp} {s s':Shared}
theorem Inv.env0(I:Inv X pins σ H s):Ur X.prog X.w X.K X.mg X.base X.A X.stack s H :=
 ⟨I.ok.frames,I.ok.mod,I.bs,Nat.le_trans I.ok.bsz I.sz,I.stack,I.stkFree,I.hok,I.bare⟩
theorem Inv.after{Q:VK}{u:Value}(I:Inv X pins σ H s)(h:CE X.stack X.prog X.w H s Q u s'):EP X pins σ Q u s':=by
 obtain⟨v,H',os,bare,un,hok,r,q⟩:=h
 obtain⟨hh,g,d,t,os'⟩:=s'
 obtain rfl:os'=s.os:=os
 exact⟨v,H',I.call (h':=hh) (g':=g) (d':=d) (t':=t) (ch:=[]) un hok bare (fun b z=>absurd z (by simp)),r,q⟩
end
def Fh(sp:Sp)(dvs:List V)(E:XK)(t:TA):TE:=fun σ H Q=>t σ H fun vs H1=>sp (vs++dvs) H1 Q E
def Binds(K:PySem.W.Frag)(fd:FuncData)(ps:List Str)(ds:List Value):Prop :=
 ∀(s:Shared) (us:List Value),K.In s.heap->(us++ds).length=ps.length->BindsTo s fd ⟨us,[]⟩ (ps.zip (us++ds))
theorem Binds.all{K:PySem.W.Frag}{fd:FuncData}{ps:List Str}(h:∀us:List Value,us.length=ps.length->bindArgs fd ⟨us,[]⟩=pure (ps.zip us)):Binds K fd ps []:=fun s us _ hl=>by
 rw[List.append_nil]at hl ⊢
 exact .of_eq (h us hl)
def Jd(CX:CXT)(X:Cx)(E:XK):Prop:=∀(pins:List (Addr×Obj)) (σ:St) (H:Hp) (s:Shared) (e:Value) (s':Shared),Inv X pins σ H s->CX X.stack H s E e s'->X.xe e s'
section
variable {X:Cx} {CX:CXT} {k:Nat} {f C:Addr} {fd:FuncData} {ps:List Str} {sp:Sp} {dvs:List V} {ds:List Value} {E:XK} {x m:Str} {p pos apos:Pos} {e o:Expr} {es:List Expr} {ta:TE} {t:TA}
theorem PX{pins:List (Addr×Obj)}{σ:St}{H:Hp}{s:Shared}{Q:VK}{us:List Value}{vs:List V}(F:FnOk X.prog X.w X.K X.mg X.base CX k f fd ps sp)(hr:Room k X.A)(hb:Binds X.K fd ps ds)(hd:Vals dvs ds)(hx:Jd CX X E)
  (I:Inv X pins σ H s) (r:Vals vs us) (h:sp (vs++dvs) H Q E):wpAny (model X.prog X.w) X.A (call (.ref f) us) (EP X pins σ Q) X.xe s:=by
 have r2:Vals (vs++dvs) (us++ds):=r.append hd
 have hl:(us++ds).length=ps.length:=by rw[<- r2.length];exact F.len _ _ _ _ h
 refine wpAny_call (codeAny_mono (F.run X.A X.stack s H ⟨us,[]⟩ (us++ds) (vs++dvs) Q E hr I.env0 (hb s us I.kIn hl) r2 h) fun r s' hq=>?_)
 cases r with
 |error e=>exact hx pins σ H s e s' I hq
 |ok fl =>
  cases fl with
  |ret u=>exact I.after hq
  |next=>exact False.elim hq
  |brk=>exact False.elim hq
  |cont=>exact False.elim hq
theorem Qg(F:FnOk X.prog X.w X.K X.mg X.base CX k f fd ps sp)(hr:Room k X.A)(hg:Gl X x)(hm:X.mg x=some (.ref f))(hk:PySem.W.keepIn X.K (.ref f)=true)(hb:Binds X.K fd ps ds)(hd:Vals dvs ds)(hx:Jd CX X E)
  (ha:PA X (e::es) t) (hdb:(x==("__debug__":Str))=false:=by decide) (he:starEach (e::es) X.env=(false,eval e X.env)::starEach es X.env:=by rfl) (hpl:(backTo pos (starEach es X.env)).any (·.1)=false:=by rfl) :
  PE X (.Call (.Name x p) (e::es) [] pos) (Fh sp dvs E t):=by
 intro pins s σ H Q I h
 refine wpAny_Call_Name_kw (GH I hg hm ?_ hdb)
 refine PySem.W.callWith_K (h₀:=X.base) I.ok.mod.kin hk (thn (ha pos pins s σ H _ I h) fun us s1 ⟨vs,H1,I1,r,q⟩=>⟨I1.kIn,?_⟩) he hpl
 exact PX F hr hb hd hx I1 r q
theorem Ta(F:FnOk X.prog X.w X.K X.mg X.base CX k f fd ps sp)(hr:Room k X.A)(hg:Gl X x)(hm:X.mg x=some (.ref f))(hk:PySem.W.keepIn X.K (.ref f)=true)(hb:Binds X.K fd ps ds)(hd:Vals dvs ds)(hx:Jd CX X E)
  (hdb:(x==("__debug__":Str))=false:=by decide):PE X (.Call (.Name x p) [] [] pos) (Fh sp dvs E FG):=by
 intro pins s σ H Q I h
 refine wpAny_Call_Name_kw (GH I hg hm ?_ hdb)
 exact PySem.W.callWith_K0 I.kIn hk (PX (us:=[]) F hr hb hd hx I .nil h)
end
section
variable {X:Cx} {CX:CXT} {k:Nat} {f C:Addr} {fd:FuncData} {ps ks:List Str} {sp:Sp} {E:XK} {x m:Str} {p pos apos kpos:Pos} {e o:Expr} {es:List Expr} {kws:List Keyword} {te ta:TE} {t tk:TA} {nm:Option Str}
variable {g:List Value->List Value->List Value} {gV:List V->List V->List V}
end
structure Ei(N P:List Str)(sc:Scope):Prop where
 kind:sc.kind = .function
 co:sc.isCoroutine=false
 gen:sc.isGenerator=false
 nd:N.Nodup
 pre:N.take P.length=P
 par:∀x∈P,sc.names.lookup x=some .local\/sc.names.lookup x=some .cell
 nofree:∀y∈sc.names,y.2≠.free
theorem Mh{kindOf:Str->Option NameKind}{x:Str}:∀{binds:List (Str×Value)} {m:Str->Option Value},(∀v,(x,v)∉binds)->bindL kindOf binds m x=m x
 |[],_,_=>rfl
 |(n,v)::r,m,h=>by
  unfold bindL
  rw[Mh fun w hw=>h w (List.mem_cons_of_mem _ hw)]
  split
  ·have:x≠n:=by rintro rfl;exact h v List.mem_cons_self
   simp[this]
  ·rfl
theorem Mj{kindOf:Str->Option NameKind}{x:Str}:∀{binds:List (Str×Value)} {m:Str->Option Value},(∀v,(x,v)∉binds)->bindC kindOf binds m x=m x
 |[],_,_=>rfl
 |(n,v)::r,m,h=>by
  unfold bindC
  rw[Mj fun w hw=>h w (List.mem_cons_of_mem _ hw)]
  split
  ·rfl
  ·have:x≠n:=by rintro rfl;exact h v List.mem_cons_self
   simp[this]
theorem Mi{kindOf:Str->Option NameKind}{x:Str}{v:Value}:∀{P:List Str} {vs:List Value} {i:Nat} {m:Str->Option Value},P.Nodup->P[i]?=some x->vs[i]?=some v->kindOf x=some .local ->
  bindL kindOf (P.zip vs) m x=some v
 |[],_,_,_,_,h,_,_=>by simp at h
 |_::_,[],_,_,_,_,h,_=>by simp at h
 |p::P,w::vs,0,m,nd,h1,h2,hk=>by
  simp at h1 h2;subst h1;subst h2
  show bindL kindOf ((p,w)::P.zip vs) m p=_
  unfold bindL
  rw[Mh fun v hv=>(List.nodup_cons.mp nd).1 (List.of_mem_zip hv).1,if_pos hk]
  simp
 |p::P,w::vs,i+1,m,nd,h1,h2,hk=>by
  show bindL kindOf ((p,w)::P.zip vs) m x=_
  unfold bindL
  exact Mi (i:=i) (List.nodup_cons.mp nd).2 (by simpa using h1) (by simpa using h2) hk
theorem Ml{kindOf:Str->Option NameKind}{x:Str}{v:Value}:∀{P:List Str} {vs:List Value} {i:Nat} {m:Str->Option Value},P.Nodup->P[i]?=some x->vs[i]?=some v->kindOf x≠some .local ->
  bindC kindOf (P.zip vs) m x=some v
 |[],_,_,_,_,h,_,_=>by simp at h
 |_::_,[],_,_,_,_,h,_=>by simp at h
 |p::P,w::vs,0,m,nd,h1,h2,hk=>by
  simp at h1 h2;subst h1;subst h2
  show bindC kindOf ((p,w)::P.zip vs) m p=_
  unfold bindC
  rw[Mj fun v hv=>(List.nodup_cons.mp nd).1 (List.of_mem_zip hv).1,if_neg hk]
  simp
 |p::P,w::vs,i+1,m,nd,h1,h2,hk=>by
  show bindC kindOf ((p,w)::P.zip vs) m x=_
  unfold bindC
  exact Ml (i:=i) (List.nodup_cons.mp nd).2 (by simpa using h1) (by simpa using h2) hk
def start(N:List Str)(vs:List V):St:=vs.map some++List.replicate (N.length-vs.length) none
def JC(CX:CXT)(P:Program)(w:World)(K:PySem.W.Frag)(mg:Str->Option Value)(base:Heap)(N:List Str)(qual:Str)(scope:Scope)(f:Addr)(cd:Value)(A:Around)(outer:List Env)(s:Shared)(H:Hp)(E:XK):Cx where
 prog:=P
 w:=w
 K:=K
 mg:=mg
 base:=base
 A:=A.deeper (envOfC qual scope s.heap.objs.size f cd)
 N:=N
 s₀:=s
 H₀:=H
 env:=envOfC qual scope s.heap.objs.size f cd
 outer:=outer
 stack:=envOfC qual scope s.heap.objs.size f cd::outer
 ex:=[]
 calm:=true
 fn:=fun _=>true
 pn:=[]
 xe:=fun e s'=>wpAny (model P w) (A.deeper (envOfC qual scope s.heap.objs.size f cd)) (leaving (envOfC qual scope s.heap.objs.size f cd) e) (fun _ s''=>CX outer H s E e s'') (fun e' s''=>CX outer H s E e' s'') s'
theorem O5{sc:Scope}{n:Nat}{x:Str}(h:sc.names.lookup x=some .cell):∃c,(cellsFrom n sc.names []).lookup x=some c:=by
 have q:=PySem.W.cellsFrom_some sc.names n [] (.inl h)
 exact Option.isSome_iff_exists.mp q
theorem MY{CX:CXT}{P:Program}{w:World}{K:PySem.W.Frag}{mg:Str->Option Value}{base:Heap}{N ps:List Str}{qual:Str}{scope:Scope}{f:Addr}{cd:Value}{A:Around}{outer:List Env}{s s1:Shared}{H:Hp}{E:XK}{us:List Value}{vs:List V}
  (S:Ei N ps scope) (hd:A.handled=none) (e0:Ur P w K mg base A outer s H) (hl:vs.length=ps.length) (r:Vals vs us)
  (x:InCallC s s.heap.objs.size (bindL (envOfC qual scope s.heap.objs.size f cd).kindOf (ps.zip us) fun _=>none) (cellsFrom (s.heap.objs.size+1) scope.names []) (bindC (envOfC qual scope s.heap.objs.size f cd).kindOf (ps.zip us) fun _=>none) s1) :
  Inv (JC CX P w K mg base N qual scope f cd A outer s H E) [] (start N vs) H s1:=by
 have hpl:ps.length<=N.length:=by have:=congrArg List.length S.pre;rw[List.length_take]at this;omega
 obtain⟨h1,tk,rfl,hk⟩:=x.done
 have noA:∀b:Addr,b∉(JC CX P w K mg base N qual scope f cd A outer s H E).ex:=fun b z=>absurd (show b∈([]:List Addr) from z) (by simp)
 refine ⟨⟨e0.mod, S.kind, rfl, rfl, Nat.le_refl _, fun y z c h1 h2 => ?_, fun y hy => ?_, fun y c _ h => ?_, fun _ => hd, Around.frames_deeper e0.frames, .inr ⟨rfl, rfl⟩, fun b z => absurd z (noA b), e0.bs, e0.bsz, fun b _ _ => noA b, fun b z => absurd z (noA b), e0.funs, e0.frf⟩,
  rfl,e0.bare,Un.kept hk,⟨_,x.toInCall.ns,fun i y v h1 h2 h3=>?_⟩,fun y c h=>⟨_,x.cell y c h⟩,e0.hok.fresh (Nat.le_refl _),fun y c h=>?_,fun p hp=>absurd (show p∈([]:List (Addr×Obj)) from hp) (by simp),e0.hok.kept hk,?_⟩
 ·exact name_of_addr x.apart (PySem.mem_of_lookup h1) (PySem.mem_of_lookup h2)
 ·have hy:scope.names.lookup y=some .cell\/scope.names.lookup y=some .free:=hy
  rcases hy with hy|hy
  ·exact O5 hy
  ·exact absurd rfl (S.nofree _ (PySem.mem_of_lookup hy))
 ·exact Nat.le_of_lt (x.above y c (PySem.mem_of_lookup h))
 ·have hi:i<vs.length:=by
   unfold start at h2
   by_cases hi:i<vs.length
   ·exact hi
   ·rw[List.getElem?_append_right (by simpa using hi)]at h2
    rw[List.getElem?_replicate]at h2
    split at h2<;>cases h2
  have ha:vs[i]?=some v:=by
   unfold start at h2
   rw[List.getElem?_append_left (by simpa using hi),List.getElem?_map]at h2
   cases e:vs[i]? with
   |none=>rw[e]at h2;cases h2
   |some a=>rw[e]at h2;cases h2;rfl
  obtain⟨u,hu,rv⟩:=r.get ha
  have hp:ps[i]?=some y:=by
   rw[<- S.pre,List.getElem?_take_of_lt (by omega)];exact h1
  have ndP:ps.Nodup:=by rw[<- S.pre];exact S.nd.sublist (List.take_sublist _ _)
  refine⟨u,rv,?_⟩
  rcases S.par y (List.mem_of_getElem? hp)with k|k
  ·exact .inl ⟨k,Mi ndP hp hu k⟩
  ·obtain⟨c,e⟩:=O5 (n:=s.heap.objs.size+1) k
   refine .inr ⟨.inl k,c,e,?_⟩
   have q:=x.cell y c e
   rw[Ml ndP hp hu (by show scope.names.lookup y≠_;rw[k];decide)]at q
   exact q
 ·exact e0.hok.fresh (Nat.le_of_lt (x.above y c (PySem.mem_of_lookup h)))
 ·unfold start
  show _=N.length
  rw[List.length_append,List.length_map,List.length_replicate]
  omega
theorem XE{CX:CXT}{P:Program}{w:World}{K:PySem.W.Frag}{mg:Str->Option Value}{base:Heap}{k:Nat}{f:Addr}{name qual:Str}{params:Arguments}{body:List Stmt}{scope:Scope}{dV kV doc pm cdv ct oc:Value}{an od:Option Addr}
  {osl:Array (Option Value)} {N ps:List Str} {sp:Sp} (lk:K.lookup f=some ⟨oc,od,.func (PySem.W.fnOf name qual params body scope dV kV doc pm an cdv ct),osl⟩) (hcd:PySem.W.codeIn K cdv qual=true) (S:Ei N ps scope)
  (len:∀vs H Q E,sp vs H Q E->vs.length=ps.length)
  (hbody : ∀ (A : Around) (outer : List Env) (s : Shared) (H : Hp) (vs : List V) (Q : VK) (E : XK), Room k (A.deeper (envOfC qual scope s.heap.objs.size f cdv)) -> sp vs H Q E ->
   ∃t,PSs (JC CX P w K mg base N qual scope f cdv A outer s H E) body t/\t { nx:=fun _ H'=>Q .non H',rt:=Q } (start N vs) H) :
  FnOk P w K mg base CX (k+1) f (PySem.W.fnOf name qual params body scope dV kV doc pm an cdv ct) ps sp:=by
 refine⟨len,fun A outer s H args us vs Q E hr e0 hb r hsp=>?_⟩
 have hl:=len _ _ _ _ hsp
 have KX:K.In s.heap:=e0.mod.kin.keeps fun b o e=>(e0.bs b o e).1
 have lim:s.heap.NoLimit:=e0.mod.nolimit.keeps fun b o e=>(e0.bs b o e).1
 have hkind:∀y∈ps.zip us,scope.names.lookup y.1=some .local\/(scope.names.lookup y.1=some .cell/\((cellsFrom (s.heap.objs.size+1) scope.names []).lookup y.1).isSome=true):=fun⟨n,v⟩ hy=>by
  rcases S.par n (List.of_mem_zip hy).1 with q|q
  ·exact .inl q
  ·exact .inr ⟨q,PySem.W.cellsFrom_some _ _ _ (.inl q)⟩
 refine codeAny_call_function hr.depth (KX _ _ lk) rfl S.co S.gen rfl (PySem.W.codeRec_of KX hcd) (hb _ _ _ _ ?_)
 refine wpAny_newFunctionEnv_cells S.kind hkind fun env he s1 x=>?_
 subst he
 refine⟨lim.keeps x.toInCall.keep,codeAny_func ?_⟩
 obtain⟨t,ht,hq⟩:=hbody A outer s H vs Q E (hr.deeper _) hsp
 have I:Inv (JC CX P w K mg base N qual scope f cdv A outer s H E) [] (start N vs) H s1:=MY S hr.hd e0 hl r x
 refine wpAny_mono (ht [] s1 (start N vs) H _ I hq) (fun fl s' hs=>?_) fun e s' hs=>hs
 have fin:∀{σ':St} {H':Hp} {v:V} {u:Value},Inv (JC CX P w K mg base N qual scope f cdv A outer s H E) [] σ' H' s'->RelV v u->Q v H'->CE outer P w H s Q u s' :=
  fun {σ' H' v u} J rv q=>⟨v,H',J.os,J.bare,J.base,J.hok,rv,q⟩
 cases fl with
 |ret u =>
  obtain⟨v,σ',H',J,rv,q⟩:=hs
  exact fin J rv q
 |next =>
  obtain⟨σ',H',J,q⟩:=hs
  exact fin (v:=V.non) (u:=Value.none) J rfl q
 |brk =>
  obtain⟨_,_,_,q⟩:=hs
  exact False.elim q
 |cont =>
  obtain⟨_,_,_,q⟩:=hs
  exact False.elim q
end L2
namespace L2
open PySem PySem.Spec PyProof.Rows
section
variable {X:Cx} {x:Str} {p pos:Pos} {e:Expr} {es:List Expr} {t:TA} {id T:String} {r:List V->Hp->VK->Prop}
def tCB(r:List V->Hp->VK->Prop)(t:TA):TE:=fun σ H Q=>t σ H fun vs H1=>r vs H1 Q
theorem CN(hc:DC X (.builtin id) r)(hg:Gl X x)(hm:X.mg x=none)(hv:bootBuiltins x=some (.builtin id))(ha:PA X (e::es) t)(hn:x≠"__name__":=by decide)(hdb:(x==("__debug__":Str))=false:=by decide)
  (he:starEach (e::es) X.env=(false,eval e X.env)::starEach es X.env:=by rfl) (hpl:(backTo pos (starEach es X.env)).any (·.1)=false:=by rfl):PE X (.Call (.Name x p) (e::es) [] pos) (tCB r t):=by
 intro pins s σ H Q I h
 refine wpAny_Call_Name_kw (LO I hg hm hv ?_ hn hdb)
 exact PyProof.Rows.callWith_builtin1 (thn (ha pos pins s σ H _ I h) fun us s1 ⟨vs,H1,I1,r1,q1⟩=>hc pins s1 σ H1 vs us Q I1 r1 q1) he hpl
theorem RP(hc:DC X (.type T) r)(hg:Gl X x)(hm:X.mg x=none)(hv:bootBuiltins x=some (.type T))(ha:PA X (e::es) t)(hn:x≠"__name__":=by decide)(hdb:(x==("__debug__":Str))=false:=by decide)
  (he:starEach (e::es) X.env=(false,eval e X.env)::starEach es X.env:=by rfl) (hpl:(backTo pos (starEach es X.env)).any (·.1)=false:=by rfl):PE X (.Call (.Name x p) (e::es) [] pos) (tCB r t):=by
 intro pins s σ H Q I h
 refine wpAny_Call_Name_kw (LO I hg hm hv ?_ hn hdb)
 exact PyProof.Rows.callWith_type1 (thn (ha pos pins s σ H _ I h) fun us s1 ⟨vs,H1,I1,r1,q1⟩=>hc pins s1 σ H1 vs us Q I1 r1 q1) he hpl
end
end L2
namespace HT
open PySem PyProof.Rows
section
open PySem.SeqAt
open PySem.AutoSeq1 (wpAny_loadPart')
open PySem.MeetsSeq PySem.MeetsSeq2 PySem.MeetsSeq3
end
section
variable {prog:Program} {w:World} {A:Around} {E:Value->Shared->Prop} {s:Shared}
theorem cat_tup{t b:Addr}{vs ws:List Value}{Q:Value->Shared->Prop}(ht:IsTup s.heap t vs.toArray)(hb:IsTup s.heap b ws.toArray)(hv:vs≠[])
  (h1:ws=[]->Q (.ref t) s) (h2:ws≠[]->Q (.ref s.heap.objs.size) { s with heap:=s.heap.push { cls:=.type "tuple",data:=.seq (vs++ws).toArray } })
  (hsz:vs.length+ws.length<=sizeLine):wpAny (model prog w) A (binaryOp .Add (.ref t) (.ref b)) Q E s:=by
 obtain⟨⟨cls,dd,data,sl⟩,ho,hc,n,hd⟩:=id ht
 obtain⟨⟨cls2,dd2,data2,sl2⟩,ho2,hc2,n2,hd2⟩:=id hb
 simp only at hc hd hc2 hd2
 subst hc hd hc2 hd2
 have e:vs.toArray++ws.toArray=(vs++ws).toArray:=by simp
 by_cases hw:ws=[]
 ·exact concat_meets ⟨_,ho,rfl⟩ ⟨_,ho2,rfl⟩ noFill_tuple_add seq_tuple_add PySem.F.slot_tuple_add PySem.F.entry_tuple_add (PySem.F.args_tuple_add_2 _ _)
   (tuple_addW1 t b vs.toArray ws.toArray n n2 dd dd2 sl sl2 (by simpa using hv) (by simp[hw])) ⟨ho,ho2,h1 hw⟩
 ·refine concat_meets ⟨_,ho,rfl⟩ ⟨_,ho2,rfl⟩ noFill_tuple_add seq_tuple_add PySem.F.slot_tuple_add PySem.F.entry_tuple_add (PySem.F.args_tuple_add_2 _ _)
   (tuple_addW2 t b vs.toArray ws.toArray n n2 dd dd2 sl sl2 (by simpa using hv) (by simpa using hw) (by rw[List.size_toArray,List.size_toArray];exact hsz)) ⟨ho,ho2,?_⟩
  rw[e]
  exact h2 hw
def sIx(n d:Nat):Option Int->Nat
 |none=>d
 |some v=>if v<0 then (v+(n:Int)).toNat else min v.toNat n
theorem Xp(n d:Nat)(hd:d<=n)(o:Option Int):sIx n d o<=n:=by
 cases o with
 |none=>exact hd
 |some v =>
  show(if v<0 then (v+(n:Int)).toNat else min v.toNat n)<=n
  by_cases hv:v<0
  ·rw[if_pos hv];omega
  ·rw[if_neg hv];exact Nat.min_le_right _ _
theorem Q2(v:Int)(n d:Nat):(if v<0 then max (v+(n:Int)) 0 else min v (n:Int))=((sIx n d (some v):Nat):Int):=by
 show(if v<0 then max (v+(n:Int)) 0 else min v (n:Int))=(((if v<0 then (v+(n:Int)).toNat else min v.toNat n):Nat):Int)
 by_cases hv:v<0
 ·simp only[if_pos hv];omega
 ·simp only[if_neg hv];omega
theorem QB(lo hi:Option Int)(n:Nat):Builtin.Slice.sliceAdjust lo hi 1 (n:Int)=(((sIx n 0 lo:Nat):Int),((sIx n n hi:Nat):Int)):=by
 have h1:¬((1:Int)<0):=by omega
 unfold Builtin.Slice.sliceAdjust
 simp only[h1,if_false]
 refine Prod.ext ?_ ?_
 ·cases lo with
  |none=>rfl
  |some v=>exact Q2 v n 0
 ·cases hi with
  |none=>rfl
  |some v=>exact Q2 v n n
theorem Pd(i j:Nat):Builtin.Slice.slicePlaces (i:Int) (j:Int) 1=j-i:=by
 unfold Builtin.Slice.slicePlaces
 have h1:(1:Int)>0:=by omega
 simp only[h1,if_true,Int.ediv_one]
 split<;>omega
theorem Kp{v:Value}{o:Option Int}{Q:Option Int->Shared->Prop}(p:IsPart v o)(h:Q o s):wpAny (model prog w) A (Builtin.Slice.slicePartIndex v) Q E s:=by
 cases p with
 |none=>exact slicePart_none h
 |int i t=>exact slicePart_int h
theorem JL{sl:Addr}{vl vu:Value}{lo hi:Option Int}{n:Nat}{Q:Int×Int×Nat->Shared->Prop}(hs:s.heap.IsSliceOf sl vl vu .none)(pl:IsPart vl lo)(pu:IsPart vu hi)
  (h:Q (((sIx n 0 lo:Nat):Int),1,sIx n n hi-sIx n 0 lo) s):wpAny (model prog w) A (Builtin.Slice.sliceApplied (.ref sl) (pure (n:Int))) Q E s:=by
 obtain⟨os,hos,hcs,hds⟩:=id hs
 unfold Builtin.Slice.sliceApplied Builtin.Slice.sliceFields
 refine wpAny_bind (wpAny_bind (wpAny_field hos hds (x:=vl) rfl (wpAny_bind (wpAny_field hos hds (x:=vu) rfl (wpAny_bind (wpAny_field hos hds (x:=.none) rfl (wpAny_pure ?_)))))))
 refine wpAny_bind (slicePart_none ?_)
 show wpAny _ _ (if ((1:Int)==0)=true then _ else _) _ _ s
 rw[if_neg (by decide)]
 refine wpAny_bind (Kp pl (wpAny_bind (Kp pu (wpAny_bind (wpAny_pure ?_)))))
 show wpAny _ _ (match Builtin.Slice.sliceAdjust lo hi 1 (n:Int) with|(lo,hi)=>pure (lo,(1:Int),Builtin.Slice.slicePlaces lo hi 1)) _ _ s
 rw[QB lo hi n]
 show wpAny _ _ (pure (((sIx n 0 lo:Nat):Int),(1:Int),Builtin.Slice.slicePlaces ((sIx n 0 lo:Nat):Int) ((sIx n n hi:Nat):Int) 1)) _ _ s
 rw[Pd]
 exact wpAny_pure h
theorem TN(xs:Array Value)(i k:Nat):((List.range k).filterMap fun(m:Nat)=>xs[((i:Int)+(m:Int)*1).toNat]?).toArray=((xs.toList.drop i).take k).toArray:=by
 have e:(fun(m:Nat)=>xs[((i:Int)+(m:Int)*1).toNat]?)=fun m=>xs[i+m]?:=by
  funext m
  have:((i:Int)+(m:Int)*1).toNat=i+m:=by omega
  rw[this]
 rw[e]
 have:=pick_run xs i k
 rw[List.filterMap_map]at this
 have e2:((fun x=>xs[x]?)∘fun x=>i+x)=fun m=>xs[i+m]?:=rfl
 rw[e2]at this
 rw[this]
theorem getItem_tuple_cut{t sl:Addr}{items:Array Value}{vl vu:Value}{lo hi:Option Int}{Q:Value->Shared->Prop}(ht:IsTup s.heap t items)(hs:s.heap.IsSliceOf sl vl vu .none)(pl:IsPart vl lo)(pu:IsPart vu hi)
  (hw:¬(sIx items.size 0 lo=0/\sIx items.size items.size hi=items.size))
  (h:Q (.ref s.heap.objs.size) { s with heap:=s.heap.push { cls:=.type "tuple",data:=.seq ((items.toList.drop (sIx items.size 0 lo)).take (sIx items.size items.size hi-sIx items.size 0 lo)).toArray } })
  (hsz:items.size<=sizeLine):wpAny (model prog w) A (getItem (.ref t) (.ref sl)) Q E s:=by
 have htake:sizeOk (.seq ((items.toList.drop (sIx items.size 0 lo)).take (sIx items.size items.size hi-sIx items.size 0 lo)).toArray):=by
  show((items.toList.drop (sIx items.size 0 lo)).take (sIx items.size items.size hi-sIx items.size 0 lo)).toArray.size<=sizeLine
  rw[List.size_toArray,List.length_take,List.length_drop,Array.length_toList]
  omega
 have hj:sIx items.size items.size hi<=items.size:=Xp _ _ (Nat.le_refl _) hi
 obtain⟨os,hos,hcs,hds⟩:=id hs
 have hTs:s.TypeIs (.ref sl) "slice":=⟨os,hos,hcs⟩
 unfold getItem
 try with_reducible refine wpAny_holding ?_
 first|refine wpAny_bind (wpAny_pure ?_)|skip
 refine wpAny_bind (wpAny_sequenceKey ht.typeIs (by decide) ?_)
 refine wpAny_bind (wpAny_callSpecial?_slot (name := Str.ofString "__getitem__") ht.typeIs PyProof.Rows.slot_tuple_getitem
  (wpAny_call_entry PyProof.Rows.slot_tuple_getitem ht.typeIs entry_tuple_getitem ?_ (args_tuple_getitem _ _)))
 show wpAny _ _ (Builtin.Tuple.tupleItemsOf (.ref t) >>= _) _ _ s
 refine wpAny_bind (tupleItemsOf_ ht ?_)
 refine wpAny_bind (wpAny_typeOf hTs ?_)
 rw[if_pos (by decide)]
 refine wpAny_bind (JL hs pl pu ?_)
 have hno:¬((((sIx items.size 0 lo:Nat):Int)==0&&(1:Int)==1&&(sIx items.size items.size hi-sIx items.size 0 lo)==items.size)=true):=by
  intro q
  rw[Bool.and_eq_true,Bool.and_eq_true]at q
  have q1:((sIx items.size 0 lo:Nat):Int)=0:=eq_of_beq q.1.1
  have q2:sIx items.size items.size hi-sIx items.size 0 lo=items.size:=eq_of_beq q.2
  exact hw ⟨by omega,by omega⟩
 show wpAny _ _ (if (((sIx items.size 0 lo:Nat):Int)==0&&(1:Int)==1&&(sIx items.size items.size hi-sIx items.size 0 lo)==items.size)=true then _ else _) _ _ s
 rw[if_neg hno,TN]
 first
  |exact wpAny_bind (m:=Builtin.Tuple.tupleExact _) (wpAny_newObj_type (wpAny_pure ⟨_,rfl,wpAny_pure h⟩) htake)
  |exact wpAny_bind (m:=Builtin.Tuple.tupleExact _) (wpAny_newObj_type (wpAny_bind (wpAny_pure (wpAny_pure ⟨_,rfl,wpAny_pure h⟩))) htake)
  |exact wpAny_bind (wpAny_bind (m:=Builtin.Tuple.tupleExact _) (wpAny_newObj_type (wpAny_pure (wpAny_pure ⟨_,rfl,wpAny_pure h⟩)) htake))
  |exact wpAny_bind (wpAny_bind (m:=Builtin.Tuple.tupleExact _) (wpAny_newObj_type (wpAny_pure ⟨_,rfl,wpAny_pure h⟩) htake))
end
end HT
namespace L2
open PySem PySem.Spec PyProof.Rows
abbrev TO:=St->Hp->(Option Int->Hp->Prop)->Prop
def PO(X:Cx)(e:Option Expr)(t:TO):Prop :=
 ∀(pins:List (Addr×Obj)) (s:Shared) (σ:St) (H:Hp) (Q:Option Int->Hp->Prop),Inv X pins σ H s->t σ H Q ->
  wpAny (model X.prog X.w) X.A (evalPart e X.env) (fun u s'=>∃o H',Inv X pins σ H' s'/\IsPart u o/\Q o H') X.xe s
def QP:TO:=fun _ H Q=>Q none H
def Ws(t:TE):TO:=fun σ H Q=>t σ H fun x H1=>∃i,x = .int i/\Q (some i) H1
section
variable {X:Cx} {e:Expr} {te:TE} {lo hi:Option Expr} {tl th:TO} {pos p2:Pos}
theorem VI:PO X none QP:=by
 intro pins s σ H Q I h
 rw[evalPart_none]
 exact wpAny_pure ⟨none,H,I,.none,h⟩
theorem VH(h:PE X e te):PO X (some e) (Ws te):=by
 intro pins s σ H Q I hw
 rw[evalPart_some]
 refine thn (h pins s σ H _ I hw) fun u s1 ⟨x,H1,I1,r1,q1⟩=>?_
 obtain⟨i,rfl,q⟩:=q1
 obtain⟨t,rfl⟩:=r1
 exact⟨some i,H1,I1,.int i t,q⟩
def SlR(X:Cx)(r:V->Option Int->Option Int->Hp->VK->Prop):Prop :=
 ∀(pins:List (Addr×Obj)) (s:Shared) (σ:St) (H:Hp) (x:V) (v vl vu:Value) (lo hi:Option Int) (sl:Addr) (Q:VK),Inv X pins σ H s->RelV x v->s.heap.IsSliceOf sl vl vu .none->IsPart vl lo->IsPart vu hi->r x lo hi H Q ->
  ∃T id,typeLookup (.type T) "__getitem__"=pure (some (.builtin id))/\s.TypeIs v T/\wpAny (model X.prog X.w) X.A (getItem v (.ref sl)) (EP X pins σ Q) X.xe s
def tSl(r:V->Option Int->Option Int->Hp->VK->Prop)(te:TE)(tl th:TO):TE:=fun σ H Q=>te σ H fun x H1=>tl σ H1 fun l H2=>th σ H2 fun u H3=>r x l u H3 Q
theorem N4{r:V->Option Int->Option Int->Hp->VK->Prop}(hr:SlR X r)(he:PE X e te)(hl:PO X lo tl)(hu:PO X hi th):PE X (.Subscript e (.Slice lo hi none p2) pos) (tSl r te tl th):=by
 intro pins s σ H Q I h
 refine Subscript_ (thn (he pins s σ H _ I h) fun v s1 ⟨x,H1,I1,r1,q1⟩=>?_)
 refine wpAny_Slice (thn (hl pins s1 σ H1 _ I1 q1) fun vl s2 ⟨l,H2,I2,pl,q2⟩=>thn (hu pins s2 σ H2 _ I2 q2) fun vu s3 ⟨u,H3,I3,pu,q3⟩=>?_)
 rw[evalPart_none]
 refine wpAny_pure ?_
 have I4:Inv X pins σ H3 { s3 with heap:=s3.heap.push { cls:=.type "slice",data:=.fields #[vl,vu,.none] } }:=I3.kept (t':=s3.toks) fun b ob q=>Heap.get?_push_of_some _ q
 obtain⟨T,id,hT,ht,hg⟩:=hr pins { s3 with heap:=s3.heap.push { cls:=.type "slice",data:=.fields #[vl,vu,.none] } } σ H3 x v vl vu l u s3.heap.objs.size Q I4 r1 (Heap.IsSliceOf.new ..) pl pu q3
 show wpAny (model X.prog X.w) X.A (subscriptTail e (.Slice lo hi none p2) v (.ref s3.heap.objs.size)) (EP X pins σ Q) X.xe { s3 with heap:=s3.heap.push { cls:=.type "slice",data:=.fields #[vl,vu,.none] } }
 exact tail_any (ops:=[.ref s3.heap.objs.size,v]) ht hT hg (by with_unfolding_all rfl)
def MG(xs:List V)(lo hi:Option Int):List V:=(xs.drop (HT.sIx xs.length 0 lo)).take (HT.sIx xs.length xs.length hi-HT.sIx xs.length 0 lo)
theorem J6(xs:List V)(lo hi:Option Int):(MG xs lo hi).length<=xs.length:=by
 unfold MG
 rw[List.length_take,List.length_drop]
 omega
def Xr(K:PySem.W.Frag):V->Option Int->Option Int->Hp->VK->Prop:=fun x lo hi H Q=>∃a xs,x = .ref a/\SqT K H a xs /\
 ¬(HT.sIx xs.length 0 lo=0/\HT.sIx xs.length xs.length hi=xs.length)/\∀p,H p=none->Q (.ref p) (upd H p (.tup (MG xs lo hi)))
theorem Xo:SlR X (Xr X.K):=by
 intro pins s σ H x v vl vu lo hi sl Q I rx hs pl pu h
 obtain⟨a,xs,rfl,hx,hw,q⟩:=h
 cases rx
 obtain⟨its,r,ht,hz⟩:=I.tuple hx
 have hlen:its.toArray.size=xs.length:=by rw[List.size_toArray];exact r.length.symm
 refine⟨"tuple",_,PyProof.Rows.slot_tuple_getitem.lookup,ht.typeIs,?_⟩
 refine HT.getItem_tuple_cut ht hs pl pu (by rw[hlen];exact hw) ?_ (by rw[hlen];exact hz)
 rw[hlen]
 refine⟨.ref s.heap.objs.size,_,I.laid (t':=s.toks) (o:=.tup (MG xs lo hi)) (fun b ob q=>Heap.get?_push_of_some _ q) (Nat.le_refl _) ?_,rfl,q _ (I.hok.fresh (Nat.le_refl _))⟩
 exact⟨Nat.le_trans (J6 xs lo hi) hz,_,(r.drop (HT.sIx xs.length 0 lo)).take (HT.sIx xs.length xs.length hi-HT.sIx xs.length 0 lo),IsTup.new _ _⟩
def QX(K:PySem.W.Frag):R2:=fun x y H Q=>∃a b xs ys,x = .ref a/\y = .ref b/\SqT K H a xs/\SqT K H b ys/\xs≠[]/\xs.length+ys.length<=sizeLine /\
 (ys=[]->Q (.ref a) H)/\(ys≠[]->∀p,H p=none->Q (.ref p) (upd H p (.tup (xs++ys))))
theorem Vals.nil_iff{xs:List V}{us:List Value}(r:Vals xs us):us=[]↔xs=[]:=by
 cases r with
 |nil=>simp
 |cons _ _=>simp
theorem VY:OpR X (binaryOp .Add) (QX X.K):=by
 intro pins s σ H x y v u Q I rx ry h
 obtain⟨a,b,xs,ys,rfl,rfl,ha,hb,hx,hz,q1,q2⟩:=h
 cases rx
 cases ry
 obtain⟨its,r1,p1,_⟩:=I.tuple ha
 obtain⟨its2,r2,p2,_⟩:=I.tuple hb
 refine HT.cat_tup p1 p2 (fun z=>hx (r1.nil_iff.mp z)) (fun z=>⟨.ref a,H,I,rfl,q1 (r2.nil_iff.mp z)⟩) (fun z=>?_) (by rw[<- r1.length,<- r2.length];exact hz)
 refine⟨.ref s.heap.objs.size,_,I.laid (t':=s.toks) (o:=.tup (xs++ys)) (fun b ob q=>Heap.get?_push_of_some _ q) (Nat.le_refl _) ?_,rfl,q2 (fun w=>z (r2.nil_iff.mpr w)) _ (I.hok.fresh (Nat.le_refl _))⟩
 exact⟨by rw[List.length_append];exact hz,_,r1.append r2,IsTup.new _ _⟩
end
end L2
namespace L2
open PySem PySem.Spec PyProof.Rows
def ixN(n:Nat)(i:Int):Option Nat:=if 0<=i then (if i<n then some i.toNat else none) else if -(n:Int)<=i then some (i+n).toNat else none
def atI{α:Type}(xs:List α)(i:Int):Option α:=(ixN xs.length i).bind fun j=>xs[j]?
theorem Vl{n:Nat}{i:Int}{j:Nat}(h:ixN n i=some j):seqIndex? i n=some j/\j<n/\-(n:Int)<=i/\i<n:=by
 unfold ixN at h
 by_cases h0:0<=i
 ·rw[if_pos h0]at h
  by_cases h1:i<n
  ·rw[if_pos h1]at h
   have e:i.toNat=j:=Option.some.inj h
   exact⟨by rw[seqIndex_of h0 h1,e],by omega,by omega,h1⟩
  ·rw[if_neg h1]at h;cases h
 ·rw[if_neg h0]at h
  by_cases h1:-(n:Int)<=i
  ·rw[if_pos h1]at h
   have e:(i+n).toNat=j:=Option.some.inj h
   exact⟨by rw[seqIndex_neg (by omega) h1,e],by omega,h1,by omega⟩
  ·rw[if_neg h1]at h;cases h
theorem Nm{α:Type}{xs:List α}{i:Int}{v:α}(h:atI xs i=some v):∃j,seqIndex? i xs.length=some j/\xs[j]?=some v/\j<xs.length/\-(xs.length:Int)<=i/\i<xs.length:=by
 unfold atI at h
 cases e:ixN xs.length i with
 |none=>rw[e]at h;cases h
 |some j =>
  rw[e]at h
  obtain⟨h1,h2,h3,h4⟩:=Vl e
  exact⟨j,h1,h,h2,h3,h4⟩
def JF(b:Expr):Prop:=∀o i,subscripted b false o i=operate [o,i] (getItem o i)
def IxR(X:Cx)(r:R2):Prop :=
 ∀(value slice:Expr) (pins:List (Addr×Obj)) (s:Shared) (σ:St) (H:Hp) (x y:V) (v u:Value) (Q:VK),Inv X pins σ H s->RelV x v->RelV y u->r x y H Q ->
  subscripted slice false v u=operate [v,u] (getItem v u)->wpAny (model X.prog X.w) X.A (subscriptTail value slice v u) (EP X pins σ Q) X.xe s
def MtR(X:Cx)(id:String)(r:V->List V->Hp->VK->Prop):Prop :=
 ∀(pins:List (Addr×Obj)) (s:Shared) (σ:St) (H:Hp) (x:V) (xs:List V) (v:Value) (us:List Value) (Q:VK),Inv X pins σ H s->RelV x v->Vals xs us->r x xs H Q ->
  wpAny (model X.prog X.w) X.A (call (.builtin id) (v::us)) (EP X pins σ Q) X.xe s
section
variable {X:Cx} {a b:Expr} {ta tb:TE} {pos:Pos}
theorem LB{r:R2}(hr:IxR X r)(ha:PE X a ta)(hb:PE X b tb)(hs:JF b):PE X (.Subscript a b pos) (tOp r ta tb):=by
 intro pins s σ H Q I h
 exact Subscript_ (Zt ha hb I h fun v u s2 x y H2 I2 rx ry q=>hr a b pins s2 σ H2 x y v u Q I2 rx ry q (hs _ _))
def RK(K:PySem.W.Frag):R2:=fun x y H Q=>∃p xs i v,x = .ref p/\y = .int i/\SqL K H p xs/\atI xs i=some v/\Q v H
def RJ(K:PySem.W.Frag):R2:=fun x y H Q=>∃p xs i v,x = .ref p/\y = .int i/\SqT K H p xs/\atI xs i=some v/\Q v H
def aV:R2:=fun x y H Q=>∃z i c,x = .str z/\y = .int i/\z.length<=sizeLine/\atI z.cps.toList i=some c/\Q (.str ⟨#[c]⟩) H
theorem NT:IxR X (RK X.K):=by
 intro value slice pins s σ H x y v u Q I rx ry h hs
 obtain⟨p,xs,i,z,rfl,rfl,hq,he,q⟩:=h
 cases rx
 obtain⟨t,rfl⟩:=ry
 obtain⟨its,r,pl,hz⟩:=I.list hq
 obtain⟨j,h1,h2,h3,h4,h5⟩:=Nm he
 obtain⟨w,ew,rw'⟩:=r.get h2
 have hl:=r.length
 have hn:=NN
 have fin:EP X pins σ Q w s:=⟨z,H,I,rw',q⟩
 by_cases h0:0<=i
 ·have hj:i.toNat=j:=by
   rw[seqIndex_of h0 h5]at h1
   exact Option.some.inj h1
  exact item_listR pl.isList h0 (by omega) (by rw[hj];simpa using ew) fin hs
 ·have hj:(i+(its.toArray.size:Int)).toNat=j:=by
   rw[seqIndex_neg (by omega) h4]at h1
   rw[List.size_toArray,<- hl]
   exact Option.some.inj h1
  exact subscriptTail_builtinR (x:=w) pl.isList.typeIs slot_list_getitem.lookup
   (wpAny_getItem_list_neg (Q:=fun r s'=>r=w/\EP X pins σ Q r s') pl.isList (by omega) (by rw[List.size_toArray]<;>omega) (by omega) (by rw[hj];simpa using ew) ⟨rfl,fin⟩) hs
theorem Pr:IxR X (RJ X.K):=by
 intro value slice pins s σ H x y v u Q I rx ry h hs
 obtain⟨p,xs,i,z,rfl,rfl,hq,he,q⟩:=h
 cases rx
 obtain⟨t,rfl⟩:=ry
 obtain⟨its,r,pl,hz⟩:=I.tuple hq
 obtain⟨j,h1,h2,h3,h4,h5⟩:=Nm he
 obtain⟨w,ew,rw'⟩:=r.get h2
 have hl:=r.length
 have hn:=NN
 have fin:EP X pins σ Q w s:=⟨z,H,I,rw',q⟩
 exact subscriptTail_builtinR (x:=w) pl.typeIs slot_tuple_getitem.lookup
  (getItem_tuple (j:=j) (Q:=fun r s'=>r=w/\EP X pins σ Q r s') pl (by omega) (by omega) (by rw[List.size_toArray,<- hl];exact h1) (by simpa using ew) ⟨rfl,fin⟩) hs
theorem YU:IxR X aV:=by
 intro value slice pins s σ H x y v u Q I rx ry h hs
 obtain⟨z,i,c,rfl,rfl,hz,he,q⟩:=h
 obtain⟨t,rfl⟩:=rx
 obtain⟨t',rfl⟩:=ry
 obtain⟨j,h1,h2,h3,h4,h5⟩:=Nm he
 have hl:z.cps.toList.length=z.length:=by simp[Str.length]
 rw[hl]at h1 h4 h5
 have hn:=NN
 exact tail_any (typeIs_str s z t) slot_str_getitem.lookup (getItem_str (c := c) (by
  have e1:decide (i < -(2 ^ 63:Int))=false:=decide_eq_false (by omega)
  have e2:decide (i≥2 ^ 63)=false:=decide_eq_false (by omega)
  rw[e1,e2,Bool.or_false]) (by rw[h1];simpa using h2) ⟨.str ⟨#[c]⟩,H,I.tok _,⟨_,rfl⟩,q⟩) hs
theorem Mq(lo hi:Option Int)(n:Nat):(sliceBounds lo hi none n).1=((HT.sIx n 0 lo:Nat):Int)/\(sliceBounds lo hi none n).2.1=((HT.sIx n n hi:Nat):Int)/\(sliceBounds lo hi none n).2.2=1:=by
 refine⟨?_,?_,rfl⟩
 ·cases lo with
  |none=>simp[sliceBounds,HT.sIx]
  |some i =>
   simp only[sliceBounds,HT.sIx,Option.getD_none,show(1:Int)>0 by decide,if_true]
   by_cases h:i<0
   ·simp only[h,if_true]<;>omega
   ·simp only[h,if_false]<;>omega
 ·cases hi with
  |none=>simp[sliceBounds,HT.sIx]
  |some i =>
   simp only[sliceBounds,HT.sIx,Option.getD_none,show(1:Int)>0 by decide,if_true]
   by_cases h:i<0
   ·simp only[h,if_true]<;>omega
   ·simp only[h,if_false]<;>omega
theorem Ls(its:List Value)(lo hi:Option Int):slicePick its.toArray lo hi none=((its.drop (HT.sIx its.length 0 lo)).take (HT.sIx its.length its.length hi-HT.sIx its.length 0 lo)).toArray:=by
 obtain⟨h1,h2,h3⟩:=Mq lo hi its.toArray.size
 unfold slicePick
 rw[h1,h2,h3]
 simp only[sliceRange_one,pick_run,List.size_toArray]<;>rfl
def Xs(K:PySem.W.Frag):V->Option Int->Option Int->Hp->VK->Prop:=fun x lo hi H Q=>∃a xs,x = .ref a/\SqL K H a xs/\∀p,H p=none->Q (.ref p) (upd H p (.lst (MG xs lo hi)))
theorem U6:SlR X (Xs X.K):=by
 intro pins s σ H x v vl vu lo hi sl Q I rx hs pl pu h
 obtain⟨a,xs,rfl,hx,q⟩:=h
 cases rx
 obtain⟨its,r,ht,hz⟩:=I.list hx
 have hlen:=r.length
 refine⟨"list",_,slot_list_getitem.lookup,ht.isList.typeIs,?_⟩
 refine wpAny_getItem_list_slice ht.isList hs pl pu .none (by simp) ?_ (by rw[List.size_toArray]<;>omega)
 rw[Ls,<- hlen]
 refine⟨.ref s.heap.objs.size,_,I.laid (t':=s.toks) (o:=.lst (MG xs lo hi)) (fun b ob q=>Heap.get?_push_of_some _ q) (Nat.le_refl _) ?_,rfl,q _ (I.hok.fresh (Nat.le_refl _))⟩
 exact⟨Nat.le_trans (J6 xs lo hi) hz,_,0,(r.drop (HT.sIx xs.length 0 lo)).take (HT.sIx xs.length xs.length hi-HT.sIx xs.length 0 lo),Heap.get?_push_size _ rfl⟩
theorem Nj:DC X (.type "list") (fun xs H Q=>∃p ys,xs=[.ref p]/\(SqL X.K H p ys\/SqT X.K H p ys)/\∀l,H l=none->Q (.ref l) (upd H l (.lst ys))):=by
 intro pins s σ H xs us Q I r h
 obtain⟨p,ys,rfl,hq,q⟩:=h
 obtain⟨u,rfl,rx⟩:=Hq r
 cases rx
 have fin:∀(its:List Value),Vals ys its->ys.length<=sizeLine->∀(h':Heap) (c':Nat),(∀b o',s.heap.get? b=some o'->h'.get? b=some o') ->
   h'.get? s.heap.objs.size=some { cls:=.type "list",dict:=none,data:=.seq its.toArray c',slots:=#[] }->EP X pins σ Q (.ref s.heap.objs.size) { s with heap:=h' }:=fun its r' hz h' c' kp e =>
  ⟨.ref s.heap.objs.size,_,I.laid (t':=s.toks) kp (Nat.le_refl _) (show ObjOk X.prog X.w _ h' _ (.lst ys) from⟨hz,its,c',r',e⟩),rfl,q _ (I.hok.fresh (Nat.le_refl _))⟩
 rcases hq with hq|hq
 ·obtain⟨its,r',pl,hz⟩:=I.list hq
  have hlen:=r'.length
  obtain⟨o,ho,hc,n,hd⟩:=pl.isList
  exact call_list_seq p (.inl rfl) ho hc hd (fun h' c' kp e=>fin its r' hz h' c' kp e) (by simp only[List.size_toArray]<;>omega)
 ·obtain⟨its,r',pl,hz⟩:=I.tuple hq
  have hlen:=r'.length
  obtain⟨o,ho,hc,n,hd⟩:=pl
  exact call_list_seq p (.inr rfl) ho hc hd (fun h' c' kp e=>fin its r' hz h' c' kp e) (by simp only[List.size_toArray]<;>omega)
theorem MH:DC X (.type "tuple") (fun xs H Q=>∃p ys,xs=[.ref p]/\((SqL X.K H p ys/\∀l,H l=none->Q (.ref l) (upd H l (.tup ys)))\/(SqT X.K H p ys/\Q (.ref p) H))):=by
 intro pins s σ H xs us Q I r h
 obtain⟨p,ys,rfl,h⟩:=h
 obtain⟨u,rfl,rx⟩:=Hq r
 cases rx
 rcases h with ⟨hq,q⟩|⟨hq,q⟩
 ·obtain⟨its,r',pl,hz⟩:=I.list hq
  have hlen:=r'.length
  refine call_tuple_list pl.isList (fun h' kp=>?_) (by simp only[List.size_toArray]<;>omega)
  have I1:Inv X pins σ H { s with heap:=h' }:=I.kept (t':=s.toks) kp
  have I2:Inv X pins σ (upd H h'.objs.size (.tup ys)) { s with heap:=h'.push { cls:=.type "tuple",data:=.seq its.toArray } } :=
   I1.laid (t':=s.toks) (fun b o e=>Heap.get?_push_of_some _ e) (Nat.le_refl _) (show ObjOk X.prog X.w _ _ _ (.tup ys) from⟨hz,its,r',IsTup.new _ _⟩)
  exact⟨.ref h'.objs.size,_,I2,rfl,q _ (I1.hok.fresh (Nat.le_refl _))⟩
 ·obtain⟨its,r',pl,hz⟩:=I.tuple hq
  exact call_tuple_same pl ⟨.ref p,H,I,rfl,q⟩
def tyV(K:PySem.W.Frag)(T:String)(x:V)(H:Hp):Prop:=match x with
 |.str _=>T="str"
 |.int _=>T="int"
 |.ref p=>(T="list"/\∃xs,SqL K H p xs)\/(T="tuple"/\∃o,K.lookup p=some o/\o.cls = .type "tuple"/\o.dict=none) \/
   (T="dict"/\((∃kvs,H p=some (.dK kvs))\/∃kvs,H p=some (.dT kvs)))\/(T="set"/\∃S n,H p=some (.set S n))
 |_=>False
theorem Xh{pins:List (Addr×Obj)}{σ:St}{H:Hp}{s:Shared}{T:String}{x:V}{v:Value}(I:Inv X pins σ H s)(r:RelV x v)(ty:tyV X.K T x H) :
  s.TypeIs v T/\∀a,v = .ref a->∃ob,s.heap.get? a=some ob/\ob.dict=none:=by
 cases x with
 |str z =>
  obtain⟨t,rfl⟩:=r
  cases (show T="str" from ty)
  exact⟨typeIs_str s z t,fun _ e=>nomatch e⟩
 |int i =>
  obtain⟨t,rfl⟩:=r
  cases (show T="int" from ty)
  exact⟨typeIs_int s i t,fun _ e=>nomatch e⟩
 |ref p =>
  cases r
  rcases ty with ⟨rfl,xs,hq⟩|⟨rfl,o,hk,hc,hd⟩|⟨rfl,hk⟩|⟨rfl,S,n,hk⟩
  ·obtain⟨its,_,pl,_⟩:=I.list hq
   refine⟨pl.isList.typeIs,fun a e=>?_⟩
   cases e
   obtain⟨o,n,e,c,hd,_⟩:=pl
   exact⟨o,e,hd⟩
  ·refine⟨⟨o,I.kIn p o hk,hc⟩,fun a e=>?_⟩
   cases e
   exact⟨o,I.kIn _ o hk,hd⟩
  ·have z:∃o,s.heap.get? p=some o/\o.ExactDict:=by
    rcases hk with ⟨kvs,hk⟩|⟨kvs,hk⟩
    ·obtain⟨_,_,_,_,o,_,_,e,ex,_⟩:=I.hok p _ hk
     exact⟨o,e,ex⟩
    ·obtain⟨_,_,_,_,o,_,_,e,ex,_⟩:=I.hok p _ hk
     exact⟨o,e,ex⟩
   obtain⟨o,e,ex⟩:=z
   refine⟨⟨o,e,ex.1⟩,fun a e2=>?_⟩
   cases e2
   exact⟨o,e,ex.2.1⟩
  ·obtain⟨o,_,_,_,e,ex,_⟩:=I.hok p _ hk
   refine⟨⟨o,e,ex.1⟩,fun a e2=>?_⟩
   cases e2
   exact⟨o,e,ex.2.1⟩
 |_=>exact False.elim ty
def tBM(K:PySem.W.Frag)(T:String)(r:V->List V->Hp->VK->Prop)(to:TE)(t:TA):TE:=fun σ H Q=>to σ H fun x H1=>tyV K T x H1/\t σ H1 fun xs H2=>r x xs H2 Q
variable {o e:Expr} {es:List Expr} {to:TE} {t:TA} {name:Str} {apos cpos:Pos} {T id:String} {r:V->List V->Hp->VK->Prop}
theorem W3(pa:PlainAttrs T)(slot:Slot T name id)(hty:typeOf (.builtin id)=pure (.type "method_descriptor"))(hm:MtR X id r)(ho:PE X o to)(ha:PA X (e::es) t)
  (hbase:attributeBase o name X.env (eval o X.env)=eval o X.env:=by rfl)
  (hfew : ((backTo cpos (starEach (e :: es) X.env)).all (fun x => !x.1) && (backToKw cpos (keywordEach [] X.env)).all (fun x => x.1.isSome)
   && decide ((e::es).length+([]:List Keyword).length+(if ([]:List Keyword).isEmpty then 0 else 1)<30))=true:=by rfl)
  (hline:(apos.endLine==cpos.line)=true:=by rfl) (hs:starEach (e::es) X.env=(false,eval e X.env)::starEach es X.env:=by rfl) (hplain:(backTo cpos (starEach es X.env)).any (·.1)=false:=by rfl) :
  PE X (.Call (.Attribute o name apos) (e::es) [] cpos) (tBM X.K T r to t):=by
 intro pins s σ H Q I h
 refine wpAny_Call_method_late hbase hfew hline rfl (thn (ho pins s σ H _ I h) fun v s1 ⟨x,H1,I1,r1,ty,q1⟩=>?_)
 obtain⟨h1,h2⟩:=Xh I1 r1 ty
 refine⟨T,id,pa,slot,hty,h1,h2,?_⟩
 have hA:=ha cpos pins s1 σ H1 _ I1 q1
 rw[hs]at hA ⊢
 refine Calls.callWith_builtin (by show(false||(backTo cpos (starEach es X.env)).any (·.1))=false;rw[hplain]<;>rfl) (Calls.evalArgs_plain ?_)
 exact thn hA fun us s2 ⟨vs,H2,I2,r2,q2⟩=>hm pins s2 σ H2 x vs v us Q I2 r1 r2 q2
end
end L2
namespace L2
open PySem PySem.Spec PyProof.Rows
def MtM(X:Cx)(id:String)(r:V->List V->Hp->VK->Prop):Prop :=
 ∀(pins:List (Addr×Obj)) (s:Shared) (σ:St) (H:Hp) (x:V) (xs:List V) (v:Value) (us:List Value) (Q:VK),Inv X pins σ H s->RelV x v->Vals xs us->r x xs H Q ->
  wpAny (model X.prog X.w) X.A (call (.builtin id) (v::us)) (EP X pins σ Q) X.xe s
theorem Vals.one:∀{x:V} {us:List Value},Vals [x] us->∃u,us=[u]/\RelV x u
 |_,_,.cons r .nil=>⟨_,rfl,r⟩
section
variable {X:Cx} {pins:List (Addr×Obj)} {σ:St} {H:Hp} {s:Shared} {l b:Addr} {xs ys zs:List V}
theorem Inv.lset{its its':List Value}{n:Nat}{f:Array Value->Array Value}{t':Nat}(I:Inv X pins σ H s)(hH:H l=some (.lst xs))
  (e:s.heap.get? l=some { cls:=.type "list",data:=.seq its.toArray n }) (hf:f its.toArray=its'.toArray) (hv:Vals ys its') (hz:ys.length<=sizeLine) :
  Inv X pins σ (upd H l (.lst ys)) { s with heap:=s.heap.update l (Obj.mapSeq f),toks:=t' }:=by
 have q:=PySem.IsL.update e f
 rw[hf]at q
 refine I.write (x:=l) (e:=l) (by rw[hH];exact trivial) (.inl rfl) (fun b' u hb hu=>(Heap.get?_update_other s.heap (Obj.mapSeq f) (Ne.symm hb)).trans hu) ⟨_,q⟩ ?_
 exact⟨hz,its',_,hv,q⟩
theorem Inv.lnew{its:List Value}{t':Nat}(I:Inv X pins σ H s)(hv:Vals ys its)(hz:ys.length<=sizeLine) :
  Inv X pins σ (upd H s.heap.objs.size (.lst ys)) { s with heap:=s.heap.push { cls:=.type "list",data:=.seq its.toArray },toks:=t' } :=
 I.laid (fun _ _ q=>Heap.get?_push_of_some _ q) (Nat.le_refl _) ⟨hz,its,0,hv,Heap.get?_push_size _ rfl⟩
theorem Inv.fresh(I:Inv X pins σ H s):H s.heap.objs.size=none:=I.hok.fresh (Nat.le_refl _)
theorem Inv.lstM(I:Inv X pins σ H s)(hH:H l=some (.lst xs)):xs.length<=sizeLine/\∃(its:List Value) (n:Nat),Vals xs its/\xs.length=its.length/\s.heap.get? l=some { cls:=.type "list",data:=.seq its.toArray n }:=by
 obtain⟨z,its,n,r,e⟩:=I.hok l _ hH
 exact⟨z,its,n,r,r.length,e⟩
end
section
variable {X:Cx}
def QY:V->List V->Hp->VK->Prop:=fun x vs H Q=>∃l xs y,x = .ref l/\vs=[y]/\H l=some (.lst xs)/\xs.length<sizeLine/\Q .non (upd H l (.lst (xs++[y])))
theorem MU:MtM X "list.append" QY:=by
 intro pins s σ H x vs v us Q I rx rv h
 obtain⟨l,xs,y,rfl,rfl,hH,hz,q⟩:=h
 cases rx
 obtain⟨u,rfl,ru⟩:=rv.one
 obtain⟨z,its,n,r,hl,e⟩:=I.lstM hH
 refine call_meets F.slot_list_append ⟨_,e,rfl⟩ F.entry_list_append (F.args_list_append_2 _ _) (PySem.list_append l its.toArray n u (by rw[List.size_toArray];omega)) ⟨e,?_⟩
 refine⟨.non,_,I.lset (its':=its++[u]) hH e (by simp) (r.append (.cons ru .nil)) ?_,rfl,q⟩
 rw[List.length_append,List.length_singleton]
 omega
def Xu:R2:=fun x y H Q=>∃l b xs zs,x = .ref l/\y = .ref b/\H l=some (.lst xs)/\H b=some (.lst zs)/\xs.length+zs.length<=sizeLine/\∀p,H p=none->Q (.ref p) (upd H p (.lst (xs++zs)))
theorem LF:OpR X (binaryOp .Add) Xu:=by
 intro pins s σ H x y v u Q I rx ry h
 obtain⟨l,b,xs,zs,rfl,rfl,hH,hB,hz,q⟩:=h
 cases rx
 cases ry
 obtain⟨z,its,n,r,hl,e⟩:=I.lstM hH
 obtain⟨z2,its2,n2,r2,hl2,e2⟩:=I.lstM hB
 refine PySem.P.add_list e e2 ?_ (by rw[List.size_toArray,List.size_toArray];omega)
 have ea:its.toArray++its2.toArray=(its++its2).toArray:=by simp
 rw[ea]
 exact⟨.ref _,_,I.lnew (t':=s.toks) (r.append r2) (by rw[List.length_append];omega),rfl,q _ I.fresh⟩
end
section
variable {prog:Program} {w:World} {A:Around} {E:Value->Shared->Prop} {s:Shared}
end
section
variable {X:Cx}
end
end L2
namespace Att
open PySem PySem.W PySem.Calls PyProof.Rows
theorem KP{P:Params}{h:Heap}:∀(ns:List Int) (vs:List Value),WellAll P h vs (ns.map WData.int)->IntsAre vs ns:=by
 intro ns
 induction ns with
 |nil =>
  intro vs w
  rw[List.map_nil]at w
  cases w
  exact .nil
 |cons n ns ih =>
  intro vs w
  rw[List.map_cons]at w
  cases w with
  |cons a b =>
   cases a
   exact .cons _ _ (ih _ b)
theorem RE{l:OpenLaw}{n:Nat}(hn:l.most=some n){P:Params}{h:Heap}{args:List WData}{vals:List Value}
  (hpre:l.row.toRowW.claim.pre args=true) (hwl:WellAll P h vals args) :
  ∃a vs ns,vals=[Value.ref a]/\args=[WData.list (ns.map WData.int)]/\h.get? a=some { cls:=.type "list",data:=.seq vs.toArray }/\IntsAre vs ns/\ns.length<=n:=by
 have hsh:WShape.hasAll [] args [.list .int]=true:=(pre_splitW hpre).1
 have hc:l.pre.holds [] { args:=args }=true:=(pre_splitW hpre).2
 obtain⟨d,r,rfl,h1,h2⟩:=hasAllW_cons hsh
 obtain rfl:=hasAllW_nil h2
 obtain⟨xs,rfl,h3⟩:=hasW_list h1
 obtain⟨ns,rfl⟩:=items_int h3
 have hlen:ns.length<=n:=by
  unfold OpenLaw.pre at hc
  have h4:(WTm.not (.lt (.lit (.int (n:Int))) (.len (.arg 0)))).holds [] { args:=[.list (ns.map .int)] }=true:=by
   have h4:=(holds_andW hc).1
   rw[hn]at h4
   exact h4
  have h5:=condW_of h4 (w_not (w_lt w_lit (w_len_list (w_arg rfl))))
  rw[List.length_map]at h5
  refine Nat.le_of_not_lt fun q=>?_
  have q':(n:Int)<((ns.length:Nat):Int):=by omega
  first
   |(rw[decide_eq_true q']at h5;exact absurd h5 (by decide))
   |(simp at h5;omega)
 cases hwl with
 |cons w1 w2 =>
  cases w2
  cases w1 with
  |list ho hall=>exact⟨_,_,ns,rfl,rfl,ho,KP ns _ hall,hlen⟩
theorem RN(l:OpenLaw)(args:List WData):l.row.toRowW.claim.post args (.bool true) args=true :=
 postW_of (r:=l.row.toRowW) (X:=(true==true))
  (show WShape.has [] (.bool true) .bool=true by first|rfl|decide|simp[WShape.has,WShape.arms,WShape.armsAll])
  (show(WTm.eq .res (.lit (.bool true))).value [] { args:=args,res:=some (.bool true),after:=args }=some (.bool (true==true)) from w_eq_bool (w_res rfl) w_lit) rfl
theorem attach_call{l:OpenLaw}{n:Nat}{q:Program}{loose:List Str}{XP:(Str->Option Value)->Heap->Prop}{YP:World->Heap->Prop}{d:DefRec}
  (hn:l.most=some n) (hdf:d.params.defaults=[])
  (call : ∀ (w : World) (s₀ s₁ : Shared) (mg mb : Str -> Option Value) (fa : Addr) (o : Obj) (pm cd doc : Value) (a : Addr) (vs : List Value) (ns : List Int),
   Ground q loose [] XP w s₀ mg mb s₁.heap->YP w s₁.heap ->
   s₁.heap.get? fa=some o->o.data = .func (docDef d.name d.params d.body d.scope pm cd doc)->s₁.heap.CodeRec cd d.name->mg d.name=some (.ref fa) ->
   s₁.heap.get? a=some { cls:=.type "list",data:=.seq vs.toArray }->IntsAre vs ns->ns.length<=n->s₁.gens=#[] ->
   codeAny (model l.prog w) callerA (.call (.ref fa) ⟨[.ref a],[]⟩) (fun r s'=>r = .ok (.ret (.bool true))/\OldK s₁.heap s'.heap/\s'.os=s₁.os/\AllBare s'.gens) s₁) :
  WalkO q loose XP YP l.row.toRowW d [] (fun f vs=>PySem.call f vs):=by
 intro w s₀ s₁ mg mb G Y fa o pm cd doc dV kV ho hd hcd hD hmg hg args vals as hpre hlay hrd hwl hlo
 obtain rfl:dV = .none:=Dflts.none hD hdf
 obtain rfl:kV = .none:=Dflts.noKw hD
 obtain⟨a,vs,ns,rfl,rfl,hobj,hints,hlen⟩:=RE hn hpre hwl
 refine enter_call (codeAny_mono (call w s₀ s₁ mg mb fa o pm cd doc a vs ns G Y ho (fd_plain hd) hcd hmg hobj hints hlen hg) fun r s' hq=>?_)
 obtain⟨rfl,h2,h3,h4⟩:=hq
 exact⟨.inl ⟨.bool true,.bool true,[],rfl,fun _=>rfl,.bool true,RN l _,fun _=>⟨List.Pairwise.nil,fun _ hm=>(nomatch hm)⟩⟩,h2,h3,h4⟩
section
variable {prog:Program} {w:World} {A:Around} {E:Value->Shared->Prop} {s:Shared} {K:Frag}
end
end Att
namespace L2
open PySem PySem.Spec PyProof.Rows
theorem MI:∀{vs:List Value} {ns:List Int},IntsAre vs ns->Vals (ns.map V.int) vs
 |_,_,.nil=>.nil
 |_,_,.cons n t h=>.cons ⟨t,rfl⟩ (MI h)
def Z7(H:Hp):Prop:=∀b,H b=none\/∃o xs,H b=some (.frz o (.lst xs))
theorem Tz{P:Program}{w:World}{K:PySem.W.Frag}{mg mb:Str->Option Value}{CX:CXT}{k:Nat}{fa a:Addr}{fd:FuncData}{x:Str}{sp:Sp}{s₁:Shared}{vs:List Value}{ns:List Int}
  (KX:K.In s₁.heap) (hns:s₁.heap.Ns mainGlobals mg) (hb:s₁.heap.Ns builtinsNs mb) (hbb:∀x:Str,x≠"__name__"->mb x=bootBuiltins x) (hlim:s₁.heap.NoLimit) (hg:s₁.gens=#[])
  (ha:s₁.heap.get? a=some { cls:=.type "list",data:=.seq vs.toArray }) (hi:IntsAre vs ns) (hl:ns.length<=sizeLine) (hr:Room k callerA)
  (F:∀base:Heap,K.In base->base.Ns mainGlobals mg->FnOk P w K mg base CX k fa fd [x] sp) (hbind:∀(s:Shared) (u:Value),BindsTo s fd ⟨[u],[]⟩ [(x,u)])
  (hsp:∀H:Hp,Z7 H->SqL K H a (ns.map V.int)->sp [.ref a] H (fun v _=>v = .bl true) fun _ _ _=>False)
  (hCX:∀H e s',CX [] H s₁ (fun _ _ _=>False) e s'->False) :
  codeAny (model P w) callerA (.call (.ref fa) ⟨[.ref a],[]⟩) (fun r s'=>r = .ok (.ret (.bool true))/\OldK s₁.heap s'.heap/\s'.os=s₁.os/\AllBare s'.gens) s₁:=by
 have rv:=MI hi
 have lenV:=hi.length
 -- from an abstract heap in which nothing but the script may be tracked
 have core:∀H:Hp,Z7 H->SqL K H a (ns.map V.int)->HOk P w H s₁.heap->(∀b,H b≠none->b=a)->(H a≠none->K.lookup a=none) ->
   codeAny (model P w) callerA (.call (.ref fa) ⟨[.ref a],[]⟩) (fun r s'=>r = .ok (.ret (.bool true))/\OldK s₁.heap s'.heap/\s'.os=s₁.os/\AllBare s'.gens) s₁:=by
  intro H hO hS hok hA hK
  have base_of:∀{b:Addr} {o:Obj},s₁.heap.get? b=some o->H b=none->(NY s₁.heap H).get? b=some o:=fun e n=>UA e n
  have noA:∀{b:Addr} {o:Obj} {es:Array DictEntry} {ep:Nat},s₁.heap.get? b=some o->o.data = .dict es ep->H b=none:=fun {b o es ep} e d=>by
   cases q:H b with
   |none=>rfl
   |some u =>
    have e':b=a:=hA b (by rw[q];simp)
    subst e'
    rw[ha]at e;cases e
    have d':Data.seq vs.toArray _=Data.dict es ep:=d
    cases d'
  have nsK:∀{b:Addr} {m:Str->Option Value},s₁.heap.Ns b m->(NY s₁.heap H).Ns b m:=fun {b m} ⟨o,es,ep,e,d,r⟩=>⟨o,es,ep,base_of e (noA e d),d,r⟩
  have hKb : K.In (NY s₁.heap H) := fun b o e => base_of (KX b o e) (by
   cases q:H b with
   |none=>rfl
   |some u =>
    have e':b=a:=hA b (by rw[q];simp)
    subst e'
    rw[hK (by rw[q];simp)]at e;cases e)
  have hM:Mod K mg (NY s₁.heap H):=⟨hKb,nsK hns,⟨mb,nsK hb,hbb⟩,let ⟨mc,h1,h2⟩:=hlim;⟨mc,nsK h1,h2⟩⟩
  have e0:Ur P w K mg (NY s₁.heap H) callerA [] s₁ H:=⟨rfl,hM,fun b o e=>Ve e,Nat.le_of_eq (Rn _ _),trivial,fun b hb=>absurd (show b∈([]:List Addr) from hb) (by simp),hok,.of_eq hg⟩
  refine codeAny_mono ((F _ hKb (nsK hns)).run callerA [] s₁ H ⟨[.ref a],[]⟩ [.ref a] [.ref a] _ _ hr e0 (hbind s₁ (.ref a)) (.cons rfl .nil) (hsp H hO hS)) fun r s' h=>?_
  cases r with
  |error e=>exact(hCX H e s' h).elim
  |ok fl =>
   cases fl with
   |next=>exact False.elim h
   |brk=>exact False.elim h
   |cont=>exact False.elim h
   |ret u =>
    obtain⟨v,H',os,bare,un,hok',r',q⟩:=h
    have q':v = .bl true:=q
    subst q'
    obtain rfl:u=Value.bool true:=r'
    refine⟨rfl,OldK.of_keep fun b o e=>?_,os,bare⟩
    cases q:H b with
    |none=>exact un.keep b o e q (by intro z;exact absurd (show b∈([]:List Addr) from z) (by simp)) (by simp)
    |some u =>
     rcases hO b with z|⟨ob,xs,z⟩
     ·rw[q]at z;cases z
     ·have z2:=un.frzs b ob _ z
      obtain⟨e1,_⟩:=hok b _ z
      obtain⟨e2,_⟩:=hok' b _ z2
      rw[e]at e1;cases e1
      exact e2
 cases hk:K.lookup a with
 |some o =>
  -- the script is one of the module's own objects
  have e:=KX a o hk
  rw[ha]at e
  cases e
  refine core (fun _=>none) (fun _=>.inl rfl) (.inr ⟨_,vs.toArray,_,hk,rfl,rfl,rfl,by rw[List.size_toArray,lenV];exact hl,by simpa using rv⟩) (fun b u z=>by have z':(none:Option HO)=some u:=z;cases z') (fun b z=>absurd rfl z) fun z=>absurd rfl z
 |none =>
  refine core (fun b=>if b=a then some (.frz { cls:=.type "list",data:=.seq vs.toArray } (.lst (ns.map V.int))) else none) (fun b=>?_) (.inl (.inr ⟨{ cls:=.type "list",data:=.seq vs.toArray },if_pos rfl⟩)) (fun b u z=>?_) (fun b z=>?_) fun _=>hk
  ·by_cases hb:b=a
   ·exact .inr ⟨_,_,if_pos hb⟩
   ·exact .inl (if_neg hb)
  ·by_cases hb:b=a
   ·have z':=(if_pos hb).symm.trans z
    cases z'
    subst hb
    exact⟨ha,by rw[List.length_map];exact hl,vs,_,rv,ha⟩
   ·have z':=(if_neg hb).symm.trans z
    cases z'
  ·by_cases hb:b=a
   ·exact hb
   ·exact absurd (if_neg hb) z
end L2
namespace L2
open PySem PySem.Spec PyProof.Rows
theorem walk_of{l:PySem.W.OpenLaw}{n k:Nat}{q:Program}{loose:List Str}{XP:(Str->Option Value)->Heap->Prop}{YP:World->Heap->Prop}{d:DefRec}{K:Params->PySem.W.Frag}{CX:World->CXT}{sp:World->Sp}{x:Str}
  (hn:l.most=some n) (hn2:n<=sizeLine) (hdf:d.params.defaults=[]) (hr:Room k callerA)
  (hY:∀(w:World) (h:Heap),YP w h->(K w.params).In h)
  (F : ∀ (w : World) (mg : Str -> Option Value) (fa : Addr) (h : Heap), (K w.params).In h -> h.Ns mainGlobals mg -> mg d.name = some (.ref fa) ->
   ∃fd:FuncData,(∀(s:Shared) (u:Value),BindsTo s fd ⟨[u],[]⟩ [(x,u)]) /\
    ∀base:Heap,(K w.params).In base->base.Ns mainGlobals mg->FnOk l.prog w (K w.params) mg base (CX w) k fa fd [x] (sp w))
  (hsp:∀(w:World) (H:Hp) (a:Addr) (ns:List Int),ns.length<=n->Z7 H->SqL (K w.params) H a (ns.map V.int)->sp w [.ref a] H (fun v _=>v = .bl true) fun _ _ _=>False)
  (hCX:∀(w:World) (H:Hp) (s:Shared) (e:Value) (s':Shared),CX w [] H s (fun _ _ _=>False) e s'->False) :
  PySem.W.WalkO q loose XP YP l.row.toRowW d [] (fun f vs=>PySem.call f vs):=by
 refine Att.attach_call hn hdf fun w s₀ s₁ mg mb fa o pm cd doc a vs ns G Y ho hd hcd hmg hobj hints hlen hg=>?_
 have KX:=hY w _ Y
 obtain⟨fd,hb,hF⟩:=F w mg fa _ KX G.T.g hmg
 exact Tz KX G.T.g G.T.b G.T.builtins G.T.nolimit hg hobj hints (Nat.le_trans hlen hn2) hr hF hb (fun H hO hS=>hsp w H a ns hlen hO hS) fun H e s'=>hCX w H s₁ e s'
end L2
namespace L2
open PySem PySem.Spec PyProof.Rows
def ER(s:Stmt):Arguments:=match s with
 |.FunctionDef _ a _ _ _ _ _ _ _ _=>a
 |_=>{ posonlyargs:=[],args:=[],vararg:=none,kwonlyargs:=[],kw_defaults:=[],kwarg:=none,defaults:=[] }
def CH(s:Stmt):List Stmt:=match s with
 |.FunctionDef _ _ b _ _ _ _ _ _ _=>b
 |_=>[]
def AZ(s:Stmt):Scope:=match s with
 |.FunctionDef _ _ _ _ _ _ sc _ _ _=>sc
 |_=>{ kind:=.function,names:=[],isGenerator:=false,isCoroutine:=false }
abbrev CX0:CXT:=fun _ _ _ _ _ _=>False
abbrev E0:XK:=fun _ _ _=>False
theorem Tb{X:Cx}:Jd CX0 X E0:=fun _ _ _ _ _ _ _ h=>h.elim
structure Fun(K:PySem.W.Frag)(x qual:Str)(st:Stmt)(f:Addr)(fd:FuncData):Prop where
 ex:∃(oc:Value) (od:Option Addr) (kV doc pm:Value) (an:Option Addr) (cdv ct:Value) (osl:Array (Option Value)),
  fd=PySem.W.fnOf x qual (ER st) (CH st) (AZ st) .none kV doc pm an cdv ct/\K.lookup f=some ⟨oc,od,.func fd,osl⟩/\PySem.W.codeIn K cdv qual=true
 kp:PySem.W.keepIn K (.ref f)=true
section
variable {P:Program} {w:World} {K:PySem.W.Frag} {mg:Str->Option Value} {base:Heap}
theorem Fun.ok{x qual:Str}{st:Stmt}{f:Addr}{fd:FuncData}{N ps:List Str}{k:Nat}{sp:Sp}(F:Fun K x qual st f fd)(S:Ei N ps (AZ st))(len:∀vs H Q E,sp vs H Q E->vs.length=ps.length)
  (hbody : ∀ (cdv : Value) (A : Around) (outer : List Env) (s : Shared) (H : Hp) (vs : List V) (Q : VK) (E : XK), Room k (A.deeper (envOfC qual (AZ st) s.heap.objs.size f cdv)) -> sp vs H Q E ->
   ∃t,PSs (JC CX0 P w K mg base N qual (AZ st) f cdv A outer s H E).nox (CH st) t/\t { nx:=fun _ H'=>Q .non H',rt:=Q } (start N vs) H):FnOk P w K mg base CX0 (k+1) f fd ps sp:=by
 obtain⟨oc,od,kV,doc,pm,an,cdv,ct,osl,rfl,lk,hcd⟩:=F.ex
 refine XE lk hcd S len fun A outer s H vs Q E hr hsp=>?_
 obtain⟨t,h,q⟩:=hbody cdv A outer s H vs Q E hr hsp
 exact⟨t,h.nox,q⟩
theorem Fun.binds{x qual:Str}{st:Stmt}{f:Addr}{fd:FuncData}{ps:List Str}(F:Fun K x qual st f fd)
  (h:∀(kV doc pm:Value) (an:Option Addr) (cdv ct:Value) (us:List Value),us.length=ps.length->bindArgs (PySem.W.fnOf x qual (ER st) (CH st) (AZ st) .none kV doc pm an cdv ct) ⟨us,[]⟩=pure (ps.zip us)):Binds K fd ps []:=by
 obtain⟨oc,od,kV,doc,pm,an,cdv,ct,osl,rfl,lk,hcd⟩:=F.ex
 exact .all (h kV doc pm an cdv ct)
theorem Yg{x qual:Str}{st:Stmt}{f:Addr}{oc:Value}{od an:Option Addr}{osl:Array (Option Value)}{kV doc pm cdv ct:Value}(l:K.lookup f=some ⟨oc,od,.func (PySem.W.fnOf x qual (ER st) (CH st) (AZ st) .none kV doc pm an cdv ct),osl⟩)
  (c:PySem.W.codeIn K cdv qual=true) (k:PySem.W.keepIn K (.ref f)=true):Fun K x qual st f (PySem.W.fnOf x qual (ER st) (CH st) (AZ st) .none kV doc pm an cdv ct):=⟨⟨oc,od,kV,doc,pm,an,cdv,ct,osl,rfl,l,c⟩,k⟩
end
section
variable {X:Cx}
theorem pv(i:Nat){x:Str}{pos:Pos}(hN:X.N[i]?=some x:=by rfl)(hv:Vis X.env.scope x:=by first|exact Or.inl rfl|exact Or.inr (Or.inl rfl)|exact Or.inr (Or.inr rfl))(hd:(x==("__debug__":Str))=false:=by decide)
  (hcd:(x==("__classdict__":Str))=false:=by decide):PE X (.Name x pos) (Eb i):=Mv hN hv hd hcd
end
def Same(H H':Hp):Prop:=∀b o,H b=some o->H' b=some o
theorem Same.trans{H H1 H2:Hp}(a:Same H H1)(b:Same H1 H2):Same H H2:=fun c o h=>b c o (a c o h)
theorem Same.seq{K:PySem.W.Frag}{H H':Hp}{a:Addr}{xs:List V}(e:Same H H')(h:SqL K H a xs):SqL K H' a xs:=by
 rcases h with (h|⟨o,h⟩)|h
 ·exact .inl (.inl (e _ _ h))
 ·exact .inl (.inr ⟨o,e _ _ h⟩)
 ·exact .inr h
end L2
end
section
namespace L2
open PySem PySem.Spec PyProof.Rows
def Bd(n:Nat)(x:Int):Prop:=x.natAbs<2 ^ n
theorem Bd.mono{m n:Nat}{x:Int}(h:Bd m x)(k:m<=n):Bd n x:=Nat.lt_of_lt_of_le h (Nat.pow_le_pow_right (by decide) k)
theorem Bd.bits{n:Nat}{x:Int}(h:Bd n x):Builtin.Int.intBits x<=n+1:=by
 unfold Builtin.Int.intBits
 split
 ·exact Nat.zero_le _
 ·have:x.natAbs.log2<=n:=by
   rcases Nat.eq_zero_or_pos x.natAbs with h0|hp
   ·rw[h0];simp
   ·exact Nat.le_of_lt ((Nat.log2_lt (Nat.ne_of_gt hp)).mpr h)
  omega
theorem Bd.log{n:Nat}{x:Int}(h:Bd n x):x.natAbs.log2<=n:=by
 rcases Nat.eq_zero_or_pos x.natAbs with h0|hp
 ·rw[h0];simp
 ·exact Nat.le_of_lt ((Nat.log2_lt (Nat.ne_of_gt hp)).mpr h)
theorem Bd.of{n:Nat}{x m:Int}(h1:-m<=x)(h2:x<=m)(hm:m.natAbs<2 ^ n):Bd n x:=by
 unfold Bd
 omega
section
variable {X:Cx}
def CMulB(i j:Int):Prop:=CMul i j\/(Bd 8000 i/\Bd 8000 j)
theorem CMulB.ok{i j:Int}(h:CMulB i j):IntMulOk i j:=by
 rcases h with h|⟨h,k⟩
 ·exact h.ok
 ·have a:=h.bits
  have b:=k.bits
  have e:(2:Nat) ^ 20=1048576:=by decide
  exact IntMulOk.of_bits (by omega) (by omega)
theorem VV:OpR X (binaryOp .Mult) (rI CMulB fun i j=>.int (i*j)):=opI fun _ _ _ _ _ _ _ hc q=>mul_int q hc.ok
def O8(i j:Int):Prop:=0<j/\Bd 8000 j
theorem Td:OpR X (binaryOp .FloorDiv) (rI O8 fun i j=>.int (i / j)):=opI fun i j _ _ _ _ _ hc q=>by
 have:=hc.2.log
 rw[<- Int.fdiv_eq_ediv_of_nonneg _ (Int.le_of_lt hc.1)]at q
 exact floordiv_int (by have:=hc.1;omega) q (.inl (PyProof.noPylong_of_log2 (by omega)))
def XS(i j:Int):Prop:=j≠0/\Bd 8000 j
end
mutual
def Is(H:Hp):PyData->V->Prop
 |.none,v=>v = .non
 |.bool b,v=>v = .bl b
 |.int i,v=>v = .int i
 |.str x,v=>v = .str x
 |.tuple ds,v=>∃a vs,v = .ref a/\H a=some (.tup vs)/\IsL H ds vs
 |.list ds,v=>∃a vs,v = .ref a/\H a=some (.lst vs)/\IsL H ds vs
 |.dict _,_=>False
def IsL(H:Hp):List PyData->List V->Prop
 |[],vs=>vs=[]
 |d::ds,vs=>∃x xs,vs=x::xs/\Is H d x/\IsL H ds xs
end
mutual
def DN:PyData->Bool
 |.none=>true
 |.bool _=>true
 |.int _=>true
 |.str _=>true
 |.tuple ds=>fixDs ds
 |.list _=>false
 |.dict _=>false
def fixDs:List PyData->Bool
 |[]=>true
 |d::ds=>DN d&&fixDs ds
end
section
variable {X:Cx} {pins:List (Addr×Obj)} {σ:St} {H:Hp} {s:Shared}
end
def okD(d:PyData):Bool:=SeqAt.shaped d
section
variable {X:Cx}
theorem Gi{es:List PyData}(h:okD (.list es)=true):PyData.canLayAll0 es=true/\PyData.depthAll es<=63:=by
 unfold okD SeqAt.shaped at h
 rw[Bool.and_eq_true]at h
 obtain⟨h1,h2⟩:=h
 have h3:=of_decide_eq_true h2
 simp only[PyData.depth]at h3
 exact⟨by simpa only[PyData.canLay0] using h1,by omega⟩
theorem Eo{d:PyData}(h:okD d=true):d.canLay0=true:=by
 unfold okD SeqAt.shaped at h
 rw[Bool.and_eq_true]at h
 exact h.1
end
structure Cal(P:Program)(w:World)(K:PySem.W.Frag)(mg:Str->Option Value)(base:Heap)(k:Nat)(x:Str)(ps:List Str)(sp:Sp):Prop where
 ex:∃f fd,FnOk P w K mg base CX0 k f fd ps sp/\Binds K fd ps []/\PySem.W.keepIn K (.ref f)=true/\mg x=some (.ref f)
theorem Cal.mono{P:Program}{w:World}{K:PySem.W.Frag}{mg:Str->Option Value}{base:Heap}{j k:Nat}{x:Str}{ps:List Str}{sp:Sp}(C:Cal P w K mg base j x ps sp)(h:j<=k):Cal P w K mg base k x ps sp:=by
 obtain⟨f,fd,F,b,kp,m⟩:=C.ex
 exact⟨f,fd,F.mono h,b,kp,m⟩
theorem Cal.of{P:Program}{w:World}{K:PySem.W.Frag}{mg:Str->Option Value}{base:Heap}{k:Nat}{x:Str}{ps:List Str}{sp:Sp}{f:Addr}{fd:FuncData}{st:Stmt}(F:Fun K x x st f fd)(ok:FnOk P w K mg base CX0 k f fd ps sp)(b:Binds K fd ps [])(m:mg x=some (.ref f)):Cal P w K mg base k x ps sp:=⟨f,fd,ok,b,F.kp,m⟩
section
variable {X:Cx} {k:Nat} {ps:List Str} {sp:Sp} {x:Str} {p pos:Pos} {e:Expr} {es:List Expr} {t:TA}
theorem TZ(C:Cal X.prog X.w X.K X.mg X.base k x ps sp)(hr:Room k X.A)(hg:Gl X x)(ha:PA X (e::es) t)(hdb:(x==("__debug__":Str))=false:=by decide)
  (he:starEach (e::es) X.env=(false,eval e X.env)::starEach es X.env:=by rfl) (hpl:(backTo pos (starEach es X.env)).any (·.1)=false:=by rfl) :
  PE X (.Call (.Name x p) (e::es) [] pos) (Fh sp [] E0 t):=by
 obtain⟨f,fd,F,b,kp,m⟩:=C.ex
 exact Qg F hr hg m kp b .nil Tb ha hdb he hpl
end
theorem W2{X:Cx}{x:Str}{T:String}{pos:Pos}(hg:Gl X x)(hm:X.mg x=none)(hv:bootBuiltins x=some (.type T))(hn:x≠"__name__")(hd:(x==("__debug__":Str))=false):PE X (.Name x pos) (tC (.ty T)):=VR hg hm hv rfl hn hd
theorem VU{X:Cx}:OpR X (compareOp .IsNot) (fun x y H Q=>∃b c,x = .bl b/\y = .bl c/\Q (.bl (!(b==c))) H):=by
 intro pins s σ H x y v u Q I rx ry h
 obtain⟨b,c,rfl,rfl,q⟩:=h
 cases rx
 cases ry
 exact PyProof.Rows.isnot_bool ⟨.bl _,H,I,rfl,q⟩
theorem Ax{H:Hp}{p:Addr}(h:H p=none)(o:HO):Same H (upd H p o):=fun b u q=>by rw[BF (A9 q h)];exact q
theorem T1{K:PySem.W.Frag}(T:String):PySem.W.kitOne K (.type T) (.type T)=some true:=by
 unfold PySem.W.kitOne
 rw[if_pos (beq_self_eq_true _)]
theorem YN{K:PySem.W.Frag}{t T:String}{b:Bool}(h1:(Value.type t==Value.type T)=false)(h2:PySem.W.kitMeta T=true)(h3:(PySem.fastBuiltinMro t).map (·.contains (Value.type T))=some b):PySem.W.kitOne K (.type t) (.type T)=some b:=by
 unfold PySem.W.kitOne PySem.W.kitCls
 rw[h1,if_neg Bool.false_ne_true]
 simp only[h2,if_true]
 exact h3
end L2
end
section
namespace L2
open PySem PySem.Spec PyProof.Rows
theorem Ni{env:Env}:∀(names:List (Str×NameKind)) (cs:List (Str×Addr)),(∀x,(x,NameKind.free)∈names->∃c,env.cells.lookup x=some c) ->
  (∀x c,cs.lookup x=some c->env.cells.lookup x=some c) ->
  ∃ cl, (forIn names cs fun (x : Str × NameKind) (r : List (Str × Addr)) => match x with
   |(name,kind)=>if (kind==NameKind.free)=true then do let c <- cellOf env name;pure (ForInStep.yield ((name,c)::r)) else pure (ForInStep.yield r):Sem (List (Str×Addr)))=pure cl /\
   (∀x c,cl.lookup x=some c->env.cells.lookup x=some c)/\(∀x,(x,NameKind.free)∈names->∃c,cl.lookup x=some c)/\(∀x c,cs.lookup x=some c->∃c',cl.lookup x=some c')
 |[],cs,_,h2=>⟨cs,rfl,h2,fun x hx=>by simp at hx,fun x c e=>⟨c,e⟩⟩
 |(n,k)::r,cs,h1,h2=>by
  by_cases hk:k = .free
  ·subst hk
   obtain⟨c,hc⟩:=h1 n List.mem_cons_self
   have hh:∀x c',((n,c)::cs).lookup x=some c'->env.cells.lookup x=some c':=by
    intro x c' e
    rw[List.lookup_cons]at e
    cases q:x==n with
    |true=>rw[q]at e;cases e;rw[eq_of_beq q];exact hc
    |false=>rw[q]at e;exact h2 x c' e
   obtain⟨cl,e,a,b,d⟩:=Ni (env:=env) r ((n,c)::cs) (fun x hx=>h1 x (List.mem_cons_of_mem _ hx)) hh
   refine⟨cl,?_,a,fun x hx=>?_,fun x c' e'=>?_⟩
   ·rw[List.forIn_cons]
    have ec:cellOf env n=pure c:=by
     unfold cellOf
     rw[hc]
    simp only[beq_self_eq_true,if_true]
    rw[ec]
    exact e
   ·rcases List.mem_cons.mp hx with z|z
    ·cases z
     exact d n c (by rw[List.lookup_cons,beq_self_eq_true])
    ·exact b x z
   ·cases q:x==n with
    |true=>exact d x c (by rw[List.lookup_cons,q])
    |false=>exact d x c' (by rw[List.lookup_cons,q];exact e')
  ·obtain⟨cl,e,a,b,d⟩:=Ni (env:=env) r cs (fun x hx=>h1 x (List.mem_cons_of_mem _ hx)) h2
   refine⟨cl,?_,a,fun x hx=>?_,d⟩
   ·rw[List.forIn_cons]
    have hb:(k==NameKind.free)=false:=by simpa using hk
    simp only[hb,Bool.false_eq_true,if_false]
    exact e
   ·rcases List.mem_cons.mp hx with z|z
    ·cases z;exact absurd rfl hk
    ·exact b x z
theorem Nh{env:Env}{scope:Scope}(h:∀x,(x,NameKind.free)∈scope.names->∃c,env.cells.lookup x=some c) :
  ∃cl,closureFor scope env=pure cl/\(∀x c,cl.lookup x=some c->env.cells.lookup x=some c)/\(∀x,(x,NameKind.free)∈scope.names->∃c,cl.lookup x=some c):=by
 obtain⟨cl,e,a,b,_⟩:=Ni (env:=env) scope.names [] h (fun x c e=>by simp at e)
 refine⟨cl,?_,a,b⟩
 exact(congrArg (fun m:Sem (List (Str×Addr))=>m >>= fun r=>(pure r:Sem (List (Str×Addr)))) e).trans rfl
theorem Ru{prog:Program}{w:World}{A:Around}{R:Result->Shared->Prop}{s:Shared}{elt target iter:Expr}{ifs:List Expr}{scope:Scope}{pos:Pos}{it acc:Value}{env:Env}(I:Nat->Shared->Prop)
  (turn : ∀ n s, I n s -> wpAny (model prog w) A (pyNext it) (fun r s₁ => match r with
   |none=>R (.ok .next) s₁
   | some v => wpAny (model prog w) A (letOwnedTupleGo target it v) (fun _ s₁ => wpAny (model prog w) A (assign target env v) (fun _ s₂ =>
     wpAny (model prog w) A (forIn ifs true fun c r => if r = true then do let ok <- isTrue c env (eval c env); pure (ForInStep.yield ok) else pure (ForInStep.yield r)) (fun ok s₃ =>
      if ok = true then wpAny (model prog w) A (eval elt env) (fun x s₄ =>
       wpAny (model prog w) A (call (.builtin "list.append") [acc,x]) (fun _ s₅=>∃m,m<n/\I m s₅) (fun _ _=>False) s₄) (fun _ _=>False) s₃
      else ∃m,m<n/\I m s₃) (fun _ _=>False) s₂) (fun _ _=>False) s₁) (fun _ _=>False) s₁) (fun _ _=>False) s)
  (n:Nat) (h:I n s) :
  codeAny (model prog w) A (.compLoop (.ListComp elt [⟨target,iter,ifs,0⟩] scope pos) 0 it acc env) R s:=by
 refine codeAny_loop rfl I (fun n s hI=>?_) n h
 show wpAny _ A ((compTurn (.ListComp elt [⟨target,iter,ifs,0⟩] scope pos) 0 it acc env).onRaise (fun x=>do noteFrame x env;theTreesLotGoes x)) _ _ s
 refine wpAny_noted ?_
 rw[compTurn_list]
 refine wpAny_bind (wpAny_standAt (wpAny_bind (wpAny_mono (turn n s hI) (fun r s₁ h₁=>?_) fun _ _ h'=>h'.elim)))
 cases r with
 |none=>exact wpAny_pure h₁
 |some v =>
  refine wpAny_bind (wpAny_mono h₁ (fun _ s₁ h₁=>?_) fun _ _ h'=>h'.elim)
  refine wpAny_bind (wpAny_mono h₁ (fun _ s₂ h₂=>wpAny_bind (wpAny_mono h₂ (fun ok s₃ h₃=>?_) fun _ _ h'=>h'.elim)) fun _ _ h'=>h'.elim)
  cases ok with
  |false=>exact wpAny_pure ⟨rfl,h₃⟩
  |true =>
   exact wpAny_bind (wpAny_bind (wpAny_mono h₃ (fun x s₄ h₄=>wpAny_bind (wpAny_mono h₄ (fun _ s₅ h₅=>wpAny_pure (wpAny_pure ⟨rfl,h₅⟩)) fun _ _ h'=>h'.elim)) fun _ _ h'=>h'.elim))
theorem Hw{env:Env}:∀{names:List (Str×NameKind)} {x:Str} {k:NameKind},names.lookup x=some k ->
  (names.map fun(n,k)=>if (k==NameKind.free&&env.scope.kind==.function&&env.kindOf n==some .cell) then (n,NameKind.cell) else (n,k)).lookup x=some k \/
  (k = .free/\(names.map fun(n,k)=>if (k==NameKind.free&&env.scope.kind==.function&&env.kindOf n==some .cell) then (n,NameKind.cell) else (n,k)).lookup x=some .cell)
 |[],_,_,h=>by simp at h
 |(n,k')::r,x,k,h=>by
  rw[List.map_cons]
  dsimp only
  cases hx:x==n with
  |true =>
   simp only[List.lookup_cons,hx]at h
   have e:k=k':=(Option.some.inj h).symm
   subst e
   by_cases hc:(k==NameKind.free&&env.scope.kind==.function&&env.kindOf n==some .cell)=true
   ·rw[if_pos hc]
    refine .inr ⟨?_,by simp only[List.lookup_cons,hx]⟩
    simp only[Bool.and_eq_true]at hc
    exact eq_of_beq hc.1.1
   ·rw[if_neg hc]
    exact .inl (by simp only[List.lookup_cons,hx])
  |false =>
   simp only[List.lookup_cons,hx]at h
   have ih:=@Hw env r x k h
   by_cases hc:(k'==NameKind.free&&env.scope.kind==.function&&env.kindOf n==some .cell)=true
   ·rw[if_pos hc];simp only[List.lookup_cons,hx];exact ih
   ·rw[if_neg hc];simp only[List.lookup_cons,hx];exact ih
theorem GA{env:Env}:∀{names:List (Str×NameKind)} {x:Str} {k:NameKind},(∀y∈names,y.2≠.cell) ->
  (names.map fun(n,k)=>if (k==NameKind.free&&env.scope.kind==.function&&env.kindOf n==some .cell) then (n,NameKind.cell) else (n,k)).lookup x=some k->(k = .cell\/k = .free)->(x,NameKind.free)∈names
 |[],_,_,_,h,_=>by simp at h
 |(n,k')::r,x,k,nc,h,hk=>by
  rw[List.map_cons]at h
  dsimp only at h
  cases hx:x==n with
  |true =>
   have e:=eq_of_beq hx
   subst e
   by_cases hc:(k'==NameKind.free&&env.scope.kind==.function&&env.kindOf x==some .cell)=true
   ·simp only[Bool.and_eq_true]at hc
    rw[eq_of_beq hc.1.1]
    exact List.mem_cons_self
   ·rw[if_neg hc,List.lookup_cons,hx]at h
    cases h
    rcases hk with rfl|rfl
    ·exact absurd rfl (nc _ List.mem_cons_self)
    ·exact List.mem_cons_self
  |false =>
   refine List.mem_cons_of_mem _ (GA (env:=env) (fun y hy=>nc y (List.mem_cons_of_mem _ hy)) ?_ hk)
   by_cases hc:(k'==NameKind.free&&env.scope.kind==.function&&env.kindOf n==some .cell)=true
   ·rw[if_pos hc,List.lookup_cons,hx]at h;exact h
   ·rw[if_neg hc,List.lookup_cons,hx]at h;exact h
theorem Gq{scope:Scope}{env:Env}{x:Str}(h:scope.names.lookup x=some .local):(relabel scope env).names.lookup x=some .local:=lookup_relabel_local h
theorem U8{scope:Scope}{env:Env}{x:Str}(h:scope.names.lookup x=some .globalImplicit):(relabel scope env).names.lookup x=some .globalImplicit:=by
 rcases Hw (env:=env) h with z|⟨z,_⟩
 ·exact z
 ·cases z
theorem Ms{scope:Scope}{env:Env}{x:Str}(h:scope.names.lookup x=some .free):(relabel scope env).names.lookup x=some .cell\/(relabel scope env).names.lookup x=some .free:=by
 rcases Hw (env:=env) h with z|⟨_,z⟩
 ·exact .inr z
 ·exact .inl z
theorem JH{scope:Scope}{env:Env}{x:Str}(h:scope.names.lookup x=some .local):Vis (relabel scope env) x:=.inl (Gq h)
theorem SN{scope:Scope}{env:Env}{x:Str}(h:scope.names.lookup x=some .free):Vis (relabel scope env) x:=(Ms h).elim (fun z=>.inr (.inl z)) fun z=>.inr (.inr z)
theorem MW{scope:Scope}{env:Env}{x:Str}(h:scope.names.lookup x=some .local):Loc (relabel scope env) x:=.inl (Gq h)
def blk(own:Nat)(fr:List Nat)(σ:St):St:=List.replicate own none++fr.map fun j=>(σ[j]?).join
def cxC(X:Cx)(N':List Str)(scope:Scope)(cl:List (Str×Addr))(fp:List Addr)(s3:Shared)(H3:Hp):Cx:={ X with
 N:=N',s₀:=s3,H₀:=H3,env:=compEnvC scope cl s3.heap.objs.size X.env,outer:=X.stack,stack:=X.stack,ex:=fp,fn:=fun _=>false,pn:=[],xe:=fun _ _=>False }
structure QC(X:Cx)(N':List Str)(own:Nat)(fr:List Nat)(scope:Scope):Prop where
 kind:scope.kind = .function
 len:N'.length=own+fr.length
 cell:∀y∈scope.names,y.2≠.cell
 names:∀y∈scope.names,y.2 = .local->scope.names.lookup y.1=some .local
 free:∀x,(x,NameKind.free)∈scope.names->X.env.scope.names.lookup x=some .cell\/X.env.scope.names.lookup x=some .free
 slot:∀k j,fr[k]?=some j->∃x,N'[own+k]?=some x/\X.N[j]?=some x/\scope.names.lookup x=some .free
theorem Wd{own:Nat}{fr:List Nat}{σ:St}{i:Nat}{v:V}(h:(blk own fr σ)[i]?=some (some v)):∃k j,i=own+k/\fr[k]?=some j/\σ[j]?=some (some v):=by
 unfold blk at h
 by_cases hi:i<own
 ·rw[List.getElem?_append_left (by simpa using hi),List.getElem?_replicate,if_pos hi]at h
  cases h
 ·rw[List.getElem?_append_right (by simpa using hi),List.length_replicate,List.getElem?_map]at h
  cases e:fr[i-own]? with
  |none=>rw[e]at h;cases h
  |some j =>
   rw[e]at h
   simp only[Option.map_some,Option.some.injEq]at h
   refine⟨i-own,j,by omega,e,?_⟩
   cases q:σ[j]? with
   |none=>rw[q]at h;cases h
   |some o=>rw[q]at h;cases o with
    |none=>cases h
    |some u=>cases h;rfl
section
variable {X:Cx} {N':List Str} {own:Nat} {fr:List Nat} {scope:Scope}
theorem Vp{pins:List (Addr×Obj)}{σ:St}{H3:Hp}{s3:Shared}{cl:List (Str×Addr)}{fp:List Addr}{h4:Heap}{tk:Nat}(ok:QC X N' own fr scope)(I:Inv X pins σ H3 s3)(f2:∀b∈fp,IM X pins H3 b)(flt:∀b∈fp,b<s3.heap.objs.size)
  (cl1:∀x c,cl.lookup x=some c->X.env.cells.lookup x=some c) (cl2:∀x,(x,NameKind.free)∈scope.names->∃c,cl.lookup x=some c)
  (m4:Str->Option Value) (n4:h4.Ns s3.heap.objs.size m4) (k4:∀b o,s3.heap.get? b=some o->h4.get? b=some o) :
  Inv (cxC X N' scope cl fp s3 H3) [] (blk own fr σ) H3 { s3 with heap:=h4,toks:=tk }:=by
 have stk:∀b,b∈frs X.stack->b∈X.env.locals::X.fs:=I.stkSub
 have exfs:∀b∈fp,b∉frs X.stack:=fun b hb z=>by
  rcases List.mem_cons.mp (stk b z)with e|e
  ·exact(f2 b hb).2.1 e
  ·exact(f2 b hb).2.2.1 e
 have okk:(cxC X N' scope cl fp s3 H3).Ok:=by
  refine ⟨I.ok.mod, ok.kind, I.ok.glob, I.ok.blt, Nat.le_refl _, fun x y c e1 e2 => I.ok.inj x y c (cl1 x c e1) (cl1 y c e2), fun x hx => ?_, fun x c hf => ?_, I.ok.hd, I.ok.frames, .inl rfl, fun b hb => ⟨Nat.ne_of_lt (flt b hb), fun x c e => (f2 b hb).2.2.2.2.1 x c (cl1 x c e)⟩,
   I.bs,Nat.le_trans I.ok.bsz I.sz,fun b o e hb=>?_,exfs,I.stack,I.stkFree⟩
  ·refine cl2 x ?_
   have hx:(relabel scope X.env).names.lookup x=some .cell\/(relabel scope X.env).names.lookup x=some .free:=hx
   rcases hx with hx|hx
   ·exact GA (env:=X.env) ok.cell hx (.inl rfl)
   ·exact GA (env:=X.env) ok.cell hx (.inr rfl)
  ·exact absurd (show false=true from hf) Bool.false_ne_true
  ·rcases(f2 b hb).2.2.2.1 with z|z
   ·exact I.ok.noex b o e z
   ·exact absurd (Nat.lt_of_lt_of_le (Heap.lt_size e) (Nat.le_trans I.ok.bsz z)) (Nat.lt_irrefl _)
 refine⟨okk,rfl,I.bare,Un.kept k4,⟨m4,n4,fun i x v e1 e2 e3=>?_⟩,fun x c e=>?_,I.hok.fresh (Nat.le_refl _),fun x c e=>I.freeC x c (cl1 x c e),fun p hp=>absurd (show p∈([]:List (Addr×Obj)) from hp) (by simp),I.hok.kept k4,?_⟩
 ·obtain⟨k,j,rfl,ej,es⟩:=Wd e2
  obtain⟨y,y1,y2,y0⟩:=ok.slot k j ej
  have y3:=PySem.mem_of_lookup y0
  rw[show(cxC X N' scope cl fp s3 H3).N=N' from rfl,y1]at e1
  cases e1
  obtain⟨m,hn,hl⟩:=I.loc
  have vis:Vis X.env.scope x:=(ok.free x y3).elim (fun z=>.inr (.inl z)) fun z=>.inr (.inr z)
  obtain⟨u,r,l⟩:=hl j x v y2 es vis
  refine⟨u,r,?_⟩
  rcases l with ⟨l,_⟩|⟨_,c,ec,z⟩
  ·exfalso
   have l':X.env.scope.names.lookup x=some .local:=l
   rcases ok.free x y3 with q|q
   ·rw[q]at l';cases l'
   ·rw[q]at l';cases l'
  ·obtain⟨c',ec'⟩:=cl2 x y3
   have:=cl1 x c' ec'
   rw[ec]at this
   cases this
   obtain⟨o,ho,hd⟩:=z
   refine .inr ⟨?_,c,ec',⟨o,k4 c o ho,hd⟩⟩
   rcases e3 with z|z|z
   ·exfalso
    have z':(relabel scope X.env).names.lookup x=some .local:=z
    rcases Ms (env:=X.env) y0 with q|q
    ·rw[z']at q;cases q
    ·rw[z']at q;cases q
   ·exact .inl z
   ·exact .inr z
 ·obtain⟨v,o,ho,hd⟩:=I.cell x c (cl1 x c e)
  exact⟨v,o,k4 c o ho,hd⟩
 ·show(blk own fr σ).length=N'.length
  unfold blk
  rw[List.length_append,List.length_replicate,List.length_map,ok.len]
end
end L2
end
section
namespace L2
open PySem PySem.Spec PyProof.Rows
def PTs(X:Cx)(ifs:List Expr)(tc:TT):Prop :=
 ∀(pins:List (Addr×Obj)) (s:Shared) (σ:St) (H:Hp) (Q:Bool->Hp->Prop),Inv X pins σ H s->tc σ H Q->wpAny (model X.prog X.w) X.A (forIn ifs true fun c r=>if r=true then do let ok <- isTrue c X.env (eval c X.env);pure (ForInStep.yield ok) else pure (ForInStep.yield r)) (TP X pins σ Q) X.xe s
def aM:TT:=fun _ H Q=>Q true H
theorem VF{X:Cx}:PTs X [] aM:=fun pins s σ H Q I h=>wpAny_tests_nil ⟨H,I,h⟩
theorem Qb{X:Cx}{c:Expr}{tc:TT}(h:PT X c tc):PTs X [c] tc:=fun pins s σ H Q I hq=>wpAny_tests_one (h pins s σ H Q I hq)
def bJ(own:Nat)(fr:List Nat)(g:TG)(tc:TT)(te:TE)(J:It)(σ:St)(H1:Hp)(Q:VK):Prop:=∀D,H1 D=none->∃W:Nat->Nat->List V->St->Hp->Prop,(∃m,W 0 m [] (blk own fr σ) (upd H1 D (.lst [])))/\∀i m ys σ' H',W i m ys σ' H' ->
 (J.stop i H' /\ Q (.ref D) H') \/ (J.go i H' /\ ∀ x H2, J.yld i H' x H2 -> g x σ' H2 fun σ3 H3 => tc σ3 H3 fun b H4 => if b = true then te σ3 H4 fun y H5 => H5 D = some (.lst ys) /\ ys.length < sizeLine /\ ∃ m', m' < m /\ W (i + 1) m' (ys ++ [y]) σ3 (upd H5 D (.lst (ys ++ [y])))
  else ∃m',m'<m/\W (i+1) m' ys σ3 H4)
def tLC(own:Nat)(fr:List Nat)(wi:TI)(g:TG)(tc:TT)(te:TE):TE:=fun σ H Q=>wi σ H fun J H1=>bJ own fr g tc te J σ H1 Q
structure Own(X:Cx)(pins:List (Addr×Obj))(C:Addr)(H:Hp)(s:Shared):Prop where
 ns:∃m,s.heap.Ns C m
 hn:H C=none
 ne:C≠X.env.locals
 ab:X.s₀.heap.objs.size<=C
 nc:∀x c,X.env.cells.lookup x=some c->c≠C
 np:∀p∈X.pn++pins,p.1≠C
structure Um(G:Cx->Prop)(P:Program)(w:World)(K:PySem.W.Frag)(tg:Expr)(J:It)(fp:List Addr)(it:Addr)(tn:Nat->Heap->Prop):Prop where
 obj:∀i h,tn i h->∀b∈fp,∃o,h.get? b=some o/\∀v,o.data≠.cell v
 keep:∀i h h',tn i h->(∀b∈fp,∀o,h.get? b=some o->h'.get? b=some o)->tn i h'
 item:∀(X:Cx),X.prog=P->X.w=w->X.K=K->G X->∀(i:Nat) (pins:List (Addr×Obj)) (s:Shared) (σ:St) (H:Hp) (E:Value->Shared->Prop),Inv X pins σ H s->(∀b∈fp,IM X pins H b)->tn i s.heap->J.go i H ->
  wpAny (model P w) X.A (pyNext (.ref it)) (fun r s1 => ∃ u, r = some u /\
   wpAny (model P w) X.A (letOwnedTupleGo tg (.ref it) u) (fun _ s2=>∃x H',Inv X pins σ H' s2/\RelV x u/\J.yld i H x H'/\tn (i+1) s2.heap/\∀b∈fp,H' b=none) E s1) E s
 done:∀(X:Cx),X.prog=P->X.w=w->X.K=K->G X->∀(i:Nat) (pins:List (Addr×Obj)) (s:Shared) (σ:St) (H:Hp) (E:Value->Shared->Prop),Inv X pins σ H s->(∀b∈fp,IM X pins H b)->tn i s.heap->J.stop i H ->
  wpAny (model P w) X.A (pyNext (.ref it)) (fun r s1=>r=none/\Inv X pins σ H s1) E s
 self:∀(A:Around) (i:Nat) (s:Shared) (Q:Value->Shared->Prop) (E:Value->Shared->Prop),tn i s.heap->Q (.ref it) s->wpAny (model P w) A (pyIter (.ref it)) Q E s
theorem Turn.g{P:Program}{w:World}{K:PySem.W.Frag}{tg:Expr}{J:It}{fp:List Addr}{it:Addr}{tn:Nat->Heap->Prop}(T:Turn P w K tg J fp it tn):Um (fun X=>X.calm=true) P w K tg J fp it tn:=⟨T.obj,T.keep,T.item,T.done,T.self⟩
section
variable {X:Cx} {N':List Str} {own:Nat} {fr:List Nat} {scope:Scope} {elt tg iter:Expr} {ifs:List Expr} {pos:Pos}
theorem Own.go{pins:List (Addr×Obj)}{σ:St}{H:Hp}{s:Shared}{C:Addr}{h':Heap}(O:Own X pins C H s)(I:Inv X pins σ H s)(sb:Heap.SameBut C s.heap h'):Inv X pins σ H { s with heap:=h' } :=
 I.turned (t':=s.toks) (fun b o hb e=>sb.extBut b o hb e) O.hn O.ne (.inr O.ab) O.nc O.np
theorem Ld{G:Cx->Prop}{pins:List (Addr×Obj)}{σ:St}{H2:Hp}{s2:Shared}{J:It}{fp:List Addr}{it:Addr}{tn:Nat->Heap->Prop}{cl:List (Str×Addr)}{Q:VK}{g:TG}{tc:TT}{te:TE}{RR:Value->Addr->Result->Shared->Prop}{E:Value->Shared->Prop}
  (hc:∀s3 H3,Inv X pins σ H3 s3->G (cxC X N' scope cl fp s3 H3)) (ok:QC X N' own fr scope) (I2:Inv X pins σ H2 s2) (T:Um G X.prog X.w X.K tg J fp it tn) (st2:tn 0 s2.heap) (f2:∀b∈fp,IM X pins H2 b)
  (cl1:∀x c,cl.lookup x=some c->X.env.cells.lookup x=some c) (cl2:∀x,(x,NameKind.free)∈scope.names->∃c,cl.lookup x=some c)
  (hg:∀fp s3 H3,PG (cxC X N' scope cl fp s3 H3) tg g) (ht:∀fp s3 H3,PTs (cxC X N' scope cl fp s3 H3) ifs tc) (he:∀fp s3 H3,PE (cxC X N' scope cl fp s3 H3) elt te)
  (h:bJ own fr g tc te J σ H2 Q)
  (fin:∀D C s' H',Inv X pins σ H' s'->Own X pins C H' s'->Q (.ref D) H'->RR (.ref D) C (.ok .next) s') :
  wpAny (model X.prog X.w) X.A (newList []) (fun acc s₃ => wpAny (model X.prog X.w) X.A (newFunctionEnv scope X.env.globals cl [] X.env.qual none .none (some X.env)) (fun cenv s₄ =>
   codeAny (model X.prog X.w) X.A (.compStart (.ListComp elt [⟨tg,iter,ifs,0⟩] scope pos) 0 (.ref it) acc { cenv with scope:=relabel scope X.env }) (RR acc cenv.locals) s₄) E s₃) E s2:=by
 obtain⟨W,⟨m0,w0⟩,turn⟩:=h s2.heap.objs.size (I2.hok.fresh (Nat.le_refl _))
 refine wpAny_newObj_type (wpAny_newFunctionEnv ok.cell (by intro y hy;simp at hy) (fun h₁ hns₁ hsb₁=>?_) ok.kind)
 dsimp only at hns₁ hsb₁ ⊢
 have I3:Inv X pins σ (upd H2 s2.heap.objs.size (.lst [])) { s2 with heap:=s2.heap.push { cls:=.type "list",dict:=none,data:=.seq ([]:List Value).toArray } } :=
  I2.laid (t':=s2.toks) (fun b u e=>Heap.get?_push_of_some _ e) (Nat.le_refl _) ⟨Nat.zero_le _,[],0,.nil,Heap.get?_push_size _ rfl⟩
 generalize hH3:upd H2 s2.heap.objs.size (.lst [])=H3 at w0 I3
 generalize hS3:({ s2 with heap:=s2.heap.push { cls:=.type "list",dict:=none,data:=.seq ([]:List Value).toArray } }:Shared)=S3 at I3
 have e3:s2.heap.push { cls:=.type "list",dict:=none,data:=.seq ([]:List Value).toArray }=S3.heap:=by rw[<- hS3]
 have k23:∀b o,s2.heap.get? b=some o->S3.heap.get? b=some o:=fun b o e=>by rw[<- e3];exact Heap.get?_push_of_some _ e
 rw[e3]at hns₁ hsb₁ ⊢
 have st3:tn 0 S3.heap:=T.keep _ _ _ st2 fun b _ o e=>k23 b o e
 have flt:∀b∈fp,b<S3.heap.objs.size:=fun b hb=>by
  obtain⟨o,e,_⟩:=T.obj _ _ st3 b hb
  exact Heap.lt_size e
 have flt2:∀b∈fp,b<s2.heap.objs.size:=fun b hb=>by
  obtain⟨o,e,_⟩:=T.obj _ _ st2 b hb
  exact Heap.lt_size e
 have f3:∀b∈fp,IM X pins H3 b:=fun b hb=>by
  refine⟨?_,(f2 b hb).2⟩
  rw[<- hH3,BF (Nat.ne_of_lt (flt2 b hb))]
  exact(f2 b hb).1
 have k34:∀b o,S3.heap.get? b=some o->h₁.get? b=some o:=fun b o e=>hsb₁.extBut b o (Nat.ne_of_lt (Heap.lt_size e)) (Heap.get?_push_of_some _ e)
 have I4:Inv (cxC X N' scope cl fp S3 H3) [] (blk own fr σ) H3 { S3 with heap:=h₁,toks:=s2.toks+([]:List (Str×Value)).length }:=Vp ok I3 f3 flt cl1 cl2 _ hns₁ k34
 have st4:tn 0 h₁:=T.keep _ _ _ st3 fun b _ o e=>k34 b o e
 -- back in the def
 have back:∀{σ' H' s'},Inv (cxC X N' scope cl fp S3 H3) [] σ' H' s'->Inv X pins σ H' s'/\Own X pins S3.heap.objs.size H' s':=fun {σ' H' s'} I'=>by
  have J1:Inv X pins σ H' s':=I3.call' I'.os I'.base I'.hok I'.bare fun b hb=>⟨(f3 b hb).2.2.2.1,(f3 b hb).2.1,(f3 b hb).2.2.2.2⟩
  refine⟨J1,⟨let ⟨m,hn,_⟩:=I'.loc;⟨m,hn⟩,I'.free,Nat.ne_of_gt I3.lt,I3.sz,fun x c e z=>?_,fun p hp z=>?_⟩⟩
  ·obtain⟨v,q⟩:=I3.cell x c e
   exact absurd q.lt (by rw[z];exact Nat.lt_irrefl _)
  ·exact absurd (Heap.lt_size (I3.pin p hp).1) (by rw[z];exact Nat.lt_irrefl _)
 have stat:∀{H':Hp},(∀b∈fp,H' b=none)->∀b∈fp,IM (cxC X N' scope cl fp S3 H3) [] H' b:=fun hn b hb =>
  ⟨hn b hb,(I4.ok.exf b hb).1,I4.ok.exfs b hb,.inl hb,(I4.ok.exf b hb).2,fun p hp=>absurd (show p∈([]:List (Addr×Obj)) from hp) (by simp)⟩
 have loop:codeAny (model X.prog X.w) X.A (.compLoop (.ListComp elt [⟨tg,iter,ifs,0⟩] scope pos) 0 (.ref it) (.ref s2.heap.objs.size) (cxC X N' scope cl fp S3 H3).env) (RR (.ref s2.heap.objs.size) S3.heap.objs.size) { S3 with heap:=h₁,toks:=s2.toks+([]:List (Str×Value)).length }:=by
  refine Ru (fun n s'=>∃i ys σ' H',Inv (cxC X N' scope cl fp S3 H3) [] σ' H' s'/\tn i s'.heap/\(∀b∈fp,H' b=none)/\W i n ys σ' H') ?_ m0 ⟨0,[],_,H3,I4,st4,fun b hb=>(f3 b hb).1,w0⟩
  rintro n s5 ⟨i,ys,σ5,H5,I5,st5,fr5,w5⟩
  rcases turn i n ys σ5 H5 w5 with ⟨stop,qn⟩|⟨go,step⟩
  ·refine thn (T.done (cxC X N' scope cl fp S3 H3) rfl rfl rfl (hc _ _ I3) i [] s5 σ5 H5 (fun _ _=>False) I5 (stat fr5) st5 stop) fun r s6 ⟨hr,I6⟩=>?_
   subst hr
   obtain⟨J1,O⟩:=back I6
   exact fin _ _ s6 H5 J1 O qn
  ·refine thn (T.item (cxC X N' scope cl fp S3 H3) rfl rfl rfl (hc _ _ I3) i [] s5 σ5 H5 (fun _ _=>False) I5 (stat fr5) st5 go) fun r s6 ⟨u,hr,h6⟩=>?_
   subst hr
   refine thn h6 fun _ s7 ⟨x,H7,I7,r7,y7,st7,fr7⟩=>?_
   have I7':=I7.pinned (stat fr7) (T.obj _ _ st7)
   refine thn (hg fp S3 H3 _ s7 σ5 H7 x u _ I7' r7 (step x H7 y7)) fun _ s8 ⟨σ8,H8,I8,q8⟩=>?_
   refine thn (ht fp S3 H3 _ s8 σ8 H8 _ I8 q8) fun b s9 ⟨H9,I9,q9⟩=>?_
   have again:∀{σ' H' s' m' ys'},m'<n->Inv (cxC X N' scope cl fp S3 H3) ([]++LA fp s7.heap) σ' H' s'->W (i+1) m' ys' σ' H'->∃m,m<n/\∃i ys σ' H',Inv (cxC X N' scope cl fp S3 H3) [] σ' H' s'/\tn i s'.heap/\(∀b∈fp,H' b=none)/\W i m ys σ' H':=fun {σ' H' s' m' ys'} hm I' w'=>by
    refine⟨m',hm,i+1,ys',σ',H',I'.unpinned,T.keep _ _ _ st7 fun b hb o e=>(I'.pin (b,o) (List.mem_append_right _ (List.mem_append_right _ (GB hb e)))).1,fun b hb=>?_,w'⟩
    obtain⟨o,e,d⟩:=T.obj _ _ st7 b hb
    exact(I'.pin (b,o) (List.mem_append_right _ (List.mem_append_right _ (GB hb e)))).2.1
   cases b with
   |false =>
    rw[if_neg Bool.false_ne_true]at q9 ⊢
    obtain⟨m',hm,w9⟩:=q9
    exact again hm I9 w9
   |true =>
    rw[if_pos rfl]at q9 ⊢
    refine thn (he fp S3 H3 _ s9 σ8 H9 _ I9 q9) fun v s10 ⟨y,H10,I10,r10,q10⟩=>?_
    obtain⟨hD,hz,m',hm,w10⟩:=q10
    refine thn (MU (X:=cxC X N' scope cl fp S3 H3) _ s10 σ8 H10 (.ref s2.heap.objs.size) [y] (.ref s2.heap.objs.size) [v] (fun _ H'=>W (i+1) m' (ys++[y]) σ8 H') I10 rfl (.cons r10 .nil) ⟨_,ys,y,rfl,rfl,hD,hz,w10⟩) fun v' s11 ⟨_,H11,I11,_,q11⟩=>?_
    exact again hm I11 q11
 subst hS3
 exact codeAny_compStart_list loop (T.self _ 0 _ _ _ st4 loop)
theorem af{wi:TI}{g:TG}{tc:TT}{te:TE}(hc:X.calm=true)(ok:QC X N' own fr scope)(hi:PI X tg iter wi)
  (hg:∀cl fp s3 H3,PG (cxC X N' scope cl fp s3 H3) tg g) (ht:∀cl fp s3 H3,PTs (cxC X N' scope cl fp s3 H3) ifs tc) (he:∀cl fp s3 H3,PE (cxC X N' scope cl fp s3 H3) elt te)
  (hs:∀x,foldedSetIterable iter X.env x=pure x:=by intro _;rfl):PE X (.ListComp elt [⟨tg,iter,ifs,0⟩] scope pos) (tLC own fr wi g tc te):=by
 intro pins s σ H Q I h
 obtain⟨cl,ecl,cl1,cl2⟩:=Nh (env:=X.env) (scope:=scope) fun x hx=>I.ok.has x (ok.free x hx)
 rw[eval_ListComp]
 refine wpAny_comprehension_free (use:=none) rfl hs ecl ok.kind ok.names (thn (hi pins s σ H _ I h) fun v s1 h1=>thn h1 fun itv s2 h2=>?_)
 obtain⟨it,fp,tn,J,H2,rfl,I2,T,st2,f2,h2⟩:=h2
 refine Ld (RR:=fun acc C=>compPost (model X.prog X.w) X.A X.xe none (EP X pins σ Q) acc C) (fun _ _ _=>hc) ok I2 T.g st2 f2 cl1 cl2 (hg cl) (ht cl) (he cl) h2 ?_
 intro D C s' H' J1 O q
 obtain⟨m,hn⟩:=O.ns
 exact⟨m,hn,fun h'' sb=>⟨.ref D,H',O.go J1 sb,rfl,q⟩⟩
theorem TB{wi:TI}{g:TG}{tc:TT}{te:TE}{i:Nat}{y:Str}{py spos:Pos}(hN:X.N.Nodup)(hiN:X.N[i]?=some y)(hy:X.env.scope.names.lookup y=some .local)(hc:X.calm=true)(ok:QC X N' own fr scope)(hi:PI X tg iter wi)
  (hg:∀cl fp s3 H3,PG (cxC X N' scope cl fp s3 H3) tg g) (ht:∀cl fp s3 H3,PTs (cxC X N' scope cl fp s3 H3) ifs tc) (he:∀cl fp s3 H3,PE (cxC X N' scope cl fp s3 H3) elt te)
  (hsw:swapsWith (.ListComp elt [⟨tg,iter,ifs,0⟩] scope pos) (some (.Name y py)) spos.line X.env=pure true)
  (hs:∀x,foldedSetIterable iter X.env x=pure x:=by intro _;rfl):PS X (.Assign [.Name y py] (.ListComp elt [⟨tg,iter,ifs,0⟩] scope pos) spos) (fun D σ H=>tLC own fr wi g tc te σ H fun v H'=>D.nx (σ.set i (some v)) H'):=by
 intro pins s σ H D I h
 obtain⟨cl,ecl,cl1,cl2⟩:=Nh (env:=X.env) (scope:=scope) fun x hx=>I.ok.has x (ok.free x hx)
 rw[exec_Assign_Name_used _ _ _ _ hsw]
 refine wpAny_bind (wpAny_standAt (wpAny_bind ?_))
 show wpAny _ _ (do let _ <- comprehension (.ListComp elt [⟨tg,iter,ifs,0⟩] scope pos) scope X.env _ (newList []) false (eval iter X.env) (some (assign (.Name y py) X.env))) _ _ s
 refine wpAny_bind (wpAny_mono (wpAny_comprehension_free (use := some (assign (.Name y py) X.env)) (Q := fun _ s' => SP X pins D .next s') rfl hs ecl ok.kind ok.names
  (thn (hi pins s σ H _ I h) fun v s1 h1=>thn h1 fun itv s2 h2=>?_)) (fun _ s' hq=>wpAny_pure (wpAny_pure hq)) fun _ _ e=>e)
 obtain⟨it,fp,tn,J,H2,rfl,I2,T,st2,f2,h2⟩:=h2
 refine Ld (RR:=fun acc C=>compPost (model X.prog X.w) X.A X.xe (some (assign (.Name y py) X.env)) (fun _ s'=>SP X pins D .next s') acc C) (fun _ _ _=>hc) ok I2 T.g st2 f2 cl1 cl2 (hg cl) (ht cl) (he cl) h2 ?_
 intro D' C s' H' J1 O q
 show wpAny _ _ (assign (.Name y py) X.env (.ref D')) _ _ _
 refine wpAny_assign_Name (JK J1 hN hiN (.inl hy) (v:=.ref D') rfl (fun s'' J2 sb=>?_) (.inr hy))
 obtain⟨m,hn⟩:=O.ns
 obtain⟨a,sb,ha⟩:=sb
 have nea:C≠a:=by
  rcases ha with ha|ha
  ·rw[ha];exact O.ne
  ·exact fun z=>O.nc y a ha z.symm
 refine⟨m,hn.sameBut sb nea,fun h'' sb'=>?_⟩
 have O2:Own X pins C H' s'':=⟨⟨m,hn.sameBut sb nea⟩,O.hn,O.ne,O.ab,O.nc,O.np⟩
 exact⟨_,H',O2.go J2 sb',q⟩
end
end L2
end
section
namespace DL
open PySem L2 PyProof.Rows
structure KW where
 fr:PySem.W.Frag
 w:World
instance:CoeOut KW PySem.W.Frag:=⟨KW.fr⟩
abbrev Gf(X:Cx):KW:=⟨X.K,X.w⟩
def hT(ks:List Int):Int:=reduceHash (Builtin.Tuple.tupleHashOf (ks.map hashInt))
def VO(a:Addr)(ts:List (List Int×Addr×V))(ep:Nat):Heap->Prop:=fun h=>(a==sysModules)=false/\ts.length<=sizeLine/\(ts.map (·.1)).Nodup /\
 ∃xs:List (List Int×Addr×Value),Paired (fun(t:List Int×Addr×V) (x:List Int×Addr×Value)=>t.1=x.1/\t.2.1=x.2.1/\RelV t.2.2 x.2.2) ts xs /\
  ∃(o:Obj) (es:Array DictEntry),h.get? a=some o/\o.ExactDict/\o.data = .dict es ep/\es.toList=xs.map fun x=>⟨hT x.1,.ref x.2.1,x.2.2⟩
def HD(H:Hp)(a:Addr)(ts:List (List Int×Addr×V)):Prop:=∃ep,H a=some (.ext (VO a ts ep))
def txK(ts:List (Str×V)):List (Key×V):=ts.map fun t=>(Sum.inr t.1,t.2)
mutual
def Is(K:KW)(H:Hp):PyData->V->Prop
 |.none,v=>v = .non
 |.bool b,v=>v = .bl b
 |.int i,v=>v = .int i
 |.str x,v=>v = .str x
 |.tuple ds,v=>∃a vs,v = .ref a/\SqT K H a vs/\IsL K H ds vs
 |.list ds,v=>∃a vs,v = .ref a/\H a=some (.lst vs)/\IsL K H ds vs
 |.dict kvs,v=>∃a ts,v = .ref a/\HD H a ts/\IsKV K H kvs ts
def IsL(K:KW)(H:Hp):List PyData->List V->Prop
 |[],vs=>vs=[]
 |d::ds,vs=>∃x xs,vs=x::xs/\Is K H d x/\IsL K H ds xs
def IsKV(K:KW)(H:Hp):List (PyData×PyData)->List (List Int×Addr×V)->Prop
 |[],ts=>ts=[]
 |(k,d)::r,ts=>∃t tr,ts=t::tr/\k = .tuple (t.1.map PyData.int)/\SqT K H t.2.1 (t.1.map V.int)/\Is K H d t.2.2/\IsKV K H r tr
end
theorem Same.tup{K:KW}{H H':Hp}{a:Addr}{xs:List V}(e:Same H H')(h:SqT K H a xs):SqT K H' a xs:=by
 rcases h with (h|⟨o,h⟩)|h
 ·exact .inl (.inl (e _ _ h))
 ·exact .inl (.inr ⟨o,e _ _ h⟩)
 ·exact .inr h
def TSm(H H':Hp):Prop:=∀b o,H b=some o->(∀xs,o≠.lst xs)->(∀φ,o≠.ext φ)->H' b=some o
theorem TSm.tup{K:KW}{H H':Hp}{a:Addr}{xs:List V}(e:TSm H H')(h:SqT K H a xs):SqT K H' a xs:=by
 rcases h with (h|⟨o,h⟩)|h
 ·exact .inl (.inl (e _ _ h (fun _ z=>by cases z) fun _ z=>by cases z))
 ·exact .inl (.inr ⟨o,e _ _ h (fun _ z=>by cases z) fun _ z=>by cases z⟩)
 ·exact .inr h
section
variable {K:KW}
mutual
theorem Is.mono{H H':Hp}(s:Same H H'):∀{d:PyData} {v:V},Is K H d v->Is K H' d v
 |.none,_,h=>h
 |.bool _,_,h=>h
 |.int _,_,h=>h
 |.str _,_,h=>h
 |.tuple _,_,⟨a,vs,e,h,l⟩=>⟨a,vs,e,Same.tup s h,IsL.mono s l⟩
 |.list _,_,⟨a,vs,e,h,l⟩=>⟨a,vs,e,s _ _ h,IsL.mono s l⟩
 |.dict _,_,⟨a,ts,e,⟨ep,h⟩,l⟩=>⟨a,ts,e,⟨ep,s _ _ h⟩,IsKV.mono s l⟩
theorem IsL.mono{H H':Hp}(s:Same H H'):∀{ds:List PyData} {vs:List V},IsL K H ds vs->IsL K H' ds vs
 |[],_,h=>h
 |_::_,_,⟨x,xs,e,h,l⟩=>⟨x,xs,e,Is.mono s h,IsL.mono s l⟩
theorem IsKV.mono{H H':Hp}(s:Same H H'):∀{kvs:List (PyData×PyData)} {ts:List (List Int×Addr×V)},IsKV K H kvs ts->IsKV K H' kvs ts
 |[],_,h=>h
 |(_,_)::_,_,⟨t,tr,e,ek,hk,h,l⟩=>⟨t,tr,e,ek,Same.tup s hk,Is.mono s h,IsKV.mono s l⟩
end
mutual
theorem Is.monoT{H H':Hp}(s:TSm H H'):∀{d:PyData} {v:V},DN d=true->Is K H d v->Is K H' d v
 |.none,_,_,h=>h
 |.bool _,_,_,h=>h
 |.int _,_,_,h=>h
 |.str _,_,_,h=>h
 |.tuple _,_,f,⟨a,vs,e,h,l⟩=>⟨a,vs,e,s.tup h,IsL.monoT s f l⟩
 |.list _,_,f,_=>absurd f Bool.false_ne_true
 |.dict _,_,f,_=>absurd f Bool.false_ne_true
theorem IsL.monoT{H H':Hp}(s:TSm H H'):∀{ds:List PyData} {vs:List V},fixDs ds=true->IsL K H ds vs->IsL K H' ds vs
 |[],_,_,h=>h
 |d::ds,_,f,⟨x,xs,e,h,l⟩=>⟨x,xs,e,Is.monoT s (by rw[fixDs,Bool.and_eq_true]at f;exact f.1) h,IsL.monoT s (by rw[fixDs,Bool.and_eq_true]at f;exact f.2) l⟩
end
theorem IsL.length{H:Hp}:∀{ds:List PyData} {vs:List V},IsL K H ds vs->vs.length=ds.length
 |[],_,h=>by rw[show _=[] from h];rfl
 |_::_,_,⟨x,xs,e,_,l⟩=>by rw[e,List.length_cons,List.length_cons,IsL.length l]
theorem IsL.get{H:Hp}:∀{ds:List PyData} {vs:List V} {i:Nat} {d:PyData},IsL K H ds vs->ds[i]?=some d->∃v,vs[i]?=some v/\Is K H d v
 |[],_,_,_,_,e=>by simp at e
 |d::ds,_,0,_,⟨x,xs,e,h,l⟩,q=>by
  subst e
  simp at q
  subst q
  exact⟨x,rfl,h⟩
 |d::ds,_,i+1,_,⟨x,xs,e,h,l⟩,q=>by
  subst e
  obtain⟨v,a,b⟩:=IsL.get (i:=i) l (by simpa using q)
  exact⟨v,by simpa using a,b⟩
end
section
variable {X:Cx} {pins:List (Addr×Obj)} {σ:L2.St} {H:Hp} {s:Shared}
mutual
theorem FJ(I:Inv X pins σ H s):∀{d:PyData} {v:V} {u:Value},Is (Gf X) H d v->RelV v u->∃as,Reads s.heap u d as
 |.none,_,_,h,r=>by subst h;cases r;exact⟨_,.none⟩
 |.bool _,_,_,h,r=>by subst h;cases r;exact⟨_,.bool _⟩
 |.int _,_,_,h,r=>by subst h;obtain⟨t,rfl⟩:=r;exact⟨_,.int _ _⟩
 |.str _,_,_,h,r=>by subst h;obtain⟨t,rfl⟩:=r;exact⟨_,.str _ _⟩
 |.tuple ds,_,_,⟨a,vs,e,h,l⟩,r=>by
  subst e;cases r
  obtain⟨its,rr,⟨o,e,c,n,q⟩,_⟩:=I.tuple h
  obtain⟨as,z⟩:=readsL I l rr
  exact⟨_,.tuple e c q z⟩
 |.list ds,_,_,⟨a,vs,e,h,l⟩,r=>by
  subst e;cases r
  obtain⟨_,its,n,rr,e⟩:=I.hok a _ h
  obtain⟨as,z⟩:=readsL I l rr
  exact⟨_,.list e rfl rfl z⟩
 |.dict kvs,_,_,⟨a,ts,e,⟨ep,h⟩,l⟩,r=>by
  subst e;cases r
  obtain⟨⟨_,_,_,xs,pr,o,es,ho,he,hd,hes⟩,_,_⟩:=(show ObjOk X.prog X.w H s.heap a (.ext (VO a ts ep)) from I.hok a _ h)
  obtain⟨as,bs,z1,z2⟩:=readsK I l pr
  refine⟨_,.dict ho he.1 hd (as:=as) (bs:=bs) ?_ ?_⟩
  ·rw[hes,List.map_map];exact z1
  ·rw[hes,List.map_map];exact z2
theorem readsL(I:Inv X pins σ H s):∀{ds:List PyData} {vs:List V} {us:List Value},IsL (Gf X) H ds vs->Vals vs us->∃as,ReadsAll s.heap us ds as
 |[],_,_,h,r=>by subst h;cases r;exact⟨_,.nil⟩
 |d::ds,_,_,⟨x,xs,e,h,l⟩,r=>by
  subst e
  cases r with
  |cons r1 r2 =>
   obtain⟨as,z⟩:=FJ I h r1
   obtain⟨bs,y⟩:=readsL I l r2
   exact⟨_,.cons z y⟩
theorem readsK(I:Inv X pins σ H s):∀{kvs:List (PyData×PyData)} {ts:List (List Int×Addr×V)} {xs:List (List Int×Addr×Value)},IsKV (Gf X) H kvs ts->Paired (fun(t:List Int×Addr×V) (x:List Int×Addr×Value)=>t.1=x.1/\t.2.1=x.2.1/\RelV t.2.2 x.2.2) ts xs ->
  ∃as bs,ReadsAll s.heap (xs.map fun x=>Value.ref x.2.1) (kvs.map (·.1)) as/\ReadsAll s.heap (xs.map fun x=>x.2.2) (kvs.map (·.2)) bs
 |[],_,_,h,r=>by subst h;cases r;exact⟨_,_,.nil,.nil⟩
 |(k,d)::kvs,_,_,⟨t,tr,e,ek,hk,h,l⟩,r=>by
  subst e
  cases r with
  |cons r1 r2 =>
   obtain⟨q1,q2,q3⟩:=r1
   obtain⟨as,bs,z1,z2⟩:=readsK I l r2
   obtain⟨cs,z3⟩:=FJ I h q3
   obtain⟨its,rr,⟨o,e,c,n,q⟩,_⟩:=I.tuple hk
   subst ek
   have hz:∃ds,ReadsAll s.heap its.toArray.toList (t.1.map PyData.int) ds:=by
    clear hk e q
    generalize t.1=ks at rr
    induction ks generalizing its with
    |nil=>cases rr;exact⟨_,.nil⟩
    |cons k ks ih =>
     cases rr with
     |cons a b =>
      obtain⟨ds,y⟩:=ih _ b
      obtain⟨tk,rfl⟩:=a
      exact⟨_,.cons (.int _ _) y⟩
   obtain⟨ds,y⟩:=hz
   rw[q2]at e
   exact⟨_,_,.cons (.tuple e c q y) z1,.cons z3 z2⟩
end
def VB(K:KW):R2:=fun x y H Q=>∃d e,Is K H d x/\Is K H e y/\okD d=true/\okD e=true/\Q (.bl (PyData.eqv d e)) H
def VA(K:KW):R2:=fun x y H Q=>∃d e,Is K H d x/\Is K H e y/\okD d=true/\okD e=true/\Q (.bl (!PyData.eqv d e)) H
theorem YC(hu:X.A.units+64<cLine):OpR X (compareOp .Eq) (VB (Gf X)):=by
 intro pins s σ H x y v u Q I rx ry h
 obtain⟨d,e,hd,he,od,oe,q⟩:=h
 obtain⟨as,ra⟩:=FJ I hd rx
 obtain⟨bs,rb⟩:=FJ I he ry
 exact eq_dataH ra rb od oe hu ⟨.bl _,H,I,rfl,q⟩
theorem Tc(hu:X.A.units+64<cLine):OpR X (compareOp .NotEq) (VA (Gf X)):=by
 intro pins s σ H x y v u Q I rx ry h
 obtain⟨d,e,hd,he,od,oe,q⟩:=h
 obtain⟨as,ra⟩:=FJ I hd rx
 obtain⟨bs,rb⟩:=FJ I he ry
 exact ne_dataH ra rb od oe hu ⟨.bl _,H,I,rfl,q⟩
def PY(K:KW)(neg:Bool):R2:=fun x y H Q=>∃d es,Is K H d x/\(Is K H (.list es) y\/Is K H (.tuple es) y)/\okD d=true/\okD (.list es)=true/\Q (.bl (if neg then !(es.any fun y=>PyData.eqv y d) else es.any fun y=>PyData.eqv y d)) H
theorem YB(hu:X.A.units+65<cLine):OpR X (compareOp .In) (PY (Gf X) false):=by
 intro pins s σ H x y v u Q I rx ry h
 obtain⟨d,es,hd,he,od,oe,q⟩:=h
 obtain⟨as,ra⟩:=FJ I hd rx
 obtain⟨c1,c2⟩:=Gi oe
 have hm:X.A.units+1+min (PyData.depthAll es) d.depth<cLine:=by omega
 rcases he with he|he
 ·obtain⟨bs,rb⟩:=FJ I he ry
  exact SeqAt.in_list_reads rb ra c1 (Eo od) hm ⟨.bl _,H,I,rfl,q⟩
 ·obtain⟨bs,rb⟩:=FJ I he ry
  exact SeqAt.in_tuple_reads rb ra c1 (Eo od) hm ⟨.bl _,H,I,rfl,q⟩
theorem RU(hu:X.A.units+65<cLine):OpR X (compareOp .NotIn) (PY (Gf X) true):=by
 intro pins s σ H x y v u Q I rx ry h
 obtain⟨d,es,hd,he,od,oe,q⟩:=h
 obtain⟨as,ra⟩:=FJ I hd rx
 obtain⟨c1,c2⟩:=Gi oe
 have hm:X.A.units+1+min (PyData.depthAll es) d.depth<cLine:=by omega
 rcases he with he|he
 ·obtain⟨bs,rb⟩:=FJ I he ry
  exact SeqAt.notIn_list_reads rb ra c1 (Eo od) hm ⟨.bl _,H,I,rfl,q⟩
 ·obtain⟨bs,rb⟩:=FJ I he ry
  exact SeqAt.notIn_tuple_reads rb ra c1 (Eo od) hm ⟨.bl _,H,I,rfl,q⟩
end
end DL
end
section
namespace DL
open PySem L2
inductive L where
 |d (x:PyData)
 |m (xs:List PyData)
 |c (xs:List PyData)
 |k (kvs:List (List Int×PyData))
 |g (x:PyData)
abbrev DS:=List (Option L)
inductive Ow where
 |l (xs:List PyData)
 |t (kvs:List (List Int×PyData))
def Ow.L:Ow->L
 |.l xs=>.m xs
 |.t kvs=>.k kvs
def MF(kvs:List (List Int×PyData)):List (PyData×PyData):=kvs.map fun p=>(.tuple (p.1.map PyData.int),p.2)
def Ow.D:Ow->PyData
 |.l xs=>.list xs
 |.t kvs=>.dict (MF kvs)
def Ow.fl:Ow->Bool
 |.l _=>true
 |.t _=>false
theorem Ow.not_d{o:Ow}{x:PyData}:o.L≠.d x:=by cases o<;>exact fun z=>nomatch z
theorem Ow.not_g{o:Ow}{x:PyData}:o.L≠.g x:=by cases o<;>exact fun z=>nomatch z
theorem Ow.not_c{o:Ow}{x:List PyData}:o.L≠.c x:=by cases o<;>exact fun z=>nomatch z
theorem Ow.inj{o p:Ow}(h:o.L=p.L):o=p:=by
 cases o<;>cases p<;>cases h<;>rfl
def IsO(K:KW)(H:Hp):Ow->Addr->HO->Prop
 |.l xs,_,h=>∃vs,h = .lst vs/\IsL K H xs vs
 |.t kvs,a,h=>∃ts,(∃ep,h = .ext (VO a ts ep))/\IsKV K H (MF kvs) ts
theorem IsO.mono{K:KW}{H H':Hp}(s:Same H H'):∀{o:Ow} {a:Addr} {h:HO},IsO K H o a h->IsO K H' o a h
 |.l _,_,_,⟨vs,e,l⟩=>⟨vs,e,l.mono s⟩
 |.t _,_,_,⟨ts,e,l⟩=>⟨ts,e,l.mono s⟩
theorem IsO.is{K:KW}{H:Hp}:∀{o:Ow} {a:Addr} {h:HO},IsO K H o a h->H a=some h->Is K H o.D (.ref a)
 |.l _,a,_,⟨vs,e,l⟩,z=>⟨a,vs,rfl,e▸z,l⟩
 |.t _,a,_,⟨ts,⟨ep,e⟩,l⟩,z=>⟨a,ts,rfl,⟨ep,e▸z⟩,l⟩
open Classical in
noncomputable def hid(S:Addr->Prop)(H:Hp):Hp:=fun a=>if S a then none else H a
theorem hid_iff{S:Addr->Prop}{H:Hp}{b:Addr}{o:HO}:hid S H b=some o↔¬S b/\H b=some o:=by
 unfold hid
 by_cases h:S b
 ·rw[if_pos h];exact⟨fun z=>(nomatch z),fun z=>absurd h z.1⟩
 ·rw[if_neg h];exact⟨fun z=>⟨h,z⟩,fun z=>z.2⟩
def Keep(S:Addr->Prop)(H:Hp)(S':Addr->Prop)(H':Hp):Prop:=∀b o,¬S b->H b=some o->¬S' b/\H' b=some o
def Chg(M:Addr->Prop)(H H':Hp):Prop:=∀b o,¬M b->H b=some o->H' b=some o
theorem Keep.same{S S':Addr->Prop}{H H':Hp}(k:Keep S H S' H'):Same (hid S H) (hid S' H'):=fun b o e=>hid_iff.mpr (k b o (hid_iff.mp e).1 (hid_iff.mp e).2)
theorem Keep.refl{S:Addr->Prop}{H:Hp}:Keep S H S H:=fun _ _ h e=>⟨h,e⟩
theorem Keep.trans{S S1 S2:Addr->Prop}{H H1 H2:Hp}(a:Keep S H S1 H1)(b:Keep S1 H1 S2 H2):Keep S H S2 H2:=fun c o h e=>b c o (a c o h e).1 (a c o h e).2
theorem Chg.refl{M:Addr->Prop}{H:Hp}:Chg M H H:=fun _ _ _ e=>e
theorem Chg.trans{M:Addr->Prop}{H H1 H2:Hp}(a:Chg M H H1)(b:Chg M H1 H2):Chg M H H2:=fun c o h e=>b c o h (a c o h e)
theorem Chg.of{M:Addr->Prop}{H H':Hp}(s:Same H H'):Chg M H H':=fun b o _ e=>s b o e
theorem Chg.keep{S M:Addr->Prop}{H H':Hp}(c:Chg M H H')(sub:∀a,M a->S a):Keep S H S H':=fun b o h e=>⟨h,c b o (fun z=>h (sub b z)) e⟩
theorem Same.keep{S:Addr->Prop}{H H':Hp}(s:Same H H'):Keep S H S H':=fun b o h e=>⟨h,s b o e⟩
theorem same_hid{S:Addr->Prop}{H:Hp}:Same (hid S H) H:=fun b o e=>(hid_iff.mp e).2
theorem E1{S S':Addr->Prop}{H:Hp}(h:∀a,S' a->S a):Same (hid S H) (hid S' H):=Keep.same fun b o n e=>⟨fun z=>n (h b z),e⟩
theorem tsS{H H':Hp}(s:Same H H'):TSm H H':=fun b o e _ _=>s b o e
theorem TSm.refl{H:Hp}:TSm H H:=fun _ _ e _ _=>e
mutual
def Dp(K:KW)(S:Addr->Prop)(H:Hp):PyData->V->List Addr->Prop
 |.none,v,F=>v = .non/\F=[]
 |.bool b,v,F=>v = .bl b/\F=[]
 |.int i,v,F=>v = .int i/\F=[]
 |.str x,v,F=>v = .str x/\F=[]
 |.tuple ds,v,F=>∃a vs,v = .ref a/\SqT K (hid S H) a vs/\DpL K S H ds vs F
 |.list ds,v,F=>∃a vs G,v = .ref a/\F=a::G/\H a=some (.lst vs)/\DpL K S H ds vs G
 |.dict _,_,_=>False
def DpL(K:KW)(S:Addr->Prop)(H:Hp):List PyData->List V->List Addr->Prop
 |[],vs,F=>vs=[]/\F=[]
 |d::ds,vs,F=>∃x xs F1 F2,vs=x::xs/\F=F1++F2/\Dp K S H d x F1/\DpL K S H ds xs F2
end
section
variable {K:KW} {S S':Addr->Prop} {H H':Hp}
mutual
theorem Dp.mono(s:TSm (hid S H) (hid S' H')):∀{d:PyData} {v:V} {F:List Addr},(∀a∈F,H' a=H a)->Dp K S H d v F->Dp K S' H' d v F
 |.none,_,_,_,h=>h
 |.bool _,_,_,_,h=>h
 |.int _,_,_,_,h=>h
 |.str _,_,_,_,h=>h
 |.tuple _,_,_,f,⟨a,vs,e,h,l⟩=>⟨a,vs,e,s.tup h,DpL.mono s f l⟩
 |.list _,_,_,f,⟨a,vs,G,e,e2,h,l⟩=>⟨a,vs,G,e,e2,(f a (by rw[e2];exact List.mem_cons_self ..)).trans h,DpL.mono s (fun b hb=>f b (by rw[e2];exact List.mem_cons_of_mem _ hb)) l⟩
theorem DpL.mono(s:TSm (hid S H) (hid S' H')):∀{ds:List PyData} {vs:List V} {F:List Addr},(∀a∈F,H' a=H a)->DpL K S H ds vs F->DpL K S' H' ds vs F
 |[],_,_,_,h=>h
 |_::_,_,_,f,⟨x,xs,F1,F2,e,e2,h,l⟩=>⟨x,xs,F1,F2,e,e2,Dp.mono s (fun b hb=>f b (by rw[e2];exact List.mem_append_left _ hb)) h,DpL.mono s (fun b hb=>f b (by rw[e2];exact List.mem_append_right _ hb)) l⟩
end
end
def IsX(K:KW)(H:Hp):List (PyData×PyData)->List (Str×V)->Prop
 |[],ts=>ts=[]
 |(k,d)::r,ts=>∃t tr,ts=t::tr/\k = .str t.1/\DN d=true/\Is K H d t.2/\IsX K H r tr
theorem IsX.mono{K:KW}{H H':Hp}(s:TSm H H'):∀{kvs:List (PyData×PyData)} {ts:List (Str×V)},IsX K H kvs ts->IsX K H' kvs ts
 |[],_,h=>h
 |(_,_)::_,_,⟨t,tr,e,ek,f,h,l⟩=>⟨t,tr,e,ek,f,Is.monoT s f h,IsX.mono s l⟩
def DpT(K:KW)(S:Addr->Prop)(H:Hp)(d:PyData)(v:V)(F:List Addr):Prop:=match d with
 |.dict kvs=>∃a ts,v = .ref a/\F=[a]/\H a=some (.dK (txK ts))/\IsX K (hid S H) kvs ts
 |d=>Dp K S H d v F
theorem DpT.mono{K:KW}{S S':Addr->Prop}{H H':Hp}{d:PyData}{v:V}{F:List Addr}(s:TSm (hid S H) (hid S' H'))(f:∀a∈F,H' a=H a)(h:DpT K S H d v F):DpT K S' H' d v F:=by
 cases d with
 |dict kvs =>
  obtain⟨a,ts,e,e2,h,l⟩:=(show ∃a ts,v = .ref a/\F=[a]/\H a=some (.dK (txK ts))/\IsX K (hid S H) kvs ts from h)
  exact⟨a,ts,e,e2,(f a (by rw[e2];exact List.mem_singleton_self a)).trans h,l.mono s⟩
 |_=>exact Dp.mono s f h
def GR(K:KW)(S M:Addr->Prop)(τ:DS)(σ:St)(H:Hp):Prop:=∃φ:Nat->List Addr,∀(i:Nat) (d:PyData),τ[i]?=some (some (.g d)) ->
 (∃v,σ[i]?=some (some v)/\DpT K S H d v (φ i))/\(φ i).Nodup/\(∀a∈φ i,M a)/\(∀(j:Nat) (o:Ow) (a:Addr),τ[j]?=some (some o.L)->σ[j]?=some (some (.ref a))->a∉φ i) /\
  ∀(j:Nat) (d':PyData),j≠i->τ[j]?=some (some (.g d'))->∀a∈φ i,a∉φ j
theorem GR.nil{K:KW}{S M:Addr->Prop}{τ:DS}{σ:St}{H:Hp}(h:∀(i:Nat) (d:PyData),τ[i]?≠some (some (.g d))):GR K S M τ σ H:=⟨fun _=>[],fun i d e=>absurd e (h i d)⟩
theorem GR.to{K:KW}{S M S' M':Addr->Prop}{τ τ':DS}{σ σ':St}{H H':Hp}(g:GR K S M τ σ H)(ht:∀(i:Nat) (d:PyData),τ'[i]?=some (some (.g d))->τ[i]?=some (some (.g d))/\σ'[i]?=σ[i]?)
  (ho:∀(j:Nat) (o:Ow) (a:Addr),τ'[j]?=some (some o.L)->σ'[j]?=some (some (.ref a))->(∃o':Ow,τ[j]?=some (some o'.L)/\σ[j]?=some (some (.ref a)))\/¬M a)
  (hm:∀a,M a->(∀(j:Nat) (o:Ow),τ[j]?=some (some o.L)->σ[j]?≠some (some (.ref a)))->M' a/\H' a=H a) (ts:TSm (hid S H) (hid S' H')):GR K S' M' τ' σ' H':=by
 obtain⟨φ,g⟩:=g
 refine⟨φ,fun i d e=>?_⟩
 obtain⟨e1,e2⟩:=ht i d e
 obtain⟨⟨v,g1,g2⟩,g3,g4,g5,g6⟩:=g i d e1
 have hm':∀a∈φ i,M' a/\H' a=H a:=fun a ha=>hm a (g4 a ha) fun j o q q2=>g5 j o a q q2 ha
 refine⟨⟨v,e2.trans g1,g2.mono ts fun a ha=>(hm' a ha).2⟩,g3,fun a ha=>(hm' a ha).1,fun j o a q1 q2 ha=>?_,fun j d' hj q=>g6 j d' hj (ht j d' q).1⟩
 rcases ho j o a q1 q2 with ⟨o',z1,z2⟩|z
 ·exact g5 j o' a z1 z2 ha
 ·exact z (g4 a ha)
structure R(K:KW)(S M:Addr->Prop)(τ:DS)(σ:St)(H:Hp):Prop where
 len:σ.length=τ.length
 dat:∀(i:Nat) (x:PyData),τ[i]?=some (some (.d x))->∃v,σ[i]?=some (some v)/\Is K (hid S H) x v
 mt:∀(i:Nat) (o:Ow),τ[i]?=some (some o.L)->∃(a:Addr) (h:HO),σ[i]?=some (some (.ref a))/\M a/\H a=some h/\IsO K (hid S H) o a h
 cst:∀(i:Nat) (xs:List PyData),τ[i]?=some (some (.c xs))->∃(a:Addr) (vs:List V),σ[i]?=some (some (.ref a))/\SqL K (hid S H) a vs/\IsL K (hid S H) xs vs
 inj:∀(i j:Nat) (o p:Ow) (a:Addr),τ[i]?=some (some o.L)->τ[j]?=some (some p.L)->σ[i]?=some (some (.ref a))->σ[j]?=some (some (.ref a))->i=j
 sub:∀a,M a->S a
 ex:∀a,S a->∃o,H a=some o
 gr:GR K S M τ σ H
def Res(K:KW)(fr:Bool)(S:Addr->Prop)(H H':Hp)(d:PyData)(v:V):Prop:=match fr with
 |false=>Is K (hid S H') d v
 |true=>∃(o:Ow) (a:Addr) (h:HO),d=o.D/\v = .ref a/\H a=none/\H' a=some h/\IsO K (hid (fun b=>S b\/b=a) H') o a h
section
variable {K:KW} {S M:Addr->Prop} {τ:DS} {σ:St} {H H':Hp}
theorem R.fresh(r:R K S M τ σ H){a:Addr}(h:H a=none):¬S a:=fun z=>by
 obtain⟨o,e⟩:=r.ex a z
 rw[h]at e;cases e
theorem R.ml(r:R K S M τ σ H)(i:Nat)(xs:List PyData)(e:τ[i]?=some (some (.m xs))):∃(a:Addr) (vs:List V),σ[i]?=some (some (.ref a))/\M a/\H a=some (.lst vs)/\IsL K (hid S H) xs vs:=by
 obtain⟨a,h,h1,h2,h3,vs,rfl,l⟩:=r.mt i (.l xs) e
 exact⟨a,vs,h1,h2,h3,l⟩
theorem R.same(r:R K S M τ σ H)(s:Same H H'):R K S M τ σ H' where
 len:=r.len
 dat:=fun i x e=>let ⟨v,a,b⟩:=r.dat i x e;⟨v,a,b.mono (Same.keep s).same⟩
 mt:=fun i o e=>let ⟨a,h,h1,h2,h3,h4⟩:=r.mt i o e;⟨a,h,h1,h2,s _ _ h3,h4.mono (Same.keep s).same⟩
 cst:=fun i xs e=>let ⟨a,vs,h1,h2,h3⟩:=r.cst i xs e;⟨a,vs,h1,(Same.keep s).same.seq h2,h3.mono (Same.keep s).same⟩
 inj:=r.inj
 sub:=r.sub
 ex:=fun a h=>let ⟨o,e⟩:=r.ex a h;⟨o,s _ _ e⟩
 gr:=r.gr.to (fun i d e=>⟨e,rfl⟩) (fun j o a e q=>.inl ⟨o,e,q⟩) (fun a h _=>⟨h,by obtain⟨o,e⟩:=r.ex a (r.sub a h);rw[e];exact s _ _ e⟩) (tsS (Same.keep s).same)
theorem Res.is{fr:Bool}{d:PyData}{v:V}(h:Res K fr S H H' d v)(f:∀a,H a=none->¬S a):Is K (hid S H') d v:=by
 cases fr with
 |false=>exact h
 |true =>
  obtain⟨o,a,ho,rfl,rfl,h1,h2,h3⟩:=h
  exact IsO.is (h3.mono (E1 fun b z=>.inl z)) (hid_iff.mpr ⟨f a h1,h2⟩)
theorem Res.imp{fr:Bool}{d:PyData}{v:V}(h:Res K fr S H H' d v)(f:∀a,H a=none->¬S a)(fr':Bool)(hf:fr'=true->fr=true):Res K fr' S H H' d v:=by
 cases fr' with
 |false=>exact h.is f
 |true=>rw[hf rfl]at h;exact h
end
abbrev DX:=DS->Option (PyData×DS)
abbrev DT:=DS->Option (Bool×DS)
inductive Ar where
 |d (x:PyData)
 |s (i:Nat)
abbrev DA:=DS->Option (List Ar×DS)
inductive Out where
 |nx (τ:DS)
 |bk (τ:DS)
 |ct (τ:DS)
 |rt (d:PyData) (τ:DS)
abbrev DB:=DS->Option Out
def Like(τ τ':DS):Prop:=τ'.length=τ.length/\∀j:Nat,((∀x,τ'[j]?=some (some (.d x))↔τ[j]?=some (some (.d x)))/\∀x,τ'[j]?=some (some (.c x))↔τ[j]?=some (some (.c x)))/\∀b:Bool,(∃o:Ow,o.fl=b/\τ'[j]?=some (some o.L))↔∃o:Ow,o.fl=b/\τ[j]?=some (some o.L)
theorem Like.refl{τ:DS}:Like τ τ:=⟨rfl,fun j=>⟨⟨fun x=>Iff.rfl,fun x=>Iff.rfl⟩,fun b=>Iff.rfl⟩⟩
theorem Like.trans{τ τ1 τ2:DS}(a:Like τ τ1)(b:Like τ1 τ2):Like τ τ2:=⟨b.1.trans a.1,fun j=>⟨⟨fun x=>((b.2 j).1.1 x).trans ((a.2 j).1.1 x),fun x=>((b.2 j).1.2 x).trans ((a.2 j).1.2 x)⟩,fun c=>((b.2 j).2 c).trans ((a.2 j).2 c)⟩⟩
theorem Like.own{τ τ':DS}(a:Like τ τ')(j:Nat):(∃o:Ow,τ'[j]?=some (some o.L))↔∃o:Ow,τ[j]?=some (some o.L) :=
 ⟨fun⟨o,h⟩=>let ⟨p,_,q⟩:=((a.2 j).2 o.fl).mp ⟨o,rfl,h⟩;⟨p,q⟩,fun⟨o,h⟩=>let ⟨p,_,q⟩:=((a.2 j).2 o.fl).mpr ⟨o,rfl,h⟩;⟨p,q⟩⟩
theorem Like.ml{τ τ':DS}(a:Like τ τ'){j:Nat}{xs:List PyData}(h:τ'[j]?=some (some (.m xs))):∃ys,τ[j]?=some (some (.m ys)):=by
 obtain⟨o,e,h⟩:=((a.2 j).2 true).mp ⟨.l xs,rfl,h⟩
 cases o with
 |l ys=>exact⟨ys,h⟩
 |t ys=>cases e
structure E K (t:TE) (fr:Bool) (f:DX):Prop where
 like:∀τ d τ',f τ=some (d,τ')->Like τ τ'
 run:∀S M τ σ H (Q:VK) d τ',R K S M τ σ H->f τ=some (d,τ')->(∀v H',R K S M τ' σ H'->Chg M H H'->Res K fr S H H' d v->Q v H')->t σ H Q
structure T K (t:TT) (f:DT):Prop where
 like:∀τ b τ',f τ=some (b,τ')->Like τ τ'
 run:∀S M τ σ H (Q:Bool->Hp->Prop) b τ',R K S M τ σ H->f τ=some (b,τ')->(∀H',R K S M τ' σ H'->Chg M H H'->Q b H')->t σ H Q
def Wk(K:KW)(S:Addr->Prop)(σ:St)(H:Hp):List Ar->List V->Prop
 |[],vs=>vs=[]
 |.d x::rs,vs=>∃v us,vs=v::us/\Is K (hid S H) x v/\Wk K S σ H rs us
 |.s i::rs,vs=>∃v us,vs=v::us/\σ[i]?=some (some v)/\Wk K S σ H rs us
structure A K (t:TA) (f:DA):Prop where
 like:∀τ rs τ',f τ=some (rs,τ')->Like τ τ'
 run:∀S M τ σ H (Q:List V->Hp->Prop) rs τ',R K S M τ σ H->f τ=some (rs,τ')->(∀vs H',R K S M τ' σ H'->Chg M H H'->Wk K S σ H' rs vs->Q vs H')->t σ H Q
structure Frm where
 S:Addr->Prop
 M:Addr->Prop
 H:Hp
 ar:List (Option V)
structure RF(K:KW)(F:Frm)(S M:Addr->Prop)(τ:DS)(σ:St)(H:Hp):Prop where
 r:R K S M τ σ H
 sS:∀a,F.S a->S a
 old:∀b o,F.H b=some o->¬F.M b->H b=some o
 new:∀a,M a->F.M a\/F.H a=none
 fm:∀a,F.M a->M a
 fs:∀a,F.S a->∃o,F.H a=some o
 fsub:∀a,F.M a->F.S a
 snew:∀a,S a->F.S a\/F.H a=none
 par:∀(i:Nat) (v:V),F.ar[i]?=some (some v)->σ[i]?=some (some v)
 pm:∀(i:Nat) (v:V),F.ar[i]?=some (some v)->∃o:Ow,τ[i]?=some (some o.L)
 fma:∀a,F.M a->∃i:Nat,F.ar[i]?=some (some (.ref a))
def Gl(K:KW)(F:Frm)(fr:Bool)(S:Addr->Prop)(H:Hp)(D:Lo):Out->Prop
 |.nx τ'=>∀S' M' σ' H',RF K F S' M' τ' σ' H'->Keep S H S' H'->D.nx σ' H'
 |.bk τ'=>∀S' M' σ' H',RF K F S' M' τ' σ' H'->Keep S H S' H'->D.bk σ' H'
 |.ct τ'=>∀S' M' σ' H',RF K F S' M' τ' σ' H'->Keep S H S' H'->D.ct σ' H'
 |.rt d τ'=>∀S' M' σ' H' v,RF K F S' M' τ' σ' H'->Res K fr F.S F.H H' d v->D.rt v H'
def B(K:KW)(np:Nat)(t:TS)(fr:Bool)(f:DB):Prop:=∀(F:Frm) S M τ σ H (D:Lo) out,F.ar.length<=np->RF K F S M τ σ H->f τ=some out->Gl K F fr S H D out->t D σ H
end DL
end
section
namespace DL
open PySem L2
variable {K:KW}
section
variable {S M:Addr->Prop} {τ τ':DS} {σ:St} {H H' H2:Hp}
theorem R.none(r:R K S M τ σ H')(c:Chg M H H'){a:Addr}(h:H' a=Option.none):H a=Option.none:=by
 cases e:H a with
 |none=>rfl
 |some o =>
  exfalso
  by_cases hm:M a
  ·obtain⟨o',e'⟩:=r.ex a (r.sub a hm)
   rw[h]at e';cases e'
  ·have:=c a o hm e
   rw[h]at this;cases this
theorem Res.back{fr:Bool}{d:PyData}{v:V}(h:Res K fr S H' H2 d v)(r:R K S M τ σ H')(c:Chg M H H'):Res K fr S H H2 d v:=by
 cases fr with
 |false=>exact h
 |true =>
  obtain⟨xs,a,vs,e1,e2,h1,h2,h3⟩:=h
  exact⟨xs,a,vs,e1,e2,r.none c h1,h2,h3⟩
theorem R.isr(r:R K S M τ σ H){fr:Bool}{d:PyData}{v:V}(h:Res K fr S H H' d v):Is K (hid S H') d v:=h.is fun _ z=>r.fresh z
end
theorem E.weak{t:TE}{fr:Bool}{f:DX}(h:E K t fr f):E K t false f:=⟨h.like,fun S M τ σ H Q d τ' r e q=>h.run S M τ σ H Q d τ' r e fun v H' r' c res=>q v H' r' c (r.isr res)⟩
def AB(i:Nat)(τ:DS):Option (PyData×DS):=match τ[i]? with
 |some (some (.d x))=>some (x,τ)
 |_=>none
theorem LW{i:Nat}:E K (Eb i) false (AB i):=by
 refine⟨fun τ d τ' e=>?_,?_⟩
 ·unfold AB at e;split at e
  ·cases e;exact .refl
  ·cases e
 intro S M τ σ H Q d τ' r e q
 unfold AB at e
 split at e
 ·rename_i x hx
  cases e
  obtain⟨v,h1,h2⟩:=r.dat i _ hx
  exact⟨v,h1,q v H r .refl h2⟩
 ·cases e
def dC(d:PyData)(τ:DS):Option (PyData×DS):=some (d,τ)
theorem e_c{d:PyData}{v:V}(h:∀H,Is K H d v):E K (tC v) false (dC d):=by
 refine⟨fun τ d τ' e=>?_,?_⟩
 ·cases e;exact .refl
 intro S M τ σ H Q d' τ' r e q
 cases e
 exact q v H r .refl (h _)
theorem Mf{i:Int}:E K (tC (.int i)) false (dC (.int i)):=e_c fun _=>rfl
theorem eo{b:Bool}:E K (tC (.bl b)) false (dC (.bool b)):=e_c fun _=>rfl
theorem ba{x:Str}:E K (tC (.str x)) false (dC (.str x)):=e_c fun _=>rfl
theorem bg:E K (tC .non) false (dC .none):=e_c fun _=>rfl
def OR(K:KW)(fr:Bool)(r:R2)(F:PyData->PyData->Option PyData):Prop:=∀(S:Addr->Prop) H x y dx dy d (Q:VK),(∀a,H a=none->¬S a)->Is K (hid S H) dx x->Is K (hid S H) dy y->F dx dy=some d->(∀v H',Same H H'->Res K fr S H H' d v->Q v H')->r x y H Q
def dOp(F:PyData->PyData->Option PyData)(a b:DX)(τ:DS):Option (PyData×DS):=(a τ).bind fun p=>(b p.2).bind fun q=>(F p.1 q.1).map fun d=>(d,q.2)
theorem Nd{fr fa fb:Bool}{r:R2}{F:PyData->PyData->Option PyData}{ta tb:TE}{a b:DX}(h:OR K fr r F)(ha:E K ta fa a)(hb:E K tb fb b):E K (tOp r ta tb) fr (dOp F a b):=by
 refine⟨fun τ d τ' e=>?_,?_⟩
 ·unfold dOp at e;obtain⟨⟨x,τ1⟩,e1,e⟩:=oB e;obtain⟨⟨y,τ2⟩,e2,e⟩:=oB e;obtain⟨z,e3,e⟩:=oM e;cases e;exact(ha.like _ _ _ e1).trans (hb.like _ _ _ e2)
 intro S M τ σ H Q d τ' rr e q
 unfold dOp at e
 obtain⟨⟨x,τ1⟩,e1,e⟩:=oB e
 obtain⟨⟨y,τ2⟩,e2,e⟩:=oB e
 obtain⟨z,e3,e⟩:=oM e
 cases e
 refine ha.run S M τ σ H _ x τ1 rr e1 fun v1 H1 r1 c1 i1=>?_
 refine hb.run S M τ1 σ H1 _ y τ2 r1 e2 fun v2 H2 r2 c2 i2=>?_
 refine h S H2 v1 v2 x y d _ (fun _=>r2.fresh) ((rr.isr i1).mono (c2.keep r1.sub).same) (r1.isr i2) e3 fun v H' s res=>?_
 exact q v H' (r2.same s) ((c1.trans c2).trans (.of s)) (res.back r2 (c1.trans c2))
def UR(K:KW)(fr:Bool)(r:V->Hp->VK->Prop)(F:PyData->Option PyData):Prop:=∀(S:Addr->Prop) H x dx d (Q:VK),(∀a,H a=none->¬S a)->Is K (hid S H) dx x->F dx=some d->(∀v H',Same H H'->Res K fr S H H' d v->Q v H')->r x H Q
def dUn(F:PyData->Option PyData)(a:DX)(τ:DS):Option (PyData×DS):=(a τ).bind fun p=>(F p.1).map fun d=>(d,p.2)
theorem eW{fr fa:Bool}{r:V->Hp->VK->Prop}{F:PyData->Option PyData}{ta:TE}{a:DX}(h:UR K fr r F)(ha:E K ta fa a):E K (tUn r ta) fr (dUn F a):=by
 refine⟨fun τ d τ' e=>?_,?_⟩
 ·unfold dUn at e;obtain⟨⟨x,τ1⟩,e1,e⟩:=oB e;obtain⟨z,e3,e⟩:=oM e;cases e;exact ha.like _ _ _ e1
 intro S M τ σ H Q d τ' rr e q
 unfold dUn at e
 obtain⟨⟨x,τ1⟩,e1,e⟩:=oB e
 obtain⟨z,e3,e⟩:=oM e
 cases e
 refine ha.run S M τ σ H _ x _ rr e1 fun v1 H1 r1 c1 i1=>?_
 refine h S H1 v1 x d _ (fun _=>r1.fresh) (rr.isr i1) e3 fun v H' s res=>?_
 exact q v H' (r1.same s) (c1.trans (.of s)) (res.back r1 c1)
def fI(g:Int->Int->PyData):PyData->PyData->Option PyData
 |.int i,.int j=>some (g i j)
 |_,_=>none
def fC(C:Int->Int->Prop)[∀i j,Decidable (C i j)](g:Int->Int->PyData):PyData->PyData->Option PyData
 |.int i,.int j=>if C i j then some (g i j) else none
 |_,_=>none
theorem Vy{g:Int->Int->PyData}{x y d:PyData}(h:fI g x y=some d):∃i j,x = .int i/\y = .int j/\d=g i j:=by
 unfold fI at h
 split at h
 ·exact⟨_,_,rfl,rfl,(Option.some.inj h).symm⟩
 ·cases h
theorem Vz{C:Int->Int->Prop}[∀i j,Decidable (C i j)]{g:Int->Int->PyData}{x y d:PyData}(h:fC C g x y=some d):∃i j,x = .int i/\y = .int j/\C i j/\d=g i j:=by
 unfold fC at h
 split at h
 ·split at h
  ·rename_i hc;exact⟨_,_,rfl,rfl,hc,(Option.some.inj h).symm⟩
  ·cases h
 ·cases h
theorem RT{g:Int->Int->V}{g':Int->Int->PyData}(h:∀i j H,Is K H (g' i j) (g i j)):OR K false (rI0 g) (fI g'):=by
 intro S H x y dx dy d Q _ ix iy e q
 obtain⟨i,j,rfl,rfl,rfl⟩:=Vy e
 exact⟨i,j,ix,iy,q _ H (fun _ _ e=>e) (h _ _ _)⟩
theorem VS{C:Int->Int->Prop}[∀i j,Decidable (C i j)]{g:Int->Int->V}{g':Int->Int->PyData}(h:∀i j H,Is K H (g' i j) (g i j)):OR K false (rI C g) (fC C g'):=by
 intro S H x y dx dy d Q _ ix iy e q
 obtain⟨i,j,rfl,rfl,c,rfl⟩:=Vz e
 exact⟨i,j,ix,iy,c,q _ H (fun _ _ e=>e) (h _ _ _)⟩
instance {i j:Int}:Decidable (CMulB i j):=by unfold CMulB CMul Bd;infer_instance
instance {i j:Int}:Decidable (O8 i j):=by unfold O8 Bd;infer_instance
instance {i j:Int}:Decidable (Us i j):=by unfold Us;infer_instance
def Ap:=fI fun i j=>.int (i+j)
def BN:=fI fun i j=>.int (i-j)
def F5:=fC CMulB fun i j=>.int (i*j)
def Aj:=fC O8 fun i j=>.int (i / j)
def Aa:=fC (fun _ j=>0<j) fun i j=>.int (i % j)
def Iy:=fC Us fun i j=>.int (i ^ j.toNat)
def fLt:=fI fun i j=>.bool (decide (i<j))
def fLe:=fI fun i j=>.bool (decide (i<=j))
def fGt:=fI fun i j=>.bool (decide (j<i))
def fGe:=fI fun i j=>.bool (decide (j<=i))
theorem W7:OR K false (rI0 fun i j=>.int (i+j)) Ap:=RT fun _ _ _=>rfl
theorem au:OR K false (rI0 fun i j=>.int (i-j)) BN:=RT fun _ _ _=>rfl
theorem ay:OR K false (rI CMulB fun i j=>.int (i*j)) F5:=VS fun _ _ _=>rfl
theorem bE:OR K false (rI O8 fun i j=>.int (i / j)) Aj:=VS fun _ _ _=>rfl
theorem az:OR K false (rI (fun _ j=>0<j) fun i j=>.int (i % j)) Aa:=VS fun _ _ _=>rfl
theorem av:OR K false (rI Us fun i j=>.int (i ^ j.toNat)) Iy:=VS fun _ _ _=>rfl
theorem eI:OR K false (rI0 fun i j=>.bl (decide (i<j))) fLt:=RT fun _ _ _=>rfl
theorem eJ:OR K false (rI0 fun i j=>.bl (decide (i<=j))) fLe:=RT fun _ _ _=>rfl
theorem eK:OR K false (rI0 fun i j=>.bl (decide (j<i))) fGt:=RT fun _ _ _=>rfl
theorem eL:OR K false (rI0 fun i j=>.bl (decide (j<=i))) fGe:=RT fun _ _ _=>rfl
def FI:PyData->Option PyData
 |.int i=>some (.int (-i))
 |_=>none
theorem aG:UR K false (rU fun i=>.int (-i)) FI:=by
 intro S H x dx d Q _ ix e q
 unfold FI at e
 split at e
 ·cases e;exact⟨_,ix,q _ H (fun _ _ e=>e) rfl⟩
 ·cases e
def fEq(x y:PyData):Option PyData:=if okD x&&okD y then some (.bool (PyData.eqv x y)) else none
def fNe(x y:PyData):Option PyData:=if okD x&&okD y then some (.bool (!PyData.eqv x y)) else none
theorem eM:OR K false (VB K) fEq:=by
 intro S H x y dx dy d Q _ ix iy e q
 unfold fEq at e
 split at e
 ·rename_i h
  rw[Bool.and_eq_true]at h
  cases e
  exact⟨dx,dy,ix.mono same_hid,iy.mono same_hid,h.1,h.2,q _ H (fun _ _ e=>e) rfl⟩
 ·cases e
theorem ax:OR K false (VA K) fNe:=by
 intro S H x y dx dy d Q _ ix iy e q
 unfold fNe at e
 split at e
 ·rename_i h
  rw[Bool.and_eq_true]at h
  cases e
  exact⟨dx,dy,ix.mono same_hid,iy.mono same_hid,h.1,h.2,q _ H (fun _ _ e=>e) rfl⟩
 ·cases e
def fIn(neg:Bool)(x:PyData):PyData->Option PyData
 |.list es=>if okD x&&okD (.list es) then some (.bool (if neg then !(es.any fun y=>PyData.eqv y x) else es.any fun y=>PyData.eqv y x)) else none
 |.tuple es=>if okD x&&okD (.list es) then some (.bool (if neg then !(es.any fun y=>PyData.eqv y x) else es.any fun y=>PyData.eqv y x)) else none
 |_=>none
theorem bD{neg:Bool}:OR K false (PY K neg) (fIn neg):=by
 intro S H x y dx dy d Q _ ix iy e q
 unfold fIn at e
 split at e
 ·split at e
  ·rename_i h
   rw[Bool.and_eq_true]at h
   cases e
   exact⟨dx,_,ix.mono same_hid,.inl (iy.mono same_hid),h.1,h.2,q _ H (fun _ _ e=>e) rfl⟩
  ·cases e
 ·split at e
  ·rename_i h
   rw[Bool.and_eq_true]at h
   cases e
   exact⟨dx,_,ix.mono same_hid,.inr (iy.mono same_hid),h.1,h.2,q _ H (fun _ _ e=>e) rfl⟩
  ·cases e
 ·cases e
def Io:PyData->Bool
 |.none=>true
 |_=>false
def ED(x y:PyData):Option PyData:=match y with
 |.none=>some (.bool (Io x))
 |_=>none
def Bz(x y:PyData):Option PyData:=match y with
 |.none=>some (.bool (!Io x))
 |_=>none
theorem T4{H:Hp}{x:PyData}{v:V}(h:Is K H x v):decide (v=V.non)=Io x:=by
 cases x with
 |none=>rw[show v = .non from h];rfl
 |bool b=>rw[show v = .bl b from h];rfl
 |int b=>rw[show v = .int b from h];rfl
 |str b=>rw[show v = .str b from h];rfl
 |list b=>obtain⟨a,vs,rfl,_⟩:=h;rfl
 |tuple b=>obtain⟨a,vs,rfl,_⟩:=h;rfl
 |dict b=>obtain⟨a,ts,rfl,_⟩:=h;rfl
theorem bB:OR K false (fun x y H Q=>y = .non/\Q (.bl (decide (x = .non))) H) ED:=by
 intro S H x y dx dy d Q _ ix iy e q
 unfold ED at e
 split at e
 ·cases e
  refine⟨iy,?_⟩
  rw[T4 ix]
  exact q _ H (fun _ _ e=>e) rfl
 ·cases e
theorem YG:OR K false (fun x y H Q=>y = .non/\Q (.bl (!decide (x = .non))) H) Bz:=by
 intro S H x y dx dy d Q _ ix iy e q
 unfold Bz at e
 split at e
 ·cases e
  refine⟨iy,?_⟩
  rw[T4 ix]
  exact q _ H (fun _ _ e=>e) rfl
 ·cases e
def Co:PyData->PyData->Option PyData
 |.list xs,.int i=>atI xs i
 |_,_=>none
def AJ:PyData->PyData->Option PyData
 |.tuple xs,.int i=>atI xs i
 |_,_=>none
theorem Pu{H:Hp}{ds:List PyData}{vs:List V}{i:Int}{d:PyData}(h:IsL K H ds vs)(e:atI ds i=some d):∃v,atI vs i=some v/\Is K H d v:=by
 unfold atI at e ⊢
 rw[h.length]
 cases q:ixN ds.length i with
 |none=>rw[q]at e;cases e
 |some j =>
  rw[q]at e
  exact h.get (show ds[j]?=some d from e)
theorem W6:OR K false (RK K) Co:=by
 intro S H x y dx dy d Q _ ix iy e q
 unfold Co at e
 split at e
 ·obtain⟨a,vs,rfl,h,l⟩:=ix
  obtain⟨v,h1,h2⟩:=Pu l e
  exact⟨a,vs,_,v,rfl,iy,SqL.of (hid_iff.mp h).2,h1,q _ H (fun _ _ e=>e) h2⟩
 ·cases e
theorem Tn:OR K false (RJ K) AJ:=by
 intro S H x y dx dy d Q _ ix iy e q
 unfold AJ at e
 split at e
 ·obtain⟨a,vs,rfl,h,l⟩:=ix
  obtain⟨v,h1,h2⟩:=Pu l e
  exact⟨a,vs,_,v,rfl,iy,Same.tup same_hid h,h1,q _ H (fun _ _ e=>e) h2⟩
 ·cases e
def Ea:PyData->PyData->Option PyData
 |.list xs,.list ys=>if xs.length+ys.length<=sizeLine then some (.list (xs++ys)) else none
 |_,_=>none
theorem Ez{H:Hp}:∀{xs ys:List PyData} {vs us:List V},IsL K H xs vs->IsL K H ys us->IsL K H (xs++ys) (vs++us)
 |[],_,_,_,h,k=>by rw[show _=[] from h];exact k
 |_::_,_,_,_,⟨x,xs,e,h,l⟩,k=>by subst e;exact⟨x,_,rfl,h,Ez l k⟩
theorem Ie{S:Addr->Prop}{H:Hp}{xs:List PyData}{vs:List V}{p:Addr}(hp:H p=none)(l:IsL K (hid S H) xs vs):Res K true S H (upd H p (.lst vs)) (.list xs) (.ref p):=by
 refine⟨.l xs,p,_,rfl,rfl,hp,Aq,vs,rfl,l.mono (Keep.same fun b o hn e=>?_)⟩
 have:b≠p:=A9 e hp
 exact⟨fun z=>z.elim hn this,by rw[BF this];exact e⟩
theorem bF:OR K true Xu Ea:=by
 intro S H x y dx dy d Q _ ix iy e q
 unfold Ea at e
 split at e
 ·split at e
  ·rename_i hz
   cases e
   obtain⟨a,vs,rfl,h,l⟩:=ix
   obtain⟨b,us,rfl,h',l'⟩:=iy
   refine⟨a,b,vs,us,rfl,rfl,(hid_iff.mp h).2,(hid_iff.mp h').2,by rw[l.length,l'.length];exact hz,fun p hp=>?_⟩
   exact q _ _ (Ax hp _) (Ie hp (Ez l l'))
  ·cases e
 ·cases e
def AE(a:DX)(τ:DS):Option (Bool×DS):=(a τ).bind fun p=>match p.1 with
 |.bool b=>some (b,p.2)
 |_=>none
theorem Fb{fr:Bool}{t:TE}{a:DX}(h:E K t fr a):T K (QO t) (AE a):=by
 refine⟨fun τ d τ' e=>?_,?_⟩
 ·unfold AE at e;obtain⟨⟨x,τ1⟩,e1,e⟩:=oB e;dsimp only at e;split at e
  ·cases e;exact h.like _ _ _ e1
  ·cases e
 intro S M τ σ H Q b τ' r e q
 unfold AE at e
 obtain⟨⟨x,τ1⟩,e1,e⟩:=oB e
 dsimp only at e
 split at e
 ·cases e
  refine h.run S M τ σ H _ _ _ r e1 fun v H' r' c i=>?_
  exact⟨b,(show v = .bl b from r.isr i),q H' r' c⟩
 ·cases e
theorem Wq{fr:Bool}{t:TE}{a:DX}(h:E K t fr a):T K (tB t) (AE a):=Fb h
def Ad(a b:DT)(τ:DS):Option (Bool×DS):=(a τ).bind fun p=>if p.1=true then b p.2 else some (false,p.2)
def BZ(a b:DT)(τ:DS):Option (Bool×DS):=(a τ).bind fun p=>if p.1=true then some (true,p.2) else b p.2
def As(a:DT)(τ:DS):Option (Bool×DS):=(a τ).map fun p=>(!p.1,p.2)
theorem aL{ta tb:TT}{a b:DT}(ha:T K ta a)(hb:T K tb b):T K (aQ ta tb) (Ad a b):=by
 refine⟨fun τ d τ' e=>?_,?_⟩
 ·unfold Ad at e;obtain⟨⟨c,τ1⟩,e1,e⟩:=oB e;cases c with
  |true=>exact(ha.like _ _ _ e1).trans (hb.like _ _ _ e)
  |false=>cases e;exact ha.like _ _ _ e1
 intro S M τ σ H Q k τ' r e q
 unfold Ad at e
 obtain⟨⟨c,τ1⟩,e1,e⟩:=oB e
 refine ha.run S M τ σ H _ c τ1 r e1 fun H1 r1 c1=>?_
 cases c with
 |true=>exact hb.run S M τ1 σ H1 _ k τ' r1 e fun H2 r2 c2=>q H2 r2 (c1.trans c2)
 |false=>cases e;exact q H1 r1 c1
theorem eA{ta tb:TT}{a b:DT}(ha:T K ta a)(hb:T K tb b):T K (tOr ta tb) (BZ a b):=by
 refine⟨fun τ d τ' e=>?_,?_⟩
 ·unfold BZ at e;obtain⟨⟨c,τ1⟩,e1,e⟩:=oB e;cases c with
  |false=>exact(ha.like _ _ _ e1).trans (hb.like _ _ _ e)
  |true=>cases e;exact ha.like _ _ _ e1
 intro S M τ σ H Q k τ' r e q
 unfold BZ at e
 obtain⟨⟨c,τ1⟩,e1,e⟩:=oB e
 refine ha.run S M τ σ H _ c τ1 r e1 fun H1 r1 c1=>?_
 cases c with
 |false=>exact hb.run S M τ1 σ H1 _ k τ' r1 e fun H2 r2 c2=>q H2 r2 (c1.trans c2)
 |true=>cases e;exact q H1 r1 c1
theorem aJ{ta:TT}{a:DT}(ha:T K ta a):T K (aO ta) (As a):=by
 refine⟨fun τ d τ' e=>?_,?_⟩
 ·unfold As at e;obtain⟨⟨c,τ1⟩,e1,e⟩:=oM e;cases e;exact ha.like _ _ _ e1
 intro S M τ σ H Q k τ' r e q
 unfold As at e
 obtain⟨⟨c,τ1⟩,e1,e⟩:=oM e
 cases e
 exact ha.run S M τ σ H _ c _ r e1 fun H1 r1 c1=>q H1 r1 c1
def dIf(c:DT)(a b:DX)(τ:DS):Option (PyData×DS):=(c τ).bind fun p=>if p.1=true then a p.2 else b p.2
theorem eh{fr:Bool}{tc:TT}{ta tb:TE}{c:DT}{a b:DX}(hc:T K tc c)(ha:E K ta fr a)(hb:E K tb fr b):E K (tIf tc ta tb) fr (dIf c a b):=by
 refine⟨fun τ d τ' e=>?_,?_⟩
 ·unfold dIf at e;obtain⟨⟨c,τ1⟩,e1,e⟩:=oB e;cases c with
  |true=>exact(hc.like _ _ _ e1).trans (ha.like _ _ _ e)
  |false=>exact(hc.like _ _ _ e1).trans (hb.like _ _ _ e)
 intro S M τ σ H Q d τ' r e q
 unfold dIf at e
 obtain⟨⟨k,τ1⟩,e1,e⟩:=oB e
 refine hc.run S M τ σ H _ k τ1 r e1 fun H1 r1 c1=>?_
 cases k with
 |true=>exact ha.run S M τ1 σ H1 _ d τ' r1 e fun v H2 r2 c2 i=>q v H2 r2 (c1.trans c2) (i.back r1 c1)
 |false=>exact hb.run S M τ1 σ H1 _ d τ' r1 e fun v H2 r2 c2 i=>q v H2 r2 (c1.trans c2) (i.back r1 c1)
def Cb(a b:DX)(τ:DS):Option (PyData×DS):=(AE a τ).bind fun p=>if p.1=true then b p.2 else some (.bool false,p.2)
def dOr(a b:DX)(τ:DS):Option (PyData×DS):=(AE a τ).bind fun p=>if p.1=true then some (.bool true,p.2) else b p.2
def Hn(a:DX)(τ:DS):Option (PyData×DS):=(AE a τ).map fun p=>(.bool (!p.1),p.2)
theorem b7{fa fb:Bool}{ta tb:TE}{a b:DX}(ha:E K ta fa a)(hb:E K tb fb b):E K (Ww ta tb) false (Cb a b):=by
 refine⟨fun τ d τ' e=>?_,?_⟩
 ·unfold Cb at e;obtain⟨⟨c,τ1⟩,e1,e⟩:=oB e;cases c with
  |true=>exact((Fb ha).like _ _ _ e1).trans (hb.like _ _ _ e)
  |false=>cases e;exact(Fb ha).like _ _ _ e1
 intro S M τ σ H Q d τ' r e q
 unfold Cb at e
 obtain⟨⟨k,τ1⟩,e1,e⟩:=oB e
 refine(Fb ha).run S M τ σ H (fun c H1=>if c=true then tb σ H1 Q else Q (.bl false) H1) k τ1 r e1 fun H1 r1 c1=>?_
 cases k with
 |true=>exact hb.weak.run S M τ1 σ H1 _ d τ' r1 e fun v H2 r2 c2 i=>q v H2 r2 (c1.trans c2) i
 |false=>cases e;exact q _ H1 r1 c1 rfl
theorem bc{fa:Bool}{ta:TE}{a:DX}(ha:E K ta fa a):E K (Wt ta) false (Hn a):=by
 refine⟨fun τ d τ' e=>?_,?_⟩
 ·unfold Hn at e;obtain⟨⟨c,τ1⟩,e1,e⟩:=oM e;cases e;exact(Fb ha).like _ _ _ e1
 intro S M τ σ H Q d τ' r e q
 unfold Hn at e
 obtain⟨⟨k,τ1⟩,e1,e⟩:=oM e
 cases e
 exact(Fb ha).run S M τ σ H (fun c H1=>Q (.bl (!c)) H1) k _ r e1 fun H1 r1 c1=>q _ H1 r1 c1 rfl
def Bf(F G:PyData->PyData->Option PyData)(a b c:DX)(τ:DS):Option (PyData×DS):=(a τ).bind fun p=>(b p.2).bind fun q=>(F p.1 q.1).bind fun z=>match z with
 |.bool true=>(c q.2).bind fun s=>(G q.1 s.1).map fun d=>(d,s.2)
 |.bool false=>some (.bool false,q.2)
 |_=>none
theorem Qx{fa fb fc:Bool}{r r':R2}{F G:PyData->PyData->Option PyData}{ta tb tc:TE}{a b c:DX}(h:OR K false r F)(h':OR K false r' G)(ha:E K ta fa a)(hb:E K tb fb b)(hc:E K tc fc c):E K (PU r r' ta tb tc) false (Bf F G a b c):=by
 refine⟨fun τ d τ' e=>?_,?_⟩
 ·unfold Bf at e;obtain⟨⟨x,τ1⟩,e1,e⟩:=oB e;obtain⟨⟨y,τ2⟩,e2,e⟩:=oB e;obtain⟨z,e3,e⟩:=oB e;split at e
  ·obtain⟨⟨w,τ4⟩,e4,e⟩:=oB e;obtain⟨z,e5,e⟩:=oM e;cases e;exact((ha.like _ _ _ e1).trans (hb.like _ _ _ e2)).trans (hc.like _ _ _ e4)
  ·cases e;exact(ha.like _ _ _ e1).trans (hb.like _ _ _ e2)
  ·cases e
 intro S M τ σ H Q d τ' rr e q
 unfold Bf at e
 obtain⟨⟨x,τ1⟩,e1,e⟩:=oB e
 obtain⟨⟨y,τ2⟩,e2,e⟩:=oB e
 obtain⟨z,e3,e⟩:=oB e
 refine ha.run S M τ σ H _ x τ1 rr e1 fun v1 H1 r1 c1 i1=>?_
 refine hb.run S M τ1 σ H1 _ y τ2 r1 e2 fun v2 H2 r2 c2 i2=>?_
 have j2:=r1.isr i2
 refine h S H2 v1 v2 x y z _ (fun _=>r2.fresh) ((rr.isr i1).mono (c2.keep r1.sub).same) j2 e3 fun v H3 s res=>?_
 have r3:=r2.same s
 have c3:Chg M H H3:=(c1.trans c2).trans (.of s)
 split at e
 ·obtain⟨⟨w,τ4⟩,e4,e⟩:=oB e
  obtain⟨z,e5,e⟩:=oM e
  cases e
  refine⟨true,res,?_⟩
  refine hc.run S M τ2 σ H3 _ w _ r3 e4 fun v4 H4 r4 c4 i4=>?_
  refine h' S H4 v2 v4 y w d _ (fun _=>r4.fresh) ((j2.mono (Same.keep s).same).mono (c4.keep r3.sub).same) (r3.isr i4) e5 fun v5 H5 s5 res5=>?_
  exact q v5 H5 (r4.same s5) ((c3.trans c4).trans (.of s5)) res5
 ·cases e
  exact⟨false,res,q _ H3 r3 c3 rfl⟩
 ·cases e
end DL
end
section
namespace DL
open PySem L2
variable {K:KW}
def AD(τ:DS):Option (List Ar×DS):=some ([],τ)
def AA(a:DX)(r:DA)(τ:DS):Option (List Ar×DS):=(a τ).bind fun p=>(r p.2).map fun q=>(.d p.1::q.1,q.2)
theorem Uj:A K FG AD:=by
 refine⟨fun τ d τ' e=>?_,?_⟩
 ·cases e;exact .refl
 intro S M τ σ H Q rs τ' r e q
 cases e
 exact q [] H r .refl rfl
theorem Uk{fr:Bool}{te:TE}{t:TA}{a:DX}{f:DA}(ha:E K te fr a)(hr:A K t f):A K (CJ te t) (AA a f):=by
 refine⟨fun τ d τ' e=>?_,?_⟩
 ·unfold AA at e
  obtain⟨⟨x,τ1⟩,e1,e⟩:=oB e
  obtain⟨⟨y,τ2⟩,e2,e⟩:=oM e
  cases e
  exact(ha.like _ _ _ e1).trans (hr.like _ _ _ e2)
 intro S M τ σ H Q rs τ' r e q
 unfold AA at e
 obtain⟨⟨x,τ1⟩,e1,e⟩:=oB e
 obtain⟨⟨y,τ2⟩,e2,e⟩:=oM e
 cases e
 refine ha.run S M τ σ H _ x τ1 r e1 fun v H1 r1 c1 i1=>?_
 refine hr.run S M τ1 σ H1 _ y _ r1 e2 fun vs H2 r2 c2 i2=>?_
 exact q (v::vs) H2 r2 (c1.trans c2) ⟨v,vs,rfl,(r.isr i1).mono (c2.keep r1.sub).same,i2⟩
def BC:List Ar->Option (List PyData)
 |[]=>some []
 |.d x::r=>(BC r).map (x::·)
 |.s _::_=>none
theorem DR{S:Addr->Prop}{σ:St}{H:Hp}:∀{rs:List Ar} {vs:List V} {ds:List PyData},Wk K S σ H rs vs->BC rs=some ds->IsL K (hid S H) ds vs
 |[],_,_,h,e=>by cases e;exact h
 |.d x::r,_,_,⟨v,us,e1,h,l⟩,e=>by
  obtain⟨ds,e2,e⟩:=oM e
  cases e
  exact⟨v,us,e1,h,DR l e2⟩
 |.s _::_,_,_,_,e=>by cases e
def AW(a:DA)(τ:DS):Option (PyData×DS):=(a τ).bind fun p=>(BC p.1).bind fun ds=>if ds.length<=sizeLine then some (.tuple ds,p.2) else none
def Bs(a:DA)(τ:DS):Option (PyData×DS):=(a τ).bind fun p=>(BC p.1).bind fun ds=>if ds.length<=sizeLine then some (.list ds,p.2) else none
theorem bZ{t:TA}{a:DA}(ha:A K t a):E K (Uz t) false (AW a):=by
 refine⟨fun τ d τ' e=>?_,?_⟩
 ·unfold AW at e
  obtain⟨⟨x,τ1⟩,e1,e⟩:=oB e
  obtain⟨ds,e2,e⟩:=oB e
  split at e
  ·cases e;exact ha.like _ _ _ e1
  ·cases e
 intro S M τ σ H Q d τ' r e q
 unfold AW at e
 obtain⟨⟨x,τ1⟩,e1,e⟩:=oB e
 obtain⟨ds,e2,e⟩:=oB e
 split at e
 ·rename_i hz
  cases e
  refine ha.run S M τ σ H _ x _ r e1 fun vs H1 r1 c1 i1=>?_
  have l:=DR i1 e2
  refine⟨by rw[l.length];exact hz,fun p hp=>?_⟩
  have s:=Ax hp (HO.tup vs)
  exact q _ _ (r1.same s) (c1.trans (.of s)) ⟨p,vs,rfl,SqT.of (hid_iff.mpr ⟨r1.fresh hp,Aq⟩),l.mono (Same.keep s).same⟩
 ·cases e
theorem bh{t:TA}{a:DA}(ha:A K t a):E K (Se t) true (Bs a):=by
 refine⟨fun τ d τ' e=>?_,?_⟩
 ·unfold Bs at e
  obtain⟨⟨x,τ1⟩,e1,e⟩:=oB e
  obtain⟨ds,e2,e⟩:=oB e
  split at e
  ·cases e;exact ha.like _ _ _ e1
  ·cases e
 intro S M τ σ H Q d τ' r e q
 unfold Bs at e
 obtain⟨⟨x,τ1⟩,e1,e⟩:=oB e
 obtain⟨ds,e2,e⟩:=oB e
 split at e
 ·rename_i hz
  cases e
  refine ha.run S M τ σ H _ x _ r e1 fun vs H1 r1 c1 i1=>?_
  have l:=DR i1 e2
  refine⟨by rw[l.length];exact hz,fun p hp=>?_⟩
  have s:=Ax hp (HO.lst vs)
  exact q _ _ (r1.same s) (c1.trans (.of s)) ((Ie hp l).back r1 c1)
 ·cases e
def BR(K:KW)(fr:Bool)(r:List V->Hp->VK->Prop)(F:List PyData->Option PyData):Prop:=∀(S:Addr->Prop) H vs ds d (Q:VK),(∀a,H a=none->¬S a)->IsL K (hid S H) ds vs->F ds=some d->(∀v H',Same H H'->Res K fr S H H' d v->Q v H')->r vs H Q
def AY(F:List PyData->Option PyData)(a:DA)(τ:DS):Option (PyData×DS):=(a τ).bind fun p=>(BC p.1).bind fun ds=>(F ds).map fun d=>(d,p.2)
theorem XH{fr:Bool}{r:List V->Hp->VK->Prop}{F:List PyData->Option PyData}{t:TA}{a:DA}(h:BR K fr r F)(ha:A K t a):E K (tCB r t) fr (AY F a):=by
 refine⟨fun τ d τ' e=>?_,?_⟩
 ·unfold AY at e
  obtain⟨⟨x,τ1⟩,e1,e⟩:=oB e
  obtain⟨ds,e2,e⟩:=oB e
  obtain⟨z,e3,e⟩:=oM e
  cases e;exact ha.like _ _ _ e1
 intro S M τ σ H Q d τ' rr e q
 unfold AY at e
 obtain⟨⟨x,τ1⟩,e1,e⟩:=oB e
 obtain⟨ds,e2,e⟩:=oB e
 obtain⟨z,e3,e⟩:=oM e
 cases e
 refine ha.run S M τ σ H _ x _ rr e1 fun vs H1 r1 c1 i1=>?_
 refine h S H1 vs ds d _ (fun _=>r1.fresh) (DR i1 e2) e3 fun v H' s res=>?_
 exact q v H' (r1.same s) (c1.trans (.of s)) (res.back r1 c1)
def spD(K:KW)(G:List L->Option (PyData×List L))(fr:Bool):Sp:=fun vs H Q _=>∃(S M:Addr->Prop) (ls:List L) (r:PyData) (ls':List L),R K S M (ls.map some) (vs.map some) H/\G ls=some (r,ls') /\
 ∀v H',R K S M (ls'.map some) (vs.map some) H'->Chg M H H'->Res K fr S H H' r v->Q v H'
theorem Sw{S M:Addr->Prop}{τ:DS}{σ:St}{H:Hp}(r:R K S M τ σ H){ds:List PyData}{vs:List V}(l:IsL K (hid S H) ds vs):R K S (fun _=>False) ((ds.map L.d).map some) (vs.map some) H where
 len:=by rw[List.length_map,List.length_map,List.length_map,l.length]
 dat:=fun i x e=>by
  rw[List.getElem?_map,List.getElem?_map]at e
  cases q:ds[i]? with
  |none=>rw[q]at e;cases e
  |some d =>
   rw[q]at e
   cases e
   obtain⟨v,h1,h2⟩:=l.get q
   exact⟨v,by rw[List.getElem?_map,h1];rfl,h2⟩
 mt:=fun i o e=>by
  rw[List.getElem?_map,List.getElem?_map]at e
  cases q:ds[i]? with
  |none=>rw[q]at e;cases e
  |some d=>rw[q]at e;cases o<;>cases e
 cst:=fun i xs e=>by
  rw[List.getElem?_map,List.getElem?_map]at e
  cases q:ds[i]? with
  |none=>rw[q]at e;cases e
  |some d=>rw[q]at e;cases e
 inj:=fun i j o p a e=>by
  rw[List.getElem?_map,List.getElem?_map]at e
  cases q:ds[i]? with
  |none=>rw[q]at e;cases e
  |some d=>rw[q]at e;cases o<;>cases e
 sub:=fun a h=>h.elim
 ex:=r.ex
 gr:=GR.nil fun i d e=>by
  rw[List.getElem?_map,List.getElem?_map]at e
  cases q:ds[i]? with
  |none=>rw[q]at e;cases e
  |some d=>rw[q]at e;cases e
def AF(G:List L->Option (PyData×List L))(a:DA)(τ:DS):Option (PyData×DS):=(a τ).bind fun p=>(BC p.1).bind fun ds=>(G (ds.map L.d)).map fun q=>(q.1,p.2)
theorem Nf{fr:Bool}{G:List L->Option (PyData×List L)}{t:TA}{a:DA}{X:XK}(ha:A K t a):E K (Fh (spD K G fr) [] X t) fr (AF G a):=by
 refine⟨fun τ d τ' e=>?_,?_⟩
 ·unfold AF at e
  obtain⟨⟨x,τ1⟩,e1,e⟩:=oB e
  obtain⟨ds,e2,e⟩:=oB e
  obtain⟨z,e3,e⟩:=oM e
  cases e;exact ha.like _ _ _ e1
 intro S M τ σ H Q d τ' rr e q
 unfold AF at e
 obtain⟨⟨x,τ1⟩,e1,e⟩:=oB e
 obtain⟨ds,e2,e⟩:=oB e
 obtain⟨⟨z,ls'⟩,e3,e⟩:=oM e
 cases e
 refine ha.run S M τ σ H _ x _ rr e1 fun vs H1 r1 c1 i1=>?_
 have l:=DR i1 e2
 show spD K G fr (vs++[]) H1 Q X
 rw[List.append_nil]
 refine⟨S,fun _=>False,ds.map L.d,_,ls',Sw r1 l,e3,fun v H' _ c res=>?_⟩
 have s:Same H1 H':=fun b o e=>c b o (fun z=>z) e
 exact q v H' (r1.same s) (c1.trans (.of s)) (res.back r1 c1)
theorem KU{a b:Ow}(h:some (some a.L)=some (some b.L)):a=b:=Ow.inj (Option.some.inj (Option.some.inj h))
theorem R.setO{S M:Addr->Prop}{τ:DS}{σ:St}{H H':Hp}(r:R K S M τ σ H){i:Nat}{a:Addr}{w w':Ow}{h:HO}(hi:τ[i]?=some (some w.L))(ha:σ[i]?=some (some (.ref a)))
  (c:Chg (fun b=>b=a) H H') (h':H' a=some h) (l:IsO K (hid S H') w' a h):R K S M (τ.set i (some w'.L)) σ H':=by
 have hlt:i<τ.length:=(List.getElem?_eq_some_iff.mp hi).1
 have Sa:S a:=by
  obtain⟨b,us,h1,h2,_⟩:=r.mt i w hi
  rw[ha]at h1;cases h1
  exact r.sub _ h2
 have k:Keep S H S H':=c.keep fun b e=>by subst e;exact Sa
 have ne:∀j,j≠i->(τ.set i (some w'.L))[j]?=τ[j]?:=fun j hj=>List.getElem?_set_ne (Ne.symm hj)
 have se:(τ.set i (some w'.L))[i]?=some (some w'.L):=List.getElem?_set_self hlt
 refine⟨by rw[List.length_set];exact r.len,fun j x e=>?_,fun j ys e=>?_,fun j x e=>?_,fun j1 j2 ys zs b e1 e2 f1 f2=>?_,r.sub,fun b hb=>?_,r.gr.to (fun j d e=>?_) (fun j o b e q=>?_) (fun b hb hn=>⟨hb,?_⟩) (tsS k.same)⟩
 ·by_cases hj:j=i
  ·subst hj;rw[se]at e;exact absurd (Option.some.inj (Option.some.inj e)) Ow.not_d
  ·rw[ne j hj]at e
   obtain⟨v,h1,h2⟩:=r.dat j x e
   exact⟨v,h1,h2.mono k.same⟩
 ·by_cases hj:j=i
  ·subst hj
   rw[se]at e
   obtain rfl:=Ow.inj (Option.some.inj (Option.some.inj e))
   obtain⟨b,us,h1,h2,_⟩:=r.mt j w hi
   rw[ha]at h1;cases h1
   exact⟨a,h,ha,h2,h',l⟩
  ·rw[ne j hj]at e
   obtain⟨b,us,h1,h2,h3,h4⟩:=r.mt j ys e
   refine⟨b,us,h1,h2,c b _ (fun z=>?_) h3,h4.mono k.same⟩
   subst z
   exact hj (r.inj j i ys w b e hi h1 ha)
 ·by_cases hj:j=i
  ·subst hj;rw[se]at e;exact absurd (Option.some.inj (Option.some.inj e)) Ow.not_c
  ·rw[ne j hj]at e
   obtain⟨b,us,h1,h2,h3⟩:=r.cst j x e
   exact⟨b,us,h1,k.same.seq h2,h3.mono k.same⟩
 ·have g:∀(j:Nat) (ys:Ow),(τ.set i (some w'.L))[j]?=some (some ys.L)->∃zs:Ow,τ[j]?=some (some zs.L):=fun j ys e=>by
   by_cases hj:j=i
   ·subst hj;exact⟨_,hi⟩
   ·rw[ne j hj]at e;exact⟨_,e⟩
  obtain⟨_,g1⟩:=g j1 ys e1
  obtain⟨_,g2⟩:=g j2 zs e2
  exact r.inj _ _ _ _ b g1 g2 f1 f2
 ·by_cases e:b=a
  ·subst e;exact⟨_,h'⟩
  ·obtain⟨o,q⟩:=r.ex b hb
   exact⟨o,c b o e q⟩
 ·by_cases hj:j=i
  ·subst hj;rw[se]at e;exact absurd (Option.some.inj (Option.some.inj e)) Ow.not_g
  ·rw[ne j hj]at e;exact⟨e,rfl⟩
 ·by_cases hj:j=i
  ·subst hj;exact .inl ⟨w,hi,q⟩
  ·rw[ne j hj]at e;exact .inl ⟨o,e,q⟩
 ·obtain⟨o,e⟩:=r.ex b (r.sub b hb)
  rw[e];exact c b o (fun z=>hn i w hi (by rw[z];exact ha)) e
theorem R.setM{S M:Addr->Prop}{τ:DS}{σ:St}{H H':Hp}(r:R K S M τ σ H){i:Nat}{a:Addr}{xs xs':List PyData}{vs:List V}(hi:τ[i]?=some (some (.m xs)))(ha:σ[i]?=some (some (.ref a)))
  (c:Chg (fun b=>b=a) H H') (h':H' a=some (.lst vs)) (l:IsL K (hid S H') xs' vs):R K S M (τ.set i (some (.m xs'))) σ H':=r.setO (w:=.l xs) (w':=.l xs') hi ha c h' ⟨vs,rfl,l⟩
theorem Rg{τ:DS}{i:Nat}{w w':Ow}(hi:τ[i]?=some (some w.L))(hf:w.fl=w'.fl):Like τ (τ.set i (some w'.L)):=by
 have hlt:i<τ.length:=(List.getElem?_eq_some_iff.mp hi).1
 refine⟨by rw[List.length_set],fun j=>?_⟩
 by_cases hj:j=i
 ·subst hj
  rw[List.getElem?_set_self hlt,hi]
  exact⟨⟨fun x=>⟨fun z=>absurd (Option.some.inj (Option.some.inj z)) Ow.not_d,fun z=>absurd (Option.some.inj (Option.some.inj z)) Ow.not_d⟩,fun x=>⟨fun z=>absurd (Option.some.inj (Option.some.inj z)) Ow.not_c,fun z=>absurd (Option.some.inj (Option.some.inj z)) Ow.not_c⟩⟩,fun b=>⟨fun⟨o,h1,h2⟩=>⟨w,by rw[hf,KU h2];exact h1,rfl⟩,fun⟨o,h1,h2⟩=>⟨w',by rw[<- hf,KU h2];exact h1,rfl⟩⟩⟩
 ·rw[List.getElem?_set_ne (Ne.symm hj)]
  exact⟨⟨fun x=>Iff.rfl,fun x=>Iff.rfl⟩,fun b=>Iff.rfl⟩
theorem Rh{τ:DS}{i:Nat}{xs xs':List PyData}(hi:τ[i]?=some (some (.m xs))):Like τ (τ.set i (some (.m xs'))):=Rg (w:=.l xs) (w':=.l xs') hi rfl
def E7(i:Nat)(G:List L->Option (PyData×List L))(a:DA)(τ:DS):Option (PyData×DS):=(a τ).bind fun p=>(BC p.1).bind fun ds=>match p.2[i]? with
 |some (some (.m xs))=>(G (.m xs::ds.map L.d)).bind fun q=>match q.2 with
  |.m xs'::_=>some (q.1,p.2.set i (some (.m xs')))
  |_=>none
 |some (some (.k xs))=>(G (.k xs::ds.map L.d)).bind fun q=>match q.2 with
  |.k xs'::_=>some (q.1,p.2.set i (some (.k xs')))
  |_=>none
 |_=>none
def okM:Option L->Bool
 |some (.m xs)=>fixDs xs
 |some (.k kvs)=>fixDs (kvs.map (·.2))
 |_=>true
theorem IsKV.monoT{H H':Hp}(s:TSm H H'):∀{kvs:List (List Int×PyData)} {ts:List (List Int×Addr×V)},fixDs (kvs.map (·.2))=true->IsKV K H (MF kvs) ts->IsKV K H' (MF kvs) ts
 |[],_,_,h=>h
 |(k,d)::kvs,_,f,⟨t,tr,e,ek,hk,h,l⟩=>by
  rw[List.map_cons,fixDs,Bool.and_eq_true]at f
  exact⟨t,tr,e,ek,s.tup hk,Is.monoT s f.1 h,IsKV.monoT s (kvs:=kvs) f.2 l⟩
theorem IsO.monoT{H H':Hp}(s:TSm H H'):∀{o:Ow} {a:Addr} {h:HO},okM (some o.L)=true->IsO K H o a h->IsO K H' o a h
 |.l _,_,_,f,⟨vs,e,l⟩=>⟨vs,e,l.monoT s f⟩
 |.t _,_,_,f,⟨ts,e,l⟩=>⟨ts,e,IsKV.monoT s f l⟩
def OwH(h:HO):Prop:=(∃vs,h = .lst vs)\/∃φ,h = .ext φ
theorem IsO.ho{H:Hp}:∀{o:Ow} {a:Addr} {h:HO},IsO K H o a h->OwH h
 |.l _,_,_,⟨vs,e,_⟩=>.inl ⟨vs,e⟩
 |.t _,_,_,⟨ts,⟨ep,e⟩,_⟩=>.inr ⟨_,e⟩
def Du(i:Nat)(f:DX)(τ:DS):Option (PyData×DS):=match τ[i]? with
 |some (some (.m xs))=>(f (τ.set i (some (.d (.list xs))))).bind fun q=>if DN q.1&&q.2.all okM then some (q.1,q.2.set i (some (.m xs))) else none
 |some (some (.k xs))=>(f (τ.set i (some (.d (.dict (MF xs)))))).bind fun q=>if DN q.1&&q.2.all okM then some (q.1,q.2.set i (some (.k xs))) else none
 |_=>none
theorem Mg{i:Nat}{f:DX}{τ:DS}{d:PyData}{τ':DS}(e:Du i f τ=some (d,τ')):∃w τ1,τ[i]?=some (some (Ow.L w))/\f (τ.set i (some (.d w.D)))=some (d,τ1)/\DN d=true/\τ1.all okM=true/\τ'=τ1.set i (some w.L):=by
 unfold Du at e
 split at e
 ·rename_i xs hx
  obtain⟨⟨z,τ1⟩,e1,e⟩:=oB e
  dsimp only at e
  split at e
  ·rename_i h
   rw[Bool.and_eq_true]at h
   cases e
   exact⟨.l xs,τ1,hx,e1,h.1,h.2,rfl⟩
  ·cases e
 ·rename_i xs hx
  obtain⟨⟨z,τ1⟩,e1,e⟩:=oB e
  dsimp only at e
  split at e
  ·rename_i h
   rw[Bool.and_eq_true]at h
   cases e
   exact⟨.t xs,τ1,hx,e1,h.1,h.2,rfl⟩
  ·cases e
 ·cases e
theorem JJ{S S':Addr->Prop}{H:Hp}(h:∀a,S' a->S a\/∃o,H a=some o/\OwH o):TSm (hid S H) (hid S' H):=fun b o e nl ne=>by
 obtain⟨e1,e2⟩:=hid_iff.mp e
 refine hid_iff.mpr ⟨fun z=>?_,e2⟩
 rcases h b z with z|⟨o',z,⟨vs,rfl⟩|⟨φ,rfl⟩⟩
 ·exact e1 z
 ·rw[e2]at z;cases z;exact nl _ rfl
 ·rw[e2]at z;cases z;exact ne _ rfl
theorem frz{S M:Addr->Prop}{τ:DS}{σ:St}{H:Hp}(r:R K S M τ σ H){i:Nat}{w:Ow}{p:Addr}(hi:τ[i]?=some (some w.L))(hp:σ[i]?=some (some (.ref p))) :
  R K (fun b=>S b/\b≠p) (fun b=>M b/\b≠p) (τ.set i (some (.d w.D))) σ H:=by
 have hlt:i<τ.length:=(List.getElem?_eq_some_iff.mp hi).1
 have ne:∀j,j≠i->(τ.set i (some (.d w.D)))[j]?=τ[j]?:=fun j hj=>List.getElem?_set_ne (Ne.symm hj)
 have se:(τ.set i (some (.d w.D)))[i]?=some (some (.d w.D)):=List.getElem?_set_self hlt
 have k:Same (hid S H) (hid (fun b=>S b/\b≠p) H):=E1 fun a z=>z.1
 have mn:∀(j:Nat) (ys:Ow),(τ.set i (some (.d w.D)))[j]?=some (some ys.L)->j≠i/\τ[j]?=some (some ys.L):=fun j ys e=>by
  by_cases hj:j=i
  ·subst hj;rw[se]at e;exact absurd (Option.some.inj (Option.some.inj e)).symm Ow.not_d
  ·rw[ne j hj]at e;exact⟨hj,e⟩
 have cs:∀(j:Nat) (ys:List PyData),(τ.set i (some (.d w.D)))[j]?=some (some (.c ys))->τ[j]?=some (some (.c ys)):=fun j ys e=>by
  by_cases hj:j=i
  ·subst hj;rw[se]at e;cases e
  ·rw[ne j hj]at e;exact e
 refine⟨by rw[List.length_set];exact r.len,fun j x e=>?_,fun j ys e=>?_,fun j ys e=>let ⟨a,vs,h1,h2,h3⟩:=r.cst j ys (cs j ys e);⟨a,vs,h1,k.seq h2,h3.mono k⟩,fun j1 j2 ys zs b e1 e2 f1 f2=>?_,fun a h=>⟨r.sub a h.1,h.2⟩,fun a h=>r.ex a h.1,r.gr.to (fun j d e=>?_) (fun j o b e q=>.inl ⟨o,(mn j o e).2,q⟩) (fun b hb hn=>⟨⟨hb,fun z=>hn i w hi (by rw[z];exact hp)⟩,rfl⟩) (tsS k)⟩
 ·by_cases hj:j=i
  ·subst hj
   rw[se]at e
   cases e
   obtain⟨b,us,h1,h2,h3,h4⟩:=r.mt j w hi
   rw[hp]at h1;cases h1
   exact⟨_,hp,IsO.is (h4.mono k) (hid_iff.mpr ⟨fun z=>z.2 rfl,h3⟩)⟩
  ·rw[ne j hj]at e
   obtain⟨v,h1,h2⟩:=r.dat j x e
   exact⟨v,h1,h2.mono k⟩
 ·obtain⟨hj,e⟩:=mn j ys e
  obtain⟨b,us,h1,h2,h3,h4⟩:=r.mt j ys e
  refine⟨b,us,h1,⟨h2,fun z=>?_⟩,h3,h4.mono k⟩
  subst z
  exact hj (r.inj j i ys w b e hi h1 hp)
 ·exact r.inj j1 j2 ys zs b (mn _ _ e1).2 (mn _ _ e2).2 f1 f2
 ·by_cases hj:j=i
  ·subst hj;rw[se]at e;cases e
  ·rw[ne j hj]at e;exact⟨e,rfl⟩
theorem Wn{S M:Addr->Prop}{τ τ1:DS}{σ:St}{H H':Hp}(r:R K S M τ σ H){i:Nat}{w:Ow}{p:Addr}(hi:τ[i]?=some (some w.L))(hp:σ[i]?=some (some (.ref p)))
  (r1:R K (fun b=>S b/\b≠p) (fun b=>M b/\b≠p) τ1 σ H') (lk:Like (τ.set i (some (.d w.D))) τ1) (c:Chg (fun b=>M b/\b≠p) H H') (ok:τ1.all okM=true):R K S M (τ1.set i (some w.L)) σ H':=by
 have hlt:i<τ.length:=(List.getElem?_eq_some_iff.mp hi).1
 have hl1:τ1.length=τ.length:=by have:=lk.1;rw[List.length_set]at this;exact this
 have hlt1:i<τ1.length:=by omega
 have ne:∀j,j≠i->(τ1.set i (some w.L))[j]?=τ1[j]?:=fun j hj=>List.getElem?_set_ne (Ne.symm hj)
 have se:(τ1.set i (some w.L))[i]?=some (some w.L):=List.getElem?_set_self hlt1
 have ne0:∀j,j≠i->(τ.set i (some (.d w.D)))[j]?=τ[j]?:=fun j hj=>List.getElem?_set_ne (Ne.symm hj)
 obtain⟨b0,us,hb0,h2,h3,h4⟩:=r.mt i w hi
 rw[hp]at hb0;cases hb0
 have h3':H' p=some us:=c p _ (fun z=>z.2 rfl) h3
 have c':Chg M H H':=fun b o hn e=>c b o (fun z=>hn z.1) e
 have k:Keep S H S H':=c'.keep r.sub
 have ts:TSm (hid (fun b=>S b/\b≠p) H') (hid S H'):=JJ fun a z=>by
  by_cases e:a=p
  ·subst e;exact .inr ⟨_,h3',h4.ho⟩
  ·exact .inl ⟨z,e⟩
 have mm:∀(j:Nat) (ys:Ow),j≠i->τ1[j]?=some (some ys.L)->∃zs:Ow,τ[j]?=some (some zs.L):=fun j ys hj e=>by
  obtain⟨zs,q⟩:=(lk.own j).mp ⟨_,e⟩
  rw[ne0 j hj]at q
  exact⟨zs,q⟩
 have cs:∀(j:Nat) (ys:List PyData),(τ1.set i (some w.L))[j]?=some (some (.c ys))->τ[j]?=some (some (.c ys)):=fun j ys e=>by
  by_cases hj:j=i
  ·subst hj;rw[se]at e;exact absurd (Option.some.inj (Option.some.inj e)) Ow.not_c
  ·rw[ne j hj]at e
   have:=((lk.2 j).1.2 ys).mp e
   rw[ne0 j hj]at this
   exact this
 refine⟨by rw[List.length_set];exact r1.len,fun j x e=>?_,fun j ys e=>?_,fun j ys e=>let ⟨a,vs,h1,h2,h3⟩:=r.cst j ys (cs j ys e);⟨a,vs,h1,k.same.seq h2,h3.mono k.same⟩,fun j1 j2 ys zs b e1 e2 f1 f2=>?_,r.sub,fun a h=>?_,r1.gr.to (fun j d e=>?_) (fun j o b e q=>?_) (fun b hb hn=>⟨hb.1,rfl⟩) ts⟩
 ·by_cases hj:j=i
  ·subst hj;rw[se]at e;exact absurd (Option.some.inj (Option.some.inj e)) Ow.not_d
  ·rw[ne j hj]at e
   have:=((lk.2 j).1.1 x).mp e
   rw[ne0 j hj]at this
   obtain⟨v,h5,h6⟩:=r.dat j x this
   exact⟨v,h5,h6.mono k.same⟩
 ·by_cases hj:j=i
  ·subst hj
   rw[se]at e
   obtain rfl:=KU e
   exact⟨p,us,hp,h2,h3',h4.mono k.same⟩
  ·rw[ne j hj]at e
   obtain⟨b,ws,h5,h6,h7,h8⟩:=r1.mt j ys e
   have fx:okM (some ys.L)=true:=List.all_eq_true.mp ok (some ys.L) (List.mem_of_getElem? e)
   exact⟨b,ws,h5,h6.1,h7,h8.monoT ts fx⟩
 ·have g:∀(j:Nat) (ys:Ow),(τ1.set i (some w.L))[j]?=some (some ys.L)->∃zs:Ow,τ[j]?=some (some zs.L):=fun j ys e=>by
   by_cases hj:j=i
   ·subst hj;exact⟨_,hi⟩
   ·rw[ne j hj]at e;exact mm j ys hj e
  obtain⟨_,g1⟩:=g j1 ys e1
  obtain⟨_,g2⟩:=g j2 zs e2
  exact r.inj _ _ _ _ b g1 g2 f1 f2
 ·by_cases e:a=p
  ·subst e;exact⟨_,h3'⟩
  ·exact r1.ex a ⟨h,e⟩
 ·by_cases hj:j=i
  ·subst hj;rw[se]at e;exact absurd (Option.some.inj (Option.some.inj e)) Ow.not_g
  ·rw[ne j hj]at e;exact⟨e,rfl⟩
 ·by_cases hj:j=i
  ·subst hj
   rw[hp]at q;cases q
   exact .inr fun z=>z.2 rfl
  ·rw[ne j hj]at e;exact .inl ⟨o,e,q⟩
theorem OY{τ τ1:DS}{i:Nat}{w:Ow}(hi:τ[i]?=some (some w.L))(lk:Like (τ.set i (some (.d w.D))) τ1):Like τ (τ1.set i (some w.L)):=by
 have hlt:i<τ.length:=(List.getElem?_eq_some_iff.mp hi).1
 have hl1:τ1.length=τ.length:=by have:=lk.1;rw[List.length_set]at this;exact this
 refine⟨by rw[List.length_set];exact hl1,fun j=>?_⟩
 by_cases hj:j=i
 ·subst hj
  rw[List.getElem?_set_self (by omega),hi]
  exact⟨⟨fun x=>Iff.rfl,fun x=>Iff.rfl⟩,fun b=>Iff.rfl⟩
 ·have:=lk.2 j
  rw[List.getElem?_set_ne (Ne.symm hj)]at this ⊢
  exact this
theorem bz{i:Nat}{fr:Bool}{t:TE}{f:DX}(h:E K t fr f):E K t false (Du i f):=by
 refine⟨fun τ d τ' e=>?_,?_⟩
 ·obtain⟨xs,τ1,e1,e2,_,_,rfl⟩:=Mg e
  exact OY e1 (h.like _ _ _ e2)
 intro S M τ σ H Q d τ' r e q
 obtain⟨xs,τ1,e1,e2,fx,ok,rfl⟩:=Mg e
 obtain⟨p,us,hp,hM,hl,ll⟩:=r.mt i xs e1
 refine h.weak.run _ _ _ σ H _ d τ1 (frz r e1 hp) e2 fun v H' r' c res=>?_
 have r2:=Wn r e1 hp r' (h.like _ _ _ e2) c ok
 refine q v H' r2 (fun b o hn e=>c b o (fun z=>hn z.1) e) ?_
 have h3':H' p=some us:=c p _ (fun z=>z.2 rfl) hl
 exact Is.monoT (JJ fun a z => by
  by_cases e:a=p
  ·subst e;exact .inr ⟨_,h3',ll.ho⟩
  ·exact .inl ⟨z,e⟩) fx (show Is K (hid (fun b=>S b/\b≠p) H') d v from res)
def HE(i:Nat)(f:DX)(τ:DS):Option (PyData×DS):=match τ[i]? with
 |some (some (.m xs))=>(f (τ.set i (some (.d (.list xs))))).bind fun q=>match q.1 with
  |.list ys=>if fixDs ys&&q.2.all okM then some (q.1,q.2.set i (some (.m xs))) else none
  |_=>none
 |some (some (.k xs))=>(f (τ.set i (some (.d (.dict (MF xs)))))).bind fun q=>match q.1 with
  |.list ys=>if fixDs ys&&q.2.all okM then some (q.1,q.2.set i (some (.k xs))) else none
  |_=>none
 |_=>none
theorem Ow.D_list{o:Ow}{ys:List PyData}(h:PyData.list ys=o.D):o = .l ys:=by
 cases o with
 |l xs=>cases h;rfl
 |t kvs=>cases h
end DL
end
section
namespace DL
open PySem L2
variable {K:KW}
def dm(K:KW)(S:Addr->Prop)(J:It)(H:Hp)(ds:List PyData):Prop:=∀(S2:Addr->Prop) (H2:Hp),Keep S H S2 H2->(∀(i:Nat) (d:PyData),ds[i]?=some d->J.go i H2/\∀x H3,J.yld i H2 x H3->H3=H2/\Is K (hid S2 H2) d x)/\∀i,ds.length<=i->J.stop i H2
abbrev DI:=DS->Option (List PyData×DS)
structure IT(K:KW)(wi:TI)(f:DI):Prop where
 like:∀τ ds τ',f τ=some (ds,τ')->Like τ τ'
 run:∀S M τ σ H (Q:It->Hp->Prop) ds τ',R K S M τ σ H->f τ=some (ds,τ')->(∀J H',R K S M τ' σ H'->Chg M H H'->dm K S J H' ds->Q J H')->wi σ H Q
def dIL(f:DX)(τ:DS):Option (List PyData×DS):=(f τ).bind fun p=>match p.1 with
 |.list ds=>some (ds,p.2)
 |_=>none
def dIT(f:DX)(τ:DS):Option (List PyData×DS):=(f τ).bind fun p=>match p.1 with
 |.tuple ds=>some (ds,p.2)
 |_=>none
theorem Qq{fr:Bool}{t:TE}{f:DX}(h:E K t fr f):IT K (MZ K t) (dIL f):=by
 refine⟨fun τ d τ' e=>?_,?_⟩
 ·unfold dIL at e
  obtain⟨⟨x,τ1⟩,e1,e⟩:=oB e
  dsimp only at e
  split at e
  ·cases e;exact h.like _ _ _ e1
  ·cases e
 intro S M τ σ H Q ds τ' r e q
 unfold dIL at e
 obtain⟨⟨x,τ1⟩,e1,e⟩:=oB e
 dsimp only at e
 split at e
 ·cases e
  refine h.weak.run S M τ σ H _ _ _ r e1 fun v H1 r1 c1 i1=>?_
  have i1':Is K (hid S H1) (.list ds) v:=i1
  obtain⟨a,vs,rfl,hl,ll⟩:=i1'
  refine⟨a,rfl,⟨vs,SqL.of (hid_iff.mp hl).2⟩,q _ H1 r1 c1 fun S2 H2 k=>?_⟩
  have hl2:=k.same _ _ hl
  have ll2:=ll.mono k.same
  refine⟨fun i d e=>?_,fun i hi=>⟨vs,SqL.of (hid_iff.mp hl2).2,by rw[ll.length];exact hi⟩⟩
  obtain⟨u,h1,h2⟩:=ll2.get e
  refine⟨⟨vs,u,SqL.of (hid_iff.mp hl2).2,h1⟩,fun x H3 y=>⟨y.1,?_⟩⟩
  have:=y.2 vs (SqL.of (hid_iff.mp hl2).2)
  rw[h1]at this;cases this
  exact h2
 ·cases e
theorem YW{fr:Bool}{t:TE}{f:DX}(h:E K t fr f):IT K (Vs K t) (dIT f):=by
 refine⟨fun τ d τ' e=>?_,?_⟩
 ·unfold dIT at e
  obtain⟨⟨x,τ1⟩,e1,e⟩:=oB e
  dsimp only at e
  split at e
  ·cases e;exact h.like _ _ _ e1
  ·cases e
 intro S M τ σ H Q ds τ' r e q
 unfold dIT at e
 obtain⟨⟨x,τ1⟩,e1,e⟩:=oB e
 dsimp only at e
 split at e
 ·cases e
  refine h.weak.run S M τ σ H _ _ _ r e1 fun v H1 r1 c1 i1=>?_
  have i1':Is K (hid S H1) (.tuple ds) v:=i1
  obtain⟨a,vs,rfl,hl,ll⟩:=i1'
  refine⟨a,rfl,⟨vs,Same.tup same_hid hl⟩,q _ H1 r1 c1 fun S2 H2 k=>?_⟩
  have hl2:=Same.tup same_hid (Same.tup k.same hl)
  have ll2:=ll.mono k.same
  refine⟨fun i d e=>?_,fun i hi=>⟨vs,hl2,by rw[ll.length];exact hi⟩⟩
  obtain⟨u,h1,h2⟩:=ll2.get e
  refine⟨⟨vs,u,hl2,h1⟩,fun x H3 y=>⟨y.1,?_⟩⟩
  have:=y.2 vs hl2
  rw[h1]at this;cases this
  exact h2
 ·cases e
def Gr(lo:Int)(n:Nat):List PyData:=(List.range n).map fun(k:Nat)=>PyData.int (lo+(k:Int))
theorem Su{S:Addr->Prop}{H:Hp}{lo:Int}{n:Nat}:dm K S (Itr lo n) H (Gr lo n):=by
 intro S2 H2 k
 refine⟨fun i d e=>?_,fun i hi=>?_⟩
 ·unfold Gr at e
  rw[List.getElem?_map]at e
  by_cases hi:i<n
  ·rw[List.getElem?_range hi]at e
   cases e
   exact⟨hi,fun x H3 y=>⟨y.1,y.2⟩⟩
  ·rw[List.getElem?_eq_none (by simpa using hi)]at e
   cases e
 ·unfold Gr at hi
  rw[List.length_map,List.length_range]at hi
  exact hi
def dR1(a:DA)(τ:DS):Option (List PyData×DS):=(a τ).bind fun p=>(BC p.1).bind fun ds=>match ds with
 |[.int j]=>if -(2 ^ 62)<=j/\j<2 ^ 62 then some (Gr 0 j.toNat,p.2) else none
 |_=>none
def dR2(a:DA)(τ:DS):Option (List PyData×DS):=(a τ).bind fun p=>(BC p.1).bind fun ds=>match ds with
 |[.int i,.int j]=>if -(2 ^ 62)<=i/\i<2 ^ 62/\-(2 ^ 62)<=j/\j<2 ^ 62 then some (Gr i (j-i).toNat,p.2) else none
 |_=>none
theorem Rk{t:TA}{a:DA}(ha:A K t a):IT K (XB t) (dR1 a):=by
 refine⟨fun τ d τ' e=>?_,?_⟩
 ·unfold dR1 at e
  obtain⟨⟨x,τ1⟩,e1,e⟩:=oB e
  obtain⟨ds,e2,e⟩:=oB e
  split at e
  ·split at e
   ·cases e;exact ha.like _ _ _ e1
   ·cases e
  ·cases e
 intro S M τ σ H Q ds τ' r e q
 unfold dR1 at e
 obtain⟨⟨x,τ1⟩,e1,e⟩:=oB e
 obtain⟨ds',e2,e⟩:=oB e
 split at e
 ·split at e
  ·rename_i j hj
   cases e
   refine ha.run S M τ σ H _ x _ r e1 fun vs H1 r1 c1 i1=>?_
   obtain⟨v,us,rfl,iv,iu⟩:=DR i1 e2
   cases (show us=[] from iu)
   exact⟨j,by rw[show v = .int j from iv],hj.1,hj.2,q _ H1 r1 c1 Su⟩
  ·cases e
 ·cases e
abbrev DG:=PyData->DS->Option DS
def MSame(τ τ':DS):Prop:=τ'.length=τ.length/\∀(j:Nat) (o:Ow),τ'[j]?=some (some o.L)↔τ[j]?=some (some o.L)
theorem MSame.refl{τ:DS}:MSame τ τ:=⟨rfl,fun _ _=>Iff.rfl⟩
theorem MSame.trans{τ τ1 τ2:DS}(a:MSame τ τ1)(b:MSame τ1 τ2):MSame τ τ2:=⟨b.1.trans a.1,fun j xs=>(b.2 j xs).trans (a.2 j xs)⟩
structure TG1 K (g:TG) (f:DG):Prop where
 ms:∀d τ τ',f d τ=some τ'->MSame τ τ'
 run:∀S M τ σ H v d τ' (Q:St->Hp->Prop),R K S M τ σ H->Is K (hid S H) d v->f d τ=some τ'->(∀σ',R K S M τ' σ' H->(∀(j:Nat) (o:Ow),τ[j]?=some (some o.L)->σ'[j]?=σ[j]?)->Q σ' H)->g v σ H Q
structure TG2 K (g:TGs) (f:List PyData->DS->Option DS):Prop where
 ms:∀d τ τ',f d τ=some τ'->MSame τ τ'
 run:∀S M τ σ H vs ds τ' (Q:St->Hp->Prop),R K S M τ σ H->IsL K (hid S H) ds vs->f ds τ=some τ'->(∀σ',R K S M τ' σ' H->(∀(j:Nat) (o:Ow),τ[j]?=some (some o.L)->σ'[j]?=σ[j]?)->Q σ' H)->g vs σ H Q
def dN(i:Nat)(d:PyData)(τ:DS):Option DS:=match τ[i]? with
 |some (some (.m _))=>none
 |some (some (.k _))=>none
 |some _=>some (τ.set i (some (.d d)))
 |none=>none
theorem Qz{i:Nat}{d:PyData}{τ τ':DS}(e:dN i d τ=some τ'):i<τ.length/\(∀o:Ow,τ[i]?≠some (some o.L))/\τ'=τ.set i (some (.d d)):=by
 unfold dN at e
 split at e
 ·cases e
 ·cases e
 ·rename_i o hn hk ho
  cases e
  refine⟨(List.getElem?_eq_some_iff.mp ho).1,fun xs z=>?_,rfl⟩
  rw[ho]at z
  cases xs with
  |l xs=>exact hn xs (Option.some.inj z)
  |t xs=>exact hk xs (Option.some.inj z)
 ·cases e
theorem R.setD{S M:Addr->Prop}{τ:DS}{σ:St}{H:Hp}(r:R K S M τ σ H){i:Nat}{d:PyData}{v:V}(hi:i<τ.length)(hm:∀o:Ow,τ[i]?≠some (some o.L))(iv:Is K (hid S H) d v):R K S M (τ.set i (some (.d d))) (σ.set i (some v)) H:=by
 have hs:i<σ.length:=by rw[r.len];exact hi
 have ne:∀j,j≠i->(τ.set i (some (.d d)))[j]?=τ[j]?:=fun j hj=>List.getElem?_set_ne (Ne.symm hj)
 have ne':∀j,j≠i->(σ.set i (some v))[j]?=σ[j]?:=fun j hj=>List.getElem?_set_ne (Ne.symm hj)
 have mn:∀(j:Nat) (ys:Ow),(τ.set i (some (.d d)))[j]?=some (some ys.L)->j≠i/\τ[j]?=some (some ys.L):=fun j ys e=>by
  by_cases hj:j=i
  ·subst hj;rw[List.getElem?_set_self hi]at e;exact absurd (Option.some.inj (Option.some.inj e)).symm Ow.not_d
  ·rw[ne j hj]at e;exact⟨hj,e⟩
 refine⟨by rw[List.length_set,List.length_set];exact r.len,fun j x e=>?_,fun j xs e=>?_,fun j xs e=>?_,fun j1 j2 ys zs b e1 e2 f1 f2=>?_,r.sub,r.ex,r.gr.to (fun j x e=>?_) (fun j o b e q=>.inl ⟨o,(mn j o e).2,by rw[ne' j (mn j o e).1]at q;exact q⟩) (fun b hb hn=>⟨hb,rfl⟩) .refl⟩
 ·by_cases hj:j=i
  ·subst hj
   rw[List.getElem?_set_self hi]at e
   cases e
   exact⟨v,List.getElem?_set_self hs,iv⟩
  ·rw[ne j hj]at e
   rw[ne' j hj]
   exact r.dat j x e
 ·obtain⟨hj,e⟩:=mn j xs e
  rw[ne' j hj]
  exact r.mt j xs e
 ·by_cases hj:j=i
  ·subst hj;rw[List.getElem?_set_self hi]at e;cases e
  ·rw[ne j hj]at e
   rw[ne' j hj]
   exact r.cst j xs e
 ·obtain⟨h1,e1⟩:=mn j1 ys e1
  obtain⟨h2,e2⟩:=mn j2 zs e2
  rw[ne' _ h1]at f1
  rw[ne' _ h2]at f2
  exact r.inj _ _ _ _ b e1 e2 f1 f2
 ·by_cases hj:j=i
  ·subst hj;rw[List.getElem?_set_self hi]at e;cases e
  ·rw[ne j hj]at e;exact⟨e,ne' j hj⟩
theorem Vi{τ:DS}{i:Nat}{d:PyData}(hi:i<τ.length)(hm:∀o:Ow,τ[i]?≠some (some o.L)):MSame τ (τ.set i (some (.d d))):=by
 refine⟨by rw[List.length_set],fun j xs=>?_⟩
 by_cases hj:j=i
 ·subst hj
  rw[List.getElem?_set_self hi]
  exact⟨fun z=>absurd (Option.some.inj (Option.some.inj z)).symm Ow.not_d,fun z=>absurd z (hm xs)⟩
 ·rw[List.getElem?_set_ne (Ne.symm hj)]
theorem E2{i:Nat}:TG1 K (Gb i) (dN i):=by
 refine⟨fun d τ τ' e=>?_,?_⟩
 ·obtain⟨h1,h2,rfl⟩:=Qz e
  exact Vi h1 h2
 intro S M τ σ H v d τ' Q r iv e q
 obtain⟨h1,h2,rfl⟩:=Qz e
 refine q _ (r.setD h1 h2 iv) fun j xs ej=>?_
 have:j≠i:=fun z=>h2 xs (by rw[<- z];exact ej)
 exact List.getElem?_set_ne (Ne.symm this)
def Az:List PyData->DS->Option DS
 |[],τ=>some τ
 |_::_,_=>none
def AS(f:DG)(g:List PyData->DS->Option DS):List PyData->DS->Option DS
 |d::ds,τ=>(f d τ).bind fun τ1=>g ds τ1
 |[],_=>none
theorem Yc:TG2 K bX Az:=by
 refine⟨fun d τ τ' e=>?_,?_⟩
 ·cases d with
  |nil=>cases e;exact .refl
  |cons _ _=>cases e
 intro S M τ σ H vs ds τ' Q r iv e q
 cases ds with
 |nil=>cases e;exact⟨iv,q σ r fun _ _ _=>rfl⟩
 |cons _ _=>cases e
theorem Vu{t:TG}{u:TGs}{f:DG}{g:List PyData->DS->Option DS}(h1:TG1 K t f)(h2:TG2 K u g):TG2 K (XC t u) (AS f g):=by
 refine⟨fun d τ τ' e=>?_,?_⟩
 ·cases d with
  |nil=>cases e
  |cons d ds =>
   obtain⟨τ1,e1,e⟩:=oB e
   exact(h1.ms _ _ _ e1).trans (h2.ms _ _ _ e)
 intro S M τ σ H vs ds τ' Q r iv e q
 cases ds with
 |nil=>cases e
 |cons d ds =>
  obtain⟨τ1,e1,e⟩:=oB e
  obtain⟨v,us,rfl,iv,iu⟩:=iv
  refine⟨v,us,rfl,h1.run S M τ σ H v d τ1 _ r iv e1 fun σ1 r1 k1=>?_⟩
  refine h2.run S M τ1 σ1 H us ds τ' _ r1 iu e fun σ2 r2 k2=>?_
  refine q σ2 r2 fun j xs hj=>?_
  rw[k2 j xs (((h1.ms _ _ _ e1).2 j xs).mpr hj),k1 j xs hj]
def dGT(g:List PyData->DS->Option DS)(d:PyData)(τ:DS):Option DS:=match d with
 |.tuple ds=>g ds τ
 |_=>none
theorem bW{n:Nat}{u:TGs}{g:List PyData->DS->Option DS}(h:TG2 K u g)(hn:∀ds τ τ',g ds τ=some τ'->ds.length=n):TG1 K (Vv K n u) (dGT g):=by
 refine⟨fun d τ τ' e=>?_,?_⟩
 ·unfold dGT at e
  split at e
  ·exact h.ms _ _ _ e
  ·cases e
 intro S M τ σ H v d τ' Q r iv e q
 unfold dGT at e
 split at e
 ·obtain⟨a,vs,rfl,hl,ll⟩:=iv
  exact⟨a,vs,rfl,Same.tup same_hid hl,by rw[ll.length];exact hn _ _ _ e,h.run S M τ σ H vs _ τ' Q r ll e q⟩
 ·cases e
theorem Qi:∀(ds:List PyData) (τ τ':DS),Az ds τ=some τ'->ds.length=0
 |[],_,_,_=>rfl
 |_::_,_,_,e=>by cases e
theorem OZ{n:Nat}{f:DG}{g:List PyData->DS->Option DS}(h:∀ds τ τ',g ds τ=some τ'->ds.length=n):∀(ds:List PyData) (τ τ':DS),AS f g ds τ=some τ'->ds.length=n+1
 |[],_,_,e=>by cases e
 |d::ds,τ,τ',e=>by
  obtain⟨τ1,e1,e⟩:=oB e
  rw[List.length_cons,h _ _ _ e]
def EC(g:DG)(c:DT)(e:DX):List PyData->List PyData->DS->Option (List PyData×DS)
 |[],acc,τ=>some (acc,τ)
 |d::ds,acc,τ=>(g d τ).bind fun τ1=>(c τ1).bind fun p=>if p.1=true then (e p.2).bind fun q=>EC g c e ds (acc++[q.1]) q.2 else EC g c e ds acc p.2
def noG:Option L->Option L
 |some (.g _)=>none
 |o=>o
def Nk(own:Nat)(fr:List Nat)(τ:DS):DS:=List.replicate own none++fr.map fun j=>noG (τ[j]?).join
theorem OS{o:Option L}{l:L}(h:noG o=some l):o=some l/\∀x,l≠.g x:=by
 unfold noG at h
 split at h
 ·cases h
 ·rename_i hn
  exact⟨h,fun x z=>hn x (by rw[h,z])⟩
def isM(τ:DS)(j:Nat):Bool:=match τ[j]? with
 |some (some (.m _))=>true
 |some (some (.k _))=>true
 |_=>false
theorem isM_iff{τ:DS}{j:Nat}:isM τ j=true↔∃o:Ow,τ[j]?=some (some o.L):=by
 unfold isM
 split
 ·rename_i xs h;exact⟨fun _=>⟨.l xs,h⟩,fun _=>rfl⟩
 ·rename_i xs h;exact⟨fun _=>⟨.t xs,h⟩,fun _=>rfl⟩
 ·rename_i h1 h2
  exact ⟨fun z => (nomatch z), fun ⟨o, z⟩ => by
   cases o with
   |l xs=>exact absurd z (h1 xs)
   |t xs=>exact absurd z (h2 xs)⟩
def dLC(own:Nat)(fr:List Nat)(it:DI)(g:DG)(c:DT)(e:DX)(τ:DS):Option (PyData×DS):=(it τ).bind fun p=>if p.1.length<=sizeLine/\(fr.all fun j=>!isM p.2 j)=true then (EC g c e p.1 [] (Nk own fr p.2)).map fun q=>(.list q.1,p.2) else none
theorem JE{own:Nat}{fr:List Nat}{τ:DS}{i:Nat}{l:L}(h:(Nk own fr τ)[i]?=some (some l)):∃k j,i=own+k/\fr[k]?=some j/\τ[j]?=some (some l):=by
 unfold Nk at h
 by_cases hi:i<own
 ·rw[List.getElem?_append_left (by simpa using hi),List.getElem?_replicate,if_pos hi]at h
  cases h
 ·rw[List.getElem?_append_right (by simpa using hi),List.length_replicate,List.getElem?_map]at h
  cases e:fr[i-own]? with
  |none=>rw[e]at h;cases h
  |some j =>
   rw[e]at h
   simp only[Option.map_some,Option.some.injEq]at h
   refine⟨i-own,j,by omega,e,?_⟩
   replace h:=(OS h).1
   cases q:τ[j]? with
   |none=>rw[q]at h;cases h
   |some o=>rw[q]at h;cases o with
    |none=>cases h
    |some u=>cases h;rfl
theorem Zs{own:Nat}{fr:List Nat}{τ:DS}(i:Nat)(d:PyData):(Nk own fr τ)[i]?≠some (some (.g d)):=fun h=>by
 unfold Nk at h
 by_cases hi:i<own
 ·rw[List.getElem?_append_left (by simpa using hi),List.getElem?_replicate,if_pos hi]at h
  cases h
 ·rw[List.getElem?_append_right (by simpa using hi),List.length_replicate,List.getElem?_map]at h
  cases e:fr[i-own]? with
  |none=>rw[e]at h;cases h
  |some j =>
   rw[e]at h
   simp only[Option.map_some,Option.some.injEq]at h
   exact(OS h).2 d rfl
theorem Uc{own:Nat}{fr:List Nat}{σ:St}{k j:Nat}{v:V}(e:fr[k]?=some j)(h:σ[j]?=some (some v)):(blk own fr σ)[own+k]?=some (some v):=by
 unfold blk
 rw[List.getElem?_append_right (by simp),List.length_replicate,List.getElem?_map,show own+k-own=k by omega,e]
 show some (σ[j]?).join=_
 rw[h];rfl
theorem Oe{H:Hp}{xs:List PyData}{vs:List V}{d:PyData}{v:V}(l:IsL K H xs vs)(i:Is K H d v):IsL K H (xs++[d]) (vs++[v]):=Ez l ⟨v,[],rfl,i,rfl⟩
theorem bj{own:Nat}{fr:List Nat}{wi:TI}{it:DI}{tg:TG}{g:DG}{tc:TT}{c:DT}{te:TE}{e:DX}{fe:Bool}(hi:IT K wi it)(hg:TG1 K tg g)(hc:T K tc c)(he:E K te fe e):E K (tLC own fr wi tg tc te) true (dLC own fr it g c e):=by
 refine⟨fun τ d τ' e=>?_,?_⟩
 ·unfold dLC at e
  obtain⟨⟨x,τ1⟩,e1,e⟩:=oB e
  split at e
  ·obtain⟨z,e3,e⟩:=oM e
   cases e;exact hi.like _ _ _ e1
  ·cases e
 intro S M τ σ H Q d τ' r ee q
 unfold dLC at ee
 obtain⟨⟨ds,τ1⟩,e1,ee⟩:=oB ee
 split at ee
 ·rename_i hz
  obtain⟨hz,hnm⟩:=hz
  have hz:ds.length<=sizeLine:=hz
  obtain⟨⟨acc,τb⟩,e3,ee⟩:=oM ee
  obtain⟨rfl,rfl⟩:d = .list acc/\τ'=τ1:=by cases ee;exact⟨rfl,rfl⟩
  refine hi.run S M τ σ H _ ds _ r e1 fun J H1 r1 c1 iJ=>?_
  intro D hD
  -- nothing of the def may be changed in the block
  refine⟨fun i m ys σ' H'=>∃τb' acc',R K (fun b=>S b\/b=D) (fun _=>False) τb' σ' H'/\Keep S H1 (fun b=>S b\/b=D) H'/\Chg (fun b=>b=D) H1 H'/\IsL K (hid (fun b=>S b\/b=D) H') acc' ys/\H' D=some (.lst ys)/\ys.length<=i/\i<=ds.length/\m=ds.length-i/\EC g c e (ds.drop i) acc' τb'=some (acc,τb),?_,?_⟩
  ·have s:=Ax hD (HO.lst [])
   have k:Keep S H1 (fun b=>S b\/b=D) (upd H1 D (.lst [])):=fun b o hn e=>by
    have:=A9 e hD
    exact⟨fun z=>z.elim hn this,s b o e⟩
   refine⟨ds.length,Nk own fr τ',[],⟨?_,?_,?_,?_,?_,fun a h=>h.elim,?_,GR.nil Zs⟩,k,.of s,rfl,Aq,Nat.le_refl _,Nat.zero_le _,by simp,by simpa using e3⟩
   ·unfold blk Nk;simp
   ·intro i x e
    obtain⟨kk,j,rfl,ej,et⟩:=JE e
    obtain⟨v,h1,h2⟩:=r1.dat j x et
    exact⟨v,Uc ej h1,h2.mono k.same⟩
   ·intro i xs e
    obtain⟨kk,j,rfl,ej,et⟩:=JE e
    have:=List.all_eq_true.mp hnm j (List.mem_of_getElem? ej)
    rw[isM_iff.mpr ⟨xs,et⟩]at this
    cases this
   ·intro i x e
    obtain⟨kk,j,rfl,ej,et⟩:=JE e
    obtain⟨a,vs,h1,h2,h3⟩:=r1.cst j x et
    exact⟨a,vs,Uc ej h1,k.same.seq h2,h3.mono k.same⟩
   ·intro i j xs ys a e
    obtain⟨kk,j',rfl,ej,et⟩:=JE e
    have:=List.all_eq_true.mp hnm j' (List.mem_of_getElem? ej)
    rw[isM_iff.mpr ⟨xs,et⟩]at this
    cases this
   ·rintro a (h|rfl)
    ·obtain⟨o,e⟩:=r1.ex a h
     exact⟨o,s _ _ e⟩
    ·exact⟨_,Aq⟩
  ·rintro i m ys σ' H' ⟨τb',acc',rb,k,ch,la,hHD,hyl,hil,rfl,hl⟩
   obtain⟨I1,I2⟩:=iJ _ _ k
   by_cases hlt:i<ds.length
   ·right
    have ed:ds[i]?=some ds[i]:=List.getElem?_eq_getElem hlt
    obtain⟨go,yl⟩:=I1 i _ ed
    refine⟨go,fun x H2 y=>?_⟩
    obtain⟨rfl,ix⟩:=yl x H2 y
    rw[List.drop_eq_getElem_cons hlt,EC]at hl
    obtain⟨τ2,e2,hl⟩:=oB hl
    obtain⟨⟨b,τ3⟩,e4,hl⟩:=oB hl
    refine hg.run _ _ τb' σ' H2 x _ τ2 _ rb ix e2 fun σ3 r3 k3=>?_
    refine hc.run _ _ τ2 σ3 H2 _ b τ3 r3 e4 fun H4 r4 c4=>?_
    have s4:Same H2 H4:=fun b o e=>c4 b o (fun z=>z) e
    cases b with
    |false =>
     rw[if_neg Bool.false_ne_true]
     exact⟨ds.length-(i+1),by omega,τ3,acc',r4,k.trans (Same.keep s4),ch.trans (.of s4),la.mono (Same.keep s4).same,s4 _ _ hHD,by omega,hlt,rfl,hl⟩
    |true =>
     rw[if_pos rfl]
     rw[if_pos rfl]at hl
     obtain⟨⟨z,τ5⟩,e5,hl⟩:=oB hl
     refine he.weak.run _ _ τ3 σ3 H4 _ z τ5 r4 e5 fun v H5 r5 c5 i5=>?_
     have s5:Same H2 H5:=s4.trans fun b o e=>c5 b o (fun z=>z) e
     have hD5:=s5 _ _ hHD
     refine⟨hD5,by omega,ds.length-(i+1),by omega,τ5,acc'++[z],?_,?_,?_,?_,Aq,by rw[List.length_append,List.length_singleton];omega,hlt,rfl,hl⟩
     ·have kk:Keep (fun b=>S b\/b=D) H5 (fun b=>S b\/b=D) (upd H5 D (.lst (ys++[v]))):=fun b o hn e=>⟨hn,by rw[BF (fun z=>hn (.inr z))];exact e⟩
      refine⟨r5.len,fun j x e=>let ⟨u,a,b⟩:=r5.dat j x e;⟨u,a,b.mono kk.same⟩,fun j xs e=>let ⟨_,_,_,h,_⟩:=r5.mt j xs e;h.elim,fun j xs e=>let ⟨a,vs,h1,h2,h3⟩:=r5.cst j xs e;⟨a,vs,h1,kk.same.seq h2,h3.mono kk.same⟩,r5.inj,fun _ h=>h.elim,fun a h=>?_,r5.gr.to (fun i d e=>⟨e,rfl⟩) (fun j o a e q=>.inl ⟨o,e,q⟩) (fun a h _=>h.elim) (tsS kk.same)⟩
      by_cases e:a=D
      ·subst e;exact⟨_,Aq⟩
      ·obtain⟨o,q⟩:=r5.ex a h
       exact⟨o,by rw[BF e];exact q⟩
     ·refine k.trans fun b o hn e=>⟨hn,?_⟩
      rw[BF (fun z=>hn (.inr z))]
      exact s5 _ _ e
     ·refine ch.trans fun b o hn e=>?_
      rw[BF hn]
      exact s5 _ _ e
     ·refine(Oe (la.mono (Same.keep s5).same) i5).mono (Keep.same fun b o hn e=>⟨hn,?_⟩)
      rw[BF (fun z=>hn (.inr z))]
      exact e
   ·left
    have e:i=ds.length:=by omega
    subst e
    rw[List.drop_length,EC]at hl
    cases hl
    refine⟨I2 _ (Nat.le_refl _),?_⟩
    have s:Same H1 H':=fun b o e=>ch b o (A9 e hD) e
    refine q _ H' (r1.same s) (c1.trans (.of s)) ⟨.l acc,D,_,rfl,rfl,r1.none c1 hD,hHD,ys,rfl,la⟩
 ·cases ee
end DL
end
section
namespace DL
open PySem L2
variable {K:KW}
end DL
end
section
namespace DL
open PySem L2
variable {K:KW}
def Ca(i:Nat)(f:DX)(τ:DS):Option (PyData×DS):=(f τ).bind fun p=>match p.2[i]?,p.1 with
 |some (some (.c xs)),.int k=>(atI xs k).map fun d=>(d,p.2)
 |_,_=>none
theorem bp{i:Nat}{fr:Bool}{tb:TE}{f:DX}(h:E K tb fr f):E K (tOp (RK K) (Eb i) tb) false (Ca i f):=by
 refine⟨fun τ d τ' e=>?_,?_⟩
 ·unfold Ca at e
  obtain⟨⟨x,τ1⟩,e1,e⟩:=oB e
  dsimp only at e
  split at e
  ·obtain⟨z,e3,e⟩:=oM e
   cases e;exact h.like _ _ _ e1
  ·cases e
 intro S M τ σ H Q d τ' r e q
 unfold Ca at e
 obtain⟨⟨x,τ1⟩,e1,e⟩:=oB e
 dsimp only at e
 split at e
 ·rename_i xs k hx
  obtain⟨z,e3,e⟩:=oM e
  cases e
  obtain⟨a,vs,ha,_⟩:=r.cst i xs ((((h.like _ _ _ e1).2 i).1.2 xs).mp hx)
  refine⟨.ref a,ha,h.weak.run S M τ σ H _ _ _ r e1 fun v H1 r1 c1 i1=>?_⟩
  obtain⟨a',vs',ha',h2,h3⟩:=r1.cst i xs hx
  rw[ha]at ha';cases ha'
  obtain⟨u,h4,h5⟩:=Pu h3 e3
  exact⟨a,vs',k,u,rfl,i1,same_hid.seq h2,h4,q u H1 r1 c1 h5⟩
 ·cases e
def BJ(i:Nat)(τ:DS):Option (PyData×DS):=match τ[i]? with
 |some (some (.c xs))=>some (.int xs.length,τ)
 |_=>none
theorem Yj{i:Nat}:E K (tCB (fun xs H Q=>∃x n,xs=[x]/\R9 K x H n/\Q (.int n) H) (CJ (Eb i) FG)) false (BJ i):=by
 refine⟨fun τ d τ' e=>?_,?_⟩
 ·unfold BJ at e
  split at e
  ·cases e;exact .refl
  ·cases e
 intro S M τ σ H Q d τ' r e q
 unfold BJ at e
 split at e
 ·rename_i xs hx
  cases e
  obtain⟨a,vs,ha,h2,h3⟩:=r.cst i xs hx
  refine⟨.ref a,ha,.ref a,vs.length,rfl,.inl ⟨vs,same_hid.seq h2,rfl⟩,?_⟩
  exact q _ H r .refl (by rw[h3.length];rfl)
 ·cases e
def Af(i:Nat)(G:List L->Option (PyData×List L))(a:DA)(τ:DS):Option (PyData×DS):=(a τ).bind fun p=>(BC p.1).bind fun ds=>match p.2[i]? with
 |some (some (.c xs))=>(G (.c xs::ds.map L.d)).map fun q=>(q.1,p.2)
 |_=>none
theorem V2{i:Nat}{fr:Bool}{G:List L->Option (PyData×List L)}{t:TA}{a:DA}{X:XK}(ha:A K t a):E K (Fh (spD K G fr) [] X (CJ (Eb i) t)) fr (Af i G a):=by
 refine⟨fun τ d τ' e=>?_,?_⟩
 ·unfold Af at e
  obtain⟨⟨x,τ1⟩,e1,e⟩:=oB e
  obtain⟨ds,e2,e⟩:=oB e
  dsimp only at e
  split at e
  ·obtain⟨z,e3,e⟩:=oM e
   cases e;exact ha.like _ _ _ e1
  ·cases e
 intro S M τ σ H Q d τ' rr e q
 unfold Af at e
 obtain⟨⟨x,τ1⟩,e1,e⟩:=oB e
 obtain⟨ds,e2,e⟩:=oB e
 dsimp only at e
 split at e
 ·rename_i xs hx
  obtain⟨⟨z,ls'⟩,e3,e⟩:=oM e
  cases e
  obtain⟨p,us,hp,_⟩:=rr.cst i xs ((((ha.like _ _ _ e1).2 i).1.2 xs).mp hx)
  refine⟨.ref p,hp,ha.run S M τ σ H _ x _ rr e1 fun vs H1 r1 c1 i1=>?_⟩
  have l:=DR i1 e2
  obtain⟨p',us',hp',h2,h3⟩:=r1.cst i xs hx
  rw[hp]at hp';cases hp'
  show spD K G fr ((.ref p::vs)++[]) H1 Q X
  rw[List.append_nil]
  have ra:=Sw r1 l
  refine⟨S,fun _=>False,.c xs::ds.map L.d,_,ls',⟨?_,?_,?_,?_,?_,fun _ h=>h.elim,r1.ex,GR.nil ?_⟩,e3,fun v H' _ c res=>?_⟩
  ·have:=ra.len
   simp only[List.length_map,List.map_cons,List.length_cons]at this ⊢
   omega
  ·intro j x e
   cases j with
   |zero=>cases e
   |succ j=>exact ra.dat j x (by simpa using e)
  ·intro j ys e
   cases j with
   |zero=>exact absurd (Option.some.inj (Option.some.inj e)).symm Ow.not_c
   |succ j=>obtain⟨_,_,_,h,_⟩:=ra.mt j ys (by simpa using e);exact h.elim
  ·intro j ys e
   cases j with
   |zero=>cases e;exact⟨p,us',rfl,h2,h3⟩
   |succ j=>exact ra.cst j ys (by simpa using e)
  ·intro j k ys ws b e1 e2 _ _
   cases j with
   |zero=>exact absurd (Option.some.inj (Option.some.inj e1)).symm Ow.not_c
   |succ j=>obtain⟨_,_,_,h,_⟩:=ra.mt j ys (by simpa using e1);exact h.elim
  ·intro j x e
   cases j with
   |zero=>cases e
   |succ j =>
    rw[List.map_cons,List.getElem?_cons_succ,List.getElem?_map,List.getElem?_map]at e
    cases q:ds[j]? with
    |none=>rw[q]at e;cases e
    |some d=>rw[q]at e;cases e
  ·have s:Same H1 H':=fun b o e=>c b o (fun z=>z) e
   exact q v H' (r1.same s) (c1.trans (.of s)) (res.back r1 c1)
 ·cases e
section
variable {F:Frm} {S M:Addr->Prop} {τ τ':DS} {σ:St} {H H':Hp}
theorem RF.step(f:RF K F S M τ σ H)(r':R K S M τ' σ H')(c:Chg M H H')(lk:Like τ τ'):RF K F S M τ' σ H' where
 r:=r'
 sS:=f.sS
 old:=fun b o e n=>c b o (fun z=>(f.new b z).elim n fun q=>by rw[q]at e;cases e) (f.old b o e n)
 new:=f.new
 fm:=f.fm
 fs:=f.fs
 fsub:=f.fsub
 snew:=f.snew
 par:=f.par
 pm:=fun i v e=>let ⟨xs,h⟩:=f.pm i v e;(lk.own i).mpr ⟨xs,h⟩
 fma:=f.fma
theorem RF.stay(f:RF K F S M τ σ H){σ':St}(r':R K S M τ' σ' H)(ms:MSame τ τ')(k:∀(j:Nat) (o:Ow),τ[j]?=some (some o.L)->σ'[j]?=σ[j]?):RF K F S M τ' σ' H where
 r:=r'
 sS:=f.sS
 old:=f.old
 new:=f.new
 fm:=f.fm
 fs:=f.fs
 fsub:=f.fsub
 snew:=f.snew
 par:=fun i v e=>by
  obtain⟨xs,h⟩:=f.pm i v e
  rw[k i xs h]
  exact f.par i v e
 pm:=fun i v e=>let ⟨xs,h⟩:=f.pm i v e;⟨xs,(ms.2 i xs).mpr h⟩
 fma:=f.fma
theorem RF.hnone(f:RF K F S M τ σ H){a:Addr}(h:H a=none):F.H a=none:=by
 cases e:F.H a with
 |none=>rfl
 |some o =>
  exfalso
  by_cases hm:F.M a
  ·obtain⟨o',e'⟩:=f.r.ex a (f.sS a (f.fsub a hm))
   rw[h]at e';cases e'
  ·have:=f.old a o e hm
   rw[h]at this;cases this
theorem RF.res(f:RF K F S M τ σ H){fr:Bool}{d:PyData}{v:V}(h:Res K fr S H H' d v):Res K fr F.S F.H H' d v:=by
 cases fr with
 |false=>exact Is.mono (E1 f.sS) h
 |true =>
  obtain⟨xs,a,vs,e1,e2,h1,h2,h3⟩:=h
  exact⟨xs,a,vs,e1,e2,f.hnone h1,h2,h3.mono (E1 fun b z=>z.elim (fun z=>.inl (f.sS b z)) .inr)⟩
end
variable {np:Nat}
def AL(e:DX)(g:DG)(τ:DS):Option Out:=(e τ).bind fun p=>(g p.1 p.2).map .nx
theorem Q6{fr fe:Bool}{te:TE}{tg:TG}{e:DX}{g:DG}(he:E K te fe e)(hg:TG1 K tg g):B K np (Ko te tg) fr (AL e g):=by
 intro F S M τ σ H D out hnp f ee q
 unfold AL at ee
 obtain⟨⟨x,τ1⟩,e1,ee⟩:=oB ee
 obtain⟨τ2,e2,ee⟩:=oM ee
 cases ee
 refine he.weak.run S M τ σ H _ x τ1 f.r e1 fun v H1 r1 c1 i1=>?_
 refine hg.run S M τ1 σ H1 v x τ2 _ r1 i1 e2 fun σ' r2 k=>?_
 exact q S M σ' H1 ((f.step r1 c1 (he.like _ _ _ e1)).stay r2 (hg.ms _ _ _ e2) k) (c1.keep f.r.sub)
theorem dJ{fr fe:Bool}{te:TE}{i:Nat}{e:DX}(he:E K te fe e):B K np (fun D σ H=>te σ H fun v H'=>D.nx (σ.set i (some v)) H') fr (AL e (dN i)):=Q6 (tg:=Gb i) he E2
def GK(np i:Nat)(τ:DS):Option Out:=if np<=i/\i<τ.length then some (.nx (τ.set i (some (.m [])))) else none
def tkP:List (PyData×PyData)->Option (List (List Int×PyData))
 |[]=>some []
 |(.tuple ks,d)::r=>(tkI ks).bind fun k=>(tkP r).map ((k,d)::·)
 |_=>none
where tkI:List PyData->Option (List Int)
 |[]=>some []
 |.int i::r=>(tkI r).map (i::·)
 |_=>none
theorem QL:∀(k:List Int),tkP.tkI (k.map PyData.int)=some k
 |[]=>rfl
 |i::k=>by rw[List.map_cons,tkP.tkI,QL k];rfl
theorem QK:∀(m:List (List Int×PyData)),tkP (MF m)=some m
 |[]=>rfl
 |(k,d)::m=>by
  have:=QK m
  show(tkP.tkI (k.map PyData.int)).bind _=_
  rw[QL]
  show((tkP (MF m)).map _)=_
  rw[this];rfl
theorem Z8{o:Ow}{kvs:List (PyData×PyData)}{m:List (List Int×PyData)}(h:PyData.dict kvs=o.D)(e:tkP kvs=some m):o = .t m:=by
 cases o with
 |l xs=>cases h
 |t m'=>cases h;rw[QK]at e;cases e;rfl
def E4(np i:Nat)(e:DX)(τ:DS):Option Out:=(e τ).bind fun p=>match p.1 with
 |.list xs=>if np<=i/\i<p.2.length/\p.2.all okM=true then some (.nx (p.2.set i (some (.m xs)))) else none
 |.dict kvs=>(tkP kvs).bind fun m=>if np<=i/\i<p.2.length/\p.2.all okM=true then some (.nx (p.2.set i (some (.k m)))) else none
 |_=>none
theorem RF.newM{F:Frm}{S M:Addr->Prop}{τ:DS}{σ:St}{H:Hp}(f:RF K F S M τ σ H){a:Addr}{i:Nat}{xs:Ow}{vs:HO}(hi:i<τ.length)(hnp:F.ar.length<=i)(hS:S a)(hM:¬M a)(hF:F.H a=none)(h':H a=some vs)
  (l:IsO K (hid S H) xs a vs):RF K F S (fun b=>M b\/b=a) (τ.set i (some xs.L)) (σ.set i (some (.ref a))) H:=by
 have hs:i<σ.length:=by rw[f.r.len];exact hi
 have ne:∀j,j≠i->(τ.set i (some xs.L))[j]?=τ[j]?:=fun j hj=>List.getElem?_set_ne (Ne.symm hj)
 have ne':∀j,j≠i->(σ.set i (some (V.ref a)))[j]?=σ[j]?:=fun j hj=>List.getElem?_set_ne (Ne.symm hj)
 have se:(τ.set i (some xs.L))[i]?=some (some xs.L):=List.getElem?_set_self hi
 have se':(σ.set i (some (V.ref a)))[i]?=some (some (.ref a)):=List.getElem?_set_self hs
 have Ma:∀(j:Nat) (ys:Ow) (b:Addr),j≠i->τ[j]?=some (some ys.L)->σ[j]?=some (some (.ref b))->b≠a:=fun j ys b hj e e' z=>by
  obtain⟨b',us,h1,h2,_⟩:=f.r.mt j ys e
  rw[e']at h1;cases h1
  subst z
  exact hM h2
 refine⟨⟨by rw[List.length_set,List.length_set];exact f.r.len,fun j x e=>?_,fun j ys e=>?_,fun j ys e=>?_,fun j1 j2 ys zs b e1 e2 f1 f2=>?_,fun b h=>h.elim (f.r.sub b) fun z=>by rw[z];exact hS,f.r.ex,f.r.gr.to (fun j x e=>?_) (fun j o b e q=>?_) (fun b hb _=>⟨.inl hb,rfl⟩) .refl⟩,f.sS,f.old,fun b h=>h.elim (f.new b) fun z=>.inr (by rw[z];exact hF),fun b h=>.inl (f.fm b h),f.fs,f.fsub,f.snew,fun j v e=>?_,fun j v e=>?_,f.fma⟩
 ·by_cases hj:j=i
  ·subst hj;rw[se]at e;exact absurd (Option.some.inj (Option.some.inj e)) Ow.not_d
  ·rw[ne j hj]at e
   rw[ne' j hj]
   exact f.r.dat j x e
 ·by_cases hj:j=i
  ·subst hj
   rw[se]at e
   obtain rfl:=KU e
   exact⟨a,vs,se',.inr rfl,h',l⟩
  ·rw[ne j hj]at e
   rw[ne' j hj]
   obtain⟨b,us,h1,h2,h3,h4⟩:=f.r.mt j ys e
   exact⟨b,us,h1,.inl h2,h3,h4⟩
 ·by_cases hj:j=i
  ·subst hj;rw[se]at e;exact absurd (Option.some.inj (Option.some.inj e)) Ow.not_c
  ·rw[ne j hj]at e
   rw[ne' j hj]
   exact f.r.cst j ys e
 ·by_cases h1:j1=i
  ·by_cases h2:j2=i
   ·rw[h1,h2]
   ·exfalso
    subst h1
    rw[se']at f1;cases f1
    rw[ne j2 h2]at e2
    rw[ne' j2 h2]at f2
    exact Ma j2 zs _ h2 e2 f2 rfl
  ·by_cases h2:j2=i
   ·exfalso
    subst h2
    rw[se']at f2;cases f2
    rw[ne j1 h1]at e1
    rw[ne' j1 h1]at f1
    exact Ma j1 ys _ h1 e1 f1 rfl
   ·rw[ne j1 h1]at e1
    rw[ne' j1 h1]at f1
    rw[ne j2 h2]at e2
    rw[ne' j2 h2]at f2
    exact f.r.inj _ _ _ _ b e1 e2 f1 f2
 ·by_cases hj:j=i
  ·subst hj;rw[se]at e;exact absurd (Option.some.inj (Option.some.inj e)) Ow.not_g
  ·rw[ne j hj]at e;exact⟨e,ne' j hj⟩
 ·by_cases hj:j=i
  ·subst hj;rw[se']at q;cases q;exact .inr hM
  ·rw[ne j hj]at e;rw[ne' j hj]at q;exact .inl ⟨o,e,q⟩
 ·have:j≠i:=fun z=>by
   subst z
   have:=(List.getElem?_eq_some_iff.mp e).1
   omega
  rw[ne' j this]
  exact f.par j v e
 ·have:j≠i:=fun z=>by
   subst z
   have:=(List.getElem?_eq_some_iff.mp e).1
   omega
  rw[ne j this]
  exact f.pm j v e
theorem RF.hide{F:Frm}{S M:Addr->Prop}{τ:DS}{σ:St}{H H':Hp}(f:RF K F S M τ σ H){a:Addr}(s:Same H H')(ha:H a=none)(h':∃o,H' a=some o):RF K F (fun b=>S b\/b=a) M τ σ H':=by
 have k:Keep S H (fun b=>S b\/b=a) H':=fun b o hn e=>⟨fun z=>z.elim hn (A9 e ha),s b o e⟩
 refine ⟨⟨f.r.len, fun j x e => let ⟨v, h1, h2⟩ := f.r.dat j x e; ⟨v, h1, h2.mono k.same⟩, fun j x e => let ⟨b, vs, h1, h2, h3, h4⟩ := f.r.mt j x e; ⟨b, vs, h1, h2, s _ _ h3, h4.mono k.same⟩,
  fun j x e=>let ⟨b,vs,h1,h2,h3⟩:=f.r.cst j x e;⟨b,vs,h1,k.same.seq h2,h3.mono k.same⟩,f.r.inj,fun b h=>.inl (f.r.sub b h),fun b h=>?_,f.r.gr.to (fun i d e=>⟨e,rfl⟩) (fun j o a e q=>.inl ⟨o,e,q⟩) (fun a h _=>⟨h,by obtain⟨o,e⟩:=f.r.ex a (f.r.sub a h);rw[e];exact s _ _ e⟩) (tsS k.same)⟩,fun b h=>.inl (f.sS b h),fun b o e n=>s _ _ (f.old b o e n),f.new,f.fm,f.fs,f.fsub,fun b h=>h.elim (f.snew b) fun z=>.inr (by rw[z];exact f.hnone ha),f.par,f.pm,f.fma⟩
 rcases h with h|h
 ·obtain⟨o,e⟩:=f.r.ex b h
  exact⟨o,s _ _ e⟩
 ·rw[h];exact h'
theorem RF.hideE{F:Frm}{S M:Addr->Prop}{τ τ1:DS}{σ:St}{H H':Hp}(f:RF K F S M τ σ H){a:Addr}(r1:R K S M τ1 σ H')(c:Chg M H H')(lk:Like τ τ1)(ok:τ1.all okM=true)(ha:H a=none)(h':∃o,H' a=some o/\OwH o):RF K F (fun b=>S b\/b=a) M τ1 σ H':=by
 have f1:=f.step r1 c lk
 have k:Keep S H (fun b=>S b\/b=a) H':=fun b o hn e=>⟨fun z=>z.elim hn (A9 e ha),c b o (fun z=>hn (f.r.sub b z)) e⟩
 have ts:TSm (hid S H') (hid (fun b=>S b\/b=a) H'):=JJ fun b z=>z.elim .inl fun z=>by subst z;exact .inr h'
 refine⟨⟨r1.len,fun j x e=>?_,fun j x e=>?_,fun j x e=>?_,r1.inj,fun b h=>.inl (f.r.sub b h),fun b h=>?_,r1.gr.to (fun i d e=>⟨e,rfl⟩) (fun j o a e q=>.inl ⟨o,e,q⟩) (fun a h _=>⟨h,rfl⟩) ts⟩,fun b h=>.inl (f.sS b h),f1.old,f.new,f.fm,f.fs,f.fsub,fun b h=>h.elim (f.snew b) fun z=>.inr (by rw[z];exact f.hnone ha),f.par,f1.pm,f.fma⟩
 ·obtain⟨v,h1,h2⟩:=f.r.dat j x (((lk.2 j).1.1 x).mp e)
  exact⟨v,h1,h2.mono k.same⟩
 ·obtain⟨b,vs,h1,h2,h3,h4⟩:=r1.mt j x e
  exact⟨b,vs,h1,h2,h3,h4.monoT ts (List.all_eq_true.mp ok (some x.L) (List.mem_of_getElem? e))⟩
 ·obtain⟨b,vs,h1,h2,h3⟩:=f.r.cst j x (((lk.2 j).1.2 x).mp e)
  exact⟨b,vs,h1,k.same.seq h2,h3.mono k.same⟩
 ·rcases h with h|h
  ·exact r1.ex b h
  ·obtain⟨vs,e,_⟩:=h'
   rw[h];exact⟨_,e⟩
theorem dI{fr:Bool}{i:Nat}:B K np (Ko (Se FG) (Gb i)) fr (GK np i):=by
 intro F S M τ σ H D out hnp f ee q
 unfold GK at ee
 split at ee
 ·rename_i hi
  cases ee
  refine⟨Nat.zero_le _,fun a ha=>?_⟩
  have s:=Ax ha (HO.lst [])
  have f1:=f.hide s ha ⟨_,Aq⟩
  have hM:¬M a:=fun z=>f.r.fresh ha (f.r.sub a z)
  exact q _ _ _ _ (f1.newM (xs:=.l []) hi.2 (Nat.le_trans hnp hi.1) (.inr rfl) hM (f.hnone ha) Aq ⟨[],rfl,rfl⟩) fun b o hn e=>⟨fun z=>z.elim hn (A9 e ha),s b o e⟩
 ·cases ee
theorem Zu{fr:Bool}{i:Nat}{te:TE}{e:DX}(he:E K te true e):B K np (Ko te (Gb i)) fr (E4 np i e):=by
 intro F S M τ σ H D out hnp f ee q
 unfold E4 at ee
 obtain⟨⟨x,τ1⟩,e1,ee⟩:=oB ee
 dsimp only at ee
 split at ee
 ·split at ee
  ·rename_i xs hi
   cases ee
   refine he.run S M τ σ H _ _ τ1 f.r e1 fun v H1 r1 c1 i1=>?_
   obtain⟨ys,a,vs,e2,rfl,h1,h2,h3⟩:=i1
   obtain rfl:=Ow.D_list e2
   have f1:=f.hideE r1 c1 (he.like _ _ _ e1) hi.2.2 h1 ⟨_,h2,h3.ho⟩
   have hM:¬M a:=fun z=>f.r.fresh h1 (f.r.sub a z)
   exact q _ _ _ _ (f1.newM (xs:=.l _) hi.2.1 (Nat.le_trans hnp hi.1) (.inr rfl) hM (f.hnone h1) h2 h3) fun b o hn e=>⟨fun z=>z.elim hn (A9 e h1),c1 b o (fun z=>hn (f.r.sub b z)) e⟩
  ·cases ee
 ·obtain⟨m,em,ee⟩:=oB ee
  split at ee
  ·rename_i hi
   cases ee
   refine he.run S M τ σ H _ _ τ1 f.r e1 fun v H1 r1 c1 i1=>?_
   obtain⟨ys,a,vs,e2,rfl,h1,h2,h3⟩:=i1
   obtain rfl:=Z8 e2 em
   have f1:=f.hideE r1 c1 (he.like _ _ _ e1) hi.2.2 h1 ⟨_,h2,h3.ho⟩
   have hM:¬M a:=fun z=>f.r.fresh h1 (f.r.sub a z)
   exact q _ _ _ _ (f1.newM (xs:=.t _) hi.2.1 (Nat.le_trans hnp hi.1) (.inr rfl) hM (f.hnone h1) h2 h3) fun b o hn e=>⟨fun z=>z.elim hn (A9 e h1),c1 b o (fun z=>hn (f.r.sub b z)) e⟩
  ·cases ee
 ·cases ee
def AN(e:DX)(τ:DS):Option Out:=(e τ).map fun p=>.rt p.1 p.2
theorem dG{fr fe:Bool}{te:TE}{e:DX}(he:E K te fe e)(hf:fr=true->fe=true):B K np (Sb te) fr (AN e):=by
 intro F S M τ σ H D out hnp f ee q
 unfold AN at ee
 obtain⟨⟨x,τ1⟩,e1,ee⟩:=oM ee
 cases ee
 refine he.run S M τ σ H _ x τ1 f.r e1 fun v H1 r1 c1 i1=>?_
 exact q S M σ H1 v (f.step r1 c1 (he.like _ _ _ e1)) (f.res (i1.imp (fun _=>f.r.fresh) fr hf))
def Dy(np i:Nat)(τ:DS):Option Out:=match τ[i]? with
 |some (some (.m xs))=>if np<=i then some (.rt (.list xs) τ) else none
 |some (some (.k xs))=>if np<=i then some (.rt (.dict (MF xs)) τ) else none
 |_=>none
theorem P7{np i:Nat}{τ:DS}{out:Out}(e:Dy np i τ=some out):∃w,τ[i]?=some (some (Ow.L w))/\np<=i/\out = .rt w.D τ:=by
 unfold Dy at e
 split at e
 ·rename_i xs hx
  split at e
  ·rename_i h;cases e;exact⟨.l xs,hx,h,rfl⟩
  ·cases e
 ·rename_i xs hx
  split at e
  ·rename_i h;cases e;exact⟨.t xs,hx,h,rfl⟩
  ·cases e
 ·cases e
theorem Zw{fr:Bool}{i:Nat}:B K np (Sb (Eb i)) fr (Dy np i):=by
 intro F S M τ σ H D out hnp f ee q
 obtain⟨xs,hx,hi,rfl⟩:=P7 ee
 obtain⟨a,vs,h1,h2,h3,h4⟩:=f.r.mt i xs hx
 refine⟨_,h1,q S M σ H _ f ?_⟩
 have hF:F.H a=none:=by
  rcases f.new a h2 with z|z
  ·exfalso
   obtain⟨j,hj⟩:=f.fma a z
   obtain⟨ys,hy⟩:=f.pm j _ hj
   have e:=f.r.inj j i ys xs a hy hx (f.par j _ hj) h1
   have:=(List.getElem?_eq_some_iff.mp hj).1
   omega
  ·exact z
 have res:Res K true F.S F.H H xs.D (.ref a):=⟨xs,a,vs,rfl,rfl,hF,h3,h4.mono (E1 fun b z=>z.elim (f.sS b) fun z=>by rw[z];exact f.r.sub a h2)⟩
 refine res.imp (fun b hb=>?_) fr fun _=>rfl
 intro z
 obtain⟨o,e⟩:=f.fs b z
 rw[hb]at e;cases e
def EV(τ:DS):Option Out:=some (.rt .none τ)
theorem Zv:B K np Wr false EV:=by
 intro F S M τ σ H D out hnp f ee q
 cases ee
 exact q S M σ H _ f rfl
def Bh(e:DX)(τ:DS):Option Out:=(e τ).map fun p=>.nx p.2
theorem Z1{fr fe:Bool}{te:TE}{e:DX}(he:E K te fe e):B K np (Sf te) fr (Bh e):=by
 intro F S M τ σ H D out hnp f ee q
 unfold Bh at ee
 obtain⟨⟨x,τ1⟩,e1,ee⟩:=oM ee
 cases ee
 refine he.run S M τ σ H _ x τ1 f.r e1 fun v H1 r1 c1 i1=>?_
 exact q S M σ H1 (f.step r1 c1 (he.like _ _ _ e1)) (c1.keep f.r.sub)
def dMt(i:Nat)(G:List PyData->List PyData->Option (PyData×List PyData))(a:DA)(τ:DS):Option (PyData×DS):=(a τ).bind fun p=>(BC p.1).bind fun ds=>match p.2[i]? with
 |some (some (.m xs))=>(G xs ds).map fun q=>(q.1,p.2.set i (some (.m q.2)))
 |_=>none
def MR(K:KW)(r:V->List V->Hp->VK->Prop)(G:List PyData->List PyData->Option (PyData×List PyData)):Prop:=∀(S:Addr->Prop) H a vs us xs ds d xs' (Q:VK),S a->H a=some (.lst vs)->IsL K (hid S H) xs vs->IsL K (hid S H) ds us->G xs ds=some (d,xs') ->
 (∀v vs',Is K (hid S H) d v->IsL K (hid S H) xs' vs'->Q v (upd H a (.lst vs')))->r (.ref a) us H Q
theorem NX{S:Addr->Prop}{H:Hp}{a:Addr}{o:HO}(h:S a):hid S (upd H a o)=hid S H:=by
 funext b
 unfold hid
 by_cases z:S b
 ·rw[if_pos z,if_pos z]
 ·rw[if_neg z,if_neg z,BF (fun e=>z (by rw[e];exact h))]
theorem Ov{i:Nat}{G:List PyData->List PyData->Option (PyData×List PyData)}{a:DA}{τ τ':DS}{d:PyData}(e:dMt i G a τ=some (d,τ')):∃rs τ1 ds xs xs',a τ=some (rs,τ1)/\BC rs=some ds/\τ1[i]?=some (some (.m xs))/\G xs ds=some (d,xs')/\τ'=τ1.set i (some (.m xs')):=by
 unfold dMt at e
 obtain⟨⟨x,τ1⟩,e1,e⟩:=oB e
 obtain⟨ds,e2,e⟩:=oB e
 dsimp only at e
 split at e
 ·rename_i xs hx
  obtain⟨⟨z,zs⟩,e3,e⟩:=oM e
  cases e
  exact⟨x,τ1,ds,xs,zs,e1,e2,hx,e3,rfl⟩
 ·cases e
theorem eg{i:Nat}{r:V->List V->Hp->VK->Prop}{G:List PyData->List PyData->Option (PyData×List PyData)}{t:TA}{a:DA}(h:MR K r G)(ha:A K t a):E K (tBM K "list" r (Eb i) t) false (dMt i G a):=by
 refine⟨fun τ d τ' e=>?_,?_⟩
 ·obtain⟨rs,τ1,ds,xs,xs',e1,e2,e3,e4,rfl⟩:=Ov e
  exact(ha.like _ _ _ e1).trans (Rh e3)
 intro S M τ σ H Q d τ' rr e q
 obtain⟨rs,τ1,ds,xs,xs',e1,e2,e3,e4,rfl⟩:=Ov e
 have lk:=ha.like _ _ _ e1
 obtain⟨zs,hz⟩:=lk.ml e3
 obtain⟨p,us,hp,hM,hl0,_⟩:=rr.ml i zs hz
 refine⟨.ref p,hp,.inl ⟨rfl,us,SqL.of hl0⟩,?_⟩
 refine ha.run S M τ σ H _ rs _ rr e1 fun vs H1 r1 c1 i1=>?_
 have l:=DR i1 e2
 obtain⟨p',us',hp',hM',hl,ll⟩:=r1.ml i xs e3
 rw[hp]at hp';cases hp'
 have Sp:=r1.sub p hM'
 refine h S H1 p us' vs xs ds d xs' _ Sp hl ll l e4 fun v vs' iv il=>?_
 have c:Chg (fun b=>b=p) H1 (upd H1 p (.lst vs')):=fun b o hn e=>by rw[BF hn];exact e
 refine q v _ (r1.setM e3 hp c Aq (by rw[NX Sp];exact il)) (c1.trans fun b o hn e=>c b o (fun z=>hn (by subst z;exact hM')) e) ?_
 show Is K (hid S _) d v
 rw[NX Sp];exact iv
def Ay:List PyData->List PyData->Option (PyData×List PyData)
 |xs,[d]=>if xs.length<sizeLine then some (.none,xs++[d]) else none
 |_,_=>none
theorem Tu:MR K QY Ay:=by
 intro S H a vs us xs ds d xs' Q Sa hl ll l e q
 unfold Ay at e
 split at e
 ·split at e
  ·rename_i d0 hz
   cases e
   obtain⟨v,us',rfl,iv,iu⟩:=l
   cases (show us'=[] from iu)
   exact⟨a,vs,v,rfl,rfl,hl,by rw[ll.length];exact hz,q _ _ rfl (Oe ll iv)⟩
  ·cases e
 ·cases e
def Ds:List PyData->List PyData->Option (PyData×List PyData)
 |xs,[.list ys]=>if xs.length+ys.length<=sizeLine then some (.none,xs++ys) else none
 |_,_=>none
def E3:List PyData->List PyData->Option (PyData×List PyData)
 |_,[]=>some (.none,[])
 |_,_=>none
def G9(i:Nat)(e k:DX)(τ:DS):Option Out:=(e τ).bind fun p=>(k p.2).bind fun q=>match q.2[i]?,q.1 with
 |some (some (.m xs)),.int n=>(ixN xs.length n).map fun j=>.nx (q.2.set i (some (.m (xs.set j p.1))))
 |_,_=>none
theorem Gl.trans{F:Frm}{fr:Bool}{S S1:Addr->Prop}{H H1:Hp}{D:Lo}{o:Out}(k:Keep S H S1 H1)(h:Gl K F fr S H D o):Gl K F fr S1 H1 D o:=by
 cases o with
 |nx τ=>exact fun S' M' σ' H' r k'=>h S' M' σ' H' r (k.trans k')
 |bk τ=>exact fun S' M' σ' H' r k'=>h S' M' σ' H' r (k.trans k')
 |ct τ=>exact fun S' M' σ' H' r k'=>h S' M' σ' H' r (k.trans k')
 |rt d τ=>exact fun S' M' σ' H' v r k'=>h S' M' σ' H' v r k'
def AO(τ:DS):Option Out:=some (.nx τ)
theorem XO{fr:Bool}:B K np Wu fr AO:=by
 intro F S M τ σ H D out hnp f ee q
 cases ee
 exact q S M σ H f .refl
def AK(a b:DB)(τ:DS):Option Out:=(a τ).bind fun o=>match o with
 |.nx τ'=>b τ'
 |o=>some o
theorem dF{fr:Bool}{t u:TS}{a b:DB}(ha:B K np t fr a)(hb:B K np u fr b):B K np (SY t u) fr (AK a b):=by
 intro F S M τ σ H D out hnp f ee q
 unfold AK at ee
 obtain⟨o,e1,ee⟩:=oB ee
 refine ha F S M τ σ H _ o hnp f e1 ?_
 cases o with
 |nx τ1=>exact fun S' M' σ' H' r k=>hb F S' M' τ1 σ' H' D out hnp r ee (q.trans k)
 |bk τ1=>cases ee;exact q
 |ct τ1=>cases ee;exact q
 |rt d τ1=>cases ee;exact q
def AQ(c:DT)(a b:DB)(τ:DS):Option Out:=(c τ).bind fun p=>if p.1=true then a p.2 else b p.2
theorem fH{fr:Bool}{tc:TT}{t u:TS}{c:DT}{a b:DB}(hc:T K tc c)(ha:B K np t fr a)(hb:B K np u fr b):B K np (Xm tc t u) fr (AQ c a b):=by
 intro F S M τ σ H D out hnp f ee q
 unfold AQ at ee
 obtain⟨⟨k,τ1⟩,e1,ee⟩:=oB ee
 refine hc.run S M τ σ H _ k τ1 f.r e1 fun H1 r1 c1=>?_
 have f1:=f.step r1 c1 (hc.like _ _ _ e1)
 cases k with
 |true=>exact ha F S M τ1 σ H1 D out hnp f1 ee (q.trans (c1.keep f.r.sub))
 |false=>exact hb F S M τ1 σ H1 D out hnp f1 ee (q.trans (c1.keep f.r.sub))
def Lc(τ:DS):Option Out:=some (.bk τ)
def Lb(τ:DS):Option Out:=some (.ct τ)
def CZ:DB:=fun _=>none
theorem Wf{fr:Bool}:B K np Sd fr CZ:=by
 intro F S M τ σ H D out hnp f ee q
 cases ee
def BO(g:DG)(b:DB):List PyData->DS->Option Out
 |[],τ=>some (.nx τ)
 |d::ds,τ=>(g d τ).bind fun τ1=>(b τ1).bind fun o=>match o with
  |.nx τ2=>BO g b ds τ2
  |.ct τ2=>BO g b ds τ2
  |.bk τ2=>some (.nx τ2)
  |.rt d τ2=>some (.rt d τ2)
def Cp(it:DI)(g:DG)(b:DB)(τ:DS):Option Out:=(it τ).bind fun p=>BO g b p.1 p.2
theorem dM{fr:Bool}{wi:TI}{tg:TG}{tb:TS}{it:DI}{g:DG}{b:DB}(hi:IT K wi it)(hg:TG1 K tg g)(hb:B K np tb fr b):B K np (U0 wi tg tb) fr (Cp it g b):=by
 intro F S M τ σ H D out hnp f ee q
 unfold Cp at ee
 obtain⟨⟨ds,τ1⟩,e1,ee⟩:=oB ee
 refine hi.run S M τ σ H _ ds τ1 f.r e1 fun J H1 r1 c1 iJ=>?_
 have f1:=f.step r1 c1 (hi.like _ _ _ e1)
 have q1:=q.trans (c1.keep f.r.sub)
 refine⟨fun i m σ' H'=>m=ds.length-i/\i<=ds.length/\∃S' M' τ',RF K F S' M' τ' σ' H'/\Keep S H1 S' H'/\BO g b (ds.drop i) τ'=some out,⟨ds.length,by simp,Nat.zero_le _,S,M,τ1,f1,.refl,by simpa using ee⟩,?_⟩
 rintro i m σ' H' ⟨rfl,hil,S',M',τ',f',k',hl⟩
 obtain⟨I1,I2⟩:=iJ _ _ k'
 by_cases hlt:i<ds.length
 ·right
  have ed:ds[i]?=some ds[i]:=List.getElem?_eq_getElem hlt
  obtain⟨go,yl⟩:=I1 i _ ed
  refine⟨go,fun σ2 H2=>∃S2 M2 τ2,RF K F S2 M2 τ2 σ2 H2/\Keep S H1 S2 H2/\BO g b (ds.drop (i+1)) τ2=some out,fun σ2 H2 h=>⟨ds.length-(i+1),by omega,rfl,hlt,h⟩,fun x H2 y=>?_⟩
  obtain⟨rfl,ix⟩:=yl x H2 y
  rw[List.drop_eq_getElem_cons hlt,BO]at hl
  obtain⟨τ2,e2,hl⟩:=oB hl
  obtain⟨o,e3,hl⟩:=oB hl
  refine hg.run S' M' τ' σ' H2 x _ τ2 _ f'.r ix e2 fun σ3 r3 k3=>?_
  have f3:=f'.stay r3 (hg.ms _ _ _ e2) k3
  refine hb F S' M' τ2 σ3 H2 _ o hnp f3 e3 ?_
  cases o with
  |nx τ4=>exact fun S4 M4 σ4 H4 f4 k4=>⟨S4,M4,τ4,f4,k'.trans k4,hl⟩
  |ct τ4=>exact fun S4 M4 σ4 H4 f4 k4=>⟨S4,M4,τ4,f4,k'.trans k4,hl⟩
  |bk τ4=>cases hl;exact fun S4 M4 σ4 H4 f4 k4=>q1 S4 M4 σ4 H4 f4 (k'.trans k4)
  |rt d τ4=>cases hl;exact fun S4 M4 σ4 H4 v f4 k4=>q1 S4 M4 σ4 H4 v f4 k4
 ·left
  have e:i=ds.length:=by omega
  subst e
  rw[List.drop_length,BO]at hl
  cases hl
  exact⟨I2 _ (Nat.le_refl _),q1 S' M' σ' H' f' k'⟩
def dWh(c:DT)(b:DB):Nat->DS->Option Out
 |0,_=>none
 | n + 1, τ => (c τ).bind fun p => if p.1 = true then (b p.2).bind fun o => (match o with
   |.nx τ2=>dWh c b n τ2
   |.ct τ2=>dWh c b n τ2
   |.bk τ2=>some (.nx τ2)
   |.rt d τ2=>some (.rt d τ2)) else some (.nx p.2)
def Fd(n:DS->Nat)(c:DT)(b:DB)(τ:DS):Option Out:=dWh c b (n τ) τ
theorem We{fr:Bool}{n:DS->Nat}{tc:TT}{tb:TS}{c:DT}{b:DB}(hc:T K tc c)(hb:B K np tb fr b):B K np (SX tc tb) fr (Fd n c b):=by
 intro F S M τ σ H D out hnp f ee q
 unfold Fd at ee
 refine⟨fun m σ' H'=>∃S' M' τ',RF K F S' M' τ' σ' H'/\Keep S H S' H'/\dWh c b m τ'=some out,⟨n τ,S,M,τ,f,.refl,ee⟩,?_⟩
 rintro m σ' H' ⟨S',M',τ',f',k',hl⟩
 cases m with
 |zero=>cases hl
 |succ m =>
  rw[dWh]at hl
  obtain⟨⟨k,τ1⟩,e1,hl⟩:=oB hl
  refine hc.run S' M' τ' σ' H' _ k τ1 f'.r e1 fun H1 r1 c1=>?_
  have f1:=f'.step r1 c1 (hc.like _ _ _ e1)
  have k1:=k'.trans (c1.keep f'.r.sub)
  cases k with
  |false =>
   rw[if_neg Bool.false_ne_true]at hl ⊢
   cases hl
   exact q S' M' σ' H1 f1 k1
  |true =>
   rw[if_pos rfl]at hl ⊢
   obtain⟨o,e3,hl⟩:=oB hl
   refine⟨fun σ2 H2=>∃S2 M2 τ2,RF K F S2 M2 τ2 σ2 H2/\Keep S H S2 H2/\dWh c b m τ2=some out,fun σ2 H2 h=>⟨m,Nat.lt_succ_self _,h⟩,?_⟩
   refine hb F S' M' τ1 σ' H1 _ o hnp f1 e3 ?_
   cases o with
   |nx τ4=>exact fun S4 M4 σ4 H4 f4 k4=>⟨S4,M4,τ4,f4,k1.trans k4,hl⟩
   |ct τ4=>exact fun S4 M4 σ4 H4 f4 k4=>⟨S4,M4,τ4,f4,k1.trans k4,hl⟩
   |bk τ4=>cases hl;exact fun S4 M4 σ4 H4 f4 k4=>q S4 M4 σ4 H4 f4 (k1.trans k4)
   |rt d τ4=>cases hl;exact fun S4 M4 σ4 H4 v f4 k4=>q S4 M4 σ4 H4 v f4 k4
def fin:List L->DS->Option (List L)
 |[],_=>some []
 |.d x::ls,_::τ=>(fin ls τ).map (.d x::·)
 |.c x::ls,_::τ=>(fin ls τ).map (.c x::·)
 |.m _::ls,some (.m xs)::τ=>(fin ls τ).map (.m xs::·)
 |.k _::ls,some (.k xs)::τ=>(fin ls τ).map (.k xs::·)
 |_,_=>none
def Ab(fr:Bool)(np nl:Nat)(b:DB)(ls:List L):Option (PyData×List L):=if ls.length=np then (b (ls.map some++List.replicate nl none)).bind fun o=>match o with
  |.nx τ=>if fr=true then none else (fin ls τ).map fun ls'=>(.none,ls')
  |.rt d τ=>(fin ls τ).map fun ls'=>(d,ls')
  |_=>none
 else none
theorem Ee:∀{ls:List L} {τ:DS} {ls':List L} {i:Nat} {l:L},fin ls τ=some ls'->ls'[i]?=some l->match l with
  |.d x=>ls[i]?=some (.d x)
  |.c x=>ls[i]?=some (.c x)
  |.m xs=>(∃ys,ls[i]?=some (.m ys))/\τ[i]?=some (some (.m xs))
  |.k xs=>(∃ys,ls[i]?=some (.k ys))/\τ[i]?=some (some (.k xs))
  |.g _=>False
 |[],_,_,_,_,h,e=>by cases h;simp at e
 |.d x::ls,o::τ,_,i,l,h,e=>by
  obtain⟨zs,h1,h⟩:=oM h
  subst h
  cases i with
  |zero=>cases e;rfl
  |succ i =>
   have:=Ee (i:=i) (l:=l) h1 (by simpa using e)
   cases l<;>simpa using this
 |.c x::ls,o::τ,_,i,l,h,e=>by
  obtain⟨zs,h1,h⟩:=oM h
  subst h
  cases i with
  |zero=>cases e;rfl
  |succ i =>
   have:=Ee (i:=i) (l:=l) h1 (by simpa using e)
   cases l<;>simpa using this
 |.m x::ls,some (.m xs)::τ,_,i,l,h,e=>by
  obtain⟨zs,h1,h⟩:=oM h
  subst h
  cases i with
  |zero=>cases e;exact⟨⟨_,rfl⟩,rfl⟩
  |succ i =>
   have:=Ee (i:=i) (l:=l) h1 (by simpa using e)
   cases l<;>simpa using this
 |.k x::ls,some (.k xs)::τ,_,i,l,h,e=>by
  obtain⟨zs,h1,h⟩:=oM h
  subst h
  cases i with
  |zero=>cases e;exact⟨⟨_,rfl⟩,rfl⟩
  |succ i =>
   have:=Ee (i:=i) (l:=l) h1 (by simpa using e)
   cases l<;>simpa using this
theorem Iw:∀{ls:List L} {τ:DS} {ls':List L},fin ls τ=some ls'->ls'.length=ls.length
 |[],_,_,h=>by cases h;rfl
 |.d x::ls,o::τ,_,h=>by
  obtain⟨zs,h1,h⟩:=oM h
  subst h
  rw[List.length_cons,List.length_cons,Iw h1]
 |.c x::ls,o::τ,_,h=>by
  obtain⟨zs,h1,h⟩:=oM h
  subst h
  rw[List.length_cons,List.length_cons,Iw h1]
 |.m x::ls,some (.m xs)::τ,_,h=>by
  obtain⟨zs,h1,h⟩:=oM h
  subst h
  rw[List.length_cons,List.length_cons,Iw h1]
 |.k x::ls,some (.k xs)::τ,_,h=>by
  obtain⟨zs,h1,h⟩:=oM h
  subst h
  rw[List.length_cons,List.length_cons,Iw h1]
theorem Mb:∀{ls:List L} {τ:DS} {ls':List L},fin ls τ=some ls'->∀(i:Nat) (d:PyData),ls[i]?≠some (.g d)
 |[],_,_,_,i,d=>by simp
 |.d x::ls,o::τ,_,h,i,d=>by
  obtain⟨zs,h1,h⟩:=oM h
  cases i with
  |zero=>simp
  |succ i=>simpa using Mb h1 i d
 |.c x::ls,o::τ,_,h,i,d=>by
  obtain⟨zs,h1,h⟩:=oM h
  cases i with
  |zero=>simp
  |succ i=>simpa using Mb h1 i d
 |.m x::ls,some (.m xs)::τ,_,h,i,d=>by
  obtain⟨zs,h1,h⟩:=oM h
  cases i with
  |zero=>simp
  |succ i=>simpa using Mb h1 i d
 |.k x::ls,some (.k xs)::τ,_,h,i,d=>by
  obtain⟨zs,h1,h⟩:=oM h
  cases i with
  |zero=>simp
  |succ i=>simpa using Mb h1 i d
theorem Nc{ls:List L}{τ:DS}{ls':List L}{i:Nat}{x:Ow}(h:fin ls τ=some ls')(e:ls'[i]?=some x.L):(∃ys:Ow,ls[i]?=some ys.L)/\τ[i]?=some (some x.L):=by
 cases x with
 |l xs=>obtain⟨⟨ys,h1⟩,h2⟩:=Ee h e;exact⟨⟨.l ys,h1⟩,h2⟩
 |t xs=>obtain⟨⟨ys,h1⟩,h2⟩:=Ee h e;exact⟨⟨.t ys,h1⟩,h2⟩
theorem CB{α β:Type}{f:α->β}{xs:List α}{i:Nat}{y:β}(h:(xs.map f)[i]?=some y):∃x,xs[i]?=some x/\f x=y:=by
 rw[List.getElem?_map]at h
 cases e:xs[i]? with
 |none=>rw[e]at h;cases h
 |some x=>rw[e]at h;exact⟨x,rfl,Option.some.inj h⟩
theorem Yi{G:List L->Option (PyData×List L)}{fr:Bool}{vs:List V}{H:Hp}{Q:VK}{X:XK}{np:Nat}(hG:∀ls r,G ls=some r->ls.length=np)(h:spD K G fr vs H Q X):vs.length=np:=by
 obtain⟨S,M,ls,r,ls',hR,e,_⟩:=h
 have:=hR.len
 rw[List.length_map,List.length_map]at this
 rw[this,hG _ _ e]
theorem Oz{fr:Bool}{np nl:Nat}{b:DB}:∀ls r,Ab fr np nl b ls=some r->ls.length=np:=fun ls r h=>by
 unfold Ab at h
 split at h
 ·assumption
 ·cases h
theorem Yh{np nl:Nat}{t:TS}{fr:Bool}{b:DB}{N:List Str}{vs:List V}{H:Hp}{Q:VK}{X:XK}(hb:B K np t fr b)(hN:N.length=np+nl)(h:spD K (Ab fr np nl b) fr vs H Q X):t { nx:=fun _ H'=>Q .non H',rt:=Q } (L2.start N vs) H:=by
 obtain⟨S,M,ls,r,ls',hR,e,q⟩:=h
 have hlen:=Oz _ _ e
 have hvl:vs.length=ls.length:=by have:=hR.len;rw[List.length_map,List.length_map]at this;exact this
 unfold Ab at e
 rw[if_pos hlen]at e
 obtain⟨o,e1,e⟩:=oB e
 have est:L2.start N vs=vs.map some++List.replicate nl none:=by
  unfold L2.start
  rw[hN,hvl,hlen,Nat.add_sub_cancel_left]
 rw[est]
 -- the entry
 have lsm:∀(i:Nat) (l:L),(ls.map some++List.replicate nl none:DS)[i]?=some (some l)->ls[i]?=some l:=fun i l h=>by
  by_cases hi:i<ls.length
  ·rw[List.getElem?_append_left (by rw[List.length_map];exact hi)]at h
   obtain⟨x,h1,h2⟩:=CB h
   cases h2;exact h1
  ·rw[List.getElem?_append_right (by rw[List.length_map];omega),List.getElem?_replicate]at h
   split at h<;>cases h
 have vsm:∀(i:Nat) (v:V),(vs.map some)[i]?=some (some v)->(vs.map some++List.replicate nl none:St)[i]?=some (some v):=fun i v h=>by
  rw[List.getElem?_append_left (List.getElem?_eq_some_iff.mp h).1];exact h
 have vsb:∀(i:Nat) (v:V),(vs.map some++List.replicate nl none:St)[i]?=some (some v)->(vs.map some)[i]?=some (some v):=fun i v h=>by
  by_cases hi:i<(vs.map some).length
  ·rw[List.getElem?_append_left hi]at h;exact h
  ·rw[List.getElem?_append_right (by omega),List.getElem?_replicate]at h
   split at h<;>cases h
 have lm:∀(i:Nat) (l:L),ls[i]?=some l->(ls.map some)[i]?=some (some l):=fun i l h=>by rw[List.getElem?_map,h];rfl
 let Mx:Addr->Prop:=fun a=>∃(i:Nat) (xs:Ow),ls[i]?=some xs.L/\vs[i]?=some (.ref a)
 let ar:List (Option V):=(ls.zip vs).map fun p=>match p.1 with
  |.m _=>some p.2
  |.k _=>some p.2
  |_=>none
 have arg:∀(i:Nat) (v:V),ar[i]?=some (some v)->∃xs:Ow,ls[i]?=some xs.L/\vs[i]?=some v:=fun i v h=>by
  obtain⟨⟨l,u⟩,h1,h2⟩:=CB h
  rw[List.getElem?_zip_eq_some]at h1
  cases l with
  |d x=>cases h2
  |c x=>cases h2
  |m xs=>cases h2;exact⟨.l xs,h1.1,h1.2⟩
  |k xs=>cases h2;exact⟨.t xs,h1.1,h1.2⟩
  |g x=>cases h2
 have gar:∀(i:Nat) (xs:Ow) (v:V),ls[i]?=some xs.L->vs[i]?=some v->ar[i]?=some (some v):=fun i xs v h1 h2=>by
  show((ls.zip vs).map _)[i]?=_
  rw[List.getElem?_map,(List.getElem?_zip_eq_some (z:=(xs.L,v))).mpr ⟨h1,h2⟩]
  cases xs<;>rfl
 have Msub:∀a,Mx a->M a:=fun a ⟨i,xs,h1,h2⟩=>by
  obtain⟨b',us,h3,h4,_⟩:=hR.mt i xs (lm i _ h1)
  rw[List.getElem?_map,h2]at h3
  cases h3;exact h4
 have hng:∀(i:Nat) (d:PyData),ls[i]?≠some (.g d):=by
  cases o with
  |nx τ' =>
   cases fr with
   |false=>obtain⟨ls1,e2,_⟩:=oM e;exact Mb e2
   |true=>cases e
  |bk τ'=>cases e
  |ct τ'=>cases e
  |rt d τ'=>obtain⟨ls1,e2,_⟩:=oM e;exact Mb e2
 have f0:RF K ⟨S,Mx,H,ar⟩ S Mx (ls.map some++List.replicate nl none) (vs.map some++List.replicate nl none) H:=by
  refine ⟨⟨by simp [hvl], fun i x h => ?_, fun i x h => ?_, fun i x h => ?_, fun i j xs ys a h1 h2 h3 h4 => hR.inj i j xs ys a (lm _ _ (lsm _ _ h1)) (lm _ _ (lsm _ _ h2)) (vsb _ _ h3) (vsb _ _ h4), fun a h => hR.sub a (Msub a h), hR.ex, GR.nil fun i d h => hng i d (lsm i _ h)⟩,
   fun a h=>h,fun b o h _=>h,fun a h=>.inl h,fun a h=>h,hR.ex,fun a h=>hR.sub a (Msub a h),fun a h=>.inl h,fun i v h=>?_,fun i v h=>?_,fun a ⟨i,xs,h1,h2⟩=>⟨i,gar i xs _ h1 h2⟩⟩
  ·obtain⟨v,h1,h2⟩:=hR.dat i x (lm _ _ (lsm _ _ h))
   exact⟨v,vsm _ _ h1,h2⟩
  ·obtain⟨a,us,h1,h2,h3,h4⟩:=hR.mt i x (lm _ _ (lsm _ _ h))
   refine⟨a,us,vsm _ _ h1,⟨i,x,lsm _ _ h,?_⟩,h3,h4⟩
   obtain⟨v,h5,h6⟩:=CB h1
   cases h6;exact h5
  ·obtain⟨a,us,h1,h2⟩:=hR.cst i x (lm _ _ (lsm _ _ h))
   exact⟨a,us,vsm _ _ h1,h2⟩
  ·obtain⟨xs,h1,h2⟩:=arg i v h
   exact vsm _ _ (by rw[List.getElem?_map,h2];rfl)
  ·obtain⟨xs,h1,h2⟩:=arg i v h
   refine⟨xs,?_⟩
   rw[List.getElem?_append_left (by rw[List.length_map];exact(List.getElem?_eq_some_iff.mp h1).1)]
   exact lm _ _ h1
 have hnp:ar.length<=np:=by
  show((ls.zip vs).map _).length<=np
  rw[List.length_map,List.length_zip]
  omega
 -- the end
 have done:∀{S' M' τ' σ' H' d v} {ls1:List L},RF K ⟨S,Mx,H,ar⟩ S' M' τ' σ' H'->fin ls τ'=some ls1->(r,ls')=(d,ls1)->Res K fr S H H' d v->Q v H':=fun {S' M' τ' σ' H' d v ls1} f hf er res=>by
  cases er
  have k:Keep S H S H':=fun b o hn e=>⟨hn,f.old b o e fun z=>hn (hR.sub b (Msub b z))⟩
  refine q v H' ⟨?_,fun i x h=>?_,fun i x h=>?_,fun i x h=>?_,fun i j xs ys a h1 h2 h3 h4=>?_,hR.sub,fun a h=>f.r.ex a (f.sS a h),GR.nil fun i d h=>?_⟩ (fun b o hn e=>f.old b o e fun z=>hn (Msub b z)) res
  ·rw[List.length_map,List.length_map,Iw hf,hvl]
  ·obtain⟨l,h1,h2⟩:=CB h
   cases h2
   have:=Ee hf h1
   obtain⟨v,h3,h4⟩:=hR.dat i x (lm _ _ this)
   exact⟨v,h3,h4.mono k.same⟩
  ·obtain⟨l,h1,h2⟩:=CB h
   cases h2
   obtain⟨⟨ys,h3⟩,h4⟩:=Nc hf h1
   obtain⟨a,us,h5,h6,h7,h8⟩:=f.r.mt i x h4
   obtain⟨b,ws,g1,g2,_⟩:=hR.mt i ys (lm _ _ h3)
   obtain⟨u,g3,g4⟩:=CB g1
   cases g4
   have:=f.par i _ (gar i ys _ h3 g3)
   rw[h5]at this;cases this
   exact⟨a,us,g1,g2,h7,h8.mono (E1 f.sS)⟩
  ·obtain⟨l,h1,h2⟩:=CB h
   cases h2
   have:=Ee hf h1
   obtain⟨a,us,h3,h4,h5⟩:=hR.cst i x (lm _ _ this)
   exact⟨a,us,h3,k.same.seq h4,h5.mono k.same⟩
  ·obtain⟨l1,g1,g2⟩:=CB h1
   obtain⟨l2,g3,g4⟩:=CB h2
   cases g2;cases g4
   obtain⟨⟨zs,h5⟩,_⟩:=Nc hf g1
   obtain⟨⟨ws,h6⟩,_⟩:=Nc hf g3
   exact hR.inj i j zs ws a (lm _ _ h5) (lm _ _ h6) h3 h4
  ·obtain⟨l,h1,h2⟩:=CB h
   cases h2
   exact Ee hf h1
 refine hb ⟨S,Mx,H,ar⟩ S Mx _ _ H _ o hnp f0 e1 ?_
 cases o with
 |nx τ' =>
  cases fr with
  |false =>
   obtain⟨ls1,e2,e⟩:=oM e
   intro S' M' σ' H' f k
   exact done f e2 e.symm rfl
  |true=>cases e
 |bk τ'=>cases e
 |ct τ'=>cases e
 |rt d τ' =>
  obtain⟨ls1,e2,e⟩:=oM e
  intro S' M' σ' H' v f res
  exact done f e2 e.symm res
end DL
end
section
namespace DL
open PySem L2 PyProof.Rows
variable {K:KW}
def Au:List PyData->Option PyData
 |[.list xs]=>some (.int xs.length)
 |[.tuple xs]=>some (.int xs.length)
 |[.str x]=>if x.length<=sizeLine then some (.int x.length) else none
 |_=>none
theorem XM:BR K false (fun xs H Q=>∃x n,xs=[x]/\R9 K x H n/\Q (.int n) H) Au:=by
 intro S H vs ds d Q _ l e q
 unfold Au at e
 split at e
 ·cases e
  obtain⟨v,us,rfl,⟨a,ws,rfl,h,lw⟩,iu⟩:=l
  cases (show us=[] from iu)
  exact⟨_,ws.length,rfl,.inl ⟨ws,SqL.of (hid_iff.mp h).2,rfl⟩,q _ H (fun _ _ e=>e) (by rw[lw.length];rfl)⟩
 ·cases e
  obtain⟨v,us,rfl,⟨a,ws,rfl,h,lw⟩,iu⟩:=l
  cases (show us=[] from iu)
  exact⟨_,ws.length,rfl,.inr ⟨ws,Same.tup same_hid h,rfl⟩,q _ H (fun _ _ e=>e) (by rw[lw.length];rfl)⟩
 ·split at e
  ·rename_i hz
   cases e
   obtain⟨v,us,rfl,iv,iu⟩:=l
   cases (show us=[] from iu)
   cases (show v = .str _ from iv)
   exact⟨_,_,rfl,⟨hz,rfl⟩,q _ H (fun _ _ e=>e) rfl⟩
  ·cases e
 ·cases e
def f1(g:Int->Int):List PyData->Option PyData
 |[.int i]=>some (.int (g i))
 |_=>none
def f2(g:Int->Int->Int):List PyData->Option PyData
 |[.int i,.int j]=>some (.int (g i j))
 |_=>none
theorem c_1{g:Int->Int}:BR K false (fun xs H Q=>∃i,xs=[.int i]/\Q (.int (g i)) H) (f1 g):=by
 intro S H vs ds d Q _ l e q
 unfold f1 at e
 split at e
 ·cases e
  obtain⟨v,us,rfl,iv,iu⟩:=l
  cases (show us=[] from iu)
  cases (show v = .int _ from iv)
  exact⟨_,rfl,q _ H (fun _ _ e=>e) rfl⟩
 ·cases e
theorem c_2{g:Int->Int->Int}:BR K false (fun xs H Q=>∃i j,xs=[.int i,.int j]/\Q (.int (g i j)) H) (f2 g):=by
 intro S H vs ds d Q _ l e q
 unfold f2 at e
 split at e
 ·cases e
  obtain⟨v,us,rfl,iv,w,us',rfl,iw,iu⟩:=l
  cases (show us'=[] from iu)
  cases (show v = .int _ from iv)
  cases (show w = .int _ from iw)
  exact⟨_,_,rfl,q _ H (fun _ _ e=>e) rfl⟩
 ·cases e
def Hm:=f1 fun i=>if i<0 then -i else i
def FT:=f2 fun i j=>if j>i then j else i
def FR:=f2 fun i j=>if j<i then j else i
theorem dD:BR K false (fun xs H Q=>∃i,xs=[.int i]/\Q (.int (if i<0 then -i else i)) H) Hm:=c_1
theorem Zm:BR K false (fun xs H Q=>∃i j,xs=[.int i,.int j]/\Q (.int (if j>i then j else i)) H) FT:=c_2
theorem Zl:BR K false (fun xs H Q=>∃i j,xs=[.int i,.int j]/\Q (.int (if j<i then j else i)) H) FR:=c_2
def Dt:List PyData->Option PyData
 |[.int i]=>some (.int i)
 |[.bool b]=>some (.int (if b then 1 else 0))
 |_=>none
theorem Zo:BR K false (fun xs H Q=>(∃i,xs=[.int i]/\Q (.int i) H)\/∃k,xs=[.bl k]/\Q (.int (if k then 1 else 0)) H) Dt:=by
 intro S H vs ds d Q _ l e q
 unfold Dt at e
 split at e
 ·cases e
  obtain⟨v,us,rfl,iv,iu⟩:=l
  cases (show us=[] from iu)
  cases (show v = .int _ from iv)
  exact .inl ⟨_,rfl,q _ H (fun _ _ e=>e) rfl⟩
 ·cases e
  obtain⟨v,us,rfl,iv,iu⟩:=l
  cases (show us=[] from iu)
  cases (show v = .bl _ from iv)
  exact .inr ⟨_,rfl,q _ H (fun _ _ e=>e) rfl⟩
 ·cases e
def Bq:List PyData->Option PyData
 |[.list xs]=>some (.list xs)
 |[.tuple xs]=>some (.list xs)
 |_=>none
theorem Zn:BR K true (fun xs H Q=>∃p ys,xs=[.ref p]/\(SqL K H p ys\/SqT K H p ys)/\∀l,H l=none->Q (.ref l) (upd H l (.lst ys))) Bq:=by
 intro S H vs ds d Q _ l e q
 unfold Bq at e
 split at e
 ·cases e
  obtain⟨v,us,rfl,⟨a,ws,rfl,h,lw⟩,iu⟩:=l
  cases (show us=[] from iu)
  exact⟨a,ws,rfl,.inl (SqL.of (hid_iff.mp h).2),fun p hp=>q _ _ (Ax hp _) (Ie hp lw)⟩
 ·cases e
  obtain⟨v,us,rfl,⟨a,ws,rfl,h,lw⟩,iu⟩:=l
  cases (show us=[] from iu)
  exact⟨a,ws,rfl,.inr (Same.tup same_hid h),fun p hp=>q _ _ (Ax hp _) (Ie hp lw)⟩
 ·cases e
def tyN:PyData->String
 |.none=>"NoneType"
 |.bool _=>"bool"
 |.int _=>"int"
 |.str _=>"str"
 |.list _=>"list"
 |.tuple _=>"tuple"
 |.dict _=>"dict"
def Xt(K:KW):List V->Hp->VK->Prop:=fun xs H Q=>∃x T d b,xs=[x,.ty T]/\Is K H d x/\PySem.W.kitOne K (.type (tyN d)) (.type T)=some b/\Q (.bl b) H
theorem R4{X:Cx}:DC X (.builtin "isinstance") (Xt (Gf X)):=by
 intro pins s σ H xs us Q I r h
 obtain⟨x,T,d,b,rfl,ix,k,q⟩:=h
 obtain⟨u,w',rfl,rx,rT⟩:=SR r
 cases (show w'=Value.type T from rT)
 have fin:∀tk,EP X pins σ Q (.bool b) { s with toks:=tk }:=fun tk=>⟨.bl b,H,I.tok _,rfl,q⟩
 cases d with
 |none=>cases (show x = .non from ix);exact Fv I rx .non k fin
 |bool y=>cases (show x = .bl y from ix);exact Fv I rx (.bl y) k fin
 |int y=>cases (show x = .int y from ix);exact Fv I rx (.int y) k fin
 |str y=>cases (show x = .str y from ix);exact Fv I rx (.str y) k fin
 |list y=>obtain⟨a,vs,rfl,h,_⟩:=ix;exact Fv I rx (.lst h) k fin
 |tuple y =>
  obtain⟨a,vs,rfl,h,_⟩:=ix
  cases (show u=Value.ref a from rx)
  obtain⟨its,_,⟨o,h1,h2,_⟩,_⟩:=I.tuple h
  exact PySem.W.kia_one PySem.W.kitx_tuple I.kIn ⟨o,h1,h2⟩ k (fun z=>nomatch z) fin
 |dict y =>
  obtain⟨a,ts,rfl,⟨ep,h⟩,_⟩:=ix
  cases (show u=Value.ref a from rx)
  obtain⟨⟨_,_,_,xs,pr,o,es,ho,he,hd,hes⟩,_,_⟩:=(show ObjOk X.prog X.w H s.heap a (.ext (VO a ts ep)) from I.hok a _ h)
  exact PySem.W.kia_one PySem.W.kitx_dict I.kIn ⟨o,ho,he.1⟩ k (fun z=>nomatch z) fin
def bM(T t:String):Bool:=t==T||(T=="int"&&t=="bool")
def Vn(T:String)(d:PyData):Bool:=bM T (tyN d)
def Xi(T:String):Bool:=["int","bool","str","list","tuple"].contains T
theorem Ri{T t:String}(hT:T∈["int","bool","str","list","tuple"])(ht:t∈["NoneType","bool","int","str","list","tuple","dict"]):PySem.W.kitOne K (.type t) (.type T)=some (bM T t):=by
 simp only[List.mem_cons,List.not_mem_nil,or_false]at hT ht
 rcases hT with rfl|rfl|rfl|rfl|rfl<;>rcases ht with rfl|rfl|rfl|rfl|rfl|rfl|rfl<;>first
  |exact T1 _
  |exact YN (by decide +kernel) (by decide +kernel) (by decide +kernel)
theorem Vj{T:String}{d:PyData}(h:Xi T=true):PySem.W.kitOne K (.type (tyN d)) (.type T)=some (Vn T d) :=
 Ri (by simpa[Xi] using h) (by cases d<;>simp[tyN])
def DH(T:String)(a:DX)(τ:DS):Option (PyData×DS):=(a τ).bind fun p=>if Xi T then some (.bool (Vn T p.1),p.2) else none
theorem bq{T:String}{fr:Bool}{t:TE}{a:DX}(ha:E K t fr a):E K (tCB (Xt K) (CJ t (CJ (tC (.ty T)) FG))) false (DH T a):=by
 refine⟨fun τ d τ' e=>?_,?_⟩
 ·unfold DH at e
  obtain⟨⟨x,τ1⟩,e1,e⟩:=oB e
  split at e
  ·cases e;exact ha.like _ _ _ e1
  ·cases e
 intro S M τ σ H Q d τ' r e q
 unfold DH at e
 obtain⟨⟨x,τ1⟩,e1,e⟩:=oB e
 split at e
 ·rename_i hT
  cases e
  refine ha.weak.run S M τ σ H _ x _ r e1 fun v H1 r1 c1 i1=>?_
  exact⟨v,T,x,_,rfl,Is.mono same_hid i1,Vj hT,q _ H1 r1 c1 rfl⟩
 ·cases e
def Br(i j:Nat)(a:DA)(τ:DS):Option Out:=(a τ).bind fun p=>(BC p.1).bind fun ds=>match ds with
 |[x,y]=>(dN i x p.2).bind fun τ1=>(dN j y τ1).map .nx
 |_=>none
theorem dH{np:Nat}{fr:Bool}{i j:Nat}{ta:TA}{a:DA}(ha:A K ta a):B K np (aN i j ta) fr (Br i j a):=by
 intro F S M τ σ H D out hnp f ee q
 unfold Br at ee
 obtain⟨⟨x,τ1⟩,e1,ee⟩:=oB ee
 obtain⟨ds,e2,ee⟩:=oB ee
 split at ee
 ·rename_i x y
  obtain⟨τ2,e3,ee⟩:=oB ee
  obtain⟨τ3,e4,ee⟩:=oM ee
  cases ee
  refine ha.run S M τ σ H _ _ τ1 f.r e1 fun vs H1 r1 c1 i1=>?_
  obtain⟨v,us,rfl,iv,w,us',rfl,iw,iu⟩:=DR i1 e2
  cases (show us'=[] from iu)
  refine⟨v,w,rfl,?_⟩
  have f1:=f.step r1 c1 (ha.like _ _ _ e1)
  refine(E2 (K:=K) (i:=i)).run S M τ1 σ H1 v x τ2 (fun σ' H'=>D.nx (σ'.set j (some w)) H') r1 iv e3 fun σ2 r2 k2=>?_
  have f2:=f1.stay r2 ((E2 (K:=K) (i:=i)).ms _ _ _ e3) k2
  refine(E2 (K:=K) (i:=j)).run S M τ2 σ2 H1 w y τ3 (fun σ' H'=>D.nx σ' H') r2 iw e4 fun σ3 r3 k3=>?_
  exact q S M σ3 H1 (f2.stay r3 ((E2 (K:=K) (i:=j)).ms _ _ _ e4) k3) (c1.keep f.r.sub)
 ·cases ee
end DL
end
section
namespace DL
open PySem L2
variable {K:KW}
def C7(i:Nat)(f:DT)(τ:DS):Option (Bool×DS):=match τ[i]? with
 |some (some (.m xs))=>(f (τ.set i (some (.d (.list xs))))).bind fun q=>if q.2.all okM then some (q.1,q.2.set i (some (.m xs))) else none
 |some (some (.k xs))=>(f (τ.set i (some (.d (.dict (MF xs)))))).bind fun q=>if q.2.all okM then some (q.1,q.2.set i (some (.k xs))) else none
 |_=>none
theorem LY{i:Nat}{f:DT}{τ:DS}{d:Bool}{τ':DS}(e:C7 i f τ=some (d,τ')):∃w τ1,τ[i]?=some (some (Ow.L w))/\f (τ.set i (some (.d w.D)))=some (d,τ1)/\τ1.all okM=true/\τ'=τ1.set i (some w.L):=by
 unfold C7 at e
 split at e
 ·rename_i xs hx
  obtain⟨⟨z,τ1⟩,e1,e⟩:=oB e
  dsimp only at e
  split at e
  ·rename_i h
   cases e
   exact⟨.l xs,τ1,hx,e1,h,rfl⟩
  ·cases e
 ·rename_i xs hx
  obtain⟨⟨z,τ1⟩,e1,e⟩:=oB e
  dsimp only at e
  split at e
  ·rename_i h
   cases e
   exact⟨.t xs,τ1,hx,e1,h,rfl⟩
  ·cases e
 ·cases e
theorem aK{i:Nat}{t:TT}{f:DT}(h:T K t f):T K t (C7 i f):=by
 refine⟨fun τ d τ' e=>?_,?_⟩
 ·obtain⟨xs,τ1,e1,e2,_,rfl⟩:=LY e
  exact OY e1 (h.like _ _ _ e2)
 intro S M τ σ H Q d τ' r e q
 obtain⟨xs,τ1,e1,e2,ok,rfl⟩:=LY e
 obtain⟨p,us,hp,hM,hl,ll⟩:=r.mt i xs e1
 refine h.run _ _ _ σ H _ d τ1 (frz r e1 hp) e2 fun H' r' c=>?_
 exact q H' (Wn r e1 hp r' (h.like _ _ _ e2) c ok) (fun b o hn e=>c b o (fun z=>hn z.1) e)
def Bp(τ:DS):Option (Bool×DS):=some (true,τ)
theorem aI:T K aM Bp:=by
 refine⟨fun τ d τ' e=>?_,?_⟩
 ·cases e;exact .refl
 intro S M τ σ H Q d τ' r e q
 cases e
 exact q H r .refl
def Tw(N':List Str)(own:Nat)(fr:List Nat)(scope:Scope)(N:List Str)(sc:Scope):Bool :=
 (scope.kind==.function)&&decide (N'.length=own+fr.length)&&(scope.names.all fun y=>y.2 != .cell)&&(scope.names.all fun y=>y.2 != .local||scope.names.lookup y.1==some .local) &&
 (scope.names.all fun y=>y.2 != .free||sc.names.lookup y.1==some .cell||sc.names.lookup y.1==some .free) &&
 (fr.zipIdx.all fun p=>match N'[own+p.2]?,N[p.1]? with|some x,some y=>decide (x=y)&&scope.names.lookup x==some .free|_,_=>false)
theorem W8{X:Cx}{N':List Str}{own:Nat}{fr:List Nat}{scope:Scope}{N:List Str}{sc:Scope}(hN:X.N=N)(hs:X.env.scope=sc)(h:Tw N' own fr scope N sc=true):QC X N' own fr scope:=by
 unfold Tw at h
 simp only[Bool.and_eq_true]at h
 obtain⟨⟨⟨⟨⟨h1,h2⟩,h3⟩,h4⟩,h5⟩,h6⟩:=h
 subst hN hs
 refine⟨eq_of_beq h1,of_decide_eq_true h2,fun y hy=>?_,fun y hy e=>?_,fun x hx=>?_,fun k j e=>?_⟩
 ·have:=List.all_eq_true.mp h3 y hy
  intro z
  rw[z]at this
  simp at this
 ·have:=List.all_eq_true.mp h4 y hy
  rw[e]at this
  simpa using this
 ·have:=List.all_eq_true.mp h5 _ hx
  simpa using this
 ·have hm:(j,k)∈fr.zipIdx:=by
   rw[List.mem_zipIdx_iff_getElem?]
   exact e
  have:=List.all_eq_true.mp h6 _ hm
  dsimp only at this
  split at this
  ·rename_i x y hx hy
   rw[Bool.and_eq_true]at this
   have e1:x=y:=of_decide_eq_true this.1
   subst e1
   exact⟨x,hx,hy,eq_of_beq this.2⟩
  ·cases this
end DL
end
section
namespace DL
open PySem L2
theorem Ak{τ:DS}:fin [] τ=some []:=by cases τ<;>rfl
theorem BU{x:PyData}{ls:List L}{o:Option L}{τ:DS}:fin (.d x::ls) (o::τ)=(fin ls τ).map (.d x::·):=rfl
theorem BV{x:List PyData}{ls:List L}{o:Option L}{τ:DS}:fin (.c x::ls) (o::τ)=(fin ls τ).map (.c x::·):=rfl
theorem BS{x xs:List PyData}{ls:List L}{τ:DS}:fin (.m x::ls) (some (.m xs)::τ)=(fin ls τ).map (.m xs::·):=rfl
theorem AR{fr:Bool}{np nl:Nat}{b:DB}{ls ls':List L}{d:PyData}{τ:DS}(h:b (ls.map some++List.replicate nl none)=some (.rt d τ))(hl:ls.length=np)(hf:fin ls τ=some ls'):Ab fr np nl b ls=some (d,ls'):=by
 unfold Ab
 rw[if_pos hl,h]
 show(fin ls τ).map _=_
 rw[hf]
 rfl
theorem AH{a b:DB}{τ τ1:DS}(h:a τ=some (.nx τ1)):AK a b τ=b τ1:=by
 unfold AK
 rw[h]
 rfl
theorem A7{a b:DB}{τ τ1:DS}{d:PyData}(h:a τ=some (.rt d τ1)):AK a b τ=some (.rt d τ1):=by
 unfold AK
 rw[h]
 rfl
theorem AV{e:DX}{g:DG}{τ τ1 τ2:DS}{d:PyData}(h:e τ=some (d,τ1))(k:g d τ1=some τ2):AL e g τ=some (.nx τ2):=by
 unfold AL
 rw[h]
 show(g d τ1).map _=_
 rw[k]
 rfl
theorem Ae{e:DX}{τ τ1:DS}{d:PyData}(h:e τ=some (d,τ1)):AN e τ=some (.rt d τ1):=by
 unfold AN
 rw[h]
 rfl
theorem BK{c:DT}{a b:DB}{τ τ1:DS}(h:c τ=some (true,τ1)):AQ c a b τ=a τ1:=by
 unfold AQ
 rw[h]
 rfl
theorem Ah{c:DT}{a b:DB}{τ τ1:DS}(h:c τ=some (false,τ1)):AQ c a b τ=b τ1:=by
 unfold AQ
 rw[h]
 rfl
theorem AI{G:List L->Option (PyData×List L)}{a:DA}{τ τ1:DS}{rs:List Ar}{ds:List PyData}{r:PyData}{ls:List L}(h:a τ=some (rs,τ1))(k:BC rs=some ds)(g:G (ds.map L.d)=some (r,ls)):AF G a τ=some (r,τ1):=by
 unfold AF
 rw[h]
 show(BC rs).bind _=_
 rw[k]
 show(G (ds.map L.d)).map _=_
 rw[g]
 rfl
theorem HF{i:Nat}{G:List L->Option (PyData×List L)}{a:DA}{τ τ1:DS}{rs:List Ar}{ds:List PyData}{r:PyData}{ls:List L}{xs:List PyData}(h:a τ=some (rs,τ1))(k:BC rs=some ds)(m:τ1[i]?=some (some (.c xs)))(g:G (.c xs::ds.map L.d)=some (r,ls)):Af i G a τ=some (r,τ1):=by
 unfold Af
 rw[h]
 show(BC rs).bind _=_
 rw[k]
 show(match τ1[i]? with|some (some (.c xs))=>_|_=>_)=_
 rw[m]
 show(G (.c xs::ds.map L.d)).map _=_
 rw[g]
 rfl
theorem C6{it:DI}{g:DG}{b:DB}{τ τ1:DS}{ds:List PyData}(h:it τ=some (ds,τ1)):Cp it g b τ=BO g b ds τ1:=by
 unfold Cp
 rw[h]
 rfl
theorem MV{α:Type}{enc:α->PyData}{g:DG}{b:DB}(J:List α->DS->Prop):∀{xs pre:List α} {τ:DS},J pre τ->(∀x pre τ,x∈xs->J pre τ->∃τ1 τ2,g (enc x) τ=some τ1/\b τ1=some (.nx τ2)/\J (pre++[x]) τ2)->∃τ',BO g b (xs.map enc) τ=some (.nx τ')/\J (pre++xs) τ'
 |[],pre,τ,h0,_=>⟨τ,rfl,by rw[List.append_nil];exact h0⟩
 |x::xs,pre,τ,h0,h=>by
  obtain⟨τ1,τ2,e1,e2,h1⟩:=h x pre τ List.mem_cons_self h0
  obtain⟨τ',e3,h3⟩:=MV J (xs:=xs) (pre:=pre++[x]) (τ:=τ2) h1 (fun y p t hy hj=>h y p t (List.mem_cons_of_mem _ hy) hj)
  refine⟨τ',?_,by rw[List.append_assoc]at h3;exact h3⟩
  rw[List.map_cons,BO,e1]
  show(b τ1).bind _=_
  rw[e2]
  exact e3
theorem NP{α:Type}{enc:α->PyData}{g:DG}{c:DT}{e:DX}(J:DS->Prop)(p:α->Bool)(f:α->PyData):∀{xs:List α} {acc:List PyData} {τ:DS},J τ ->
  (∀x τ,x∈xs->J τ->∃τ1 τ2,g (enc x) τ=some τ1/\c τ1=some (p x,τ2)/\(p x=false->J τ2)/\(p x=true->∃τ3,e τ2=some (f x,τ3)/\J τ3))->∃τ',EC g c e (xs.map enc) acc τ=some (acc++(xs.filter p).map f,τ')
 |[],acc,τ,h0,_=>⟨τ,by simp[EC]⟩
 |x::xs,acc,τ,h0,h=>by
  obtain⟨τ1,τ2,e1,e2,hf,ht⟩:=h x τ List.mem_cons_self h0
  have hr:∀y t,y∈xs->J t->_:=fun y t hy hj=>h y t (List.mem_cons_of_mem _ hy) hj
  cases hp:p x with
  |false =>
   obtain⟨τ',e3⟩:=NP J p f (xs:=xs) (acc:=acc) (τ:=τ2) (hf hp) hr
   refine⟨τ',?_⟩
   rw[List.map_cons,EC,e1]
   show(c τ1).bind _=_
   rw[e2,hp]
   show EC g c e (xs.map enc) acc τ2=_
   rw[e3,List.filter_cons,hp]
   rfl
  |true =>
   obtain⟨τ3,e4,h4⟩:=ht hp
   obtain⟨τ',e3⟩:=NP J p f (xs:=xs) (acc:=acc++[f x]) (τ:=τ3) h4 hr
   refine⟨τ',?_⟩
   rw[List.map_cons,EC,e1]
   show(c τ1).bind _=_
   rw[e2,hp]
   show(e τ2).bind _=_
   rw[e4]
   show EC g c e (xs.map enc) (acc++[f x]) τ3=_
   rw[e3,List.filter_cons,hp,List.append_assoc]
   rfl
theorem Yn{own:Nat}{fr:List Nat}{it:DI}{g:DG}{c:DT}{e:DX}{τ τ1 τb:DS}{ds acc:List PyData}(h:it τ=some (ds,τ1))(hz:ds.length<=sizeLine)(hm:(fr.all fun j=>!isM τ1 j)=true)(hl:EC g c e ds [] (Nk own fr τ1)=some (acc,τb)):dLC own fr it g c e τ=some (.list acc,τ1):=by
 unfold dLC
 rw[h]
 show(if ds.length<=sizeLine/\(fr.all fun j=>!isM τ1 j)=true then _ else _)=_
 rw[if_pos ⟨hz,hm⟩,hl]
 rfl
theorem sz{n:Nat}(h:n<=1000):n<=sizeLine:=Nat.le_trans h (by decide)
theorem sz'{n:Nat}(h:n<=1000):(n<=sizeLine)=True:=eq_true (sz h)
theorem Ud{m:Int}(h0:0<m)(h1:m<10 ^ 70):Bd 8000 m:=by
 have:Bd 240 m:=Bd.of (m:=10 ^ 70) (by omega) (by omega) (by decide)
 exact this.mono (by decide)
theorem UO{K:KW}{H:Hp}{a:Addr}{xs:List V}(h:SqL K H a xs):SqL K (hid (fun _=>False) H) a xs:=Same.seq (fun b o e=>hid_iff.mpr ⟨fun z=>z,e⟩) h
theorem Of{K:KW}{H:Hp}:∀ns:List Int,IsL K H (ns.map PyData.int) (ns.map V.int)
 |[]=>rfl
 |_::ns=>⟨_,_,rfl,rfl,Of ns⟩
structure Enc{α:Type}[DecidableEq α](enc:α->PyData):Prop where
 eqv:∀a b,PyData.eqv (enc a) (enc b)=decide (a=b)
 can:∀a,(enc a).canLay0=true
 dep:∀a,(enc a).depth<=20
 fix:∀a,DN (enc a)=true
section
variable {α:Type} [DecidableEq α] {enc:α->PyData}
theorem Enc.ok(h:Enc enc)(a:α):okD (enc a)=true:=by
 unfold okD SeqAt.shaped
 rw[Bool.and_eq_true]
 exact⟨h.can a,decide_eq_true (Nat.le_trans (h.dep a) (by decide))⟩
theorem Enc.canL(h:Enc enc):∀xs:List α,PyData.canLayAll0 (xs.map enc)=true
 |[]=>rfl
 |x::xs=>by
  rw[List.map_cons,PyData.canLayAll0,h.can,Enc.canL h xs];rfl
theorem Enc.depL(h:Enc enc):∀xs:List α,PyData.depthAll (xs.map enc)<=20
 |[]=>Nat.zero_le _
 |x::xs=>by
  rw[List.map_cons,PyData.depthAll]
  have:=h.dep x
  have:=Enc.depL h xs
  omega
theorem Enc.okL(h:Enc enc)(xs:List α):okD (.list (xs.map enc))=true:=by
 unfold okD SeqAt.shaped
 rw[Bool.and_eq_true,PyData.canLay0,PyData.depth]
 exact⟨h.canL xs,decide_eq_true (by have:=h.depL xs;omega)⟩
theorem Enc.eqvL(h:Enc enc):∀xs ys:List α,PyData.eqvAll (xs.map enc) (ys.map enc)=decide (xs=ys)
 |[],[]=>rfl
 |[],_::_=>rfl
 |_::_,[]=>rfl
 |x::xs,y::ys=>by
  rw[List.map_cons,List.map_cons,PyData.eqvAll,h.eqv,Enc.eqvL h xs ys]
  by_cases e:x=y
  ·subst e
   by_cases e':xs=ys
   ·subst e';simp
   ·simp[e']
  ·simp[e]
theorem Enc.eqL(h:Enc enc)(xs ys:List α):PyData.eqv (.list (xs.map enc)) (.list (ys.map enc))=decide (xs=ys):=by
 rw[PyData.eqv];exact h.eqvL xs ys
theorem Enc.any(h:Enc enc)(x:α):∀xs:List α,((xs.map enc).any fun y=>PyData.eqv y (enc x))=decide (x∈xs)
 |[]=>by simp
 |y::ys=>by
  rw[List.map_cons,List.any_cons,h.eqv,Enc.any h x ys]
  by_cases e:y=x
  ·subst e;simp
  ·have:¬x=y:=fun z=>e z.symm
   simp[e,this]
theorem Enc.fixL(h:Enc enc):∀xs:List α,fixDs (xs.map enc)=true
 |[]=>rfl
 |x::xs=>by rw[List.map_cons,fixDs,h.fix,Enc.fixL h xs];rfl
theorem Enc.fEq(h:Enc enc)(a b:α):DL.fEq (enc a) (enc b)=some (.bool (decide (a=b))):=by
 unfold DL.fEq;rw[h.ok,h.ok,h.eqv];rfl
theorem Enc.fNe(h:Enc enc)(a b:α):DL.fNe (enc a) (enc b)=some (.bool (!decide (a=b))):=by
 unfold DL.fNe;rw[h.ok,h.ok,h.eqv];rfl
theorem Enc.fNeL(h:Enc enc)(a b:List α):DL.fNe (.list (a.map enc)) (.list (b.map enc))=some (.bool (!decide (a=b))):=by
 unfold DL.fNe;rw[h.okL,h.okL,h.eqL];rfl
theorem Enc.fIn(h:Enc enc)(a:α)(xs:List α):DL.fIn false (enc a) (.list (xs.map enc))=some (.bool (decide (a∈xs))):=by
 simp only[DL.fIn,h.ok,h.okL,h.any,Bool.and_self,if_true,Bool.false_eq_true,if_false]
theorem Enc.fNotIn(h:Enc enc)(a:α)(xs:List α):DL.fIn true (enc a) (.list (xs.map enc))=some (.bool (!decide (a∈xs))):=by
 simp only[DL.fIn,h.ok,h.okL,h.any,Bool.and_self,if_true]
end
theorem encI:Enc (α:=Int) PyData.int:=⟨fun a b=>by rw[PyData.eqv];by_cases h:a=b<;>simp[h],fun _=>rfl,fun _=>by rw[PyData.depth];decide,fun _=>rfl⟩
def ec(p:Int×Int):PyData:=.tuple [.int p.1,.int p.2]
theorem encC:Enc ec:=by
 refine⟨fun a b=>?_,fun _=>rfl,fun a=>?_,fun _=>rfl⟩
 ·unfold ec
  simp only[PyData.eqv,PyData.eqvAll,Bool.and_true]
  obtain⟨a1,a2⟩:=a
  obtain⟨b1,b2⟩:=b
  by_cases h1:a1=b1
  ·by_cases h2:a2=b2<;>simp[h1,h2]
  ·simp[h1]
 ·unfold ec;simp[PyData.depth,PyData.depthAll]
structure Bx where
 x:Int
 y:Int
 w:Int
 h:Int
 deriving DecidableEq
def eb(b:Bx):PyData:=.tuple [.int b.x,.int b.y,.int b.w,.int b.h]
end DL
end
section
namespace DL
open PySem L2
def rng(lo:Int)(n:Nat):List Int:=(List.range n).map fun(k:Nat)=>lo+(k:Int)
theorem MS(lo:Int)(n:Nat):Gr lo n=(rng lo n).map PyData.int:=by
 unfold Gr rng
 rw[List.map_map]
 rfl
theorem mem_rng{lo v n:Int}:v∈rng lo n.toNat↔lo<=v/\v<lo+n:=by
 unfold rng
 rw[List.mem_map]
 constructor
 ·rintro⟨k,hk,rfl⟩
  rw[List.mem_range]at hk
  omega
 ·rintro⟨h1,h2⟩
  exact⟨(v-lo).toNat,by rw[List.mem_range];omega,by omega⟩
abbrev Cl:=Int×Int
def eB(x v:Int)(w:Nat):List Cl:=(rng x w).map fun u=>(u,v)
def cells(b:Bx):List Cl:=(rng b.y b.h.toNat).flatMap fun v=>eB b.x v b.w.toNat
def inB(b:Bx)(p:Cl):Prop:=b.x<=p.1/\p.1<b.x+b.w/\b.y<=p.2/\p.2<b.y+b.h
instance {b:Bx} {p:Cl}:Decidable (inB b p):=by unfold inB;infer_instance
def nM(o:Option L):Prop:=(∀xs,o≠some (.m xs))/\∀xs,o≠some (.k xs)
theorem BB:nM none:=⟨fun xs z=>(nomatch z),fun xs z=>(nomatch z)⟩
theorem Cv{x:PyData}:nM (some (.d x)):=⟨fun xs z=>(nomatch z),fun xs z=>(nomatch z)⟩
theorem CD{i:Nat}{d:PyData}{τ:DS}{o:Option L}(h:τ[i]?=some o)(hn:nM o):dN i d τ=some (τ.set i (some (.d d))):=by
 unfold dN
 rw[h]
 cases o with
 |none=>rfl
 |some l=>cases l with
  |m xs=>exact absurd rfl (hn.1 xs)
  |k xs=>exact absurd rfl (hn.2 xs)
  |d x=>rfl
  |c x=>rfl
  |g x=>rfl
end DL
end
section
namespace DL
open PySem L2
variable {K:KW}
def isC(τ:DS)(j:Nat):Bool:=match τ[j]? with
 |some (some (.c _))=>true
 |_=>false
def dAS(i:Nat)(r:DA)(τ:DS):Option (List Ar×DS):=if (isM τ i||isC τ i)=true then (r τ).map fun q=>(.s i::q.1,q.2) else none
def mkL(τ:DS):List Ar->Option (List L)
 |[]=>some []
 |.d x::r=>(mkL τ r).map (.d x::·)
 |.s i::r=>match τ[i]? with
  |some (some (.m xs))=>(mkL τ r).map (.m xs::·)
  |some (some (.c xs))=>(mkL τ r).map (.c xs::·)
  |_=>none
def nMb:L->Bool
 |.m _=>false
 |.k _=>false
 |_=>true
def E6(k i:Nat)(G:List L->Option (PyData×List L))(a:DA)(τ:DS):Option (PyData×DS):=(a τ).bind fun p=>(mkL p.2 p.1).bind fun ls=>match p.1[k]?,ls[k]? with
 |some (.s j),some (.m _)=>if j=i/\(ls.set k (.d .none)).all nMb=true then (G ls).bind fun q=>match q.2[k]? with
   |some (.m xs)=>some (q.1,p.2.set i (some (.m xs)))
   |_=>none
  else none
 |_,_=>none
theorem J5{α:Type}{enc:α->PyData}{g:DG}{b:DB}{all:List α}(J:List α->DS->Prop)(h:∀pre x post τ,all=pre++x::post->J pre τ->∃τ1 τ2,g (enc x) τ=some τ1/\b τ1=some (.nx τ2)/\J (pre++[x]) τ2) :
  ∀{xs pre:List α} {τ:DS},all=pre++xs->J pre τ->∃τ',BO g b (xs.map enc) τ=some (.nx τ')/\J all τ'
 |[],pre,τ,e,h0=>⟨τ,rfl,by rw[e,List.append_nil];exact h0⟩
 |x::xs,pre,τ,e,h0=>by
  obtain⟨τ1,τ2,e1,e2,h1⟩:=h pre x xs τ e h0
  obtain⟨τ',e3,h3⟩:=J5 J h (xs:=xs) (pre:=pre++[x]) (τ:=τ2) (by rw[e,List.append_assoc];rfl) h1
  refine⟨τ',?_,h3⟩
  rw[List.map_cons,BO,e1]
  show(b τ1).bind _=_
  rw[e2]
  exact e3
theorem C4{α:Type}{enc:α->PyData}{g:DG}{b:DB}{xs:List α}{τ:DS}(J:List α->DS->Prop)(h0:J [] τ)(h:∀pre x post τ,xs=pre++x::post->J pre τ->∃τ1 τ2,g (enc x) τ=some τ1/\b τ1=some (.nx τ2)/\J (pre++[x]) τ2) :
  ∃τ',BO g b (xs.map enc) τ=some (.nx τ')/\J xs τ':=J5 J h (pre:=[]) rfl h0
theorem J0{n:Int}{τ τ1:DS}{a:DA}(h:a τ=some ([.d (.int n)],τ1))(h0:-100000<=n)(h1:n<=100000):dR1 a τ=some ((rng 0 n.toNat).map PyData.int,τ1):=by
 unfold dR1
 rw[h]
 show(if -(2 ^ 62)<=n/\n<2 ^ 62 then some (Gr 0 n.toNat,τ1) else none)=_
 rw[if_pos (by omega),MS]
theorem Ej{α:Type}{xs pre post:List α}{x:α}(e:xs=pre++x::post):pre.length<xs.length:=by rw[e,List.length_append,List.length_cons];omega
theorem HU{α:Type}{xs pre post:List α}{x:α}(e:xs=pre++x::post):x∈xs:=by rw[e];exact List.mem_append_right _ List.mem_cons_self
end DL
end
section
namespace DL
open PySem PySem.Spec L2 PyProof.Rows
section
variable {prog:Program} {w:World} {A:Around} {s:Shared} {R:Result->Shared->Prop}
variable {I:Addr} {fp wr:List Addr} {G:Array GenState->Array GenState->Prop} {n:Nat} {P:Nat->Value->Prop} {St:Nat->Shared->Prop}
end
section
variable {prog:Program} {w:World} {A:Around} {E:Value->Shared->Prop} {s:Shared}
variable {I:Addr} {fp wr:List Addr} {G:Array GenState->Array GenState->Prop} {n:Nat} {P:Nat->Value->Prop} {St:Nat->Shared->Prop}
end
variable {K:KW}
def LZ(f:DX)(τ:DS):Option (PyData×DS):=(f τ).bind fun p=>match p.1 with
 |.list xs=>some (.list xs.reverse,p.2)
 |_=>none
theorem Cw:okM none=true:=rfl
theorem Gv{x:PyData}:okM (some (.d x))=true:=rfl
theorem Gw{x:List PyData}:okM (some (.c x))=true:=rfl
theorem Gu{x:List PyData}:okM (some (.m x))=fixDs x:=rfl
theorem LK{o:Option L}(h:nM o):okM o=true:=by
 cases o with
 |none=>rfl
 |some l=>cases l with
  |m xs=>exact absurd rfl (h.1 xs)
  |k xs=>exact absurd rfl (h.2 xs)
  |d x=>rfl
  |c x=>rfl
  |g x=>rfl
end DL
end
section
namespace Srt
open PySem PySem.W PyProof.Rows
variable {n:Nat} {r:Nat->Nat->Bool}
end Srt
end
section
namespace Srt
open PySem PySem.W PyProof.Rows HT
section
variable {prog:Program} {w:World} {A:Around} {E:Value->Shared->Prop} {s:Shared}
end
end Srt
end
section
namespace DL
open PySem L2 PyProof.Rows
variable {K:KW}
end DL
end
section
namespace DL
open PySem L2
variable {K:KW}
abbrev DO:=DS->Option (Option Int×DS)
structure OO(K:KW)(t:TO)(f:DO):Prop where
 like:∀τ b τ',f τ=some (b,τ')->Like τ τ'
 run:∀S M τ σ H (Q:Option Int->Hp->Prop) b τ',R K S M τ σ H->f τ=some (b,τ')->(∀H',R K S M τ' σ H'->Chg M H H'->Q b H')->t σ H Q
def Ba:DO:=fun τ=>some (none,τ)
def dPt(f:DX):DO:=fun τ=>(f τ).bind fun p=>match p.1 with
 |.int i=>some (some i,p.2)
 |_=>none
theorem aw:OO K QP Ba:=⟨fun τ b τ' e=>by cases e;exact Like.refl,fun S M τ σ H Q b τ' r e q=>by cases e;exact q H r Chg.refl⟩
theorem eH{fr:Bool}{t:TE}{f:DX}(h:E K t fr f):OO K (Ws t) (dPt f):=by
 refine⟨fun τ b τ' e=>?_,?_⟩
 ·unfold dPt at e
  obtain⟨⟨x,τ1⟩,e1,e⟩:=oB e
  dsimp only at e
  split at e
  ·cases e;exact h.like _ _ _ e1
  ·cases e
 intro S M τ σ H Q b τ' r e q
 unfold dPt at e
 obtain⟨⟨x,τ1⟩,e1,e⟩:=oB e
 dsimp only at e
 split at e
 ·rename_i i
  cases e
  refine h.run S M τ σ H _ _ _ r e1 fun v H' r' c iv=>?_
  exact⟨i,(show v = .int i from r.isr iv),q H' r' c⟩
 ·cases e
def JD(xs:List PyData)(lo hi:Option Int):List PyData:=(xs.drop (HT.sIx xs.length 0 lo)).take (HT.sIx xs.length xs.length hi-HT.sIx xs.length 0 lo)
theorem Og{H:Hp}:∀{xs:List PyData} {vs:List V} (n:Nat),IsL K H xs vs->IsL K H (xs.drop n) (vs.drop n)
 |_,_,0,h=>h
 |[],_,n+1,h=>by rw[show _=[] from h];rfl
 |x::xs,_,n+1,⟨v,us,e,_,l⟩=>by subst e;exact Og n l
theorem Od{H:Hp}:∀{xs:List PyData} {vs:List V} (n:Nat),IsL K H xs vs->IsL K H (xs.take n) (vs.take n)
 |_,_,0,h=>rfl
 |[],_,n+1,h=>by rw[show _=[] from h];rfl
 |x::xs,_,n+1,⟨v,us,e,i,l⟩=>by subst e;exact⟨v,_,rfl,i,Od n l⟩
theorem Qr{H:Hp}{xs:List PyData}{vs:List V}{lo hi:Option Int}(h:IsL K H xs vs):IsL K H (JD xs lo hi) (MG vs lo hi):=by
 unfold JD MG
 rw[h.length]
 exact Od _ (Og _ h)
def dSl(f:DX)(lo hi:DO)(τ:DS):Option (PyData×DS):=(f τ).bind fun p=>(lo p.2).bind fun l=>(hi l.2).bind fun u=>match p.1 with
 |.list xs=>some (.list (JD xs l.1 u.1),u.2)
 |_=>none
theorem eY{fr:Bool}{te:TE}{tl th:TO}{f:DX}{lo hi:DO}(h:E K te fr f)(hl:OO K tl lo)(hh:OO K th hi):E K (tSl (Xs K) te tl th) true (dSl f lo hi):=by
 refine⟨fun τ d τ' e=>?_,?_⟩
 ·unfold dSl at e
  obtain⟨⟨x,τ1⟩,e1,e⟩:=oB e
  obtain⟨⟨l,τ2⟩,e2,e⟩:=oB e
  obtain⟨⟨u,τ3⟩,e3,e⟩:=oB e
  dsimp only at e
  split at e
  ·cases e;exact((h.like _ _ _ e1).trans (hl.like _ _ _ e2)).trans (hh.like _ _ _ e3)
  ·cases e
 intro S M τ σ H Q d τ' r e q
 unfold dSl at e
 obtain⟨⟨x,τ1⟩,e1,e⟩:=oB e
 obtain⟨⟨l,τ2⟩,e2,e⟩:=oB e
 obtain⟨⟨u,τ3⟩,e3,e⟩:=oB e
 dsimp only at e e2 e3
 cases x with
 |list xs =>
  cases e
  refine h.run S M τ σ H _ _ _ r e1 fun v1 H1 r1 c1 i1=>?_
  refine hl.run S M τ1 σ H1 _ _ _ r1 e2 fun H2 r2 c2=>?_
  refine hh.run S M τ2 σ H2 _ _ _ r2 e3 fun H3 r3 c3=>?_
  have i1':Is K (hid S H3) (.list xs) v1:=((r.isr i1).mono (c2.keep r1.sub).same).mono (c3.keep r2.sub).same
  obtain⟨a,vs,rfl,ha,la⟩:=i1'
  refine⟨a,vs,rfl,SqL.of (hid_iff.mp ha).2,fun p hp=>?_⟩
  have s:=Ax hp (HO.lst (MG vs l u))
  exact q _ _ (r3.same s) (((c1.trans c2).trans c3).trans (.of s)) ((Ie hp (Qr la)).back r3 ((c1.trans c2).trans c3))
 |_=>cases e
end DL
end
section
namespace L2
open PySem PySem.Spec PyProof.Rows
section
variable {X:Cx} {pins:List (Addr×Obj)} {σ:L2.St} {H:Hp} {s:Shared}
theorem Inv.turned2{t':Nat}{i1 i2:Addr}{h':Heap}(I:Inv X pins σ H s)(k:∀b o,b≠i1->b≠i2->s.heap.get? b=some o->h'.get? b=some o)(f1:IM X pins H i1)(f2:IM X pins H i2):Inv X pins σ H { s with heap:=h',toks:=t' }:=by
 obtain⟨a0,a1,a2,a3,a4,a5⟩:=f1
 obtain⟨b0,b1,b2,b3,b4,b5⟩:=f2
 have n1:∀b u,H b=some u->b≠i1:=fun b u e z=>by rw[z,a0]at e;cases e
 have n2:∀b u,H b=some u->b≠i2:=fun b u e z=>by rw[z,b0]at e;cases e
 refine I.step (g':=s.gens) (d':=s.drawn) (ch:=[i1,i2]) (fun b hb=>?_) (fun b o _ _ hc e _=>k b o (fun z=>hc (by simp[z])) (fun z=>hc (by simp[z])) e) (fun b o _ _ hc e _=>⟨o.slots,k b o (fun z=>hc (by simp[z])) (fun z=>hc (by simp[z])) e⟩) (fun _ _ _ _ n=>n)
  (fun b o hc e=>⟨o,k b o (fun z=>hc (by simp[z])) (fun z=>hc (by simp[z])) e⟩) (fun _ _ e=>e) (fun _ _ _ e=>e) (fun b ps e=>⟨#[],by rw[e];simp⟩) (fun m hm=>?_) (fun b u e=>?_) I.bare
 ·have e:b=i1\/b=i2:=by simpa using hb
  rcases e with e|e
  ·subst e;exact⟨a3,a1,a4,a5⟩
  ·subst e;exact⟨b3,b1,b4,b5⟩
 ·obtain⟨o,es,ep,ho,r⟩:=hm
  exact⟨o,es,ep,k _ o (Ne.symm a1) (Ne.symm b1) ho,r⟩
 ·refine(I.hok b u e).stay (fun c v hc q=>k c v ?_ ?_ q) (fun _ q=>q) fun _ _ q=>q
  ·rcases hc with z|z
   ·rw[z];exact n1 b u e
   ·exact n1 c _ z
  ·rcases hc with z|z
   ·rw[z];exact n2 b u e
   ·exact n2 c _ z
end
def Ite(K:PySem.W.Frag)(a:Addr):It :=
 ⟨fun i H=>∃xs x,SqL K H a xs/\xs[i]?=some x,fun i H x H'=>∃(p:Addr) (v:V),H p=none/\x = .ref p/\(∀xs,SqL K H a xs->xs[i]?=some v)/\H'=upd H p (.tup [.int i,v]),fun i H=>∃xs,SqL K H a xs/\xs.length<=i⟩
theorem RD{P:Program}{w:World}{K:PySem.W.Frag}{elts:List Expr}{c1}{pos:Pos}(a e it:Addr)(hei:e≠it):Turn P w K (.Tuple elts c1 pos) (Ite K a) [e,it] e (fun i h=>(∃old,IsEnum h e it i old)/\h.IsListIter it a i) where
 mem:=by simp
 obj:=fun i h st b hb=>by
  have q:b=e\/b=it:=by simpa using hb
  obtain⟨⟨old,he⟩,o,ho,c,d⟩:=st
  rcases q with rfl|rfl
  ·exact⟨_,he,fun v z=>by cases z⟩
  ·exact⟨o,ho,fun v z=>by rw[d]at z;cases z⟩
 keep:=fun i h h' st k=>⟨let ⟨old,he⟩:=st.1;⟨old,k e (by simp) _ he⟩,st.2.at fun o q=>k it (by simp) o q⟩
 item:=by
  intro X hP hw hK hc i pins s σ H E I hf st hg
  subst hP hw hK
  obtain⟨xs,x,hq,hx⟩:=hg
  obtain⟨its,rv,p,hz⟩:=I.list hq
  obtain⟨u,hu,ru⟩:=rv.get hx
  obtain⟨⟨old,he⟩,hit⟩:=st
  refine wpAny_pyNext_enum_item he hit p.isList (x:=u) (by simpa using hu) hei fun h1 ho hit1 ht hs1 k1=>?_
  refine⟨_,rfl,wpAny_letOwnedTupleGo_enum (s:={ s with heap:=h1,toks:=s.toks+1 }) ho fun h2 he2 sb=>?_⟩
  have fr:H s.heap.objs.size=none:=I.hok.fresh (Nat.le_refl _)
  have hlt1:e<s.heap.objs.size:=Heap.lt_size he
  have hlt2:it<s.heap.objs.size:=by obtain⟨o,q,_⟩:=hit;exact Heap.lt_size q
  have I1:=I.laid (t':=s.toks+1) (a:=s.heap.objs.size) (o:=.tup [.int i,x]) (h':=s.heap.push { cls:=.type "tuple",data:=.seq #[.int i s.toks,u] }) (fun b o q=>Heap.get?_push_of_some _ q) (Nat.le_refl _)
   ⟨by show 2<=sizeLine;decide,[.int i s.toks,u],.cons ⟨_,rfl⟩ (.cons ru .nil),_,Heap.get?_push_size _ rfl,rfl,_,rfl⟩
  have fp:∀b∈[e,it],IM X pins (upd H s.heap.objs.size (.tup [.int i,x])) b:=fun b hb=>by
   obtain⟨q0,q⟩:=hf b hb
   refine⟨?_,q⟩
   rw[BF (fun z=>?_)]
   ·exact q0
   ·have q:b=e\/b=it:=by simpa using hb
    rcases q with rfl|rfl
    ·exact absurd hlt1 (by rw[z];exact Nat.lt_irrefl _)
    ·exact absurd hlt2 (by rw[z];exact Nat.lt_irrefl _)
  have I2 := I1.turned2 (t' := s.toks + 1) (h' := h2) (i1 := e) (i2 := it) (fun b o ne ni q => by
   have e2:h2.get? b=h1.get? b:=sb.2 b ne
   rw[e2]
   by_cases hb:b=s.heap.objs.size
   ·subst hb
    have q':some ({ cls:=.type "tuple",data:=.seq #[.int i s.toks,u] }:Obj)=some o:=(Heap.get?_push_size s.heap (o:={ cls:=.type "tuple",data:=.seq #[.int i s.toks,u] }) rfl).symm.trans q
    rw[ht];exact q'
   ·have q':(s.heap.push { cls:=.type "tuple",data:=.seq #[.int i s.toks,u] }).get? b=some o:=q
    rw[Heap.get?_push_ne _ _ _ hb]at q'
    exact k1 b o ne ni q') (fp e (by simp)) (fp it (by simp))
  refine⟨.ref s.heap.objs.size,_,I2,rfl,⟨s.heap.objs.size,x,fr,rfl,fun ys hy=>by rw[I.list_inj hy hq];exact hx,rfl⟩,⟨⟨u,?_⟩,?_⟩,fun b hb=>(fp b hb).1⟩
  ·have:((i+1:Nat):Int)=(i:Int)+1:=by omega
   rw[this];exact he2
  ·exact hit1.at fun o q=>by
    have e2:h2.get? it=h1.get? it:=sb.2 it (Ne.symm hei)
    rw[e2];exact q
 done:=by
  intro X hP hw hK hc i pins s σ H E I hf st hg
  subst hP hw hK
  obtain⟨xs,hq,hx⟩:=hg
  obtain⟨its,rv,p,hz⟩:=I.list hq
  obtain⟨⟨old,he⟩,hit⟩:=st
  obtain⟨f0,f1,f2,f3,f4,f5⟩:=hf it (by simp)
  have hl:=rv.length
  exact wpAny_pyNext_enum_end (I.ok.hd hc) he hit p.isList (by simp;omega) fun h' eb=>⟨rfl,I.turned (t':=s.toks) (fun b o hb e=>eb b o hb e) f0 f1 f3 f4 f5⟩
 self:=fun _ _ _ _ _ st h=>let ⟨old,he⟩:=st.1;wpAny_pyIter_enum he h
section
variable {X:Cx} {elts:List Expr} {tp:Pos}
def Qt(K:PySem.W.Frag)(ta:TA):TI:=fun σ H R=>ta σ H fun vs H1=>∃a,vs=[.ref a]/\(∃xs,SqL K H1 a xs)/\R (Ite K a) H1
theorem VN{a:Expr}{ta:TA}{p pos:Pos}{c1}(hg:Gl X "enumerate")(hm:X.mg "enumerate"=none)(ha:PA X [a] ta)(hn:("enumerate":Str)≠"__name__")(hdb:(("enumerate":Str)==("__debug__":Str))=false)(hs:starEach [a] X.env=[(false,eval a X.env)]:=by rfl) :
  PI X (.Tuple elts c1 tp) (.Call (.Name "enumerate" p) [a] [] pos) (Qt X.K ta):=by
 intro pins s σ H R I h
 refine Call_ (LO I hg hm boot_enumerate (PyProof.Rows.callWith_type1 (thn (ha pos pins s σ H _ I h) fun us s1 ⟨vs,H1,I1,r1,q1⟩=>?_) hs rfl) hn hdb)
 obtain⟨l,e,⟨xs,hq⟩,q⟩:=q1
 subst e
 obtain⟨u,rfl,ru⟩:=Hq r1
 cases ru
 obtain⟨its,rv,pl,hz⟩:=I1.list hq
 refine call_enumerate_list pl.isList fun h' he hit hsz hk=>?_
 refine wpAny_pyIter_enum (s:={ s1 with heap:=h' }) he ?_
 have I2:Inv X pins σ H1 { s1 with heap:=h' }:=I1.kept (t':=s1.toks) hk
 refine⟨s1.heap.objs.size+1,[s1.heap.objs.size+1,s1.heap.objs.size],_,_,H1,rfl,I2,RD l (s1.heap.objs.size+1) s1.heap.objs.size (Nat.succ_ne_self _),⟨⟨_,he⟩,hit⟩,fun b hb=>?_,q⟩
 have e:b=s1.heap.objs.size+1\/b=s1.heap.objs.size:=by simpa using hb
 rcases e with rfl|rfl
 ·exact I1.fpOk (Nat.le_succ _) (I1.hok.fresh (Nat.le_succ _))
 ·exact I1.fpOk (Nat.le_refl _) (I1.hok.fresh (Nat.le_refl _))
end
end L2
end
section
namespace DL
open PySem L2
variable {K:KW}
def dj(K:KW)(S:Addr->Prop)(J:It)(H:Hp)(ds:List PyData):Prop:=∀(S2:Addr->Prop) (H2:Hp),Keep S H S2 H2->(∀a,H2 a=none->¬S2 a)->(∀(i:Nat) (d:PyData),ds[i]?=some d->J.go i H2/\∀x H3,J.yld i H2 x H3->Same H2 H3/\Is K (hid S2 H3) d x)/\∀i,ds.length<=i->J.stop i H2
structure IT2(K:KW)(wi:TI)(f:DI):Prop where
 like:∀τ ds τ',f τ=some (ds,τ')->Like τ τ'
 run:∀S M τ σ H (Q:It->Hp->Prop) ds τ',R K S M τ σ H->f τ=some (ds,τ')->(∀J H',R K S M τ' σ H'->Chg M H H'->dj K S J H' ds->Q J H')->wi σ H Q
def FU(k:Nat):List PyData->List PyData
 |[]=>[]
 |d::r=>.tuple [.int k,d]::FU (k+1) r
theorem Md:∀(k:Nat) (ds:List PyData),(FU k ds).length=ds.length
 |_,[]=>rfl
 |k,_::r=>by rw[FU,List.length_cons,List.length_cons,Md]
theorem Me:∀{k:Nat} {ds:List PyData} {i:Nat} {x:PyData},(FU k ds)[i]?=some x->∃d,ds[i]?=some d/\x = .tuple [.int ((k+i:Nat):Int),d]
 |_,[],i,_,e=>by simp[FU]at e
 |k,d::r,0,x,e=>by simp[FU]at e;exact⟨d,rfl,e.symm⟩
 |k,d::r,i+1,x,e=>by
  rw[FU,List.getElem?_cons_succ]at e
  obtain⟨d',h1,h2⟩:=Me e
  exact⟨d',by rw[List.getElem?_cons_succ];exact h1,by rw[h2,show k+1+i=k+(i+1) by omega]⟩
def dIE(f:DX)(τ:DS):Option (List PyData×DS):=(f τ).bind fun p=>match p.1 with
 |.list ds=>some (FU 0 ds,p.2)
 |_=>none
theorem Vm{fr:Bool}{t:TE}{f:DX}(h:E K t fr f):IT2 K (Qt K (CJ t FG)) (dIE f):=by
 refine⟨fun τ d τ' e=>?_,?_⟩
 ·unfold dIE at e
  obtain⟨⟨x,τ1⟩,e1,e⟩:=oB e
  dsimp only at e
  split at e
  ·cases e;exact h.like _ _ _ e1
  ·cases e
 intro S M τ σ H Q ds τ' r e q
 unfold dIE at e
 obtain⟨⟨x,τ1⟩,e1,e⟩:=oB e
 cases x with
 |list ds =>
  cases e
  refine h.weak.run S M τ σ H _ _ _ r e1 fun v H1 r1 c1 i1=>?_
  have i1':Is K (hid S H1) (.list ds) v:=i1
  obtain⟨a,vs,rfl,hl,ll⟩:=i1'
  refine⟨a,rfl,⟨vs,SqL.of (hid_iff.mp hl).2⟩,q _ H1 r1 c1 fun S2 H2 k nS=>?_⟩
  have hl2:=k.same _ _ hl
  have ll2:=ll.mono k.same
  refine⟨fun i d e=>?_,fun i hi=>⟨vs,SqL.of (hid_iff.mp hl2).2,by rw[ll.length];rw[Md]at hi;exact hi⟩⟩
  obtain⟨d',e',rfl⟩:=Me e
  obtain⟨u,h1,h2⟩:=ll2.get e'
  refine⟨⟨vs,u,SqL.of (hid_iff.mp hl2).2,h1⟩,?_⟩
  rintro x H3 ⟨p,v,hp,rfl,y,rfl⟩
  have:=y vs (SqL.of (hid_iff.mp hl2).2)
  rw[h1]at this;cases this
  have s:=Ax hp (HO.tup [.int i,u])
  refine⟨s,⟨p,[.int i,u],rfl,.inl (.inl (hid_iff.mpr ⟨nS p hp,Aq⟩)),?_⟩⟩
  rw[Nat.zero_add]
  exact⟨_,_,rfl,rfl,_,_,rfl,h2.mono (Same.keep s).same,rfl⟩
 |_=>cases e
theorem Z0{np:Nat}{fr:Bool}{wi:TI}{tg:TG}{tb:TS}{it:DI}{g:DG}{b:DB}(hi:IT2 K wi it)(hg:TG1 K tg g)(hb:B K np tb fr b):B K np (U0 wi tg tb) fr (Cp it g b):=by
 intro F S M τ σ H D out hnp f ee q
 unfold Cp at ee
 obtain⟨⟨ds,τ1⟩,e1,ee⟩:=oB ee
 refine hi.run S M τ σ H _ ds τ1 f.r e1 fun J H1 r1 c1 iJ=>?_
 have f1:=f.step r1 c1 (hi.like _ _ _ e1)
 have q1:=q.trans (c1.keep f.r.sub)
 refine⟨fun i m σ' H'=>m=ds.length-i/\i<=ds.length/\∃S' M' τ',RF K F S' M' τ' σ' H'/\Keep S H1 S' H'/\BO g b (ds.drop i) τ'=some out,⟨ds.length,by simp,Nat.zero_le _,S,M,τ1,f1,.refl,by simpa using ee⟩,?_⟩
 rintro i m σ' H' ⟨rfl,hil,S',M',τ',f',k',hl⟩
 obtain⟨I1,I2⟩:=iJ _ _ k' (fun _=>f'.r.fresh)
 by_cases hlt:i<ds.length
 ·right
  have ed:ds[i]?=some ds[i]:=List.getElem?_eq_getElem hlt
  obtain⟨go,yl⟩:=I1 i _ ed
  refine⟨go,fun σ2 H2=>∃S2 M2 τ2,RF K F S2 M2 τ2 σ2 H2/\Keep S H1 S2 H2/\BO g b (ds.drop (i+1)) τ2=some out,fun σ2 H2 h=>⟨ds.length-(i+1),by omega,rfl,hlt,h⟩,fun x H2 y=>?_⟩
  obtain⟨sm,ix⟩:=yl x H2 y
  have f':=f'.step (f'.r.same sm) (.of sm) .refl
  have k':=k'.trans (Same.keep sm)
  rw[List.drop_eq_getElem_cons hlt,BO]at hl
  obtain⟨τ2,e2,hl⟩:=oB hl
  obtain⟨o,e3,hl⟩:=oB hl
  refine hg.run S' M' τ' σ' H2 x _ τ2 _ f'.r ix e2 fun σ3 r3 k3=>?_
  have f3:=f'.stay r3 (hg.ms _ _ _ e2) k3
  refine hb F S' M' τ2 σ3 H2 _ o hnp f3 e3 ?_
  cases o with
  |nx τ4=>exact fun S4 M4 σ4 H4 f4 k4=>⟨S4,M4,τ4,f4,k'.trans k4,hl⟩
  |ct τ4=>exact fun S4 M4 σ4 H4 f4 k4=>⟨S4,M4,τ4,f4,k'.trans k4,hl⟩
  |bk τ4=>cases hl;exact fun S4 M4 σ4 H4 f4 k4=>q1 S4 M4 σ4 H4 f4 (k'.trans k4)
  |rt d τ4=>cases hl;exact fun S4 M4 σ4 H4 v f4 k4=>q1 S4 M4 σ4 H4 v f4 k4
 ·left
  have e:i=ds.length:=by omega
  subst e
  rw[List.drop_length,BO]at hl
  cases hl
  exact⟨I2 _ (Nat.le_refl _),q1 S' M' σ' H' f' k'⟩
end DL
end
section
namespace DL
open PySem L2 PyProof.Rows
variable {K:KW}
end DL
end
section
namespace DL
open PySem L2
variable {K:KW}
end DL
end
section
namespace Stb
open PySem
end Stb
end
section
namespace Stb
open PySem SetTable
end Stb
end
section
namespace Stb
open PySem SetTable
end Stb
end
section
namespace Stb
open PySem SetTable
end Stb
end
section
namespace Stb
open PySem SetTable
end Stb
end
section
namespace Stb
open PySem PyProof.Rows SetTable
section
variable {prog:Program} {w:World} {A:Around} {E:Value->Shared->Prop} {s:Shared}
end
end Stb
end
section
namespace Stb
open PySem PyProof.Rows SetTable
section
variable {prog:Program} {w:World} {A:Around} {E:Value->Shared->Prop} {s:Shared}
end
end Stb
end
section
namespace Stb
open PySem PyProof.Rows SetTable
section
variable {prog:Program} {w:World} {A:Around} {E:Value->Shared->Prop} {s:Shared}
end
end Stb
end
section
namespace Stb
open PySem PyProof.Rows SetTable
section
variable {prog:Program} {w:World} {A:Around} {R:Result->Shared->Prop} {I:Addr} {fp wr:List Addr} {G:Array GenState->Array GenState->Prop} {n:Nat} {P:Nat->Value->Prop} {St:Nat->Shared->Prop}
end
end Stb
end
section
namespace Stb
open PySem PyProof.Rows SetTable
section
variable {prog:Program} {w:World} {A:Around} {E:Value->Shared->Prop} {s:Shared}
end
end Stb
end
section
namespace Stb
open PySem PyProof.Rows SetTable
section
variable {prog:Program} {w:World} {A:Around} {E:Value->Shared->Prop} {s:Shared}
end
end Stb
end
section
namespace Stb
open PySem PyProof.Rows SetTable
section
variable {prog:Program} {w:World} {A:Around} {E:Value->Shared->Prop} {s:Shared}
end
end Stb
end
section
namespace Stb
open PySem PyProof.Rows SetTable
section
variable {prog:Program} {w:World} {A:Around} {E:Value->Shared->Prop} {s:Shared}
end
end Stb
end
section
namespace Stb
open PySem PyProof.Rows SetTable
section
variable {prog:Program} {w:World} {A:Around} {E:Value->Shared->Prop} {s:Shared}
end
end Stb
end
section
namespace DL
open PySem L2 PyProof.Rows
variable {K:PySem.W.Frag}
end DL
end
section
namespace DL
open PySem L2 PyProof.Rows
variable {K:KW}
end DL
end
section
namespace DL
open PySem L2
def XD(i:Nat)(τ:DS):Nat:=match τ[i]? with
 |some (some (.d (.int s)))=>s.toNat+1
 |_=>0
end DL
end
section
namespace Dwk
open PySem
variable {prog:Program} {w:World} {A:Around} {E:Value->Shared->Prop} {s:Shared}
end Dwk
end
section
namespace DL
open PySem L2 PyProof.Rows
variable {K:PySem.W.Frag}
section
variable {X:Cx} {pins:List (Addr×Obj)} {σ:L2.St} {H:Hp} {s:Shared}
end
end DL
end
section
namespace DL
open PySem L2 PyProof.Rows
variable {K:KW}
def B0:PyData->PyData->Option PyData
 |.tuple (x::xs),.tuple (y::ys)=>if xs.length+ys.length+2<=sizeLine then some (.tuple (x::xs++y::ys)) else none
 |_,_=>none
theorem YI:OR K false (QX K) B0:=by
 intro S H x y dx dy d Q hS ix iy e q
 unfold B0 at e
 split at e
 ·rename_i x1 xs y1 ys
  split at e
  ·rename_i hz
   cases e
   obtain⟨a,vs,rfl,ha,la⟩:=ix
   obtain⟨b,us,rfl,hb,lb⟩:=iy
   have l1:=la.length
   have l2:=lb.length
   rw[List.length_cons]at l1 l2
   refine⟨a,b,vs,us,rfl,rfl,Same.tup same_hid ha,Same.tup same_hid hb,fun z=>(by subst z;cases l1),by omega,fun z=>(by subst z;cases l2),fun _ p hp=>?_⟩
   have s:=Ax hp (HO.tup (vs++us))
   refine q _ _ s ⟨p,vs++us,rfl,.inl (.inl (hid_iff.mpr ⟨hS p hp,Aq⟩)),?_⟩
   exact(Ez la lb).mono (Same.keep s).same
  ·cases e
 ·cases e
end DL
end
section
namespace DL
open PySem L2
variable {K:KW}
end DL
end
section
namespace L2
open PySem
end L2
namespace DL
open PySem L2
variable {K:KW}
end DL
end
section
namespace EnG
open PySem PyProof.Rows
section
variable {prog:Program} {w:World} {A:Around} {E:Value->Shared->Prop} {s:Shared}
end
end EnG
namespace EnG
open PySem PyProof.Rows
open Sem (wp)
open AutoSeq1 (wpAny_loadPart')
section
variable {prog:Program} {w:World} {A:Around} {E:Value->Shared->Prop} {s:Shared}
end
end EnG
namespace L2
open PySem PySem.Spec PyProof.Rows EnG
section
variable {X:Cx} {elts:List Expr} {tp:Pos}
end
end L2
end
section
namespace DL
open PySem L2 PyProof.Rows
variable {K:KW}
def G4:PyData->PyData->Option PyData
 |.str x,.str y=>if x.length+y.length<=sizeLine then some (.str (x++y)) else none
 |_,_=>none
theorem YJ:OR K false (fun x y H Q=>∃i j,x = .str i/\y = .str j/\i.length+j.length<=sizeLine/\Q (.str (i++j)) H) G4:=by
 intro S H x y dx dy d Q _ ix iy e q
 unfold G4 at e
 split at e
 ·split at e
  ·rename_i hz
   cases e
   cases (show x = .str _ from ix)
   cases (show y = .str _ from iy)
   exact⟨_,_,rfl,rfl,hz,q _ H (fun _ _ e=>e) rfl⟩
  ·cases e
 ·cases e
def LV:PyData->PyData->Option PyData
 |.str z,.int i=>if z.length<=sizeLine then (atI z.cps.toList i).map fun c=>.str ⟨#[c]⟩ else none
 |_,_=>none
theorem bA:OR K false aV LV:=by
 intro S H x y dx dy d Q _ ix iy e q
 unfold LV at e
 split at e
 ·split at e
  ·rename_i hz
   obtain⟨c,e1,rfl⟩:=oM e
   cases (show x = .str _ from ix)
   cases (show y = .int _ from iy)
   exact⟨_,_,c,rfl,rfl,hz,e1,q _ H (fun _ _ e=>e) rfl⟩
  ·cases e
 ·cases e
def LU:List PyData->Option PyData
 |[.list xs]=>some (.tuple xs)
 |[.tuple xs]=>some (.tuple xs)
 |_=>none
theorem Wb:BR K false (fun xs H Q=>∃p ys,xs=[.ref p]/\((SqL K H p ys/\∀l,H l=none->Q (.ref l) (upd H l (.tup ys)))\/(SqT K H p ys/\Q (.ref p) H))) LU:=by
 intro S H vs ds d Q hS l e q
 unfold LU at e
 split at e
 ·cases e
  obtain⟨v,us,rfl,⟨a,ws,rfl,h,lw⟩,iu⟩:=l
  cases (show us=[] from iu)
  refine⟨a,ws,rfl,.inl ⟨SqL.of (hid_iff.mp h).2,fun p hp=>?_⟩⟩
  have s:=Ax hp (HO.tup ws)
  exact q _ _ s ⟨p,ws,rfl,.inl (.inl (hid_iff.mpr ⟨hS p hp,Aq⟩)),lw.mono (Same.keep s).same⟩
 ·cases e
  obtain⟨v,us,rfl,⟨a,ws,rfl,h,lw⟩,iu⟩:=l
  cases (show us=[] from iu)
  exact⟨a,ws,rfl,.inr ⟨Same.tup same_hid h,q _ H (fun _ _ e=>e) ⟨a,ws,rfl,h,lw⟩⟩⟩
 ·cases e
end DL
end
section
namespace L2
open PySem PySem.Spec PyProof.Rows
section
variable {X:Cx} {pos:Pos}
end
end L2
namespace DL
open PySem L2
variable {K:KW}
end DL
end
section
namespace DL
open PySem L2
variable {K:KW}
end DL
end
section
namespace L2
open PySem PySem.Spec PyProof.Rows
section
variable {X:Cx}
end
end L2
namespace DL
open PySem L2 PyProof.Rows
variable {K:KW}
end DL
end
section
namespace L2
open PySem PySem.Spec PyProof.Rows
structure Pt(N:Addr->Prop)(fs:List Addr)(h h':Heap):Prop where
 same:∀b o,h.get? b=some o->¬N b->b∉fs->h'.get? b=some o
 slot:∀b o,h.get? b=some o->¬N b->∃sl,h'.get? b=some { o with slots:=sl }
 size:h.objs.size<=h'.objs.size
theorem Pt.trans{N:Addr->Prop}{fs:List Addr}{h h1 h2:Heap}(a:Pt N fs h h1)(b:Pt N fs h1 h2):Pt N fs h h2 :=
 ⟨fun c o e n f=>b.same c o (a.same c o e n f) n f,fun c o e n=>let ⟨_,e1⟩:=a.slot c o e n;let ⟨sl,e2⟩:=b.slot c _ e1 n;⟨sl,e2⟩,Nat.le_trans a.size b.size⟩
theorem Qw{N:Addr->Prop}{fs:List Addr}{h h' base:Heap}(p:Pt N fs h h'):∀{l:List Env},(∀b∈frs l,¬N b)->h.FunFrames base l->h'.FunFrames base l
 |[],_,_=>trivial
 |env::r,hn,⟨hk,⟨L,o,hf,hb,ho,hd⟩,hr⟩=>by
  have hL:L∈frs (env::r):=by unfold frs;rw[List.filterMap_cons,hf];exact List.mem_cons_self
  obtain⟨sl,e⟩:=p.slot L o ho (hn L hL)
  exact⟨hk,⟨L,_,hf,hb,e,hd⟩,Qw p (fun b hb=>hn b (by unfold frs;rw[List.filterMap_cons,hf];exact List.mem_cons_of_mem _ hb)) hr⟩
def NoCtx(o:Obj):Prop:=∃vs,o.data = .fields vs/\vs[2]?=some Value.none
theorem NoCtx.set{o:Obj}{v:Value}(h:NoCtx o):NoCtx (o.mapFields (·.setIfInBounds 1 v)):=by
 obtain⟨vs,d,e⟩:=h
 exact⟨_,Obj.data_mapFields d _,by rw[Array.getElem?_setIfInBounds_ne (by decide)];exact e⟩
def XAt(N:Addr->Prop)(h:Heap)(e:Addr)(C:Addr)(fl:Value):Prop :=
 ∃oe vs T oT ts,h.get? e=some oe/\(oe.cls = .ref C/\oe.dict=none/\NoCtx oe)/\oe.data = .fields vs/\vs[1]?=some (.ref T)/\N T/\T≠e/\h.get? T=some oT/\oT.data = .fields ts/\ts[3]?=some fl
theorem Tq(o:Obj)(f:Array Value->Array Value):(o.mapFields f).cls=o.cls/\(o.mapFields f).dict=o.dict:=by
 obtain⟨c,d,dt,sl⟩:=o
 cases dt<;>exact⟨rfl,rfl⟩
section
variable {M:Model} {A:Around} {E:Value->Shared->Prop} {s:Shared} {N:Addr->Prop} {base:Heap} {env:Env} {outer:List Env} {L e C:Addr} {Q:Unit->Shared->Prop}
theorem Nv{oe:Obj}{vs:Array Value}{head:Value}{hadNext:Bool}(hfr:A.frames=some (env::outer))(hl:s.heap.FunFrames base (env::outer))(hf:env.frame=some L)
  (hNf:∀b∈frs (env::outer),¬N b) (hNn:∀b,s.heap.objs.size<=b->N b) (hNe:N e) (he:s.heap.get? e=some oe) (hc:oe.cls = .ref C/\oe.dict=none/\NoCtx oe) (hd:oe.data = .fields vs) (hsz:1<vs.size)
  (h:∀h',Pt N (frs (env::outer)) s.heap h'->XAt N h' e C (rawInt L)->Q () { s with heap:=h' }) :
  wpAny M A (do let a <- frameOf env;let pl <- entryPlaceOf L hadNext;let b <- EntryCells.newEntry head a .none (rawInt L) .none pl;setField (.ref e) 1 b) Q E s:=by
 have hef:e∉frs (env::outer):=fun z=>hNf e z hNe
 refine wpAny_bind (wpAny_frameOf_fun hfr hl hf fun h1 hs1=>?_)
 refine wpAny_bind (wpAny_entryPlaceOf fun pl hpl=>?_)
 unfold EntryCells.newEntry newFields
 refine wpAny_bind (wpAny_newObj_type ?_ (hpl.sizeOk5 _ _ _ _ _))
 have he1:h1.get? e=some oe:=(hs1.2.1 e hef).trans he
 have hz1:h1.objs.size=s.heap.objs.size:=hs1.1
 generalize hot:({ cls:=.type "traceback",dict:=none,data:=.fields ([head,.ref L,.none,rawInt L,.none]++(if pl.isEmpty then List.replicate 6 Value.none else pl)).toArray }:Obj)=ot
 have hotd:ot.data = .fields ([head,.ref L,.none,rawInt L,.none]++(if pl.isEmpty then List.replicate 6 Value.none else pl)).toArray:=by rw[<- hot]
 have he2:=Heap.get?_push_of_some (h:=h1) ot he1
 refine wpAny_setField he2 hd hsz (h _ ?_ ?_)
 ·have hTe:h1.objs.size≠e:=Nat.ne_of_gt (Heap.lt_size he1)
  refine⟨fun b o eb nb fb=>?_,fun b o eb nb=>?_,?_⟩
  ·have hb:b≠e:=fun z=>nb (z▸hNe)
   rw[Heap.get?_update_other _ _ (Ne.symm hb)]
   exact Heap.get?_push_of_some _ ((hs1.2.1 b fb).trans eb)
  ·have hb:b≠e:=fun z=>nb (z▸hNe)
   obtain⟨sl,q⟩:=hs1.2.2 b o eb
   exact⟨sl,by rw[Heap.get?_update_other _ _ (Ne.symm hb)];exact Heap.get?_push_of_some _ q⟩
  ·rw[Heap.size_after_update,Heap.size_push,hz1];exact Nat.le_succ _
 ·have hTe:h1.objs.size≠e:=Nat.ne_of_gt (Heap.lt_size he1)
  have hd3:=Obj.data_mapFields hd (·.setIfInBounds 1 (Value.ref h1.objs.size))
  have he3:=Heap.get?_update_self (Obj.mapFields (·.setIfInBounds 1 (Value.ref h1.objs.size))) he2 (Obj.isFreed_of_fields hd3)
  have hT3:=(Heap.get?_update_other (h1.push ot) (Obj.mapFields (·.setIfInBounds 1 (Value.ref h1.objs.size))) (Ne.symm hTe)).trans (Heap.get?_push_size h1 (Obj.isFreed_of_fields hotd))
  refine⟨_,_,h1.objs.size,_,_,he3,⟨(Tq _ _).1.trans hc.1,(Tq _ _).2.trans hc.2.1,hc.2.2.set⟩,hd3,by simp[hsz],hNn _ (by rw[hz1];exact Nat.le_refl _),hTe,hT3,hotd,?_⟩
  first|(simp;done)|(rcases hpl with rfl|⟨_,_,_,_,_,_,_,rfl⟩<;>simp)
theorem SD{oe:Obj}{vs:Array Value}(hfr:A.frames=some (env::outer))(hl:s.heap.FunFrames base (env::outer))(hf:env.frame=some L)
  (hNf:∀b∈frs (env::outer),¬N b) (hNn:∀b,s.heap.objs.size<=b->N b) (hNe:N e) (he:s.heap.get? e=some oe) (hc:oe.cls = .ref C/\oe.dict=none/\NoCtx oe) (hd:oe.data = .fields vs) (h1:vs[1]?=some .none)
  (h:∀h',Pt N (frs (env::outer)) s.heap h'->XAt N h' e C (rawInt L)->Q () { s with heap:=h' }):wpAny M A (noteFrame (.ref e) env) Q E s:=by
 unfold noteFrame
 simp only[hf]
 refine wpAny_bind (wpAny_field he hd h1 ?_)
 rw[if_neg (by decide)]
 exact Nv hfr hl hf hNf hNn hNe he hc hd (Array.getElem?_eq_some_iff.mp h1).1 h
theorem Ut(hfr:A.frames=some (env::outer))(hl:s.heap.FunFrames base (env::outer))(hf:env.frame=some L)
  (hNf:∀b∈frs (env::outer),¬N b) (hNn:∀b,s.heap.objs.size<=b->N b) (hNe:N e) (x:XAt N s.heap e C .none)
  (h:∀h',Pt N (frs (env::outer)) s.heap h'->XAt N h' e C (rawInt L)->Q () { s with heap:=h' }):wpAny M A (noteFrame (.ref e) env) Q E s:=by
 obtain⟨oe,vs,T,oT,ts,he,hc,hd,h1,hNT,hTe,hT,hdT,h3⟩:=x
 unfold noteFrame
 simp only[hf]
 refine wpAny_bind (wpAny_field he hd h1 ?_)
 rw[if_pos (show(Value.ref T != Value.none)=true from by simp)]
 refine wpAny_bind (wpAny_field hT hdT h3 ?_)
 rw[if_neg (show ¬((Value.none==rawInt L)=true) from by simp[rawInt])]
 refine wpAny_bind (wpAny_setField hT hdT (Array.getElem?_eq_some_iff.mp h3).1 ?_)
 have other:∀b,b≠T->(s.heap.update T (Obj.mapFields (·.setIfInBounds 3 Value.none))).get? b=s.heap.get? b:=fun b hb=>Heap.get?_update_other _ _ (Ne.symm hb)
 have hsz:(s.heap.update T (Obj.mapFields (·.setIfInBounds 3 Value.none))).objs.size=s.heap.objs.size:=Heap.size_after_update ..
 have p1:Pt N (frs (env::outer)) s.heap (s.heap.update T (Obj.mapFields (·.setIfInBounds 3 Value.none))) :=
  ⟨fun b o eb nb _=>(other b fun z=>nb (z▸hNT)).trans eb,fun b o eb nb=>⟨o.slots,(other b fun z=>nb (z▸hNT)).trans eb⟩,Nat.le_of_eq hsz.symm⟩
 refine Nv (s:={ s with heap:=s.heap.update T (Obj.mapFields (·.setIfInBounds 3 Value.none)) }) (base:=base) hfr (Qw p1 hNf hl) hf hNf (fun b hb=>hNn b (by rw[<- hsz];exact hb)) hNe ((other e (Ne.symm hTe)).trans he) hc hd (Array.getElem?_eq_some_iff.mp h1).1 fun h' p2 x2=>?_
 exact h h' (p1.trans p2) x2
theorem Mn{fl:Value}{fs:List Addr}(x:XAt N s.heap e C fl)(hNe:N e)(h:∀h',Pt N fs s.heap h'->XAt N h' e C .none->Q () { s with heap:=h' }):wpAny M A (setFlight (.ref e) none) Q E s:=by
 obtain⟨oe,vs,T,oT,ts,he,hc,hd,h1,hNT,hTe,hT,hdT,h3⟩:=x
 have hsz3:3<ts.size:=(Array.getElem?_eq_some_iff.mp h3).1
 have other:∀b,b≠T->(s.heap.update T (Obj.mapFields (·.setIfInBounds 3 ((none:Option Addr).elim Value.none fun f=>rawInt f)))).get? b=s.heap.get? b :=
  fun b hb=>Heap.get?_update_other _ _ (Ne.symm hb)
 unfold setFlight
 refine wpAny_bind (wpAny_field he hd h1 ?_)
 rw[if_pos (show(Value.ref T != Value.none)=true from by simp)]
 refine wpAny_setField hT hdT hsz3 (h _ ⟨fun b o eb nb _=>(other b fun z=>nb (z▸hNT)).trans eb,fun b o eb nb=>⟨o.slots,(other b fun z=>nb (z▸hNT)).trans eb⟩,Nat.le_of_eq (Heap.size_after_update ..).symm⟩ ?_)
 exact⟨oe,vs,T,_,_,(other e (Ne.symm hTe)).trans he,hc,hd,h1,hNT,hTe,Heap.get?_update_self _ hT (Obj.isFreed_of_fields (Obj.data_mapFields hdT _)),Obj.data_mapFields hdT _,by simp[hsz3]⟩
end
end L2
end
section
namespace L2
open PySem PySem.Spec PyProof.Rows
theorem ObjOk.some{P:Program}{w:World}{H:Hp}{h:Heap}{a:Addr}{o:HO}(x:ObjOk P w H h a o):∃u,h.get? a=Option.some u:=by
 cases o with
 |lst xs=>obtain⟨_,_,_,_,e⟩:=x;exact⟨_,e⟩
 |tup xs=>obtain⟨_,_,_,o,e,_⟩:=x;exact⟨_,e⟩
 |dK kvs=>obtain⟨_,_,_,_,o,_,_,e,_⟩:=x;exact⟨_,e⟩
 |dT kvs=>obtain⟨_,_,_,_,o,_,_,e,_⟩:=x;exact⟨_,e⟩
 |set S n=>obtain⟨o,_,_,_,e,_⟩:=x;exact⟨_,e⟩
 |ins C dx fs=>obtain⟨_,_,_,e,_⟩:=x;exact⟨_,e⟩
 |own y=>obtain⟨_,e⟩:=x;exact⟨_,e⟩
 |xd fs=>obtain⟨_,⟨_,_,_,e,_⟩,_⟩:=x;exact⟨_,e⟩
 |rng lo hi=>obtain⟨_,_,_,e⟩:=x;exact⟨_,e⟩
 |frz ob u=>obtain⟨e,_⟩:=x;exact⟨_,e⟩
 |tbl ps=>exact⟨_,(show h.get? a=Option.some _ from x)⟩
 |met f y=>exact⟨_,(show h.get? a=Option.some _ from x)⟩
 |ext φ=>obtain⟨_,⟨_,e⟩,_⟩:=x;exact⟨_,e⟩
def Nw(h:Heap)(H:Hp):Addr->Prop:=fun b=>h.get? b=none/\H b=none
theorem XAt.mono{N N':Addr->Prop}{h:Heap}{e C:Addr}{fl:Value}(x:XAt N h e C fl)(k:∀b,N b->N' b):XAt N' h e C fl:=by
 obtain⟨oe,vs,T,oT,ts,he,hc,hd,h1,hNT,r⟩:=x
 exact⟨oe,vs,T,oT,ts,he,hc,hd,h1,k T hNT,r⟩
theorem Nw.fresh{P:Program}{w:World}{h h':Heap}{H:Hp}(hok:HOk P w H h')(k:∀b o,h.get? b=some o->∃o',h'.get? b=some o'){b:Addr}(hb:h'.objs.size<=b):Nw h H b:=by
 refine⟨?_,hok.fresh hb⟩
 cases q:h.get? b with
 |none=>rfl
 |some o =>
  obtain⟨o',e⟩:=k b o q
  exact absurd (Nat.lt_of_lt_of_le (Heap.lt_size e) hb) (Nat.lt_irrefl _)
def CXr(P:Program)(w:World):CXT:=fun outer H s E e s'=>∃(ea C:Addr) (H':Hp),e = .ref ea/\s'.os=s.os/\AllBare s'.gens/\Un (frs outer) [] H H' s.heap s'.heap/\HOk P w H' s'.heap/\Nw s.heap H' ea/\XAt (Nw s.heap H') s'.heap ea C .none/\E (.ref C) none H'
def Ll(X:Cx)(C:Addr)(E:XK):Prop:=∀(pins:List (Addr×Obj)) (σ:St) (H:Hp) (s:Shared) (h':Heap) (e:Addr) (vs:List Value),Inv X pins σ H s->Heap.MadeExcOf s.heap h' e (.ref C) vs->E (.ref C) none H->X.xe (.ref e) { s with heap:=h' }
theorem Wo{N:Addr->Prop}{fs gs:List Addr}{H H1:Hp}{h h1 h2:Heap}(u:Un fs [] H H1 h h1)(p:Pt N gs h1 h2)(hN:∀b o,h.get? b=some o->¬N b)(hg:∀b o,h.get? b=some o->b∈gs->b∈fs):Un fs [] H H1 h h2 where
 keep:=fun b o q n hb hx=>p.same b o (u.keep b o q n hb hx) (hN b o q) fun z=>hb (hg b o q z)
 slot:=fun b o q n hb hx=>by
  obtain⟨sl,e⟩:=u.slot b o q n hb hx
  obtain⟨sl',e'⟩:=p.slot b _ e (hN b o q)
  exact⟨sl',e'⟩
 free:=u.free
 there:=fun b o q hx=>by
  obtain⟨o',e⟩:=u.there b o q hx
  obtain⟨sl',e'⟩:=p.slot b _ e (hN b o q)
  exact⟨_,e'⟩
 tups:=u.tups
 frzs:=u.frzs
 tbls:=u.tbls
theorem T9{P:Program}{w:World}{N:Addr->Prop}{gs:List Addr}{H:Hp}{h h':Heap}(hok:HOk P w H h)(p:Pt N gs h h')(hN:∀b,N b->H b=none)(hg:∀b∈gs,H b=none):HOk P w H h':=fun a o e=>by
 have tr:∀b x u,H b=some x->h.get? b=some u->h'.get? b=some u:=fun b x u q e1=>p.same b u e1 (fun z=>by rw[hN b z]at q;cases q) fun z=>by rw[hg b z]at q;cases q
 refine(hok a o e).stay (fun b u hb q=>?_) (fun _ q=>q) fun _ _ q=>q
 rcases hb with rfl|hb
 ·exact tr b o u e q
 ·exact tr b _ u hb q
theorem N3{P:Program}{w:World}{K:PySem.W.Frag}{mg:Str->Option Value}{base:Heap}{N:List Str}{qual:Str}{scope:Scope}{f:Addr}{cd:Value}{A:Around}{outer:List Env}{s:Shared}{H:Hp}{E:XK}{C:Addr} :
  Ll (JC (CXr P w) P w K mg base N qual scope f cd A outer s H E) C E:=by
 intro pins σ H1 s1 h' e vs I hx hE
 have hst:=I.stack
 have hfree:=I.stkFree
 have hfr:=I.ok.frames
 have hun:Un (frs outer) [] H H1 s.heap s1.heap:=I.base
 have hok:HOk P w H1 s1.heap:=I.hok
 have hlt:s.heap.objs.size<=s1.heap.objs.size:=I.sz
 change s1.heap.FunFrames base (envOfC qual scope s.heap.objs.size f cd::outer)at hst
 change ∀b∈frs (envOfC qual scope s.heap.objs.size f cd::outer),H1 b=none at hfree
 change (A.deeper (envOfC qual scope s.heap.objs.size f cd)).frames=some (envOfC qual scope s.heap.objs.size f cd::outer)at hfr
 generalize henv:envOfC qual scope s.heap.objs.size f cd=env at hst hfree hfr
 show wpAny (model P w) (A.deeper (envOfC qual scope s.heap.objs.size f cd)) (leaving (envOfC qual scope s.heap.objs.size f cd) (.ref e)) (fun _ s''=>CXr P w outer H s E (.ref e) s'') (fun e' s''=>CXr P w outer H s E e' s'') { s1 with heap:=h' }
 have hf:env.frame=some s.heap.objs.size:=by rw[<- henv];rfl
 rw[henv]
 obtain⟨t,he,_,_⟩:=hx.there
 have hNf:∀b∈frs (env::outer),¬Nw s1.heap H1 b:=fun b hb z=>by
  obtain⟨_,o,ho,_⟩:=hst.mem hb
  rw[z.1]at ho;cases ho
 have hok':HOk P w H1 h':=hok.kept hx.keeps
 have hNn:∀b,h'.objs.size<=b->Nw s1.heap H1 b:=fun b hb=>Nw.fresh hok' (fun c o q=>⟨o,hx.keeps c o q⟩) hb
 have hNe:Nw s1.heap H1 e:=by
  refine⟨hx.new,?_⟩
  cases q:H1 e with
  |none=>rfl
  |some u =>
   obtain⟨v,r⟩:=ObjOk.some (hok e u q)
   rw[hx.new]at r;cases r
 have hun':Un (frs outer) [] H H1 s.heap h':=hun.trans (Un.kept hx.keeps)
 have hold:∀b o,s.heap.get? b=some o->¬Nw s1.heap H1 b:=fun b o q z=>by
  obtain⟨o',r⟩:=hun.there b o q (by simp)
  rw[z.1]at r;cases r
 have hmono : ∀ b, Nw s1.heap H1 b -> Nw s.heap H1 b := fun b z => ⟨by
  cases q:s.heap.get? b with
  |none=>rfl
  |some o=>exact absurd z (hold b o q),z.2⟩
 have hl':h'.FunFrames base (env::outer):=hst.of_keeps fun b o q _=>⟨o,hx.keeps b o q,rfl⟩
 unfold leaving
 refine wpAny_bind (SD (s:={ s1 with heap:=h' }) (base:=base) (N:=Nw s1.heap H1) (C:=C) hfr hl' hf hNf hNn hNe he ⟨rfl,rfl,_,rfl,rfl⟩ rfl rfl fun h2 p1 x1=>?_)
 refine Mn (fs:=frs (env::outer)) x1 hNe fun h3 p2 x2=>?_
 have p:=p1.trans p2
 refine⟨e,C,H1,rfl,I.os,I.bare,Wo hun' p hold (fun b o q z=>?_),T9 hok' p (fun b z=>z.2) hfree,hmono e hNe,x2.mono hmono,hE⟩
 unfold frs at z
 rw[List.filterMap_cons,hf]at z
 rcases List.mem_cons.mp z with z|z
 ·exact absurd (Heap.lt_size q) (by rw[z];exact Nat.lt_irrefl _)
 ·exact z
theorem Ro{K:PySem.W.Frag}{h:Heap}{C:Addr}{bmB:List Value}{newId:String}(X:K.In h)(q:PySem.W.excIn K C bmB newId=true) :
  ∃bm N nm q bs hdct sn sub ab col dd k0 k1 k2 k3 k5 mN,h.get? C=some (excClassObj nm q C N bs bm hdct sn sub ab col dd k0 k1 k2 k3 k5 newId)/\h.Ns N mN/\mN "__init__"=none/\OwnTail h bmB bm:=by
 unfold PySem.W.excIn at q
 split at q
 ·rename_i dd cd sl ho
  split at q
  ·rename_i C' bm k0 k1 k2 k3 n k5 hm hs
   simp only[Bool.and_eq_true,beq_iff_eq,Bool.not_eq_true']at q
   obtain⟨⟨⟨⟨⟨rfl,rfl⟩,hdel⟩,ht⟩,hok⟩,hni⟩:=q
   obtain⟨nm,bs,mro,ns,qn,hd,sn,sub,ab,col,del⟩:=cd
   dsimp only at hm hdel hok hni
   subst hm hdel
   have hsl:sl=#[k0,k1,k2,k3,some (.builtin n),k5]:=by
    obtain⟨l⟩:=sl
    simp only at hs
    rw[hs]
   subst hsl
   exact⟨bm,ns,nm,qn,bs,hd,sn,sub,ab,col,dd,k0,k1,k2,k3,k5,_,X _ _ ho,.of_isNs (PySem.W.isNs_of_in X hok),PySem.W.nsMap_none_of_in X hok hni,PySem.W.tail_of_in X ht⟩
  ·cases q
 ·cases q
def PR(C:Addr)(E:XK)(ta:TA):TS:=fun _ σ H=>ta σ H fun vs H1=>vs.length<=sizeLine/\E (.ref C) none H1
theorem TC{X:Cx}{C:Addr}{E:XK}{x:Str}{np cpos pos:Pos}{e₀:Expr}{A0:List Expr}{ta:TA}{B newId initId:String}{bm:List Value}(ha:PA X (e₀::A0) ta)(hR:Ll X C E)
  (hg:Gl X x) (hm:X.mg x=some (.ref C)) (hq:PySem.W.excIn X.K C bm newId=true) (FB:ExcBaseFacts B newId initId bm) (hh:X.A.handled=none)
  (hplain:(backTo cpos (starEach A0 X.env)).any (·.1)=false:=by rfl) (hd:(x==("__debug__":Str))=false:=by decide)
  (he:starEach (e₀::A0) X.env=(false,eval e₀ X.env)::starEach A0 X.env:=by rfl):PS X (.Raise (some (.Call (.Name x np) (e₀::A0) [] cpos)) none pos) (PR C E ta):=by
 intro pins s σ H D I h
 obtain⟨tl,N,nm,q,bs,hdct,sn,sub,ab,col,dd,k0,k1,k2,k3,k5,mN,hC,hN,hni,T⟩:=Ro I.ok.mod.kin hq
 refine wpAny_Raise_call_subT (C:=C) (nm:=nm) (q:=q) (N:=N) (bs:=bs) (bm:=tl) (hdct:=hdct) (sn:=sn) (sub:=sub) (ab:=ab) (col:=col) (dd:=dd) (k0:=k0) (k1:=k1) (k2:=k2) (k3:=k3) (k5:=k5)
  FB (mN:=mN) (T.hasType FB.hasBase) hh (by rw[he];show(false||(backTo cpos (starEach A0 X.env)).any (·.1))=false;rw[hplain];rfl) hni (GH I hg hm ⟨rfl,?_⟩ hd)
 have hz:=ha cpos pins s σ H _ I h
 rw[he]at hz ⊢
 refine Calls.evalArgs_plain (wpAny_mono hz (fun us s2 ⟨vs,H2,I2,r,z,hE⟩=>⟨rfl,by rw[<- r.length];exact z,I2.bk _ _ hC,hN.keeps I2.bk,T.keeps I2.bk,fun h' e hx=>hR pins σ H2 s2 h' e us I2 hx hE⟩) fun _ _ y=>y)
theorem Rp{M:Model}{A:Around}{E:Value->Shared->Prop}{s:Shared}{K:PySem.W.Frag}{e C D:Addr}{oe:Obj}{Q:Bool->Shared->Prop}(X:K.In s.heap)(he:s.heap.get? e=some oe)(hc:oe.cls = .ref C)
  (h1:PySem.W.typeIn K (.ref D)=some (.type "type")) (h2:(PySem.W.clsIn K D).isSome=true) (h3:PySem.W.subIn K (.ref C) (.ref D)=some true) (h4:PySem.W.subIn K (.ref D) (.type "BaseException")=some true)
  (h:Q true s):wpAny M A (excMatches (.ref e) (.ref D)) Q E s:=by
 have L1:=PySem.W.looks_typeIn (M:=M) X h1
 have L2:PySem.W.Looks M s.heap (isSubtype (.type "type") (.type "tuple")) false:=PySem.W.Looks.of_pure PySem.tc_notTuple
 have L3:=PySem.W.looks_subIn (M:=M) X h3
 have L4:=PySem.W.looks_subIn (M:=M) X h4
 have L5:PySem.W.Looks M s.heap (isType (.ref D)) true:=by
  unfold PySem.W.clsIn at h2
  split at h2
  ·rename_i c' d' cd' sl' ho
   intro A' Q' E' s' k q
   unfold isType loadHead
   exact wpAny_bind (wpAny_loadPart (k _ _ (X _ _ ho)) (wpAny_pure q))
  ·cases h2
 have L6:PySem.W.Looks M s.heap (typeOf (.ref e)) (.ref C):=hc▸(PySem.W.Looks.ld he).andThen .now
 unfold excMatches isInstance isExcClass
 refine wpAny_bind (wpAny_bind (L1.at (L2.at ?_)))
 simp only[Bool.false_eq_true,if_false]
 refine wpAny_bind (wpAny_pure ?_)
 simp only[List.forIn_cons,List.forIn_nil]
 refine wpAny_bind (wpAny_bind (wpAny_bind (wpAny_bind (L5.at ?_))))
 simp only[if_true]
 refine L4.at ?_
 simp only[Bool.not_true,Bool.false_eq_true,if_false]
 refine wpAny_pure (wpAny_pure ?_)
 refine wpAny_bind (L6.at (wpAny_bind (wpAny_bind (wpAny_bind (L3.at ?_)))))
 simp only[if_true]
 exact wpAny_pure (wpAny_pure (wpAny_pure h))
end L2
end
section
namespace L2
open PySem PySem.Spec PyProof.Rows
abbrev Cx.within(X:Cx)(ea:Addr)(oe:Obj):Cx:={ X with A:=X.A.mark (some (.ref ea)),calm:=false,pn:=X.pn++[(ea,oe)],xe:=fun _ _=>False }
theorem Inv.within{X:Cx}{pins:List (Addr×Obj)}{σ:St}{H:Hp}{s:Shared}{ea:Addr}{oe:Obj}(I:Inv X pins σ H s)(h:s.heap.get? ea=some oe/\H ea=none/\ea≠X.env.locals/\ea∉X.fs/\∀v,oe.data≠.cell v) :
  Inv (X.within ea oe) pins σ H s:=by
 have ok:=I.ok
 refine⟨⟨ok.mod,ok.kind,ok.glob,ok.blt,ok.above,ok.inj,ok.has,ok.cab,(fun z=>nomatch z),ok.frames,ok.stk,ok.exf,ok.bs,ok.bsz,ok.noex,ok.exfs,ok.funs,ok.frf⟩,I.os,I.bare,I.base,I.loc,I.cell,I.free,I.freeC,fun p hp=>?_,I.hok,I.len⟩
 rcases List.mem_append.mp hp with hp|hp
 ·rcases List.mem_append.mp hp with hp|hp
  ·exact I.pin p (List.mem_append_left _ hp)
  ·obtain rfl:=List.mem_singleton.mp hp
   exact h
 ·exact I.pin p (List.mem_append_right _ hp)
structure Got1(X:Cx)(pins:List (Addr×Obj))(σ:St)(H H':Hp)(s:Shared)(ea C:Addr)(fl:Value)(s3:Shared):Prop where
 os:s3.os=s.os
 bare:AllBare s3.gens
 un:Un (frs X.stack) [] H H' s.heap s3.heap
 hok:HOk X.prog X.w H' s3.heap
 new:Nw s.heap H' ea
 xat:XAt (Nw s.heap H') s3.heap ea C fl
section
variable {X:Cx} {pins:List (Addr×Obj)} {σ:St} {H H':Hp} {s s3:Shared} {ea C:Addr} {fl:Value}
theorem Got1.inv(g:Got1 X pins σ H H' s ea C fl s3)(I:Inv X pins σ H s):Inv X pins σ H' s3:=I.call' g.os g.un g.hok g.bare fun _ z=>nomatch z
theorem Got1.old{b:Addr}{o:Obj}(e:s.heap.get? b=some o):¬Nw s.heap H' b:=fun z=>by rw[z.1]at e;cases e
theorem Got1.fresh(g:Got1 X pins σ H H' s ea C fl s3):∀b,s3.heap.objs.size<=b->Nw s.heap H' b:=fun b hb=>Nw.fresh g.hok (fun c o q=>g.un.there c o q (by simp)) hb
theorem Got1.step{fl':Value}{h4:Heap}(g:Got1 X pins σ H H' s ea C fl s3)(I:Inv X pins σ H s)(p:Pt (Nw s.heap H') (frs X.stack) s3.heap h4)(x:XAt (Nw s.heap H') h4 ea C fl'):Got1 X pins σ H H' s ea C fl' { s3 with heap:=h4 } :=
 ⟨g.os,g.bare,Wo g.un p (fun b o e=>Got1.old e) fun _ _ _ z=>z,T9 g.hok p (fun b z=>z.2) (g.inv I).stkFree,g.new,x⟩
theorem Got1.pin2(g:Got1 X pins σ H H' s ea C fl s3)(I:Inv X pins σ H s):∃oe,(s3.heap.get? ea=some oe/\H' ea=none/\ea≠X.env.locals/\ea∉X.fs/\∀v,oe.data≠.cell v)/\oe.cls = .ref C/\oe.dict=none/\PySem.W.notCls oe=true/\NoCtx oe:=by
 obtain⟨oe,vs,T,oT,ts,he,hc,hd,_⟩:=g.xat
 refine⟨oe,⟨he,g.new.2,fun z=>?_,fun z=>?_,fun v=>by rw[hd];intro q;cases q⟩,hc.1,hc.2.1,?_,hc.2.2⟩
 ·obtain⟨m,⟨o,_,_,ho,_⟩,_⟩:=I.loc
  have:=g.new.1
  rw[z,ho]at this;cases this
 ·obtain⟨_,o,ho,_⟩:=I.funs.mem z
  have:=g.new.1
  rw[ho]at this;cases this
 ·obtain⟨c,d,dt,sl⟩:=oe
  cases hd
  rfl
theorem Got1.pin(g:Got1 X pins σ H H' s ea C fl s3)(I:Inv X pins σ H s):∃oe,(s3.heap.get? ea=some oe/\H' ea=none/\ea≠X.env.locals/\ea∉X.fs/\∀v,oe.data≠.cell v)/\oe.cls = .ref C/\oe.dict=none/\PySem.W.notCls oe=true:=by
 obtain⟨oe,a,b,c,d,_⟩:=g.pin2 I
 exact⟨oe,a,b,c,d⟩
theorem Got1.lands{M:Model}{A:Around}{E0:Value->Shared->Prop}{R:Shared->Prop}(g:Got1 X pins σ H H' s ea C .none s3)(I:Inv X pins σ H s)(hst:X.stack=X.env::X.outer/\X.env.frame=some X.env.locals)(hA:A.frames=some X.stack)
  (h:∀s4,Got1 X pins σ H H' s ea C .none s4->R s4) :
  wpAny M A (noteFrame (.ref ea) X.env) (fun _ s₂=>wpAny M A (setFlight (.ref ea) none) (fun _ s₃=>R s₃) E0 s₂) E0 s3:=by
 have J:=g.inv I
 have hl:=J.stack
 have hNf:∀b∈frs X.stack,¬Nw s.heap H' b:=fun b hb=>by
  obtain⟨_,o,ho,_⟩:=I.stack.mem hb
  exact Got1.old ho
 rw[hst.1]at hA hl
 refine Ut (base:=X.base) (N:=Nw s.heap H') (C:=C) hA hl hst.2 (by rw[<- hst.1];exact hNf) g.fresh g.new g.xat fun h4 p x=>?_
 rw[<- hst.1]at p
 have g4:=g.step I p x
 refine Mn (fs:=frs X.stack) x g.new fun h5 p5 x5=>?_
 exact h _ (g4.step I p5 x5)
theorem Got1.again{M:Model}{A:Around}{E0:Value->Shared->Prop}{R:Shared->Prop}(g:Got1 X pins σ H H' s ea C .none s3)(I:Inv X pins σ H s)
  (h:∀s4,Got1 X pins σ H H' s ea C .none s4->R s4):wpAny M A (setFlight (.ref ea) none) (fun _ s₃=>R s₃) E0 s3 :=
 Mn (fs:=frs X.stack) g.xat g.new fun h5 p5 x5=>h _ (g.step I p5 x5)
end
structure Nu(K:PySem.W.Frag)(C D:Addr):Prop where
 ty:PySem.W.typeIn K (.ref D)=some (.type "type")
 cl:(PySem.W.clsIn K D).isSome=true
 sub:PySem.W.subIn K (.ref C) (.ref D)=some true
 exc:PySem.W.subIn K (.ref D) (.type "BaseException")=some true
section
variable {X:Cx} {k:Nat} {f C D':Addr} {fd:FuncData} {ps:List Str} {sp:Sp} {x cn:Str} {p pos p1 np hp p2:Pos} {e:Expr} {es:List Expr} {t:TA} {b₀:Stmt} {suite:List Stmt} {ts:Addr->TS}
end
end L2
end
section
namespace L2
open PySem PySem.Spec PyProof.Rows PySem.W
section
variable {prog:Program} {w:World} {A:Around} {E:Value->Shared->Prop} {s:Shared} {K:Frag} {x C:Addr} {ox:Obj}
structure XCls(K:Frag)(C:Addr):Prop where
 ga:findIn K (.ref C) "__getattribute__"=some (some (.builtin "BaseException.__getattribute__"))
 gt:findIn K (.ref C) "__getattr__"=some none
 cl:(clsIn K C).isSome=true
 ha:findIn K (.ref C) "__class__"=some (some (.builtin "object.__class__"))
 hn:specialIn K (.builtin "object.__class__") "__get__"=some (some (.builtin "getset_descriptor.__get__"))
 ht:takesIn K (.builtin "object.__class__")=some true
 ob:mroIn K C (.type "object")=some true
 be:mroIn K C (.type "BaseException")=some true
theorem XCls.cf(c:XCls K C):findObj K C none "__class__"=some (.bind (.builtin "getset_descriptor.__get__") (.builtin "object.__class__")):=by
 obtain⟨cd,hc⟩:=Option.isSome_iff_exists.mp c.cl
 unfold findObj
 rw[hc,Option.bind_some,c.ha,Option.bind_some]
 simp[c.hn,c.ht]
theorem SG{tk:Tok}{Q:Fin->Shared->Prop}(c:XCls K C)(X:K.In s.heap)(I:InstAt s.heap x ox C none)(h:Q (.done (.ret (.ref C))) s) :
  wpAny (model prog w) A (Builtin.«object.__getattribute__» ⟨[.ref x,.str "__class__" tk],[]⟩) Q E s:=by
 obtain⟨hh,g,d,t,os⟩:=s
 have L0:=I.type (M:=model prog w)
 have L1:=looks_find (M:=model prog w) X I c.cf
 unfold Builtin.«object.__getattribute__»
 refine wpAny_bind (wpAny_pure ?_)
 refine wpAny_bind (wpAny_pure ?_)
 refine wpAny_bind (L0.at (wpAny_bind (L1.at ?_)))
 show wpAny _ _ (Builtin.ObjectAttr.bindTo (.builtin "getset_descriptor.__get__") (.builtin "object.__class__") (.ref x) (.ref C)) _ _ _
 unfold Builtin.ObjectAttr.bindTo
 refine wpAny_bind (wpAny_holding (wpAny_call (class_get X I c.ob ?_)))
 exact wpAny_pure h
theorem SI{M:Model}{nv:Value}{Q:Unit->Shared->Prop}(c:XCls K C)(X:K.In s.heap)(I:InstAt s.heap x ox C none)(h:Q () s) :
  wpAny M A (checkBuiltinCall "BaseException.__getattribute__" ⟨[.ref x,nv],[]⟩) Q E s:=by
 obtain⟨hh,g,d,t,os⟩:=s
 have L0:=I.type (M:=M)
 have L1:=looks_mroIn (M:=M) X c.be
 have hk:builtinKind "BaseException.__getattribute__"=some .slot:=by decide +kernel
 have hsplit:splitId "BaseException.__getattribute__"=some ("BaseException","__getattribute__"):=by decide +kernel
 have ha:=F.args_bexc_ga (.ref x) nv
 simp only[checkBuiltinCall,hk,hsplit]
 refine wpAny_bind ?_
 unfold isInstance
 refine wpAny_bind (L0.at (L1.at ?_))
 repeat (first|assumption|wp_step)
theorem SH{Q:Option Value->Shared->Prop}(c:XCls K C)(X:K.In s.heap)(I:InstAt s.heap x ox C none)(h:Q (some (.ref C)) { s with toks:=s.toks+1 }) :
  wpAny (model prog w) A (getAttr? (.ref x) "__class__") Q E s:=by
 obtain⟨hh,g,d,t,os⟩:=s
 have L0:=I.type (M:=model prog w)
 have L1:=looks_findIn (M:=model prog w) X c.ga
 have L2:=looks_findIn (M:=model prog w) X c.gt
 have fb:=F.excAttr_ValueError.ga.bind (.ref x)
 unfold getAttr? getAttrBy? getAttrBy
 refine wpAny_bind (wpAny_mkText (wpAny_bind (wpAny_attempt (wpAny_holding (wpAny_bind (L0.at (wpAny_bind (L1.at ?_))))))))
 have hx2:(onTheHeap (Value.ref C)&&Value.builtin "BaseException.__getattribute__"==Value.builtin "object.__getattribute__")=false:=by
  rw[show(Value.builtin "BaseException.__getattribute__"==Value.builtin "object.__getattribute__")=false by decide +kernel,Bool.and_false]
 simp only[hx2,Bool.false_eq_true,if_false]
 unfold getAttrByItsOwn hookBefore callGetattribute boundAndCalled
 rw[if_pos (show onTheHeap (Value.ref C)=true from rfl)]
 refine wpAny_bind (L2.at ?_)
 refine wpAny_bind (wpAny_attempt (wpAny_holding ?_))
 simp only[Bool.false_and,Bool.false_eq_true,if_false]
 rw[fb]
 refine wpAny_bind (wpAny_pure (wpAny_call (codeAny_call_builtin F.excAttr_ValueError.ga.plain F.entry_bexc_ga (SI c X I (SG c X I ?_)))))
 exact handed_on rfl (wpAny_pure h)
theorem Ob(c:XCls K C):KitX K (.ref x) (.ref C) (fun h=>InstAt h x ox C none) where
 ty:=fun _ _ _ I=>I.type
 it:=fun _ _ X _=>by
  have hcl:=c.cl
  unfold clsIn at hcl
  split at hcl
  ·rename_i c' d' cd' sl' ho
   intro A' Q' E' s' k q
   unfold isType loadHead
   exact wpAny_bind (wpAny_loadPart (k _ _ (X _ _ ho)) (wpAny_pure q))
  ·cases hcl
 ne:=fun h tp dd its n sl X htp=>by
  refine Bool.eq_false_iff.mpr fun q=>?_
  have e:C=tp:=Value.ref.inj (beq_iff_eq.mp q)
  subst e
  have hcl:=c.cl
  unfold clsIn at hcl
  split at hcl
  ·rename_i c' d' cd' sl' ho
   have z:=(X _ _ ho).symm.trans htp
   cases z
  ·cases hcl
 ca:=fun X I k=>SH c X I k
end
section
variable {X:Cx} {ea C:Addr} {oe:Obj}
end
end L2
end
section
namespace L2
open PySem PySem.Spec PyProof.Rows
theorem Inv.gone{X:Cx}{pins:List (Addr×Obj)}{σ:St}{H:Hp}{s:Shared}{h':Heap}{m':Str->Option Value}{t':Nat}(I:Inv X pins σ H s)(hn:h'.Ns X.env.locals m')(hs:Heap.SameBut X.env.locals s.heap h') :
  Inv X pins (σ.map fun _=>none) H { s with heap:=h',toks:=t' }:=by
 refine⟨I.ok,I.os,I.bare,⟨fun b o e n hb hx=>?_,fun b o e n hb hx=>?_,I.base.free,fun b o e hx=>?_,I.base.tups,I.base.frzs,I.base.tbls⟩,⟨_,hn,fun j y v' e1 e2 e3=>?_⟩,fun y c e=>?_,I.free,I.freeC,fun p hp=>?_,fun b ob e=>?_,by simpa using I.len⟩
 ·exact(hs.2 b (Nat.ne_of_lt (Nat.lt_of_lt_of_le (Heap.lt_size e) I.ok.above))).trans (I.base.keep b o e n hb hx)
 ·obtain⟨sl,e1⟩:=I.base.slot b o e n hb hx
  exact⟨sl,(hs.2 b (Nat.ne_of_lt (Nat.lt_of_lt_of_le (Heap.lt_size e) I.ok.above))).trans e1⟩
 ·obtain⟨o',e1⟩:=I.base.there b o e hx
  exact⟨o',(hs.2 b (Nat.ne_of_lt (Nat.lt_of_lt_of_le (Heap.lt_size e) I.ok.above))).trans e1⟩
 ·rw[List.getElem?_map]at e2
  cases q:σ[j]? with
  |none=>rw[q]at e2;cases e2
  |some z=>rw[q]at e2;cases e2
 ·obtain⟨w',z⟩:=I.cell y c e
  exact⟨w',z.sameBut hs (I.cne y c e)⟩
 ·obtain⟨e,n,ne,nf,d⟩:=I.pin p hp
  exact⟨(hs.2 p.1 ne).trans e,n,ne,nf,d⟩
 ·refine(I.hok b ob e).stay (fun c w' hc q=>(hs.2 c ?_).trans q) (fun _ q=>q) fun _ _ q=>q
  rintro rfl
  rcases hc with rfl|hc
  ·rw[I.free]at e;cases e
  ·rw[I.free]at hc;cases hc
section
variable {X:Cx} {k i:Nat} {f C D':Addr} {fd:FuncData} {ps:List Str} {sp:Sp} {x cn n:Str} {p pos p1 np hp p2:Pos} {e:Expr} {es:List Expr} {t:TA} {b₀:Stmt} {suite:List Stmt} {ts:Addr->TS}
end
end L2
end
section
namespace L2
open PySem PySem.Spec PyProof.Rows
theorem Fun.okX{P:Program}{w:World}{K:PySem.W.Frag}{mg:Str->Option Value}{base:Heap}{x qual:Str}{st:Stmt}{f:Addr}{fd:FuncData}{N ps:List Str}{k:Nat}{sp:Sp}(F:Fun K x qual st f fd)(S:Ei N ps (AZ st))(len:∀vs H Q E,sp vs H Q E->vs.length=ps.length)
  (hbody : ∀ (cdv : Value) (A : Around) (outer : List Env) (s : Shared) (H : Hp) (vs : List V) (Q : VK) (E : XK), Room k (A.deeper (envOfC qual (AZ st) s.heap.objs.size f cdv)) -> sp vs H Q E ->
   ∃t,PSs (JC (CXr P w) P w K mg base N qual (AZ st) f cdv A outer s H E) (CH st) t/\t { nx:=fun _ H'=>Q .non H',rt:=Q } (start N vs) H):FnOk P w K mg base (CXr P w) (k+1) f fd ps sp:=by
 obtain⟨oc,od,kV,doc,pm,an,cdv,ct,osl,rfl,lk,hcd⟩:=F.ex
 exact XE lk hcd S len fun A outer s H vs Q E hr hsp=>hbody cdv A outer s H vs Q E hr hsp
end L2
namespace DL
open PySem L2
instance {i j:Int}:Decidable (XS i j):=by unfold XS Bd;infer_instance
end DL
end
section
namespace L2
open PySem PySem.Spec PyProof.Rows
def Its(x:Str):It:=⟨fun i _=>i<x.cps.size,fun i H v H'=>∃c,x.cps[i]?=some c/\H'=H/\v = .str ⟨#[c]⟩,fun i _=>x.cps.size<=i⟩
theorem MJ{P:Program}{w:World}{K:PySem.W.Frag}{tg:Expr}(x:Str)(t:Tok)(it:Addr)(n:String)
  (hn:["enumerate","zip","dict_itemiterator","dict_reverseitemiterator","odict_iterator","itertools.zip_longest","itertools.pairwise"].contains n=false)
  (nx : ∀ {A : Around} {E : Value -> Shared -> Prop} {s : Shared} {i c : Nat} {Q : Option Value -> Shared -> Prop}, s.heap.IsStrIter it n x t i -> x.cps[i]? = some c ->
   (∀h',h'.IsStrIter it n x t (i+1)->Heap.SameBut it s.heap h'->Q (some (.str ⟨#[c]⟩ s.toks)) { s with heap:=h',toks:=s.toks+1 })->wpAny (model P w) A (pyNext (.ref it)) Q E s)
  (en : ∀ {A : Around} {E : Value -> Shared -> Prop} {s : Shared} {i : Nat} {Q : Option Value -> Shared -> Prop}, A.handled = none -> s.heap.IsStrIter it n x t i -> x.cps[i]? = none ->
   (∀h',Heap.ExtBut it s.heap h'->Q none { s with heap:=h' })->wpAny (model P w) A (pyNext (.ref it)) Q E s)
  (sf:∀{A:Around} {E:Value->Shared->Prop} {s:Shared} {i:Nat} {Q:Value->Shared->Prop},s.heap.IsStrIter it n x t i->Q (.ref it) s->wpAny (model P w) A (pyIter (.ref it)) Q E s) :
  Turn P w K tg (Its x) [it] it (fun i h=>h.IsStrIter it n x t i) where
 mem:=by simp
 obj:=fun i h st b hb=>by
  have e:b=it:=by simpa using hb
  subst e
  obtain⟨o,e,c,d⟩:=st
  exact⟨o,e,fun v z=>by rw[d]at z;cases z⟩
 keep:=fun i h h' st k=>let ⟨o,e,r⟩:=st;⟨o,k it (by simp) o e,r⟩
 item:=by
  intro X hP hw hK hc i pins s σ H E I hf st hg
  subst hP hw hK
  have hlt:i<x.cps.size:=hg
  have hx:x.cps[i]?=some x.cps[i]:=Array.getElem?_eq_getElem hlt
  obtain⟨f0,f1,f2,f3,f4,f5⟩:=hf it (by simp)
  refine nx st hx fun h' st' sb=>?_
  have I1:Inv X pins σ H { s with heap:=h',toks:=s.toks+1 }:=I.turned (fun b o hb e=>(sb.2 b hb).trans e) f0 f1 f3 f4 f5
  obtain⟨o,e,c,d⟩:=id st'
  exact⟨_,rfl,Ol (s:={ s with heap:=h',toks:=s.toks+1 }) e c d hn ⟨.str ⟨#[x.cps[i]]⟩,H,I1,⟨_,rfl⟩,⟨_,hx,rfl,rfl⟩,st',fun b hb=>(hf b hb).1⟩⟩
 done:=by
  intro X hP hw hK hc i pins s σ H E I hf st hg
  subst hP hw hK
  obtain⟨f0,f1,f2,f3,f4,f5⟩:=hf it (by simp)
  exact en (I.ok.hd hc) st (Array.getElem?_eq_none hg) fun h' eb=>⟨rfl,I.turned (t':=s.toks) (fun b o hb e=>eb b o hb e) f0 f1 f3 f4 f5⟩
 self:=fun _ _ _ _ _ st h=>sf st h
theorem SV{P:Program}{w:World}{K:PySem.W.Frag}{tg:Expr}(x:Str)(t:Tok)(it:Addr):Turn P w K tg (Its x) [it] it (fun i h=>h.IsStrIter it (strIterType x) x t i):=by
 unfold strIterType
 split
 ·exact MJ x t it _ (by decide) (fun a b c=>wpAny_pyNext_ascii_item a b c) (fun a b c d=>wpAny_pyNext_ascii_end a b c d) (fun a b=>wpAny_pyIter_striter_ascii a b)
 ·exact MJ x t it _ (by decide) (fun a b c=>wpAny_pyNext_wide_item a b c) (fun a b c d=>wpAny_pyNext_wide_end a b c d) (fun a b=>wpAny_pyIter_striter_wide a b)
def bS(tl:TE):TI:=fun σ H R=>tl σ H fun v H1=>∃x,v = .str x/\R (Its x) H1
theorem X0{X:Cx}{tg l:Expr}{tl:TE}(hl:PE X l tl):PI X tg l (bS tl):=by
 intro pins s σ H R I h
 refine thn (hl pins s σ H _ I h) fun v s1 ⟨x,H1,I1,r1,q1⟩=>?_
 obtain⟨z,rfl,q⟩:=q1
 obtain⟨t,rfl⟩:=r1
 refine wpAny_pyIter_strU ?_
 refine⟨s1.heap.objs.size,[s1.heap.objs.size],_,_,H1,rfl,I1.kept (t':=s1.toks) fun b o e=>Heap.get?_push_of_some _ e,SV z t _,⟨_,Heap.get?_push_size _ rfl,rfl,rfl⟩,fun b hb=>?_,q⟩
 have e:b=s1.heap.objs.size:=by simpa using hb
 subst e
 exact I1.fpOk (Nat.le_refl _) (I1.hok.fresh (Nat.le_refl _))
end L2
namespace DL
open PySem L2 PyProof.Rows
variable {K:KW}
def chD(x:Str):List PyData:=x.cps.toList.map fun c=>.str ⟨#[c]⟩
def dIS(f:DX)(τ:DS):Option (List PyData×DS):=(f τ).bind fun p=>match p.1 with
 |.str x=>some (chD x,p.2)
 |_=>none
theorem YX{fr:Bool}{t:TE}{f:DX}(h:E K t fr f):IT K (bS t) (dIS f):=by
 refine⟨fun τ d τ' e=>?_,?_⟩
 ·unfold dIS at e
  obtain⟨⟨x,τ1⟩,e1,e⟩:=oB e
  dsimp only at e
  split at e
  ·cases e;exact h.like _ _ _ e1
  ·cases e
 intro S M τ σ H Q ds τ' r e q
 unfold dIS at e
 obtain⟨⟨x,τ1⟩,e1,e⟩:=oB e
 dsimp only at e
 split at e
 ·rename_i z
  cases e
  refine h.weak.run S M τ σ H _ _ _ r e1 fun v H1 r1 c1 i1=>?_
  cases (show v = .str z from i1)
  refine⟨z,rfl,q _ H1 r1 c1 fun S2 H2 k=>⟨fun i d e=>?_,fun i hi=>?_⟩⟩
  ·unfold chD at e
   rw[List.getElem?_map,Array.getElem?_toList]at e
   obtain⟨c,hc,rfl⟩:=oM e
   refine⟨(Array.getElem?_eq_some_iff.mp hc).1,fun x H3 ⟨c',hc',h1,h2⟩=>⟨h1,?_⟩⟩
   rw[hc]at hc';cases hc'
   exact h2
  ·show z.cps.size<=i
   unfold chD at hi
   simpa using hi
 ·cases e
def Ot:PyData->PyData->Option PyData
 |.str i,.str j=>some (.bool (!(Builtin.Str.occurrences j i 0 j.length 1).isEmpty))
 |_,_=>none
theorem bC:OR K false (fun x y H Q=>∃i j,x = .str i/\y = .str j/\Q (.bl (!(Builtin.Str.occurrences j i 0 j.length 1).isEmpty)) H) Ot:=by
 intro S H x y dx dy d Q _ ix iy e q
 unfold Ot at e
 split at e
 ·rename_i i j
  cases e
  exact⟨i,j,ix,iy,q _ H (fun _ _ e=>e) rfl⟩
 ·cases e
mutual
def Bb(K:KW):PyData->Value->Bool
 |.int i,.int j _=>decide (i=j)
 |.str x,.str y _=>decide (x=y)
 |.tuple ds,.ref a=>match K.fr.lookup a with
  |some ⟨.type "tuple",_,.seq its _,_⟩=>decide (its.size<=1000)&&constInL K ds its.toList
  |_=>false
 |_,_=>false
def constInL(K:KW):List PyData->List Value->Bool
 |[],[]=>true
 |d::ds,v::vs=>Bb K d v&&constInL K ds vs
 |_,_=>false
end
mutual
theorem O4:∀{d:PyData} {u:Value},Bb K d u=true->∃v,RelV v u/\∀H,Is K H d v
 |.int i,u,h=>by
  cases u<;>first|(unfold Bb at h;cases h;done)|(unfold Bb at h;cases of_decide_eq_true h;exact⟨.int i,⟨_,rfl⟩,fun _=>rfl⟩)
 |.str x,u,h=>by
  cases u<;>first|(unfold Bb at h;cases h;done)|(unfold Bb at h;cases of_decide_eq_true h;exact⟨.str x,⟨_,rfl⟩,fun _=>rfl⟩)
 |.tuple ds,.ref a,h=>by
  unfold Bb at h
  split at h
  ·rename_i dd its n sl ho
   obtain⟨h1,h2⟩:=Bool.and_eq_true_iff.mp h
   obtain⟨vs,r,hl⟩:=constL_is h2
   exact⟨.ref a,rfl,fun H=>⟨a,vs,rfl,.inr ⟨_,its,n,ho,rfl,rfl,Nat.le_trans (of_decide_eq_true h1) (by decide),r⟩,hl H⟩⟩
  ·cases h
 |.tuple ds,.none,h=>by unfold Bb at h;cases h
 |.tuple ds,.bool _,h=>by unfold Bb at h;cases h
 |.tuple ds,.int _ _,h=>by unfold Bb at h;cases h
 |.tuple ds,.str _ _,h=>by unfold Bb at h;cases h
 |.none,u,h=>by cases u<;>(unfold Bb at h;cases h)
 |.bool _,u,h=>by cases u<;>(unfold Bb at h;cases h)
 |.list _,u,h=>by cases u<;>(unfold Bb at h;cases h)
 |.dict _,u,h=>by cases u<;>(unfold Bb at h;cases h)
theorem constL_is:∀{ds:List PyData} {us:List Value},constInL K ds us=true->∃vs,Vals vs us/\∀H,IsL K H ds vs
 |[],[],_=>⟨[],.nil,fun _=>rfl⟩
 |d::ds,u::us,h=>by
  unfold constInL at h
  obtain⟨h1,h2⟩:=Bool.and_eq_true_iff.mp h
  obtain⟨v,r,i⟩:=O4 h1
  obtain⟨vs,rs,is⟩:=constL_is h2
  exact⟨v::vs,.cons r rs,fun H=>⟨v,vs,rfl,i H,is H⟩⟩
 |[],_::_,h=>by cases h
 |_::_,[],h=>by cases h
end
def KdL(K:KW)(w:World):List DictEntry->List (Str×PyData)->Prop
 |[],[]=>True
 |e::es,p::tb=>(∃t,e.key = .str p.1 t)/\e.hash=hashStr w p.1/\Bb K p.2 e.val=true/\KdL K w es tb
 |_,_=>False
structure KD(K:KW)(w:World)(a:Addr)(tb:List (Str×PyData)):Prop where
 ex:∃es n,K.fr.lookup a=some ⟨.type "dict",none,.dict es n,#[]⟩/\KdL K w es.toList tb
def Jg:List (Str×PyData)->Str->Option PyData
 |[],_=>none
 |p::r,k=>if p.1=k then some p.2 else Jg r k
theorem C5{k x:Str}{t:Tok}:Value.isStrOf k (.str x t)=decide (k=x):=by
 unfold Value.isStrOf
 by_cases h:k=x
 ·subst h
  rw[decide_eq_true rfl]
  first|exact beq_self_eq_true _|simp
 ·rw[decide_eq_false h]
  first|exact beq_eq_false_iff_ne.mpr (Ne.symm h)|(simp;exact Ne.symm h)
theorem Qp{w:World}:∀{es:List DictEntry} {tb:List (Str×PyData)},KdL K w es tb->∀e∈es,∃k,Value.isStrOf k e.key=true/\e.hash=hashStr w k
 |[],_,_,e,h=>nomatch h
 |x::es,[],h,_,_=>h.elim
 |x::es,p::tb,⟨⟨t,hk⟩,hh,_,r⟩,e,h=>by
  rcases List.mem_cons.mp h with rfl|h
  ·exact⟨p.1,by rw[hk,C5];exact decide_eq_true rfl,hh⟩
  ·exact Qp r e h
end DL
end
section
namespace DL
open PySem L2
variable {K:KW}
section
variable {S S':Addr->Prop} {H:Hp}
mutual
theorem Dp.is(k:TSm (hid S H) (hid S' H)):∀{d:PyData} {v:V} {F:List Addr},(∀a∈F,¬S' a)->Dp K S H d v F->Is K (hid S' H) d v
 |.none,_,_,_,h=>h.1
 |.bool _,_,_,_,h=>h.1
 |.int _,_,_,_,h=>h.1
 |.str _,_,_,_,h=>h.1
 |.tuple _,_,_,f,⟨a,vs,e,h,l⟩=>⟨a,vs,e,k.tup h,DpL.is k f l⟩
 |.list _,_,_,f,⟨a,vs,G,e,e2,h,l⟩=>⟨a,vs,e,hid_iff.mpr ⟨f a (by rw[e2];exact List.mem_cons_self ..),h⟩,DpL.is k (fun b hb=>f b (by rw[e2];exact List.mem_cons_of_mem _ hb)) l⟩
theorem DpL.is(k:TSm (hid S H) (hid S' H)):∀{ds:List PyData} {vs:List V} {F:List Addr},(∀a∈F,¬S' a)->DpL K S H ds vs F->IsL K (hid S' H) ds vs
 |[],_,_,_,h=>h.1
 |_::_,_,_,f,⟨x,xs,F1,F2,e,e2,h,l⟩=>⟨x,xs,e,Dp.is k (fun b hb=>f b (by rw[e2];exact List.mem_append_left _ hb)) h,DpL.is k (fun b hb=>f b (by rw[e2];exact List.mem_append_right _ hb)) l⟩
end
mutual
theorem Dp.lst:∀{d:PyData} {v:V} {F:List Addr},Dp K S H d v F->∀a∈F,∃vs,H a=some (.lst vs)
 |.none,_,_,h,a,q=>by rw[h.2]at q;cases q
 |.bool _,_,_,h,a,q=>by rw[h.2]at q;cases q
 |.int _,_,_,h,a,q=>by rw[h.2]at q;cases q
 |.str _,_,_,h,a,q=>by rw[h.2]at q;cases q
 |.tuple _,_,_,⟨_,vs,e,h,l⟩,a,q=>DpL.lst l a q
 |.list _,_,_,⟨b,vs,G,e,e2,h,l⟩,a,q=>by
  rw[e2]at q
  rcases List.mem_cons.mp q with rfl|q
  ·exact⟨vs,h⟩
  ·exact DpL.lst l a q
theorem DpL.lst:∀{ds:List PyData} {vs:List V} {F:List Addr},DpL K S H ds vs F->∀a∈F,∃vs,H a=some (.lst vs)
 |[],_,_,h,a,q=>by rw[h.2]at q;cases q
 |_::_,_,_,⟨x,xs,F1,F2,e,e2,h,l⟩,a,q=>by
  rw[e2]at q
  rcases List.mem_append.mp q with q|q
  ·exact Dp.lst h a q
  ·exact DpL.lst l a q
end
mutual
theorem Dp.fix:∀{d:PyData} {v:V},DN d=true->Is K (hid S H) d v->Dp K S H d v []
 |.none,_,_,h=>⟨h,rfl⟩
 |.bool _,_,_,h=>⟨h,rfl⟩
 |.int _,_,_,h=>⟨h,rfl⟩
 |.str _,_,_,h=>⟨h,rfl⟩
 |.tuple _,_,f,⟨a,vs,e,h,l⟩=>⟨a,vs,e,h,DpL.fix f l⟩
 |.list _,_,f,_=>absurd f Bool.false_ne_true
 |.dict _,_,f,_=>absurd f Bool.false_ne_true
theorem DpL.fix:∀{ds:List PyData} {vs:List V},fixDs ds=true->IsL K (hid S H) ds vs->DpL K S H ds vs []
 |[],_,_,h=>⟨h,rfl⟩
 |_::_,_,f,⟨x,xs,e,h,l⟩=>⟨x,xs,[],[],e,rfl,Dp.fix (by rw[fixDs,Bool.and_eq_true]at f;exact f.1) h,DpL.fix (by rw[fixDs,Bool.and_eq_true]at f;exact f.2) l⟩
end
mutual
theorem Dp.unfix:∀{d:PyData} {v:V} {F:List Addr},DN d=true->Dp K S H d v F->F=[]/\Is K (hid S H) d v
 |.none,_,_,_,h=>⟨h.2,h.1⟩
 |.bool _,_,_,_,h=>⟨h.2,h.1⟩
 |.int _,_,_,_,h=>⟨h.2,h.1⟩
 |.str _,_,_,_,h=>⟨h.2,h.1⟩
 |.tuple _,_,_,f,⟨a,vs,e,h,l⟩=>let ⟨z,y⟩:=DpL.unfix f l;⟨z,a,vs,e,h,y⟩
 |.list _,_,_,f,_=>absurd f Bool.false_ne_true
 |.dict _,_,_,f,_=>absurd f Bool.false_ne_true
theorem DpL.unfix:∀{ds:List PyData} {vs:List V} {F:List Addr},fixDs ds=true->DpL K S H ds vs F->F=[]/\IsL K (hid S H) ds vs
 |[],_,_,_,h=>⟨h.2,h.1⟩
 |_::_,_,_,f,⟨x,xs,F1,F2,e,e2,h,l⟩=>by
  rw[fixDs,Bool.and_eq_true]at f
  obtain⟨rfl,y1⟩:=Dp.unfix f.1 h
  obtain⟨rfl,y2⟩:=DpL.unfix f.2 l
  exact⟨e2,x,xs,e,y1,y2⟩
end
end
def mem(F:List Addr)(b:Addr):Prop:=b∈F
end DL
end
section
namespace DL
open PySem L2
variable {K:KW}
theorem RF.newG{F:Frm}{S M:Addr->Prop}{τ:DS}{σ:St}{H:Hp}(f:RF K F S M τ σ H){X:List Addr}{i:Nat}{d:PyData}{v:V}(hi:i<τ.length)(hnp:F.ar.length<=i)(hS:∀a∈X,S a)(hM:∀a∈X,¬M a)(hF:∀a∈X,F.H a=none)(hn:X.Nodup)
  (h:DpT K S H d v X):RF K F S (fun b=>M b\/b∈X) (τ.set i (some (.g d))) (σ.set i (some v)) H:=by
 have hs:i<σ.length:=by rw[f.r.len];exact hi
 have ne:∀j,j≠i->(τ.set i (some (.g d)))[j]?=τ[j]?:=fun j hj=>List.getElem?_set_ne (Ne.symm hj)
 have ne':∀j,j≠i->(σ.set i (some v))[j]?=σ[j]?:=fun j hj=>List.getElem?_set_ne (Ne.symm hj)
 have se:(τ.set i (some (.g d)))[i]?=some (some (.g d)):=List.getElem?_set_self hi
 have se':(σ.set i (some v))[i]?=some (some v):=List.getElem?_set_self hs
 have own:∀(j:Nat) (ys:Ow),(τ.set i (some (.g d)))[j]?=some (some ys.L)->j≠i/\τ[j]?=some (some ys.L):=fun j ys e=>by
  by_cases hj:j=i
  ·subst hj;rw[se]at e;exact absurd (Option.some.inj (Option.some.inj e)).symm Ow.not_g
  ·rw[ne j hj]at e;exact⟨hj,e⟩
 have jn:∀{j:Nat} {v:V},F.ar[j]?=some (some v)->j≠i:=fun {j v} e z=>by
  subst z
  have:=(List.getElem?_eq_some_iff.mp e).1
  omega
 refine⟨⟨by rw[List.length_set,List.length_set];exact f.r.len,fun j x e=>?_,fun j ys e=>?_,fun j ys e=>?_,fun j1 j2 ys zs b e1 e2 f1 f2=>?_,fun b h=>h.elim (f.r.sub b) (hS b),f.r.ex,?_⟩,f.sS,f.old,fun b h=>h.elim (f.new b) fun z=>.inr (hF b z),fun b h=>.inl (f.fm b h),f.fs,f.fsub,f.snew,fun j v e=>?_,fun j v e=>?_,f.fma⟩
 ·by_cases hj:j=i
  ·subst hj;rw[se]at e;cases e
  ·rw[ne j hj]at e
   rw[ne' j hj]
   exact f.r.dat j x e
 ·obtain⟨hj,e⟩:=own j ys e
  rw[ne' j hj]
  obtain⟨b,us,h1,h2,h3,h4⟩:=f.r.mt j ys e
  exact⟨b,us,h1,.inl h2,h3,h4⟩
 ·by_cases hj:j=i
  ·subst hj;rw[se]at e;cases e
  ·rw[ne j hj]at e
   rw[ne' j hj]
   exact f.r.cst j ys e
 ·obtain⟨h1,e1⟩:=own _ _ e1
  obtain⟨h2,e2⟩:=own _ _ e2
  rw[ne' j1 h1]at f1
  rw[ne' j2 h2]at f2
  exact f.r.inj _ _ _ _ b e1 e2 f1 f2
 ·obtain⟨φ,g⟩:=f.r.gr
  refine⟨fun j=>if j=i then X else φ j,fun j x e=>?_⟩
  by_cases hj:j=i
  ·subst hj
   rw[se]at e;cases e
   simp only[if_true]
   refine⟨⟨v,se',h⟩,hn,fun a ha=>.inr ha,fun j' o a z1 z2 ha=>?_,fun j' x' hj' z a ha=>?_⟩
   ·obtain⟨q1,q2⟩:=own j' o z1
    rw[ne' j' q1]at z2
    obtain⟨b,us,h1,h2,_⟩:=f.r.mt j' o q2
    rw[z2]at h1;cases h1
    exact hM a ha h2
   ·rw[if_neg hj']
    intro hq
    rw[ne j' hj']at z
    obtain⟨_,_,q4,_,_⟩:=g j' x' z
    exact hM a ha (q4 a hq)
  ·dsimp only
   simp only[if_neg hj]
   rw[ne j hj]at e
   obtain⟨⟨v',q1,q2⟩,q3,q4,q5,q6⟩:=g j x e
   refine⟨⟨v',by rw[ne' j hj];exact q1,q2⟩,q3,fun a ha=>.inl (q4 a ha),fun j' o a z1 z2=>?_,fun j' x' hj' z a ha=>?_⟩
   ·obtain⟨w1,w2⟩:=own j' o z1
    rw[ne' j' w1]at z2
    exact q5 j' o a w2 z2
   ·by_cases hj2:j'=i
    ·rw[if_pos hj2];exact fun hq=>hM a hq (q4 a ha)
    ·rw[if_neg hj2]
     rw[ne j' hj2]at z
     exact q6 j' x' hj' z a ha
 ·rw[ne' j (jn e)]
  exact f.par j v e
 ·rw[ne j (jn e)]
  exact f.pm j v e
variable {np:Nat}
end DL
end
section
namespace DL
open PySem L2
variable {K:KW}
end DL
end
section
namespace DL
open PySem L2
variable {K:KW}
end DL
end
section
namespace DL
open PySem L2
end DL
end
section
namespace DL
open PySem L2
variable {K:KW}
def Cc(f:DX)(lo hi:DO)(τ:DS):Option (PyData×DS):=(f τ).bind fun p=>(lo p.2).bind fun l=>(hi l.2).bind fun u=>match p.1 with
 |.tuple xs=>if HT.sIx xs.length 0 l.1=0/\HT.sIx xs.length xs.length u.1=xs.length then none else some (.tuple (JD xs l.1 u.1),u.2)
 |_=>none
theorem bb{fr:Bool}{te:TE}{tl th:TO}{f:DX}{lo hi:DO}(h:E K te fr f)(hl:OO K tl lo)(hh:OO K th hi):E K (tSl (Xr K) te tl th) false (Cc f lo hi):=by
 refine⟨fun τ d τ' e=>?_,?_⟩
 ·unfold Cc at e
  obtain⟨⟨x,τ1⟩,e1,e⟩:=oB e
  obtain⟨⟨l,τ2⟩,e2,e⟩:=oB e
  obtain⟨⟨u,τ3⟩,e3,e⟩:=oB e
  dsimp only at e
  split at e
  ·split at e
   ·cases e
   ·cases e;exact((h.like _ _ _ e1).trans (hl.like _ _ _ e2)).trans (hh.like _ _ _ e3)
  ·cases e
 intro S M τ σ H Q d τ' r e q
 unfold Cc at e
 obtain⟨⟨x,τ1⟩,e1,e⟩:=oB e
 obtain⟨⟨l,τ2⟩,e2,e⟩:=oB e
 obtain⟨⟨u,τ3⟩,e3,e⟩:=oB e
 dsimp only at e e2 e3
 cases x with
 |tuple xs =>
  dsimp only at e
  split at e
  ·cases e
  ·rename_i hw
   cases e
   refine h.run S M τ σ H _ _ _ r e1 fun v1 H1 r1 c1 i1=>?_
   refine hl.run S M τ1 σ H1 _ _ _ r1 e2 fun H2 r2 c2=>?_
   refine hh.run S M τ2 σ H2 _ _ _ r2 e3 fun H3 r3 c3=>?_
   have i1':Is K (hid S H3) (.tuple xs) v1:=((r.isr i1).mono (c2.keep r1.sub).same).mono (c3.keep r2.sub).same
   obtain⟨a,vs,rfl,ha,la⟩:=i1'
   refine⟨a,vs,rfl,Same.tup same_hid ha,by rw[la.length];exact hw,fun p hp=>?_⟩
   have s:=Ax hp (HO.tup (MG vs l u))
   exact q _ _ (r3.same s) (((c1.trans c2).trans c3).trans (.of s)) ⟨p,_,rfl,SqT.of (hid_iff.mpr ⟨r3.fresh hp,Aq⟩),(Qr la).mono (Same.keep s).same⟩
 |_=>cases e
theorem dO{np:Nat}{fr fe:Bool}{i:Nat}{te:TE}{e:DX}(he:E K te fe e):B K np (aP i te (ipI fun i j=>i+j)) fr (AL (dOp Ap (AB i) e) (dN i)):=Q6 (tg:=Gb i) (Nd W7 LW he) E2
end DL
end
section
namespace DL
open PySem L2 PyProof.Rows
def KQ:List (Str×V)->Str->Option V
 |[],_=>none
 |t::r,k=>if t.1=k then some t.2 else KQ r k
def K9(ts:List (Str×V))(k:Str)(v:V):List (Str×V):=if ts.any (fun t=>decide (t.1=k))=true then ts.map (fun t=>if t.1=k then (t.1,v) else t) else ts++[(k,v)]
theorem LR{k:Str}:∀{ts:List (Str×V)} {vs:List (Key×Value)},KV (txK ts) vs->(match KQ ts k with
  |some v=>∃u,valueAt vs (Sum.inr k)=some u/\RelV v u
  |none=>valueAt vs (Sum.inr k)=none)
 |[],vs,h=>by cases (show Paired _ [] vs from h);rfl
 |t::ts,vs,h=>by
  cases (show Paired _ ((Sum.inr t.1,t.2)::txK ts) vs from h) with
  |@cons _ q _ qs h1 h2 =>
   obtain⟨e1,e2⟩:=h1
   have ih:=LR (k:=k) (ts:=ts) h2
   unfold KQ
   by_cases e:t.1=k
   ·rw[if_pos e]
    have e':q.1=Sum.inr k:=by rw[<- e1,e]
    exact⟨q.2,by simp[valueAt,List.find?_cons,e'],e2⟩
   ·rw[if_neg e]
    have e':¬q.1=Sum.inr k:=fun z=>e (by have:=e1.trans z;exact Sum.inr.inj this)
    have:valueAt (q::qs) (Sum.inr k)=valueAt qs (Sum.inr k):=by simp[valueAt,List.find?_cons,e']
    rw[this];exact ih
theorem Vo{k:Str}{ts:List (Str×V)}{vs:List (Key×Value)}(h:KV (txK ts) vs):(valueAt vs (Sum.inr k)).isSome=(KQ ts k).isSome:=by
 have g:=LR (k:=k) h
 cases e:KQ ts k with
 |none=>rw[e]at g;rw[show valueAt vs (Sum.inr k)=none from g];rfl
 |some v=>rw[e]at g;obtain⟨u,hu,_⟩:=g;rw[hu];rfl
theorem dW{k:Str}:∀{ts:List (Str×V)} {vs:List (Key×Value)},KV (txK ts) vs->(vs.any fun kv=>decide (kv.1=Sum.inr k))=ts.any fun t=>decide (t.1=k)
 |[],vs,h=>by cases (show Paired _ [] vs from h);rfl
 |t::ts,vs,h=>by
  cases (show Paired _ ((Sum.inr t.1,t.2)::txK ts) vs from h) with
  |@cons _ q _ qs h1 h2 =>
   rw[List.any_cons,List.any_cons,dW (k:=k) (ts:=ts) h2,<- h1.1]
   congr 1
   by_cases e:t.1=k
   ·rw[e];simp
   ·rw[decide_eq_false e,decide_eq_false (fun z=>e (Sum.inr.inj z))]
theorem bH{k:Str}{v:V}{u:Value}(hv:RelV v u):∀{ts:List (Str×V)} {vs:List (Key×Value)},KV (txK ts) vs->KV (txK (ts.map fun t=>if t.1=k then (t.1,v) else t)) (vs.map fun kv=>if kv.1=Sum.inr k then (kv.1,u) else kv)
 |[],vs,h=>by cases (show Paired _ [] vs from h);exact .nil
 |t::ts,vs,h=>by
  cases (show Paired _ ((Sum.inr t.1,t.2)::txK ts) vs from h) with
  |@cons _ q _ qs h1 h2 =>
   refine .cons ?_ (bH hv (ts:=ts) h2)
   obtain⟨e1,e2⟩:=h1
   dsimp only at e1 e2 ⊢
   by_cases e:t.1=k
   ·rw[if_pos e,if_pos (by rw[<- e1,e])];exact⟨e1,hv⟩
   ·rw[if_neg e,if_neg (fun z=>e (Sum.inr.inj (e1.trans z)))];exact⟨e1,e2⟩
theorem dQ{k:Str}{v:V}{u:Value}(hv:RelV v u):∀{ts:List (Str×V)} {vs:List (Key×Value)},KV (txK ts) vs->KV (txK (ts++[(k,v)])) (vs++[(Sum.inr k,u)])
 |[],vs,h=>by cases (show Paired _ [] vs from h);exact .cons ⟨rfl,hv⟩ .nil
 |t::ts,vs,h=>by
  cases (show Paired _ ((Sum.inr t.1,t.2)::txK ts) vs from h) with
  |@cons _ q _ qs h1 h2=>exact .cons h1 (dQ hv (ts:=ts) h2)
theorem S5{k:Str}{v:V}{u:Value}{ts:List (Str×V)}{vs:List (Key×Value)}(hv:RelV v u)(h:KV (txK ts) vs):KV (txK (K9 ts k v)) (stored vs (Sum.inr k) u):=by
 unfold K9 stored
 rw[dW h]
 split
 ·exact bH hv h
 ·exact dQ hv h
theorem eO{ts:List (Str×V)}{vs:List (Key×Value)}(h:KV (txK ts) vs):ts.length=vs.length:=by
 have:=Paired.length h
 unfold txK at this
 rw[List.length_map]at this
 exact this
theorem S6(ts:List (Str×V))(k:Str)(v:V):(K9 ts k v).length<=ts.length+1:=by
 unfold K9
 split
 ·rw[List.length_map];omega
 ·rw[List.length_append];exact Nat.le_refl _
section
variable {X:Cx} {pins:List (Addr×Obj)} {σ:L2.St} {H:Hp} {s:Shared}
theorem UI(I:Inv X pins σ H s){a:Addr}{ts:List (Str×V)}(h:H a=some (.dK (txK ts))):ts.length<=sizeLine/\(a==sysModules)=false/\∃vs,KV (txK ts) vs/\s.heap.DictOf (Ik X.prog X.w) a vs:=by
 obtain⟨h1,h2,vs,h3,h4⟩:=(show ObjOk X.prog X.w H s.heap a (.dK (txK ts)) from I.hok a _ h)
 refine⟨?_,h2,vs,h3,h4⟩
 unfold txK at h1
 rw[List.length_map]at h1
 exact h1
end
theorem NR{P:Program}{w:World}{k:Str}{u:Value}(h:RelV (.str k) u):(Ik P w).is (Sum.inr k) u=true:=by
 obtain⟨t,rfl⟩:=h
 exact OU P w k t
def aU:R2:=fun x y H Q=>∃a ts k v,x = .ref a/\y = .str k/\H a=some (.dK (txK ts))/\KQ ts k=some v/\Q v H
theorem eQ{X:Cx}:IxR X aU:=by
 intro value slice pins s σ H x y v u Q I rx ry h hs
 obtain⟨a,ts,k,z,rfl,rfl,hq,e,q⟩:=h
 cases rx
 obtain⟨h1,h2,vs,pr,dd⟩:=UI I hq
 have g:=LR (k:=k) pr
 rw[e]at g
 obtain⟨p,hp,rp⟩:=g
 exact tail_any dd.mapOf.typeIs PySem.F.slot_dict_getitem.lookup (wpAny_getItem_of (NR ry) dd.mapOf hp ⟨z,H,I.tok _,rp,q⟩) hs
def aW(neg:Bool):R2:=fun y x H Q=>∃a ts k,x = .ref a/\y = .str k/\H a=some (.dK (txK ts))/\Q (.bl (neg != (KQ ts k).isSome)) H
theorem YA{X:Cx}:OpR X (compareOp .In) (aW false):=by
 intro pins s σ H x y v u Q I rx ry h
 obtain⟨a,ts,k,rfl,rfl,hq,q⟩:=h
 cases ry
 obtain⟨h1,h2,vs,pr,dd⟩:=UI I hq
 refine wpAny_in_of (NR rx) h2 dd.mapOf ?_
 rw[Vo pr]
 exact⟨.bl _,H,I.tok _,rfl,by simpa using q⟩
def Wz:V->V->V->Hp->(Hp->Prop)->Prop:=fun o i v H Q=>∃a ts k,o = .ref a/\i = .str k/\H a=some (.dK (txK ts))/\ts.length<sizeLine/\Q (upd H a (.dK (txK (K9 ts k v))))
theorem aS{X:Cx}:Z6 X Wz:=by
 intro pins s σ H o i v ov iv u Q I ro ri rv h
 obtain⟨a,ts,k,rfl,rfl,hq,hl,q⟩:=h
 cases ro
 obtain⟨h1,h2,vs,pr,dd⟩:=UI I hq
 have hz:vs.length<=sizeLine:=by rw[<- eO pr];exact h1
 refine wpAny_setItem_pairs (hsz:=hz) (NR ri) dd fun h' dd' hs=>⟨_,?_,q⟩
 have he:∃q,h'.get? a=some q:=let ⟨q,_,_,hq,_⟩:=dd';⟨q,hq⟩
 refine I.write (x:=a) (e:=a) (by rw[hq];exact True.intro) (.inl rfl) (fun c z hc e=>(hs.2 c hc).trans e) he ?_
 have hl2:=S6 ts k v
 exact⟨by unfold txK;rw[List.length_map];omega,h2,_,S5 rv pr,dd'⟩
def Wv:TE:=fun _ H Q=>∀p,H p=none->Q (.ref p) (upd H p (.dK (txK [])))
theorem VQ{X:Cx}{pos:Pos}:PE X (.Dict [] [] pos) Wv:=fun pins s σ H Q I h=>by
 have hb:sysModules<s.heap.objs.size:=Nat.lt_trans (by decide) (show mainGlobals<s.heap.objs.size from(I.mod.glob.keeps I.bk).lt)
 refine wpAny_Dict_empty ⟨.ref s.heap.objs.size,_,I.laid (a:=s.heap.objs.size) (o:=.dK (txK [])) (t':=s.toks) (fun _ _ q=>Heap.get?_push_of_some _ q) (Nat.le_refl _) ?_,rfl,h _ (I.hok.fresh (Nat.le_refl _))⟩
 exact⟨Nat.zero_le _,beq_eq_false_iff_ne.mpr (Ne.symm (Nat.ne_of_lt hb)),[],.nil,Heap.DictOf.new s.heap⟩
end DL
end
section
namespace DL
open PySem L2
variable {K:KW}
theorem Lm{S M:Addr->Prop}{τ:DS}{σ:St}{H:Hp}(r:R K S M τ σ H){i:Nat}{d:PyData}(hi:τ[i]?=some (some (.g d))) :
  ∃v F,σ[i]?=some (some v)/\DpT K S H d v F/\(∀a∈F,M a)/\∀(H':Hp) (d':PyData),Chg (fun b=>b∈F) H H'->(∀a∈F,∃o,H' a=some o)->DpT K S H' d' v F->R K S M (τ.set i (some (.g d'))) σ H':=by
 obtain⟨φ,g⟩:=r.gr
 obtain⟨⟨v,g1,g2⟩,g3,g4,g5,g6⟩:=g i d hi
 refine⟨v,φ i,g1,g2,g4,fun H' d' c ho hd=>?_⟩
 have hlt:i<τ.length:=(List.getElem?_eq_some_iff.mp hi).1
 have ne:∀j,j≠i->(τ.set i (some (.g d')))[j]?=τ[j]?:=fun j hj=>List.getElem?_set_ne (Ne.symm hj)
 have se:(τ.set i (some (.g d')))[i]?=some (some (.g d')):=List.getElem?_set_self hlt
 have k:Keep S H S H':=c.keep fun b hb=>r.sub b (g4 b hb)
 have own:∀(j:Nat) (ys:Ow),(τ.set i (some (.g d')))[j]?=some (some ys.L)->j≠i/\τ[j]?=some (some ys.L):=fun j ys e=>by
  by_cases hj:j=i
  ·subst hj;rw[se]at e;exact absurd (Option.some.inj (Option.some.inj e)).symm Ow.not_g
  ·rw[ne j hj]at e;exact⟨hj,e⟩
 refine⟨by rw[List.length_set];exact r.len,fun j x e=>?_,fun j ys e=>?_,fun j ys e=>?_,fun j1 j2 ys zs b e1 e2 f1 f2=>r.inj _ _ _ _ b (own _ _ e1).2 (own _ _ e2).2 f1 f2,r.sub,fun a h=>?_,?_⟩
 ·by_cases hj:j=i
  ·subst hj;rw[se]at e;cases e
  ·rw[ne j hj]at e
   obtain⟨u,h1,h2⟩:=r.dat j x e
   exact⟨u,h1,h2.mono k.same⟩
 ·obtain⟨hj,e⟩:=own j ys e
  obtain⟨b,us,h1,h2,h3,h4⟩:=r.mt j ys e
  exact⟨b,us,h1,h2,c b _ (g5 j ys b e h1) h3,h4.mono k.same⟩
 ·by_cases hj:j=i
  ·subst hj;rw[se]at e;cases e
  ·rw[ne j hj]at e
   obtain⟨b,us,h1,h2,h3⟩:=r.cst j ys e
   exact⟨b,us,h1,k.same.seq h2,h3.mono k.same⟩
 ·by_cases hb:a∈φ i
  ·exact ho a hb
  ·obtain⟨o,e⟩:=r.ex a h
   exact⟨o,c a o hb e⟩
 ·refine⟨φ,fun j x e=>?_⟩
  by_cases hj:j=i
  ·subst hj
   rw[se]at e;cases e
   refine⟨⟨v,g1,hd⟩,g3,g4,fun j' o a z1 z2=>g5 j' o a (own j' o z1).2 z2,fun j' x' hj' z=>?_⟩
   rw[ne j' hj']at z
   exact g6 j' x' hj' z
  ·rw[ne j hj]at e
   obtain⟨⟨v',q1,q2⟩,q3,q4,q5,q6⟩:=g j x e
   have on:∀a∈φ j,H' a=H a:=fun a ha=>by
    obtain⟨o,e'⟩:=r.ex a (r.sub a (q4 a ha))
    rw[e'];exact c a o (fun z=>q6 i d (Ne.symm hj) hi a ha z) e'
   refine⟨⟨v',q1,q2.mono (tsS k.same) on⟩,q3,q4,fun j' o a z1 z2=>q5 j' o a (own j' o z1).2 z2,fun j' x' hj' z=>?_⟩
   by_cases hj2:j'=i
   ·subst hj2;exact q6 j' d hj' hi
   ·rw[ne j' hj2]at z;exact q6 j' x' hj' z
def Qy(np i:Nat)(τ:DS):Option Out:=if np<=i/\i<τ.length then some (.nx (τ.set i (some (.g (.dict []))))) else none
theorem Zy{np:Nat}{fr:Bool}{i:Nat}:B K np (Ko Wv (Gb i)) fr (Qy np i):=by
 intro F S M τ σ H D out hnp f ee q
 unfold Qy at ee
 split at ee
 ·rename_i hi
  cases ee
  intro a ha
  have s:=Ax ha (HO.dK (txK []))
  have f1:=f.hide s ha ⟨_,Aq⟩
  have hM:¬M a:=fun z=>f.r.fresh ha (f.r.sub a z)
  refine q _ _ _ _ (f1.newG (X:=[a]) hi.2 (Nat.le_trans hnp hi.1) (fun b hb=>.inr (List.mem_singleton.mp hb)) (fun b hb=>by rw[List.mem_singleton.mp hb];exact hM) (fun b hb=>by rw[List.mem_singleton.mp hb];exact f.hnone ha) (by simp) ⟨a,[],rfl,rfl,Aq,rfl⟩) fun b o hn e=>⟨fun z=>z.elim hn (A9 e ha),s b o e⟩
 ·cases ee
def IB:List (PyData×PyData)->Str->Option PyData
 |[],_=>none
 |(.str x,d)::r,k=>if x=k then some d else IB r k
 |_::r,k=>IB r k
theorem Na{H:Hp}{k:Str}:∀{kvs:List (PyData×PyData)} {ts:List (Str×V)},IsX K H kvs ts->(match IB kvs k with
  |some d=>∃v,KQ ts k=some v/\Is K H d v/\DN d=true
  |none=>KQ ts k=none)
 |[],_,h=>by rw[show _=[] from h];rfl
 |(_,d)::r,_,⟨t,tr,e,ek,f,h,l⟩=>by
  subst e ek
  have ih:=Na (k:=k) l
  unfold IB KQ
  by_cases e:t.1=k
  ·rw[if_pos e,if_pos e];exact⟨t.2,rfl,h,f⟩
  ·rw[if_neg e,if_neg e];exact ih
def Ox(i:Nat)(f:DX)(τ:DS):Option (PyData×DS):=match τ[i]? with
 |some (some (.g (.dict _)))=>(f τ).bind fun p=>match p.1,p.2[i]? with
  |.str k,some (some (.g (.dict kvs)))=>(IB kvs k).map fun d=>(d,p.2)
  |_,_=>none
 |_=>none
theorem bo{i:Nat}{fr:Bool}{tb:TE}{f:DX}(h:E K tb fr f):E K (tOp aU (Eb i) tb) false (Ox i f):=by
 refine⟨fun τ d τ' e=>?_,?_⟩
 ·unfold Ox at e
  split at e
  ·obtain⟨⟨x,τ1⟩,e1,e⟩:=oB e
   dsimp only at e
   split at e
   ·obtain⟨z,e3,e⟩:=oM e
    cases e;exact h.like _ _ _ e1
   ·cases e
  ·cases e
 intro S M τ σ H Q d τ' r e q
 unfold Ox at e
 split at e
 ·rename_i kv0 h0
  obtain⟨⟨x,τ1⟩,e1,e⟩:=oB e
  dsimp only at e
  split at e
  ·rename_i k kvs hk
   obtain⟨z,e3,e⟩:=oM e
   cases e
   obtain⟨v0,F0,hv0,_⟩:=Lm r h0
   refine⟨v0,hv0,h.weak.run S M τ σ H _ _ _ r e1 fun u H1 r1 c1 i1=>?_⟩
   obtain⟨v1,F1,hv1,⟨a,ts,ea,_,hH,l⟩,_⟩:=Lm r1 hk
   rw[hv0]at hv1;cases hv1
   subst ea
   have g:=Na (k:=k) l
   rw[e3]at g
   obtain⟨v,gv,iv,_⟩:=g
   exact⟨a,ts,k,v,rfl,i1,hH,gv,q v H1 r1 c1 iv⟩
  ·cases e
 ·cases e
def Oy(neg:Bool)(f:DX)(i:Nat)(τ:DS):Option (PyData×DS):=(f τ).bind fun p=>match p.1,p.2[i]? with
 |.str k,some (some (.g (.dict kvs)))=>some (.bool (neg != (IB kvs k).isSome),p.2)
 |_,_=>none
theorem br{neg:Bool}{i:Nat}{fr:Bool}{ta:TE}{f:DX}(h:E K ta fr f):E K (tOp (aW neg) ta (Eb i)) false (Oy neg f i):=by
 refine⟨fun τ d τ' e=>?_,?_⟩
 ·unfold Oy at e
  obtain⟨⟨x,τ1⟩,e1,e⟩:=oB e
  dsimp only at e
  split at e
  ·cases e;exact h.like _ _ _ e1
  ·cases e
 intro S M τ σ H Q d τ' r e q
 unfold Oy at e
 obtain⟨⟨x,τ1⟩,e1,e⟩:=oB e
 dsimp only at e
 split at e
 ·rename_i k kvs hk
  cases e
  refine h.weak.run S M τ σ H _ _ _ r e1 fun u H1 r1 c1 i1=>?_
  obtain⟨v1,F1,hv1,⟨a,ts,ea,_,hH,l⟩,_⟩:=Lm r1 hk
  subst ea
  have g:=Na (k:=k) l
  have eq:(KQ ts k).isSome=(IB kvs k).isSome:=by
   cases z:IB kvs k with
   |none=>rw[z]at g;rw[show KQ ts k=none from g];rfl
   |some y=>rw[z]at g;obtain⟨v,gv,_⟩:=g;rw[gv];rfl
  refine⟨.ref a,hv1,a,ts,k,rfl,i1,hH,?_⟩
  rw[eq]
  exact q _ H1 r1 c1 rfl
 ·cases e
def PZ(kvs:List (PyData×PyData))(k:Str)(d:PyData):List (PyData×PyData):=if (IB kvs k).isSome=true then kvs.map (fun p=>match p with
  |(.str x,y)=>if x=k then (.str x,d) else (.str x,y)
  |p=>p) else kvs++[(.str k,d)]
theorem dX{H:Hp}{k:Str}:∀{kvs:List (PyData×PyData)} {ts:List (Str×V)},IsX K H kvs ts->(ts.any fun t=>decide (t.1=k))=(IB kvs k).isSome
 |[],_,h=>by rw[show _=[] from h];rfl
 |(_,d)::r,_,⟨t,tr,e,ek,f,h,l⟩=>by
  subst e ek
  unfold IB
  rw[List.any_cons,dX (k:=k) l]
  by_cases e:t.1=k
  ·rw[if_pos e,decide_eq_true e];rfl
  ·rw[if_neg e,decide_eq_false e,Bool.false_or]
theorem bI{H:Hp}{k:Str}{d:PyData}{v:V}(fd:DN d=true)(hv:Is K H d v):∀{kvs:List (PyData×PyData)} {ts:List (Str×V)},IsX K H kvs ts->IsX K H (kvs.map fun p=>match p with
  |(.str x,y)=>if x=k then (.str x,d) else (.str x,y)
  |p=>p) (ts.map fun t=>if t.1=k then (t.1,v) else t)
 |[],_,h=>by rw[show _=[] from h];rfl
 |(_,y)::r,_,⟨t,tr,e,ek,f,h,l⟩=>by
  subst e ek
  have ih:=bI (k:=k) fd hv l
  rw[List.map_cons,List.map_cons]
  dsimp only
  by_cases e:t.1=k
  ·rw[if_pos e,if_pos e];exact⟨_,_,rfl,rfl,fd,hv,ih⟩
  ·rw[if_neg e,if_neg e];exact⟨_,_,rfl,rfl,f,h,ih⟩
theorem dR{H:Hp}{k:Str}{d:PyData}{v:V}(fd:DN d=true)(hv:Is K H d v):∀{kvs:List (PyData×PyData)} {ts:List (Str×V)},IsX K H kvs ts->IsX K H (kvs++[(.str k,d)]) (ts++[(k,v)])
 |[],_,h=>by rw[show _=[] from h];exact⟨_,_,rfl,rfl,fd,hv,rfl⟩
 |(_,y)::r,_,⟨t,tr,e,ek,f,h,l⟩=>by
  subst e ek
  exact⟨_,_,rfl,rfl,f,h,dR fd hv l⟩
theorem VD{H:Hp}{k:Str}{d:PyData}{v:V}{kvs:List (PyData×PyData)}{ts:List (Str×V)}(fd:DN d=true)(hv:Is K H d v)(h:IsX K H kvs ts):IsX K H (PZ kvs k d) (K9 ts k v):=by
 unfold PZ K9
 rw[dX h]
 split
 ·exact bI fd hv h
 ·exact dR fd hv h
theorem Qj{H:Hp}:∀{kvs:List (PyData×PyData)} {ts:List (Str×V)},IsX K H kvs ts->ts.length=kvs.length
 |[],_,h=>by rw[show _=[] from h];rfl
 |(_,_)::_,_,⟨t,tr,e,_,_,_,l⟩=>by subst e;rw[List.length_cons,List.length_cons,Qj l]
def La(i:Nat)(e k:DX)(τ:DS):Option Out:=(e τ).bind fun p=>match p.2[i]? with
 |some (some (.g (.dict _)))=>(k p.2).bind fun q=>match q.1,q.2[i]? with
  |.str x,some (some (.g (.dict kvs)))=>if DN p.1=true/\kvs.length<sizeLine then some (.nx (q.2.set i (some (.g (.dict (PZ kvs x p.1)))))) else none
  |_,_=>none
 |_=>none
theorem Zx{np:Nat}{fr f1 f2:Bool}{i:Nat}{te tk:TE}{e k:DX}(he:E K te f1 e)(hk:E K tk f2 k):B K np (Ko te (Yd (Eb i) tk Wz)) fr (La i e k):=by
 intro F S M τ σ H D out hnp f ee q
 unfold La at ee
 obtain⟨⟨x,τ1⟩,e1,ee⟩:=oB ee
 dsimp only at ee
 split at ee
 ·rename_i kv0 h0
  obtain⟨⟨y,τ2⟩,e2,ee⟩:=oB ee
  dsimp only at ee
  split at ee
  ·rename_i z kvs h2
   split at ee
   ·rename_i hc
    cases ee
    refine he.weak.run S M τ σ H _ x τ1 f.r e1 fun v H1 r1 c1 i1=>?_
    obtain⟨v0,F0,hv0,_⟩:=Lm r1 h0
    refine⟨v0,hv0,hk.weak.run S M τ1 σ H1 _ _ τ2 r1 e2 fun u H2 r2 c2 i2=>?_⟩
    obtain⟨v1,F1,hv1,⟨a,ts,ea,eF,hH,l⟩,hM,go⟩:=Lm r2 h2
    rw[hv0]at hv1;cases hv1
    subst ea eF
    have Sa:S a:=r2.sub a (hM a (List.mem_singleton_self a))
    refine⟨a,ts,z,rfl,i2,hH,by rw[Qj l];exact hc.2,?_⟩
    have iv:Is K (hid S H2) x v:=Is.mono (c2.keep r1.sub).same i1
    have c3:Chg (fun b=>b∈[a]) H2 (upd H2 a (.dK (txK (K9 ts z v)))):=fun b o hn e=>by rw[BF (fun w=>hn (by rw[w];exact List.mem_singleton_self a))];exact e
    have r3:=go (upd H2 a (.dK (txK (K9 ts z v)))) (.dict (PZ kvs z x)) c3 (fun b hb=>by rw[List.mem_singleton.mp hb];exact⟨_,Aq⟩) ⟨a,K9 ts z v,rfl,rfl,Aq,by rw[NX Sa];exact VD hc.1 iv l⟩
    have c4:Chg M H (upd H2 a (.dK (txK (K9 ts z v)))):=(c1.trans c2).trans fun b o hn e=>c3 b o (fun w=>hn (by rw[List.mem_singleton.mp w];exact hM a (List.mem_singleton_self a))) e
    have lk:=(he.like _ _ _ e1).trans (hk.like _ _ _ e2)
    refine q S M σ _ ⟨r3,f.sS,fun b o e n=>c4 b o (fun w=>(f.new b w).elim n fun y=>by rw[y]at e;cases e) (f.old b o e n),f.new,f.fm,f.fs,f.fsub,f.snew,f.par,fun j v' e=>?_,f.fma⟩ (c4.keep f.r.sub)
    obtain⟨o,ho'⟩:=f.pm j v' e
    obtain⟨o2,h2'⟩:=(lk.own j).mpr ⟨o,ho'⟩
    have hj:j≠i:=fun w=>by subst w;rw[h2]at h2';exact Ow.not_g (Option.some.inj (Option.some.inj h2')).symm
    exact⟨o2,by rw[List.getElem?_set_ne (Ne.symm hj)];exact h2'⟩
   ·cases ee
  ·cases ee
 ·cases ee
end DL
namespace L2
open PySem
theorem RQ{X:Cx}{k:Nat}{ps:List Str}{sp:Sp}{x:Str}{p pos:Pos}(C:Cal X.prog X.w X.K X.mg X.base k x ps sp)(hr:Room k X.A)(hg:Gl X x)(hdb:(x==("__debug__":Str))=false:=by decide):PE X (.Call (.Name x p) [] [] pos) (Fh sp [] E0 FG):=by
 obtain⟨f,fd,F,b,kp,m⟩:=C.ex
 exact Ta F hr hg m kp b .nil Tb hdb
end L2
end
section
namespace DL
open PySem L2
variable {K:KW}
end DL
end
section
namespace DL
open PySem L2
variable {K:KW} {np:Nat}
end DL
end
section
namespace DL
open PySem L2
variable {K:KW}
end DL
end
section
namespace DL
open PySem L2 PyProof.Rows
variable {K:KW}
def EE:List PyData->Option (List Bool)
 |[]=>some []
 |.bool b::r=>(EE r).map (b::·)
 |_::_=>none
theorem IF:∀{bs:List Bool} {us:List Value},Vals (bs.map V.bl) us->us=bs.map Value.bool
 |[],_,.nil=>rfl
 |b::bs,_,.cons z zs=>by rw[IF zs,show _=Value.bool b from z];rfl
theorem Lg{H:Hp}:∀{ds:List PyData} {vs:List V} {bs:List Bool},IsL K H ds vs->EE ds=some bs->vs=bs.map V.bl
 |[],_,_,h,e=>by cases e;exact h
 |.bool b::r,_,_,⟨v,us,e1,iv,l⟩,e=>by
  obtain⟨ms,e2,e⟩:=oM e
  subst e
  cases (show v = .bl b from iv)
  rw[e1,Lg l e2]
  rfl
 |.none::_,_,_,_,e=>by cases e
 |.int _::_,_,_,_,e=>by cases e
 |.str _::_,_,_,_,e=>by cases e
 |.list _::_,_,_,_,e=>by cases e
 |.tuple _::_,_,_,_,e=>by cases e
 |.dict _::_,_,_,_,e=>by cases e
theorem Sv:∀bs:List Bool,(List.range bs.length).map (fun i=>bs.getD i false)=bs:=fun bs=>by
 refine List.ext_getElem (by simp) fun i h1 h2=>?_
 simp[List.getElem_map,h2]
theorem RH(bs:List Bool):(List.range bs.length).all (fun i=>bs.getD i false)=bs.all id:=by
 have h:=congrArg (fun l:List Bool=>l.all id) (Sv bs)
 rw[List.all_map]at h
 exact h
theorem RG(bs:List Bool):(List.range bs.length).any (fun i=>bs.getD i false)=bs.any id:=by
 have h:=congrArg (fun l:List Bool=>l.any id) (Sv bs)
 rw[List.any_map]at h
 exact h
theorem Jf{P:Program}{w:World}{A:Around}(bs:List Bool):TruthOf P w A (fun i v=>(bs.map Value.bool).toArray[i]?=some v) (fun i=>bs.getD i false):=by
 intro i v s Q E hP hQ
 rw[List.getElem?_toArray,List.getElem?_map]at hP
 obtain⟨b,hb,rfl⟩:=oM hP
 refine wpAny_truthy_bool ?_
 have e:bs.getD i false=b:=by rw[List.getD_eq_getElem?_getD,hb];rfl
 dsimp only at hQ
 rwa [e]at hQ
def Qa(K:KW):List V->Hp->VK->Prop:=fun xs H Q=>∃(a:Addr) (bs:List Bool),xs=[.ref a]/\SqL K H a (bs.map V.bl)/\Q (.bl (bs.all id)) H
def QZ(K:KW):List V->Hp->VK->Prop:=fun xs H Q=>∃(a:Addr) (bs:List Bool),xs=[.ref a]/\SqL K H a (bs.map V.bl)/\Q (.bl (bs.any id)) H
theorem LP{P:Program}{w:World}{A:Around}{E:Value->Shared->Prop}{s:Shared}{l:Addr}{items:Array Value}{Q:Value->Shared->Prop}(hl:s.heap.IsList l items)
  (h : ∀ s₂ : Shared, s₂ = { s with heap := s.heap.push { cls := .type "list_iterator", data := .fields #[.ref l, .int 0 0] } } ->
   (s₂.heap.IsListIter s.heap.objs.size l 0/\s₂.heap.IsList l items)->l≠s.heap.objs.size->Q (.ref s.heap.objs.size) s₂) :
  wpAny (model P w) A (pyIter (.ref l)) Q E s:=by
 have hlt:l<s.heap.objs.size:=by obtain⟨_,e,_⟩:=hl;exact Heap.lt_size e
 exact wpAny_pyIter_list hl (h _ rfl ⟨⟨_,Heap.get?_push_size _ rfl,rfl,rfl⟩,hl.push _⟩ (Nat.ne_of_lt hlt))
theorem R8{X:Cx}(hc:X.calm=true):DC X (.builtin "all") (Qa (Gf X)):=by
 intro pins s σ H xs us Q I r h
 obtain⟨a,bs,rfl,hs,q⟩:=h
 obtain⟨u,rfl,ru⟩:=Hq r
 cases ru
 obtain⟨its,rv,p,hz⟩:=I.list hs
 cases IF rv
 have hl:=p.isList
 refine call_all_walk (LP hl fun s₂ e st hlI=>?_)
 subst e
 refine⟨_,_,_,_,_,_,fun i=>bs.getD i false,rfl,Walks.list (A:=X.A.in1) (I.ok.hd hc) _ a hlI (bs.map Value.bool).toArray,st,Jf bs,fun h' tk hk=>?_⟩
 have hn:(bs.map Value.bool).toArray.size=bs.length:=by rw[List.size_toArray,List.length_map]
 rw[hn,RH]
 exact⟨.bl (bs.all id),H,I.kept (old_kept hk),rfl,q⟩
theorem R7{X:Cx}(hc:X.calm=true):DC X (.builtin "any") (QZ (Gf X)):=by
 intro pins s σ H xs us Q I r h
 obtain⟨a,bs,rfl,hs,q⟩:=h
 obtain⟨u,rfl,ru⟩:=Hq r
 cases ru
 obtain⟨its,rv,p,hz⟩:=I.list hs
 cases IF rv
 have hl:=p.isList
 refine call_any_walk (LP hl fun s₂ e st hlI=>?_)
 subst e
 refine⟨_,_,_,_,_,_,fun i=>bs.getD i false,rfl,Walks.list (A:=X.A.in1) (I.ok.hd hc) _ a hlI (bs.map Value.bool).toArray,st,Jf bs,fun h' tk hk=>?_⟩
 have hn:(bs.map Value.bool).toArray.size=bs.length:=by rw[List.size_toArray,List.length_map]
 rw[hn,RG]
 exact⟨.bl (bs.any id),H,I.kept (old_kept hk),rfl,q⟩
def JA:List PyData->Option PyData
 |[.list ds]=>(EE ds).map fun bs=>.bool (bs.all id)
 |_=>none
def Iz:List PyData->Option PyData
 |[.list ds]=>(EE ds).map fun bs=>.bool (bs.any id)
 |_=>none
theorem Zq:BR K false (Qa K) JA:=by
 intro S H vs ds d Q _ l e q
 unfold JA at e
 split at e
 ·obtain⟨bs,e1,e⟩:=oM e
  cases e
  obtain⟨v,us,rfl,⟨a,ws,rfl,h,lw⟩,iu⟩:=l
  cases (show us=[] from iu)
  rw[Lg lw e1]at h
  exact⟨a,bs,rfl,SqL.of (hid_iff.mp h).2,q _ H (fun _ _ e=>e) rfl⟩
 ·cases e
theorem Zp:BR K false (QZ K) Iz:=by
 intro S H vs ds d Q _ l e q
 unfold Iz at e
 split at e
 ·obtain⟨bs,e1,e⟩:=oM e
  cases e
  obtain⟨v,us,rfl,⟨a,ws,rfl,h,lw⟩,iu⟩:=l
  cases (show us=[] from iu)
  rw[Lg lw e1]at h
  exact⟨a,bs,rfl,SqL.of (hid_iff.mp h).2,q _ H (fun _ _ e=>e) rfl⟩
 ·cases e
end DL
end
section
namespace L2
open PySem PySem.Spec PyProof.Rows
section
variable {X:Cx} {a b:Expr} {p pos:Pos} {e:Expr} {es:List Expr} {te:TE} {t:TA}
def dn(X:Cx)(T:Addr->Sp->Prop):Prop:=∀f sp,T f sp->∃k fd ps,FnOk X.prog X.w X.K X.mg X.base CX0 k f fd ps sp/\Room k X.A/\PySem.W.keepIn X.K (.ref f)=true/\Binds X.K fd ps []
def Sg(T:Addr->Sp->Prop)(te:TE)(t:TA):TE:=fun σ H Q=>te σ H fun v H1=>∃f sp,v = .ref f/\T f sp/\Fh sp [] E0 t σ H1 Q
theorem TX{T:Addr->Sp->Prop}(hT:dn X T)(hf:PE X (.Subscript a b p) te)(ha:PA X (e::es) t)
  (he:starEach (e::es) X.env=(false,eval e X.env)::starEach es X.env:=by rfl) (hpl:(backTo pos (starEach es X.env)).any (·.1)=false:=by rfl) :
  PE X (.Call (.Subscript a b p) (e::es) [] pos) (Sg T te t):=by
 intro pins s σ H Q I h
 have ev:eval (.Call (.Subscript a b p) (e::es) [] pos) X.env=(do callWith pos (<- eval (.Subscript a b p) X.env) [] (backTo pos (starEach (e::es) X.env)) (backToKw pos (keywordEach [] X.env))):=rfl
 rw[ev]
 refine wpAny_bind (thn (hf pins s σ H _ I h) fun u s1 ⟨x,H1,I1,rx,q⟩=>?_)
 obtain⟨f,sp,rfl,ht,q⟩:=q
 cases (show u=Value.ref f from rx)
 obtain⟨k,fd,ps,F,hr,hk,hb⟩:=hT f sp ht
 refine PySem.W.callWith_K (h₀:=X.base) I1.ok.mod.kin hk (thn (ha pos pins s1 σ H1 _ I1 q) fun us s2 ⟨vs,H2,I2,r,q2⟩=>⟨I2.kIn,?_⟩) he hpl
 exact PX F hr hb .nil Tb I2 r q2
end
end L2
namespace DL
open PySem L2 PyProof.Rows
variable {K:KW}
def KfL(w:World):List DictEntry->List (Str×Addr)->Prop
 |[],[]=>True
 |e::es,p::tb=>(∃t,e.key = .str p.1 t)/\e.hash=hashStr w p.1/\e.val = .ref p.2/\KfL w es tb
 |_,_=>False
structure KF(K:KW)(w:World)(a:Addr)(tb:List (Str×Addr)):Prop where
 ex:∃es n,K.fr.lookup a=some ⟨.type "dict",none,.dict es n,#[]⟩/\KfL w es.toList tb
def DJ{α:Type}:List (Str×α)->Str->Option α
 |[],_=>none
 |p::r,k=>if p.1=k then some p.2 else DJ r k
theorem Ql{w:World}:∀{es:List DictEntry} {tb:List (Str×Addr)},KfL w es tb->∀e∈es,∃k,Value.isStrOf k e.key=true/\e.hash=hashStr w k
 |[],_,_,e,h=>nomatch h
 |x::es,[],h,_,_=>h.elim
 |x::es,p::tb,⟨⟨t,hk⟩,hh,_,r⟩,e,h=>by
  rcases List.mem_cons.mp h with rfl|h
  ·exact⟨p.1,by rw[hk,C5];exact decide_eq_true rfl,hh⟩
  ·exact Ql r e h
theorem Qm{w:World}{k:Str}:∀{es:List DictEntry} {tb:List (Str×Addr)},KfL w es tb->(es.find? fun e=>Value.isStrOf k e.key).map (·.val)=(DJ tb k).map Value.ref
 |[],[],_=>rfl
 |[],_::_,h=>h.elim
 |_::_,[],h=>h.elim
 |x::es,p::tb,⟨⟨t,hk⟩,hh,hc,r⟩=>by
  unfold DJ
  rw[List.find?_cons,hk,C5]
  by_cases e:p.1=k
  ·rw[if_pos e,decide_eq_true e.symm]
   show some x.val=_
   rw[hc];rfl
  ·rw[if_neg e,decide_eq_false (Ne.symm e)]
   exact Qm r
theorem XA{X:Cx}{pins:List (Addr×Obj)}{σ:L2.St}{H:Hp}{s:Shared}{a:Addr}{tb:List (Str×Addr)}(kf:KF (Gf X) X.w a tb)(I:Inv X pins σ H s):∃es:Array DictEntry,s.heap.MapOf (strKind X.prog X.w) a (fun k=>findBy Value.isStrOf es k)/\∀k,findBy Value.isStrOf es k=(DJ tb k).map Value.ref:=by
 obtain⟨es,n,lk,hL⟩:=kf.ex
 have ho:=I.kIn _ _ lk
 refine⟨es,⟨_,es,n,ho,⟨rfl,rfl,rfl⟩,rfl,fun e he=>Ql hL e (Array.mem_toList_iff.mpr he),fun _=>rfl⟩,fun k=>?_⟩
 unfold findBy
 rw[<- Array.find?_toList]
 exact Qm hL
def rKf(a:Addr)(tb:List (Str×Addr)):R2:=fun x y H Q=>x = .ref a/\∃k f,y = .str k/\DJ tb k=some f/\Q (.ref f) H
theorem bK{X:Cx}{a:Addr}{tb:List (Str×Addr)}(kf:KF (Gf X) X.w a tb):IxR X (rKf a tb):=by
 intro value slice pins s σ H x y v u Q I rx ry h hs
 obtain⟨rfl,k,f,rfl,hg,q⟩:=h
 cases rx
 obtain⟨t,rfl⟩:=ry
 obtain⟨es,hm,hf⟩:=XA kf I
 exact tail_any hm.typeIs PySem.F.slot_dict_getitem.lookup (wpAny_getItem_of (k:=k) (key:=.str k t) (by show Value.isStrOf k (.str k t)=true;rw[C5];exact decide_eq_true rfl) hm (v:=.ref f) (by rw[hf,hg];rfl) ⟨.ref f,H,I.tok _,rfl,q⟩) hs
def Sx(a:Addr)(tb:List (Str×Addr))(neg:Bool):R2:=fun y x H Q=>x = .ref a/\∃k,y = .str k/\Q (.bl (neg != (DJ tb k).isSome)) H
theorem VW{X:Cx}{a:Addr}{tb:List (Str×Addr)}(kf:KF (Gf X) X.w a tb)(hs:(a==sysModules)=false):OpR X (compareOp .In) (Sx a tb false):=by
 intro pins s σ H x y v u Q I rx ry h
 obtain⟨rfl,k,rfl,q⟩:=h
 cases ry
 obtain⟨t,rfl⟩:=rx
 obtain⟨es,hm,hf⟩:=XA kf I
 refine wpAny_in_of (k:=k) (by show Value.isStrOf k (.str k t)=true;rw[C5];exact decide_eq_true rfl) hs hm ?_
 rw[hf,Option.isSome_map]
 exact⟨.bl _,H,I.tok _,rfl,by simpa using q⟩
theorem Qo{w:World}{k:Str}:∀{es:List DictEntry} {tb:List (Str×PyData)},KdL K w es tb->(es.find? fun e=>Value.isStrOf k e.key).isSome=(Jg tb k).isSome
 |[],[],_=>rfl
 |[],_::_,h=>h.elim
 |_::_,[],h=>h.elim
 |x::es,p::tb,⟨⟨t,hk⟩,hh,hc,r⟩=>by
  unfold Jg
  rw[List.find?_cons,hk,C5]
  by_cases e:p.1=k
  ·rw[if_pos e,decide_eq_true e.symm];rfl
  ·rw[if_neg e,decide_eq_false (Ne.symm e)]
   exact Qo r
def Sy(a:Addr)(tb:List (Str×PyData)):R2:=fun y x H Q=>x = .ref a/\∃k,y = .str k/\Q (.bl (Jg tb k).isSome) H
theorem VX{X:Cx}{a:Addr}{tb:List (Str×PyData)}(kd:KD (Gf X) X.w a tb)(hs:(a==sysModules)=false):OpR X (compareOp .In) (Sy a tb):=by
 intro pins s σ H x y v u Q I rx ry h
 obtain⟨rfl,k,rfl,q⟩:=h
 cases ry
 obtain⟨t,rfl⟩:=rx
 obtain⟨es,n,lk,hL⟩:=kd.ex
 have ho:=I.kIn _ _ lk
 have hm:s.heap.MapOf (strKind X.prog X.w) a (fun k=>findBy Value.isStrOf es k):=⟨_,es,n,ho,⟨rfl,rfl,rfl⟩,rfl,fun e he=>Qp hL e (Array.mem_toList_iff.mpr he),fun _=>rfl⟩
 refine wpAny_in_of (k:=k) (by show Value.isStrOf k (.str k t)=true;rw[C5];exact decide_eq_true rfl) hs hm ?_
 have e:(findBy Value.isStrOf es k).isSome=(Jg tb k).isSome:=by
  unfold findBy
  rw[<- Array.find?_toList,Option.isSome_map]
  exact Qo hL
 rw[e]
 exact⟨.bl _,H,I.tok _,rfl,q⟩
def UL(tb:List (Str×PyData))(f:DX)(τ:DS):Option (PyData×DS):=(f τ).bind fun p=>match p.1 with
 |.str k=>some (.bool (Jg tb k).isSome,p.2)
 |_=>none
theorem bu{fa:Bool}{a:Addr}{tb:List (Str×PyData)}{t:TE}{f:DX}(h:E K t fa f):E K (tOp (Sy a tb) t (tC (.ref a))) false (UL tb f):=by
 refine⟨fun τ d τ' e=>?_,?_⟩
 ·unfold UL at e
  obtain⟨⟨x,τ1⟩,e1,e⟩:=oB e
  dsimp only at e
  split at e
  ·cases e;exact h.like _ _ _ e1
  ·cases e
 intro S M τ σ H Q d τ' r e q
 unfold UL at e
 obtain⟨⟨x,τ1⟩,e1,e⟩:=oB e
 dsimp only at e
 split at e
 ·rename_i k
  cases e
  refine h.weak.run S M τ σ H _ _ _ r e1 fun v H1 r1 c1 i1=>?_
  cases (show v = .str k from i1)
  exact⟨rfl,k,rfl,q _ H1 r1 c1 rfl⟩
 ·cases e
abbrev Mir:=List L->Option (PyData×List L)
inductive TMs (T:Addr->Mir->Prop):List (Str×Addr)->List (Str×Mir)->Prop
 |nil:TMs T [] []
 |cons {k:Str} {f:Addr} {G:Mir} {tb:List (Str×Addr)} {tm:List (Str×Mir)} (h:T f G) (r:TMs T tb tm):TMs T ((k,f)::tb) ((k,G)::tm)
theorem TMs.get{T:Addr->Mir->Prop}{k:Str}{G:Mir}:∀{tb:List (Str×Addr)} {tm:List (Str×Mir)},TMs T tb tm->DJ tm k=some G->∃f,DJ tb k=some f/\T f G
 |_,_,.nil,h=>by cases h
 |_,_,.cons (k:=k') (f:=f) h r,e=>by
  unfold DJ at e ⊢
  by_cases z:k'=k
  ·rw[if_pos z]at e ⊢
   cases e
   exact⟨f,rfl,h⟩
  ·rw[if_neg z]at e ⊢
   exact r.get e
theorem TMs.some{T:Addr->Mir->Prop}{k:Str}:∀{tb:List (Str×Addr)} {tm:List (Str×Mir)},TMs T tb tm->(DJ tb k).isSome=(DJ tm k).isSome
 |_,_,.nil=>rfl
 |_,_,.cons (k:=k') h r=>by
  unfold DJ
  by_cases z:k'=k
  ·rw[if_pos z,if_pos z];rfl
  ·rw[if_neg z,if_neg z];exact r.some
def aA(P:Program)(w:World)(K:PySem.W.Frag)(mg:Str->Option Value)(base:Heap)(k:Nat):Addr->Mir->Prop:=fun f G=>∃x ps,Cal P w K mg base k x ps (spD ⟨K,w⟩ G false)/\mg x=some (.ref f)
theorem Vw{X:Cx}{k:Nat}(hr:Room k X.A):dn X (fun f sp=>∃G,aA X.prog X.w X.K X.mg X.base k f G/\sp=spD ⟨X.K,X.w⟩ G false):=by
 rintro f sp ⟨G,⟨x,ps,C,hm⟩,rfl⟩
 obtain⟨f',fd,F,b,kp,m⟩:=C.ex
 rw[m]at hm
 cases hm
 exact⟨k,fd,ps,F,hr,kp,b⟩
def P8(tm:List (Str×Mir))(f:DX)(τ:DS):Option (PyData×DS):=(f τ).bind fun p=>match p.1 with
 |.str k=>some (.bool (DJ tm k).isSome,p.2)
 |_=>none
theorem bx{T:Addr->Mir->Prop}{fa:Bool}{a:Addr}{tb:List (Str×Addr)}{tm:List (Str×Mir)}{t:TE}{f:DX}(hT:TMs T tb tm)(h:E K t fa f):E K (tOp (Sx a tb false) t (tC (.ref a))) false (P8 tm f):=by
 refine⟨fun τ d τ' e=>?_,?_⟩
 ·unfold P8 at e
  obtain⟨⟨x,τ1⟩,e1,e⟩:=oB e
  dsimp only at e
  split at e
  ·cases e;exact h.like _ _ _ e1
  ·cases e
 intro S M τ σ H Q d τ' r e q
 unfold P8 at e
 obtain⟨⟨x,τ1⟩,e1,e⟩:=oB e
 dsimp only at e
 split at e
 ·rename_i k
  cases e
  refine h.weak.run S M τ σ H _ _ _ r e1 fun v H1 r1 c1 i1=>?_
  cases (show v = .str k from i1)
  refine⟨rfl,k,rfl,q _ H1 r1 c1 ?_⟩
  show V.bl _=V.bl _
  rw[Bool.false_bne,hT.some]
 ·cases e
def ID(tm:List (Str×Mir))(f:DX)(a:DA)(τ:DS):Option (PyData×DS):=(f τ).bind fun p=>match p.1 with
 |.str k=>(DJ tm k).bind fun G=>AF G a p.2
 |_=>none
theorem V1{T:Addr->Mir->Prop}{fa:Bool}{ad:Addr}{tb:List (Str×Addr)}{tm:List (Str×Mir)}{t:TE}{f:DX}{ta:TA}{a:DA}(hT:TMs T tb tm)(h:E K t fa f)(ha:A K ta a) :
  E K (Sg (fun f sp=>∃G,T f G/\sp=spD K G false) (tOp (rKf ad tb) (tC (.ref ad)) t) ta) false (ID tm f a):=by
 refine⟨fun τ d τ' e=>?_,?_⟩
 ·unfold ID at e
  obtain⟨⟨x,τ1⟩,e1,e⟩:=oB e
  dsimp only at e
  split at e
  ·obtain⟨G,e2,e⟩:=oB e
   exact(h.like _ _ _ e1).trans ((Nf (fr:=false) (G:=G) (X:=E0) ha).like _ _ _ e)
  ·cases e
 intro S M τ σ H Q d τ' r e q
 unfold ID at e
 obtain⟨⟨x,τ1⟩,e1,e⟩:=oB e
 dsimp only at e
 split at e
 ·rename_i k
  obtain⟨G,e2,e⟩:=oB e
  obtain⟨fn,hg,hT'⟩:=hT.get e2
  refine h.weak.run S M τ σ H _ _ _ r e1 fun v H1 r1 c1 i1=>?_
  cases (show v = .str k from i1)
  refine⟨rfl,k,fn,rfl,hg,fn,spD K G false,rfl,⟨G,hT',rfl⟩,?_⟩
  exact(Nf (fr:=false) (G:=G) (X:=E0) ha).run S M τ1 σ H1 Q d τ' r1 e fun v H' r' c' res=>q v H' r' (c1.trans c') (res.back r1 c1)
 ·cases e
def NW:List PyData->PyData->Option Nat
 |[],_=>none
 |y::ys,x=>if PyData.eqv y x=true then some 0 else (NW ys x).map (·+1)
def Sz(K:KW):V->List V->Hp->VK->Prop:=fun x xs H Q=>∃y ds d k,xs=[y]/\Is K H (.list ds) x/\Is K H d y/\okD d=true/\okD (.list ds)=true/\NW ds d=some k/\Q (.int (k:Nat)) H
def Mc:PyData->PyData->Option PyData
 |.list ds,d=>if okD d&&okD (.list ds) then (NW ds d).map fun k=>.int (k:Nat) else none
 |_,_=>none
theorem Oj{d:PyData}:∀{ds:List PyData} {k:Nat},NW ds d=some k->∃h:k<ds.length,PyData.eqv ds[k] d=true/\∀(m:Nat) (hm:m<ds.length),m<k->PyData.eqv ds[m] d=false
 |[],k,h=>by cases h
 |y::ys,k,h=>by
  unfold NW at h
  by_cases e:PyData.eqv y d=true
  ·rw[if_pos e]at h
   cases h
   exact⟨Nat.succ_pos _,e,fun m _ hm=>absurd hm (Nat.not_lt_zero _)⟩
  ·rw[if_neg e]at h
   obtain⟨j,hj,rfl⟩:=oM h
   obtain⟨h1,h2,h3⟩:=Oj hj
   refine⟨Nat.succ_lt_succ h1,h2,fun m hm hlt=>?_⟩
   cases m with
   |zero=>exact Bool.eq_false_iff.mpr e
   |succ m=>exact h3 m (Nat.lt_of_succ_lt_succ hm) (Nat.lt_of_succ_lt_succ hlt)
theorem Rc{X:Cx}(hu:X.A.units+65<cLine):MtR X "list.index" (Sz (Gf X)):=by
 intro pins s σ H x xs v us Q I rx rs h
 obtain⟨y,ds,d,k,rfl,hx,hy,od,ol,hk,q⟩:=h
 obtain⟨u,rfl,ru⟩:=Hq rs
 obtain⟨as,ra⟩:=FJ I hx rx
 obtain⟨bs,rb⟩:=FJ I hy ru
 obtain⟨c1,c2⟩:=Gi ol
 have hm:X.A.units+1+min (PyData.depthAll ds) d.depth<cLine:=by omega
 obtain⟨a,vs,rfl,ha,hl⟩:=hx
 cases (show v=Value.ref a from rx)
 have hz:ds.length<=sizeLine:=by
  obtain⟨_,_,_,z⟩:=I.list (SqL.of ha)
  rw[<- hl.length];exact z
 obtain⟨k1,k2,k3⟩:=Oj hk
 cases ra with
 |@list _ o vs' n _ _ h1 h2 h3 h4 =>
  obtain⟨oc,od',odt,osl⟩:=o
  cases h2
  cases h3
  have em:=SeqAt.readsAll_map ds _ _ c1 h4
  have hlen:vs'.toList.length=ds.length:=by rw[<- em,List.length_map]
  have at':∀(m:Nat) (h:m<vs'.size) (h':m<ds.length),SeqAt.readOf s.heap vs'[m]=ds[m]:=fun m h h'=>by
   have:(vs'.toList.map (SeqAt.readOf s.heap))[m]?=ds[m]?:=by rw[em]
   rw[List.getElem?_map,List.getElem?_eq_getElem h',Array.getElem?_toList,Array.getElem?_eq_getElem h]at this
   exact Option.some.inj this
  have hsz:vs'.size=ds.length:=by rw[<- hlen,Array.length_toList]
  refine call_meets PySem.F.slot_list_index ⟨_,h1,rfl⟩ PySem.F.entry_list_index (PySem.F.args_list_index_2 _ _)
   (SeqAt.list_indexAt a vs' n od' osl u (fun y=>PyData.eqv (SeqAt.readOf s.heap y) d) k (by omega) ?_ ?_ ?_) ⟨h1,SeqAt.items_eqAt h4 rb c1 (Eo od) hm,?_⟩
  ·have:sizeLine=2 ^ 24:=rfl
   omega
  ·show PyData.eqv (SeqAt.readOf s.heap vs'[k]) d=true
   rw[at' k _ k1];exact k2
  ·intro m hm hlt
   show PyData.eqv (SeqAt.readOf s.heap vs'[m]) d=false
   rw[at' m hm (by omega)];exact k3 m _ hlt
  ·exact⟨.int k,H,I.tok _,⟨_,rfl⟩,q⟩
theorem P1{x y d:PyData}(h:Mc x y=some d):∃ds k,x = .list ds/\okD y=true/\okD (.list ds)=true/\NW ds y=some k/\d = .int (k:Nat):=by
 unfold Mc at h
 split at h
 ·split at h
  ·rename_i hok
   obtain⟨k,e4,h⟩:=oM h
   rw[Bool.and_eq_true]at hok
   exact⟨_,k,rfl,hok.1,hok.2,e4,h.symm⟩
  ·cases h
 ·cases h
theorem Yk{fa fb:Bool}{ta tb:TE}{a b:DX}(ha:E K ta fa a)(hb:E K tb fb b):E K (tBM K "list" (Sz K) ta (CJ tb FG)) false (dOp Mc a b):=by
 refine⟨fun τ d τ' e=>?_,?_⟩
 ·unfold dOp at e
  obtain⟨⟨x,τ1⟩,e1,e⟩:=oB e
  obtain⟨⟨y,τ2⟩,e2,e⟩:=oB e
  obtain⟨z,e3,e⟩:=oM e
  cases e
  exact(ha.like _ _ _ e1).trans (hb.like _ _ _ e2)
 intro S M τ σ H Q d τ' r e q
 unfold dOp at e
 obtain⟨⟨x,τ1⟩,e1,e⟩:=oB e
 obtain⟨⟨y,τ2⟩,e2,e⟩:=oB e
 obtain⟨z,e3,e⟩:=oM e
 cases e
 obtain⟨ds,k,rfl,h1,h2,e4,rfl⟩:=P1 e3
 refine ha.weak.run S M τ σ H _ _ _ r e1 fun v H1 r1 c1 i1=>?_
 obtain⟨p,vs,rfl,hp,hl⟩:=(show ∃p vs,v = .ref p/\hid S H1 p=some (.lst vs)/\IsL K (hid S H1) ds vs from i1)
 refine⟨Or.inl ⟨rfl,vs,SqL.of (hid_iff.mp hp).2⟩,hb.weak.run S M _ σ H1 _ _ _ r1 e2 fun v2 H2 r2 c2 i2=>?_⟩
 have k12:Keep S H1 S H2:=c2.keep r1.sub
 exact⟨v2,ds,y,k,rfl,(Is.mono k12.same (show Is K (hid S H1) (.list ds) (.ref p) from⟨p,vs,rfl,hp,hl⟩)).mono same_hid,(show Is K (hid S H2) y v2 from i2).mono same_hid,h1,h2,e4,q _ H2 r2 (c1.trans c2) rfl⟩
end DL
end
section
namespace DL
open PySem L2
variable {K:KW} {np:Nat}
end DL
end
section
namespace DL
open PySem L2
variable {K:KW} {np:Nat}
end DL
end
section
namespace DL
open PySem L2
variable {K:KW} {np:Nat}
def gtP:List Nat->PyData->Option PyData
 |[],d=>some d
 |k::π,.list ds=>(ds[k]?).bind (gtP π)
 |k::π,.tuple ds=>(ds[k]?).bind (gtP π)
 |_::_,_=>none
def stP(x:PyData):List Nat->PyData->PyData
 |[],_=>x
 |k::π,.list ds=>.list (ds.set k (stP x π (ds.getD k .none)))
 |k::π,.tuple ds=>.tuple (ds.set k (stP x π (ds.getD k .none)))
 |_::_,d=>d
def dh(K:KW)(S:Addr->Prop)(H:Hp)(F:List Addr)(d:PyData)(v:V)(π:List Nat)(d':PyData)(u:V):Prop:=∃Fy,Dp K S H d' u Fy/\(∀a∈Fy,a∈F)/\Fy.Nodup/\((π=[]->u=v/\d'=d)/\(π≠[]->∀ds,d = .list ds->∀a,v = .ref a->a∉Fy)) /\
 ∀(H':Hp) (x:PyData) (Fx:List Addr),TSm (hid S H) (hid S H')->(∀a∈F,a∉Fy->H' a=H a)->Dp K S H' x u Fx->(∀a∈Fx,a∈Fy)->Fx.Nodup->∃F3,(∀a∈F3,a∈F)/\F3.Nodup/\Dp K S H' (stP x π d) v F3
abbrev DP:=PyData->DS->Option (List Nat×PyData×DS)
structure PT(K:KW)(r:Nat)(t:TE)(g:DP):Prop where
 like:∀d τ π d' τ',g d τ=some (π,d',τ')->Like τ τ'
 gp:∀d τ π d' τ',g d τ=some (π,d',τ')->∀π0 dr,gtP π0 dr=some d->gtP (π0++π) dr=some d'
 run:∀(S M:Addr->Prop) τ σ H (Q:VK) dr v F π0 d0 u0 π d' τ',R K (fun b=>S b/\b∉F) (fun b=>M b/\b∉F) τ σ H->σ[r]?=some (some u0)->(∀a∈F,∃vs,H a=some (.lst vs))->(∀a,M a->S a)->gtP π0 dr=some d0->dh K S H F dr v π0 d0 u0->g d0 τ=some (π,d',τ') ->
  (∀u H',R K (fun b=>S b/\b∉F) (fun b=>M b/\b∉F) τ' σ H'->Chg (fun b=>M b/\b∉F) H H'->dh K S H' F dr v (π0++π) d' u->Q u H')->t σ H Q
end DL
end
section
namespace DL
open PySem L2
variable {K:KW} {np:Nat}
end DL
end
section
namespace L2
open PySem DL
end L2
namespace DL
open PySem L2
variable {K:KW}
end DL
end
section
namespace Duh
open PySem
section
variable {K:Type} [DecidableEq K]
end
section
variable {prog:Program} {w:World} {K:Type} [DecidableEq K] {knd:HeapKind prog w K} {A:Around} {E:Value->Shared->Prop} {s:Shared}
end
end Duh
end
section
namespace DL
open PySem L2 PyProof.Rows
variable {K:KW}
instance (l:List Int):Decidable l.Nodup:=inferInstance
end DL
end
section
namespace DL
open PySem L2
variable {K:KW} {np:Nat}
end DL
end
section
namespace DL
open PySem L2
variable {K:KW} {np:Nat}
theorem XR{S:Addr->Prop}{τ:DS}{σ:St}{H:Hp}(hl:σ.length=τ.length)(hd:∀(i:Nat) (l:L),τ[i]?=some (some l)->∃x v,l = .d x/\σ[i]?=some (some v)/\Is K (hid S H) x v)(hs:∀a,S a->∃o,H a=some o):R K S (fun _=>False) τ σ H:=by
 have own:∀(i:Nat) (o:Ow),τ[i]?≠some (some o.L):=fun i o e=>by
  obtain⟨x,v,z,_⟩:=hd i _ e
  exact Ow.not_d z
 refine⟨hl,fun i z e=>?_,fun i o e=>absurd e (own i o),fun i z e=>?_,fun i j o p a e=>absurd e (own i o),fun _ h=>h.elim,hs,GR.nil fun i z e=>?_⟩
 ·obtain⟨x,v,y,h1,h2⟩:=hd i _ e
  cases y;exact⟨v,h1,h2⟩
 ·obtain⟨x,v,y,_⟩:=hd i _ e
  cases y
 ·obtain⟨x,v,y,_⟩:=hd i _ e
  cases y
end DL
end
section
namespace L2
open PySem PySem.Spec PyProof.Rows
def CRg(lo hi st:Int):Prop:=-1000000<=lo/\lo<=1000000/\-1000000<=hi/\hi<=1000000/\0<st/\st<=1000000
end L2
namespace DL
open PySem L2 PyProof.Rows
variable {K:KW}
instance {i j k:Int}:Decidable (CRg i j k):=by unfold CRg;infer_instance
end DL
end
section
namespace DL
open PySem L2 PyProof.Rows
abbrev TP:=L2.St->Hp->(List (Str×V)->Hp->Prop)->Prop
variable {K:KW}
end DL
end
section
namespace L2
open PySem PySem.Spec PyProof.Rows
end L2
namespace DL
open PySem L2 PyProof.Rows
variable {K:KW}
end DL
namespace DL
open PySem L2 PyProof.Rows
end DL
end
section
namespace L2
open PySem PySem.Spec PyProof.Rows
theorem MD:entryFor table "proto.unchain"=some Builtin.«proto.unchain»:=entryFor_of_fast (by kernel_rfl)
section
variable {prog:Program} {w:World} {A:Around} {E:Value->Shared->Prop} {s:Shared}
theorem LL{it l ea:Addr}{oe:Obj}{i:Nat}{items}{Q:Option Value->Shared->Prop}(hh:A.handled=some (.ref ea))(hea:s.heap.get? ea=some oe)(hnc:NoCtx oe)(hne:ea≠it)
  (hit:s.heap.IsListIter it l i) (hl:s.heap.IsList l items) (hx:items[i]?=none)
  (hQ:∀h',Heap.ExtBut it s.heap h'->Q none { s with heap:=h' }):wpAny (model prog w) A (pyNext (.ref it)) Q E s:=by
 obtain⟨o,ho,hc,hd⟩:=id hit
 obtain⟨ol,hol,_,nl,hdl⟩:=hl
 unfold pyNext
 refine wpAny_bind (wpAny_attempt (wpAny_callSpecial?_slot (name := Str.ofString "__next__") hit.typeIs slot_listiter_next
  (wpAny_call_entry slot_listiter_next hit.typeIs entry_listiter_next ?_ (args_listiter_next _))))
 show wpAny _ _ (field (.ref it) 0 >>= _) _ _ s
 refine wpAny_bind (wpAny_field ho hd (x:=.ref l) rfl ?_)
 show wpAny _ _ (if (Value.ref l==Value.none)=true then _ else _) _ _ s
 rw[if_neg (show ¬((Value.ref l==Value.none)=true) from Bool.false_ne_true)]
 show wpAny _ _ (field (.ref it) 1 >>= _) _ _ s
 refine wpAny_bind (wpAny_field ho hd (x:=.int i 0) rfl ?_)
 show wpAny _ _ (seqItems? (.ref l) >>= _) _ _ s
 refine wpAny_bind (wpAny_seqItems hol hdl ?_)
 simp only[Int.toNat_natCast,hx]
 refine wpAny_bind (wpAny_rule (wpAny_bind (wpAny_setField ho hd (by simp) ?_)))
 show wpAny _ _ (newExc (.type "StopIteration") [] >>= _) _ _ _
 refine wpAny_bind ?_
 simp only[newExc,newTuple]
 refine wpAny_bind (wpAny_newObj_type ?_ (by size_fits))
 refine wpAny_bind (m:=firstArgMember _ _) (wpAny_of_eq (a:=Value.none) (by first|rfl|(simp only[firstArgMember];rfl)) ?_)
 refine wpAny_newObj_type ?_ (by size_fits)
 have e1:=(Heap.SameBut.update s.heap it (Obj.mapFields (·.setIfInBounds 0 Value.none))).extBut.push { cls:=.type "tuple",data:=.seq ([]:List Value).toArray }
 generalize (s.heap.update it (Obj.mapFields (·.setIfInBounds 0 Value.none))).push { cls:=.type "tuple",data:=.seq ([]:List Value).toArray }=g1 at e1 ⊢
 dsimp only
 have hlt:ea≠g1.objs.size:=Nat.ne_of_lt (Heap.lt_size (e1 ea oe hne hea))
 simp only[raiseNew]
 refine wpAny_bind (wpAny_handled ?_)
 rw[show A.in1.handled=some (.ref ea) from hh]
 dsimp only
 rw[if_pos (show(Value.ref ea != Value.ref g1.objs.size)=true from by simp[bne,hlt])]
 obtain⟨vs,d1,d2⟩:=hnc
 refine wpAny_bind (wpAny_holding (wpAny_runValue (codeAny_builtin MD ?_)))
 unfold Builtin.«proto.unchain»
 dsimp only
 refine wpAny_bind (wpAny_field (Heap.get?_push_of_some _ (e1 ea oe hne hea)) d1 d2 ?_)
 rw[if_pos (show(Value.none==Value.none)=true from rfl)]
 refine wpAny_bind (wpAny_pure (wpAny_pure ?_))
 dsimp only
 refine wpAny_bind ?_
 unfold updateField
 refine wpAny_bind (wpAny_load (Heap.get?_push_size _ rfl) ?_)
 dsimp only
 rw[if_pos (by first|(simp;done)|(rw[Array.size_append];exact Nat.lt_of_lt_of_le (by decide:2<6) (Nat.le_add_right _ _)))]
 refine wpAny_update (Heap.get?_push_size _ rfl) (wpAny_throw ?_)
 refine wpAny_bind (wpAny_isInstance (T:="StopIteration") (b:=true) ⟨_,Heap.get?_update_self _ (Heap.get?_push_size _ rfl) rfl,rfl⟩ isSubtype_stop ?_)
 refine wpAny_pure (hQ _ fun b o hb e=>?_)
 have e2:=e1 b o hb e
 rw[Heap.get?_update_other _ _ (Nat.ne_of_gt (Heap.lt_size e2))]
 exact Heap.get?_push_of_some _ e2
end
theorem Pe{P:Program}{w:World}{K:PySem.W.Frag}{mg:Str->Option Value}{base:Heap}{N:List Str}{qual:Str}{scope:Scope}{f:Addr}{cd:Value}{A:Around}{outer:List Env}{s:Shared}{H:Hp}{E:XK} :
  Jd (CXr P w) (JC (CXr P w) P w K mg base N qual scope f cd A outer s H E) E:=by
 intro pins σ H1 s1 e s2 I hx
 obtain⟨ea,C,H2,rfl,h1,h2,h3,h4,h5,h6,h7⟩:=hx
 have g:Got1 (JC (CXr P w) P w K mg base N qual scope f cd A outer s H E) pins σ H1 H2 s1 ea C .none s2:=⟨h1,h2,h3,h4,h5,h6⟩
 have hm:∀b,Nw s1.heap H2 b->Nw s.heap H2 b:=fun b z=>by
  refine⟨?_,z.2⟩
  cases q:s.heap.get? b with
  |none=>rfl
  |some o =>
   obtain⟨o',r⟩:=I.base.there b o q (by intro y;cases y)
   rw[z.1]at r
   cases r
 show wpAny (model P w) (A.deeper (envOfC qual scope s.heap.objs.size f cd)) (leaving (envOfC qual scope s.heap.objs.size f cd) (.ref ea)) (fun _ s''=>CXr P w outer H s E (.ref ea) s'') (fun e' s''=>CXr P w outer H s E e' s'') s2
 unfold leaving
 refine wpAny_bind (g.lands I ⟨rfl,rfl⟩ I.ok.frames fun s4 g4=>?_)
 have J:=g4.inv I
 exact⟨ea,C,H2,rfl,J.os,J.bare,J.base,J.hok,hm ea g4.new,g4.xat.mono hm,h7⟩
def HQ(ea:Addr)(oe:Obj)(X:Cx):Prop:=X.A.handled=some (.ref ea)/\X.H₀ ea=some (.frz oe (.own ea))/\NoCtx oe
theorem PQ{ea:Addr}{oe:Obj}{P:Program}{w:World}{K:PySem.W.Frag}{tg:Expr}(a it:Addr):Um (HQ ea oe) P w K tg (Itl K a) [it] it (fun i h=>h.IsListIter it a i) where
 obj:=(JI (P:=P) (w:=w) (K:=K) (tg:=tg) a it).obj
 keep:=(JI (P:=P) (w:=w) (K:=K) (tg:=tg) a it).keep
 item:=by
  intro X hP hw hK hc i pins s σ H E I hf st hg
  subst hP hw hK
  obtain⟨xs,x,hq,hx⟩:=hg
  obtain⟨its,rv,p,hz⟩:=I.list hq
  obtain⟨u,hu,ru⟩:=rv.get hx
  obtain⟨f0,f1,f2,f3,f4,f5⟩:=hf it (by simp)
  refine wpAny_pyNext_list_item st p.isList (x:=u) (by simpa using hu) fun h' st' sb=>?_
  have I1:Inv X pins σ H { s with heap:=h' }:=I.turned (t':=s.toks) (fun b o hb e=>(sb.2 b hb).trans e) f0 f1 f3 f4 f5
  obtain⟨o,e,c,d⟩:=id st'
  exact⟨u,rfl,Ol (s:={ s with heap:=h' }) e c d (by decide) ⟨x,H,I1,ru,⟨rfl,fun ys hy=>by rw[I.list_inj hy hq];exact hx⟩,st',fun b hb=>(hf b hb).1⟩⟩
 done:=by
  intro X hP hw hK hc i pins s σ H E I hf st hg
  subst hP hw hK
  obtain⟨xs,hq,hx⟩:=hg
  obtain⟨its,rv,p,hz⟩:=I.list hq
  obtain⟨f0,f1,f2,f3,f4,f5⟩:=hf it (by simp)
  have hl:=rv.length
  have hea:=I.base.frzs _ _ _ hc.2.1
  exact LL hc.1 (I.hok _ _ hea).1 hc.2.2 (A9 hea f0) st p.isList (by simp;omega) fun h' eb=>⟨rfl,I.turned (t':=s.toks) (fun b o hb e=>eb b o hb e) f0 f1 f3 f4 f5⟩
 self:=fun _ _ _ _ _ st h=>wpAny_pyIter_listiter st h
section
variable {X:Cx} {N':List Str} {own:Nat} {fr:List Nat} {scope:Scope} {elt tg iter:Expr} {ifs:List Expr} {pos:Pos}
theorem RM{ea:Addr}{oe:Obj}{tl:TE}{g:TG}{tc:TT}{te:TE}{i:Nat}{y:Str}{py spos:Pos}(hq:HQ ea oe X)(hN:X.N.Nodup)(hiN:X.N[i]?=some y)(hy:X.env.scope.names.lookup y=some .local)(ok:QC X N' own fr scope)(hl:PE X iter tl)
  (hg:∀cl fp s3 H3,PG (cxC X N' scope cl fp s3 H3) tg g) (ht:∀cl fp s3 H3,PTs (cxC X N' scope cl fp s3 H3) ifs tc) (he:∀cl fp s3 H3,PE (cxC X N' scope cl fp s3 H3) elt te)
  (hsw:swapsWith (.ListComp elt [⟨tg,iter,ifs,0⟩] scope pos) (some (.Name y py)) spos.line X.env=pure true)
  (hs:∀x,foldedSetIterable iter X.env x=pure x:=by intro _;rfl):PS X (.Assign [.Name y py] (.ListComp elt [⟨tg,iter,ifs,0⟩] scope pos) spos) (fun D σ H=>tLC own fr (MZ X.K tl) g tc te σ H fun v H'=>D.nx (σ.set i (some v)) H'):=by
 intro pins s σ H D I h
 obtain⟨cl,ecl,cl1,cl2⟩:=Nh (env:=X.env) (scope:=scope) fun x hx=>I.ok.has x (ok.free x hx)
 rw[exec_Assign_Name_used _ _ _ _ hsw]
 refine wpAny_bind (wpAny_standAt (wpAny_bind ?_))
 show wpAny _ _ (do let _ <- comprehension (.ListComp elt [⟨tg,iter,ifs,0⟩] scope pos) scope X.env _ (newList []) false (eval iter X.env) (some (assign (.Name y py) X.env))) _ _ s
 refine wpAny_bind (wpAny_mono (wpAny_comprehension_free (use := some (assign (.Name y py) X.env)) (Q := fun _ s' => SP X pins D .next s') rfl hs ecl ok.kind ok.names
  (thn (hl pins s σ H _ I h) fun v s1 h1=>?_)) (fun _ s' hq=>wpAny_pure (wpAny_pure hq)) fun _ _ e=>e)
 obtain⟨x,H1,I1,r1,a,e,⟨xs,hq1⟩,h2⟩:=h1
 subst e
 cases r1
 obtain⟨its,rv,p,hz⟩:=I1.list hq1
 refine wpAny_pyIter_list p.isList ?_
 have I2:Inv X pins σ H1 { s1 with heap:=s1.heap.push { cls:=.type "list_iterator",data:=.fields #[.ref a,.int 0 0] } }:=I1.kept (t':=s1.toks) fun b o e=>Heap.get?_push_of_some _ e
 refine Ld (G:=HQ ea oe) (fp:=[s1.heap.objs.size]) (RR:=fun acc C=>compPost (model X.prog X.w) X.A X.xe (some (assign (.Name y py) X.env)) (fun _ s'=>SP X pins D .next s') acc C) (fun s3 H3 I3=>⟨hq.1,I3.base.frzs _ _ _ hq.2.1,hq.2.2⟩) ok I2 (PQ a _) ⟨_,Heap.get?_push_size _ rfl,rfl,rfl⟩ (fun b hb=>?_) cl1 cl2 (hg cl) (ht cl) (he cl) h2 ?_
 ·have e:b=s1.heap.objs.size:=by simpa using hb
  subst e
  exact I1.fpOk (Nat.le_refl _) (I1.hok.fresh (Nat.le_refl _))
 intro D' C s' H' J1 O q
 show wpAny _ _ (assign (.Name y py) X.env (.ref D')) _ _ _
 refine wpAny_assign_Name (JK J1 hN hiN (.inl hy) (v:=.ref D') rfl (fun s'' J2 sb=>?_) (.inr hy))
 obtain⟨m,hn⟩:=O.ns
 obtain⟨a,sb,ha⟩:=sb
 have nea:C≠a:=by
  rcases ha with ha|ha
  ·rw[ha];exact O.ne
  ·exact fun z=>O.nc y a ha z.symm
 refine⟨m,hn.sameBut sb nea,fun h'' sb'=>?_⟩
 have O2:Own X pins C H' s'':=⟨⟨m,hn.sameBut sb nea⟩,O.hn,O.ne,O.ab,O.nc,O.np⟩
 exact⟨_,H',O2.go J2 sb',q⟩
end
abbrev Around.calmed(A:Around):Around:={ A with handled:=none }
abbrev cxH(P:Program)(w:World)(K:PySem.W.Frag)(mg:Str->Option Value)(base:Heap)(N:List Str)(qual:Str)(scope:Scope)(f:Addr)(cd:Value)(A:Around)(outer:List Env)(s:Shared)(H:Hp)(E:XK):Cx:={ JC CX0 P w K mg base N qual scope f cd A outer s H E with calm:=false,xe:=fun _ _=>False }
structure RA(P:Program)(w:World)(K:PySem.W.Frag)(mg:Str->Option Value)(base:Heap)(k:Nat)(f:Addr)(fd:FuncData)(ps:List Str)(sp:Addr->Obj->Sp):Prop where
 len:∀ea oe vs H Q E,sp ea oe vs H Q E->vs.length=ps.length
 run:∀(ea:Addr) (oe:Obj) (A:Around) (outer:List Env) (s:Shared) (H:Hp) (args:Args) (us:List Value) (vs:List V) (Q:VK) (E:XK),Room k (Around.calmed A)->A.handled=some (.ref ea)->H ea=some (.frz oe (.own ea))->NoCtx oe->Ur P w K mg base A outer s H->BindsTo s fd args (ps.zip us)->Vals vs us->sp ea oe vs H Q E ->
  codeAny (model P w) A (.call (.ref f) args) (CR CX0 outer P w H s Q E) s
theorem Fun.okH{P:Program}{w:World}{K:PySem.W.Frag}{mg:Str->Option Value}{base:Heap}{x qual:Str}{st:Stmt}{f:Addr}{fd:FuncData}{N ps:List Str}{k:Nat}{sp:Addr->Obj->Sp}(F:Fun K x qual st f fd)(S:Ei N ps (AZ st))(len:∀ea oe vs H Q E,sp ea oe vs H Q E->vs.length=ps.length)
  (hbody : ∀ (ea : Addr) (oe : Obj) (cdv : Value) (A : Around) (outer : List Env) (s : Shared) (H : Hp) (vs : List V) (Q : VK) (E : XK), Room k (Around.calmed (A.deeper (envOfC qual (AZ st) s.heap.objs.size f cdv))) -> HQ ea oe (cxH P w K mg base N qual (AZ st) f cdv A outer s H E) -> sp ea oe vs H Q E ->
   ∃t,PSs (cxH P w K mg base N qual (AZ st) f cdv A outer s H E) (CH st) t/\t { nx:=fun _ H'=>Q .non H',rt:=Q } (start N vs) H):RA P w K mg base (k+1) f fd ps sp:=by
 obtain⟨oc,od,kV,doc,pm,an,cdv,ct,osl,rfl,lk,hcd⟩:=F.ex
 refine⟨len,fun ea oe A outer s H args us vs Q E hr hh hH hnc e0 hb r hsp=>?_⟩
 have hl:=len _ _ _ _ _ _ hsp
 have KX:K.In s.heap:=e0.mod.kin.keeps fun b o e=>(e0.bs b o e).1
 have lim:s.heap.NoLimit:=e0.mod.nolimit.keeps fun b o e=>(e0.bs b o e).1
 have hkind:∀y∈ps.zip us,(AZ st).names.lookup y.1=some .local\/((AZ st).names.lookup y.1=some .cell/\((cellsFrom (s.heap.objs.size+1) (AZ st).names []).lookup y.1).isSome=true):=fun⟨n,v⟩ hy=>by
  rcases S.par n (List.of_mem_zip hy).1 with q|q
  ·exact .inl q
  ·exact .inr ⟨q,PySem.W.cellsFrom_some _ _ _ (.inl q)⟩
 refine codeAny_call_function hr.depth (KX _ _ lk) rfl S.co S.gen rfl (PySem.W.codeRec_of KX hcd) (hb _ _ _ _ ?_)
 refine wpAny_newFunctionEnv_cells S.kind hkind fun env he s1 x=>?_
 subst he
 refine⟨lim.keeps x.toInCall.keep,codeAny_func ?_⟩
 obtain⟨t,ht,hq⟩:=hbody ea oe cdv A outer s H vs Q E (Room.deeper (A:=Around.calmed A) hr _) ⟨hh,hH,hnc⟩ hsp
 have I0:Inv (JC CX0 P w K mg base N qual (AZ st) f cdv (Around.calmed A) outer s H E) [] (start N vs) H s1:=MY S rfl ⟨e0.frames,e0.mod,e0.bs,e0.bsz,e0.funs,e0.frf,e0.hok,e0.bare⟩ hl r x
 have ok:=I0.ok
 have I:Inv (cxH P w K mg base N qual (AZ st) f cdv A outer s H E) [] (start N vs) H s1:=⟨⟨ok.mod,ok.kind,ok.glob,ok.blt,ok.above,ok.inj,ok.has,ok.cab,(fun z=>nomatch z),ok.frames,ok.stk,ok.exf,ok.bs,ok.bsz,ok.noex,ok.exfs,ok.funs,ok.frf⟩,I0.os,I0.bare,I0.base,I0.loc,I0.cell,I0.free,I0.freeC,I0.pin,I0.hok,I0.len⟩
 refine wpAny_mono (ht [] s1 (start N vs) H _ I hq) (fun fl s' hs=>?_) fun e s' hs=>False.elim hs
 have fin:∀{σ':St} {H':Hp} {v:V} {u:Value},Inv (cxH P w K mg base N qual (AZ st) f cdv A outer s H E) [] σ' H' s'->RelV v u->Q v H'->CE outer P w H s Q u s' :=
  fun {σ' H' v u} J rv q=>⟨v,H',J.os,J.bare,J.base,J.hok,rv,q⟩
 cases fl with
 |ret u =>
  obtain⟨v,σ',H',J,rv,q⟩:=hs
  exact fin J rv q
 |next =>
  obtain⟨σ',H',J,q⟩:=hs
  exact fin (v:=V.non) (u:=Value.none) J rfl q
 |brk =>
  obtain⟨_,_,_,q⟩:=hs
  exact False.elim q
 |cont =>
  obtain⟨_,_,_,q⟩:=hs
  exact False.elim q
section
variable {X:Cx} {k i j:Nat} {f ea C D':Addr} {oe:Obj} {fd:FuncData} {ps:List Str} {x cn n y:Str} {p pos p1 np hp p2 py:Pos} {e:Expr} {es:List Expr} {t:TA} {b₀:Stmt} {suite:List Stmt}
theorem TY{sp:Addr->Obj->Sp}(F:RA X.prog X.w X.K X.mg X.base k f fd ps sp)(hr:Room k (Around.calmed X.A))(hh:X.A.handled=some (.ref ea))(hnc:NoCtx oe)(hg:Gl X x)(hm:X.mg x=some (.ref f))(hk:PySem.W.keepIn X.K (.ref f)=true)(hb:Binds X.K fd ps [])
  (ha:PA X (e::es) t) (hdb:(x==("__debug__":Str))=false:=by decide) (he:starEach (e::es) X.env=(false,eval e X.env)::starEach es X.env:=by rfl) (hpl:(backTo pos (starEach es X.env)).any (·.1)=false:=by rfl) :
  PE X (.Call (.Name x p) (e::es) [] pos) (fun σ H Q=>t σ H fun vs H1=>H1 ea=some (.frz oe (.own ea))/\sp ea oe vs H1 Q E0):=by
 intro pins s σ H Q I h
 refine wpAny_Call_Name_kw (GH I hg hm ?_ hdb)
 refine PySem.W.callWith_K (h₀:=X.base) I.ok.mod.kin hk (thn (ha pos pins s σ H _ I h) fun us s1 ⟨vs,H1,I1,r,hH,q⟩=>⟨I1.kIn,?_⟩) he hpl
 have hl:us.length=ps.length:=by rw[<- r.length];exact F.len _ _ _ _ _ _ q
 refine wpAny_call (codeAny_mono (F.run ea oe X.A X.stack s1 H1 ⟨us,[]⟩ us vs Q E0 hr hh hH hnc I1.env0 (by have:=hb s1 us I1.kIn (by simpa using hl);simpa using this) r q) fun r s' hq=>?_)
 cases r with
 |error e=>exact False.elim hq
 |ok fl =>
  cases fl with
  |ret u=>exact I1.after hq
  |next=>exact False.elim hq
  |brk=>exact False.elim hq
  |cont=>exact False.elim hq
abbrev Cx.withinH(X:Cx)(ea:Addr):Cx:={ X with A:=X.A.mark (some (.ref ea)),calm:=false,xe:=fun _ _=>False }
theorem Inv.frzE{pins:List (Addr×Obj)}{σ:St}{H:Hp}{s:Shared}(I:Inv X pins σ H s)(ho:s.heap.get? ea=some oe)(hn:H ea=none)(hl:ea≠X.env.locals)(hd:∀v,oe.data≠.cell v)(hp:∀p∈X.pn++pins,p.1≠ea)(h0:X.s₀.heap.get? ea=none) :
  Inv (X.withinH ea) pins σ (upd H ea (.frz oe (.own ea))) s:=by
 have ok:=I.ok
 have ne:∀{b o},H b=some o->upd H ea (.frz oe (.own ea)) b=some o:=fun q=>by rw[BF (A9 q hn)];exact q
 refine⟨⟨ok.mod,ok.kind,ok.glob,ok.blt,ok.above,ok.inj,ok.has,ok.cab,(fun z=>nomatch z),ok.frames,ok.stk,ok.exf,ok.bs,ok.bsz,ok.noex,ok.exfs,ok.funs,ok.frf⟩,I.os,I.bare,⟨I.base.keep,I.base.slot,fun b o e q hx=>?_,I.base.there,fun b xs q=>ne (I.base.tups b xs q),fun b o u q=>ne (I.base.frzs b o u q),fun b ps q=>?_⟩,I.loc,I.cell,?_,fun y c q=>?_,fun p hp'=>?_,fun b o q=>?_,I.len⟩
 ·rw[BF (fun z=>by rw[z,h0]at e;cases e)];exact I.base.free b o e q hx
 ·obtain⟨m,z⟩:=I.base.tbls b ps q
  exact⟨m,ne z⟩
 ·rw[BF (Ne.symm hl)];exact I.free
 ·rw[BF];exact I.freeC y c q
  intro z
  obtain⟨v,o,h1,h2⟩:=I.cell y c q
  rw[z,ho]at h1;cases h1
  exact hd _ h2
 ·obtain⟨z1,z2,z3⟩:=I.pin p hp'
  exact⟨z1,by rw[BF (hp p hp')];exact z2,z3⟩
 ·by_cases z:b=ea
  ·subst z
   rw[Aq]at q
   cases q
   exact⟨ho,_,ho⟩
  ·rw[BF z]at q
   exact(I.hok b o q).stay (fun _ _ _ r=>r) (fun _ r=>ne r) fun _ _ r=>ne r
theorem Inv.withoutH{pins:List (Addr×Obj)}{σ:St}{H:Hp}{s:Shared}(ok:X.Ok)(I:Inv (X.withinH ea) pins σ H s):Inv X pins σ H s:=⟨ok,I.os,I.bare,I.base,I.loc,I.cell,I.free,I.freeC,I.pin,I.hok,I.len⟩
end
section
variable {X:Cx} {ea C c1:Addr} {oe:Obj} {b:Bool}
theorem R5{T:String}(hc:oe.cls = .ref C)(hd:oe.dict=none)(hn:PySem.W.notCls oe=true)(c:XCls X.K C)(hk:PySem.W.kitOne X.K (.ref C) (.type T)=some b) :
  DC X (.builtin "isinstance") (fun xs H Q=>xs=[.ref ea,.ty T]/\H ea=some (.frz oe (.own ea))/\Q (.bl b) H):=by
 intro pins s σ H Q us vs I rv h
 obtain⟨rfl,hH,q⟩:=h
 cases rv with
 |cons r1 rv =>
  cases rv with
  |cons r2 rv =>
   cases rv
   cases (show _=Value.ref ea from r1)
   cases (show _=Value.type T from r2)
   exact PySem.W.kia_one (Ob c) I.kIn ⟨(I.hok _ _ hH).1,hc,hn,by rw[hd];trivial⟩ hk (fun z=>nomatch z) fun tk=>⟨.bl b,H,I.tok _,rfl,q⟩
theorem Ci(hc:oe.cls = .ref C)(hd:oe.dict=none)(hn:PySem.W.notCls oe=true)(c:XCls X.K C)(hk:PySem.W.kitOne X.K (.ref C) (.ref c1)=some b) :
  DC X (.builtin "isinstance") (fun xs H Q=>xs=[.ref ea,.ref c1]/\H ea=some (.frz oe (.own ea))/\Q (.bl b) H):=by
 intro pins s σ H Q us vs I rv h
 obtain⟨rfl,hH,q⟩:=h
 cases rv with
 |cons r1 rv =>
  cases rv with
  |cons r2 rv =>
   cases rv
   cases (show _=Value.ref ea from r1)
   cases (show _=Value.ref c1 from r2)
   exact PySem.W.kia_one (Ob c) I.kIn ⟨(I.hok _ _ hH).1,hc,hn,by rw[hd];trivial⟩ hk (fun z=>nomatch z) fun tk=>⟨.bl b,H,I.tok _,rfl,q⟩
end
end L2
end
section
namespace DL
open PySem L2
variable {K:KW} {np:Nat}
abbrev F7:=Out ⊕ Nat
abbrev DBX:=DS->Option F7
def GlX(K:KW)(Ex:Nat->Hp->Prop)(F:Frm)(fr:Bool)(S:Addr->Prop)(H:Hp)(D:Lo):F7->Prop
 |.inl o=>Gl K F fr S H D o
 |.inr n=>∀H',Same F.H H'->Ex n H'
def BX(K:KW)(np:Nat)(Ex:Nat->Hp->Prop)(t:TS)(fr:Bool)(f:DBX):Prop:=∀(F:Frm) S M τ σ H (D:Lo) out,F.ar.length<=np->(∀a,¬F.M a)->RF K F S M τ σ H->f τ=some out->GlX K Ex F fr S H D out->t D σ H
theorem GlX.trans{Ex:Nat->Hp->Prop}{F:Frm}{fr:Bool}{S S':Addr->Prop}{H H':Hp}{D:Lo}{o:F7}(q:GlX K Ex F fr S H D o)(k:Keep S H S' H'):GlX K Ex F fr S' H' D o:=by
 cases o with
 |inl o=>exact Gl.trans k q
 |inr n=>exact q
theorem RF.sm{F:Frm}{S M:Addr->Prop}{τ:DS}{σ:St}{H:Hp}(f:RF K F S M τ σ H)(hM:∀a,¬F.M a):Same F.H H:=fun b o e=>f.old b o e (hM b)
variable {Ex:Nat->Hp->Prop} {fr:Bool}
def xOf(b:DB)(τ:DS):Option F7:=(b τ).map .inl
theorem aC{t:TS}{b:DB}(h:B K np t fr b):BX K np Ex t fr (xOf b):=by
 intro F S M τ σ H D out hnp hM f ee q
 obtain⟨o,e,rfl⟩:=oM ee
 exact h F S M τ σ H D o hnp f e q
def Cf(n:Nat)(_:DS):Option F7:=some (.inr n)
theorem Uu{n:Nat}{C:Addr}{E:XK}{v:V}(h:∀H,Ex n H->E (.ref C) none H):BX K np Ex (PR C E (CJ (tC v) FG)) fr (Cf n):=by
 intro F S M τ σ H D out hnp hM f ee q
 cases ee
 exact⟨(by decide:1<=sizeLine),h H (q H (f.sm hM))⟩
def BE(a b:DBX)(τ:DS):Option F7:=(a τ).bind fun o=>match o with
 |.inl (.nx τ')=>b τ'
 |o=>some o
theorem aB{t u:TS}{a b:DBX}(ha:BX K np Ex t fr a)(hb:BX K np Ex u fr b):BX K np Ex (SY t u) fr (BE a b):=by
 intro F S M τ σ H D out hnp hM f ee q
 unfold BE at ee
 obtain⟨o,e1,ee⟩:=oB ee
 refine ha F S M τ σ H _ o hnp hM f e1 ?_
 cases o with
 |inr n=>cases ee;exact q
 |inl o =>
  cases o with
  |nx τ1=>exact fun S' M' σ' H' r k=>hb F S' M' τ1 σ' H' D out hnp hM r ee (q.trans k)
  |bk τ1=>cases ee;exact q
  |ct τ1=>cases ee;exact q
  |rt d τ1=>cases ee;exact q
def xIf(c:DT)(a b:DBX)(τ:DS):Option F7:=(c τ).bind fun p=>if p.1=true then a p.2 else b p.2
theorem dq{tc:TT}{t u:TS}{c:DT}{a b:DBX}(hc:T K tc c)(ha:BX K np Ex t fr a)(hb:BX K np Ex u fr b):BX K np Ex (Xm tc t u) fr (xIf c a b):=by
 intro F S M τ σ H D out hnp hM f ee q
 unfold xIf at ee
 obtain⟨⟨k,τ1⟩,e1,ee⟩:=oB ee
 refine hc.run S M τ σ H _ k τ1 f.r e1 fun H1 r1 c1=>?_
 have f1:=f.step r1 c1 (hc.like _ _ _ e1)
 cases k with
 |true=>exact ha F S M τ1 σ H1 D out hnp hM f1 ee (q.trans (c1.keep f.r.sub))
 |false=>exact hb F S M τ1 σ H1 D out hnp hM f1 ee (q.trans (c1.keep f.r.sub))
def IP(g:DG)(b:DBX):List PyData->DS->Option F7
 |[],τ=>some (.inl (.nx τ))
 |d::ds,τ=>(g d τ).bind fun τ1=>(b τ1).bind fun o=>match o with
  |.inl (.nx τ2)=>IP g b ds τ2
  |.inl (.ct τ2)=>IP g b ds τ2
  |.inl (.bk τ2)=>some (.inl (.nx τ2))
  |.inl (.rt d τ2)=>some (.inl (.rt d τ2))
  |.inr n=>some (.inr n)
def O9(it:DI)(g:DG)(b:DBX)(τ:DS):Option F7:=(it τ).bind fun p=>IP g b p.1 p.2
theorem XX{wi:TI}{tg:TG}{tb:TS}{it:DI}{g:DG}{b:DBX}(hi:IT2 K wi it)(hg:TG1 K tg g)(hb:BX K np Ex tb fr b):BX K np Ex (U0 wi tg tb) fr (O9 it g b):=by
 intro F S M τ σ H D out hnp hM f ee q
 unfold O9 at ee
 obtain⟨⟨ds,τ1⟩,e1,ee⟩:=oB ee
 refine hi.run S M τ σ H _ ds τ1 f.r e1 fun J H1 r1 c1 iJ=>?_
 have f1:=f.step r1 c1 (hi.like _ _ _ e1)
 have q1:=q.trans (c1.keep f.r.sub)
 refine⟨fun i m σ' H'=>m=ds.length-i/\i<=ds.length/\∃S' M' τ',RF K F S' M' τ' σ' H'/\Keep S H1 S' H'/\IP g b (ds.drop i) τ'=some out,⟨ds.length,by simp,Nat.zero_le _,S,M,τ1,f1,.refl,by simpa using ee⟩,?_⟩
 rintro i m σ' H' ⟨rfl,hil,S',M',τ',f',k',hl⟩
 obtain⟨I1,I2⟩:=iJ _ _ k' (fun _=>f'.r.fresh)
 by_cases hlt:i<ds.length
 ·right
  have ed:ds[i]?=some ds[i]:=List.getElem?_eq_getElem hlt
  obtain⟨go,yl⟩:=I1 i _ ed
  refine⟨go,fun σ2 H2=>∃S2 M2 τ2,RF K F S2 M2 τ2 σ2 H2/\Keep S H1 S2 H2/\IP g b (ds.drop (i+1)) τ2=some out,fun σ2 H2 h=>⟨ds.length-(i+1),by omega,rfl,hlt,h⟩,fun x H2 y=>?_⟩
  obtain⟨sm,ix⟩:=yl x H2 y
  have f':=f'.step (f'.r.same sm) (.of sm) .refl
  have k':=k'.trans (Same.keep sm)
  rw[List.drop_eq_getElem_cons hlt,IP]at hl
  obtain⟨τ2,e2,hl⟩:=oB hl
  obtain⟨o,e3,hl⟩:=oB hl
  refine hg.run S' M' τ' σ' H2 x _ τ2 _ f'.r ix e2 fun σ3 r3 k3=>?_
  have f3:=f'.stay r3 (hg.ms _ _ _ e2) k3
  refine hb F S' M' τ2 σ3 H2 _ o hnp hM f3 e3 ?_
  cases o with
  |inr n=>cases hl;exact q1
  |inl o =>
   cases o with
   |nx τ4=>exact fun S4 M4 σ4 H4 f4 k4=>⟨S4,M4,τ4,f4,k'.trans k4,hl⟩
   |ct τ4=>exact fun S4 M4 σ4 H4 f4 k4=>⟨S4,M4,τ4,f4,k'.trans k4,hl⟩
   |bk τ4=>cases hl;exact fun S4 M4 σ4 H4 f4 k4=>q1 S4 M4 σ4 H4 f4 (k'.trans k4)
   |rt d τ4=>cases hl;exact fun S4 M4 σ4 H4 v f4 k4=>q1 S4 M4 σ4 H4 v f4 k4
 ·left
  have e:i=ds.length:=by omega
  subst e
  rw[List.drop_length,IP]at hl
  cases hl
  exact⟨I2 _ (Nat.le_refl _),q1 S' M' σ' H' f' k'⟩
def EW(np nl:Nat)(f:DBX)(ds:List PyData):Option (PyData ⊕ Nat):=if ds.length=np then (f ((ds.map L.d).map some++List.replicate nl none)).bind fun o=>match o with
 |.inl (.nx _)=>some (.inl .none)
 |.inl (.rt d _)=>some (.inl d)
 |.inr n=>some (.inr n)
 |_=>none
 else none
def spO(K:KW)(G:List PyData->Option (PyData ⊕ Nat))(cls:Nat->Addr):Sp:=fun vs H Q E=>∃(S:Addr->Prop) (ds:List PyData) (r:PyData ⊕ Nat),IsL K (hid S H) ds vs/\(∀a,S a->∃o,H a=some o)/\G ds=some r /\
 match r with
 |.inl d=>∀v H',Same H H'->Is K (hid S H') d v->Q v H'
 |.inr n=>∀H',Same H H'->E (.ref (cls n)) none H'
theorem U4{nl:Nat}{f:DBX}{cls:Nat->Addr}{ps:List Str}(hn:ps.length=np)(vs:List V)(H:Hp)(Q:VK)(E:XK)(h:spO K (EW np nl f) cls vs H Q E):vs.length=ps.length:=by
 obtain⟨S,ds,r,l,_,e,_⟩:=h
 unfold EW at e
 split at e
 ·rename_i h1
  rw[l.length,h1,hn]
 ·cases e
theorem Vx{nl:Nat}{t:TS}{f:DBX}{N:List Str}{cls:Nat->Addr}{vs:List V}{H:Hp}{Q:VK}{E:XK}(hb:BX K np (fun n H=>E (.ref (cls n)) none H) t false f)(hN:N.length=np+nl)(h:spO K (EW np nl f) cls vs H Q E):t { nx:=fun _ H'=>Q .non H',rt:=Q } (start N vs) H:=by
 obtain⟨S,ds,r,l,hS,e,q⟩:=h
 unfold EW at e
 split at e
 ·rename_i h1
  obtain⟨o,e1,e⟩:=oB e
  have est:start N vs=vs.map some++List.replicate nl none:=by
   unfold L2.start
   rw[hN,l.length,h1,Nat.add_sub_cancel_left]
  rw[est]
  have r0:R K S (fun _=>False) ((ds.map L.d).map some++List.replicate nl none) (vs.map some++List.replicate nl none) H:=by
   refine XR (by simp[l.length]) (fun i l' h=>?_) hS
   by_cases hi:i<ds.length
   ·rw[List.getElem?_append_left (by simpa using hi),List.getElem?_map,List.getElem?_map,List.getElem?_eq_getElem hi]at h
    cases h
    obtain⟨v,h2,h3⟩:=l.get (List.getElem?_eq_getElem hi)
    refine⟨_,v,rfl,?_,h3⟩
    rw[List.getElem?_append_left (by rw[List.length_map,l.length];exact hi),List.getElem?_map,h2];rfl
   ·rw[List.getElem?_append_right (by simpa using hi),List.getElem?_replicate]at h
    split at h<;>cases h
  have f0:RF K ⟨S,fun _=>False,H,[]⟩ S (fun _=>False) ((ds.map L.d).map some++List.replicate nl none) (vs.map some++List.replicate nl none) H :=
   ⟨r0,fun _ h=>h,fun _ _ h _=>h,fun _ h=>h.elim,fun _ h=>h.elim,hS,fun _ h=>h.elim,fun _ h=>.inl h,fun _ _ h=>(by simp at h),fun _ _ h=>(by simp at h),fun _ h=>h.elim⟩
  refine hb _ S _ _ _ H _ o (Nat.zero_le _) (fun _ h=>h) f0 e1 ?_
  cases o with
  |inr n=>cases e;exact q
  |inl o =>
   cases o with
   |nx τ'=>cases e;exact fun S' M' σ' H' f' k'=>q .non H' (f'.sm fun _ h=>h) rfl
   |bk τ'=>cases e
   |ct τ'=>cases e
   |rt d τ'=>cases e;exact fun S' M' σ' H' v f' r'=>q v H' (f'.sm fun _ h=>h) r'
 ·cases e
def E5(G:List PyData->Option (PyData ⊕ Nat))(a:DA)(τ:DS):Option F7:=(a τ).bind fun p=>(BC p.1).bind fun ds=>(G ds).map fun r=>match r with
 |.inl _=>.inl (.nx p.2)
 |.inr n=>.inr n
theorem XY{G:List PyData->Option (PyData ⊕ Nat)}{cls:Nat->Addr}{E:XK}{t:TA}{a:DA}(ha:A K t a):BX K np (fun n H=>E (.ref (cls n)) none H) (Sf (Fh (spO K G cls) [] E t)) fr (E5 G a):=by
 intro F S M τ σ H D out hnp hM f ee q
 unfold E5 at ee
 obtain⟨⟨x,τ1⟩,e1,ee⟩:=oB ee
 obtain⟨ds,e2,ee⟩:=oB ee
 obtain⟨r,e3,ee⟩:=oM ee
 refine ha.run S M τ σ H _ x _ f.r e1 fun vs H1 r1 c1 i1=>?_
 have l:=DR i1 e2
 have f1:=f.step r1 c1 (ha.like _ _ _ e1)
 show spO K G cls (vs++[]) H1 _ E
 rw[List.append_nil]
 refine⟨S,ds,r,l,r1.ex,e3,?_⟩
 cases r with
 |inr n=>cases ee;exact fun H' s=>q H' fun b o e=>s b o (f1.sm hM b o e)
 |inl d =>
  cases ee
  exact fun v H' s _=>q S M σ H' (f1.step (r1.same s) (.of s) .refl) ((c1.trans (.of s)).keep f.r.sub)
end DL
namespace L2
open PySem PySem.Spec PyProof.Rows PySem.W DL
def SF(K:Frag)(C:Addr):Bool :=
 (match findIn K (.ref C) "__getattribute__" with|some (some (.builtin n))=>n=="BaseException.__getattribute__" | _=>false)&&(match findIn K (.ref C) "__getattr__" with|some none=>true|_=>false)&&(clsIn K C).isSome &&
 (match findIn K (.ref C) "__class__" with|some (some (.builtin n))=>n=="object.__class__" | _=>false)&&(match specialIn K (.builtin "object.__class__") "__get__" with|some (some (.builtin n))=>n=="getset_descriptor.__get__" | _=>false) &&
 (match takesIn K (.builtin "object.__class__") with|some b=>b|_=>false)&&(match mroIn K C (.type "object") with|some b=>b|_=>false)&&(match mroIn K C (.type "BaseException") with|some b=>b|_=>false)
theorem SE{K:Frag}{C:Addr}(h:SF K C=true):XCls K C:=by
 unfold SF at h
 simp only[Bool.and_eq_true]at h
 obtain⟨⟨⟨⟨⟨⟨⟨h1,h2⟩,h3⟩,h4⟩,h5⟩,h6⟩,h7⟩,h8⟩:=h
 refine⟨?_,?_,h3,?_,?_,?_,?_,?_⟩
 ·split at h1<;>first|cases h1|(rename_i e;rw[e,beq_iff_eq.mp h1])
 ·split at h2<;>first|assumption|cases h2
 ·split at h4<;>first|cases h4|(rename_i e;rw[e,beq_iff_eq.mp h4])
 ·split at h5<;>first|cases h5|(rename_i e;rw[e,beq_iff_eq.mp h5])
 ·split at h6<;>first|(rename_i e;rw[e];exact congrArg some h6)|cases h6
 ·split at h7<;>first|(rename_i e;rw[e];exact congrArg some h7)|cases h7
 ·split at h8<;>first|(rename_i e;rw[e];exact congrArg some h8)|cases h8
def Qk(K:Frag)(C:Addr)(v:Value)(b:Bool):Bool:=match kitOne K (.ref C) v with|some c=>c==b|none=>false
theorem Oc{K:Frag}{C:Addr}{v:Value}{b:Bool}(h:Qk K C v b=true):kitOne K (.ref C) v=some b:=by
 unfold Qk at h
 split at h
 ·rename_i c e
  rw[e,beq_iff_eq.mp h]
 ·cases h
def QA(K:Frag)(C D:Addr):Bool:=(match typeIn K (.ref D) with|some (.type n)=>n=="type" | _=>false)&&(clsIn K D).isSome&&(match subIn K (.ref C) (.ref D) with|some b=>b|_=>false)&&(match subIn K (.ref D) (.type "BaseException") with|some b=>b|_=>false)
theorem Rw{K:Frag}{C D:Addr}(h:QA K C D=true):Nu K C D:=by
 unfold QA at h
 simp only[Bool.and_eq_true]at h
 obtain⟨⟨⟨h1,h2⟩,h3⟩,h4⟩:=h
 refine⟨?_,h2,?_,?_⟩
 ·split at h1<;>first|cases h1|(rename_i e;rw[e,beq_iff_eq.mp h1])
 ·split at h3<;>first|(rename_i e;rw[e];exact congrArg some h3)|cases h3
 ·split at h4<;>first|(rename_i e;rw[e];exact congrArg some h4)|cases h4
def excAll(K:Frag)(D:Addr)(cs:List Addr)(m:Nat):Bool:=(List.range m).all fun n=>SF K (cs.getD n 0)&&QA K (cs.getD n 0) D&&Qk K (cs.getD n 0) (.type "ValueError") true&&(List.range cs.length).all fun j=>Qk K (cs.getD n 0) (.ref (cs.getD j 0)) (n==j)
structure QD(K:Frag)(D:Addr)(cs:List Addr)(n:Nat):Prop where
 xc:XCls K (cs.getD n 0)
 ct:Nu K (cs.getD n 0) D
 ve:kitOne K (.ref (cs.getD n 0)) (.type "ValueError")=some true
 ks:∀j,j<cs.length->kitOne K (.ref (cs.getD n 0)) (.ref (cs.getD j 0))=some (n==j)
theorem excAll_ok{K:Frag}{D:Addr}{cs:List Addr}{m n:Nat}(h:excAll K D cs m=true)(hn:n<m):QD K D cs n:=by
 unfold excAll at h
 have h1:=List.all_eq_true.mp h n (List.mem_range.mpr hn)
 simp only[Bool.and_eq_true]at h1
 obtain⟨⟨⟨a,b⟩,c⟩,d⟩:=h1
 exact⟨SE a,Rw b,Oc c,fun j hj=>Oc (List.all_eq_true.mp d j (List.mem_range.mpr hj))⟩
end L2
namespace DL
open PySem L2
abbrev eR(ea:Addr)(oe:Obj)(c:Addr)(b:Bool):List V->Hp->VK->Prop:=fun xs H Q=>xs=[.ref ea,.ref c]/\H ea=some (.frz oe (.own ea))/\Q (.bl b) H
abbrev tPr(ea:Addr)(oe:Obj)(s:Str)(c:Addr)(b:Bool):TE:=Uz (CJ (tC (.str s)) (CJ (tCB (eR ea oe c b) (CJ (Eb 0) (CJ (tC (.ref c)) FG))) FG))
abbrev prD(s:Str)(b:Bool):PyData:=.tuple [.str s,.bool b]
abbrev Zd:Addr->Prop:=fun _=>False
section
variable {K:KW} {ea c1 c2:Addr} {oe:Obj} {s1 s2:Str} {b1 b2:Bool} {σ:St} {H:Hp} {Q:VK}
theorem Pc(h0:σ[0]?=some (some (.ref ea)))(hH:H ea=some (.frz oe (.own ea)))(q:∀p H',Same H H'->Is K (hid Zd H') (prD s1 b1) (.ref p)->Q (.ref p) H'):tPr ea oe s1 c1 b1 σ H Q :=
 ⟨.ref ea,h0,rfl,hH,(by decide:2<=sizeLine),fun p hp=>q p _ (Ax hp _) ⟨p,_,rfl,.inl (.inl (hid_iff.mpr ⟨fun z=>z,Aq⟩)),_,_,rfl,rfl,_,_,rfl,rfl,rfl⟩⟩
theorem Tv(h0:σ[0]?=some (some (.ref ea)))(hH:H ea=some (.frz oe (.own ea)))(q:∀p H',Same H H'->Is K (hid Zd H') (.list [prD s1 b1]) (.ref p)->Q (.ref p) H'):Se (CJ (tPr ea oe s1 c1 b1) FG) σ H Q:=by
 show tPr ea oe s1 c1 b1 σ H (fun x H9=>([x]).length<=sizeLine/\∀p,H9 p=none->Q (.ref p) (upd H9 p (.lst ([x]))))
 exact Pc (K:=K) h0 hH fun p1 H1 m1 i1=>⟨(by decide:1<=sizeLine),fun l hl=>q l _ (fun b o e=>Ax hl _ b o (m1 b o e)) ⟨l,_,rfl,hid_iff.mpr ⟨fun z=>z,Aq⟩,_,_,rfl,i1.mono (Same.keep (S:=Zd) (Ax hl _)).same,rfl⟩⟩
theorem Im(h0:σ[0]?=some (some (.ref ea)))(hH:H ea=some (.frz oe (.own ea)))(q:∀p H',Same H H'->Is K (hid Zd H') (.list [prD s1 b1,prD s2 b2]) (.ref p)->Q (.ref p) H'):Se (CJ (tPr ea oe s1 c1 b1) (CJ (tPr ea oe s2 c2 b2) FG)) σ H Q:=by
 show tPr ea oe s1 c1 b1 σ H (fun x H1=>tPr ea oe s2 c2 b2 σ H1 fun y H9=>([x,y]).length<=sizeLine/\∀p,H9 p=none->Q (.ref p) (upd H9 p (.lst ([x,y]))))
 refine Pc (K:=K) h0 hH fun p1 H1 m1 i1=>?_
 exact Pc (K := K) h0 (m1 _ _ hH) fun p2 H2 m2 i2 => ⟨(by decide : 2 <= sizeLine), fun l hl => q l _ (fun b o e => Ax hl _ b o (m2 b o (m1 b o e)))
  ⟨l,_,rfl,hid_iff.mpr ⟨fun z=>z,Aq⟩,_,_,rfl,(i1.mono (Same.keep (S:=Zd) m2).same).mono (Same.keep (S:=Zd) (Ax hl _)).same,_,_,rfl,i2.mono (Same.keep (S:=Zd) (Ax hl _)).same,rfl⟩⟩
theorem Kg{as bs:List PyData}{a b:Addr}(ha:Is K (hid Zd H) (.list as) (.ref a))(hb:Is K (hid Zd H) (.list bs) (.ref b))(hz:as.length+bs.length<=sizeLine)(q:∀p H',Same H H'->Is K (hid Zd H') (.list (as++bs)) (.ref p)->Q (.ref p) H'):Xu (.ref a) (.ref b) H Q:=by
 obtain⟨_,vs,e1,h1,l1⟩:=ha
 obtain⟨_,us,e2,h2,l2⟩:=hb
 cases e1
 cases e2
 refine⟨a,b,vs,us,rfl,rfl,(hid_iff.mp h1).2,(hid_iff.mp h2).2,by rw[l1.length,l2.length];exact hz,fun p hp=>q p _ (Ax hp _) ⟨p,_,rfl,hid_iff.mpr ⟨fun z=>z,Aq⟩,?_⟩⟩
 exact(Ez l1 l2).mono (Same.keep (S:=Zd) (Ax hp _)).same
end
end DL
end
section
namespace L2
open PySem PySem.Spec PyProof.Rows
def DF(K:PySem.W.Frag)(x:Str)(st:Stmt)(f:Addr)(fd:FuncData):Prop:=PySem.W.nsIn K mainGlobals x=some (some (.ref f))/\Fun K x x st f fd
section
variable {K:PySem.W.Frag} {x:Str} {st:Stmt} {f:Addr} {fd:FuncData} {h:Heap} {mg:Str->Option Value}
theorem DF.mk{oc:Value}{od an:Option Addr}{osl:Array (Option Value)}{kV doc pm cdv ct:Value}(a:PySem.W.nsIn K mainGlobals x=some (some (.ref f)))(l:K.lookup f=some ⟨oc,od,.func (PySem.W.fnOf x x (ER st) (CH st) (AZ st) .none kV doc pm an cdv ct),osl⟩)(c:PySem.W.codeIn K cdv x=true)(k:PySem.W.keepIn K (.ref f)=true):DF K x st f (PySem.W.fnOf x x (ER st) (CH st) (AZ st) .none kV doc pm an cdv ct):=⟨a,Yg l c k⟩
theorem DF.m(d:DF K x st f fd)(X:K.In h)(G:h.Ns mainGlobals mg):mg x=some (.ref f):=PySem.W.mg_of X G d.1
theorem DF.b{ps:List Str}(d:DF K x st f fd)(h:∀(kV doc pm:Value) (an:Option Addr) (cdv ct:Value) (us:List Value),us.length=ps.length->bindArgs (PySem.W.fnOf x x (ER st) (CH st) (AZ st) .none kV doc pm an cdv ct) ⟨us,[]⟩=pure (ps.zip us)):Binds K fd ps []:=d.2.binds h
theorem DF.cal{P:Program}{w:World}{base:Heap}{k:Nat}{ps:List Str}{sp:Sp}(d:DF K x st f fd)(X:K.In h)(G:h.Ns mainGlobals mg)(o:FnOk P w K mg base CX0 k f fd ps sp)(b:∀(kV doc pm:Value) (an:Option Addr) (cdv ct:Value) (us:List Value),us.length=ps.length->bindArgs (PySem.W.fnOf x x (ER st) (CH st) (AZ st) .none kV doc pm an cdv ct) ⟨us,[]⟩=pure (ps.zip us)):Cal P w K mg base k x ps sp:=Cal.of d.2 o (d.b b) (d.m X G)
end
instance {sc:Scope} {x:Str}:Decidable (Loc sc x):=by unfold Loc;infer_instance
theorem viL{sc:Scope}{x:Str}(h:Loc sc x):Vis sc x:=h.elim Or.inl fun h=>Or.inr (Or.inl h)
theorem pvL{X:Cx}(i:Nat){x:Str}{pos:Pos}(hN:X.N[i]?=some x)(hl:Loc X.env.scope x)(hd:(x==("__debug__":Str))=false/\(x==("__classdict__":Str))=false):PE X (.Name x pos) (Eb i):=Mv hN (viL hl) hd.1 hd.2
end L2
end
section
namespace DL
open PySem L2
structure Ct where
 P:Program
 K:KW
 mg:Str->Option Value
 base:Heap
 k:Nat
 own:Nat
 d:Bool
 N:List Str
 sc:Scope
structure At(Γ:Ct)(X:Cx):Prop where
 p:X.prog=Γ.P
 kw:Gf X=Γ.K
 m:X.mg=Γ.mg
 bs:X.base=Γ.base
 n:X.N=Γ.N
 nd:X.N.Nodup
 rm:Room Γ.k X.A
 ca:X.calm=true
 po:PassesOwn (model X.prog X.w) X.A X.env X.xe
 v:∀x∈X.N,Vis X.env.scope x
 l:∀(i:Nat) (x:Str),i<Γ.own->X.N[i]?=some x->Loc X.env.scope x/\(X.fn x=true\/X.env.scope.names.lookup x=some .local)
 ll:∀x:Str,Γ.sc.names.lookup x=some .local->X.env.scope.names.lookup x=some .local
 g:∀x,Γ.sc.names.lookup x=some .globalImplicit->L2.Gl X x
 bk:Γ.d=true->X.env.blockKind = .function
 c:∀x:Str,Γ.sc.names.lookup x=some .cell\/Γ.sc.names.lookup x=some .free->X.env.scope.names.lookup x=some .cell\/X.env.scope.names.lookup x=some .free
section
variable {Γ:Ct} {X:Cx}
theorem At.w(c:At Γ X){p:KW->Prop}(h:p (Gf X)):p Γ.K:=c.kw▸h
theorem At.u(c:At Γ X):X.A.units+64<cLine:=c.rm.units
theorem At.u5(c:At Γ X):X.A.units+65<cLine:=by have:=c.rm.un;omega
end
def CE(Γ:Ct)(e:Expr)(fr:Bool)(f:DX):Prop:=∃t,(∀X,At Γ X->PE X e t)/\E Γ.K t fr f
def CT(Γ:Ct)(e:Expr)(f:DT):Prop:=∃t,(∀X,At Γ X->L2.PT X e t)/\T Γ.K t f
def CW(Γ:Ct)(e:Expr)(f:DT):Prop:=∃t,(∀X,At Γ X->PW X e t)/\T Γ.K t f
def CA(Γ:Ct)(es:List Expr)(f:DA):Prop:=∃t,(∀X,At Γ X->PA X es t)/\A Γ.K t f
def CP(Γ:Ct)(e:Option Expr)(f:DO):Prop:=∃t,(∀X,At Γ X->PO X e t)/\OO Γ.K t f
def CI(Γ:Ct)(tg e:Expr)(f:DI):Prop:=∃t,(∀X,At Γ X->PI X tg e t)/\IT Γ.K t f
def CI2(Γ:Ct)(tg e:Expr)(f:DI):Prop:=∃t,(∀X,At Γ X->PI X tg e t)/\IT2 Γ.K t f
def CG(Γ:Ct)(e:Expr)(f:DG):Prop:=∃t,(∀X,At Γ X->PG X e t)/\TG1 Γ.K t f
def CGs(Γ:Ct)(es:List Expr)(f:List PyData->DS->Option DS):Prop:=∃t,(∀X,At Γ X->PGs X es t)/\TG2 Γ.K t f/\∀ds τ τ',f ds τ=some τ'->ds.length=es.length
def CTs(Γ:Ct)(es:List Expr)(f:DT):Prop:=∃t,(∀X,At Γ X->PTs X es t)/\T Γ.K t f
def CS(Γ:Ct)(np:Nat)(s:Stmt)(fr:Bool)(f:DB):Prop:=∃t,(∀X,At Γ X->PS X s t)/\B Γ.K np t fr f
def CSs(Γ:Ct)(np:Nat)(s:List Stmt)(fr:Bool)(f:DB):Prop:=∃t,(∀X,At Γ X->PSs X s t)/\B Γ.K np t fr f
def CO(Γ:Ct)(op:Value->Value->Sem Value)(fr:Bool)(F:PyData->PyData->Option PyData):Prop:=∃r fr',(∀X,At Γ X->OpR X op r)/\OR Γ.K fr' r F/\(fr=true->fr'=true)
def CIx(Γ:Ct)(F:PyData->PyData->Option PyData):Prop:=∃r,(∀X,At Γ X->IxR X r)/\OR Γ.K false r F
abbrev isB(v:Value):Prop:=(∃i,v = .builtin i)\/∃i,v = .type i
def CBt(Γ:Ct)(x:Str)(fr:Bool)(F:List PyData->Option PyData):Prop:=∃v r fr',isB v/\bootBuiltins x=some v/\(∀X,At Γ X->DC X v r)/\BR Γ.K fr' r F/\(fr=true->fr'=true)
def CM(Γ:Ct)(x:Str)(G:List PyData->List PyData->Option (PyData×List PyData)):Prop:=∃id r,Slot "list" x id/\typeOf (.builtin id)=pure (.type "method_descriptor")/\(∀X,At Γ X->MtR X id r)/\MR Γ.K r G
theorem E.to{K:KW}{t:TE}{f:DX}{fr fr':Bool}(h:E K t fr' f)(z:fr=true->fr'=true):E K t fr f:=by
 cases fr with
 |false=>exact h.weak
 |true=>rw[z rfl]at h;exact h
theorem E.an{K:KW}{t:TE}{f:DX}{fr:Bool}(h:E K t true f):E K t fr f:=h.to fun _=>rfl
theorem OR.wk{K:KW}{r:R2}{F:PyData->PyData->Option PyData}{fr:Bool}(h:OR K fr r F):OR K false r F:=fun S H x y dx dy d Q fr ix iy e q=>h S H x y dx dy d Q fr ix iy e fun v H' s res=>q v H' s (res.is fun a ha=>fr a ha)
section
variable {Γ:Ct} {np:Nat} {fr fa fb fc fe:Bool} {f f' f'':DX} {c c':DT} {g:DA} {a b d e:Expr} {es:List Expr} {pos p p1 p2:Pos}
abbrev dcQ(x:Str):Prop:=(x==("__debug__":Str))=false/\(x==("__classdict__":Str))=false
abbrev glQ(Γ:Ct)(x:Str):Prop:=Γ.sc.names.lookup x=some .globalImplicit/\(x==("__debug__":Str))=false
theorem ZK{i:Nat}{x:Str}(h:Γ.N[i]?=some x:=by walk_at "q")(hd:dcQ x:=by walk_at "dk"):CE Γ (.Name x pos) false (AB i) :=
 ⟨_,fun X c=>Mv (by rw[c.n];exact h) (c.v x (by rw[c.n];exact List.mem_of_getElem? h)) hd.1 hd.2,LW⟩
theorem ZW{i:Int}{j}:CE Γ (.Constant (.int i) j pos) false (dC (.int i)):=⟨_,fun _ _=>LD,Mf⟩
theorem ZM{x:Str}{j}:CE Γ (.Constant (.str x) j pos) false (dC (.str x)):=⟨_,fun _ _=>EY,ba⟩
theorem ZQ{j}:CE Γ (.Constant .none j pos) false (dC .none):=⟨_,fun _ _=>TR,bg⟩
theorem dA{x:Bool}{j}:CE Γ (.Constant (.bool x) j pos) false (dC (.bool x)):=⟨_,fun _ _=>ag,eo⟩
theorem cy{x:Str}{i:Int}{t:Tok}(h:Γ.mg x=some (.int i t):=by assumption)(hg:glQ Γ x:=by walk_at "dk"):CE Γ (.Name x pos) false (dC (.int i)):=⟨_,fun X c=>Cu (v:=.int i) (c.g x hg.1) (by rw[c.m];exact h) ⟨_,rfl⟩ hg.2,Mf⟩
theorem cz{x:Str}{u:Value}{y:PyData}(h:Γ.mg x=some u/\Bb Γ.K y u=true:=by assumption)(hg:glQ Γ x:=by walk_at "dk"):CE Γ (.Name x pos) false (dC y):=by
 obtain⟨v,r,i⟩:=O4 h.2
 exact⟨_,fun X c=>Cu (c.g x hg.1) (by rw[c.m];exact h.1) r hg.2,e_c i⟩
theorem cY{op:Operator}{F}(h:CO Γ (binaryOp op) fr F)(ha:CE Γ a false f)(hb:CE Γ b false f'):CE Γ (.BinOp a op b pos) fr (dOp F f f'):=let ⟨_,_,h1,h2,h3⟩:=h;let ⟨_,a1,a2⟩:=ha;let ⟨_,b1,b2⟩:=hb;⟨_,fun X c=>N5 (h1 X c) (a1 X c) (b1 X c),(Nd h2 a2 b2).to h3⟩
theorem ZZ{op:CmpOp}{F}(h:CO Γ (compareOp op) fr F)(ha:CE Γ a false f)(hb:CE Γ b false f')(hm:behindInMarks op b=false:=by walk_at "q"):CE Γ (.Compare a [op] [b] pos) fr (dOp F f f'):=let ⟨_,_,h1,h2,h3⟩:=h;let ⟨_,a1,a2⟩:=ha;let ⟨_,b1,b2⟩:=hb;⟨_,fun X c=>Mw (h1 X c) (a1 X c) (b1 X c) hm,(Nd h2 a2 b2).to h3⟩
theorem Yw{op:CmpOp}{F}(h:CO Γ (compareOp op) false F)(ha:CE Γ a false f)(hb:CE Γ b false f')(hm:behindInMarks op b=false:=by walk_at "q"):CT Γ (.Compare a [op] [b] pos) (AE (dOp F f f')):=let ⟨_,_,h1,h2,_⟩:=h;let ⟨_,a1,a2⟩:=ha;let ⟨_,b1,b2⟩:=hb;⟨_,fun X c=>Mt (h1 X c) (a1 X c) (b1 X c) hm,Fb (Nd h2 a2 b2)⟩
theorem UU{o o':CmpOp}{F G}(h:CO Γ (compareOp o) false F)(h':CO Γ (compareOp o') false G)(ha:CE Γ a false f)(hb:CE Γ b false f')(hc:CE Γ d false f'')(hm:lastMarks [o,o'] [b,d]=false:=by walk_at "q"):CE Γ (.Compare a [o,o'] [b,d] pos) false (Bf F G f f' f'') :=
 let ⟨_,a0,h1,h2,h3⟩:=h;let ⟨_,b0,i1,i2,i3⟩:=h';let ⟨_,a1,a2⟩:=ha;let ⟨_,b1,b2⟩:=hb;let ⟨_,d1,d2⟩:=hc;⟨_,fun X c=>TV (h1 X c) (i1 X c) (a1 X c) (b1 X c) (d1 X c) hm,Qx h2.wk i2.wk a2 b2 d2⟩
theorem UN{o o':CmpOp}{F G}(h:CO Γ (compareOp o) false F)(h':CO Γ (compareOp o') false G)(ha:CE Γ a false f)(hb:CE Γ b false f')(hc:CE Γ d false f'')(hm:lastMarks [o,o'] [b,d]=false:=by walk_at "q"):CT Γ (.Compare a [o,o'] [b,d] pos) (AE (Bf F G f f' f'')) :=
 let ⟨_,a0,h1,h2,h3⟩:=h;let ⟨_,b0,i1,i2,i3⟩:=h';let ⟨_,a1,a2⟩:=ha;let ⟨_,b1,b2⟩:=hb;let ⟨_,d1,d2⟩:=hc;⟨_,fun X c=>S8 (h1 X c) (i1 X c) (a1 X c) (b1 X c) (d1 X c) hm,Fb (Qx h2.wk i2.wk a2 b2 d2)⟩
theorem ZR(ha:CE Γ a false f):CE Γ (.UnaryOp .USub a pos) false (dUn FI f):=let ⟨_,a1,a2⟩:=ha;⟨_,fun X c=>ae Xg (a1 X c),eW aG a2⟩
theorem ZP(ha:CE Γ a false f):CE Γ (.UnaryOp .Not a pos) false (Hn f):=let ⟨_,a1,a2⟩:=ha;⟨_,fun X c=>X4 (a1 X c),bc a2⟩
theorem ZO{op}(ha:CE Γ a fr f):CE Γ (.BoolOp op [a] pos) fr f:=let ⟨_,a1,a2⟩:=ha;⟨_,fun X c=>X3 (a1 X c),a2⟩
theorem Zc(ha:CE Γ a false f)(hb:CE Γ (.BoolOp .And (b::es) pos) false f'):CE Γ (.BoolOp .And (a::b::es) pos) false (Cb f f'):=let ⟨_,a1,a2⟩:=ha;let ⟨_,b1,b2⟩:=hb;⟨_,fun X c=>X5 (a1 X c) (b1 X c),b7 a2 b2⟩
theorem cv(hc:CT Γ d c)(ha:CE Γ a false f)(hb:CE Γ b false f'):CE Γ (.IfExp d a b pos) false (dIf c f f'):=let ⟨_,c1,c2⟩:=hc;let ⟨_,a1,a2⟩:=ha;let ⟨_,b1,b2⟩:=hb;⟨_,fun X c=>TU (c1 X c) (a1 X c) (b1 X c),eh c2 a2.weak b2.weak⟩
theorem Za{i:Nat}(h:CE Γ e false f):CE Γ e false (Du i f):=let ⟨_,a1,a2⟩:=h;⟨_,a1,bz a2⟩
abbrev Dx(e:Expr)(es:List Expr):Prop:=∀env,starEach (e::es) env=(false,eval e env)::starEach es env
theorem Zk:CA Γ [] AD:=⟨_,fun _ _=>A8,Uj⟩
theorem Wa(ha:CE Γ e false f)(hb:CA Γ es g)(hs:Dx e es:=by walk_at "q"):CA Γ (e::es) (AA f g):=let ⟨_,a1,a2⟩:=ha;let ⟨_,b1,b2⟩:=hb;⟨_,fun X c=>AU (a1 X c) (b1 X c) (hs _),Uk a2 b2⟩
theorem ZL{j}(h:CA Γ es g):CE Γ (.Tuple es j pos) false (AW g):=let ⟨_,a1,a2⟩:=h;⟨_,fun X c=>Es (a1 X c),bZ a2⟩
theorem ZS(h:CA Γ es g):CE Γ (.List es pos) fr (Bs g):=let ⟨_,a1,a2⟩:=h;⟨_,fun X c=>Hy (a1 X c),(bh a2).an⟩
theorem cu{F}(h:CIx Γ F)(ha:CE Γ a false f)(hb:CE Γ b false f')(hs:JF b:=by walk_at "q"):CE Γ (.Subscript a b pos) false (dOp F f f'):=let ⟨_,h1,h2⟩:=h;let ⟨_,a1,a2⟩:=ha;let ⟨_,b1,b2⟩:=hb;⟨_,fun X c=>LB (h1 X c) (a1 X c) (b1 X c) hs,Nd h2 a2 b2⟩
abbrev vrQ(Γ:Ct)(i:Nat)(x:Str):Prop:=Γ.N[i]?=some x/\dcQ x
theorem At.var{X:Cx}(c:At Γ X){i:Nat}{x:Str}(h:vrQ Γ i x):PE X (.Name x pos) (Eb i):=Mv (by rw[c.n];exact h.1) (c.v x (by rw[c.n];exact List.mem_of_getElem? h.1)) h.2.1 h.2.2
theorem ZU{i:Nat}{x:Str}(hb:CE Γ b false f)(h:vrQ Γ i x:=by walk_at "dk")(hs:JF b:=by walk_at "q"):CE Γ (.Subscript (.Name x p) b pos) false (Ca i f):=let ⟨_,b1,b2⟩:=hb;⟨_,fun X c=>LB (c.w (p:=fun K=>IxR X (RK K)) NT) (c.var h) (b1 X c) hs,bp b2⟩
theorem ZT{i:Nat}{x:Str}(hb:CE Γ b false f)(h:vrQ Γ i x:=by walk_at "dk")(hs:JF b:=by walk_at "q"):CE Γ (.Subscript (.Name x p) b pos) false (Ox i f):=let ⟨_,b1,b2⟩:=hb;⟨_,fun X c=>LB eQ (c.var h) (b1 X c) hs,bo b2⟩
theorem Yv{i:Nat}{x:Str}(ha:CE Γ a false f)(h:vrQ Γ i x:=by walk_at "dk")(hm:behindInMarks .In (.Name x p)=false:=by walk_at "q"):CT Γ (.Compare a [.In] [.Name x p] pos) (AE (Oy false f i)):=let ⟨_,a1,a2⟩:=ha;⟨_,fun X c=>Mt YA (a1 X c) (c.var h) hm,Fb (br a2)⟩
abbrev kdQ(Γ:Ct)(x:Str)(tb:List (Str×PyData)):Prop:=∃ad,Γ.mg x=some (.ref ad)/\KD Γ.K Γ.K.w ad tb/\(ad==sysModules)=false
theorem WK:CP Γ none Ba:=⟨_,fun _ _=>VI,aw⟩
theorem WJ(h:CE Γ e false f):CP Γ (some e) (dPt f):=let ⟨_,a1,a2⟩:=h;⟨_,fun X c=>VH (a1 X c),eH a2⟩
theorem cX{x y:Option Expr}{lo hi:DO}(h:CE Γ e false f)(hl:CP Γ x lo)(hh:CP Γ y hi):CE Γ (.Subscript e (.Slice x y none p) pos) fr (dSl f lo hi):=let ⟨_,a1,a2⟩:=h;let ⟨_,l1,l2⟩:=hl;let ⟨_,h1,h2⟩:=hh;⟨_,fun X c=>N4 (c.w (p:=fun K=>SlR X (Xs K)) U6) (a1 X c) (l1 X c) (h1 X c),(eY a2 l2 h2).an⟩
theorem ZN{x y:Option Expr}{lo hi:DO}(h:CE Γ e false f)(hl:CP Γ x lo)(hh:CP Γ y hi):CE Γ (.Subscript e (.Slice x y none p) pos) false (Cc f lo hi):=let ⟨_,a1,a2⟩:=h;let ⟨_,l1,l2⟩:=hl;let ⟨_,h1,h2⟩:=hh;⟨_,fun X c=>N4 (c.w (p:=fun K=>SlR X (Xr K)) Xo) (a1 X c) (l1 X c) (h1 X c),bb a2 l2 h2⟩
theorem At.cal{X:Cx}(c:At Γ X){k:Nat}{x:Str}{ps:List Str}{sp:Sp}(h:Cal Γ.P Γ.K.w Γ.K Γ.mg Γ.base k x ps sp)(hk:k<=Γ.k):Cal X.prog X.w X.K X.mg X.base Γ.k x ps sp:=by
 have:=c.kw;unfold Gf at this;rw[<- this,<- c.p,<- c.m,<- c.bs]at h;exact h.mono hk
abbrev cQ(Γ:Ct)(k:Nat)(x:Str)(ps:List Str)(sp:Sp):Prop:=Cal Γ.P Γ.K.w Γ.K Γ.mg Γ.base k x ps sp
abbrev Ga(es:List Expr)(pos:Pos):Prop:=∀env,(backTo pos (starEach es env)).any (·.1)=false
section
variable {x:Str} {k:Nat} {ps:List Str} {G:List L->Option (PyData×List L)} {i:Nat}
theorem Q7{sp:Sp}{t:TA}(C:cQ Γ k x ps sp)(hk:k<=Γ.k)(hg:glQ Γ x)(h:∀X,At Γ X->PA X (e::es) t)(hs:Dx e es)(hp:Ga es pos):∀X,At Γ X->PE X (.Call (.Name x p) (e::es) [] pos) (Fh sp [] E0 t):=fun X c=>TZ (c.cal C hk) c.rm (c.g x hg.1) (h X c) hg.2 (hs _) (hp _)
theorem WW(ha:CA Γ (e::es) g)(C:cQ Γ k x ps (spD Γ.K G fa):=by assumption)(hw:fr=true->fa=true:=by walk_at "fr")(hk:k<=Γ.k:=by walk_at "dk")(hg:glQ Γ x:=by walk_at "dk")(hs:Dx e es:=by walk_at "q")(hp:Ga es pos:=by walk_at "q"):CE Γ (.Call (.Name x p) (e::es) [] pos) fr (AF G g):=let ⟨_,a1,a2⟩:=ha;⟨_,Q7 C hk hg a1 hs hp,(Nf a2).to hw⟩
theorem UY(C:cQ Γ k x ps (spD Γ.K G fa):=by assumption)(hw:fr=true->fa=true:=by walk_at "fr")(hk:k<=Γ.k:=by walk_at "dk")(hg:glQ Γ x:=by walk_at "dk"):CE Γ (.Call (.Name x p) [] [] pos) fr (AF G AD):=⟨_,fun X c=>RQ (c.cal C hk) c.rm (c.g x hg.1) hg.2,(Nf Uj).to hw⟩
theorem Ug{y:Str}{sp:Sp}{t:TA}(v:vrQ Γ i y)(C:cQ Γ k x ps sp)(hk:k<=Γ.k)(hg:glQ Γ x)(h:∀X,At Γ X->PA X es t)(hs:Dx (.Name y p1) es)(hp:Ga es pos):∀X,At Γ X->PE X (.Call (.Name x p) (.Name y p1::es) [] pos) (Fh sp [] E0 (CJ (Eb i) t)):=Q7 C hk hg (fun X c=>AU (c.var v) (h X c) (hs _)) hs hp
theorem UX{y:Str}(ha:CA Γ es g)(C:cQ Γ k x ps (spD Γ.K G fa):=by assumption)(hw:fr=true->fa=true:=by walk_at "fr")(v:vrQ Γ i y:=by walk_at "dk")(hk:k<=Γ.k:=by walk_at "dk")(hg:glQ Γ x:=by walk_at "dk")(hs:Dx (.Name y p1) es:=by walk_at "q")(hp:Ga es pos:=by walk_at "q"):CE Γ (.Call (.Name x p) (.Name y p1::es) [] pos) fr (Af i G g):=let ⟨_,a1,a2⟩:=ha;⟨_,Ug v C hk hg a1 hs hp,(V2 a2).to hw⟩
end
abbrev bQ(Γ:Ct)(x:Str)(v:Value):Prop:=Γ.mg x=none/\bootBuiltins x=some v
abbrev gnQ(Γ:Ct)(x:Str):Prop:=glQ Γ x/\x≠"__name__"
theorem XQ{x:Str}{v:Value}{r:List V->Hp->VK->Prop}{t:TA}(hv:(∃i,v = .builtin i)\/∃i,v = .type i)(hc:∀X,At Γ X->DC X v r)(hb:bQ Γ x v)(hg:gnQ Γ x)(h:∀X,At Γ X->PA X (e::es) t)(hs:Dx e es)(hp:Ga es pos):∀X,At Γ X->PE X (.Call (.Name x p) (e::es) [] pos) (tCB r t):=fun X c=>by
 rcases hv with ⟨i,rfl⟩|⟨i,rfl⟩
 ·exact CN (hc X c) (c.g x hg.1.1) (by rw[c.m];exact hb.1) hb.2 (h X c) hg.2 hg.1.2 (hs _) (hp _)
 ·exact RP (hc X c) (c.g x hg.1.1) (by rw[c.m];exact hb.1) hb.2 (h X c) hg.2 hg.1.2 (hs _) (hp _)
theorem Zb{x:Str}{F:List PyData->Option PyData}(hc:CBt Γ x fr F)(ha:CA Γ (e::es) g)(hz:Γ.mg x=none:=by assumption)(hg:gnQ Γ x:=by walk_at "dk")(hs:Dx e es:=by walk_at "q")(hp:Ga es pos:=by walk_at "q"):CE Γ (.Call (.Name x p) (e::es) [] pos) fr (AY F g):=let ⟨_,_,_,hv,hb,c1,c2,c3⟩:=hc;let ⟨_,a1,a2⟩:=ha;⟨_,XQ hv c1 ⟨hz,hb⟩ hg a1 hs hp,(XH c2 a2).to c3⟩
theorem WU{i:Nat}{y:Str}(hz:Γ.mg "len"=none:=by assumption)(v:vrQ Γ i y:=by walk_at "dk")(hg:gnQ Γ "len":=by walk_at "dk"):CE Γ (.Call (.Name "len" p) [.Name y p1] [] pos) false (BJ i) :=
 ⟨_,fun X c=>CN (c.w (p:=fun K=>DC X (.builtin "len") (fun xs H Q=>∃x n,xs=[x]/\R9 K x H n/\Q (.int n) H)) Lf) (c.g _ hg.1.1) (by rw[c.m];exact hz) PySem.boot_len (AU (c.var v) A8) hg.2 hg.1.2,Yj⟩
theorem ZV{y:Str}{T:String}(ha:CE Γ e false f)(hz:Γ.mg "isinstance"=none:=by assumption)(hy:Γ.mg y=none:=by assumption)(hb:bootBuiltins y=some (.type T):=by walk_at "q")(hg:gnQ Γ "isinstance":=by walk_at "dk")(hg2:gnQ Γ y:=by walk_at "dk")(hs:Dx e [.Name y p1]:=by walk_at "q"):CE Γ (.Call (.Name "isinstance" p) [e,.Name y p1] [] pos) false (DH T f) :=
 let ⟨_,a1,a2⟩:=ha;⟨_,XQ (.inl ⟨_,rfl⟩) (fun X c=>c.w (p:=fun K=>DC X (.builtin "isinstance") (Xt K)) R4) ⟨hz,PyProof.Rows.boot_isinstance⟩ hg (fun X c=>AU (a1 X c) (AU (W2 (c.g y hg2.1.1) (by rw[c.m];exact hy) hb hg2.2 hg2.1.2) A8) (hs _)) hs (fun _=>rfl),bq a2⟩
end
end DL
end
section
namespace DL
open PySem L2
section
variable {Γ:Ct} {np:Nat} {fr fa fb fc fe:Bool} {f f' f'':DX} {c c':DT} {g:DA} {a b d e tg:Expr} {es:List Expr} {pos p p1 p2:Pos}
theorem Yt(h:CE Γ e false f)(he:∀env whole,isTrue e env whole=(do let v <- whole;standAt e.pos;holding [v] (truthy v)):=by walk_at "q"):CT Γ e (AE f):=let ⟨_,a1,a2⟩:=h;⟨_,fun X c=>Pa (a1 X c) (he _),Wq a2⟩
theorem Yu(h:CT Γ a c):CT Γ (.UnaryOp .Not a pos) (As c):=let ⟨_,a1,a2⟩:=h;⟨_,fun X c=>S7 (a1 X c),aJ a2⟩
theorem fD(h:CW Γ e c):CT Γ e c:=let ⟨_,a1,a2⟩:=h;⟨_,fun X c=>(a1 X c).pt,a2⟩
theorem cw_and1(h:CT Γ a c):CW Γ (.BoolOp .And [a] pos) c:=let ⟨_,a1,a2⟩:=h;⟨_,fun X c=>VC (a1 X c),a2⟩
theorem cw_or1(h:CT Γ a c):CW Γ (.BoolOp .Or [a] pos) c:=let ⟨_,a1,a2⟩:=h;⟨_,fun X c=>S0 (a1 X c),a2⟩
theorem cw_and(h:CT Γ a c)(h':CW Γ (.BoolOp .And (b::es) pos) c'):CW Γ (.BoolOp .And (a::b::es) pos) (Ad c c'):=let ⟨_,a1,a2⟩:=h;let ⟨_,b1,b2⟩:=h';⟨_,fun X c=>Xv (a1 X c) (b1 X c),aL a2 b2⟩
theorem cw_or(h:CT Γ a c)(h':CW Γ (.BoolOp .Or (b::es) pos) c'):CW Γ (.BoolOp .Or (a::b::es) pos) (BZ c c'):=let ⟨_,a1,a2⟩:=h;let ⟨_,b1,b2⟩:=h';⟨_,fun X c=>W0 (a1 X c) (b1 X c),eA a2 b2⟩
theorem Yx{i:Nat}(h:CT Γ a c):CT Γ a (C7 i c):=let ⟨_,a1,a2⟩:=h;⟨_,a1,aK a2⟩
theorem ZX{x:Str}{tb:List (Str×PyData)}(ha:CE Γ a false f)(h:kdQ Γ x tb:=by assumption)(hg:glQ Γ x:=by walk_at "dk")(hm:behindInMarks .In (.Name x p)=false:=by walk_at "q"):CE Γ (.Compare a [.In] [.Name x p] pos) false (UL tb f):=by
 obtain⟨_,b1,b2⟩:=ha;obtain⟨ad,h1,h2,h3⟩:=h
 exact⟨_,fun X c=>Mw (r:=Sy ad tb) (VX (X:=X) (by rw[<- c.kw]at h2;exact h2) h3) (b1 X c) (Cu (v:=.ref ad) (c.g x hg.1) (by rw[c.m];exact h1) rfl hg.2) hm,bu b2⟩
abbrev kfQ(Γ:Ct)(x:Str)(tm:List (Str×Mir)):Prop:=∃ad tb,Γ.mg x=some (.ref ad)/\KF Γ.K Γ.K.w ad tb/\(ad==sysModules)=false/\TMs (aA Γ.P Γ.K.w Γ.K Γ.mg Γ.base Γ.k) tb tm
theorem ZY{x:Str}{tm:List (Str×Mir)}(ha:CE Γ a false f)(h:kfQ Γ x tm:=by walk_at "kf")(hg:glQ Γ x:=by walk_at "dk")(hm:behindInMarks .In (.Name x p)=false:=by walk_at "q"):CE Γ (.Compare a [.In] [.Name x p] pos) false (P8 tm f):=by
 obtain⟨_,b1,b2⟩:=ha;obtain⟨ad,tb,h1,h2,h3,h4⟩:=h
 exact⟨_,fun X c=>Mw (r:=Sx ad tb false) (VW (X:=X) (by rw[<- c.kw]at h2;exact h2) h3) (b1 X c) (Cu (v:=.ref ad) (c.g x hg.1) (by rw[c.m];exact h1) rfl hg.2) hm,bx h4 b2⟩
theorem UW{x:Str}{tm:List (Str×Mir)}(ha:CE Γ a false f)(hb:CA Γ (e::es) g)(h:kfQ Γ x tm:=by walk_at "kf")(hg:glQ Γ x:=by walk_at "dk")(hi:JF a:=by walk_at "q")(hs:Dx e es:=by walk_at "q")(hp:Ga es pos:=by walk_at "q"):CE Γ (.Call (.Subscript (.Name x p) a p1) (e::es) [] pos) false (ID tm f g):=by
 obtain⟨_,b1,b2⟩:=ha;obtain⟨_,g1,g2⟩:=hb;obtain⟨ad,tb,h1,h2,h3,h4⟩:=h
 refine⟨_,fun X c=>?_,V1 (ad:=ad) h4 b2 g2⟩
 have ft:=Vw c.rm
 rw[c.p,c.m,c.bs,show X.w=Γ.K.w from c.kw▸rfl,show X.K=Γ.K.fr from c.kw▸rfl]at ft
 exact TX ft (LB (bK (X:=X) (by rw[<- c.kw]at h2;exact h2)) (Cu (v:=.ref ad) (c.g x hg.1) (by rw[c.m];exact h1) rfl hg.2) (b1 X c) hi) (g1 X c) (hs _) (hp _)
theorem WS{i:Nat}{x:Str}(h:Γ.N[i]?=some x:=by walk_at "q")(hi:i<Γ.own:=by walk_at "dk"):CG Γ (.Name x p) (dN i):=⟨_,fun X c=>Qf c.nd (by rw[c.n];exact h) (c.l i x hi (by rw[c.n];exact h)).1 (c.l i x hi (by rw[c.n];exact h)).2,E2⟩
theorem WR:CGs Γ [] Az:=⟨_,fun _ _=>VP,Yc,Qi⟩
theorem UT{h1:DG}{h2}(a:CG Γ e h1)(b:CGs Γ es h2)(hs:∀env,(assignEach (e::es) env).map (·.2)=assign e env::(assignEach es env).map (·.2):=by walk_at "q"):CGs Γ (e::es) (AS h1 h2):=let ⟨_,a1,a2⟩:=a;let ⟨_,b1,b2,b3⟩:=b;⟨_,fun X c=>TQ (a1 X c) (b1 X c) (hs _),Vu a2 b2,OZ b3⟩
theorem ZJ{j}{h1}(a:CGs Γ es h1)(hn:∀env,(assignEach es env).length=es.length:=by walk_at "q")(hst:∀env,(assignEach es env).findIdx? (·.1)=none:=by walk_at "q"):CG Γ (.Tuple es j pos) (dGT h1):=let ⟨t,a1,a2,a3⟩:=a;⟨Vv Γ.K es.length t,fun X c=>c.w (p:=fun K=>PG X _ (Vv K es.length t)) (X1 c.ca (a1 X c) (hn _) (hst _)),bW a2 a3⟩
theorem WQ(h:CE Γ e false f):CI Γ tg e (dIL f):=let ⟨t,a1,a2⟩:=h;⟨MZ Γ.K t,fun X c=>c.w (p:=fun K=>PI X _ _ (MZ K t)) (VM (a1 X c)),Qq a2⟩
theorem ZH(h:CE Γ e false f):CI Γ tg e (dIT f):=let ⟨t,a1,a2⟩:=h;⟨Vs Γ.K t,fun X c=>c.w (p:=fun K=>PI X _ _ (Vs K t)) (Xz (a1 X c)),YW a2⟩
theorem ZI(h:CE Γ e false f):CI Γ tg e (dIS f):=let ⟨t,a1,a2⟩:=h;⟨_,fun X c=>X0 (a1 X c),YX a2⟩
theorem cV(h:CA Γ [a] g)(hz:Γ.mg "range"=none:=by assumption)(hg:glQ Γ "range":=by walk_at "dk")(hs:Dx a []:=by walk_at "q"):CI Γ tg (.Call (.Name "range" p) [a] [] pos) (dR1 g):=let ⟨t,a1,a2⟩:=h;⟨_,fun X c=>RO (c.g _ hg.1) (by rw[c.m];exact hz) (a1 X c) (hs _),Rk a2⟩
theorem cW{x j}(h:CE Γ e false f)(hz:Γ.mg "enumerate"=none:=by assumption)(hg:gnQ Γ "enumerate":=by walk_at "dk")(hs:Dx e []:=by walk_at "q"):CI2 Γ (.Tuple x j p2) (.Call (.Name "enumerate" p) [e] [] pos) (dIE f):=let ⟨t,a1,a2⟩:=h;⟨Qt Γ.K (CJ t FG),fun X c=>c.w (p:=fun K=>PI X _ _ (Qt K (CJ t FG))) (VN (c.g _ hg.1.1) (by rw[c.m];exact hz) (AU (a1 X c) A8 (hs _)) hg.2 hg.1.2 (hs _)),Vm a2⟩
end
end DL
end
section
namespace DL
open PySem L2
section
variable {Γ:Ct} {np:Nat} {fr fa fb fc fe:Bool} {f f' f'':DX} {c c':DT} {g:DA} {a b d e tg it elt:Expr} {es ifs:List Expr} {pos p p1 p2:Pos}
def tgN:Expr->List Str
 |.Name x _=>[x]
 |.Tuple es _ _=>es.filterMap fun e=>match e with|.Name x _=>some x|_=>none
 |_=>[]
abbrev Ct.blk(Γ:Ct)(own:Nat)(fr:List Nat)(tg:Expr)(sc:Scope):Ct:={ Γ with own:=own,d:=false,N:=tgN tg++fr.map fun j=>Γ.N.getD j "",sc:=sc }
def lcQ(Γ:Ct)(own:Nat)(fr:List Nat)(tg:Expr)(sc:Scope):Bool :=
 let Δ:=Γ.blk own fr tg sc
 Tw Δ.N own fr sc Γ.N Γ.sc&&decide Δ.N.Nodup&&((List.range own).all fun i=>match Δ.N[i]? with|some x=>sc.names.lookup x==some .local|none=>false)&&decide (Δ.N.length=own+fr.length)
theorem Ue{X:Cx}(c:At Γ X){own:Nat}{fv:List Nat}{sc:Scope}(h:lcQ Γ own fv tg sc=true):QC X (Γ.blk own fv tg sc).N own fv sc:=by
 unfold lcQ at h
 simp only[Bool.and_eq_true]at h
 have o:=W8 (X:={ X with env:={ X.env with scope:=Γ.sc } }) (N:=Γ.N) c.n rfl h.1.1.1
 exact⟨o.kind,o.len,o.cell,o.names,fun x hx=>c.c x (o.free x hx),o.slot⟩
theorem JU{X:Cx}(c:At Γ X){own:Nat}{fv:List Nat}{sc:Scope}(h:lcQ Γ own fv tg sc=true)(cl:List (Str×Addr))(fp:List Addr)(s3:Shared)(H3:Hp):At (Γ.blk own fv tg sc) (cxC X (Γ.blk own fv tg sc).N sc cl fp s3 H3):=by
 have o:=Ue c h
 unfold lcQ at h
 simp only[Bool.and_eq_true,decide_eq_true_eq,List.all_eq_true,List.mem_range]at h
 obtain⟨⟨⟨_,nd⟩,ow⟩,ln⟩:=h
 have ow':∀(i:Nat) (x:Str),i<own->(Γ.blk own fv tg sc).N[i]?=some x->sc.names.lookup x=some .local:=fun i x hi e=>by
  have:=ow i hi;rw[e]at this;exact eq_of_beq this
 refine⟨c.p,c.kw,c.m,c.bs,rfl,nd,c.rm,c.ca,PassesOwn.never,fun x hx=>?_,fun i x hi e=>⟨MW (ow' i x hi e),.inr (Gq (ow' i x hi e))⟩,fun x h=>Gq h,fun x h=>U8 h,fun z=>(nomatch z),fun x h=>?_⟩
 ·obtain⟨i,hi⟩:=List.mem_iff_getElem?.mp hx
  by_cases hlt:i<own
  ·exact JH (ow' i x hlt hi)
  ·have hl:i<(Γ.blk own fv tg sc).N.length:=(List.getElem?_eq_some_iff.mp hi).1
   obtain⟨k,rfl⟩:∃k,i=own+k:=⟨i-own,by omega⟩
   have hk:k<fv.length:=by have e:(Γ.blk own fv tg sc).N.length=own+fv.length:=ln;omega
   obtain⟨y,h1,_,h3⟩:=o.slot k fv[k] (List.getElem?_eq_getElem hk)
   rw[show(cxC X (Γ.blk own fv tg sc).N sc cl fp s3 H3).N=(Γ.blk own fv tg sc).N from rfl]at hi
   rw[hi]at h1;cases h1
   exact SN h3
 ·rcases h with h|h
  ·exact absurd rfl (o.cell _ (PySem.mem_of_lookup h))
  ·exact Ms h
theorem V8:CTs Γ [] Bp:=⟨_,fun _ _=>VF,aI⟩
theorem V7(h:CT Γ e c):CTs Γ [e] c:=let ⟨_,a1,a2⟩:=h;⟨_,fun X c=>Qb (a1 X c),a2⟩
def CL(Γ:Ct)(elt tg it:Expr)(ifs:List Expr)(sc:Scope)(fr:Bool)(f:DX):Prop:=∃own fv wi g tc te,lcQ Γ own fv tg sc=true/\(∀X,At Γ X->PI X tg it wi)/\(∀X,At (Γ.blk own fv tg sc) X->PG X tg g)/\(∀X,At (Γ.blk own fv tg sc) X->PTs X ifs tc)/\(∀X,At (Γ.blk own fv tg sc) X->PE X elt te)/\E Γ.K (tLC own fv wi g tc te) fr f
abbrev MT(it:Expr):Prop:=∀env x,foldedSetIterable it env x=pure x
theorem cc{sc:Scope}(h:CL Γ elt tg it ifs sc fr f)(hs:MT it:=by walk_at "q"):CE Γ (.ListComp elt [⟨tg,it,ifs,0⟩] sc pos) fr f:=let ⟨_,_,_,_,_,_,h0,h1,h2,h3,h4,h5⟩:=h;⟨_,fun X c=>af c.ca (Ue c h0) (h1 X c) (fun _ _ _ _=>h2 _ (JU c h0 _ _ _ _)) (fun _ _ _ _=>h3 _ (JU c h0 _ _ _ _)) (fun _ _ _ _=>h4 _ (JU c h0 _ _ _ _)) (hs _),h5⟩
section
variable {sc:Scope} {own j:Nat} {fv f1 f2:List Nat} {di:DI} {dg:DG}
theorem fE(hi:CI Γ tg it di)(hg:CG (Γ.blk own fv tg sc) tg dg)(ht:CTs (Γ.blk own fv tg sc) ifs c)(he:CE (Γ.blk own fv tg sc) elt false f)(h:lcQ Γ own fv tg sc=true:=by walk_at "dk"):CL Γ elt tg it ifs sc fr (dLC own fv di dg c f):=let ⟨_,i1,i2⟩:=hi;let ⟨_,g1,g2⟩:=hg;let ⟨_,t1,t2⟩:=ht;let ⟨_,e1,e2⟩:=he;⟨_,_,_,_,_,_,h,i1,g1,t1,e1,(bj i2 g2 t2 e2).an⟩
end
abbrev bsQ(o:Expr)(m:Str):Prop:=∀env,attributeBase o m env (eval o env)=eval o env
abbrev lnQ(a c:Pos):Prop:=(a.endLine==c.line)=true
abbrev fwQ(es:List Expr)(c:Pos):Prop:=∀env,((backTo c (starEach es env)).all (fun x=>!x.1)&&(backToKw c (keywordEach [] env)).all (fun x=>x.1.isSome)&&decide (es.length+([]:List Keyword).length+(if ([]:List Keyword).isEmpty then 0 else 1)<30))=true
theorem eV{e:Expr}{c:Pos}(hs:Dx e []):fwQ [e] c:=fun env=>by rw[hs];rfl
theorem cZ{i:Nat}{x m:Str}{G}(hm:CM Γ m G)(ha:CA Γ (e::es) g)(v:vrQ Γ i x:=by walk_at "dk")(hb:bsQ (.Name x p) m:=by walk_at "q")(hl:lnQ p1 pos:=by walk_at "q")(hw:fwQ (e::es) pos:=by walk_at "q")(hs:Dx e es:=by walk_at "q")(hp:Ga es pos:=by walk_at "q"):CE Γ (.Call (.Attribute (.Name x p) m p1) (e::es) [] pos) false (dMt i G g):=by
 obtain⟨id,r,m1,m2,m3,m4⟩:=hm;obtain⟨t,a1,a2⟩:=ha
 exact⟨_,fun X c=>c.w (p:=fun K=>PE X _ (tBM K "list" r (Eb i) t)) (W3 PySem.F.plainAttrs_list m1 m2 (m3 X c) (c.var v) (a1 X c) (hb _) (hw _) hl (hs _) (hp _)),eg m4 a2⟩
theorem ZG:CM Γ "append" Ay:=⟨_,_,PySem.F.slot_list_append,PySem.F.type_list_append,fun _ _=>MU,Tu⟩
theorem WV(ha:CE Γ a false f)(hb:CE Γ b false f')(h1:bsQ a "index":=by walk_at "q")(hl:lnQ p1 pos:=by walk_at "q")(hs:Dx b []:=by walk_at "q"):CE Γ (.Call (.Attribute a "index" p1) [b] [] pos) false (dOp Mc f f'):=by
 obtain⟨t,a1,a2⟩:=ha;obtain⟨u,b1,b2⟩:=hb
 exact⟨_,fun X c=>c.w (p:=fun K=>PE X _ (tBM K "list" (Sz K) t (CJ u FG))) (W3 PySem.F.plainAttrs_list PySem.F.slot_list_index PySem.F.type_list_index (Rc c.u5) (a1 X c) (AU (b1 X c) A8 (hs _)) (h1 _) (eV hs _) hl (hs _) rfl),Yk a2 b2⟩
theorem ZF:CO Γ (binaryOp .Add) false Ap:=⟨_,_,fun _ _=>YD,W7,id⟩
theorem Y5:CO Γ (binaryOp .Sub) false BN:=⟨_,_,fun _ _=>X6,au,id⟩
theorem Y8:CO Γ (binaryOp .Mult) false F5:=⟨_,_,fun _ _=>VV,ay,id⟩
theorem ZD:CO Γ (binaryOp .FloorDiv) false Aj:=⟨_,_,fun _ _=>Td,bE,id⟩
theorem Y9:CO Γ (binaryOp .Mod) false Aa:=⟨_,_,fun _ _=>X8,az,id⟩
theorem Y6:CO Γ (binaryOp .Pow) false Iy:=⟨_,_,fun _ _=>X7,av,id⟩
theorem ZE:CO Γ (binaryOp .Add) fr Ea:=⟨_,_,fun _ _=>LF,bF,fun _=>rfl⟩
theorem WO:CO Γ (binaryOp .Add) false G4:=⟨_,_,fun _ _=>Pf,YJ,id⟩
theorem WN:CO Γ (binaryOp .Add) false B0:=⟨QX Γ.K,_,fun X c=>c.w (p:=fun K=>OpR X _ (QX K)) VY,YI,id⟩
theorem cL:CO Γ (compareOp .Lt) false fLt:=⟨_,_,fun _ _=>ai,eI,id⟩
theorem cM:CO Γ (compareOp .LtE) false fLe:=⟨_,_,fun _ _=>aj,eJ,id⟩
theorem cP:CO Γ (compareOp .Gt) false fGt:=⟨_,_,fun _ _=>ak,eK,id⟩
theorem cR:CO Γ (compareOp .GtE) false fGe:=⟨_,_,fun _ _=>ao,eL,id⟩
theorem cU:CO Γ (compareOp .Eq) false fEq:=⟨VB Γ.K,_,fun X c=>c.w (p:=fun K=>OpR X _ (VB K)) (YC c.u),eM,id⟩
theorem cK:CO Γ (compareOp .NotEq) false fNe:=⟨VA Γ.K,_,fun X c=>c.w (p:=fun K=>OpR X _ (VA K)) (Tc c.u),ax,id⟩
theorem cO:CO Γ (compareOp .In) false (fIn false):=⟨PY Γ.K false,_,fun X c=>c.w (p:=fun K=>OpR X _ (PY K false)) (YB c.u5),bD,id⟩
theorem Y7:CO Γ (compareOp .NotIn) false (fIn true):=⟨PY Γ.K true,_,fun X c=>c.w (p:=fun K=>OpR X _ (PY K true)) (RU c.u5),bD,id⟩
theorem ZC:CO Γ (compareOp .In) false Ot:=⟨_,_,fun _ _=>RV,bC,id⟩
theorem ZA:CO Γ (compareOp .Is) false ED:=⟨_,_,fun _ _=>X9,bB,id⟩
theorem WL:CO Γ (compareOp .IsNot) false Bz:=⟨_,_,fun _ _=>VT,YG,id⟩
theorem fB:CIx Γ Co:=⟨RK Γ.K,fun X c=>c.w (p:=fun K=>IxR X (RK K)) NT,W6⟩
theorem ey:CIx Γ AJ:=⟨RJ Γ.K,fun X c=>c.w (p:=fun K=>IxR X (RJ K)) Pr,Tn⟩
theorem fA:CIx Γ LV:=⟨_,fun _ _=>YU,bA⟩
theorem Zf:CBt Γ "len" false Au:=⟨_,fun xs H Q=>∃x n,xs=[x]/\R9 Γ.K x H n/\Q (.int n) H,_,.inl ⟨_,rfl⟩,PySem.boot_len,fun X c=>c.w (p:=fun K=>DC X (.builtin "len") (fun xs H Q=>∃x n,xs=[x]/\R9 K x H n/\Q (.int n) H)) Lf,XM,id⟩
theorem Zj:CBt Γ "abs" false Hm:=⟨_,_,_,.inl ⟨_,rfl⟩,PyProof.Rows.boot_abs,fun _ _=>Ua,dD,id⟩
theorem WY:CBt Γ "max" false FT:=⟨_,_,_,.inl ⟨_,rfl⟩,PyProof.Rows.boot_max,fun _ c=>R3 c.ca,Zm,id⟩
theorem WX:CBt Γ "min" false FR:=⟨_,_,_,.inl ⟨_,rfl⟩,PyProof.Rows.boot_min,fun _ c=>Ry c.ca,Zl,id⟩
theorem Zg:CBt Γ "int" false Dt:=⟨_,_,_,.inr ⟨_,rfl⟩,PySem.Pv.boot_int,fun _ _=>R6,Zo,id⟩
theorem WZ:CBt Γ "list" fr Bq:=⟨_,fun xs H Q=>∃p ys,xs=[.ref p]/\(SqL Γ.K H p ys\/SqT Γ.K H p ys)/\∀l,H l=none->Q (.ref l) (upd H l (.lst ys)),_,.inr ⟨_,rfl⟩,PySem.Pv.boot_list,fun X c=>c.w (p:=fun K=>DC X _ (fun xs H Q=>∃p ys,xs=[.ref p]/\(SqL K H p ys\/SqT K H p ys)/\∀l,H l=none->Q (.ref l) (upd H l (.lst ys)))) Nj,Zn,fun _=>rfl⟩
theorem Ze:CBt Γ "tuple" false LU:=⟨_,fun xs H Q=>∃p ys,xs=[.ref p]/\((SqL Γ.K H p ys/\∀l,H l=none->Q (.ref l) (upd H l (.tup ys)))\/(SqT Γ.K H p ys/\Q (.ref p) H)),_,.inr ⟨_,rfl⟩,PySem.Pv.boot_tuple,fun X c=>c.w (p:=fun K=>DC X _ (fun xs H Q=>∃p ys,xs=[.ref p]/\((SqL K H p ys/\∀l,H l=none->Q (.ref l) (upd H l (.tup ys)))\/(SqT K H p ys/\Q (.ref p) H)))) MH,Wb,id⟩
theorem Zi:CBt Γ "all" false JA:=⟨_,Qa Γ.K,_,.inl ⟨_,rfl⟩,PyProof.Rows.boot_all,fun X c=>c.w (p:=fun K=>DC X _ (Qa K)) (R8 c.ca),Zq,id⟩
theorem Zh:CBt Γ "any" false Iz:=⟨_,QZ Γ.K,_,.inl ⟨_,rfl⟩,PyProof.Rows.boot_any,fun X c=>c.w (p:=fun K=>DC X _ (QZ K)) (R7 c.ca),Zp,id⟩
end
end DL
end
section
namespace DL
open PySem L2 PySem.Spec PyProof.Rows
section
variable {Γ:Ct} {np:Nat} {fr fa fb fc fe:Bool} {f f' f'':DX} {c c':DT} {g:DA} {a b d e tg it elt:Expr} {es ifs:List Expr} {pos p p1 p2:Pos} {s:Stmt} {ss ss':List Stmt} {B1 B2:DB} {i j k:Nat} {x y z:Str}
theorem V9:CSs Γ np [] fr AO:=⟨_,fun _ _=>Mu,XO⟩
theorem Q1(h:CS Γ np s fr B1):CSs Γ np [s] fr B1:=let ⟨_,a1,a2⟩:=h;⟨_,fun X c=>Ig (a1 X c),a2⟩
theorem O3(h:CS Γ np s fr B1)(h':CSs Γ np ss fr B2):CSs Γ np (s::ss) fr (AK B1 B2):=let ⟨_,a1,a2⟩:=h;let ⟨_,b1,b2⟩:=h';⟨_,fun X c=>Dg (a1 X c) (b1 X c),dF a2 b2⟩
abbrev stQ(Γ:Ct)(i:Nat)(x:Str):Prop:=Γ.N[i]?=some x/\i<Γ.own
abbrev nSw(e:Expr)(t:Option Expr)(pos:Pos):Prop:=∀env,swapsWith e t pos.line env=pure false
theorem Nl{te:TE}(h:∀X,At Γ X->PE X e te)(v:stQ Γ i x)(hs:∀X,At Γ X->swapsWith e (some (.Name x p)) pos.line X.env=pure false):∀X,At Γ X->PS X (.Assign [.Name x p] e pos) (Ko te (Gb i)):=fun X c=>by
 have hi:X.N[i]?=some x:=by rw[c.n];exact v.1
 exact Hx c.nd hi (c.l i x v.2 hi).1 (h X c) (hs X c) (c.l i x v.2 hi).2
theorem Yy(h:CE Γ e false f)(v:stQ Γ i x:=by walk_at "dk")(hs:nSw e (some (.Name x p)) pos:=by walk_at "q"):CS Γ np (.Assign [.Name x p] e pos) fr (AL f (dN i)):=let ⟨_,a1,a2⟩:=h;⟨_,Nl a1 v fun _ _=>hs _,Q6 a2 E2⟩
theorem WA(h:CE Γ e true f)(v:stQ Γ i x:=by walk_at "dk")(hs:nSw e (some (.Name x p)) pos:=by walk_at "q"):CS Γ np (.Assign [.Name x p] e pos) fr (E4 np i f):=let ⟨_,a1,a2⟩:=h;⟨_,Nl a1 v fun _ _=>hs _,Zu a2⟩
theorem Y1(v:stQ Γ i x:=by walk_at "dk"):CS Γ np (.Assign [.Name x p] (.List [] p1) pos) fr (GK np i):=⟨_,Nl (fun _ _=>Hy A8) v fun _ _=>rfl,dI⟩
theorem WE(v:stQ Γ i x:=by walk_at "dk"):CS Γ np (.Assign [.Name x p] (.Dict [] [] p1) pos) fr (Qy np i):=⟨_,Nl (fun _ _=>VQ) v fun _ _=>rfl,Zy⟩
abbrev lsQ(Γ:Ct)(i:Nat)(x:Str)(p p1:Pos)(sc:Scope):Prop:=Γ.N[i]?=some x/\Γ.sc.names.lookup x=some .local/\Γ.d=true/\(p.line==p1.line&&!(sc.names.any fun(n,k)=>n==x&&(k==.local||k==.cell)))=true
theorem dP{sc:Scope}{own:Nat}{fv:List Nat}{wi:TI}{g:TG}{tc:TT}{te:TE}(v:lsQ Γ i x p p1 sc)(hf:MT it)(h0:lcQ Γ own fv tg sc=true)(h1:∀X,At Γ X->PI X tg it wi)(h2:∀X,At (Γ.blk own fv tg sc) X->PG X tg g)(h3:∀X,At (Γ.blk own fv tg sc) X->PTs X ifs tc)(h4:∀X,At (Γ.blk own fv tg sc) X->PE X elt te) :
  ∀X,At Γ X->PS X (.Assign [.Name x p] (.ListComp elt [⟨tg,it,ifs,0⟩] sc p1) pos) (fun D σ H=>tLC own fv wi g tc te σ H fun v H'=>D.nx (σ.set i (some v)) H'):=fun X c=>by
 obtain⟨v1,v2,v3,v4⟩:=v
 have hl:=c.ll x v2
 refine TB c.nd (by rw[c.n];exact v1) hl c.ca (Ue c h0) (h1 X c) (fun _ _ _ _=>h2 _ (JU c h0 _ _ _ _)) (fun _ _ _ _=>h3 _ (JU c h0 _ _ _ _)) (fun _ _ _ _=>h4 _ (JU c h0 _ _ _ _)) ?_ (hf _)
 show(pure (X.env.blockKind==.function&&X.env.kindOf x==some .local&&p.line==p1.line&&!(sc.names.any fun(n,k)=>n==x&&(k==.local||k==.cell))):Sem Bool)=pure true
 rw[c.bk v3,show X.env.kindOf x=some .local from hl]
 rw[Bool.and_eq_true]at v4
 rw[v4.1,v4.2];rfl
theorem cI{sc:Scope}(h:CL Γ elt tg it ifs sc false f)(v:lsQ Γ i x p p1 sc:=by walk_at "dk")(hf:MT it:=by walk_at "q"):CS Γ np (.Assign [.Name x p] (.ListComp elt [⟨tg,it,ifs,0⟩] sc p1) pos) fr (AL f (dN i)):=let ⟨_,_,_,_,_,_,h0,h1,h2,h3,h4,h5⟩:=h;⟨_,dP v hf h0 h1 h2 h3 h4,dJ h5⟩
abbrev asQ(tg e:Expr)(pos:Pos):Prop:=∀env,swapsWithSole [tg] e pos.line env=pure false/\swappedStores [tg] e env=pure none/\(assignEach [tg] env).map (·.2)=[assign tg env]
theorem Y4{gt:DG}(h:CE Γ e false f)(hg:CG Γ tg gt)(hs:asQ tg e pos:=by walk_at "as"):CS Γ np (.Assign [tg] e pos) fr (AL f gt):=let ⟨_,a1,a2⟩:=h;let ⟨_,b1,b2⟩:=hg;⟨_,fun X c=>TJ (a1 X c) (b1 X c) (hs _).1 (hs _).2.1 (hs _).2.2,Q6 a2 b2⟩
abbrev sbQ(o i:Expr)(pos:Pos):Prop:=∀env v,assign (.Subscript o i pos) env v=(do
   let ov <- holding [v] (eval o env)
   let iv <- holding [v,ov] (eval i env)
   standAt pos
   holding [v,ov,iv] (setItem ov iv v)
   release [v,ov,iv] [])
theorem Z2{o:Expr}{te to ti:TE}{t:Wj}(h:∀X,At Γ X->PE X e te)(ho:∀X,At Γ X->PE X o to)(hi:∀X,At Γ X->PE X d ti)(ht:∀X,At Γ X->Z6 X t)(h1:sbQ o d p)(hs:asQ (.Subscript o d p) e pos):∀X,At Γ X->PS X (.Assign [.Subscript o d p] e pos) (Ko te (Yd to ti t)):=fun X c=>TJ (h X c) (X2 (ho X c) (hi X c) (ht X c) (h1 _)) (hs _).1 (hs _).2.1 (hs _).2.2
theorem WD(h:CE Γ e false f)(hk:CE Γ d false f')(v:vrQ Γ i x:=by walk_at "dk")(h1:sbQ (.Name x p1) d p:=by walk_at "q")(hs:asQ (.Subscript (.Name x p1) d p) e pos:=by walk_at "as"):CS Γ np (.Assign [.Subscript (.Name x p1) d p] e pos) fr (La i f f'):=let ⟨_,a1,a2⟩:=h;let ⟨_,b1,b2⟩:=hk;⟨_,Z2 a1 (fun _ c=>c.var v) b1 (fun _ _=>aS) h1 hs,Zx a2 b2⟩
abbrev lvQ(Γ:Ct)(i:Nat)(x:Str):Prop:=Γ.N[i]?=some x/\Γ.sc.names.lookup x=some .local
abbrev fdQ(vs:List Expr):Prop:=(vs.any fun|.Starred ..=>true|_=>false)=false/\vs.all (foldedForSure 8)=false/\vs.all (constantsAlone 8)=false
theorem Y0{q1 q2 q3 q4:Pos}{k1 k2}(h:CA Γ [a,b] g)(v:lvQ Γ i x/\lvQ Γ j y/\i≠j/\x≠y/\Γ.d=true/\q2.line=q1.line:=by walk_at "dk")(hw:fdQ [a,b]:=by walk_at "fd"):CS Γ np (.Assign [.Tuple [.Name x q1,.Name y q2] k1 q3] (.Tuple [a,b] k2 q4) pos) fr (Br i j g):=by
 obtain⟨t,a1,a2⟩:=h;obtain⟨⟨v1,v2⟩,⟨v3,v4⟩,v5,v6,v7,v8⟩:=v;obtain⟨w1,w2,w3⟩:=hw
 refine⟨_,fun X c=>Xx c.ca c.nd (by rw[c.n];exact v1) (by rw[c.n];exact v3) v5 (c.ll x v2) (c.ll y v4) (a1 X c) ?_ rfl,dH a2⟩
 unfold swappedStores
 simp only[c.bk v7,List.length_cons,List.length_nil,w1,w2,w3,List.head?_cons,Option.map_some,Option.getD_some,Expr.pos,List.filterMap_cons,List.filterMap_nil,show X.env.kindOf x=some .local from c.ll x v2,show X.env.kindOf y=some .local from c.ll y v4,v8,beq_self_eq_true,Bool.and_true,Bool.and_self,if_true,List.eraseDups_cons]
 simp[List.eraseDups,List.eraseDupsBy,List.eraseDupsBy.loop,v6,Ne.symm v6]
 intro h
 simp only[List.any_cons,List.any_nil,Bool.or_false,Bool.or_eq_false_iff]at w1
 rcases h with h|h
 ·exact Bool.noConfusion (h.symm.trans w1.1)
 ·exact Bool.noConfusion (h.symm.trans w1.2)
theorem WH(h:CE Γ e false f)(hs:nSw e none pos:=by walk_at "q"):CS Γ np (.Expr e pos) fr (Bh f):=let ⟨_,a1,a2⟩:=h;⟨_,fun X c=>Qd (a1 X c) (hs _),Z1 a2⟩
theorem Yz(h:CE Γ e fr f):CS Γ np (.Return (some e) pos) fr (AN f):=let ⟨_,a1,a2⟩:=h;⟨_,fun X c=>JN (a1 X c),dG a2 id⟩
theorem WB:CS Γ np (.Return none pos) false EV:=⟨_,fun _ _=>VG,Zv⟩
theorem WC(v:vrQ Γ i x:=by walk_at "dk"):CS Γ np (.Return (some (.Name x p)) pos) fr (Dy np i):=⟨_,fun _ c=>JN (c.var v),Zw⟩
theorem cJ(h:CT Γ e c)(h1:CSs Γ np ss fr B1)(h2:CSs Γ np ss' fr B2):CS Γ np (.If e ss ss' pos) fr (AQ c B1 B2):=let ⟨_,a1,a2⟩:=h;let ⟨_,b1,b2⟩:=h1;let ⟨_,d1,d2⟩:=h2;⟨_,fun X c=>TH (a1 X c) (b1 X c) (d1 X c),fH a2 b2 d2⟩
theorem UP{n:DS->Nat}(h:CT Γ e c)(h1:CSs Γ np ss fr B1):CS Γ np (.While e ss [] pos) fr (Fd n c B1):=let ⟨_,a1,a2⟩:=h;let ⟨_,b1,b2⟩:=h1;⟨_,fun X c=>S9 c.po (a1 X c) (b1 X c),We a2 b2⟩
theorem Y2{di:DI}{dg:DG}(h:CI Γ tg it di)(hg:CG Γ tg dg)(h1:CSs Γ np ss fr B1)(hs:MT it:=by walk_at "q"):CS Γ np (.For tg it ss [] pos) fr (Cp di dg B1):=let ⟨_,a1,a2⟩:=h;let ⟨_,g1,g2⟩:=hg;let ⟨_,b1,b2⟩:=h1;⟨_,fun X c=>Pb c.po c.ca (a1 X c) (g1 X c) (b1 X c) (hs _),dM a2 g2 b2⟩
theorem WG{di:DI}{dg:DG}(h:CI2 Γ tg it di)(hg:CG Γ tg dg)(h1:CSs Γ np ss fr B1)(hs:MT it:=by walk_at "q"):CS Γ np (.For tg it ss [] pos) fr (Cp di dg B1):=let ⟨_,a1,a2⟩:=h;let ⟨_,g1,g2⟩:=hg;let ⟨_,b1,b2⟩:=h1;⟨_,fun X c=>Pb c.po c.ca (a1 X c) (g1 X c) (b1 X c) (hs _),Z0 a2 g2 b2⟩
theorem Y3(h:CE Γ e false f)(v:stQ Γ i x:=by walk_at "dk"):CS Γ np (.AugAssign (.Name x p) .Add e pos) fr (AL (dOp Ap (AB i) f) (dN i)):=by
 obtain⟨_,a1,a2⟩:=h
 refine⟨_,fun X c=>?_,dO a2⟩
 have hi:X.N[i]?=some x:=by rw[c.n];exact v.1
 exact Xy c.nd hi (c.l i x v.2 hi).1 (a1 X c) YY (c.l i x v.2 hi).2
theorem UQ:CS Γ np s fr CZ:=⟨_,fun _ _=>TF,Wf⟩
end
def scB(N ps:List Str)(sc:Scope):Bool:=decide (sc.kind = .function)&&decide (sc.isCoroutine=false)&&decide (sc.isGenerator=false)&&decide N.Nodup&&decide (N.take ps.length=ps)&&(N.all fun x=>decide (Loc sc x))&&(sc.names.all fun y=>decide (y.2≠.free))
theorem Sm{N ps:List Str}{sc:Scope}(h:scB N ps sc=true):Ei N ps sc/\∀x∈N,Loc sc x:=by
 unfold scB at h
 simp only[Bool.and_eq_true,decide_eq_true_eq,List.all_eq_true]at h
 obtain⟨⟨⟨⟨⟨⟨h1,h2⟩,h3⟩,h4⟩,h5⟩,h6⟩,h7⟩:=h
 exact⟨⟨h1,h2,h3,h4,h5,fun x hx=>h6 x (List.mem_of_mem_take (by rw[h5];exact hx)),h7⟩,h6⟩
theorem Z3{P:Program}{w:World}{K:PySem.W.Frag}{mg:Str->Option Value}{base:Heap}{N ps:List Str}{x:Str}{sc:Scope}{f:Addr}{cd:Value}{A:Around}{outer:List Env}{s:Shared}{H:Hp}{E:XK}{k:Nat}(S:Ei N ps sc)(l:∀x∈N,Loc sc x)(hr:Room k (A.deeper (envOfC x sc s.heap.objs.size f cd))):At ⟨P,⟨K,w⟩,mg,base,k,N.length,true,N,sc⟩ (JC CX0 P w K mg base N x sc f cd A outer s H E).nox where
 p:=rfl
 kw:=rfl
 m:=rfl
 bs:=rfl
 n:=rfl
 nd:=S.nd
 rm:=hr
 ca:=rfl
 po:=PassesOwn.never
 v:=fun x hx=>viL (l x hx)
 l:=fun i x _ e=>⟨l x (List.mem_of_getElem? e),.inl rfl⟩
 ll:=fun _ h=>h
 g:=fun _ h=>h
 bk:=fun _=>by show Env.blockKind (envOfC x sc s.heap.objs.size f cd)=_;unfold Env.blockKind;rw[show(envOfC x sc s.heap.objs.size f cd).scope.kind = .function from S.kind];rfl
 c:=fun _ h=>h
theorem AX{P:Program}{w:World}{K:PySem.W.Frag}{mg:Str->Option Value}{base:Heap}{x:Str}{st:Stmt}{f:Addr}{fd:FuncData}{ps:List Str}{k np nl:Nat}{fr:Bool}{b:DB}(N:List Str)(F:Fun K x x st f fd)(hb:CSs ⟨P,⟨K,w⟩,mg,base,k,N.length,true,N,AZ st⟩ np (CH st) fr b)(hs:scB N ps (AZ st)=true:=by walk_at "dk")(hn:N.length=np+nl/\np=ps.length:=by walk_at "dk"):FnOk P w K mg base CX0 (k+1) f fd ps (spD ⟨K,w⟩ (Ab fr np nl b) fr):=by
 obtain⟨S,l⟩:=Sm hs;obtain⟨t,h1,h2⟩:=hb
 exact F.ok S (fun vs H Q E h=>(Yi Oz h).trans hn.2) fun cdv A outer s H vs Q E hr h=>⟨t,h1 _ (Z3 S l hr),Yh h2 hn.1 h⟩
end DL
end
section
namespace DL
open PySem L2 PySem.Spec PyProof.Rows
section
variable {Γ:Ct} {np:Nat} {fr fa fb fc fe:Bool} {f f' f'':DX} {c c':DT} {g:DA} {a b d e tg it elt:Expr} {es ifs:List Expr} {pos p p1 p2:Pos} {s:Stmt} {ss ss':List Stmt} {i j k:Nat} {x y z:Str} {cls:Nat->Addr} {B1 B2:DBX}
structure AtR(Γ:Ct)(E:XK)(X:Cx):Prop where
 ra:∀C,Ll X C E
 pa:Jd (CXr Γ.P Γ.K.w) X E
def CX(Γ:Ct)(cls:Nat->Addr)(np:Nat)(s:Stmt)(f:DBX):Prop:=∀E:XK,∃t,(∀X,At Γ X->AtR Γ E X->PS X s t)/\BX Γ.K np (fun n H=>E (.ref (cls n)) none H) t false f
def CXs(Γ:Ct)(cls:Nat->Addr)(np:Nat)(s:List Stmt)(f:DBX):Prop:=∀E:XK,∃t,(∀X,At Γ X->AtR Γ E X->PSs X s t)/\BX Γ.K np (fun n H=>E (.ref (cls n)) none H) t false f
theorem V4:CXs Γ cls np [] (xOf AO):=fun _=>⟨_,fun _ _ _=>Mu,aC XO⟩
theorem Q0(h:CX Γ cls np s B1):CXs Γ cls np [s] B1:=fun E=>let ⟨_,a1,a2⟩:=h E;⟨_,fun X c r=>Ig (a1 X c r),a2⟩
theorem O0(h:CX Γ cls np s B1)(h':CXs Γ cls np ss B2):CXs Γ cls np (s::ss) (BE B1 B2):=fun E=>let ⟨_,a1,a2⟩:=h E;let ⟨_,b1,b2⟩:=h' E;⟨_,fun X c r=>Dg (a1 X c r) (b1 X c r),aB a2 b2⟩
theorem cG{b:DB}(h:CS Γ np s false b):CX Γ cls np s (xOf b):=fun E=>let ⟨_,a1,a2⟩:=h;⟨_,fun X c _=>a1 X c,aC a2⟩
theorem cH(h:CT Γ e c)(h1:CXs Γ cls np ss B1)(h2:CXs Γ cls np ss' B2):CX Γ cls np (.If e ss ss' pos) (xIf c B1 B2):=fun E=>let ⟨_,a1,a2⟩:=h;let ⟨_,b1,b2⟩:=h1 E;let ⟨_,d1,d2⟩:=h2 E;⟨_,fun X c r=>TH (a1 X c) (b1 X c r) (d1 X c r),dq a2 b2 d2⟩
theorem V5{di:DI}{dg:DG}(h:CI2 Γ tg it di)(hg:CG Γ tg dg)(h1:CXs Γ cls np ss B1)(hs:MT it:=by walk_at "q"):CX Γ cls np (.For tg it ss [] pos) (O9 di dg B1):=fun E=>let ⟨_,a1,a2⟩:=h;let ⟨_,g1,g2⟩:=hg;let ⟨_,b1,b2⟩:=h1 E;⟨_,fun X c r=>Pb c.po c.ca (a1 X c) (g1 X c) (b1 X c r) (hs _),XX a2 g2 b2⟩
abbrev clQ(Γ:Ct)(cls:Nat->Addr)(n:Nat)(x:Str):Prop:=Γ.mg x=some (.ref (cls n))/\PySem.W.excIn Γ.K (cls n) [.type "ValueError",.type "Exception",.type "BaseException",.type "object"] "ValueError.__new__"=true
theorem UM{n:Nat}{m:Str}{j'}(h:clQ Γ cls n x:=by assumption)(hg:glQ Γ x:=by walk_at "dk"):CX Γ cls np (.Raise (some (.Call (.Name x p) [.Constant (.str m) j' p1] [] p2)) none pos) (Cf n):=fun E =>
 ⟨PR (cls n) E (CJ (tC (.str m)) FG),fun X c r=>TC (AU EY A8) (r.ra _) (c.g x hg.1) (by rw[c.m];exact h.1) (by rw[show X.K=Γ.K.fr from c.kw▸rfl];exact h.2) PySem.F.excBase_ValueError c.rm.hd rfl hg.2 rfl,Uu fun _ h=>h⟩
abbrev xQ(Γ:Ct)(cls:Nat->Addr)(k:Nat)(x:Str)(ps:List Str)(G:List PyData->Option (PyData ⊕ Nat)):Prop:=∃f fd,FnOk Γ.P Γ.K.w Γ.K Γ.mg Γ.base (CXr Γ.P Γ.K.w) k f fd ps (spO Γ.K G cls)/\Γ.mg x=some (.ref f)/\PySem.W.keepIn Γ.K (.ref f)=true/\Binds Γ.K fd ps []
theorem Lh{ps:List Str}{G:List PyData->Option (PyData ⊕ Nat)}{t:TA}{E:XK}(C:xQ Γ cls k x ps G)(hk:k<=Γ.k)(hg:glQ Γ x)(h:∀X,At Γ X->PA X (e::es) t)(hs:Dx e es)(hp:Ga es pos):∀X,At Γ X->AtR Γ E X->PE X (.Call (.Name x p) (e::es) [] pos) (Fh (spO Γ.K G cls) [] E t):=fun X c r=>by
 obtain⟨f,fd,F,m,kp,b⟩:=C
 have e1:X.w=Γ.K.w:=c.kw▸rfl
 have e2:X.K=Γ.K.fr:=c.kw▸rfl
 rw[<- c.p,<- c.m,<- c.bs,<- e1,<- e2]at F
 rw[<- c.m]at m;rw[<- e2]at kp b
 have hp':=r.pa
 rw[<- c.p,<- e1]at hp'
 exact Qg (F.mono hk) c.rm (c.g x hg.1) m kp b .nil hp' (h X c) hg.2 (hs _) (hp _)
section
variable {ps:List Str} {G:List PyData->Option (PyData ⊕ Nat)}
theorem V6(ha:CA Γ (e::es) g)(C:xQ Γ cls k x ps G:=by assumption)(hk:k<=Γ.k:=by walk_at "dk")(hg:glQ Γ x:=by walk_at "dk")(hs:Dx e es:=by walk_at "q")(hp:Ga es p2:=by walk_at "q"):CX Γ cls np (.Expr (.Call (.Name x p) (e::es) [] p2) pos) (E5 G g):=fun E=>let ⟨_,a1,a2⟩:=ha;⟨_,fun X c r=>Qd (Lh C hk hg a1 hs hp X c r) rfl,XY a2⟩
def Ho(G:List PyData->Option (PyData ⊕ Nat))(a:DA)(τ:DS):Option F7:=(a τ).bind fun p=>(BC p.1).bind fun ds=>(G ds).map fun r=>match r with
 |.inl d=>.inl (.rt d p.2)
 |.inr n=>.inr n
theorem XW{K:KW}{E:XK}{t:TA}{a:DA}(ha:A K t a):BX K np (fun n H=>E (.ref (cls n)) none H) (Sb (Fh (spO K G cls) [] E t)) false (Ho G a):=by
 intro F S M τ σ H D out hnp hM f ee q
 unfold Ho at ee
 obtain⟨⟨x,τ1⟩,e1,ee⟩:=oB ee
 obtain⟨ds,e2,ee⟩:=oB ee
 obtain⟨r,e3,ee⟩:=oM ee
 refine ha.run S M τ σ H _ x _ f.r e1 fun vs H1 r1 c1 i1=>?_
 have l:=DR i1 e2
 have f1:=f.step r1 c1 (ha.like _ _ _ e1)
 show spO K G cls (vs++[]) H1 _ E
 rw[List.append_nil]
 refine⟨S,ds,r,l,r1.ex,e3,?_⟩
 cases r with
 |inr n=>cases ee;exact fun H' s=>q H' fun b o e=>s b o (f1.sm hM b o e)
 |inl d =>
  cases ee
  exact fun v H' s iv=>q S M σ H' v (f1.step (r1.same s) (.of s) .refl) (Is.mono (E1 fun a z=>f.sS a z) iv)
theorem Yr(ha:CA Γ (e::es) g)(C:xQ Γ cls k x ps G:=by assumption)(hk:k<=Γ.k:=by walk_at "dk")(hg:glQ Γ x:=by walk_at "dk")(hs:Dx e es:=by walk_at "q")(hp:Ga es p2:=by walk_at "q"):CX Γ cls np (.Return (some (.Call (.Name x p) (e::es) [] p2)) pos) (Ho G g):=fun E=>let ⟨_,a1,a2⟩:=ha;⟨_,fun X c r=>JN (Lh C hk hg a1 hs hp X c r),XW a2⟩
def Je(i:Nat)(G:List PyData->Option (PyData ⊕ Nat))(a:DA)(τ:DS):Option F7:=(a τ).bind fun p=>(BC p.1).bind fun ds=>(G ds).bind fun r=>match r with
 |.inl d=>(dN i d p.2).map fun τ'=>.inl (.nx τ')
 |.inr n=>some (.inr n)
theorem XZ{K:KW}{E:XK}{t:TA}{a:DA}(ha:A K t a):BX K np (fun n H=>E (.ref (cls n)) none H) (Ko (Fh (spO K G cls) [] E t) (Gb i)) false (Je i G a):=by
 intro F S M τ σ H D out hnp hM f ee q
 unfold Je at ee
 obtain⟨⟨x,τ1⟩,e1,ee⟩:=oB ee
 obtain⟨ds,e2,ee⟩:=oB ee
 obtain⟨r,e3,ee⟩:=oB ee
 refine ha.run S M τ σ H _ x _ f.r e1 fun vs H1 r1 c1 i1=>?_
 have l:=DR i1 e2
 have f1:=f.step r1 c1 (ha.like _ _ _ e1)
 show spO K G cls (vs++[]) H1 _ E
 rw[List.append_nil]
 refine⟨S,ds,r,l,r1.ex,e3,?_⟩
 cases r with
 |inr n=>cases ee;exact fun H' s=>q H' fun b o e=>s b o (f1.sm hM b o e)
 |inl d =>
  obtain⟨τ2,e4,ee⟩:=oM ee
  cases ee
  intro v H' s iv
  have f2:=f1.step (r1.same s) (.of s) .refl
  refine(E2 (K:=K)).run S M τ1 σ H' v d τ2 _ f2.r iv e4 fun σ3 r3 k3=>?_
  exact q S M σ3 H' (f2.stay r3 ((E2 (K:=K)).ms _ _ _ e4) k3) ((c1.trans (.of s)).keep f.r.sub)
theorem Ys(ha:CA Γ (e::es) g)(C:xQ Γ cls k x ps G:=by assumption)(v:stQ Γ i y:=by walk_at "dk")(hk:k<=Γ.k:=by walk_at "dk")(hg:glQ Γ x:=by walk_at "dk")(hs:Dx e es:=by walk_at "q")(hp:Ga es p2:=by walk_at "q"):CX Γ cls np (.Assign [.Name y p1] (.Call (.Name x p) (e::es) [] p2) pos) (Je i G g):=fun E=>by
 obtain⟨_,a1,a2⟩:=ha
 refine⟨_,fun X c r=>?_,XZ a2⟩
 have hi:X.N[i]?=some y:=by rw[c.n];exact v.1
 exact Hx c.nd hi (c.l i y v.2 hi).1 (Lh C hk hg a1 hs hp X c r) rfl (c.l i y v.2 hi).2
end
end
theorem Ec{P:Program}{w:World}{K:PySem.W.Frag}{mg:Str->Option Value}{base:Heap}{x:Str}{st:Stmt}{f:Addr}{fd:FuncData}{ps:List Str}{k np nl:Nat}{b:DBX}{cls:Nat->Addr}(N:List Str)(F:Fun K x x st f fd)(hb:CXs ⟨P,⟨K,w⟩,mg,base,k,N.length,true,N,AZ st⟩ cls np (CH st) b)(hs:scB N ps (AZ st)=true:=by walk_at "dk")(hn:N.length=np+nl/\ps.length=np:=by walk_at "dk"):FnOk P w K mg base (CXr P w) (k+1) f fd ps (spO ⟨K,w⟩ (EW np nl b) cls):=by
 obtain⟨S,l⟩:=Sm hs
 refine F.okX S (U4 hn.2) fun cdv A outer s H vs Q E hr h=>?_
 obtain⟨t,h1,h2⟩:=hb E
 refine⟨t,h1 _ ⟨rfl,rfl,rfl,rfl,rfl,S.nd,hr,rfl,PassesOwn.leaving,fun x hx=>viL (l x hx),fun i x _ e=>⟨l x (List.mem_of_getElem? e),.inl rfl⟩,fun _ h=>h,fun _ h=>h,fun _=>?_,fun _ h=>h⟩ ⟨fun C=>N3,Pe⟩,Vx h2 hn.1 h⟩
 show Env.blockKind (envOfC x (AZ st) s.heap.objs.size f cdv)=_;unfold Env.blockKind;rw[show(envOfC x (AZ st) s.heap.objs.size f cdv).scope.kind = .function from S.kind];rfl
end DL
end
section
namespace L2
open PySem PySem.Spec PyProof.Rows
def DE(K:PySem.W.Frag)(x:Str)(st:Stmt):Prop:=∃f fd,DF K x st f fd
abbrev bnQ(x:Str)(st:Stmt)(ps:List Str):Prop:=∀(kV doc pm:Value) (an:Option Addr) (cdv ct:Value) (us:List Value),us.length=ps.length->bindArgs (PySem.W.fnOf x x (ER st) (CH st) (AZ st) .none kV doc pm an cdv ct) ⟨us,[]⟩=pure (ps.zip us)
section
variable {P:Program} {w:World} {K:PySem.W.Frag} {x:Str} {st:Stmt} {h base:Heap} {mg:Str->Option Value} {k:Nat} {ps:List Str} {sp:Sp}
theorem DE.cal(d:DE K x st)(X:K.In h)(G:h.Ns mainGlobals mg)(o:∀f fd,Fun K x x st f fd->FnOk P w K mg base CX0 k f fd ps sp)(b:bnQ x st ps:=by trivial):Cal P w K mg base k x ps sp:=let ⟨_,_,d⟩:=d;d.cal X G (o _ _ d.2) b
theorem DE.xc(d:DE K x st)(X:K.In h)(G:h.Ns mainGlobals mg)(o:∀f fd,Fun K x x st f fd->FnOk P w K mg base (CXr P w) k f fd ps sp)(b:bnQ x st ps:=by trivial):∃f fd,FnOk P w K mg base (CXr P w) k f fd ps sp/\mg x=some (.ref f)/\PySem.W.keepIn K (.ref f)=true/\Binds K fd ps []:=let ⟨_,_,d⟩:=d;⟨_,_,o _ _ d.2,d.m X G,d.2.kp,d.b b⟩
theorem DE.law{fa:Addr}{y:Str}(d:DE K x st)(X:K.In h)(G:h.Ns mainGlobals mg)(hf:mg x=some (.ref fa))(o:∀base f fd,Fun K x x st f fd->FnOk P w K mg base CX0 k f fd [y] sp)(b:∀(kV doc pm:Value) (an:Option Addr) (cdv ct v:Value),bindArgs (PySem.W.fnOf x x (ER st) (CH st) (AZ st) .none kV doc pm an cdv ct) ⟨[v],[]⟩=pure [(y,v)]:=by intros;rfl) :
  ∃fd:FuncData,(∀(s:Shared) (v:Value),BindsTo s fd ⟨[v],[]⟩ [(y,v)])/\∀base:Heap,K.In base->base.Ns mainGlobals mg->FnOk P w K mg base CX0 k fa fd [y] sp:=by
 obtain⟨f,fd,d⟩:=d
 have e:=hf.symm.trans (d.m X G)
 cases e
 obtain⟨_,⟨⟨oc,od,kV,doc,pm,an,cdv,ct,osl,rfl,lk,hcd⟩,kp⟩⟩:=id d
 exact⟨_,fun s v=>.of_eq (b _ _ _ _ _ _ _),fun base _ _=>o base _ _ d.2⟩
end
end L2
namespace DL
open PySem L2 PySem.Spec PyProof.Rows
structure Zz where
 P:Program
 w:World
 K:PySem.W.Frag
 mg:Str->Option Value
 base:Heap
abbrev Zz.kw(Z:Zz):KW:=⟨Z.K,Z.w⟩
abbrev Clz(Z:Zz)(k:Nat)(x:Str)(ps:List Str)(m:List L->Option (PyData×List L))(fr:Bool):Prop:=Cal Z.P Z.w Z.K Z.mg Z.base k x ps (spD Z.kw m fr)
abbrev Xl(Z:Zz)(cls:Nat->Addr)(k:Nat)(x:Str)(ps:List Str)(m:List PyData->Option (PyData ⊕ Nat)):Prop:=∃f fd,FnOk Z.P Z.w Z.K Z.mg Z.base (CXr Z.P Z.w) k f fd ps (spO Z.kw m cls)/\Z.mg x=some (.ref f)/\PySem.W.keepIn Z.K (.ref f)=true/\Binds Z.K fd ps []
abbrev zQ(Z:Zz)(x:Str):Prop:=Z.mg x=none
abbrev kiZ(Z:Zz)(x:Str)(i:Int)(t:Tok):Prop:=Z.mg x=some (.int i t)
abbrev kaZ(Z:Zz)(x:Str)(d:PyData)(u:Value):Prop:=Z.mg x=some u/\Bb Z.kw d u=true
abbrev kdZ(Z:Zz)(x:Str)(tb:List (Str×PyData)):Prop:=∃ad,Z.mg x=some (.ref ad)/\KD Z.kw Z.w ad tb/\(ad==sysModules)=false
abbrev kfZ(Z:Zz)(k:Nat)(x:Str)(tm:List (Str×Mir)):Prop:=∃ad tb,Z.mg x=some (.ref ad)/\KF Z.kw Z.w ad tb/\(ad==sysModules)=false/\TMs (aA Z.P Z.w Z.K Z.mg Z.base k) tb tm
abbrev clZ(Z:Zz)(cls:Nat->Addr)(n:Nat)(x:Str):Prop:=Z.mg x=some (.ref (cls n))/\PySem.W.excIn Z.K (cls n) [.type "ValueError",.type "Exception",.type "BaseException",.type "object"] "ValueError.__new__"=true
def Dd(Z:Zz)(x:Str)(st:Stmt):Prop:=∃h,Z.K.In h/\h.Ns mainGlobals Z.mg/\DE Z.K x st
section
variable {Z:Zz} {x:Str} {st:Stmt} {k:Nat} {ps:List Str}
theorem Dd.cal{sp:Sp}(d:Dd Z x st)(o:∀f fd,Fun Z.K x x st f fd->FnOk Z.P Z.w Z.K Z.mg Z.base CX0 k f fd ps sp)(b:bnQ x st ps:=by trivial):Cal Z.P Z.w Z.K Z.mg Z.base k x ps sp:=let ⟨_,X,G,d⟩:=d;d.cal X G o b
theorem Dd.xc{cls:Nat->Addr}{m:List PyData->Option (PyData ⊕ Nat)}(d:Dd Z x st)(o:∀f fd,Fun Z.K x x st f fd->FnOk Z.P Z.w Z.K Z.mg Z.base (CXr Z.P Z.w) k f fd ps (spO Z.kw m cls))(b:bnQ x st ps:=by trivial):Xl Z cls k x ps m:=let ⟨_,X,G,d⟩:=d;d.xc X G o b
end
end DL
end
section
namespace L2
open PySem PySem.Spec PyProof.Rows PySem.W DL
section
variable {X:Cx} {k:Nat} {f:Addr} {fd:FuncData} {ps:List Str} {x n cn:Str} {e:Expr} {es:List Expr} {t:TA} {pos p p1 p2 py np hp p9 p0:Pos} {D' C:Addr} {i j:Nat} {b₀:Stmt} {suite:List Stmt}
def QN(sp:Sp)(w:Str)(ta:TA)(C:Addr)(i:Nat)(ts:Addr->Obj->TS):TS:=fun D σ H=>ta σ H fun vs H1=>sp vs H1 (fun v H2=>∀a,H2 a=none->D.rt (.ref a) (upd H2 a (.tup [.str w,v]))) (fun c _ H2=>c = .ref C/\∀ea oe,H2 ea=none->oe.cls = .ref C->oe.dict=none->PySem.W.notCls oe=true->NoCtx oe ->
 ts ea oe { nx:=fun _ _=>False,rt:=D.rt } (σ.set i (some (.ref ea))) (upd H2 ea (.frz oe (.own ea))))
theorem RL{sp:Sp}{ts:Addr->Obj->TS}{w:Str}{k0 k9}(F:FnOk X.prog X.w X.K X.mg X.base (CXr X.prog X.w) k f fd ps sp)(hr:Room k X.A)(hg:Gl X x)(hm:X.mg x=some (.ref f))(hk:PySem.W.keepIn X.K (.ref f)=true)
  (hb:Binds X.K fd ps []) (ha:PA X.nox (e::es) t) (hst:X.stack=X.env::X.outer/\X.env.frame=some X.env.locals) (hxe:X.ex=[]) (hgD:Gl X cn) (hmD:X.mg cn=some (.ref D')) (hC:Nu X.K C D')
  (hN:X.N.Nodup) (hi:X.N[i]?=some n) (hl:X.env.scope.names.lookup n=some .local)
  (hsu:∀ea oe,oe.cls = .ref C->oe.dict=none->PySem.W.notCls oe=true->NoCtx oe->PSs (X.withinH ea) (b₀::suite) (ts ea oe))
  (hdb:(x==("__debug__":Str))=false:=by decide) (hdc:(cn==("__debug__":Str))=false:=by decide) (he:starEach (e::es) X.env=(false,eval e X.env)::starEach es X.env:=by rfl) (hpl:(backTo pos (starEach es X.env)).any (·.1)=false:=by rfl) :
  PS X (.Try [.Return (some (.Tuple [.Constant (.str w) k0 p0,.Call (.Name x p) (e::es) [] pos] k9 p9)) p1] [.ExceptHandler (some (.Name cn np)) (some n) (b₀::suite) hp] [] [] p2) (QN sp w t C i ts):=by
 intro pins s0 σ H D I0 h
 refine wpAny_Try_except (wpAny_execs_cons (wpAny_Return_some (wpAny_Tuple_spliced ?_)))
 show wpAny _ _ (spliced ((false,eval (.Constant (.str w) k0 p0) X.env)::backTo p9 (starEach [.Call (.Name x p) (e::es) [] pos] X.env))) _ _ s0
 refine Calls.spliced_cons (Calls.Constant_str ?_)
 show wpAny _ _ (spliced ((false,eval (.Call (.Name x p) (e::es) [] pos) X.env)::[])) _ _ _
 refine Calls.spliced_cons ?_
 have I:=I0.tok (s0.toks+1)
 refine wpAny_Call_Name_kw (GH I hg hm ?_ hdb)
 refine PySem.W.callWith_K (h₀:=X.base) I.ok.mod.kin hk (wpAny_mono (ha pos pins _ σ H _ (I.wish _) h) (fun us s1 ⟨vs,H1,I1,r,q⟩=>⟨I1.kIn,?_⟩) fun _ _ z=>False.elim z) he hpl
 have J:Inv X pins σ H1 s1:=I1.unwish
 have hlen:us.length=ps.length:=by rw[<- r.length];exact F.len _ _ _ _ q
 refine wpAny_call (codeAny_mono (F.run X.A X.stack s1 H1 ⟨us,[]⟩ us vs _ _ hr J.env0 (by have:=hb s1 us J.kIn (by simpa using hlen);simpa using this) r q) fun rr s3 hq=>?_)
 cases rr with
 |ok fl =>
  cases fl with
  |ret u =>
   obtain⟨v,H2,I2,rv,q2⟩:=J.after hq
   refine Calls.spliced_nil ⟨(by decide:2<=sizeLine),?_⟩
   have hf:H2 s3.heap.objs.size=none:=I2.hok.fresh (Nat.le_refl _)
   exact⟨.ref s3.heap.objs.size,σ,upd H2 s3.heap.objs.size (.tup [.str w,v]),I2.laid (t':=s3.toks) (fun b u e=>Heap.get?_push_of_some _ e) (Nat.le_refl _) ⟨(by decide:2<=sizeLine),[_,u],.cons ⟨_,rfl⟩ (.cons rv .nil),⟨_,Heap.get?_push_size _ rfl,rfl,_,rfl⟩⟩,rfl,q2 _ hf⟩
  |next=>exact False.elim hq
  |brk=>exact False.elim hq
  |cont=>exact False.elim hq
 |error ee =>
  obtain⟨ea,C',H2,rfl,h1,h2,h3,h4,h5,h6,hc,hts⟩:=hq
  cases hc
  have g:Got1 X pins σ H1 H2 s1 ea C .none s3:=⟨h1,h2,h3,h4,h5,h6⟩
  refine g.lands J hst J.ok.frames fun s4 g4=>?_
  obtain⟨oe,hpin,hcls,hdict,hnc⟩:=g4.pin J
  have W4:=(g4.inv J).within hpin
  refine wpAny_handleBy_cons (codeAny_handlers_test ?_) (by intro q;cases q)
  refine GH (X:=X.within ea oe) W4 hgD hmD ?_ hdc
  refine Rp W4.kIn hpin.1 hcls hC.ty hC.cl hC.sub hC.exc ?_
  simp only[if_true]
  refine codeAny_handlers_suite_as (g4.again J fun s5 g5=>?_)
  obtain⟨oe5,hpin5,hcls5,hdict5,hnc5,hno5⟩:=g5.pin2 J
  have W5 : Inv (X.withinH ea) pins σ (upd H2 ea (.frz oe5 (.own ea))) s5 := (g5.inv J).frzE hpin5.1 hpin5.2.1 hpin5.2.2.1 hpin5.2.2.2.2 (fun p hp z => by
   have:=(J.pin p hp).1
   rw[z,g5.new.1]at this;cases this) (by
   cases q0:X.s₀.heap.get? ea with
   |none=>rfl
   |some o =>
    obtain⟨o',r0⟩:=J.base.there ea o q0 (by rw[hxe];intro z;cases z)
    rw[g5.new.1]at r0;cases r0)
  refine Fi (X:=X.withinH ea) (v:=.ref ea) W5 hN hi (.inl hl) rfl (fun s6 I6=>?_) (.inr hl)
  refine wpAny_mono (hsu ea oe5 hcls5 hdict5 hnc5 hno5 pins s6 (σ.set i (some (.ref ea))) _ _ I6 (hts ea oe5 hpin5.2.1 hcls5 hdict5 hnc5 hno5)) (fun fl s7 q=>?_) fun _ _ z=>False.elim z
  cases fl with
  |next=>obtain⟨_,_,_,z⟩:=q;exact z.elim
  |brk=>obtain⟨_,_,_,z⟩:=q;exact z.elim
  |cont=>obtain⟨_,_,_,z⟩:=q;exact z.elim
  |ret u =>
   obtain⟨v,σ',H',I7,rv,z⟩:=q
   have J7:=I7.withoutH J.ok
   obtain⟨m,hm7,_⟩:=id J7.loc
   refine wpAny_nameGoes hl hm7 (by rw[J.ok.kind];rfl) fun h' m' hn' hs'=>?_
   exact⟨v,_,H',J7.gone hn' hs',rv,z⟩
end
end L2
namespace DL
open PySem L2
def Oq:PyData->PyData->Option PyData
 |.bool b,.bool c=>some (.bool (!(b==c)))
 |_,_=>none
theorem YH{K:KW}:OR K false (fun x y H Q=>∃b c,x = .bl b/\y = .bl c/\Q (.bl (!(b==c))) H) Oq:=by
 intro S H x y dx dy d Q _ ix iy e q
 unfold Oq at e
 split at e
 ·cases e;exact⟨_,_,ix,iy,q _ H (fun _ _ e=>e) rfl⟩
 ·cases e
theorem WM{Γ:Ct}:CO Γ (compareOp .IsNot) false Oq:=⟨_,_,fun _ _=>VU,YH,id⟩
end DL
end
set_option maxHeartbeats 2000000
namespace My
open PySem L2 DL
local macro_rules|`(tactic| trivial)=>`(tactic| first|rfl|(intro _;rfl)|exact .inl rfl|exact .inr rfl|with_unfolding_all rfl|decide|assumption|(intro _ _ _ _ _ _ us hl;first|(match us,hl with|[_],_=>rfl)|(match us,hl with|[_,_],_=>rfl)|(match us,hl with|[_,_,_],_=>rfl)|(match us,hl with|[_,_,_,_],_=>rfl)|(match us,hl with|[],_=>rfl)))
local macro_rules|`(tactic| walk_at "dk")=>`(tactic| decide +kernel)
local macro_rules|`(⋯)=>`(by trivial)
local macro_rules|`(∅)=>`(by decide +kernel)
abbrev dbP(x:Str):Prop:=(x==("__debug__":Str))=false
abbrev clP(x:Str):Prop:=(x==("__classdict__":Str))=false
abbrev glP(s:Stmt)(x:Str):Prop:=(AZ s).names.lookup x=some NameKind.globalImplicit
abbrev dcP(x:Str):Prop:=dbP x/\clP x
abbrev lcP(s:Stmt)(x:Str):Prop:=L2.Loc (AZ s) x
def top(i:Nat):Stmt:=PySem.Challenge.pw_scenemend_k47_whole_rows_of_deeds.main.body.getD i (.Pass ⟨0,0,0,0⟩)
theorem Rr:dcP "Nested":=∅
theorem Ou:dcP "NoHolder":=∅
theorem Rq:dcP "NoPart":=∅
theorem P6:dcP "TooDeep":=∅
theorem P5:dcP "TooMany":=∅
theorem UJ:dcP "Twice":=∅
theorem FV:dcP "_law_deed_here":=∅
theorem Hu:dcP "_law_names":=∅
theorem JB:dcP "_law_rows":=∅
theorem Ng:dcP "deed_done":=∅
theorem BL:dcP "isinstance":=∅
theorem Yq:dcP "len":=∅
theorem BH:("isinstance":Str)≠"__name__":=∅
theorem Vf:("len":Str)≠"__name__":=∅
abbrev Jw:Stmt:=top 85
abbrev Jt:Stmt:=top 86
abbrev So:Stmt:=top 93
abbrev QU:Stmt:=top 80
abbrev IZ:Stmt:=top 84
abbrev Ib:Stmt:=top 89
abbrev Gp:Stmt:=top 88
abbrev Ju:Stmt:=top 87
abbrev Js:Stmt:=top 90
abbrev Jy:Stmt:=top 91
abbrev MQ:Stmt:=top 92
abbrev K6:Stmt:=top 94
abbrev Jz:Stmt:=top 78
abbrev QV:Stmt:=top 79
abbrev Ia:Stmt:=top 95
abbrev Jx:Stmt:=top 104
abbrev K7:Stmt:=top 99
abbrev IW:Stmt:=top 37
abbrev MN:Stmt:=top 38
abbrev Ky:Stmt:=top 32
abbrev Kx:Stmt:=top 15
abbrev Jn:Stmt:=top 33
abbrev Fm:Stmt:=top 16
abbrev K0:Stmt:=top 17
abbrev Ep:Stmt:=top 35
abbrev K3:Stmt:=top 36
abbrev K1:Stmt:=top 41
abbrev MP:Stmt:=top 42
abbrev MM:Stmt:=top 13
abbrev Gn:Stmt:=top 39
abbrev MK:Stmt:=top 43
abbrev Er:Stmt:=top 40
abbrev IX:Stmt:=top 44
abbrev K5:Stmt:=top 45
abbrev K4:Stmt:=top 46
abbrev K2:Stmt:=top 34
abbrev Jo:Stmt:=top 47
abbrev ML:Stmt:=top 48
abbrev Jr:Stmt:=top 49
abbrev MO:Stmt:=top 51
abbrev Ks:Stmt:=top 21
abbrev IU:Stmt:=top 22
abbrev Jl:Stmt:=top 25
abbrev Kt:Stmt:=top 26
abbrev Kv:Stmt:=top 27
abbrev QS:Stmt:=top 23
abbrev QR:Stmt:=top 24
abbrev Nz:Stmt:=top 52
abbrev N1:Stmt:=top 100
abbrev QT:Stmt:=top 102
abbrev Jm:Stmt:=top 56
abbrev IY:Stmt:=top 58
abbrev Kw:Stmt:=top 59
abbrev Jv:Stmt:=top 101
abbrev N2:Stmt:=top 103
abbrev Kr:Stmt:=top 57
abbrev Fj:Stmt:=top 29
abbrev Fl:Stmt:=top 28
abbrev GZ:Stmt:=top 30
abbrev IS:Stmt:=top 71
abbrev Jk:Stmt:=top 72
abbrev Ku:Stmt:=top 73
abbrev Gk:Stmt:=top 74
abbrev Jp:Stmt:=top 31
abbrev Kz:Stmt:=top 60
abbrev JM:Stmt:=top 61
abbrev Sn:Stmt:=top 62
abbrev Kq:Stmt:=top 75
abbrev IV:Stmt:=top 64
abbrev Gj:Stmt:=top 66
abbrev Ji:Stmt:=top 65
abbrev Hr:Stmt:=top 67
abbrev Gm:Stmt:=top 68
abbrev Jj:Stmt:=top 69
abbrev Jq:Stmt:=top 76
abbrev Aw:Stmt:=top 97
abbrev CK:Stmt:=top 105
abbrev Hs:Stmt:=top 98
abbrev Wy:Stmt:=top 106
def Fg:List (Str×PyData):=[("0",(.str "tolrks")),("1",(.str "rs")),("2",(.str "tmork")),("3",(.str "tmors")),("4",(.str "mlrs")),("5",(.str "tmols")),("6",(.str "tmolks")),("7",(.str "trs")),("8",(.str "tmolrks")),("9",(.str "tmolrs")),("a",(.str "tmlrks")),("b",(.str "molks")),("c",(.str "tolk")),("d",(.str "morks")),("e",(.str "tmolk")),("f",(.str "tmlk")),("-",(.str "m")),("_",(.str ""))]
def FP:List L->Option (PyData×List L):=Ab false 1 3 (AK (AL (dC (.str "")) (dN 1)) (AK (AL (dOp Ap (dC (.int 1)) (dOp Aa (AB 0) (dC (.int 8)))) (dN 2)) (AK (AL (dOp Aj (AB 0) (dC (.int 8))) (dN 0)) (AK (Cp (dR1 (AA (AB 2) AD)) (dN 3) (AK (AL (dOp G4 (AB 1) (dOp LV (dC (.str "abcdefghijklmnopqrstuvwxyz0123456789")) (dOp Aa (AB 0) (dC (.int 36))))) (dN 1)) (AL (dOp Aj (AB 0) (dC (.int 36))) (dN 0)))) (AN (AW (AA (AB 1) (AA (AB 0) AD))))))))
def BD:List L->Option (PyData×List L):=Ab false 1 0 (AK (AQ (AE (dOp fEq (dOp Aa (AB 0) (dC (.int 6))) (dC (.int 0)))) (AN (AW (AA (dOp BN (dOp Aa (dOp Aj (AB 0) (dC (.int 6))) (dC (.int 121))) (dC (.int 60))) (AA (dOp Aj (AB 0) (dC (.int 726))) AD)))) AO) (AN (AW (AA (dOp BN (dOp Aa (dOp Aj (AB 0) (dC (.int 6))) (dC (.int 12))) (dC (.int 3))) (AA (dOp Aj (AB 0) (dC (.int 72))) AD)))))
def Ey:List L->Option (PyData×List L):=Ab true 2 3 (AK (GK 2 2) (AK (Qy 2 3) (AK (Cp (dIL (AB 0)) (dN 4) (La 3 (AB 4) (dOp AJ (AB 4) (dC (.int 0))))) (AK (Fd (fun _=>100) (Ad (AE (dOp fNe (AB 1) (dC (.str "")))) (AE (Oy false (AB 1) 3))) (AK (Bh (dMt 2 Ay (AA (AB 1) AD))) (AL (dOp AJ (Ox 3 (AB 1)) (dC (.int 1))) (dN 1)))) (Dy 2 2)))))
def Il:List L->Option (PyData×List L):=Ab false 2 2 (AK (Br 2 3 (AA (AY Hm (AA (AB 0) AD)) (AA (AB 1) AD))) (AK (Fd (XD 3) (AE (dOp fGt (AB 3) (dC (.int 0)))) (Br 2 3 (AA (AB 3) (AA (dOp Aa (AB 2) (AB 3)) AD)))) (AN (AW (AA (dOp Aj (AB 0) (AB 2)) (AA (dOp Aj (AB 1) (AB 2)) AD))))))
def Dq:List L->Option (PyData×List L):=Ab false 1 1 (AK (AL (dOp AJ (AW (AA (dC (.int 1)) (AA (dC (.int 1)) (AA (dC (.int 2)) (AA (dC (.int 3)) AD))))) (dOp Aa (AB 0) (dC (.int 4)))) (dN 1)) (AK (AQ (AE (dOp fEq (dOp Aa (dOp Aj (AB 0) (dC (.int 4))) (dC (.int 4))) (dC (.int 0)))) (AL (dOp Ap (dC (.int 1)) (dOp Aa (dOp Aj (AB 0) (dC (.int 16))) (dC (.int 12)))) (dN 1)) AO) (AK (AQ (AE (dOp fEq (dOp Aa (dOp Aj (AB 0) (dC (.int 4))) (dC (.int 16))) (dC (.int 1)))) (AL (dOp Ap (dC (.int 1)) (dOp Aa (dOp Aj (AB 0) (dC (.int 16))) (dC (.int 1000)))) (dN 1)) AO) (AK (AL (dOp Aj (AB 0) (dC (.int 16000))) (dN 0)) (AN (AW (AA (AF Il (AA (dOp Aa (AB 0) (dOp Ap (AB 1) (dC (.int 1)))) (AA (AB 1) AD))) (AA (dOp Aj (AB 0) (dOp Ap (AB 1) (dC (.int 1)))) AD))))))))
def DD:List L->Option (PyData×List L):=Ab false 1 2 (AK (AL (AF Dq (AA (AB 0) AD)) (dGT (AS (dN 1) (AS (dN 0) Az)))) (AK (AQ (AE (dOp fEq (dOp Aa (AB 0) (dC (.int 3))) (dC (.int 0)))) (AN (AW (AA (AB 1) (AA (AW (AA (dC (.int 1)) (AA (dC (.int 1)) AD))) (AA (dOp Aj (AB 0) (dC (.int 3))) AD))))) AO) (AK (AL (AF Dq (AA (dOp Aj (AB 0) (dC (.int 3))) AD)) (dGT (AS (dN 2) (AS (dN 0) Az)))) (AN (AW (AA (AB 1) (AA (AB 2) (AA (AB 0) AD))))))))
def Dm:List L->Option (PyData×List L):=Ab false 1 6 (AK (AL (dOp Ap (dC (.int 1)) (dOp Aa (AB 0) (dC (.int 8)))) (dN 1)) (AK (AL (dOp Ap (dC (.int 1)) (dOp Aa (dOp Aj (AB 0) (dC (.int 8))) (dC (.int 8)))) (dN 2)) (AK (AL (dOp Aj (AB 0) (dC (.int 64))) (dN 0)) (AK (GK 1 3) (AK (Cp (dR1 (AA (AB 2) AD)) (dN 4) (AK (AL (dC (.str "")) (dN 5)) (AK (Cp (dR1 (AA (AB 1) AD)) (dN 6) (AK (AL (dOp G4 (AB 5) (dOp LV (dC (.str "#.")) (dOp Aa (AB 0) (dC (.int 2))))) (dN 5)) (AL (dOp Aj (AB 0) (dC (.int 2))) (dN 0)))) (Bh (dMt 3 Ay (AA (AB 5) AD)))))) (AN (Du 3 (AW (AA (AY LU (AA (AB 3) AD)) (AA (AB 0) AD))))))))))
def Cd:List L->Option (PyData×List L):=Ab false 2 0 (AK (AQ (AE (dOp fEq (dOp Aa (AB 0) (dC (.int 8))) (dC (.int 0)))) (AN (AW (AA (dOp Ap (dC (.int 1)) (dOp Aa (dOp Aj (AB 0) (dC (.int 8))) (AB 1))) (AA (dOp Aj (dOp Aj (AB 0) (dC (.int 8))) (AB 1)) AD)))) AO) (AN (AW (AA (dOp Ap (dC (.int 1)) (dOp Aa (dOp Aj (AB 0) (dC (.int 8))) (dC (.int 5)))) (AA (dOp Aj (AB 0) (dC (.int 40))) AD)))))
def FN:List L->Option (PyData×List L):=Ab false 1 3 (AK (AL (dC (.str "")) (dN 1)) (AK (AL (dOp Aa (AB 0) (dC (.int 7))) (dN 2)) (AK (AL (dOp Aj (AB 0) (dC (.int 7))) (dN 0)) (AK (Cp (dR1 (AA (AB 2) AD)) (dN 3) (AK (AL (dOp G4 (AB 1) (dOp LV (dC (.str "0123456789abcdef-_")) (dOp Aa (AB 0) (dC (.int 18))))) (dN 1)) (AL (dOp Aj (AB 0) (dC (.int 18))) (dN 0)))) (AN (AW (AA (AB 1) (AA (AB 0) AD))))))))
def An:List L->Option (PyData×List L):=Ab false 2 9 (AK (AQ (AE (dOp (fIn false) (AB 0) (AW (AA (dC (.str "group")) (AA (dC (.str "mask")) AD))))) (AN (AW (AA (AW AD) (AA (AB 1) AD)))) AO) (AK (AQ (AE (dOp fEq (AB 0) (dC (.str "turn")))) (AN (AW (AA (AW (AA (dOp Aa (AB 1) (dC (.int 4))) (AA (dOp fEq (dOp Aa (dOp Aj (AB 1) (dC (.int 4))) (dC (.int 2))) (dC (.int 1))) AD))) (AA (dOp Aj (AB 1) (dC (.int 8))) AD)))) AO) (AK (AQ (AE (dOp fEq (AB 0) (dC (.str "tiles")))) (AK (AL (AW (AA (dOp Ap (dC (.int 1)) (dOp Aa (AB 1) (dC (.int 3)))) (AA (dOp Ap (dC (.int 1)) (dOp Aa (dOp Aj (AB 1) (dC (.int 3))) (dC (.int 3)))) (AA (dOp BN (dOp Aa (dOp Aj (AB 1) (dC (.int 9))) (dC (.int 41))) (dC (.int 20))) (AA (dOp BN (dOp Aa (dOp Aj (AB 1) (dC (.int 369))) (dC (.int 41))) (dC (.int 20))) AD))))) (dN 2)) (AK (AQ (AE (dOp fGt (dOp Aa (dOp Aj (AB 1) (dC (.int 15129))) (dC (.int 4))) (dC (.int 0)))) (AL (dOp B0 (Cc (AB 2) Ba (dPt (dC (.int 2)))) (AW (AA (dOp Aa (dOp AJ (AB 2) (dC (.int 2))) (dC (.int 7))) (AA (dOp Aa (dOp AJ (AB 2) (dC (.int 3))) (dC (.int 7))) AD)))) (dN 2)) AO) (AN (AW (AA (AB 2) (AA (dOp Aj (AB 1) (dC (.int 60516))) AD)))))) AO) (AK (AQ (AE (dOp fEq (AB 0) (dC (.str "window")))) (AK (AL (AF Cd (AA (AB 1) (AA (dC (.int 16)) AD))) (dGT (AS (dN 3) (AS (dN 1) Az)))) (AK (AL (AF Cd (AA (AB 1) (AA (dC (.int 16)) AD))) (dGT (AS (dN 4) (AS (dN 1) Az)))) (AK (AL (AF BD (AA (AB 1) AD)) (dGT (AS (dN 5) (AS (dN 1) Az)))) (AK (AL (AF BD (AA (AB 1) AD)) (dGT (AS (dN 6) (AS (dN 1) Az)))) (AN (AW (AA (AW (AA (AB 3) (AA (AB 4) (AA (AB 5) (AA (AB 6) AD))))) (AA (AB 1) AD)))))))) AO) (AK (AL (AF DD (AA (AB 1) AD)) (dGT (AS (dN 7) (AS (dN 8) (AS (dN 1) Az))))) (AK (AQ (AE (dOp fEq (AB 0) (dC (.str "glass")))) (AN (AW (AA (AW (AA (AB 8) AD)) (AA (AB 1) AD)))) AO) (AK (AQ (AE (dOp fEq (AB 0) (dC (.str "plate")))) (AK (AL (AF Cd (AA (AB 1) (AA (dC (.int 12)) AD))) (dGT (AS (dN 3) (AS (dN 1) Az)))) (AK (AL (AF Cd (AA (AB 1) (AA (dC (.int 12)) AD))) (dGT (AS (dN 4) (AS (dN 1) Az)))) (AN (AW (AA (AW (AA (AB 3) (AA (AB 4) (AA (AB 7) (AA (AB 8) AD))))) (AA (AB 1) AD)))))) AO) (AK (AQ (AE (dOp fEq (AB 0) (dC (.str "band")))) (AN (AW (AA (AW (AA (dOp BN (dOp Aa (AB 1) (dC (.int 25))) (dC (.int 12))) (AA (dOp BN (dOp Aa (dOp Aj (AB 1) (dC (.int 25))) (dC (.int 25))) (dC (.int 12))) (AA (AB 7) (AA (AB 8) AD))))) (AA (dOp Aj (AB 1) (dC (.int 625))) AD)))) AO) (AK (AQ (AE (dOp fEq (AB 0) (dC (.str "word")))) (AK (AL (AF FN (AA (AB 1) AD)) (dGT (AS (dN 9) (AS (dN 1) Az)))) (AN (AW (AA (AW (AA (AB 9) (AA (AB 7) (AA (AB 8) AD)))) (AA (AB 1) AD))))) AO) (AK (AL (AF Dm (AA (AB 1) AD)) (dGT (AS (dN 10) (AS (dN 1) Az)))) (AN (AW (AA (AW (AA (AB 10) (AA (AB 7) (AA (AB 8) AD)))) (AA (AB 1) AD))))))))))))))
def CV:List L->Option (PyData×List L):=Ab false 0 1 (AK (AL (AW (AA (dC (.str "plate")) (AA (dC (.str "band")) (AA (dC (.str "word")) (AA (dC (.str "stencil")) (AA (dC (.str "plate")) (AA (dC (.str "stencil")) AD))))))) (dN 0)) (AN (dOp B0 (AB 0) (AW (AA (dC (.str "group")) (AA (dC (.str "glass")) (AA (dC (.str "window")) (AA (dC (.str "turn")) (AA (dC (.str "tiles")) (AA (dC (.str "mask")) AD))))))))))
def C0:List L->Option (PyData×List L):=Ab false 2 10 (AK (AL (AF FP (AA (AB 1) AD)) (dGT (AS (dN 2) (AS (dN 1) Az)))) (AK (E4 2 3 (Bs (AA (dC (.str "")) AD))) (AK (Cp (dIL (AB 0)) (dN 4) (AQ (Ad (AE (dOp (fIn false) (dOp AJ (AB 4) (dC (.int 5))) (Cc (AF CV AD) (dPt (dC (.int 6))) Ba))) (AE (dOp fLt (AY Au (AA (AF Ey (AA (AB 0) (AA (dOp AJ (AB 4) (dC (.int 0))) AD))) AD)) (dC (.int 7))))) (Bh (dMt 3 Ay (AA (dOp AJ (AB 4) (dC (.int 0))) AD))) AO)) (AK (AL (Du 3 (dOp Co (AB 3) (dOp Aa (AB 1) (AY Au (AA (AB 3) AD))))) (dN 5)) (AK (AQ (C7 3 (AE (dOp fEq (dOp Aa (dOp Aj (AB 1) (AY Au (AA (AB 3) AD))) (dC (.int 2))) (dC (.int 0))))) (AL (Du 3 (dOp Co (AB 3) (dUn FI (dC (.int 1))))) (dN 5)) AO) (AK (AL (Du 3 (dOp Aj (dOp Aj (AB 1) (AY Au (AA (AB 3) AD))) (dC (.int 2)))) (dN 1)) (AK (AL (AF BD (AA (AB 1) AD)) (dGT (AS (dN 6) (AS (dN 1) Az)))) (AK (AL (AF BD (AA (AB 1) AD)) (dGT (AS (dN 7) (AS (dN 1) Az)))) (AK (AL (dOp AJ (AF CV AD) (dOp Aa (AB 1) (dC (.int 12)))) (dN 8)) (AK (AL (AF Ey (AA (AB 0) (AA (AB 5) AD))) (dN 9)) (AK (AQ (Ad (AE (dOp fEq (AB 8) (dC (.str "tiles")))) (AE (dOp fNe (dLC 1 [9] (dIL (AB 0)) (dN 0) (Ad (AE (dOp (fIn false) (dOp AJ (AB 0) (dC (.int 0))) (AB 1))) (AE (dOp fEq (dOp AJ (AB 0) (dC (.int 5))) (dC (.str "tiles"))))) (AB 0)) (Bs AD)))) (AL (dC (.str "group")) (dN 8)) AO) (AK (AL (dOp fGt (dOp Aa (dOp Aj (AB 1) (dC (.int 12))) (dC (.int 8))) (dC (.int 0))) (dN 10)) (AK (AL (AF An (AA (AB 8) (AA (dOp Aj (AB 1) (dC (.int 96))) AD))) (dGT (AS (dN 11) (AS (dN 1) Az)))) (AN (AW (AA (AW (AA (AB 2) (AA (AB 5) (AA (AB 6) (AA (AB 7) (AA (AB 10) (AA (AB 8) (AA (AB 11) AD)))))))) (AA (AB 1) AD)))))))))))))))))
def C3:List L->Option (PyData×List L):=Ab false 2 0 (AK (AQ (AE (dOp fLt (AB 1) (BJ 0))) (AN (Ca 0 (AB 1))) AO) (AN (dC (.int 0))))
def EO:List L->Option (PyData×List L):=Ab false 2 6 (AK (AL (AW (AA (dC (.int 48271)) (AA (dC (.int 69621)) (AA (dC (.int 16807)) (AA (dC (.int 39373)) (AA (dC (.int 21401)) (AA (dC (.int 60493)) (AA (dC (.int 87721)) (AA (dC (.int 31337)) AD))))))))) (dN 2)) (AK (AL (AW (AA (dC (.int 99991)) (AA (dC (.int 99989)) (AA (dC (.int 99971)) (AA (dC (.int 99961)) (AA (dC (.int 99929)) (AA (dC (.int 99923)) (AA (dC (.int 99907)) (AA (dC (.int 99901)) AD))))))))) (dN 3)) (AK (AL (Af 0 C3 (AA (AB 1) AD)) (dN 4)) (AK (AQ (AE (dOp fGe (AB 4) (dOp Iy (dC (.int 10)) (dC (.int 18))))) (AN (AB 4)) AO) (AK (AL (dC (.int 0)) (dN 5)) (AK (Cp (dR1 (AA (dC (.int 60)) AD)) (dN 6) (AK (AL (dOp Ap (dOp Ap (dOp Aa (Af 0 C3 (AA (dOp Ap (AB 1) (dOp Aa (AB 6) (dC (.int 9)))) AD)) (dOp Iy (dC (.int 10)) (dC (.int 18)))) (dC (.int 1))) (dOp F5 (AB 6) (AB 6))) (dN 7)) (AL (dOp Ap (dOp F5 (AB 5) (dC (.int 7919))) (dOp Aa (dOp Aa (dOp F5 (AB 7) (dOp AJ (AB 2) (dOp Aa (AB 6) (dC (.int 8))))) (dOp AJ (AB 3) (dOp Aa (AB 6) (dC (.int 8))))) (dC (.int 7919)))) (dN 5)))) (AN (AB 5))))))))
def Dr:List L->Option (PyData×List L):=Ab true 3 4 (AK (GK 3 3) (AK (Cp (dR1 (AA (AB 2) AD)) (dN 4) (AK (AL (Du 3 (AF C0 (AA (AB 3) (AA (Af 0 EO (AA (dOp Ap (AB 1) (AB 4)) AD)) AD)))) (dGT (AS (dN 5) (AS (dN 6) Az)))) (AQ (C7 3 (AE (dOp (fIn true) (dOp AJ (AB 5) (dC (.int 0))) (dLC 1 [] (dIL (AB 3)) (dN 0) Bp (dOp AJ (AB 0) (dC (.int 0))))))) (Bh (dMt 3 Ay (AA (AB 5) AD))) AO))) (Dy 3 3)))
def FQ:List L->Option (PyData×List L):=Ab false 2 10 (AK (AL (AW (AA (dC (.str "move")) (AA (dC (.str "hide")) (AA (dC (.str "show")) (AA (dC (.str "turn")) (AA (dC (.str "size")) (AA (dC (.str "change")) (AA (dC (.str "put")) (AA (dC (.str "take")) (AA (dC (.str "raise")) (AA (dC (.str "sink")) (AA (dC (.str "move")) (AA (dC (.str "change")) AD))))))))))))) (dN 2)) (AK (AL (dOp AJ (AB 2) (dOp Aa (AB 1) (dC (.int 12)))) (dN 3)) (AK (AL (dOp Ea (dLC 1 [] (dIL (AB 0)) (dN 0) Bp (dOp AJ (AB 0) (dC (.int 0)))) (Bs (AA (dC (.str "strange")) AD))) (dN 4)) (AK (AL (dOp Aa (dOp Aj (AB 1) (dC (.int 12))) (dOp F5 (dC (.int 8)) (AY Au (AA (AB 4) AD)))) (dN 5)) (AK (AL (dOp Co (AB 4) (dOp Aa (AB 5) (AY Au (AA (AB 4) AD)))) (dN 6)) (AK (AQ (Ad (AE (dOp fLt (AB 5) (dOp F5 (dC (.int 6)) (AY Au (AA (AB 4) AD))))) (AE (dOp fGt (AY Au (AA (AB 4) AD)) (dC (.int 1))))) (AL (dOp Co (AB 4) (dOp Aa (AB 5) (dOp BN (AY Au (AA (AB 4) AD)) (dC (.int 1))))) (dN 6)) AO) (AK (AL (dOp Aj (dOp Aj (AB 1) (dC (.int 96))) (AY Au (AA (AB 4) AD))) (dN 1)) (AK (AQ (AE (dOp fEq (AB 3) (dC (.str "put")))) (AK (AL (AF C0 (AA (AB 0) (AA (AB 1) AD))) (dGT (AS (dN 7) (AS (dN 1) Az)))) (AK (AQ (AE (dOp fEq (dOp Aa (AB 1) (dC (.int 5))) (dC (.int 0)))) (AL (dOp B0 (AW (AA (AB 6) AD)) (Cc (AB 7) (dPt (dC (.int 1))) Ba)) (dN 7)) AO) (AK (AQ (AE (dOp fEq (dOp Aa (AB 1) (dC (.int 7))) (dC (.int 0)))) (AL (dOp B0 (dOp B0 (Cc (AB 7) Ba (dPt (dC (.int 1)))) (AW (AA (AB 6) AD))) (Cc (AB 7) (dPt (dC (.int 2))) Ba)) (dN 7)) AO) (AK (AQ (AE (dOp fEq (dOp Aa (AB 1) (dC (.int 11))) (dC (.int 0)))) (AL (dOp B0 (dOp B0 (Cc (AB 7) Ba (dPt (dC (.int 3)))) (AW (AA (dC (.int 61)) AD))) (Cc (AB 7) (dPt (dC (.int 4))) Ba)) (dN 7)) AO) (AN (AW (AA (AB 3) (AA (AB 7) AD)))))))) AO) (AK (AQ (AE (dOp (fIn false) (AB 3) (AW (AA (dC (.str "hide")) (AA (dC (.str "show")) (AA (dC (.str "take")) (AA (dC (.str "raise")) (AA (dC (.str "sink")) AD)))))))) (AN (AW (AA (AB 3) (AA (AB 6) AD)))) AO) (AK (AL (dLC 1 [3] (dIL (AB 0)) (dN 0) (BZ (AE (dOp fEq (dOp AJ (AB 0) (dC (.int 5))) (AB 1))) (Ad (AE (dOp fEq (AB 1) (dC (.str "size")))) (AE (dOp (fIn false) (dOp AJ (AB 0) (dC (.int 5))) (AW (AA (dC (.str "plate")) (AA (dC (.str "window")) AD))))))) (AB 0)) (dN 8)) (AK (AQ (Ad (AE (dOp fNe (AB 8) (Bs AD))) (AE (dOp fGt (dOp Aa (AB 1) (dC (.int 4))) (dC (.int 0))))) (AL (dOp AJ (dOp Co (AB 8) (dOp Aa (dOp Aj (AB 1) (dC (.int 4))) (AY Au (AA (AB 8) AD)))) (dC (.int 0))) (dN 6)) AO) (AK (AL (dOp Aj (AB 1) (dC (.int 64))) (dN 1)) (AK (AQ (AE (dOp fEq (AB 3) (dC (.str "turn")))) (AN (AW (AA (AB 3) (AA (AB 6) (AA (dOp AJ (AW (AA (dOp BN (dOp Aa (AB 1) (dC (.int 9))) (dC (.int 4))) (AA (dOp BN (dOp Aa (AB 1) (dOp Iy (dC (.int 10)) (dC (.int 30)))) (dOp Iy (dC (.int 10)) (dC (.int 29)))) AD))) (dOp Aj (dOp Aa (dOp Aj (AB 1) (dC (.int 9))) (dC (.int 5))) (dC (.int 4)))) AD))))) AO) (AK (AQ (AE (dOp fEq (AB 3) (dC (.str "size")))) (AN (AW (AA (AB 3) (AA (AB 6) (AA (dOp Aa (AB 1) (dC (.int 18))) (AA (dOp Aa (dOp Aj (AB 1) (dC (.int 18))) (dC (.int 14))) AD)))))) AO) (AK (AQ (AE (dOp fEq (AB 3) (dC (.str "move")))) (AK (AL (AF BD (AA (AB 1) AD)) (dGT (AS (dN 9) (AS (dN 1) Az)))) (AK (AL (AF BD (AA (AB 1) AD)) (dGT (AS (dN 10) (AS (dN 1) Az)))) (AN (AW (AA (AB 3) (AA (AB 6) (AA (dOp Ap (AB 9) (dOp Aj (dOp Aa (AB 1) (dC (.int 40))) (dC (.int 39)))) (AA (dOp BN (AB 10) (dOp F5 (dOp Aj (dOp Aa (dOp Aj (AB 1) (dC (.int 40))) (dC (.int 40))) (dC (.int 39))) (dC (.int 2)))) AD)))))))) AO) (AK (AL (dC (.str "plate")) (dN 11)) (AK (Cp (dIL (AB 0)) (dN 7) (AQ (Ad (AE (dOp fEq (dOp AJ (AB 7) (dC (.int 0))) (AB 6))) (AE (dOp fGt (dOp Aa (AB 1) (dC (.int 8))) (dC (.int 0))))) (AL (dOp AJ (AB 7) (dC (.int 5))) (dN 11)) AO)) (AN (AW (AA (AB 3) (AA (AB 6) (AA (dOp AJ (AF An (AA (AB 11) (AA (dOp Aj (AB 1) (dC (.int 8))) AD))) (dC (.int 0))) AD))))))))))))))))))))))
def BA:List L->Option (PyData×List L):=Ab false 2 1 (AK (Cp (dIL (AB 0)) (dN 2) (AQ (AE (dOp fEq (dOp AJ (AB 2) (dC (.int 0))) (AB 1))) (AN (AB 2)) AO)) (AN (dC .none)))
def Bv:List L->Option (PyData×List L):=Ab false 4 0 (AK (AQ (BZ (As (AE (DH "str" (AB 0)))) (As (AE (Bf fLe fLe (AB 2) (AY Au (AA (AB 0) AD)) (AB 3))))) (AN (dC (.bool false))) AO) (AN (AY JA (AA (dLC 1 [1] (dIS (AB 0)) (dN 0) Bp (dOp Ot (AB 0) (AB 1))) AD))))
def CQ:List L->Option (PyData×List L):=Ab false 1 0 (AN (AF Bv (AA (AB 0) (AA (dC (.str "abcdefghijklmnopqrstuvwxyz0123456789")) (AA (dC (.int 1)) (AA (dC (.int 8)) AD))))))
def H0:List L->Option (PyData×List L):=Ab false 1 0 (AN (DH "bool" (AB 0)))
def DV:List L->Option (PyData×List L):=Ab false 1 0 (AN (Cb (DH "int" (AB 0)) (Hn (DH "bool" (AB 0)))))
def Ac:List L->Option (PyData×List L):=Ab false 3 0 (AN (Cb (AF DV (AA (AB 0) AD)) (Bf fLe fLe (AB 1) (AB 0) (AB 2))))
def CU:List L->Option (PyData×List L):=Ab false 2 3 (AK (AL (AY Hm (AA (AB 0) AD)) (dN 2)) (AK (AL (AY Hm (AA (AB 1) AD)) (dN 3)) (AK (Fd (XD 3) (AE (dOp fNe (AB 3) (dC (.int 0)))) (AK (AL (dOp Aa (AB 2) (AB 3)) (dN 4)) (AK (AL (AB 3) (dN 2)) (AL (AB 4) (dN 3))))) (AN (AB 2)))))
def GG:List L->Option (PyData×List L):=Ab false 1 2 (AK (AQ (BZ (As (AE (DH "tuple" (AB 0)))) (AE (dOp fNe (AY Au (AA (AB 0) AD)) (dC (.int 2))))) (AN (dC (.bool false))) AO) (AK (AL (dOp AJ (AB 0) (dC (.int 0))) (dN 1)) (AK (AL (dOp AJ (AB 0) (dC (.int 1))) (dN 2)) (AK (AQ (BZ (As (AE (AF DV (AA (AB 1) AD)))) (As (AE (AF DV (AA (AB 2) AD))))) (AN (dC (.bool false))) AO) (AN (Cb (dOp fGe (AB 2) (dC (.int 1))) (Cb (Bf fLe fLe (dC (.int 0)) (AB 1) (AB 2)) (dOp fEq (AF CU (AA (AB 1) (AA (AB 2) AD))) (dC (.int 1))))))))))
def BQ:List L->Option (PyData×List L):=Ab false 1 0 (AN (Cb (AF GG (AA (AB 0) AD)) (dOp fLe (dOp AJ (AB 0) (dC (.int 1))) (dC (.int 1000)))))
def B9:List L->Option (PyData×List L):=Ab false 2 0 (AN (Cb (AF BQ (AA (AB 0) AD)) (AF BQ (AA (AB 1) AD))))
def DW:List L->Option (PyData×List L):=Ab false 1 0 (AK (AQ (BZ (AE (dOp fNe (AY Au (AA (AB 0) AD)) (dC (.int 4)))) (As (AE (AF B9 (AA (dOp AJ (AB 0) (dC (.int 2))) (AA (dOp AJ (AB 0) (dC (.int 3))) AD)))))) (AN (dC (.bool false))) AO) (AN (Cb (AF Ac (AA (dOp AJ (AB 0) (dC (.int 0))) (AA (dC (.int 1)) (AA (dC (.int 12)) AD)))) (AF Ac (AA (dOp AJ (AB 0) (dC (.int 1))) (AA (dC (.int 1)) (AA (dC (.int 12)) AD)))))))
def Fu:List L->Option (PyData×List L):=Ab false 1 0 (AK (AQ (BZ (AE (dOp fNe (AY Au (AA (AB 0) AD)) (dC (.int 4)))) (As (AE (AF B9 (AA (dOp AJ (AB 0) (dC (.int 2))) (AA (dOp AJ (AB 0) (dC (.int 3))) AD)))))) (AN (dC (.bool false))) AO) (AN (Cb (AF Ac (AA (dOp AJ (AB 0) (dC (.int 0))) (AA (dUn FI (dC (.int 12))) (AA (dC (.int 12)) AD)))) (AF Ac (AA (dOp AJ (AB 0) (dC (.int 1))) (AA (dUn FI (dC (.int 12))) (AA (dC (.int 12)) AD)))))))
def Ek:List L->Option (PyData×List L):=Ab false 1 0 (AN (UL Fg (AB 0)))
def Dj:List L->Option (PyData×List L):=Ab false 1 0 (AK (AQ (BZ (As (AE (DH "str" (AB 0)))) (AE (dOp fGt (AY Au (AA (AB 0) AD)) (dC (.int 6))))) (AN (dC (.bool false))) AO) (AN (AY JA (AA (dLC 1 [] (dIS (AB 0)) (dN 0) Bp (AF Ek (AA (AB 0) AD))) AD))))
def Fs:List L->Option (PyData×List L):=Ab false 1 0 (AN (Cb (dOp fEq (AY Au (AA (AB 0) AD)) (dC (.int 3))) (Cb (AF Dj (AA (dOp AJ (AB 0) (dC (.int 0))) AD)) (AF B9 (AA (dOp AJ (AB 0) (dC (.int 1))) (AA (dOp AJ (AB 0) (dC (.int 2))) AD))))))
def Cg:List L->Option (PyData×List L):=Ab false 1 0 (AK (AQ (BZ (As (AE (DH "tuple" (AB 0)))) (As (AE (Bf fLe fLe (dC (.int 1)) (AY Au (AA (AB 0) AD)) (dC (.int 8)))))) (AN (dC (.bool false))) AO) (AK (AQ (As (AE (AY JA (AA (dLC 1 [] (dIT (AB 0)) (dN 0) Bp (AF Bv (AA (AB 0) (AA (dC (.str "#.")) (AA (dC (.int 1)) (AA (dC (.int 8)) AD)))))) AD)))) (AN (dC (.bool false))) AO) (AN (AY JA (AA (dLC 1 [0] (dIT (AB 0)) (dN 0) Bp (dOp fEq (AY Au (AA (AB 0) AD)) (AY Au (AA (dOp AJ (AB 1) (dC (.int 0))) AD)))) AD)))))
def Dk:List L->Option (PyData×List L):=Ab false 1 0 (AN (Cb (dOp fEq (AY Au (AA (AB 0) AD)) (dC (.int 3))) (Cb (AF Cg (AA (dOp AJ (AB 0) (dC (.int 0))) AD)) (AF B9 (AA (dOp AJ (AB 0) (dC (.int 1))) (AA (dOp AJ (AB 0) (dC (.int 2))) AD))))))
def Ew:List L->Option (PyData×List L):=Ab false 1 0 (AN (dOp fEq (AY Au (AA (AB 0) AD)) (dC (.int 0))))
def Eu:List L->Option (PyData×List L):=Ab false 1 0 (AN (Cb (dOp fEq (AY Au (AA (AB 0) AD)) (dC (.int 1))) (AF BQ (AA (dOp AJ (AB 0) (dC (.int 0))) AD))))
def Av:List L->Option (PyData×List L):=Ab false 1 0 (AN (AF Ac (AA (AB 0) (AA (dUn FI (dC (.int 60))) (AA (dC (.int 60)) AD)))))
def Bu:List L->Option (PyData×List L):=Ab false 1 0 (AK (AQ (BZ (AE (dOp fNe (AY Au (AA (AB 0) AD)) (dC (.int 4)))) (BZ (As (AE (AF Av (AA (dOp AJ (AB 0) (dC (.int 2))) AD)))) (As (AE (AF Av (AA (dOp AJ (AB 0) (dC (.int 3))) AD)))))) (AN (dC (.bool false))) AO) (AN (Cb (AF Ac (AA (dOp AJ (AB 0) (dC (.int 0))) (AA (dC (.int 1)) (AA (dC (.int 16)) AD)))) (AF Ac (AA (dOp AJ (AB 0) (dC (.int 1))) (AA (dC (.int 1)) (AA (dC (.int 16)) AD)))))))
def Ft:List L->Option (PyData×List L):=Ab false 1 0 (AN (Cb (dOp fEq (AY Au (AA (AB 0) AD)) (dC (.int 2))) (Cb (AF Ac (AA (dOp AJ (AB 0) (dC (.int 0))) (AA (dC (.int 0)) (AA (dC (.int 3)) AD)))) (AF H0 (AA (dOp AJ (AB 0) (dC (.int 1))) AD)))))
def Cz:List L->Option (PyData×List L):=Ab false 1 0 (AK (AQ (BZ (AE (dOp fNe (AY Au (AA (AB 0) AD)) (dC (.int 4)))) (BZ (As (AE (AF Ac (AA (dOp AJ (AB 0) (dC (.int 0))) (AA (dC (.int 1)) (AA (dC (.int 3)) AD)))))) (As (AE (AF Ac (AA (dOp AJ (AB 0) (dC (.int 1))) (AA (dC (.int 1)) (AA (dC (.int 3)) AD)))))))) (AN (dC (.bool false))) AO) (AN (Cb (AF Ac (AA (dOp AJ (AB 0) (dC (.int 2))) (AA (dUn FI (dC (.int 20))) (AA (dC (.int 20)) AD)))) (AF Ac (AA (dOp AJ (AB 0) (dC (.int 3))) (AA (dUn FI (dC (.int 20))) (AA (dC (.int 20)) AD)))))))
def Bm:List (Str×Mir):=[("plate",DW),("band",Fu),("word",Fs),("stencil",Dk),("group",Ew),("glass",Eu),("window",Bu),("turn",Ft),("tiles",Cz),("mask",Ew)]
def El:List L->Option (PyData×List L):=Ab false 2 0 (AN (Cb (DH "str" (AB 0)) (Cb (P8 Bm (AB 0)) (Cb (DH "tuple" (AB 1)) (ID Bm (AB 0) (AA (AB 1) AD))))))
def Ag:List L->Option (PyData×List L):=Ab false 1 0 (AN (dOp AJ (AB 0) (dC (.int 0))))
def AM:List L->Option (PyData×List L):=Ab false 1 0 (AN (dOp AJ (AB 0) (dC (.int 1))))
def J4:List L->Option (PyData×List L):=Ab false 1 0 (AN (dOp AJ (AB 0) (dC (.int 4))))
def BM:List L->Option (PyData×List L):=Ab false 1 0 (AN (dOp AJ (AB 0) (dC (.int 5))))
def GD:List L->Option (PyData×List L):=Ab false 1 0 (AN (dOp AJ (AB 0) (dC (.int 6))))
def Ka:List L->Option (PyData×List L):=Ab false 1 0 (AN (dOp AJ (AB 0) (dC (.int 2))))
def KZ:List L->Option (PyData×List L):=Ab false 1 0 (AN (dOp AJ (AB 0) (dC (.int 3))))
def BI:List L->Option (PyData×List L):=Ab false 1 0 (AK (AQ (BZ (As (AE (DH "tuple" (AB 0)))) (AE (dOp fNe (AY Au (AA (AB 0) AD)) (dC (.int 7))))) (AN (dC (.bool false))) AO) (AK (AQ (As (AE (AF CQ (AA (AF Ag (AA (AB 0) AD)) AD)))) (AN (dC (.bool false))) AO) (AK (AQ (Ad (AE (dOp fNe (AF AM (AA (AB 0) AD)) (dC (.str "")))) (As (AE (AF CQ (AA (AF AM (AA (AB 0) AD)) AD))))) (AN (dC (.bool false))) AO) (AK (AQ (BZ (As (AE (AF Av (AA (AF Ka (AA (AB 0) AD)) AD)))) (As (AE (AF Av (AA (AF KZ (AA (AB 0) AD)) AD))))) (AN (dC (.bool false))) AO) (AN (Cb (AF H0 (AA (AF J4 (AA (AB 0) AD)) AD)) (AF El (AA (AF BM (AA (AB 0) AD)) (AA (AF GD (AA (AB 0) AD)) AD)))))))))
def Dl:List L->Option (PyData×List L):=Ab false 2 0 (AK (AQ (As (AE (AF BI (AA (AB 1) AD)))) (AN (AW (AA (dC (.str "NoPart")) (AA (dC .none) AD)))) AO) (AN (AW (AA (dC (.str "")) (AA (dLC 1 [1] (dIL (AB 0)) (dN 0) Bp (dOp Co (Bs (AA (AB 0) (AA (AB 1) AD))) (AY Dt (AA (dOp fEq (dOp AJ (AB 0) (dC (.int 0))) (dOp AJ (AB 1) (dC (.int 0)))) AD)))) AD)))))
def HX:List L->Option (PyData×List L):=Ab false 2 3 (AK (AQ (As (AE (AF BI (AA (AB 1) AD)))) (AN (AW (AA (dC (.str "NoPart")) (AA (dC .none) AD)))) AO) (AK (AQ (AE (dOp Bz (AF BA (AA (AB 0) (AA (dOp AJ (AB 1) (dC (.int 0))) AD))) (dC .none))) (AN (AW (AA (dC (.str "Twice")) (AA (dC .none) AD)))) AO) (AK (AL (AF BA (AA (AB 0) (AA (dOp AJ (AB 1) (dC (.int 1))) AD))) (dN 2)) (AK (AQ (BZ (Ad (AE (dOp ED (AB 2) (dC .none))) (AE (dOp fNe (dOp AJ (AB 1) (dC (.int 1))) (dC (.str ""))))) (Ad (AE (dOp Bz (AB 2) (dC .none))) (AE (dOp (fIn true) (dOp AJ (AB 2) (dC (.int 5))) (Cc (AF CV AD) (dPt (dC (.int 6))) Ba))))) (AN (AW (AA (dC (.str "NoHolder")) (AA (dC .none) AD)))) AO) (AK (AL (dOp Ea (AB 0) (Bs (AA (AB 1) AD))) (dN 3)) (AK (AL (AF Ey (AA (AB 0) (AA (dOp AJ (AB 1) (dC (.int 1))) AD))) (dN 4)) (AK (AQ (AE (dOp fGt (AY Au (AA (AB 4) AD)) (dC (.int 6)))) (AN (AW (AA (dC (.str "TooDeep")) (AA (dC .none) AD)))) AO) (AK (AQ (Ad (AE (dOp fEq (dOp AJ (AB 1) (dC (.int 5))) (dC (.str "tiles")))) (AE (dOp fNe (dLC 1 [4] (dIL (AB 0)) (dN 0) (Ad (AE (dOp (fIn false) (dOp AJ (AB 0) (dC (.int 0))) (AB 1))) (AE (dOp fEq (dOp AJ (AB 0) (dC (.int 5))) (dC (.str "tiles"))))) (AB 0)) (Bs AD)))) (AN (AW (AA (dC (.str "Nested")) (AA (dC .none) AD)))) AO) (AK (AQ (AE (dOp fGt (AY Au (AA (AB 3) AD)) (dC (.int 24)))) (AN (AW (AA (dC (.str "TooMany")) (AA (dC .none) AD)))) AO) (AN (AW (AA (dC (.str "")) (AA (AB 3) AD)))))))))))))
def Am:List L->Option (PyData×List L):=Ab false 2 1 (AK (Cp (dIL (AB 0)) (dN 2) (AQ (AE (dOp fEq (AF Ag (AA (AB 2) AD)) (AB 1))) (AN (AB 2)) AO)) (AN (dC .none)))
def BW:List L->Option (PyData×List L):=Ab true 2 2 (AK (GK 2 2) (AK (AL (AF Am (AA (AB 0) (AA (AB 1) AD))) (dN 3)) (AK (Fd (fun _=>100) (Ad (AE (dOp Bz (AB 3) (dC .none))) (AE (dOp fNe (AF AM (AA (AB 3) AD)) (dC (.str ""))))) (AK (Bh (dMt 2 Ay (AA (AF AM (AA (AB 3) AD)) AD))) (AL (AF Am (AA (AB 0) (AA (AF AM (AA (AB 3) AD)) AD))) (dN 3)))) (Dy 2 2))))
def EA:List L->Option (PyData×List L):=Ab true 2 0 (AN (dLC 1 [1,0] (dIL (AB 0)) (dN 0) (AE (dOp (fIn false) (AB 1) (AF BW (AA (AB 2) (AA (AF Ag (AA (AB 0) AD)) AD))))) (AF Ag (AA (AB 0) AD))))
def FO:List L->Option (PyData×List L):=Ab false 2 5 (AK (AL (dOp Ea (Bs (AA (dOp AJ (AB 1) (dC (.int 1))) AD)) (AF EA (AA (AB 0) (AA (dOp AJ (AB 1) (dC (.int 1))) AD)))) (dN 2)) (AK (AL (dLC 1 [2] (dIL (AB 0)) (dN 0) (AE (dOp (fIn false) (dOp AJ (AB 0) (dC (.int 0))) (AB 1))) (AB 0)) (dN 3)) (AK (AL (dLC 1 [2] (dIL (AB 0)) (dN 0) (AE (dOp (fIn true) (dOp AJ (AB 0) (dC (.int 0))) (AB 1))) (AB 0)) (dN 4)) (AK (AQ (AE (dOp fEq (dOp AJ (AB 1) (dC (.int 0))) (dC (.str "take")))) (AN (AB 4)) AO) (AK (AQ (AE (dOp fEq (dOp AJ (AB 1) (dC (.int 0))) (dC (.str "raise")))) (AN (dOp Ea (AB 4) (AB 3))) AO) (AK (AL (dOp AJ (AF BA (AA (AB 0) (AA (dOp AJ (AB 1) (dC (.int 1))) AD))) (dC (.int 1))) (dN 5)) (AK (AL (dC (.int 0)) (dN 6)) (AK (Fd (fun _=>100) (Ad (AE (dOp fNe (AB 5) (dC (.str "")))) (AE (dOp fNe (dOp AJ (dOp Co (AB 4) (AB 6)) (dC (.int 0))) (AB 5)))) (AL (dOp Ap (AB 6) (dC (.int 1))) (dN 6))) (AK (AL (dOp Ap (AB 6) (AY Dt (AA (dOp fNe (AB 5) (dC (.str ""))) AD))) (dN 6)) (AN (dOp Ea (dOp Ea (dSl (AB 4) Ba (dPt (AB 6))) (AB 3)) (dSl (AB 4) (dPt (AB 6)) Ba))))))))))))
def Gx:List L->Option (PyData×List L):=Ab false 2 1 (AK (AQ (AE (dOp fEq (dOp AJ (AB 1) (dC (.int 0))) (dC (.str "put")))) (AN (AF HX (AA (AB 0) (AA (dOp AJ (AB 1) (dC (.int 1))) AD)))) AO) (AK (AL (AF BA (AA (AB 0) (AA (dOp AJ (AB 1) (dC (.int 1))) AD))) (dN 2)) (AK (AQ (AE (dOp ED (AB 2) (dC .none))) (AN (AW (AA (dC (.str "NoName")) (AA (dC .none) AD)))) AO) (AK (AQ (AE (dOp (fIn false) (dOp AJ (AB 1) (dC (.int 0))) (AW (AA (dC (.str "take")) (AA (dC (.str "raise")) (AA (dC (.str "sink")) AD)))))) (AN (AW (AA (dC (.str "")) (AA (AF FO (AA (AB 0) (AA (AB 1) AD))) AD)))) AO) (AK (AQ (BZ (Ad (AE (dOp fEq (dOp AJ (AB 1) (dC (.int 0))) (dC (.str "turn")))) (AE (dOp fNe (dOp AJ (AB 2) (dC (.int 5))) (dC (.str "turn"))))) (Ad (AE (dOp fEq (dOp AJ (AB 1) (dC (.int 0))) (dC (.str "size")))) (AE (dOp (fIn true) (dOp AJ (AB 2) (dC (.int 5))) (AW (AA (dC (.str "plate")) (AA (dC (.str "window")) AD))))))) (AN (AW (AA (dC (.str "WrongKind")) (AA (dC .none) AD)))) AO) (AK (AQ (AE (dOp fEq (dOp AJ (AB 1) (dC (.int 0))) (dC (.str "move")))) (AN (AF Dl (AA (AB 0) (AA (dOp B0 (dOp B0 (Cc (AB 2) Ba (dPt (dC (.int 2)))) (Cc (AB 1) (dPt (dC (.int 2))) Ba)) (Cc (AB 2) (dPt (dC (.int 4))) Ba)) AD)))) AO) (AK (AQ (AE (dOp fEq (dOp AJ (AB 1) (dC (.int 0))) (dC (.str "turn")))) (AN (AF Dl (AA (AB 0) (AA (dOp B0 (Cc (AB 2) Ba (dPt (dC (.int 6)))) (AW (AA (AW (AA (dOp Aa (dOp Ap (dOp AJ (dOp AJ (AB 2) (dC (.int 6))) (dC (.int 0))) (dOp AJ (AB 1) (dC (.int 2)))) (dC (.int 4))) (AA (dOp AJ (dOp AJ (AB 2) (dC (.int 6))) (dC (.int 1))) AD))) AD))) AD)))) AO) (AK (AQ (AE (dOp fEq (dOp AJ (AB 1) (dC (.int 0))) (dC (.str "size")))) (AN (AF Dl (AA (AB 0) (AA (dOp B0 (Cc (AB 2) Ba (dPt (dC (.int 6)))) (AW (AA (dOp B0 (Cc (AB 1) (dPt (dC (.int 2))) Ba) (Cc (dOp AJ (AB 2) (dC (.int 6))) (dPt (dC (.int 2))) Ba)) AD))) AD)))) AO) (AK (AQ (AE (dOp fEq (dOp AJ (AB 1) (dC (.int 0))) (dC (.str "change")))) (AN (AF Dl (AA (AB 0) (AA (dOp B0 (Cc (AB 2) Ba (dPt (dC (.int 6)))) (AW (AA (dOp AJ (AB 1) (dC (.int 2))) AD))) AD)))) AO) (AN (AF Dl (AA (AB 0) (AA (dOp B0 (dOp B0 (Cc (AB 2) Ba (dPt (dC (.int 4)))) (AW (AA (dOp fEq (dOp AJ (AB 1) (dC (.int 0))) (dC (.str "show"))) AD))) (Cc (AB 2) (dPt (dC (.int 5))) Ba)) AD)))))))))))))
def Em:List PyData->Option (PyData ⊕ Nat):=EW 2 1 (BE (xOf (AL (AF Am (AA (AB 0) (AA (AB 1) AD))) (dN 2))) (BE (xIf (AE (dOp ED (AB 2) (dC .none))) (Cf 6) (xOf AO)) (xOf (AN (AB 2)))))
def DK:List L->Option (PyData×List L):=Ab false 2 1 (AK (AL (AF Am (AA (AB 0) (AA (AB 1) AD))) (dN 2)) (AK (AQ (AE (dOp ED (AB 2) (dC .none))) CZ AO) (AN (AB 2))))
def D1:List L->Option (PyData×List L):=Ab false 2 0 (AN (dOp B0 (dOp B0 (Cc (AB 0) Ba (dPt (dC (.int 4)))) (AW (AA (AB 1) AD))) (Cc (AB 0) (dPt (dC (.int 5))) Ba)))
def Fq:List L->Option (PyData×List L):=Ab false 3 0 (AN (dOp B0 (dOp B0 (Cc (AB 0) Ba (dPt (dC (.int 2)))) (AW (AA (AB 1) (AA (AB 2) AD)))) (Cc (AB 0) (dPt (dC (.int 4))) Ba)))
def DQ:List L->Option (PyData×List L):=Ab false 2 0 (AN (dOp B0 (Cc (AB 0) Ba (dPt (dC (.int 6)))) (AW (AA (AB 1) AD))))
def Ed:List PyData->Option (PyData ⊕ Nat):=EW 2 1 (BE (xIf (AE (dOp fNe (AF BM (AA (AB 0) AD)) (dC (.str "turn")))) (Cf 7) (xOf AO)) (BE (xOf (AL (AF GD (AA (AB 0) AD)) (dN 2))) (xOf (AN (AF DQ (AA (AB 0) (AA (AW (AA (dOp Aa (dOp Ap (dOp AJ (AB 2) (dC (.int 0))) (AB 1)) (dC (.int 4))) (AA (dOp AJ (AB 2) (dC (.int 1))) AD))) AD)))))))
def FL:List PyData->Option (PyData ⊕ Nat):=EW 3 0 (BE (xIf (AE (dOp (fIn true) (AF BM (AA (AB 0) AD)) (AW (AA (dC (.str "plate")) (AA (dC (.str "window")) AD))))) (Cf 7) (xOf AO)) (xOf (AN (AF DQ (AA (AB 0) (AA (dOp B0 (AW (AA (AB 1) (AA (AB 2) AD))) (Cc (AF GD (AA (AB 0) AD)) (dPt (dC (.int 2))) Ba)) AD))))))
def GC:List PyData->Option (PyData ⊕ Nat):=EW 2 1 (BE (xOf (AL (dOp AJ (AB 1) (dC (.int 0))) (dN 2))) (BE (xOf (AQ (AE (dOp fEq (AB 2) (dC (.str "move")))) (AN (AF Fq (AA (AB 0) (AA (dOp AJ (AB 1) (dC (.int 2))) (AA (dOp AJ (AB 1) (dC (.int 3))) AD))))) AO)) (BE (xIf (AE (dOp fEq (AB 2) (dC (.str "turn")))) (Ho Ed (AA (AB 0) (AA (dOp AJ (AB 1) (dC (.int 2))) AD))) (xOf AO)) (BE (xIf (AE (dOp fEq (AB 2) (dC (.str "size")))) (Ho FL (AA (AB 0) (AA (dOp AJ (AB 1) (dC (.int 2))) (AA (dOp AJ (AB 1) (dC (.int 3))) AD)))) (xOf AO)) (BE (xOf (AQ (AE (dOp fEq (AB 2) (dC (.str "change")))) (AN (AF DQ (AA (AB 0) (AA (dOp AJ (AB 1) (dC (.int 2))) AD)))) AO)) (xOf (AN (AF D1 (AA (AB 0) (AA (dOp fEq (AB 2) (dC (.str "show"))) AD))))))))))
def Dh:List PyData->Option (PyData ⊕ Nat):=EW 2 1 (BE (Je 2 GC (AA (AF DK (AA (AB 0) (AA (dOp AJ (AB 1) (dC (.int 1))) AD))) (AA (AB 1) AD))) (BE (xIf (As (AE (AF BI (AA (AB 2) AD)))) (Cf 0) (xOf AO)) (xOf (AN (dLC 1 [2,1] (dIL (AB 0)) (dN 0) Bp (dIf (AE (dOp fEq (AF Ag (AA (AB 0) AD)) (dOp AJ (AB 2) (dC (.int 1))))) (AB 1) (AB 0)))))))
def BY:List L->Option (PyData×List L):=Ab false 1 0 (AN (dOp (fIn false) (AF BM (AA (AB 0) AD)) (dC (.tuple [(.str "group"),(.str "glass"),(.str "window"),(.str "turn"),(.str "tiles"),(.str "mask")]))))
def Be:List L->Option (PyData×List L):=Ab false 2 0 (AN (dOp fEq (AF BM (AA (AF DK (AA (AB 0) (AA (AB 1) AD))) AD)) (dC (.str "tiles"))))
def EB:List PyData->Option (PyData ⊕ Nat):=EW 2 2 (BE (xIf (As (AE (AF BI (AA (AB 1) AD)))) (Cf 0) (xOf AO)) (BE (xIf (AE (dOp Bz (AF Am (AA (AB 0) (AA (AF Ag (AA (AB 1) AD)) AD))) (dC .none))) (Cf 1) (xOf AO)) (BE (xOf (AQ (AE (dOp fEq (AF AM (AA (AB 1) AD)) (dC (.str "")))) EV AO)) (BE (xOf (AL (AF Am (AA (AB 0) (AA (AF AM (AA (AB 1) AD)) AD))) (dN 2))) (BE (xIf (BZ (AE (dOp ED (AB 2) (dC .none))) (As (AE (AF BY (AA (AB 2) AD))))) (Cf 2) (xOf AO)) (BE (xOf (AL (dOp Ea (Bs (AA (AF AM (AA (AB 1) AD)) AD)) (AF BW (AA (AB 0) (AA (AF AM (AA (AB 1) AD)) AD)))) (dN 3))) (BE (xIf (AE (dOp fGt (AY Au (AA (AB 3) AD)) (dC (.int 6)))) (Cf 3) (xOf AO)) (xIf (Ad (AE (dOp fEq (AF BM (AA (AB 1) AD)) (dC (.str "tiles")))) (AE (AY Iz (AA (dLC 1 [0] (dIL (AB 3)) (dN 0) Bp (AF Be (AA (AB 1) (AA (AB 0) AD)))) AD)))) (Cf 4) (xOf AO)))))))))
def Fp:List L->Option (PyData×List L):=Ab false 2 2 (AK (AQ (As (AE (AF BI (AA (AB 1) AD)))) CZ AO) (AK (AQ (AE (dOp Bz (AF Am (AA (AB 0) (AA (AF Ag (AA (AB 1) AD)) AD))) (dC .none))) CZ AO) (AK (AQ (AE (dOp fEq (AF AM (AA (AB 1) AD)) (dC (.str "")))) EV AO) (AK (AL (AF Am (AA (AB 0) (AA (AF AM (AA (AB 1) AD)) AD))) (dN 2)) (AK (AQ (BZ (AE (dOp ED (AB 2) (dC .none))) (As (AE (AF BY (AA (AB 2) AD))))) CZ AO) (AK (AL (dOp Ea (Bs (AA (AF AM (AA (AB 1) AD)) AD)) (AF BW (AA (AB 0) (AA (AF AM (AA (AB 1) AD)) AD)))) (dN 3)) (AK (AQ (AE (dOp fGt (AY Au (AA (AB 3) AD)) (dC (.int 6)))) CZ AO) (AQ (Ad (AE (dOp fEq (AF BM (AA (AB 1) AD)) (dC (.str "tiles")))) (AE (AY Iz (AA (dLC 1 [0] (dIL (AB 3)) (dN 0) Bp (AF Be (AA (AB 1) (AA (AB 0) AD)))) AD)))) CZ AO))))))))
def LN:List PyData->Option (PyData ⊕ Nat):=EW 1 2 (BE (O9 (dIE (AB 0)) (dGT (AS (dN 1) (AS (dN 2) Az))) (E5 EB (AA (dSl (AB 0) Ba (dPt (AB 1))) (AA (AB 2) AD)))) (BE (xIf (AE (dOp fGt (AY Au (AA (AB 0) AD)) (dC (.int 24)))) (Cf 5) (xOf AO)) (xOf (AN (dC (.bool true))))))
def OV:List L->Option (PyData×List L):=Ab false 1 2 (AK (Cp (dIE (AB 0)) (dGT (AS (dN 1) (AS (dN 2) Az))) (Bh (AF Fp (AA (dSl (AB 0) Ba (dPt (AB 1))) (AA (AB 2) AD))))) (AK (AQ (AE (dOp fGt (AY Au (AA (AB 0) AD)) (dC (.int 24)))) CZ AO) (AN (dC (.bool true)))))
def Et:List PyData->Option (PyData ⊕ Nat):=EW 2 1 (BE (xOf (AL (dOp Ea (AB 0) (Bs (AA (AB 1) AD))) (dN 2))) (BE (E5 LN (AA (AB 2) AD)) (xOf (AN (AB 2)))))
def Di:List L->Option (PyData×List L):=Ab true 2 0 (AN (dOp Ea (Bs (AA (AB 1) AD)) (AF EA (AA (AB 0) (AA (AB 1) AD)))))
def Bn:List L->Option (PyData×List L):=Ab true 2 1 (AK (AL (AF Di (AA (AB 0) (AA (AB 1) AD))) (dN 2)) (AN (dLC 1 [2] (dIL (AB 0)) (dN 0) (AE (dOp (fIn true) (AF Ag (AA (AB 0) AD)) (AB 1))) (AB 0))))
def ET:List L->Option (PyData×List L):=Ab true 2 1 (AK (AL (AF Di (AA (AB 0) (AA (AB 1) AD))) (dN 2)) (AN (dLC 1 [2] (dIL (AB 0)) (dN 0) (AE (dOp (fIn false) (AF Ag (AA (AB 0) AD)) (AB 1))) (AB 0))))
def EN:List L->Option (PyData×List L):=Ab true 2 0 (AN (dOp Ea (AF Bn (AA (AB 0) (AA (AB 1) AD))) (AF ET (AA (AB 0) (AA (AB 1) AD)))))
def Cy:List L->Option (PyData×List L):=Ab false 2 0 (AN (dIf (AE (dOp fEq (AB 1) (dC (.str "")))) (dC (.int 0)) (dOp Ap (dOp Mc (AB 0) (AF DK (AA (AB 0) (AA (AB 1) AD)))) (dC (.int 1)))))
def FK:List L->Option (PyData×List L):=Ab true 2 2 (AK (AL (AF Bn (AA (AB 0) (AA (AB 1) AD))) (dN 2)) (AK (AL (AF Cy (AA (AB 2) (AA (AF AM (AA (AF DK (AA (AB 0) (AA (AB 1) AD))) AD)) AD))) (dN 3)) (AN (dOp Ea (dOp Ea (dSl (AB 2) Ba (dPt (AB 3))) (AF ET (AA (AB 0) (AA (AB 1) AD)))) (dSl (AB 2) (dPt (AB 3)) Ba)))))
def Bw:List PyData->Option (PyData ⊕ Nat):=EW 2 1 (BE (xOf (AL (dOp AJ (AB 1) (dC (.int 0))) (dN 2))) (BE (xIf (AE (dOp fEq (AB 2) (dC (.str "put")))) (Ho Et (AA (AB 0) (AA (dOp AJ (AB 1) (dC (.int 1))) AD))) (xOf AO)) (BE (E5 Em (AA (AB 0) (AA (dOp AJ (AB 1) (dC (.int 1))) AD))) (BE (xOf (AQ (AE (dOp fEq (AB 2) (dC (.str "take")))) (AN (AF Bn (AA (AB 0) (AA (dOp AJ (AB 1) (dC (.int 1))) AD)))) AO)) (BE (xOf (AQ (AE (dOp fEq (AB 2) (dC (.str "raise")))) (AN (AF EN (AA (AB 0) (AA (dOp AJ (AB 1) (dC (.int 1))) AD)))) AO)) (BE (xOf (AQ (AE (dOp fEq (AB 2) (dC (.str "sink")))) (AN (AF FK (AA (AB 0) (AA (dOp AJ (AB 1) (dC (.int 1))) AD)))) AO)) (Ho Dh (AA (AB 0) (AA (AB 1) AD)))))))))
def whS(n:Nat):Str:=["NoPart","Twice","NoHolder","TooDeep","Nested","TooMany","NoName","WrongKind"].getD n ""
def EU:List L->Option (PyData×List L)
 |[.d x,.d y]=>match Bw [x,y] with
  |some (.inl r)=>some (.tuple [.str "",r],[.d x,.d y])
  |some (.inr n)=>if n<8 then some (.tuple [.str (whS n),.none],[.d x,.d y]) else none
  |_=>none
 |_=>none
def DM:List L->Option (PyData×List L):=Ab false 2 2 (AK (AQ (BZ (As (AE (DH "list" (AB 0)))) (AE (dOp fNe (AB 0) (AB 1)))) (AN (dC (.bool false))) AO) (AK (Cp (dR1 (AA (AY Au (AA (AB 1) AD)) AD)) (dN 2) (Cp (dR1 (AA (dC (.int 7)) AD)) (dN 3) (AQ (AE (dOp fNe (DH "bool" (dOp AJ (dOp Co (AB 0) (AB 2)) (AB 3))) (DH "bool" (dOp AJ (dOp Co (AB 1) (AB 2)) (AB 3))))) (AN (dC (.bool false))) AO))) (AN (dC (.bool true)))))
def LM:List L->Option (PyData×List L):=Ab false 1 7 (AK (AL (Af 0 Dr (AA (dC (.int 1)) (AA (dOp Aa (Af 0 EO (AA (dC (.int 0)) AD)) (dC (.int 11))) AD))) (dN 1)) (AK (AL (AY Bq (AA (AB 1) AD)) (dN 2)) (AK (Cp (dR1 (AA (AY FT (AA (dC (.int 6)) (AA (AY FR (AA (dC (.int 40)) (AA (dOp BN (BJ 0) (dC (.int 11))) AD))) AD))) AD)) (dN 3) (AK (AL (AF FQ (AA (AB 1) (AA (dOp Ap (Af 0 EO (AA (dOp Ap (dC (.int 11)) (AB 3)) AD)) (AB 3)) AD))) (dN 4)) (AK (AL (AF Gx (AA (AB 1) (AA (AB 4) AD))) (dGT (AS (dN 5) (AS (dN 6) Az)))) (AK (AL (AF EU (AA (AB 2) (AA (AB 4) AD))) (dN 7)) (AK (AQ (AE (dOp fNe (dOp AJ (AB 7) (dC (.int 0))) (AB 5))) (AN (dC (.bool false))) AO) (AK (AQ (AE (dOp fEq (AB 5) (dC (.str "")))) (AK (AL (AB 6) (dN 1)) (AL (dOp AJ (AB 7) (dC (.int 1))) (dN 2))) AO) (AQ (BZ (As (AE (AF DM (AA (AB 2) (AA (AB 1) AD))))) (AE (dOp Oq (AF OV (AA (AY Bq (AA (AB 2) AD)) AD)) (dC (.bool true))))) (AN (dC (.bool false))) AO))))))) (AN (dC (.bool true))))))
theorem eS{k:Nat}{A:Around}(hr:Room k A):A.units+64<cLine:=hr.units
section
variable {P:Program} {w:World} {K:PySem.W.Frag} {mg:Str->Option Value} {base:Heap} {f:Addr} {fd:FuncData}
end
local macro_rules|`(tactic| walk_at "q")=>`(tactic| with_unfolding_all first|rfl|exact fun _=>rfl|exact fun _ _=>rfl)
local macro_rules|`(tactic| walk_at "dk")=>`(tactic| exact of_decide_eq_true (by kernel_rfl))
local macro_rules|`(tactic| walk_at "as")=>`(tactic| exact fun _=>⟨by with_unfolding_all rfl,by with_unfolding_all rfl,by with_unfolding_all rfl⟩)
local macro_rules|`(tactic| walk_at "fd")=>`(tactic| exact⟨by kernel_rfl,by kernel_rfl,by kernel_rfl⟩)
local macro_rules|`(tactic| walk_at "fr")=>`(tactic| first|exact fun h=>Bool.noConfusion h|exact fun _=>rfl)
local macro_rules|`(tactic| walk_at "ln")=>`(tactic| repeat first|exact Qi|refine OZ ?_)
local macro_rules|`(tactic| walk_at "rr")=>`(tactic| exact⟨by with_unfolding_all rfl,by with_unfolding_all rfl⟩)
local macro_rules|`(tactic| walk_at "kf")=>`(tactic| assumption)
local macro_rules|`(tactic| walk_at "ce")=>`(tactic| first|(with_reducible exact ZK)|(with_reducible exact ZW)|(with_reducible refine cY ?_ ?_ ?_;walk_at "co";walk_at "ce";walk_at "ce")|(with_reducible refine cu ?_ ?_ ?_;walk_at "cx";walk_at "ce";walk_at "ce")|(with_reducible exact ZM)|(with_reducible refine WW ?_;walk_at "ca")|(with_reducible refine ZZ ?_ ?_ ?_;walk_at "co";walk_at "ce";walk_at "ce")|(with_reducible refine ZL ?_;walk_at "ca")|(with_reducible refine Zb ?_ ?_;walk_at "cb";walk_at "ca")|(with_reducible exact dA)|(with_reducible exact ZQ)|(with_reducible refine Za ?_;walk_at "ce")|(with_reducible refine ZS ?_;walk_at "ca")|(with_reducible refine cZ ?_ ?_;walk_at "cm";walk_at "ca")|(with_reducible refine UX ?_;walk_at "ca")|(with_reducible refine ZV ?_;walk_at "ce")|(with_reducible refine cX ?_ ?_ ?_;walk_at "ce";walk_at "cp";walk_at "cp")|(with_reducible refine ZN ?_ ?_ ?_;walk_at "ce";walk_at "cp";walk_at "cp")|(with_reducible refine cc ?_;walk_at "cl")|(with_reducible refine ZO ?_;walk_at "ce")|(with_reducible refine Zc ?_ ?_;walk_at "ce";walk_at "ce")|(with_reducible refine ZP ?_;walk_at "ce")|(with_reducible refine ZR ?_;walk_at "ce")|(with_reducible refine cv ?_ ?_ ?_;walk_at "ct";walk_at "ce";walk_at "ce")|(with_reducible refine UU ?_ ?_ ?_ ?_ ?_;walk_at "co";walk_at "co";walk_at "ce";walk_at "ce";walk_at "ce")|(with_reducible exact cy)|(with_reducible exact cz)|(with_reducible refine ZU ?_;walk_at "ce")|(with_reducible refine ZT ?_;walk_at "ce")|(with_reducible refine ZX ?_;walk_at "ce")|(with_reducible refine ZY ?_;walk_at "ce")|(with_reducible refine UW ?_ ?_;walk_at "ce";walk_at "ca")|(with_reducible exact UY)|(with_reducible exact WU)|(with_reducible refine WV ?_ ?_;walk_at "ce";walk_at "ce"))
local macro_rules|`(tactic| walk_at "co")=>`(tactic| first|(with_reducible exact ZF)|(with_reducible exact Y5)|(with_reducible exact Y9)|(with_reducible exact ZD)|(with_reducible exact Y8)|(with_reducible exact cU)|(with_reducible exact cK)|(with_reducible exact cL)|(with_reducible exact cM)|(with_reducible exact cP)|(with_reducible exact cR)|(with_reducible exact cO)|(with_reducible exact Y7)|(with_reducible exact ZE)|(with_reducible exact WO)|(with_reducible exact WN)|(with_reducible exact ZA)|(with_reducible exact WL)|(with_reducible exact Y6)|(with_reducible exact ZC)|(with_reducible exact WM))
local macro_rules|`(tactic| walk_at "cx")=>`(tactic| first|(with_reducible exact ey)|(with_reducible exact fB)|(with_reducible exact fA))
local macro_rules|`(tactic| walk_at "cb")=>`(tactic| first|(with_reducible exact Zf)|(with_reducible exact WZ)|(with_reducible exact Zg)|(with_reducible exact Zj)|(with_reducible exact WY)|(with_reducible exact WX)|(with_reducible exact Ze)|(with_reducible exact Zi)|(with_reducible exact Zh))
local macro_rules|`(tactic| walk_at "cm")=>`(tactic| first|(with_reducible exact ZG))
local macro_rules|`(tactic| walk_at "ca")=>`(tactic| first|(with_reducible exact Zk)|(with_reducible refine Wa ?_ ?_;walk_at "ce";walk_at "ca"))
local macro_rules|`(tactic| walk_at "cp")=>`(tactic| first|(with_reducible exact WK)|(with_reducible refine WJ ?_;walk_at "ce"))
local macro_rules|`(tactic| walk_at "ct")=>`(tactic| first|(with_reducible refine Yw ?_ ?_ ?_;walk_at "co";walk_at "ce";walk_at "ce")|(with_reducible refine Yu ?_;walk_at "ct")|(with_reducible refine fD ?_;walk_at "cw")|(with_reducible refine Yx ?_;walk_at "ct")|(with_reducible refine UN ?_ ?_ ?_ ?_ ?_;walk_at "co";walk_at "co";walk_at "ce";walk_at "ce";walk_at "ce")|(with_reducible refine Yv ?_;walk_at "ce")|(with_reducible refine Yt ?_;walk_at "ce"))
local macro_rules|`(tactic| walk_at "cw")=>`(tactic| first|(with_reducible refine cw_and ?_ ?_;walk_at "ct";walk_at "cw")|(with_reducible refine cw_or ?_ ?_;walk_at "ct";walk_at "cw")|(with_reducible refine cw_and1 ?_;walk_at "ct")|(with_reducible refine cw_or1 ?_;walk_at "ct"))
local macro_rules|`(tactic| walk_at "cg")=>`(tactic| first|(with_reducible exact WS)|(with_reducible refine ZJ ?_;walk_at "cgs"))
local macro_rules|`(tactic| walk_at "cgs")=>`(tactic| first|(with_reducible exact WR)|(with_reducible refine UT ?_ ?_;walk_at "cg";walk_at "cgs"))
local macro_rules|`(tactic| walk_at "ci")=>`(tactic| first|(with_reducible refine WQ ?_;walk_at "ce")|(with_reducible refine ZH ?_;walk_at "ce")|(with_reducible refine cV ?_;walk_at "ca")|(with_reducible refine ZI ?_;walk_at "ce"))
local macro_rules|`(tactic| walk_at "cj")=>`(tactic| first|(with_reducible refine cW ?_;walk_at "ce"))
local macro_rules|`(tactic| walk_at "cts")=>`(tactic| first|(with_reducible exact V8)|(with_reducible refine V7 ?_;walk_at "ct"))
local macro_rules|`(tactic| walk_at "cl")=>`(tactic| first|(with_reducible refine fE ?_ ?_ ?_ ?_;walk_at "ci";walk_at "cg";walk_at "cts";walk_at "ce"))
local macro_rules|`(tactic| walk_at "cxs")=>`(tactic| first|(with_reducible refine O0 ?_ ?_;walk_at "cxx";walk_at "cxs")|(with_reducible refine Q0 ?_;walk_at "cxx")|(with_reducible exact V4))
local macro_rules|`(tactic| walk_at "cxx")=>`(tactic| first|(with_reducible refine cH ?_ ?_ ?_;walk_at "ct";walk_at "cxs";walk_at "cxs")|(with_reducible exact UM)|(with_reducible refine V6 ?_;walk_at "ca")|(with_reducible refine Yr ?_;walk_at "ca")|(with_reducible refine Ys ?_;walk_at "ca")|(with_reducible refine cG ?_;walk_at "cs")|(with_reducible refine V5 ?_ ?_ ?_;walk_at "cj";walk_at "cg";walk_at "cxs"))
local macro_rules|`(tactic| walk_at "css")=>`(tactic| first|(with_reducible refine O3 ?_ ?_;walk_at "cs";walk_at "css")|(with_reducible exact V9)|(with_reducible refine Q1 ?_;walk_at "cs"))
local macro_rules|`(tactic| walk_at "cs")=>`(tactic| first|(with_reducible refine Yy ?_;walk_at "ce")|(with_reducible refine Yz ?_;walk_at "ce")|(with_reducible refine cJ ?_ ?_ ?_;walk_at "ct";walk_at "css";walk_at "css")|(with_reducible refine Y2 ?_ ?_ ?_;walk_at "ci";walk_at "cg";walk_at "css")|(with_reducible refine WH ?_;walk_at "ce")|(with_reducible refine Y4 ?_ ?_;walk_at "ce";walk_at "cg")|(with_reducible refine cI ?_;walk_at "cl")|(with_reducible refine WA ?_;walk_at "ce")|(with_reducible exact Y1)|(with_reducible refine UP ?_ ?_;walk_at "ct";walk_at "css")|(with_reducible refine WG ?_ ?_ ?_;walk_at "cj";walk_at "cg";walk_at "css")|(with_reducible exact WC)|(with_reducible exact WB)|(with_reducible refine Y0 ?_;walk_at "ca")|(with_reducible refine Y3 ?_;walk_at "ce")|(with_reducible refine WD ?_ ?_;walk_at "ce";walk_at "ce")|(with_reducible exact WE)|(with_reducible exact UQ))
local macro_rules|`(tactic| walk_at "top")=>`(tactic| first|((with_reducible show CSs _ _ _ _ (AK _ _));refine O3 ?_ ?_;walk_at "cs";walk_at "css")|(refine Q1 ?_;walk_at "cs"))
local macro_rules|`(tactic| walk_at "topX")=>`(tactic| first|((with_reducible show CXs _ _ _ _ (BE _ _));refine O0 ?_ ?_;walk_at "cxx";walk_at "cxs")|(refine Q0 ?_;walk_at "cxx"))
local macro_rules|`(tactic|walk_at $s:str)=>match s.getString.splitOn "|" with
 |[k,e]=>do
  let l:=if k=="a" then "Ab,AK,AL,dN,GK,E4,AN,Dy,EV,Bh,dMt,Ay,Ds,E3,G9,AO,AQ,Lc,Lb,CZ,Cp,Br,AB,dC,dOp,dUn,fI,Ap,BN,fLt,fLe,fGt,fGe,FI,Io,ED,Bz,Co,AJ,AE,Ad,BZ,As,dIf,Cb,dOr,Hn,Bf,AD,AA,BC,AW,Bs,AY,AF,E7,Af,E6,dAS,mkL,nMb,isM,isC,Du,HE,C7,Bp,dIL,dIT,dR1,dR2,Az,AS,dGT,Ak,BU,BV,BS,Au,f1,f2,Hm,FT,FR,Dt,Bq,LZ,DH,Ca,BJ,atI,ixN,Cw,Gv,Gw,Gu,DN,fixDs,sz',Option.bind_some,Option.bind_none,Option.map_some,Option.map_none,List.map_cons,List.map_nil,List.cons_append,List.nil_append,List.length_cons,List.length_nil,List.getElem?_cons_zero,List.getElem?_cons_succ,List.set_cons_zero,List.set_cons_succ,List.replicate_succ,List.replicate_zero,List.all_cons,List.all_nil,Bool.and_self,Bool.and_true,Bool.true_and,Bool.false_and,Bool.and_false,Bool.or_true,Bool.true_or,Bool.false_or,Bool.or_false,Bool.not_true,Bool.not_false,if_true,if_false,reduceIte,Bool.false_eq_true,Nat.reduceAdd,Nat.reduceLT,Nat.reduceSub,Nat.reduceMul,Int.reduceEq,Int.reduceSub,Int.reduceMul,Int.reducePow,Int.reduceDiv,Int.reduceMod,Nat.reduceLeDiff,Nat.reduceEqDiff,and_self,and_true,true_and,Int.natCast_add,Int.reduceAdd,Int.reduceLT,Int.reduceLE,Int.reduceToNat,Int.reduceNeg,Int.toNat_zero,Int.toNat_one,Int.zero_lt_one,Int.le_refl,Int.reduceNegSucc,Int.cast_ofNat_Int,Nat.zero_add,Nat.add_zero" else "Ab,AK,AL,dN,AN,AO,AQ,Br,AB,dC,dOp,fI,Ap,BN,fLt,fLe,fGt,fGe,AJ,AE,AD,AA,BC,AW,AY,AF,Af,Ak,BU,BV,BS,Ca,BJ,atI,ixN,sz',Option.bind_some,Option.map_some,List.map_cons,List.map_nil,List.cons_append,List.nil_append,List.length_cons,List.length_nil,List.getElem?_cons_zero,List.getElem?_cons_succ,List.set_cons_zero,List.set_cons_succ,List.replicate_succ,List.replicate_zero,if_true,if_false,reduceIte,Bool.false_eq_true,Nat.reduceAdd,Nat.reduceLT,Int.reduceAdd,Int.reduceLT,Int.reduceLE,Int.reduceToNat,Nat.reduceLeDiff,and_self,Int.toNat_zero,Int.le_refl,Int.natCast_add,Int.cast_ofNat_Int,Nat.zero_add"
  let xs:=((if e.isEmpty then l else e++","++l).splitOn ",").map fun n=>Lean.mkIdent n.toName
  `(tactic|simp only[$[$(xs.toArray):ident],*])
 |_=>Lean.Macro.throwUnsupported
section
variable {Z:Zz}
abbrev HP(Z:Zz):Prop:=Clz Z 1 "_law_name_of" ["_law_big_here"] FP false
abbrev EX(Z:Zz):Prop:=Clz Z 1 "_law_step_of" ["_law_big_here"] BD false
abbrev Nq(Z:Zz):Prop:=Clz Z 1 "_law_up" ["_law_rows","_law_name"] Ey true
abbrev Nt(Z:Zz):Prop:=Clz Z 1 "_law_low" ["_law_top","_law_bottom"] Il false
abbrev GV(Z:Zz):Prop:=Clz Z 2 "_law_share_of" ["_law_big_here"] Dq false
abbrev GY(Z:Zz):Prop:=Clz Z 3 "_law_paint_of" ["_law_big_here"] DD false
abbrev FE(Z:Zz):Prop:=Clz Z 1 "_law_stencil_of" ["_law_big_here"] Dm false
abbrev HM(Z:Zz):Prop:=Clz Z 1 "_law_size_of" ["_law_big_here","_law_most"] Cd false
abbrev HL(Z:Zz):Prop:=Clz Z 1 "_law_word_of" ["_law_big_here"] FN false
abbrev FZ(Z:Zz):Prop:=Clz Z 4 "_law_data_of" ["_law_kind","_law_big_here"] An false
abbrev He(Z:Zz):Prop:=Clz Z 1 "_law_kinds" [] CV false
abbrev GX(Z:Zz):Prop:=Clz Z 5 "_law_row_of" ["_law_rows","_law_big_here"] C0 false
abbrev HS(Z:Zz):Prop:=Clz Z 1 "_law_cell_at" ["_law_script","_law_k"] C3 false
abbrev Kh(Z:Zz):Prop:=Clz Z 2 "_law_big" ["_law_script","_law_at"] EO false
abbrev GW(Z:Zz):Prop:=Clz Z 6 "_law_scene_of" ["_law_script","_law_first","_law_many"] Dr true
abbrev HR(Z:Zz):Prop:=Clz Z 6 "_law_deed_of" ["_law_rows","_law_big_here"] FQ false
abbrev FF(Z:Zz):Prop:=Clz Z 1 "_law_row_at" ["_law_rows","_law_name"] BA false
abbrev Eh(Z:Zz):Prop:=Clz Z 1 "is_text_of" ["thing","signs","low","high"] Bv false
abbrev Ja(Z:Zz):Prop:=Clz Z 2 "is_name" ["thing"] CQ false
abbrev GP(Z:Zz):Prop:=Clz Z 1 "is_truth" ["thing"] H0 false
abbrev GO(Z:Zz):Prop:=Clz Z 1 "is_whole" ["thing"] DV false
abbrev Ce(Z:Zz):Prop:=Clz Z 2 "is_within" ["thing","low","high"] Ac false
abbrev EL(Z:Zz):Prop:=Clz Z 1 "common_divisor" ["one","other"] CU false
abbrev II(Z:Zz):Prop:=Clz Z 2 "is_share" ["thing"] GG false
abbrev Cm(Z:Zz):Prop:=Clz Z 3 "is_bounded_share" ["thing"] BQ false
abbrev EK(Z:Zz):Prop:=Clz Z 4 "is_paint" ["shade","share"] B9 false
abbrev IJ(Z:Zz):Prop:=Clz Z 5 "is_plate" ["data"] DW false
abbrev Jc(Z:Zz):Prop:=Clz Z 5 "is_band" ["data"] Fu false
abbrev JZ(Z:Zz):Prop:=Clz Z 1 "is_sign" ["sign"] Ek false
abbrev FC(Z:Zz):Prop:=Clz Z 2 "is_word_text" ["thing"] Dj false
abbrev JX(Z:Zz):Prop:=Clz Z 5 "is_word" ["data"] Fs false
abbrev Dc(Z:Zz):Prop:=Clz Z 2 "are_stencil_rows" ["thing"] Cg false
abbrev GS(Z:Zz):Prop:=Clz Z 5 "is_stencil" ["data"] Dk false
abbrev IL(Z:Zz):Prop:=Clz Z 1 "is_empty" ["data"] Ew false
abbrev IK(Z:Zz):Prop:=Clz Z 4 "is_glass" ["data"] Eu false
abbrev GU(Z:Zz):Prop:=Clz Z 3 "is_place" ["thing"] Av false
abbrev HJ(Z:Zz):Prop:=Clz Z 4 "is_window" ["data"] Bu false
abbrev JY(Z:Zz):Prop:=Clz Z 3 "is_turn" ["data"] Ft false
abbrev HK(Z:Zz):Prop:=Clz Z 3 "are_tiles" ["data"] Cz false
abbrev Jb(Z:Zz):Prop:=Clz Z 6 "is_data" ["kind","data"] El false
abbrev CC(Z:Zz):Prop:=Clz Z 1 "row_name" ["row"] Ag false
abbrev Ck(Z:Zz):Prop:=Clz Z 1 "row_holder" ["row"] AM false
abbrev HI(Z:Zz):Prop:=Clz Z 1 "row_shown" ["row"] J4 false
abbrev Cj(Z:Zz):Prop:=Clz Z 1 "row_kind" ["row"] BM false
abbrev E9(Z:Zz):Prop:=Clz Z 1 "row_data" ["row"] GD false
abbrev Np(Z:Zz):Prop:=Clz Z 1 "row_x" ["row"] Ka false
abbrev Nn(Z:Zz):Prop:=Clz Z 1 "row_y" ["row"] KZ false
abbrev FD(Z:Zz):Prop:=Clz Z 7 "is_row" ["thing"] BI false
abbrev Lj(Z:Zz):Prop:=Clz Z 8 "_law_with" ["_law_rows","_law_row"] Dl false
abbrev Nr(Z:Zz):Prop:=Clz Z 8 "_law_put" ["_law_rows","_law_row"] HX false
abbrev C9(Z:Zz):Prop:=Clz Z 2 "row_found" ["rows","name"] Am false
abbrev Dv(Z:Zz):Prop:=Clz Z 3 "holders_of" ["rows","name"] BW true
abbrev GN(Z:Zz):Prop:=Clz Z 4 "parts_in" ["rows","name"] EA true
abbrev HN(Z:Zz):Prop:=Clz Z 5 "_law_ordered" ["_law_rows","_law_deed_here"] FO false
abbrev Lk(Z:Zz):Prop:=Clz Z 9 "_law_deed" ["_law_rows","_law_deed_here"] Gx false
abbrev Li(Z:Zz)(cls:Nat->Addr):Prop:=Xl Z cls 3 "row_of" ["rows","name"] Em
abbrev F6(Z:Zz):Prop:=Clz Z 3 "row_of" ["rows","name"] DK false
abbrev EI(Z:Zz):Prop:=Clz Z 1 "row_with_shown" ["row","shown"] D1 false
abbrev EJ(Z:Zz):Prop:=Clz Z 1 "row_with_place" ["row","x","y"] Fq false
abbrev Cq(Z:Zz):Prop:=Clz Z 1 "row_with_data" ["row","data"] DQ false
abbrev GL(Z:Zz)(cls:Nat->Addr):Prop:=Xl Z cls 2 "row_turned" ["row","quarters"] Ed
abbrev HG(Z:Zz)(cls:Nat->Addr):Prop:=Xl Z cls 2 "row_sized" ["row","w","h"] FL
abbrev IH(Z:Zz)(cls:Nat->Addr):Prop:=Xl Z cls 3 "row_done" ["row","deed"] GC
abbrev E8(Z:Zz)(cls:Nat->Addr):Prop:=Xl Z cls 8 "rows_changed" ["rows","deed"] Dh
abbrev FY(Z:Zz):Prop:=Clz Z 2 "is_holder" ["row"] BY false
abbrev GQ(Z:Zz):Prop:=Clz Z 4 "is_tiles" ["rows","name"] Be false
abbrev JW(Z:Zz)(cls:Nat->Addr):Prop:=Xl Z cls 8 "vet_row" ["ahead","row"] EB
abbrev Hd(Z:Zz):Prop:=Clz Z 8 "vet_row" ["ahead","row"] Fp false
abbrev Ul(Z:Zz)(cls:Nat->Addr):Prop:=Xl Z cls 9 "vet" ["rows"] LN
abbrev Uo(Z:Zz):Prop:=Clz Z 9 "vet" ["rows"] OV false
abbrev IG(Z:Zz)(cls:Nat->Addr):Prop:=Xl Z cls 10 "rows_put" ["rows","row"] Et
abbrev Eg(Z:Zz):Prop:=Clz Z 5 "names_with" ["rows","name"] Di true
abbrev C8(Z:Zz):Prop:=Clz Z 6 "rows_without" ["rows","name"] Bn true
abbrev FX(Z:Zz):Prop:=Clz Z 6 "rows_with" ["rows","name"] ET true
abbrev Fe(Z:Zz):Prop:=Clz Z 7 "rows_raised" ["rows","name"] EN true
abbrev FA(Z:Zz):Prop:=Clz Z 4 "place_behind" ["rows","holder"] Cy false
abbrev HH(Z:Zz):Prop:=Clz Z 7 "rows_sunk" ["rows","name"] FK true
abbrev J8(Z:Zz)(cls:Nat->Addr):Prop:=Xl Z cls 11 "deed_done" ["rows","deed"] Bw
abbrev O6(Z:Zz):Prop:=Clz Z 12 "_law_told" ["_law_rows","_law_deed_here"] EU false
abbrev Ff(Z:Zz):Prop:=Clz Z 1 "_law_same_rows" ["_law_found","_law_due"] DM false
theorem ND(d:Dd Z "_law_name_of" Jw)(z_range:zQ Z "range"):HP Z:=d.cal fun _ _ F=>AX ["_law_big_here","_law_name","_law_size","_law_k"] F (by walk_at "top")
theorem NA(d:Dd Z "_law_step_of" Jt) :EX Z:=d.cal fun _ _ F=>AX ["_law_big_here"] F (by walk_at "top")
theorem Va(d:Dd Z "_law_up" So) :Nq Z:=d.cal fun _ _ F=>AX ["_law_rows","_law_name","_law_up_here","_law_by_name","_law_row"] F (by walk_at "top")
theorem Th(d:Dd Z "_law_low" QU)(z_abs:zQ Z "abs"):Nt Z:=d.cal fun _ _ F=>AX ["_law_top","_law_bottom","_law_one","_law_other"] F (by walk_at "top")
theorem KO(d:Dd Z "_law_stencil_of" Gp)(z_range:zQ Z "range")(z_tuple:zQ Z "tuple"):FE Z:=d.cal fun _ _ F=>AX ["_law_big_here","_law_wide","_law_high","_law_rows","_law_j","_law_row","_law_i"] F (by walk_at "top")
theorem NB(d:Dd Z "_law_size_of" Ju) :HM Z:=d.cal fun _ _ F=>AX ["_law_big_here","_law_most"] F (by walk_at "top")
theorem M9(d:Dd Z "_law_word_of" Js)(z_range:zQ Z "range"):HL Z:=d.cal fun _ _ F=>AX ["_law_big_here","_law_text","_law_size","_law_k"] F (by walk_at "top")
theorem Po(d:Dd Z "_law_kinds" MQ) :He Z:=d.cal fun _ _ F=>AX ["_law_leaves"] F (by walk_at "top")
theorem NH(d:Dd Z "_law_cell_at" Jz)(z_len:zQ Z "len"):HS Z:=d.cal fun _ _ F=>AX ["_law_script","_law_k"] F (by walk_at "top")
theorem OM(d:Dd Z "_law_row_at" K7) :FF Z:=d.cal fun _ _ F=>AX ["_law_rows","_law_name","_law_row"] F (by walk_at "top")
theorem Lw(d:Dd Z "is_text_of" IW)(z_len:zQ Z "len")(z_str:zQ Z "str")(z_isinstance:zQ Z "isinstance")(z_all:zQ Z "all"):Eh Z:=d.cal fun _ _ F=>AX ["thing","signs","low","high"] F (by walk_at "top")
theorem OD(d:Dd Z "is_truth" Ky)(z_bool:zQ Z "bool")(z_isinstance:zQ Z "isinstance"):GP Z:=d.cal fun _ _ F=>AX ["thing"] F (by walk_at "top")
theorem OC(d:Dd Z "is_whole" Kx)(z_bool:zQ Z "bool")(z_isinstance:zQ Z "isinstance")(z_int:zQ Z "int"):GO Z:=d.cal fun _ _ F=>AX ["thing"] F (by walk_at "top")
theorem Ij(d:Dd Z "common_divisor" Fm)(z_abs:zQ Z "abs"):EL Z:=d.cal fun _ _ F=>AX ["one","other","big","small","rest"] F (by walk_at "top")
theorem Pk(d:Dd Z "is_sign" MM)(kc_SIGNS:kdZ Z "SIGNS" Fg):JZ Z:=d.cal fun _ _ F=>AX ["sign"] F (by walk_at "top")
theorem OK(d:Dd Z "is_empty" K5)(z_len:zQ Z "len"):IL Z:=d.cal fun _ _ F=>AX ["data"] F (by walk_at "top")
theorem N8(d:Dd Z "row_name" Ks) :CC Z:=d.cal fun _ _ F=>AX ["row"] F (by walk_at "top")
theorem Lu(d:Dd Z "row_holder" IU) :Ck Z:=d.cal fun _ _ F=>AX ["row"] F (by walk_at "top")
theorem M1(d:Dd Z "row_shown" Jl) :HI Z:=d.cal fun _ _ F=>AX ["row"] F (by walk_at "top")
theorem N9(d:Dd Z "row_kind" Kt) :Cj Z:=d.cal fun _ _ F=>AX ["row"] F (by walk_at "top")
theorem OA(d:Dd Z "row_data" Kv) :E9 Z:=d.cal fun _ _ F=>AX ["row"] F (by walk_at "top")
theorem Tf(d:Dd Z "row_x" QS) :Np Z:=d.cal fun _ _ F=>AX ["row"] F (by walk_at "top")
theorem Te(d:Dd Z "row_y" QR) :Nn Z:=d.cal fun _ _ F=>AX ["row"] F (by walk_at "top")
theorem Ih(d:Dd Z "row_with_shown" Fj) :EI Z:=d.cal fun _ _ F=>AX ["row","shown"] F (by walk_at "top")
theorem Ii(d:Dd Z "row_with_place" Fl) :EJ Z:=d.cal fun _ _ F=>AX ["row","x","y"] F (by walk_at "top")
theorem JO(d:Dd Z "row_with_data" GZ) :Cq Z:=d.cal fun _ _ F=>AX ["row","data"] F (by walk_at "top")
theorem LI(d:Dd Z "_law_same_rows" Hs)(z_list:zQ Z "list")(z_isinstance:zQ Z "isinstance")(z_len:zQ Z "len")(z_range:zQ Z "range")(z_bool:zQ Z "bool"):Ff Z:=d.cal fun _ _ F=>AX ["_law_found","_law_due","_law_k","_law_j"] F (by walk_at "top")
theorem Lz(d:Dd Z "_law_share_of" IZ)(c66:Nt Z):GV Z:=d.cal fun _ _ F=>AX ["_law_big_here","_law_bottom"] F (by walk_at "top")
theorem Ti(d:Dd Z "_law_big" QV)(c50:HS Z)(z_range:zQ Z "range"):Kh Z:=d.cal fun _ _ F=>AX ["_law_script","_law_at","_law_by","_law_prime","_law_cell","_law_big_here","_law_k","_law_one"] F (by walk_at "top")
theorem Pl(d:Dd Z "is_name" MN){uv_NAME_SIGNS:Value}(c15:Eh Z)(kc_NAME_SIGNS:kaZ Z "NAME_SIGNS" (.str "abcdefghijklmnopqrstuvwxyz0123456789") uv_NAME_SIGNS):Ja Z:=d.cal fun _ _ F=>AX ["thing"] F (by walk_at "top")
theorem M5(d:Dd Z "is_within" Jn)(c21:GO Z):Ce Z:=d.cal fun _ _ F=>AX ["thing","low","high"] F (by walk_at "top")
theorem OF(d:Dd Z "is_share" K0)(c21:GO Z)(c28:EL Z)(z_len:zQ Z "len")(z_tuple:zQ Z "tuple")(z_isinstance:zQ Z "isinstance"):II Z:=d.cal fun _ _ F=>AX ["thing","top","bottom"] F (by walk_at "top")
theorem KN(d:Dd Z "is_word_text" Gn)(c60:JZ Z)(z_len:zQ Z "len")(z_str:zQ Z "str")(z_isinstance:zQ Z "isinstance")(z_all:zQ Z "all"):FC Z:=d.cal fun _ _ F=>AX ["thing"] F (by walk_at "top")
theorem Hk(d:Dd Z "are_stencil_rows" Er)(c15:Eh Z)(z_len:zQ Z "len")(z_tuple:zQ Z "tuple")(z_isinstance:zQ Z "isinstance")(z_all:zQ Z "all"):Dc Z:=d.cal fun _ _ F=>AX ["thing"] F (by walk_at "top")
theorem M3(d:Dd Z "row_found" Jm)(c00:CC Z):C9 Z:=d.cal fun _ _ F=>AX ["rows","name","row"] F (by walk_at "top")
theorem LJ(d:Dd Z "row_turned" IS){cls:Nat->Addr}(c01:Cj Z)(c13:E9 Z)(c05:Cq Z)(hm_WrongKind:clZ Z cls 7 "WrongKind"):GL Z cls:=d.xc fun _ _ F=>Ec ["row","quarters","data"] F (by walk_at "topX")
theorem L9(d:Dd Z "row_sized" Jk){cls:Nat->Addr}(c01:Cj Z)(c05:Cq Z)(c13:E9 Z)(hm_WrongKind:clZ Z cls 7 "WrongKind"):HG Z cls:=d.xc fun _ _ F=>Ec ["row","w","h"] F (by walk_at "topX")
theorem M7(d:Dd Z "is_holder" Jp){uv_HOLDERS:Value}(c01:Cj Z)(kc_HOLDERS:kaZ Z "HOLDERS" (.tuple [(.str "group"),(.str "glass"),(.str "window"),(.str "turn"),(.str "tiles"),(.str "mask")]) uv_HOLDERS):FY Z:=d.cal fun _ _ F=>AX ["row"] F (by walk_at "top")
theorem L8(d:Dd Z "_law_paint_of" Ib)(c43:GV Z):GY Z:=d.cal fun _ _ F=>AX ["_law_big_here","_law_shade","_law_share"] F (by walk_at "top")
theorem Hj(d:Dd Z "is_bounded_share" Ep)(c58:II Z):Cm Z:=d.cal fun _ _ F=>AX ["thing"] F (by walk_at "top")
theorem OH(d:Dd Z "is_place" K2)(c02:Ce Z):GU Z:=d.cal fun _ _ F=>AX ["thing"] F (by walk_at "top")
theorem Pj(d:Dd Z "is_turn" ML)(c22:GP Z)(c02:Ce Z)(z_len:zQ Z "len"):JY Z:=d.cal fun _ _ F=>AX ["data"] F (by walk_at "top")
theorem M8(d:Dd Z "are_tiles" Jr)(c02:Ce Z)(z_len:zQ Z "len"):HK Z:=d.cal fun _ _ F=>AX ["data"] F (by walk_at "top")
theorem Ly(d:Dd Z "holders_of" IY)(c04:C9 Z)(c03:Ck Z):Dv Z:=d.cal fun _ _ F=>AX ["rows","name","holders","row"] F (by walk_at "top")
theorem Pp(d:Dd Z "row_of" Kr){cls:Nat->Addr}(c04:C9 Z)(hm_NoName:clZ Z cls 6 "NoName"):Li Z cls:=d.xc fun _ _ F=>Ec ["rows","name","row"] F (by walk_at "topX")
theorem RW(d:Dd Z "row_of" Kr)(c04:C9 Z):F6 Z:=d.cal fun _ _ F=>AX ["rows","name","row"] F (by walk_at "top")
theorem NK(d:Dd Z "row_done" Ku){cls:Nat->Addr}(c29:EJ Z)(c05:Cq Z)(c30:EI Z)(X_row_turned:GL Z cls)(X_row_sized:HG Z cls):IH Z cls:=d.xc fun _ _ F=>Ec ["row","deed","what"] F (by walk_at "topX")
theorem NG(d:Dd Z "_law_data_of" Jy)(c51:HM Z)(c11:EX Z)(c44:GY Z)(c52:HL Z)(c36:FE Z):FZ Z:=d.cal fun _ _ F=>AX ["_law_kind","_law_big_here","_law_data","_law_w","_law_h","_law_sx","_law_sy","_law_shade","_law_share","_law_text","_law_rows"] F (by walk_at "top")
theorem OI(d:Dd Z "is_paint" K3)(c07:Cm Z):EK Z:=d.cal fun _ _ F=>AX ["shade","share"] F (by walk_at "top")
theorem OJ(d:Dd Z "is_glass" K4)(c07:Cm Z)(z_len:zQ Z "len"):IK Z:=d.cal fun _ _ F=>AX ["data"] F (by walk_at "top")
theorem M6(d:Dd Z "is_window" Jo)(c23:GU Z)(c02:Ce Z)(z_len:zQ Z "len"):HJ Z:=d.cal fun _ _ F=>AX ["data"] F (by walk_at "top")
theorem OB(d:Dd Z "parts_in" Kw)(c10:Dv Z)(c00:CC Z):GN Z:=d.cal fun _ _ F=>AX ["rows","name"] F (by walk_at "top")
theorem OE(d:Dd Z "is_tiles" Kz)(c01:Cj Z)(c12:F6 Z):GQ Z:=d.cal fun _ _ F=>AX ["rows","name"] F (by walk_at "top")
theorem KL(d:Dd Z "place_behind" Gm)(c12:F6 Z):FA Z:=d.cal fun _ _ F=>AX ["rows","holder"] F (by walk_at "top")
theorem OL(d:Dd Z "_law_row_of" K6)(c53:HP Z)(c59:Nq Z)(c32:He Z)(c11:EX Z)(c17:FZ Z)(z_len:zQ Z "len"):GX Z:=d.cal fun _ _ F=>AX ["_law_rows","_law_big_here","_law_name","_law_holders","_law_row","_law_holder","_law_x","_law_y","_law_kind","_law_up_here","_law_shown","_law_data"] F (by walk_at "top")
theorem OG(d:Dd Z "is_plate" K1)(c08:EK Z)(c02:Ce Z)(z_len:zQ Z "len"):IJ Z:=d.cal fun _ _ F=>AX ["data"] F (by walk_at "top")
theorem Pn(d:Dd Z "is_band" MP)(c08:EK Z)(c02:Ce Z)(z_len:zQ Z "len"):Jc Z:=d.cal fun _ _ F=>AX ["data"] F (by walk_at "top")
theorem Ph(d:Dd Z "is_word" MK)(c08:EK Z)(c37:FC Z)(z_len:zQ Z "len"):JX Z:=d.cal fun _ _ F=>AX ["data"] F (by walk_at "top")
theorem Lx(d:Dd Z "is_stencil" IX)(c08:EK Z)(c20:Dc Z)(z_len:zQ Z "len"):GS Z:=d.cal fun _ _ F=>AX ["data"] F (by walk_at "top")
theorem NC(d:Dd Z "_law_ordered" Jv)(c24:GN Z)(c14:FF Z)(z_int:zQ Z "int"):HN Z:=d.cal fun _ _ F=>AX ["_law_rows","_law_deed_here","_law_names","_law_own","_law_rest","_law_holder","_law_at"] F (by walk_at "top")
theorem Lv(d:Dd Z "names_with" IV)(c24:GN Z):Eg Z:=d.cal fun _ _ F=>AX ["rows","name"] F (by walk_at "top")
theorem L7(d:Dd Z "_law_scene_of" Ia)(c25:GX Z)(c49:Kh Z)(z_range:zQ Z "range"):GW Z:=d.cal fun _ _ F=>AX ["_law_script","_law_first","_law_many","_law_rows","_law_k","_law_row","_law_big_here"] F (by walk_at "top")
theorem NF(d:Dd Z "_law_deed_of" Jx)(c25:GX Z)(c11:EX Z)(c17:FZ Z)(z_len:zQ Z "len"):HR Z:=d.cal fun _ _ F=>AX ["_law_rows","_law_big_here","_law_words","_law_word","_law_names","_law_spot","_law_name","_law_row","_law_kinds_here","_law_x","_law_y","_law_kind"] F (by walk_at "top")
theorem Pm(d:Dd Z "is_data" MO)(c39:IJ Z)(c45:Jc Z)(c46:JX Z)(c31:GS Z)(c26:IL Z)(c40:IK Z)(c34:HJ Z)(c47:JY Z)(c35:HK Z)(z_tuple:zQ Z "tuple")(z_isinstance:zQ Z "isinstance")(z_str:zQ Z "str")(kc5_FORMS:kfZ Z 5 "FORMS" Bm):Jb Z:=d.cal fun _ _ F=>AX ["kind","data"] F (by walk_at "top")
theorem KJ(d:Dd Z "rows_without" Gj)(c16:Eg Z)(c00:CC Z):C8 Z:=d.cal fun _ _ F=>AX ["rows","name","names"] F (by walk_at "top")
theorem Mz(d:Dd Z "rows_with" Ji)(c16:Eg Z)(c00:CC Z):FX Z:=d.cal fun _ _ F=>AX ["rows","name","names"] F (by walk_at "top")
theorem RX(d:Dd Z "is_row" Nz)(c61:Ja Z)(c00:CC Z)(c03:Ck Z)(c23:GU Z)(c67:Nn Z)(c68:Np Z)(c62:Jb Z)(c13:E9 Z)(c01:Cj Z)(c22:GP Z)(c54:HI Z)(z_len:zQ Z "len")(z_tuple:zQ Z "tuple")(z_isinstance:zQ Z "isinstance"):FD Z:=d.cal fun _ _ F=>AX ["thing"] F (by walk_at "top")
theorem LG(d:Dd Z "rows_raised" Hr)(c06:C8 Z)(c18:FX Z):Fe Z:=d.cal fun _ _ F=>AX ["rows","name"] F (by walk_at "top")
theorem M0(d:Dd Z "rows_sunk" Jj)(c06:C8 Z)(c38:FA Z)(c03:Ck Z)(c12:F6 Z)(c18:FX Z):HH Z:=d.cal fun _ _ F=>AX ["rows","name","rest","place"] F (by walk_at "top")
theorem RY(d:Dd Z "_law_with" N1)(c09:FD Z)(z_int:zQ Z "int"):Lj Z:=d.cal fun _ _ F=>AX ["_law_rows","_law_row"] F (by walk_at "top")
theorem Tg(d:Dd Z "_law_put" QT)(c09:FD Z)(c14:FF Z)(c32:He Z)(c59:Nq Z)(z_len:zQ Z "len"):Nr Z:=d.cal fun _ _ F=>AX ["_law_rows","_law_row","_law_holder","_law_made","_law_chain"] F (by walk_at "top")
theorem JP(d:Dd Z "rows_changed" Gk){cls:Nat->Addr}(c12:F6 Z)(c09:FD Z)(c00:CC Z)(hm_NoPart:clZ Z cls 0 "NoPart")(X_row_done:IH Z cls):E8 Z cls:=d.xc fun _ _ F=>Ec ["rows","deed","changed"] F (by walk_at "topX")
theorem OP(d:Dd Z "vet_row" JM){cls:Nat->Addr}{tk_MOST_HOLDERS:Tok}(c09:FD Z)(c04:C9 Z)(c00:CC Z)(c03:Ck Z)(c19:FY Z)(c10:Dv Z)(c27:GQ Z)(c01:Cj Z)(z_len:zQ Z "len")(z_any:zQ Z "any")(kc_MOST_HOLDERS:kiZ Z "MOST_HOLDERS" 6 tk_MOST_HOLDERS)(hm_NoPart:clZ Z cls 0 "NoPart")(hm_Twice:clZ Z cls 1 "Twice")(hm_NoHolder:clZ Z cls 2 "NoHolder")(hm_TooDeep:clZ Z cls 3 "TooDeep")(hm_Nested:clZ Z cls 4 "Nested"):JW Z cls:=d.xc fun _ _ F=>Ec ["ahead","row","holder","holders"] F (by walk_at "topX")
theorem Pg(d:Dd Z "vet_row" JM){tk_MOST_HOLDERS:Tok}(c09:FD Z)(c04:C9 Z)(c00:CC Z)(c03:Ck Z)(c19:FY Z)(c10:Dv Z)(c27:GQ Z)(c01:Cj Z)(z_len:zQ Z "len")(z_any:zQ Z "any")(kc_MOST_HOLDERS:kiZ Z "MOST_HOLDERS" 6 tk_MOST_HOLDERS):Hd Z:=d.cal fun _ _ F=>AX ["ahead","row","holder","holders"] F (by walk_at "top")
theorem Ra(d:Dd Z "_law_deed" N2)(c69:Nr Z)(c14:FF Z)(c55:HN Z)(c63:Lj Z):Lk Z:=d.cal fun _ _ F=>AX ["_law_rows","_law_deed_here","_law_row"] F (by walk_at "top")
theorem Vd(d:Dd Z "vet" Sn){cls:Nat->Addr}{tk_MOST_ROWS:Tok}(c33:Hd Z)(z_enumerate:zQ Z "enumerate")(z_len:zQ Z "len")(kc_MOST_ROWS:kiZ Z "MOST_ROWS" 24 tk_MOST_ROWS)(hm_TooMany:clZ Z cls 5 "TooMany")(X_vet_row:JW Z cls):Ul Z cls:=d.xc fun _ _ F=>Ec ["rows","place","row"] F (by walk_at "topX")
theorem YE(d:Dd Z "vet" Sn){tk_MOST_ROWS:Tok}(c33:Hd Z)(z_enumerate:zQ Z "enumerate")(z_len:zQ Z "len")(kc_MOST_ROWS:kiZ Z "MOST_ROWS" 24 tk_MOST_ROWS):Uo Z:=d.cal fun _ _ F=>AX ["rows","place","row"] F (by walk_at "top")
theorem NJ(d:Dd Z "rows_put" Kq){cls:Nat->Addr}(X_vet:Ul Z cls):IG Z cls:=d.xc fun _ _ F=>Ec ["rows","row","behind"] F (by walk_at "topX")
theorem MA(d:Dd Z "deed_done" Jq){cls:Nat->Addr}(c06:C8 Z)(c41:Fe Z)(c56:HH Z)(X_rows_put:IG Z cls)(X_row_of:Li Z cls)(X_rows_changed:E8 Z cls):J8 Z cls:=d.xc fun _ _ F=>Ec ["rows","deed","what"] F (by walk_at "topX")
end
section
variable {P:Program} {w:World} {K:PySem.W.Frag} {mg:Str->Option Value} {base:Heap} {f:Addr} {fd:FuncData}
theorem sc_L_which:Ei ["_law_e","_law_kinds_here","_law_names"] ["_law_e"] (AZ Aw):=⟨rfl,rfl,rfl,∅,rfl,∅,∅⟩
theorem Bk:lcP Aw "_law_e":=∅
theorem Bj:lcP Aw "_law_kinds_here":=∅
theorem J3:lcP Aw "_law_names":=∅
theorem Oa:(AZ Aw).names.lookup ("_law_names":Str)=some NameKind.local:=∅
theorem KR:glP Aw "Twice":=∅
theorem Ai:glP Aw "isinstance":=∅
theorem JR:glP Aw "NoPart":=∅
theorem Iu:glP Aw "TooDeep":=∅
theorem IC:glP Aw "NoHolder":=∅
theorem JT:glP Aw "Nested":=∅
theorem JS:glP Aw "NoName":=∅
theorem Ir:glP Aw "TooMany":=∅
theorem JQ:glP Aw "NoStep":=∅
theorem Hl:glP Aw "WrongKind":=∅
theorem Gy:glP Aw "ValueError":=∅
theorem MB:glP Aw "len":=∅
theorem OT:List.Nodup (["_law_pair"]:List Str):=∅
theorem PJ:dcP "NoName":=∅
theorem PH:dcP "NoStep":=∅
theorem Kl:dcP "SceneError":=∅
theorem Kk:dcP "ValueError":=∅
theorem Lq:dcP "WrongKind":=∅
theorem Bc:dcP "_law_e":=∅
theorem Bg:dcP "_law_kinds_here":=∅
theorem EM:dcP "_law_pair":=∅
theorem Kj:dcP "_law_which":=∅
theorem KC:("ValueError":Str)≠"__name__":=∅
def spW(C:Addr)(n:Nat):Addr->Obj->Sp:=fun ea oe vs H Q _=>vs=[.ref ea]/\H ea=some (.frz oe (.own ea))/\(oe.cls = .ref C/\oe.dict=none/\PySem.W.notCls oe=true)/\∀H',Same H H'->Q (.str (whS n)) H'
def prs(n:Nat):List PyData:=[prD "NoPart" (n==0),prD "Twice" (n==1)]++[prD "NoHolder" (n==2),prD "TooDeep" (n==3)]++[prD "Nested" (n==4)]++[prD "TooMany" (n==5),prD "NoName" (n==6)]++[prD "WrongKind" (n==7),prD "NoStep" (n==8)]
def XJ:DX:=dLC 1 [] (dIL (AB 1)) (dN 0) (AE (dOp AJ (AB 0) (dC (.int 1)))) (dOp AJ (AB 0) (dC (.int 0)))
theorem UK{n:Nat}(hn:n<8):XJ [none,some (.d (.list (prs n))),none]=some (.list [.str (whS n)],[none,some (.d (.list (prs n))),none]):=by
 match n,hn with
 |0,_=>rfl
 |1,_=>rfl
 |2,_=>rfl
 |3,_=>rfl
 |4,_=>rfl
 |5,_=>rfl
 |6,_=>rfl
 |7,_=>rfl
theorem dE:bootBuiltins "ValueError"=some (.type "ValueError"):=by first|rfl|decide +kernel
theorem de{K:KW}{i:Nat}{x:PyData}{τ:DS}{σ:St}{H:Hp}{v:V}(hl:σ.length=τ.length)(ht:∀j l,τ[j]?=some (some l)->j=i/\l = .d x)(hv:σ[i]?=some (some v))(hx:Is K (hid Zd H) x v):R K Zd Zd τ σ H :=
 XR hl (fun j l e=>by obtain⟨rfl,rfl⟩:=ht j l e;exact⟨x,v,rfl,hv,hx⟩) fun _ h=>h.elim
theorem LH{cs:List Addr}{D:Addr}{n:Nat}(hl9:cs.length=9)(hn6:n<8)(F:Fun K "_law_which" "_law_which" Aw f fd)(o:QD K D cs n)(hm0:mg "NoPart"=some (.ref (cs.getD 0 0)))(hm1:mg "Twice"=some (.ref (cs.getD 1 0)))(hm2:mg "NoHolder"=some (.ref (cs.getD 2 0)))(hm3:mg "TooDeep"=some (.ref (cs.getD 3 0)))(hm4:mg "Nested"=some (.ref (cs.getD 4 0)))(hm5:mg "TooMany"=some (.ref (cs.getD 5 0)))(hm6:mg "NoName"=some (.ref (cs.getD 6 0)))(hm7:mg "WrongKind"=some (.ref (cs.getD 7 0)))(hm8:mg "NoStep"=some (.ref (cs.getD 8 0)))(zi:mg "isinstance"=none)(zv:mg "ValueError"=none)(zl:mg "len"=none) :
  RA P w K mg base 1 f fd ["_law_e"] (spW (cs.getD n 0) n):=by
 have nd:=sc_L_which.nd
 refine F.okH sc_L_which (fun ea oe vs H Q E h=>by obtain⟨rfl,_⟩:=h;rfl) (fun ea oe cdv A outer s H vs Q E hr hq h=>?_)
 obtain⟨rfl,hH,⟨hc,hd,hn⟩,q⟩:=h
 have hu:=eS hr
 have ks:=fun j (hj:j<9)=>o.ks j (by rw[hl9];exact hj)
 refine⟨_,(@Dg _ _ _ _ _ (@Hx _ _ 1 _ _ _ _ nd rfl Bj (@Hy _ _ _ _ (AU (Es (AU EY (AU (CN (Ci (ea:=ea) hc hd hn o.xc (ks 0 (by decide))) Ai zi PyProof.Rows.boot_isinstance (AU (pvL 0 rfl Bk Bc) (AU (Cu (v:=.ref (cs.getD 0 0)) JR hm0 rfl Rq.1) A8 ⋯) ⋯) BH BL.1 ⋯ ⋯) A8 ⋯) ⋯)) (AU (Es (AU EY (AU (CN (Ci (ea:=ea) hc hd hn o.xc (ks 1 (by decide))) Ai zi PyProof.Rows.boot_isinstance (AU (pvL 0 rfl Bk Bc) (AU (Cu (v:=.ref (cs.getD 1 0)) KR hm1 rfl UJ.1) A8 ⋯) ⋯) BH BL.1 ⋯ ⋯) A8 ⋯) ⋯)) A8 ⋯) ⋯)) ⋯ ⋯) (@Dg _ _ _ _ _ (@Hx _ _ 1 _ _ _ _ nd rfl Bj (@N5 _ _ _ _ _ _ _ _ LF (pvL 1 rfl Bj Bg) (@Hy _ _ _ _ (AU (Es (AU EY (AU (CN (Ci (ea:=ea) hc hd hn o.xc (ks 2 (by decide))) Ai zi PyProof.Rows.boot_isinstance (AU (pvL 0 rfl Bk Bc) (AU (Cu (v:=.ref (cs.getD 2 0)) IC hm2 rfl Ou.1) A8 ⋯) ⋯) BH BL.1 ⋯ ⋯) A8 ⋯) ⋯)) (AU (Es (AU EY (AU (CN (Ci (ea:=ea) hc hd hn o.xc (ks 3 (by decide))) Ai zi PyProof.Rows.boot_isinstance (AU (pvL 0 rfl Bk Bc) (AU (Cu (v:=.ref (cs.getD 3 0)) Iu hm3 rfl P6.1) A8 ⋯) ⋯) BH BL.1 ⋯ ⋯) A8 ⋯) ⋯)) A8 ⋯) ⋯))) ⋯ ⋯) (@Dg _ _ _ _ _ (@Hx _ _ 1 _ _ _ _ nd rfl Bj (@N5 _ _ _ _ _ _ _ _ LF (pvL 1 rfl Bj Bg) (@Hy _ _ _ _ (AU (Es (AU EY (AU (CN (Ci (ea:=ea) hc hd hn o.xc (ks 4 (by decide))) Ai zi PyProof.Rows.boot_isinstance (AU (pvL 0 rfl Bk Bc) (AU (Cu (v:=.ref (cs.getD 4 0)) JT hm4 rfl Rr.1) A8 ⋯) ⋯) BH BL.1 ⋯ ⋯) A8 ⋯) ⋯)) A8 ⋯))) ⋯ ⋯) (@Dg _ _ _ _ _ (@Hx _ _ 1 _ _ _ _ nd rfl Bj (@N5 _ _ _ _ _ _ _ _ LF (pvL 1 rfl Bj Bg) (@Hy _ _ _ _ (AU (Es (AU EY (AU (CN (Ci (ea:=ea) hc hd hn o.xc (ks 5 (by decide))) Ai zi PyProof.Rows.boot_isinstance (AU (pvL 0 rfl Bk Bc) (AU (Cu (v:=.ref (cs.getD 5 0)) Ir hm5 rfl P5.1) A8 ⋯) ⋯) BH BL.1 ⋯ ⋯) A8 ⋯) ⋯)) (AU (Es (AU EY (AU (CN (Ci (ea:=ea) hc hd hn o.xc (ks 6 (by decide))) Ai zi PyProof.Rows.boot_isinstance (AU (pvL 0 rfl Bk Bc) (AU (Cu (v:=.ref (cs.getD 6 0)) JS hm6 rfl PJ.1) A8 ⋯) ⋯) BH BL.1 ⋯ ⋯) A8 ⋯) ⋯)) A8 ⋯) ⋯))) ⋯ ⋯) (@Dg _ _ _ _ _ (@Hx _ _ 1 _ _ _ _ nd rfl Bj (@N5 _ _ _ _ _ _ _ _ LF (pvL 1 rfl Bj Bg) (@Hy _ _ _ _ (AU (Es (AU EY (AU (CN (Ci (ea:=ea) hc hd hn o.xc (ks 7 (by decide))) Ai zi PyProof.Rows.boot_isinstance (AU (pvL 0 rfl Bk Bc) (AU (Cu (v:=.ref (cs.getD 7 0)) Hl hm7 rfl Lq.1) A8 ⋯) ⋯) BH BL.1 ⋯ ⋯) A8 ⋯) ⋯)) (AU (Es (AU EY (AU (CN (Ci (ea:=ea) hc hd hn o.xc (ks 8 (by decide))) Ai zi PyProof.Rows.boot_isinstance (AU (pvL 0 rfl Bk Bc) (AU (Cu (v:=.ref (cs.getD 8 0)) JQ hm8 rfl PH.1) A8 ⋯) ⋯) BH BL.1 ⋯ ⋯) A8 ⋯) ⋯)) A8 ⋯) ⋯))) ⋯ ⋯) (@Dg _ _ _ _ _ (@RM _ ["_law_pair"] 1 [] _ _ _ _ _ _ ea oe _ _ _ _ 2 _ _ _ hq nd rfl Oa (@W8 _ ["_law_pair"] 1 [] _ ["_law_e","_law_kinds_here","_law_names"] (AZ Aw) rfl rfl ∅) (pvL 1 rfl Bj Bg) (fun cl fp s3 H3=>(@Qf _ _ 0 _ OT rfl (MW ∅) (Or.inr (Gq ∅)))) (fun cl fp s3 H3=>(@Qb _ _ _ (Pa (@LB _ _ _ _ _ _ _ (show IxR _ (RJ K) from Pr) (pv 0 rfl (JH ∅) EM.1 EM.2) LD (fun _ _=>rfl)) ⋯))) (fun cl fp s3 H3=>(@LB _ _ _ _ _ _ _ (show IxR _ (RJ K) from Pr) (pv 0 rfl (JH ∅) EM.1 EM.2) LD (fun _ _=>rfl))) ⋯ ⋯) (@Dg _ _ _ _ _ (@TH _ _ _ _ _ _ _ _ (PW.pt (W0 (@Mt _ _ _ _ _ _ _ _ (@Tc _ hu) (CN Lf MB zl PySem.boot_len (AU (pvL 2 rfl J3 Hu) A8 ⋯) Vf Yq.1 ⋯ ⋯) LD (YK _)) (@S0 _ _ _ _ (S7 (Pa (CN (R5 (ea:=ea) hc hd hn o.xc o.ve) Ai zi PyProof.Rows.boot_isinstance (AU (pvL 0 rfl Bk Bc) (AU (W2 Gy zv dE KC Kk.1) A8 ⋯) ⋯) BH BL.1 ⋯ ⋯) ⋯))))) (@Ig _ _ _ (@JN _ _ _ _ EY)) Mu) (@Ig _ _ _ (@JN _ _ _ _ (@LB _ _ _ _ _ _ _ NT (pvL 2 rfl J3 Hu) LD (fun _ _=>rfl))))))))))),?_⟩
 show SY _ _ _ [some (V.ref ea),none,none] H
 dsimp only[SY,Ko,Gb]
 refine Im (K:=⟨K,w⟩) rfl hH fun l1 H1 m1 i1=>?_
 have mk:∀{Ha Hb:Hp},Same Ha Hb->Same (hid Zd Ha) (hid Zd Hb):=fun m=>(Same.keep (S:=Zd) m).same
 refine⟨.ref l1,rfl,?_⟩
 refine Im (K:=⟨K,w⟩) rfl (m1 _ _ hH) fun l2 H2 m2 i2=>?_
 refine Kg (i1.mono (mk m2)) i2 (by decide:4<=sizeLine) fun l3 H3 m3 i3=>?_
 have h3:=m3 _ _ (m2 _ _ (m1 _ _ hH))
 refine⟨.ref l3,rfl,?_⟩
 refine Tv (K:=⟨K,w⟩) rfl h3 fun l4 H4 m4 i4=>?_
 refine Kg (i3.mono (mk m4)) i4 (by decide:5<=sizeLine) fun l5 H5 m5 i5=>?_
 have h5:=m5 _ _ (m4 _ _ h3)
 refine⟨.ref l5,rfl,?_⟩
 refine Im (K:=⟨K,w⟩) rfl h5 fun l6 H6 m6 i6=>?_
 refine Kg (i5.mono (mk m6)) i6 (by decide:7<=sizeLine) fun l7 H7 m7 i7=>?_
 have h7:=m7 _ _ (m6 _ _ h5)
 refine⟨.ref l7,rfl,?_⟩
 refine Im (K:=⟨K,w⟩) rfl h7 fun l8 H8 m8 i8=>?_
 refine Kg (i7.mono (mk m8)) i8 (by decide:9<=sizeLine) fun l9 H9 m9 i9=>?_
 have h9:=m9 _ _ (m8 _ _ h7)
 have m19:Same H H9:=fun b o e=>m9 _ _ (m8 _ _ (m7 _ _ (m6 _ _ (m5 _ _ (m4 _ _ (m3 _ _ (m2 _ _ (m1 _ _ e))))))))
 have hE:DL.E (⟨K,w⟩:KW) (tLC 1 [] (MZ K (Eb 1)) (Gb 0) (tB (tOp _ (Eb 0) (tC (.int 1)))) (tOp _ (Eb 0) (tC (.int 0)))) true XJ:=bj (Qq LW) E2 (Wq (Nd Tn LW Mf)) (Nd Tn LW Mf)
 have r9 : R (⟨K, w⟩ : KW) Zd Zd [none, some (.d (.list (prs n))), none] [some (V.ref ea), some (V.ref l9), none] H9 := de (i := 1) rfl (fun j l e => by
  match j,e with
  |0,e=>cases e
  |1,e=>cases e;exact⟨rfl,rfl⟩
  |2,e=>cases e
  |j+3,e=>cases e) rfl i9
 refine hE.weak.run Zd Zd _ [some (V.ref ea),some (V.ref l9),none] H9 _ _ _ r9 (UK hn6) fun vn HA rA cA iA=>?_
 have sA:Same H9 HA:=fun b o e=>cA b o (fun z=>z) e
 have hA:=sA _ _ h9
 have r2 : R (⟨K, w⟩ : KW) Zd Zd [none, none, some (.d (.list [.str (whS n)]))] [some (V.ref ea), some (V.ref l9), some vn] HA := de (i := 2) rfl (fun j l e => by
  match j,e with
  |0,e=>cases e
  |1,e=>cases e
  |2,e=>cases e;exact⟨rfl,rfl⟩
  |j+3,e=>cases e) rfl iA
 have hT:T (⟨K,w⟩:KW) (QO (tOp _ (tCB _ (CJ (Eb 2) FG)) (tC (.int 1)))) (AE (dOp fNe (AY Au (AA (AB 2) AD)) (dC (.int 1)))):=Fb (Nd ax (XH XM (Uk LW Uj)) Mf)
 refine hT.run Zd Zd _ [some (V.ref ea),some (V.ref l9),some vn] HA _ false _ r2 rfl fun HB rB cB=>?_
 have sB:Same HA HB:=fun b o e=>cB b o (fun z=>z) e
 rw[if_neg Bool.false_ne_true]
 refine⟨.ref ea,rfl,rfl,sB _ _ hA,true,rfl,?_⟩
 dsimp only
 rw[if_neg (show ¬((!true)=true) from Bool.false_ne_true)]
 have hR:DL.E (⟨K,w⟩:KW) (tOp _ (Eb 2) (tC (.int 0))) false (dOp Co (AB 2) (dC (.int 0))):=Nd W6 LW Mf
 refine hR.run Zd Zd _ [some (V.ref ea),some (V.ref l9),some vn] HB _ (.str (whS n)) _ rB rfl fun v HC rC cC iC=>?_
 cases (show v = .str (whS n) from iC)
 exact q HC fun b o e=>cC b o (fun z=>z) (sB _ _ (sA _ _ (m19 _ _ e)))
theorem QJ{ls ls':List L}{r:PyData}(h:EU ls=some (r,ls')):∃x y:PyData,ls=[.d x,.d y]/\ls'=ls/\((∃z,Bw [x,y]=some (.inl z)/\r = .tuple [.str "",z])\/∃n,n<8/\Bw [x,y]=some (.inr n)/\r = .tuple [.str (whS n),.none]):=by
 unfold EU at h
 split at h
 ·rename_i x y
  split at h
  ·rename_i e
   cases h
   exact⟨x,y,rfl,rfl,.inl ⟨_,e,rfl⟩⟩
  ·rename_i n e
   split at h
   ·rename_i hn
    cases h
    exact⟨x,y,rfl,rfl,.inr ⟨n,hn,e,rfl⟩⟩
   ·cases h
  ·cases h
 ·cases h
theorem sc_L_told:Ei ["_law_rows","_law_deed_here","_law_e"] ["_law_rows","_law_deed_here"] (AZ CK):=⟨rfl,rfl,rfl,∅,rfl,∅,∅⟩
theorem dz:Vis (AZ CK) "_law_rows":=by unfold Vis;decide +kernel
theorem dw:Vis (AZ CK) "_law_deed_here":=by unfold Vis;decide +kernel
theorem du:Vis (AZ CK) "_law_e":=by unfold Vis;decide +kernel
theorem eN:(AZ CK).names.lookup ("_law_e":Str)=some NameKind.local:=∅
theorem bU:glP CK "deed_done":=∅
theorem bV:glP CK "SceneError":=∅
theorem bT:glP CK "_law_which":=∅
theorem Qc{cs:List Addr}{D fv fw:Addr}{fdv fdw:FuncData}{n:Nat}(CF:FnOk P w K mg base (CXr P w) 11 fv fdv ["rows","deed"] (spO ⟨K,w⟩ Bw fun n=>cs.getD n 0))(mf:mg "deed_done"=some (.ref fv))(kf:PySem.W.keepIn K (.ref fv)=true)(bf:Binds K fdv ["rows","deed"] [])
  (FW:RA P w K mg base 1 fw fdw ["_law_e"] (spW (cs.getD n 0) n)) (mw:mg "_law_which"=some (.ref fw)) (kw:PySem.W.keepIn K (.ref fw)=true) (bw:Binds K fdw ["_law_e"] []) (mD:mg "SceneError"=some (.ref D)) (o:QD K D cs n)
  {cdv:Value} {A:Around} {outer:List Env} {s:Shared} {H:Hp} {E:XK} (hr:Room 11 (A.deeper (PyProof.Rows.envOfC "_law_told" (AZ CK) s.heap.objs.size f cdv))) :
  PSs (JC CX0 P w K mg base ["_law_rows","_law_deed_here","_law_e"] "_law_told" (AZ CK) f cdv A outer s H E).nox (CH CK)
   (QN (spO ⟨K,w⟩ Bw fun n=>cs.getD n 0) "" (CJ (Eb 0) (CJ (Eb 1) FG)) (cs.getD n 0) 2 (fun ea oe=>Sb (Uz (CJ (fun σ H Q=>CJ (Eb 2) FG σ H fun vs H1=>H1 ea=some (.frz oe (.own ea))/\spW (cs.getD n 0) n ea oe vs H1 Q E0) (CJ (tC .non) FG))))):=by
 have nd:=sc_L_told.nd
 have one:∀{X:Cx} {x:Stmt} {u:TS},PS X x u->PSs X [x] u:=fun h=>Ig h
 exact one (RL (C := cs.getD n 0) (i := 2) CF hr bU mf kf bf (AU (pv 0 rfl dz JB.1 JB.2) (AU (pv 1 rfl dw FV.1 FV.2) A8 ⋯) ⋯) ⟨rfl, rfl⟩ rfl bV mD o.ct nd rfl eN
   (fun ea oe hc hd hn hno=>one (@JN _ _ _ _ (Es (AU (TY (ea:=ea) (oe:=oe) FW ⟨rfl,(hr.mono (by decide:1<=11)).dp,(hr.mono (by decide:1<=11)).un⟩ rfl hno bT mw kw bw (AU (pv 2 rfl du Bc.1 Bc.2) A8 ⋯) Kj.1 ⋯ ⋯) (AU TR A8 ⋯) ⋯))))
   Ng.1 Kl.1 ⋯ ⋯)
theorem RZ{cs:List Addr}{D fw:Addr}{fdw:FuncData}(F:Fun K "_law_told" "_law_told" CK f fd)(hl9:cs.length=9)(XF:∃fv fdv,FnOk P w K mg base (CXr P w) 11 fv fdv ["rows","deed"] (spO ⟨K,w⟩ Bw fun n=>cs.getD n 0)/\mg "deed_done"=some (.ref fv)/\PySem.W.keepIn K (.ref fv)=true/\Binds K fdv ["rows","deed"] [])
  (Fw:Fun K "_law_which" "_law_which" Aw fw fdw) (mw:mg "_law_which"=some (.ref fw)) (kw:PySem.W.keepIn K (.ref fw)=true) (bw:Binds K fdw ["_law_e"] []) (mD:mg "SceneError"=some (.ref D)) (xa:L2.excAll K D cs 8=true) (hm0:mg "NoPart"=some (.ref (cs.getD 0 0))) (hm1:mg "Twice"=some (.ref (cs.getD 1 0))) (hm2:mg "NoHolder"=some (.ref (cs.getD 2 0))) (hm3:mg "TooDeep"=some (.ref (cs.getD 3 0))) (hm4:mg "Nested"=some (.ref (cs.getD 4 0))) (hm5:mg "TooMany"=some (.ref (cs.getD 5 0))) (hm6:mg "NoName"=some (.ref (cs.getD 6 0))) (hm7:mg "WrongKind"=some (.ref (cs.getD 7 0))) (hm8:mg "NoStep"=some (.ref (cs.getD 8 0))) (zi:mg "isinstance"=none) (zv:mg "ValueError"=none) (zl:mg "len"=none) :
  FnOk P w K mg base CX0 12 f fd ["_law_rows","_law_deed_here"] (spD ⟨K,w⟩ EU false):=by
 obtain⟨fv,fdv,CF,mf,kf,bf⟩:=XF
 refine F.ok sc_L_told (fun vs H Q E h=>?_) (fun cdv A outer s H vs Q E hr h=>?_)
 ·obtain⟨S,M,ls,r,ls',hR,hG,_⟩:=h
  obtain⟨x,y,rfl,_⟩:=QJ hG
  have:=hR.len
  simpa using this
 obtain⟨S,M,ls,r,ls',hR,hG,hq⟩:=h
 obtain⟨x,y,rfl,rfl,hx⟩:=QJ hG
 obtain⟨v0,hv0,hi0⟩:=hR.dat 0 x rfl
 obtain⟨v1,hv1,hi1⟩:=hR.dat 1 y rfl
 have hvs:vs=[v0,v1]:=by
  match vs,hv0,hv1,hR.len with
  |[a,b],h0,h1,_=>cases h0;cases h1;rfl
  |[],h0,_,_=>cases h0
  |[_],_,h1,_=>cases h1
  |_::_::_::_,_,_,hl=>simp at hl
 subst hvs
 have fin:∀{r v H'},Same H H'->Is ⟨K,w⟩ (hid S H') r v->(∀v H',R ⟨K,w⟩ S M (([.d x,.d y]:List L).map some) ([v0,v1].map some) H'->Chg M H H'->Res ⟨K,w⟩ false S H H' r v->Q v H')->Q v H':=fun sm i q=>q _ _ (hR.same sm) (.of sm) i
 have il:IsL (⟨K,w⟩:KW) (hid S H) [x,y] [v0,v1]:=⟨_,_,rfl,hi0,_,_,rfl,hi1,rfl⟩
 rcases hx with ⟨z,hv,rfl⟩|⟨n,hn,hv,rfl⟩
 ·have o:=L2.excAll_ok xa (by decide:0<8)
  refine⟨_,Qc CF mf kf bf (LH hl9 (by decide) Fw o hm0 hm1 hm2 hm3 hm4 hm5 hm6 hm7 hm8 zi zv zl) mw kw bw mD o hr,?_⟩
  refine⟨v0,rfl,v1,rfl,S,[x,y],_,il,hR.ex,hv,fun v H' sm i' a ha=>?_⟩
  have s2:=Ax ha (HO.tup [.str "",v])
  refine fin (r:=.tuple [.str "",z]) (fun b o e=>s2 _ _ (sm _ _ e)) ⟨a,[.str "",v],rfl,.inl (.inl (hid_iff.mpr ⟨fun q=>?_,Aq⟩)),_,_,rfl,rfl,_,_,rfl,i'.mono (Same.keep s2).same,rfl⟩ hq
  obtain⟨o',e⟩:=hR.ex a q
  rw[sm _ _ e]at ha;cases ha
 ·have o:=L2.excAll_ok xa hn
  refine⟨_,Qc CF mf kf bf (LH hl9 hn Fw o hm0 hm1 hm2 hm3 hm4 hm5 hm6 hm7 hm8 zi zv zl) mw kw bw mD o hr,?_⟩
  refine⟨v0,rfl,v1,rfl,S,[x,y],_,il,hR.ex,hv,fun H1 s1=>⟨rfl,fun ea oe he hc hd hn' hno=>?_⟩⟩
  have s2:=Ax he (HO.frz oe (.own ea))
  refine⟨.ref ea,rfl,Aq,rfl,Aq,⟨hc,hd,hn'⟩,fun H2 s3=>⟨(by decide:2<=sizeLine),fun a ha=>?_⟩⟩
  have s4:=Ax ha (HO.tup [.str (whS n),.non])
  refine fin (r:=.tuple [.str (whS n),.none]) (fun b o e=>s4 _ _ (s3 _ _ (s2 _ _ (s1 _ _ e)))) ⟨a,[.str (whS n),.non],rfl,.inl (.inl (hid_iff.mpr ⟨fun q=>?_,Aq⟩)),_,_,rfl,rfl,_,_,rfl,rfl,rfl⟩ hq
  obtain⟨o',e⟩:=hR.ex a q
  rw[s3 _ _ (s2 _ _ (s1 _ _ e))]at ha;cases ha
end
section
variable {Z:Zz}
theorem YF{f:Addr}{fd:FuncData}(F:Fun Z.K "law" "law" Wy f fd)(c48:GW Z)(c49:Kh Z)(c57:HR Z)(c64:Lk Z)(c65:O6 Z)(c70:Uo Z)(c42:Ff Z)(z_list:zQ Z "list")(z_len:zQ Z "len")(z_min:zQ Z "min")(z_max:zQ Z "max")(z_range:zQ Z "range"):FnOk Z.P Z.w Z.K Z.mg Z.base CX0 13 f fd ["_law_script"] (spD Z.kw LM false):=AX ["_law_script","_law_rows","_law_stands","_law_k","_law_deed_here","_law_word","_law_made","_law_told_here"] F (by walk_at "top")
end
theorem BP{i j:Int}(h:0<j):Aa (.int i) (.int j)=some (.int (i % j)):=if_pos h
theorem Bo{i j:Int}(h:0<j)(h1:j<10 ^ 70):Aj (.int i) (.int j)=some (.int (i / j)):=if_pos ⟨h,Ud h h1⟩
theorem Vh{i j:Int}(h:CMulB i j):F5 (.int i) (.int j)=some (.int (i*j)):=if_pos h
theorem TL:Iy (.int 10) (.int 18)=some (.int 1000000000000000000):=rfl
theorem Mm{ns:List Int}{k:Int}(h0:0<=k):∃v:Int,C3 [.c (ns.map .int),.d (.int k)]=some (.int v,[.c (ns.map .int),.d (.int k)]):=by
 by_cases h:k<(ns.length:Int)
 ·have hk:k.toNat<ns.length:=by omega
  have e:(ns.map PyData.int)[k.toNat]?=some (.int ns[k.toNat]):=by simp[hk]
  exact⟨ns[k.toNat],by walk_at "b|C3,List.length_map,h0,h,decide_true,e"⟩
 ·exact⟨0,by walk_at "b|C3,List.length_map,h0,h,decide_false"⟩
theorem Xk{xs:List Int}{k:Int}(h0:0<=k)(h:k<(xs.length:Int)):∃v:Int,atI (xs.map PyData.int) k=some (.int v)/\v∈xs:=by
 have hk:k.toNat<xs.length:=by omega
 refine⟨xs[k.toNat],?_,List.getElem_mem hk⟩
 unfold atI ixN
 rw[List.length_map,if_pos h0,if_pos h]
 simp[hk]
def by8:PyData:=.tuple ([48271,69621,16807,39373,21401,60493,87721,31337].map .int)
def pr8:PyData:=.tuple ([99991,99989,99971,99961,99929,99923,99907,99901].map .int)
theorem Uq{ns:List Int}{k:Int}(h0:0<=k):∃(v:Int) (ls:List L),EO [.c (ns.map .int),.d (.int k)]=some (.int v,ls):=by
 obtain⟨cell,hc⟩:=Mm (ns:=ns) h0
 by_cases hb:(1000000000000000000:Int)<=cell
 ·exact⟨cell,_,by walk_at "b|EO,hc,TL,hb,decide_true";rfl⟩
 ·have lp:∃τ',BO (dN 6) (AK (AL (dOp Ap (dOp Ap (dOp Aa (Af 0 C3 (AA (dOp Ap (AB 1) (dOp Aa (AB 6) (dC (.int 9)))) AD)) (dOp Iy (dC (.int 10)) (dC (.int 18)))) (dC (.int 1))) (dOp F5 (AB 6) (AB 6))) (dN 7)) (AL (dOp Ap (dOp F5 (AB 5) (dC (.int 7919))) (dOp Aa (dOp Aa (dOp F5 (AB 7) (dOp AJ (AB 2) (dOp Aa (AB 6) (dC (.int 8))))) (dOp AJ (AB 3) (dOp Aa (AB 6) (dC (.int 8))))) (dC (.int 7919)))) (dN 5)))
    ((rng 0 60).map PyData.int) [some (.c (ns.map .int)),some (.d (.int k)),some (.d by8),some (.d pr8),some (.d (.int cell)),some (.d (.int 0)),none,none]=some (.nx τ') /\
    ∃(b:Int) (o1 o2:Option L),nM o1/\nM o2/\τ'=[some (.c (ns.map .int)),some (.d (.int k)),some (.d by8),some (.d pr8),some (.d (.int cell)),some (.d (.int b)),o1,o2]:=by
   refine MV (enc:=PyData.int) (pre:=[]) (fun _ τ=>∃(b:Int) (o1 o2:Option L),nM o1/\nM o2/\τ=[some (.c (ns.map .int)),some (.d (.int k)),some (.d by8),some (.d pr8),some (.d (.int cell)),some (.d (.int b)),o1,o2]) ⟨0,none,none,BB,BB,rfl⟩ ?_
   rintro j _ τ hj ⟨b,o1,o2,n1,n2,rfl⟩
   have hj':=(mem_rng (n:=60)).mp hj
   have h9:0<=j % 9:=Int.emod_nonneg _ (by decide)
   obtain⟨c,hc⟩:=Mm (ns:=ns) (k:=k+j % 9) (by omega)
   obtain⟨u1,hu1,m1⟩:=Xk (xs:=[48271,69621,16807,39373,21401,60493,87721,31337]) (k:=j % 8) (Int.emod_nonneg _ (by decide)) (Int.emod_lt_of_pos _ (by decide))
   obtain⟨u2,hu2,m2⟩:=Xk (xs:=[99991,99989,99971,99961,99929,99923,99907,99901]) (k:=j % 8) (Int.emod_nonneg _ (by decide)) (Int.emod_lt_of_pos _ (by decide))
   have hu1':AJ by8 (.int (j % 8))=some (.int u1):=hu1
   have hu2':AJ pr8 (.int (j % 8))=some (.int u2):=hu2
   have m1':-(2 ^ 64)<u1/\u1<2 ^ 64:=by
    simp only[List.mem_cons,List.not_mem_nil,or_false]at m1
    omega
   have m2':0<u2:=by
    simp only[List.mem_cons,List.not_mem_nil,or_false]at m2
    omega
   have x1:F5 (.int j) (.int j)=some (.int (j*j)):=Vh (.inl (.inl ⟨by omega,by omega⟩))
   have x2:F5 (.int b) (.int 7919)=some (.int (b*7919)):=Vh (.inl (.inr ⟨by decide,by decide⟩))
   have x3:∀z:Int,F5 (.int z) (.int u1)=some (.int (z*u1)):=fun z=>Vh (.inl (.inr m1'))
   have x4:∀z:Int,Aa (.int z) (.int u2)=some (.int (z % u2)):=fun z=>BP m2'
   have x5:∀z:Int,Aa (.int z) (.int 7919)=some (.int (z % 7919)):=fun z=>BP (by decide)
   have x6:∀z:Int,Aa (.int z) (.int 9)=some (.int (z % 9)):=fun z=>BP (by decide)
   have x7:∀z:Int,Aa (.int z) (.int 8)=some (.int (z % 8)):=fun z=>BP (by decide)
   have x8:∀z:Int,Aa (.int z) (.int 1000000000000000000)=some (.int (z % 1000000000000000000)):=fun z=>BP (by decide)
   refine⟨_,[some (.c (ns.map .int)),some (.d (.int k)),some (.d by8),some (.d pr8),some (.d (.int cell)),some (.d (.int (b*7919+(c % 1000000000000000000+1+j*j)*u1 % u2 % 7919))),some (.d (.int j)),some (.d (.int (c % 1000000000000000000+1+j*j)))],CD rfl n1,?_,_,_,_,Cv,Cv,rfl⟩
   refine(AH (τ1:=[some (.c (ns.map .int)),some (.d (.int k)),some (.d by8),some (.d pr8),some (.d (.int cell)),some (.d (.int b)),some (.d (.int j)),some (.d (.int (c % 1000000000000000000+1+j*j)))]) (AV (d:=.int (c % 1000000000000000000+1+j*j)) (τ1:=[some (.c (ns.map .int)),some (.d (.int k)),some (.d by8),some (.d pr8),some (.d (.int cell)),some (.d (.int b)),some (.d (.int j)),o2]) ?_ (CD rfl n2))).trans ?_
   ·simp only[dOp,AB,dC,Af,AA,AD,BC,Ap,fI,TL,hc,x1,x6,x8,List.getElem?_cons_zero,List.getElem?_cons_succ,List.set_cons_zero,List.set_cons_succ,Option.bind_some,Option.map_some,List.map_cons,List.map_nil]
   ·simp only[AL,dN,dOp,AB,dC,Ap,fI,hu1',hu2',x2,x3,x4,x5,x7,List.getElem?_cons_zero,List.getElem?_cons_succ,List.set_cons_zero,List.set_cons_succ,Option.bind_some,Option.map_some]
  obtain⟨τ',e,b,o1,o2,n1,n2,rfl⟩:=lp
  refine⟨b,[.c (ns.map .int),.d (.int k)],?_⟩
  have hr:dR1 (AA (dC (.int 60)) AD) [some (.c (ns.map .int)),some (.d (.int k)),some (.d by8),some (.d pr8),some (.d (.int cell)),some (.d (.int 0)),none,none]=some ((rng 0 60).map PyData.int,[some (.c (ns.map .int)),some (.d (.int k)),some (.d by8),some (.d pr8),some (.d (.int cell)),some (.d (.int 0)),none,none]):=by
   rw[<- MS];rfl
  refine AR (τ:=[some (.c (ns.map .int)),some (.d (.int k)),some (.d by8),some (.d pr8),some (.d (.int cell)),some (.d (.int b)),o1,o2]) ?_ rfl rfl
  refine(AH rfl).trans ((AH rfl).trans ((AH (τ1:=[some (.c (ns.map .int)),some (.d (.int k)),some (.d by8),some (.d pr8),some (.d (.int cell)),none,none,none]) (AV (HF (xs:=ns.map .int) rfl rfl rfl hc) rfl)).trans ?_))
  refine(AH (τ1:=[some (.c (ns.map .int)),some (.d (.int k)),some (.d by8),some (.d pr8),some (.d (.int cell)),none,none,none]) ?_).trans ((AH (τ1:=[some (.c (ns.map .int)),some (.d (.int k)),some (.d by8),some (.d pr8),some (.d (.int cell)),some (.d (.int 0)),none,none]) rfl).trans ((AH ((C6 hr).trans e)).trans rfl))
  walk_at "b|TL,hb,decide_false"
def gI(a b:Int):Int:=(Int.gcd a b:Nat)
theorem UD{a b:Int}(ha:0<=a)(hb:0<b):gI b (a % b)=gI a b:=by
 unfold gI
 rw[Int.gcd_eq_natAbs_gcd_natAbs,Int.gcd_eq_natAbs_gcd_natAbs]
 have e:(a % b).natAbs=a.natAbs % b.natAbs:=by
  rw[Int.natAbs_emod_of_nonneg ha]
 rw[e,Nat.gcd_comm,<- Nat.gcd_rec,Nat.gcd_comm]
theorem Qv{a:Int}(ha:0<=a):gI a 0=a:=by
 unfold gI
 rw[Int.gcd_zero_right]
 omega
theorem UC{a b:Int}(hb:0<b):0<gI a b:=by
 unfold gI
 have:0<Int.gcd a b:=Int.gcd_pos_of_ne_zero_right _ (by omega)
 omega
theorem bY{a b:Int}(hb:0<b):gI a b<=b:=by
 exact Int.gcd_le_right a hb
def frm(t b:Int):Cl:=(t / gI t b,b / gI t b)
def JV(i:Int):Int:=if i<0 then -i else i
theorem Ui{i:Int}(h:0<=i):JV i=i:=by unfold JV;rw[if_neg (by omega)]
theorem Q9(i:Int):0<=JV i:=by unfold JV;split<;>omega
theorem UE(a b:Int):gI (JV a) b=gI a b:=by
 unfold gI JV
 split
 ·rw[Int.neg_gcd]
 ·rfl
theorem YL{i j:Int}(h1:-1000000000<i)(h2:i<1000000000):F5 (.int i) (.int j)=some (.int (i*j)):=Vh (.inl (.inl ⟨by omega,by omega⟩))
structure OkF(s:Cl):Prop where
 lo:0<=s.1
 hi:s.1<=s.2
 b1:1<=s.2
 b2:s.2<=1000
 zero:s.1=0->s=(0,1)
 red:∃t b:Int,0<b/\s=frm t b
theorem OX{d1 d2:PyData}:∀(n:Nat) (a b:Int),0<=a->0<=b->b.toNat<n ->
  dWh (AE (dOp fGt (AB 3) (dC (.int 0)))) (Br 2 3 (AA (AB 3) (AA (dOp Aa (AB 2) (AB 3)) AD))) n [some (.d d1),some (.d d2),some (.d (.int a)),some (.d (.int b))]=some (.nx [some (.d d1),some (.d d2),some (.d (.int (gI a b))),some (.d (.int 0))])
 |0,a,b,_,_,h=>absurd h (Nat.not_lt_zero _)
 |n+1,a,b,ha,hb,h=>by
  let st:Int->Int->DS:=fun x y=>[some (.d d1),some (.d d2),some (.d (.int x)),some (.d (.int y))]
  have t:AE (dOp fGt (AB 3) (dC (.int 0))) (st a b)=some (decide (0<b),st a b):=rfl
  unfold dWh
  rw[show AE (dOp fGt (AB 3) (dC (.int 0))) [some (.d d1),some (.d d2),some (.d (.int a)),some (.d (.int b))]=some (decide (0<b),st a b) from t]
  by_cases hz:b=0
  ·subst hz
   rw[Qv ha];rfl
  ·have hp:0<b:=by omega
   have md:=Int.emod_lt_of_pos a hp
   have mn:=Int.emod_nonneg a (show b≠0 by omega)
   have e:=OX (d1:=d1) (d2:=d2) n b (a % b) hb mn (by omega)
   rw[decide_eq_true hp]
   have bd:Br 2 3 (AA (AB 3) (AA (dOp Aa (AB 2) (AB 3)) AD)) (st a b)=some (.nx (st b (a % b))):=by
    have:AA (AB 3) (AA (dOp Aa (AB 2) (AB 3)) AD) (st a b)=some ([.d (.int b),.d (.int (a % b))],st a b):=by
     show(((((Aa (.int a) (.int b)).map fun d=>(d,st a b)).bind fun p=>_).map _))=_
     rw[BP hp];rfl
    unfold Br
    rw[this];rfl
   show((Br _ _ _ (st a b)).bind _)=_
   rw[bd]
   show dWh _ _ n (st b (a % b))=_
   rw[<- UD ha hp]
   exact e
theorem YM{t b:Int}(hb:0<b)(hb2:b<10 ^ 70):Il [.d (.int t),.d (.int b)]=some (ec (frm t b),[.d (.int t),.d (.int b)]):=by
 have gp:=UC (a:=t) hb
 have gl:=bY (a:=t) hb
 have e:=OX (d1:=.int t) (d2:=.int b) (b.toNat+1) (JV t) b (Q9 t) (by omega) (Nat.lt_succ_self _)
 rw[UE]at e
 let st:Option L->Option L->DS:=fun o p=>[some (.d (.int t)),some (.d (.int b)),o,p]
 unfold Il
 refine AR (τ:=st (some (.d (.int (gI t b)))) (some (.d (.int 0)))) ?_ rfl rfl
 refine(AH (τ1:=st (some (.d (.int (JV t)))) (some (.d (.int b)))) rfl).trans ?_
 refine(AH e).trans ?_
 refine Ae (τ1:=st (some (.d (.int (gI t b)))) (some (.d (.int 0)))) ?_
 have d1:=Bo (i:=t) gp (by omega)
 have d2:=Bo (i:=b) gp (by omega)
 walk_at "b|st,d1,d2,ec,frm"
theorem UG{t b:Int}(h0:0<=t)(h1:t<=b)(h2:1<=b)(h3:b<=1000):OkF (frm t b):=by
 have gp:=UC (a:=t) (show 0<b by omega)
 have db:gI t b ∣ b:=by unfold gI;exact Int.gcd_dvd_right ..
 obtain⟨q,hq⟩:=db
 have eb:b / gI t b=q:=Int.ediv_eq_of_eq_mul_right (by omega) hq
 have q1:1<=q:=by
  rcases Int.lt_or_le q 1 with z|z
  ·have:gI t b*q<=0:=Int.mul_nonpos_of_nonneg_of_nonpos (by omega) (by omega)
   omega
  ·exact z
 have tl:t / gI t b<=b / gI t b:=Int.ediv_le_ediv gp h1
 have bl:b / gI t b<=b:=Int.ediv_le_self _ (by omega)
 refine⟨Int.ediv_nonneg h0 (by omega),tl,by show 1<=b / gI t b;omega,by show b / gI t b<=1000;omega,fun z=>?_,t,b,by omega,rfl⟩
 have z:t / gI t b=0:=z
 have dt:gI t b ∣ t:=by unfold gI;exact Int.gcd_dvd_left ..
 obtain⟨r,hr⟩:=dt
 have er:t / gI t b=r:=Int.ediv_eq_of_eq_mul_right (by omega) hr
 have r0:r=0:=by omega
 have t0:t=0:=by rw[hr,r0,Int.mul_zero]
 have g0:gI t b=b:=by
  rw[t0];unfold gI
  rw[Int.gcd_zero_left];omega
 unfold frm
 rw[g0,t0,Int.zero_ediv,Int.ediv_self (by omega)]
theorem Jh(v:Int):∃(s:Cl) (w:Int) (ls:List L),Dq [.d (.int v)]=some (.tuple [ec s,.int w],ls)/\OkF s:=by
 obtain⟨b0,e0,hb0⟩:=Xk (xs:=[1,1,2,3]) (k:=v % 4) (by omega) (by show v % 4<4;omega)
 have hb0:1<=b0/\b0<=1000:=by
  rcases List.mem_cons.mp hb0 with rfl|hb0
  ·decide
  ·rcases List.mem_cons.mp hb0 with rfl|hb0
   ·decide
   ·rcases List.mem_cons.mp hb0 with rfl|hb0
    ·decide
    ·rw[List.mem_singleton.mp hb0];decide
 let st:Int->Option L->DS:=fun x o=>[some (.d (.int x)),o]
 have fin:∀b:Int,1<=b->b<=1000->∃(s:Cl) (w:Int),AK (AL (dOp Aj (AB 0) (dC (.int 16000))) (dN 0)) (AN (AW (AA (AF Il (AA (dOp Aa (AB 0) (dOp Ap (AB 1) (dC (.int 1)))) (AA (AB 1) AD))) (AA (dOp Aj (AB 0) (dOp Ap (AB 1) (dC (.int 1)))) AD)))) (st v (some (.d (.int b))))=some (.rt (.tuple [ec s,.int w]) (st (v / 16000) (some (.d (.int b)))))/\OkF s:=fun b h1 h2=>by
  have m0:=Int.emod_nonneg (v / 16000) (show b+1≠0 by omega)
  have m1:=Int.emod_lt_of_pos (v / 16000) (show 0<b+1 by omega)
  refine⟨frm (v / 16000 % (b+1)) b,v / 16000 / (b+1),?_,UG m0 (by omega) h1 h2⟩
  have l:=YM (t:=v / 16000 % (b+1)) (b:=b) (by omega) (by omega)
  have d1:=Bo (i:=v) (j:=16000) (by decide) (by decide)
  have d2:=BP (i:=v / 16000) (j:=b+1) (by omega)
  have d3:=Bo (i:=v / 16000) (j:=b+1) (by omega) (by omega)
  walk_at "b|st,l,d1,d2,d3"
 have c2:∀b:Int,1<=b->b<=1000->∃b',1<=b'/\b'<=1000/\AQ (AE (dOp fEq (dOp Aa (dOp Aj (AB 0) (dC (.int 4))) (dC (.int 16))) (dC (.int 1)))) (AL (dOp Ap (dC (.int 1)) (dOp Aa (dOp Aj (AB 0) (dC (.int 16))) (dC (.int 1000)))) (dN 1)) AO (st v (some (.d (.int b))))=some (.nx (st v (some (.d (.int b'))))):=fun b h1 h2=>by
  have d1:=Bo (i:=v) (j:=4) (by decide) (by decide)
  have d2:=BP (i:=v / 4) (j:=16) (by decide)
  have d3:=Bo (i:=v) (j:=16) (by decide) (by decide)
  have d4:=BP (i:=v / 16) (j:=1000) (by decide)
  by_cases h:v / 4 % 16=1
  ·refine⟨1+v / 16 % 1000,by omega,by omega,?_⟩
   have q:fEq (.int (v / 4 % 16)) (.int 1)=some (.bool true):=by rw[encI.fEq,decide_eq_true h]
   walk_at "b|st,d1,d2,q,d3,d4"
  ·refine⟨b,h1,h2,?_⟩
   have q:fEq (.int (v / 4 % 16)) (.int 1)=some (.bool false):=by rw[encI.fEq,decide_eq_false h]
   walk_at "b|st,d1,d2,q"
 have c1:∀b:Int,1<=b->b<=1000->∃b',1<=b'/\b'<=1000/\AQ (AE (dOp fEq (dOp Aa (dOp Aj (AB 0) (dC (.int 4))) (dC (.int 4))) (dC (.int 0)))) (AL (dOp Ap (dC (.int 1)) (dOp Aa (dOp Aj (AB 0) (dC (.int 16))) (dC (.int 12)))) (dN 1)) AO (st v (some (.d (.int b))))=some (.nx (st v (some (.d (.int b'))))):=fun b h1 h2=>by
  have d1:=Bo (i:=v) (j:=4) (by decide) (by decide)
  have d2:=BP (i:=v / 4) (j:=4) (by decide)
  have d3:=Bo (i:=v) (j:=16) (by decide) (by decide)
  have d4:=BP (i:=v / 16) (j:=12) (by decide)
  by_cases h:v / 4 % 4=0
  ·refine⟨1+v / 16 % 12,by omega,by omega,?_⟩
   have q:fEq (.int (v / 4 % 4)) (.int 0)=some (.bool true):=by rw[encI.fEq,decide_eq_true h]
   walk_at "b|st,d1,d2,q,d3,d4"
  ·refine⟨b,h1,h2,?_⟩
   have q:fEq (.int (v / 4 % 4)) (.int 0)=some (.bool false):=by rw[encI.fEq,decide_eq_false h]
   walk_at "b|st,d1,d2,q"
 obtain⟨b1,g1,g2,e1⟩:=c1 b0 hb0.1 hb0.2
 obtain⟨b2,g3,g4,e2⟩:=c2 b1 g1 g2
 obtain⟨s,w,e3,hs⟩:=fin b2 g3 g4
 refine⟨s,w,[.d (.int v)],?_,hs⟩
 unfold Dq
 refine AR (τ:=st (v / 16000) (some (.d (.int b2)))) ?_ rfl rfl
 refine(AH (τ1:=st v (some (.d (.int b0)))) (AV (d:=.int b0) (τ1:=st v none) ?_ rfl)).trans ((AH e1).trans ((AH e2).trans e3))
 have m:=BP (i:=v) (j:=4) (by decide)
 show(((Aa (.int v) (.int 4)).map fun d=>(d,st v none)).bind fun q=>(AJ (.tuple ([1,1,2,3].map PyData.int)) q.1).map fun d=>(d,q.2))=_
 rw[m]
 show((atI ([1,1,2,3].map PyData.int) (v % 4)).map fun d=>(d,st v none))=_
 rw[e0];rfl
theorem acc{f:DX}{a:DA}{τ τ1 τ2:DS}{d:PyData}{rs:List Ar}(h:f τ=some (d,τ1))(k:a τ1=some (rs,τ2)):AA f a τ=some (.d d::rs,τ2):=by
 unfold AA
 rw[h]
 show((a τ1).map _)=_
 rw[k];rfl
theorem tst{f:DX}{τ τ1:DS}{b:Bool}(h:f τ=some (.bool b,τ1)):AE f τ=some (b,τ1):=by
 unfold AE
 rw[h];rfl
theorem DU{t:DT}{τ τ1:DS}{b:Bool}(h:t τ=some (b,τ1)):As t τ=some (!b,τ1):=by
 unfold As
 rw[h];rfl
theorem op2{F:PyData->PyData->Option PyData}{f g:DX}{τ τ1 τ2:DS}{x y r:PyData}(h:f τ=some (x,τ1))(k:g τ1=some (y,τ2))(e:F x y=some r):dOp F f g τ=some (r,τ2):=by
 unfold dOp
 rw[h]
 show((g τ1).bind _)=_
 rw[k]
 show((F x y).map _)=_
 rw[e];rfl
theorem QM{i:Nat}{f:DT}{τ τ1:DS}{b:Bool}{xs:List PyData}(hi:τ[i]?=some (some (.m xs)))(hf:f (τ.set i (some (.d (.list xs))))=some (b,τ1))(hx:τ1.all okM=true):C7 i f τ=some (b,τ1.set i (some (.m xs))):=by
 unfold C7
 rw[hi]
 dsimp only
 rw[hf]
 dsimp only[Option.bind]
 rw[if_pos hx]
theorem Hz{x y:DT}{τ τ1 τ2:DS}(h1:x τ=some (false,τ1))(h2:y τ1=some (false,τ2)):BZ x y τ=some (false,τ2):=by
 unfold BZ
 rw[h1];exact h2
theorem F8{a b:DT}{τ:DS}{p q:Bool}(h1:a τ=some (p,τ))(h2:b τ=some (q,τ)):Ad a b τ=some (p&&q,τ):=by
 unfold Ad
 rw[h1]
 cases p with
 |true=>exact h2
 |false=>rfl
theorem Ef{a b:DX}{τ τ1:DS}(h:a τ=some (.bool true,τ1)):Cb a b τ=b τ1:=by
 unfold Cb
 rw[tst h];rfl
abbrev Tx:={ s:Str // PyData.strOk s=true }
def eT(t:Tx):PyData:=.str t.1
theorem encT:Enc eT:=by
 refine⟨fun a b=>?_,fun a=>?_,fun a=>?_,fun _=>rfl⟩
 ·unfold eT
  rw[PyData.eqv]
  by_cases h:a=b
  ·subst h;simp
  ·rw[decide_eq_false h]
   exact beq_eq_false_iff_ne.mpr fun z=>h (Subtype.ext z)
 ·show PyData.canLay0 (.str a.1)=true
  rw[PyData.canLay0];exact a.2
 ·show PyData.depth (.str a.1)<=20
  rw[PyData.depth];decide
def t0:Tx:=⟨"",∅⟩
inductive Dz where
 |plate (w h:Int) (a b:Cl)
 |band (w h:Int) (a b:Cl)
 |word (t:Tx) (a b:Cl)
 |stencil (rs:List Tx) (a b:Cl)
 |group
 |glass (a:Cl)
 |window (w h x y:Int)
 |turn (q:Int) (f:Bool)
 |tiles (a b x y:Int)
 |mask
 deriving DecidableEq
def kz:Dz->Nat
 |.plate ..=>0
 |.band ..=>1
 |.word ..=>2
 |.stencil ..=>3
 |.group=>4
 |.glass _=>5
 |.window ..=>6
 |.turn ..=>7
 |.tiles ..=>8
 |.mask=>9
def kS:Nat->Tx
 |0=>⟨"plate",∅⟩
 |1=>⟨"band",∅⟩
 |2=>⟨"word",∅⟩
 |3=>⟨"stencil",∅⟩
 |4=>⟨"group",∅⟩
 |5=>⟨"glass",∅⟩
 |6=>⟨"window",∅⟩
 |7=>⟨"turn",∅⟩
 |8=>⟨"tiles",∅⟩
 |_=>⟨"mask",∅⟩
theorem YT:∀i j:Fin 10,kS i=kS j->i=j:=∅
theorem Cn(d:Dz):kz d<10:=by cases d<;>simp[kz]
theorem DY{i j:Nat}(hi:i<10)(hj:j<10)(h:kS i=kS j):i=j:=Fin.mk.inj (YT ⟨i,hi⟩ ⟨j,hj⟩ h)
def eD:Dz->PyData
 |.plate w h a b=>.tuple [.int w,.int h,ec a,ec b]
 |.band w h a b=>.tuple [.int w,.int h,ec a,ec b]
 |.word t a b=>.tuple [eT t,ec a,ec b]
 |.stencil rs a b=>.tuple [.tuple (rs.map eT),ec a,ec b]
 |.group=>.tuple []
 |.glass a=>.tuple [ec a]
 |.window w h x y=>.tuple [.int w,.int h,.int x,.int y]
 |.turn q f=>.tuple [.int q,.bool f]
 |.tiles a b x y=>.tuple [.int a,.int b,.int x,.int y]
 |.mask=>.tuple []
structure Rz where
 n:Tx
 h:Tx
 x:Int
 y:Int
 s:Bool
 d:Dz
 deriving DecidableEq
def eZ(r:Rz):PyData:=.tuple [eT r.n,eT r.h,.int r.x,.int r.y,.bool r.s,eT (kS (kz r.d)),eD r.d]
theorem ecq(a b:Cl):PyData.eqv (ec a) (ec b)=decide (a=b):=encC.eqv a b
theorem bN(a b:Int):PyData.eqv (.int a) (.int b)=decide (a=b):=encI.eqv a b
theorem XN(a b:Bool):PyData.eqv (.bool a) (.bool b)=decide (a=b):=by rw[PyData.eqv];cases a<;>cases b<;>rfl
theorem fF(a b:Int):(a==b)=decide (a=b):=rfl
theorem fG(a b:Bool):(a==b)=decide (a=b):=by cases a<;>cases b<;>rfl
theorem eDq:∀a b:Dz,kz a=kz b->PyData.eqv (eD a) (eD b)=decide (a=b):=by
 intro a b h
 cases a<;>cases b<;>first
  |(exfalso;simp[kz]at h;done)
  |(simp only[eD,PyData.eqv,PyData.eqvAll,ecq,bN,XN,fF,fG,encT.eqv,encT.eqvL,Bool.and_true,Dz.plate.injEq,Dz.band.injEq,Dz.word.injEq,Dz.stencil.injEq,Dz.glass.injEq,Dz.window.injEq,Dz.turn.injEq,Dz.tiles.injEq,Bool.decide_and,decide_true])
theorem XI:∀rs:List Tx,PyData.depthAll (rs.map eT)<=1
 |[]=>by rw[List.map_nil,PyData.depthAll];decide
 |r::rs=>by
  have:=XI rs
  rw[List.map_cons,PyData.depthAll]
  unfold eT at *
  simp only[PyData.depth]
  omega
theorem encZ:Enc eZ:=by
 refine⟨fun a b=>?_,fun a=>?_,fun a=>?_,fun a=>?_⟩
 ·unfold eZ
  simp only[PyData.eqv,PyData.eqvAll,bN,XN,encT.eqv,Bool.and_true]
  obtain⟨a1,a2,a3,a4,a5,a6⟩:=a
  obtain⟨b1,b2,b3,b4,b5,b6⟩:=b
  simp only[Rz.mk.injEq,Bool.decide_and]
  by_cases h:kz a6=kz b6
  ·rw[eDq a6 b6 h,h,decide_eq_true rfl,Bool.true_and]
   simp[Bool.beq_eq_decide_eq]
  ·have h1:kS (kz a6)≠kS (kz b6):=fun z=>h (DY (Cn _) (Cn _) z)
   have h2:a6≠b6:=fun z=>h (by rw[z])
   rw[decide_eq_false h1,decide_eq_false h2]
   simp
 ·show PyData.canLay0 (.tuple _)=true
  simp only[PyData.canLay0,PyData.canLayAll0,encT.can,Bool.true_and,Bool.and_true]
  cases a.d<;>simp only[eD,PyData.canLay0,PyData.canLayAll0,encT.can,encC.can,encT.canL,Bool.true_and,Bool.and_true]
 ·have hc:=encC.dep
  have key:PyData.depth (eD a.d)<=10:=by
   cases a.d with
   |stencil rs x y =>
    have:=XI rs
    simp only[eD,ec,PyData.depth,PyData.depthAll]
    omega
   |word t x y=>simp[eD,eT,ec,PyData.depth,PyData.depthAll]
   |_=>simp[eD,ec,PyData.depth,PyData.depthAll]
  show PyData.depth (.tuple _)<=20
  simp only[PyData.depth,PyData.depthAll,eT]
  omega
 ·show DN (.tuple _)=true
  simp only[DN,fixDs,encT.fix,Bool.true_and,Bool.and_true]
  cases a.d<;>simp only[eD,DN,fixDs,encT.fix,encC.fix,encT.fixL,Bool.true_and,Bool.and_true]
theorem Ic(n:Nat):(rng 0 n).map PyData.int=(List.range n).map fun(k:Nat)=>PyData.int (k:Int):=by
 unfold rng
 rw[List.map_map]
 refine List.map_congr_left fun k _=>?_
 show PyData.int (0+(k:Int))=_
 rw[Int.zero_add]
theorem Zr{i:Nat}{f:DX}{τ τ1:DS}{d:PyData}{xs:List PyData}(hi:τ[i]?=some (some (.m xs)))(hf:f (τ.set i (some (.d (.list xs))))=some (d,τ1))(hx:(DN d&&τ1.all okM)=true):Du i f τ=some (d,τ1.set i (some (.m xs))):=by
 unfold Du
 rw[hi]
 show(f _).bind _=_
 rw[hf]
 show(if _ then _ else _)=_
 rw[if_pos hx]
theorem EF{F:List PyData->Option PyData}{f:DX}{τ τ1:DS}{d r:PyData}(h:f τ=some (d,τ1))(e:F [d]=some r):AY F (AA f AD) τ=some (r,τ1):=by
 unfold AY
 rw[acc h rfl]
 show((F [d]).map _)=_
 rw[e];rfl
theorem Uh{i:Nat}{a:DA}{τ τ1:DS}{d:PyData}{xs:List PyData}(h:a τ=some ([.d d],τ1))(m:τ1[i]?=some (some (.m xs)))(hz:xs.length<900):Bh (dMt i Ay a) τ=some (.nx (τ1.set i (some (.m (xs++[d]))))):=by
 have hs:xs.length<sizeLine:=Nat.lt_of_lt_of_le hz (by decide)
 unfold Bh dMt
 rw[h]
 show((match τ1[i]? with|some (some (.m xs))=>_|_=>_):Option (PyData×DS)).map _=_
 rw[m]
 show((if xs.length<sizeLine then some (PyData.none,xs++[d]) else none).map _).map _=_
 rw[if_pos hs]
 rfl
theorem Gh{a:DA}{τ τ1:DS}{rs:List Ar}{ds:List PyData}(h:a τ=some (rs,τ1))(k:BC rs=some ds)(hz:ds.length<=1000):AW a τ=some (.tuple ds,τ1):=by
 unfold AW
 rw[h]
 show(BC rs).bind _=_
 rw[k]
 show(if ds.length<=sizeLine then _ else _)=_
 rw[if_pos (sz hz)]
theorem Uw{c:DT}{b:DB}{n:Nat}{τ τ1:DS}(h:c τ=some (false,τ1)):dWh c b (n+1) τ=some (.nx τ1):=by
 rw[dWh,h];rfl
theorem Xb{c:DT}{b:DB}{n:Nat}{τ τ1 τ2:DS}(h:c τ=some (true,τ1))(k:b τ1=some (.nx τ2)):dWh c b (n+1) τ=dWh c b n τ2:=by
 rw[dWh,h]
 show(b τ1).bind _=_
 rw[k];rfl
theorem Wc{i:Nat}{f:DX}{τ:DS}{xs:List PyData}{d:PyData}(hi:τ[i]?=some (some (.m xs)))(hf:f (τ.set i (some (.d (.list xs))))=some (d,τ.set i (some (.d (.list xs)))))(hd:DN d=true)(hok:(τ.set i (some (.d (.list xs)))).all okM=true):Du i f τ=some (d,τ):=by
 unfold Du
 rw[hi]
 dsimp only
 rw[hf]
 dsimp only[Option.bind]
 rw[hd,hok,Bool.and_self,if_pos rfl,List.set_set]
 congr 2
 obtain⟨hlt,he⟩:=List.getElem?_eq_some_iff.mp hi
 rw[<- he,List.set_getElem_self]
def FH(al s:Str):Prop:=∀c∈s.cps.toList,c∈al.cps.toList
def alN:Str:="abcdefghijklmnopqrstuvwxyz0123456789"
def alW:Str:="0123456789abcdef-_"
def alS:Str:="#."
theorem NV{al s:Str}(ha:PyData.strOk al=true)(h:FH al s):PyData.strOk s=true:=by
 unfold PyData.strOk at *
 rw[Array.all_eq_true_iff_forall_mem]at *
 exact fun c hc=>ha c (Array.mem_toList_iff.mp (h c (Array.mem_toList_iff.mpr hc)))
theorem ixA{al:Str}{m:Int}(h0:0<m)(hl:(al.length:Int)=m)(hz:m<=100)(v:Int):∃c,c∈al.cps.toList/\LV (.str al) (.int (v % m))=some (.str ⟨#[c]⟩):=by
 have hk0:=Int.emod_nonneg v (show m≠0 by omega)
 have hk1:=Int.emod_lt_of_pos v h0
 have e:al.cps.toList.length=al.length:=rfl
 have hk:(v % m).toNat<al.cps.toList.length:=by omega
 refine⟨al.cps.toList[(v % m).toNat],List.getElem_mem hk,?_⟩
 show(if al.length<=sizeLine then _ else _)=_
 rw[if_pos (sz (by omega))]
 unfold atI ixN
 rw[if_pos hk0,if_pos (by omega)]
 show(al.cps.toList[(v % m).toNat]?).map _=_
 rw[List.getElem?_eq_getElem hk];rfl
theorem dB{s:Str}{c:Nat}(h:s.length<=100):G4 (.str s) (.str ⟨#[c]⟩)=some (.str (s++(⟨#[c]⟩:Str))):=by
 show(if s.length+1<=sizeLine then _ else _)=_
 rw[if_pos (sz (by omega))]
theorem Q3(s:Str)(c:Nat):(s++(⟨#[c]⟩:Str)).length=s.length+1:=by
 show(s.cps++#[c]).size=_
 rw[Array.size_append];rfl
theorem UZ{al s:Str}{c:Nat}(h:FH al s)(hc:c∈al.cps.toList):FH al (s++(⟨#[c]⟩:Str)):=by
 intro x hx
 have:x∈(s.cps++#[c]).toList:=hx
 rw[Array.toList_append]at this
 rcases List.mem_append.mp this with z|z
 ·exact h x z
 ·rw[List.mem_singleton.mp z];exact hc
theorem T5(al:Str):FH al "":=by
 intro c hc
 have:(Str.cps "").toList=[]:=∅
 rw[this]at hc;cases hc
def sgB(al:Str)(m:Int):DB:=AK (AL (dOp G4 (AB 1) (dOp LV (dC (.str al)) (dOp Aa (AB 0) (dC (.int m))))) (dN 1)) (AL (dOp Aj (AB 0) (dC (.int m))) (dN 0))
theorem QQ{al:Str}{m:Int}(h0:0<m)(hl:(al.length:Int)=m)(hz:m<=100)(n:Int)(n0:0<=n)(n1:n<=50)(v:Int):∃(u:Int) (s:Str) (o:Option L),nM o/\(s.length:Int)=n/\FH al s /\
  BO (dN 3) (sgB al m) ((rng 0 n.toNat).map PyData.int) [some (.d (.int v)),some (.d (.str "")),some (.d (.int n)),none]=some (.nx [some (.d (.int u)),some (.d (.str s)),some (.d (.int n)),o]):=by
 let st:Int->Str->Option L->DS:=fun u s o=>[some (.d (.int u)),some (.d (.str s)),some (.d (.int n)),o]
 have lp:∃τ',BO (dN 3) (sgB al m) ((List.range n.toNat).map fun(k:Nat)=>PyData.int (k:Int)) (st v "" none)=some (.nx τ')/\∃u s o,nM o/\s.length=(List.range n.toNat).length/\FH al s/\τ'=st u s o:=by
  refine C4 (fun(pre:List Nat) τ=>∃u s o,nM o/\s.length=pre.length/\FH al s/\τ=st u s o) ⟨v,"",none,BB,∅,T5 al,rfl⟩ ?_
  rintro pre k post τ hp ⟨u,s,o,ho,hr,hall,rfl⟩
  have hl':=Ej hp
  rw[List.length_range]at hl'
  let K:Option L:=some (.d (.int (k:Int)))
  obtain⟨c,hc,ej⟩:=ixA h0 hl hz u
  let s':=s++(⟨#[c]⟩:Str)
  have s1:AL (dOp G4 (AB 1) (dOp LV (dC (.str al)) (dOp Aa (AB 0) (dC (.int m))))) (dN 1) (st u s K)=some (.nx (st u s' K)) :=
   AV (d:=.str s') (τ1:=st u s K) (op2 (x:=.str s) (y:=.str ⟨#[c]⟩) (τ1:=st u s K) rfl (op2 (x:=.str al) (y:=.int (u % m)) (τ1:=st u s K) rfl (op2 (x:=.int u) (y:=.int m) (τ1:=st u s K) rfl rfl (BP h0)) ej) (dB (by omega))) rfl
  have s2:AL (dOp Aj (AB 0) (dC (.int m))) (dN 0) (st u s' K)=some (.nx (st (u / m) s' K)) :=
   AV (d:=.int (u / m)) (τ1:=st u s' K) (op2 (x:=.int u) (y:=.int m) (τ1:=st u s' K) rfl rfl (Bo h0 (by omega))) rfl
  exact⟨st u s K,_,CD (o:=o) rfl ho,(AH s1).trans s2,u / m,s',K,Cv,by rw[Q3,List.length_append,hr];rfl,UZ hall hc,rfl⟩
 obtain⟨τ',e,u,s,o,ho,hl,hall,rfl⟩:=lp
 rw[<- Ic]at e
 rw[List.length_range]at hl
 exact⟨u,s,o,ho,by omega,hall,e⟩
theorem Pq(v:Int):∃(t:Tx) (w:Int) (ls:List L),FP [.d (.int v)]=some (.tuple [eT t,.int w],ls)/\1<=t.1.length/\t.1.length<=8/\FH alN t.1:=by
 obtain⟨u,s,o,ho,hl,ha,e⟩:=QQ (al:=alN) (m:=36) (by decide) ∅ (by decide) (1+v % 8) (by omega) (by omega) (v / 8)
 refine⟨⟨s,NV ∅ ha⟩,u,[.d (.int v)],?_,by show 1<=s.length;omega,by show s.length<=8;omega,ha⟩
 unfold FP
 let I:Int->Option L:=fun i=>some (.d (.int i))
 let T:Option L:=some (.d (.str ""))
 refine AR (τ:=[I u,some (.d (.str s)),I (1+v % 8),o]) ?_ rfl rfl
 have z2:AL (dOp Ap (dC (.int 1)) (dOp Aa (AB 0) (dC (.int 8)))) (dN 2) [I v,T,none,none]=some (.nx [I v,T,I (1+v % 8),none]):=by
  have d:=BP (i:=v) (j:=8) (by decide)
  walk_at "b|I,T,d"
 have z3:AL (dOp Aj (AB 0) (dC (.int 8))) (dN 0) [I v,T,I (1+v % 8),none]=some (.nx [I (v / 8),T,I (1+v % 8),none]):=by
  have d:=Bo (i:=v) (j:=8) (by decide) (by decide)
  walk_at "b|I,T,d"
 refine(AH rfl).trans ((AH z2).trans ((AH z3).trans ?_))
 exact(AH ((C6 (J0 (n:=1+v % 8) (τ1:=[I (v / 8),T,I (1+v % 8),none]) rfl (by omega) (by omega))).trans e)).trans rfl
theorem PB(v:Int):∃(t:Tx) (w:Int) (ls:List L),FN [.d (.int v)]=some (.tuple [eT t,.int w],ls)/\t.1.length<=6/\FH alW t.1:=by
 obtain⟨u,s,o,ho,hl,ha,e⟩:=QQ (al:=alW) (m:=18) (by decide) ∅ (by decide) (v % 7) (by omega) (by omega) (v / 7)
 refine⟨⟨s,NV ∅ ha⟩,u,[.d (.int v)],?_,by show s.length<=6;omega,ha⟩
 unfold FN
 let I:Int->Option L:=fun i=>some (.d (.int i))
 let T:Option L:=some (.d (.str ""))
 refine AR (τ:=[I u,some (.d (.str s)),I (v % 7),o]) ?_ rfl rfl
 have z2:AL (dOp Aa (AB 0) (dC (.int 7))) (dN 2) [I v,T,none,none]=some (.nx [I v,T,I (v % 7),none]):=by
  have d:=BP (i:=v) (j:=7) (by decide)
  walk_at "b|I,T,d"
 have z3:AL (dOp Aj (AB 0) (dC (.int 7))) (dN 0) [I v,T,I (v % 7),none]=some (.nx [I (v / 7),T,I (v % 7),none]):=by
  have d:=Bo (i:=v) (j:=7) (by decide) (by decide)
  walk_at "b|I,T,d"
 refine(AH rfl).trans ((AH z2).trans ((AH z3).trans ?_))
 exact(AH ((C6 (J0 (n:=v % 7) (τ1:=[I (v / 7),T,I (v % 7),none]) rfl (by omega) (by omega))).trans e)).trans rfl
theorem D0(v:Int):∃(x w:Int) (ls:List L),BD [.d (.int v)]=some (.tuple [.int x,.int w],ls)/\-60<=x/\x<=60:=by
 have d1:=BP (i:=v) (j:=6) (by decide)
 have d2:=Bo (i:=v) (j:=6) (by decide) (by decide)
 have d3:=BP (i:=v / 6) (j:=121) (by decide)
 have d4:=BP (i:=v / 6) (j:=12) (by decide)
 have d5:=Bo (i:=v) (j:=726) (by decide) (by decide)
 have d6:=Bo (i:=v) (j:=72) (by decide) (by decide)
 by_cases h:v % 6=0
 ·refine⟨v / 6 % 121-60,v / 726,[.d (.int v)],?_,by omega,by omega⟩
  have q:fEq (.int (v % 6)) (.int 0)=some (.bool true):=by rw[encI.fEq,decide_eq_true h]
  walk_at "b|BD,d1,d2,d3,d5,q"
 ·refine⟨v / 6 % 12-3,v / 72,[.d (.int v)],?_,by omega,by omega⟩
  have q:fEq (.int (v % 6)) (.int 0)=some (.bool false):=by rw[encI.fEq,decide_eq_false h]
  walk_at "b|BD,d1,d2,d4,d6,q"
theorem F9(v m:Int)(m0:5<=m)(m1:m<=100):∃(x w:Int) (ls:List L),Cd [.d (.int v),.d (.int m)]=some (.tuple [.int x,.int w],ls)/\1<=x/\x<=m:=by
 have d1:=BP (i:=v) (j:=8) (by decide)
 have d2:=Bo (i:=v) (j:=8) (by decide) (by decide)
 have d3:=BP (i:=v / 8) (j:=m) (by omega)
 have d4:=Bo (i:=v / 8) (j:=m) (by omega) (by omega)
 have d5:=BP (i:=v / 8) (j:=5) (by decide)
 have d6:=Bo (i:=v) (j:=40) (by decide) (by decide)
 have g0:=Int.emod_nonneg (v / 8) (show m≠0 by omega)
 have g1:=Int.emod_lt_of_pos (v / 8) (show 0<m by omega)
 by_cases h:v % 8=0
 ·refine⟨1+v / 8 % m,v / 8 / m,[.d (.int v),.d (.int m)],?_,by omega,by omega⟩
  have q:fEq (.int (v % 8)) (.int 0)=some (.bool true):=by rw[encI.fEq,decide_eq_true h]
  walk_at "b|Cd,d1,d2,d3,d4,q"
 ·refine⟨1+v / 8 % 5,v / 40,[.d (.int v),.d (.int m)],?_,by omega,by omega⟩
  have q:fEq (.int (v % 8)) (.int 0)=some (.bool false):=by rw[encI.fEq,decide_eq_false h]
  walk_at "b|Cd,d1,d2,d5,d6,q"
theorem N7(v:Int):∃(a b:Cl) (w:Int) (ls:List L),DD [.d (.int v)]=some (.tuple [ec a,ec b,.int w],ls)/\OkF a/\OkF b:=by
 obtain⟨a,u,l1,e1,oa⟩:=Jh v
 obtain⟨b,w,l2,e2,ob⟩:=Jh (u / 3)
 have d1:=BP (i:=u) (j:=3) (by decide)
 have d2:=Bo (i:=u) (j:=3) (by decide) (by decide)
 by_cases h:u % 3=0
 ·refine⟨a,(1,1),u / 3,[.d (.int v)],?_,oa,?_⟩
  ·have q:fEq (.int (u % 3)) (.int 0)=some (.bool true):=by rw[encI.fEq,decide_eq_true h]
   walk_at "a|DD,e1,q,d1,d2"
   rfl
  ·have:=UG (t:=1) (b:=1) (by decide) (by decide) (by decide) (by decide)
   rwa [show frm 1 1=(1,1) by decide]at this
 ·refine⟨a,b,w,[.d (.int v)],?_,oa,ob⟩
  have q:fEq (.int (u % 3)) (.int 0)=some (.bool false):=by rw[encI.fEq,decide_eq_false h]
  walk_at "a|DD,e1,e2,q,d1,d2"
theorem eU:∀rs:List Tx,fixDs (rs.map eT)=true:=encT.fixL
theorem Lr(v:Int):∃(R:List Tx) (w:Nat) (v':Int) (ls:List L),Dm [.d (.int v)]=some (.tuple [.tuple (R.map eT),.int v'],ls)/\1<=R.length/\R.length<=8/\1<=w/\w<=8/\∀r∈R,r.1.length=w/\FH alS r.1:=by
 generalize hw:(1+v % 8:Int)=W
 generalize hh:(1+v / 8 % 8:Int)=Hh
 have w1:1<=W:=by omega
 have w2:W<=8:=by omega
 have h1:1<=Hh:=by omega
 have h2:Hh<=8:=by omega
 let I:Int->Option L:=fun i=>some (.d (.int i))
 let st:Int->List Tx->Option L->Option L->Option L->DS:=fun u R o4 o5 o6=>[I u,I W,I Hh,some (.m (R.map eT)),o4,o5,o6]
 let S:Str->Option L:=fun r=>some (.d (.str r))
 let Bi:DB:=AK (AL (dOp G4 (AB 5) (dOp LV (dC (.str "#.")) (dOp Aa (AB 0) (dC (.int 2))))) (dN 5)) (AL (dOp Aj (AB 0) (dC (.int 2))) (dN 0))
 have inner:∀(u:Int) (R:List Tx) (o4 o6:Option L),nM o6->∃τ',BO (dN 6) Bi ((List.range W.toNat).map fun(k:Nat)=>PyData.int (k:Int)) (st u R o4 (S "") o6)=some (.nx τ')/\∃u' r o,nM o/\r.length=(List.range W.toNat).length/\FH alS r/\τ'=st u' R o4 (S r) o:=by
  intro u R o4 o6 n6
  refine C4 (fun(pre:List Nat) τ=>∃u' r o,nM o/\r.length=pre.length/\FH alS r/\τ=st u' R o4 (S r) o) ⟨u,"",o6,n6,∅,T5 _,rfl⟩ ?_
  rintro pre k post τ hp ⟨u',r,o,ho,hr,hall,rfl⟩
  have hl:=Ej hp
  rw[List.length_range]at hl
  let K:Option L:=I (k:Int)
  let τ1:=st u' R o4 (S r) K
  obtain⟨c,hc,ej⟩:=ixA (al:=alS) (m:=2) (by decide) ∅ (by decide) u'
  let r':=r++(⟨#[c]⟩:Str)
  have s1:AL (dOp G4 (AB 5) (dOp LV (dC (.str "#.")) (dOp Aa (AB 0) (dC (.int 2))))) (dN 5) τ1=some (.nx (st u' R o4 (S r') K)) :=
   AV (d:=.str r') (τ1:=τ1) (op2 (x:=.str r) (y:=.str ⟨#[c]⟩) (τ1:=τ1) rfl (op2 (x:=.str "#.") (y:=.int (u' % 2)) (τ1:=τ1) rfl (op2 (x:=.int u') (y:=.int 2) (τ1:=τ1) rfl rfl (BP (by decide))) ej) (dB (by omega))) rfl
  have s2:AL (dOp Aj (AB 0) (dC (.int 2))) (dN 0) (st u' R o4 (S r') K)=some (.nx (st (u' / 2) R o4 (S r') K)) :=
   AV (d:=.int (u' / 2)) (τ1:=st u' R o4 (S r') K) (op2 (x:=.int u') (y:=.int 2) (τ1:=st u' R o4 (S r') K) rfl rfl (Bo (by decide) (by decide))) rfl
  exact⟨τ1,_,CD (o:=o) rfl ho,(AH s1).trans s2,u' / 2,r',K,Cv,by rw[Q3,List.length_append,hr];rfl,UZ hall hc,rfl⟩
 have outer:∃τ',BO (dN 4) (AK (AL (dC (.str "")) (dN 5)) (AK (Cp (dR1 (AA (AB 1) AD)) (dN 6) Bi) (Bh (dMt 3 Ay (AA (AB 5) AD))))) ((List.range Hh.toNat).map fun(k:Nat)=>PyData.int (k:Int)) (st (v / 64) [] none none none)=some (.nx τ')/\∃u R o4 o5 o6,nM o4/\nM o5/\nM o6/\R.length=(List.range Hh.toNat).length/\(∀r∈R,r.1.length=W.toNat/\FH alS r.1)/\τ'=st u R o4 o5 o6:=by
  refine C4 (fun(pre:List Nat) τ=>∃u R o4 o5 o6,nM o4/\nM o5/\nM o6/\R.length=pre.length/\(∀r∈R,r.1.length=W.toNat/\FH alS r.1)/\τ=st u R o4 o5 o6) ⟨v / 64,[],none,none,none,BB,BB,BB,rfl,(fun r hr=>by cases hr),rfl⟩ ?_
  rintro pre k post τ hp ⟨u,R,o4,o5,o6,n4,n5,n6,hR,hall,rfl⟩
  have hl:=Ej hp
  rw[List.length_range]at hl
  let K:Option L:=I (k:Int)
  have s1:AL (dC (.str "")) (dN 5) (st u R K o5 o6)=some (.nx (st u R K (S "") o6)):=AV (d:=.str "") (τ1:=st u R K o5 o6) rfl (CD (o:=o5) rfl n5)
  obtain⟨τ',e,u',r,o,ho,hr,hal,rfl⟩:=inner u R K o6 n6
  rw[<- Ic]at e
  let rt:Tx:=⟨r,NV ∅ hal⟩
  have s2:Cp (dR1 (AA (AB 1) AD)) (dN 6) Bi (st u R K (S "") o6)=some (.nx (st u' R K (S r) o)):=(C6 (J0 (n:=W) (τ1:=st u R K (S "") o6) rfl (by omega) (by omega))).trans e
  have s3:Bh (dMt 3 Ay (AA (AB 5) AD)) (st u' R K (S r) o)=some (.nx (st u' (R++[rt]) K (S r) o)):=by
   refine(Uh (i:=3) (d:=eT rt) (xs:=R.map eT) (τ1:=st u' R K (S r) o) rfl rfl (by rw[List.length_map];omega)).trans ?_
   show some (Out.nx [_,_,_,some (.m (R.map eT++[eT rt])),_,_,_])=_
   rw[show R.map eT++[eT rt]=(R++[rt]).map eT by rw[List.map_append];rfl]
  refine⟨st u R K o5 o6,st u' (R++[rt]) K (S r) o,CD (o:=o4) rfl n4,(AH s1).trans ((AH s2).trans s3),u',R++[rt],K,S r,o,Cv,Cv,ho,by rw[List.length_append,List.length_append,hR];rfl,fun x hx=>?_,rfl⟩
  rcases List.mem_append.mp hx with z|z
  ·exact hall x z
  ·rw[List.mem_singleton.mp z]
   rw[List.length_range]at hr
   exact⟨hr,hal⟩
 obtain⟨τ',e,u,R,o4,o5,o6,n4,n5,n6,hR,hall,rfl⟩:=outer
 rw[<- Ic]at e
 rw[List.length_range]at hR
 unfold Dm
 let s0:DS:=[I v,none,none,none,none,none,none]
 let s1:DS:=[I v,I W,none,none,none,none,none]
 let s2:DS:=[I v,I W,I Hh,none,none,none,none]
 let s3:DS:=[I (v / 64),I W,I Hh,none,none,none,none]
 have z1:AL (dOp Ap (dC (.int 1)) (dOp Aa (AB 0) (dC (.int 8)))) (dN 1) s0=some (.nx s1) :=
  AV (d:=.int W) (τ1:=s0) (op2 (x:=.int 1) (y:=.int (v % 8)) (τ1:=s0) rfl (op2 (x:=.int v) (y:=.int 8) (τ1:=s0) rfl rfl (BP (by decide))) (by rw[<- hw];rfl)) rfl
 have z2:AL (dOp Ap (dC (.int 1)) (dOp Aa (dOp Aj (AB 0) (dC (.int 8))) (dC (.int 8)))) (dN 2) s1=some (.nx s2) :=
  AV (d:=.int Hh) (τ1:=s1) (op2 (x:=.int 1) (y:=.int (v / 8 % 8)) (τ1:=s1) rfl (op2 (x:=.int (v / 8)) (y:=.int 8) (τ1:=s1) (op2 (x:=.int v) (y:=.int 8) (τ1:=s1) rfl rfl (Bo (by decide) (by decide))) rfl (BP (by decide))) (by rw[<- hh];rfl)) rfl
 have z3:AL (dOp Aj (AB 0) (dC (.int 64))) (dN 0) s2=some (.nx s3) :=
  AV (d:=.int (v / 64)) (τ1:=s2) (op2 (x:=.int v) (y:=.int 64) (τ1:=s2) rfl rfl (Bo (by decide) (by decide))) rfl
 have z4:GK 1 3 s3=some (.nx (st (v / 64) [] none none none)):=rfl
 refine⟨R,W.toNat,u,_,AR (τ:=st u R o4 o5 o6) ?_ rfl rfl,by omega,by omega,by omega,by omega,hall⟩
 refine(AH z1).trans ((AH z2).trans ((AH z3).trans ((AH z4).trans ?_)))
 refine(AH ((C6 (J0 (n:=Hh) (τ1:=st (v / 64) [] none none none) rfl (by omega) (by omega))).trans e)).trans (Ae (τ1:=st u R o4 o5 o6) ?_)
 let τd:DS:=[I u,I W,I Hh,some (.d (.list (R.map eT))),o4,o5,o6]
 refine Zr (i:=3) (xs:=R.map eT) (τ1:=τd) rfl ?_ ?_
 ·unfold AW
  show((AA (AY LU (AA (AB 3) AD)) (AA (AB 0) AD) τd).bind _)=_
  rw[acc (EF (d:=.list (R.map eT)) (r:=.tuple (R.map eT)) rfl rfl) (acc (τ1:=τd) (d:=.int u) rfl rfl)]
  rfl
 ·show((fixDs (R.map eT)&&(true&&true))&&(true&&(true&&(true&&(true&&(okM o4&&(okM o5&&(okM o6&&true))))))))=true
  rw[eU,LK n4,LK n5,LK n6];rfl
def O7:Dz->Prop
 |.plate w h a b=>1<=w/\w<=12/\1<=h/\h<=12/\OkF a/\OkF b
 |.band w h a b=>-12<=w/\w<=12/\-12<=h/\h<=12/\OkF a/\OkF b
 |.word t a b=>t.1.length<=6/\FH alW t.1/\OkF a/\OkF b
 |.stencil R a b=>1<=R.length/\R.length<=8/\(∃w,1<=w/\w<=8/\∀r∈R,r.1.length=w/\FH alS r.1)/\OkF a/\OkF b
 |.group=>True
 |.glass a=>OkF a
 |.window w h x y=>1<=w/\w<=16/\1<=h/\h<=16/\-60<=x/\x<=60/\-60<=y/\y<=60
 |.turn q _=>0<=q/\q<=3
 |.tiles a b x y=>1<=a/\a<=3/\1<=b/\b<=3/\-20<=x/\x<=20/\-20<=y/\y<=20
 |.mask=>True
theorem inT(t:Tx)(ts:List Tx):fIn false (eT t) (.tuple (ts.map eT))=some (.bool (decide (t∈ts))):=by
 simp only[DL.fIn,encT.ok,encT.okL,encT.any,Bool.and_self,if_true,Bool.false_eq_true,if_false]
 exact congrArg (fun b=>some (PyData.bool b)) (decide_eq_decide.mpr Iff.rfl)
theorem sk{i j:Nat}(hi:i<10)(hj:j<10)(h:i≠j){a:DB}{τ:DS}(e:τ[0]?=some (some (.d (eT (kS i))))):AQ (AE (dOp fEq (AB 0) (dC (eT (kS j))))) a AO τ=some (.nx τ):=by
 refine(Ah (τ1:=τ) (tst (op2 (x:=eT (kS i)) (y:=eT (kS j)) (τ1:=τ) (by unfold AB;rw[e]) rfl ?_))).trans rfl
 rw[encT.fEq,decide_eq_false fun z=>h (DY hi hj z)]
theorem tk{i:Nat}{a:DB}{τ:DS}(e:τ[0]?=some (some (.d (eT (kS i))))):AQ (AE (dOp fEq (AB 0) (dC (eT (kS i))))) a AO τ=a τ:=by
 refine BK (τ1:=τ) (tst (op2 (x:=eT (kS i)) (y:=eT (kS i)) (τ1:=τ) (by unfold AB;rw[e]) rfl ?_))
 rw[encT.fEq,decide_eq_true rfl]
theorem LX{i:Nat}(hi:i<10)(v:Int):∃(d:Dz) (w:Int) (ls:List L),An [.d (eT (kS i)),.d (.int v)]=some (.tuple [eD d,.int w],ls)/\kz d=i/\O7 d:=by
 let I:Int->Option L:=fun i=>some (.d (.int i))
 let K:Option L:=some (.d (eT (kS i)))
 let N:Option L:=none
 let LS:List L:=[.d (eT (kS i)),.d (.int v)]
 let τ0:DS:=[K,I v,N,N,N,N,N,N,N,N,N]
 have g1:AE (dOp (fIn false) (AB 0) (AW (AA (dC (.str "group")) (AA (dC (.str "mask")) AD)))) τ0=some (decide (kS i∈[kS 4,kS 9]),τ0) :=
  tst (op2 (x:=eT (kS i)) (y:=.tuple ([kS 4,kS 9].map eT)) (τ1:=τ0) rfl rfl (inT _ _))
 have g0:i≠4->i≠9->∀a:DB,AQ (AE (dOp (fIn false) (AB 0) (AW (AA (dC (.str "group")) (AA (dC (.str "mask")) AD))))) a AO τ0=some (.nx τ0):=fun h4 h9 a=>by
  refine(Ah (τ1:=τ0) (g1.trans ?_)).trans rfl
  rw[decide_eq_false]
  intro z
  rcases List.mem_cons.mp z with z|z
  ·exact h4 (DY hi (by decide) z)
  ·exact h9 (DY hi (by decide) (List.mem_singleton.mp z))
 have g2:i=4\/i=9->An [.d (eT (kS i)),.d (.int v)]=some (.tuple [.tuple [],.int v],[.d (eT (kS i)),.d (.int v)]):=fun h=>by
  unfold An
  refine AR (τ:=τ0) ((A7 ((BK (τ1:=τ0) (g1.trans ?_)).trans rfl))) rfl rfl
  rw[decide_eq_true]
  rcases h with rfl|rfl
  ·exact List.mem_cons_self
  ·exact List.mem_cons_of_mem _ List.mem_cons_self
 have q1:i=4->∃(d:Dz) (w:Int) (ls:List L),An [.d (eT (kS i)),.d (.int v)]=some (.tuple [eD d,.int w],ls)/\kz d=i/\O7 d:=fun h=>⟨.group,v,_,g2 (.inl h),by rw[h];rfl,trivial⟩
 have q2:i=9->∃(d:Dz) (w:Int) (ls:List L),An [.d (eT (kS i)),.d (.int v)]=some (.tuple [eD d,.int w],ls)/\kz d=i/\O7 d:=fun h=>⟨.mask,v,_,g2 (.inr h),by rw[h];rfl,trivial⟩
 by_cases h4:i=4
 ·exact q1 h4
 by_cases h9:i=9
 ·exact q2 h9
 have G0:=g0 h4 h9
 by_cases h7:i=7
 ·subst h7
  have d1:=BP (i:=v) (j:=4) (by decide)
  have d2:=Bo (i:=v) (j:=4) (by decide) (by decide)
  have d3:=BP (i:=v / 4) (j:=2) (by decide)
  have d4:=Bo (i:=v) (j:=8) (by decide) (by decide)
  have d5:fEq (.int (v / 4 % 2)) (.int 1)=some (.bool (decide (v / 4 % 2=1))):=encI.fEq _ _
  refine⟨.turn (v % 4) (decide (v / 4 % 2=1)),v / 8,LS,?_,rfl,by show 0<=v % 4;omega,by show v % 4<=3;omega⟩
  unfold An
  refine AR (τ:=τ0) ((AH (G0 _)).trans (A7 ((tk (i:=7) (τ:=τ0) rfl).trans (Ae (τ1:=τ0) ?_)))) rfl rfl
  walk_at "b|τ0,K,I,N,d1,d2,d3,d4,d5,eD"
 have G1:∀a:DB,AQ (AE (dOp fEq (AB 0) (dC (.str "turn")))) a AO τ0=some (.nx τ0):=fun a=>sk hi (j:=7) (by decide) h7 rfl
 by_cases h8:i=8
 ·subst h8
  have d1:=BP (i:=v) (j:=3) (by decide)
  have d2:=Bo (i:=v) (j:=3) (by decide) (by decide)
  have d3:=BP (i:=v / 3) (j:=3) (by decide)
  have d4:=Bo (i:=v) (j:=9) (by decide) (by decide)
  have d5:=BP (i:=v / 9) (j:=41) (by decide)
  have d6:=Bo (i:=v) (j:=369) (by decide) (by decide)
  have d7:=BP (i:=v / 369) (j:=41) (by decide)
  have d8:=Bo (i:=v) (j:=15129) (by decide) (by decide)
  have d9:=BP (i:=v / 15129) (j:=4) (by decide)
  have da:=Bo (i:=v) (j:=60516) (by decide) (by decide)
  generalize ha:1+v % 3=a
  generalize hb:1+v / 3 % 3=b
  generalize hx:v / 9 % 41-20=x
  generalize hy:v / 369 % 41-20=y
  have db:=BP (i:=x) (j:=7) (by decide)
  have dc:=BP (i:=y) (j:=7) (by decide)
  let T:Int->Int->Option L:=fun x y=>some (.d (.tuple [.int a,.int b,.int x,.int y]))
  let τ1:Int->Int->DS:=fun x y=>[K,I v,T x y,N,N,N,N,N,N,N,N]
  have s1:AL (AW (AA (dOp Ap (dC (.int 1)) (dOp Aa (AB 1) (dC (.int 3)))) (AA (dOp Ap (dC (.int 1)) (dOp Aa (dOp Aj (AB 1) (dC (.int 3))) (dC (.int 3)))) (AA (dOp BN (dOp Aa (dOp Aj (AB 1) (dC (.int 9))) (dC (.int 41))) (dC (.int 20))) (AA (dOp BN (dOp Aa (dOp Aj (AB 1) (dC (.int 369))) (dC (.int 41))) (dC (.int 20))) AD))))) (dN 2) τ0=some (.nx (τ1 x y)):=by
   walk_at "b|τ0,τ1,T,K,I,N,d1,d2,d3,d4,d5,d6,d7,ha,hb,hx,hy"
  have fin:∀x y:Int,AN (AW (AA (AB 2) (AA (dOp Aj (AB 1) (dC (.int 60516))) AD))) (τ1 x y)=some (.rt (.tuple [.tuple [.int a,.int b,.int x,.int y],.int (v / 60516)]) (τ1 x y)):=fun x y=>by
   walk_at "b|τ0,τ1,T,K,I,N,da"
  by_cases hp:v / 15129 % 4>0
  ·refine⟨.tiles a b (x % 7) (y % 7),v / 60516,LS,?_,rfl,?_⟩
   ·unfold An
    refine AR (τ:=τ1 (x % 7) (y % 7)) ((AH (G0 _)).trans ((AH (G1 _)).trans (A7 ((tk (i:=8) (τ:=τ0) rfl).trans ((AH s1).trans ((AH (τ1:=τ1 (x % 7) (y % 7)) ?_).trans (fin _ _))))))) rfl rfl
    refine(BK (τ1:=τ1 x y) ?_).trans ?_
    ·walk_at "b|τ1,T,K,I,N,d8,d9,hp,decide_true"
    ·have e1:Cc (AB 2) Ba (dPt (dC (.int 2))) (τ1 x y)=some (.tuple [.int a,.int b],τ1 x y):=rfl
     refine AV (d:=.tuple [.int a,.int b,.int (x % 7),.int (y % 7)]) (τ1:=τ1 x y) (op2 e1 (y:=.tuple [.int (x % 7),.int (y % 7)]) (τ2:=τ1 x y) ?_ rfl) rfl
     walk_at "b|τ1,T,K,I,N,db,dc"
   ·exact⟨by omega,by omega,by omega,by omega,by omega,by omega,by omega,by omega⟩
  ·refine⟨.tiles a b x y,v / 60516,LS,?_,rfl,?_⟩
   ·unfold An
    refine AR (τ:=τ1 x y) ((AH (G0 _)).trans ((AH (G1 _)).trans (A7 ((tk (i:=8) (τ:=τ0) rfl).trans ((AH s1).trans ((AH (τ1:=τ1 x y) ?_).trans (fin _ _))))))) rfl rfl
    refine(Ah (τ1:=τ1 x y) ?_).trans rfl
    walk_at "b|τ1,T,K,I,N,d8,d9,hp,decide_false"
   ·exact⟨by omega,by omega,by omega,by omega,by omega,by omega,by omega,by omega⟩
 have G2:∀a:DB,AQ (AE (dOp fEq (AB 0) (dC (.str "tiles")))) a AO τ0=some (.nx τ0):=fun a=>sk hi (j:=8) (by decide) h8 rfl
 by_cases h6:i=6
 ·subst h6
  obtain⟨w,v1,l1,e1,w0,w1⟩:=F9 v 16 (by decide) (by decide)
  obtain⟨h,v2,l2,e2,h0,h1⟩:=F9 v1 16 (by decide) (by decide)
  obtain⟨x,v3,l3,e3,x0,x1⟩:=D0 v2
  obtain⟨y,v4,l4,e4,y0,y1⟩:=D0 v3
  refine⟨.window w h x y,v4,LS,?_,rfl,w0,w1,h0,h1,x0,x1,y0,y1⟩
  unfold An
  let st:Int->Option L->Option L->Option L->Option L->DS:=fun v a b c d=>[K,I v,N,a,b,c,d,N,N,N,N]
  refine AR (τ:=st v4 (I w) (I h) (I x) (I y)) ((AH (G0 _)).trans ((AH (G1 _)).trans ((AH (G2 _)).trans (A7 ((tk (i:=6) (τ:=τ0) rfl).trans ?_))))) rfl rfl
  refine(AH (τ1:=st v1 (I w) N N N) (AV (AI (τ1:=τ0) (rs:=[.d (.int v),.d (.int 16)]) (ds:=[.int v,.int 16]) rfl rfl e1) rfl)).trans ?_
  refine(AH (τ1:=st v2 (I w) (I h) N N) (AV (AI (τ1:=st v1 (I w) N N N) (rs:=[.d (.int v1),.d (.int 16)]) (ds:=[.int v1,.int 16]) rfl rfl e2) rfl)).trans ?_
  refine(AH (τ1:=st v3 (I w) (I h) (I x) N) (AV (AI (τ1:=st v2 (I w) (I h) N N) (rs:=[.d (.int v2)]) (ds:=[.int v2]) rfl rfl e3) rfl)).trans ?_
  exact(AH (τ1:=st v4 (I w) (I h) (I x) (I y)) (AV (AI (τ1:=st v3 (I w) (I h) (I x) N) (rs:=[.d (.int v3)]) (ds:=[.int v3]) rfl rfl e4) rfl)).trans rfl
 have G3:∀a:DB,AQ (AE (dOp fEq (AB 0) (dC (.str "window")))) a AO τ0=some (.nx τ0):=fun a=>sk hi (j:=6) (by decide) h6 rfl
 obtain⟨p,q,v',lp,ep,op,oq⟩:=N7 v
 let A:Option L:=some (.d (ec p))
 let B:Option L:=some (.d (ec q))
 let st:Int->Option L->Option L->Option L->Option L->DS:=fun v a b c d=>[K,I v,N,a,b,N,N,A,B,c,d]
 let τ1:=st v' N N N N
 have P:AL (AF DD (AA (AB 1) AD)) (dGT (AS (dN 7) (AS (dN 8) (AS (dN 1) Az)))) τ0=some (.nx τ1):=AV (AI (τ1:=τ0) (rs:=[.d (.int v)]) (ds:=[.int v]) rfl rfl ep) rfl
 by_cases h5:i=5
 ·subst h5
  refine⟨.glass q,v',LS,?_,rfl,oq⟩
  unfold An
  exact AR (τ:=τ1) ((AH (G0 _)).trans ((AH (G1 _)).trans ((AH (G2 _)).trans ((AH (G3 _)).trans ((AH P).trans (A7 ((tk (i:=5) (τ:=τ1) rfl).trans rfl))))))) rfl rfl
 have G5:∀a:DB,AQ (AE (dOp fEq (AB 0) (dC (.str "glass")))) a AO τ1=some (.nx τ1):=fun a=>sk hi (j:=5) (by decide) h5 rfl
 by_cases hh:i=0
 ·subst hh
  obtain⟨w,v1,l1,e1,w0,w1⟩:=F9 v' 12 (by decide) (by decide)
  obtain⟨h,v2,l2,e2,h0,h1⟩:=F9 v1 12 (by decide) (by decide)
  refine⟨.plate w h p q,v2,LS,?_,rfl,w0,w1,h0,h1,op,oq⟩
  unfold An
  refine AR (τ:=st v2 (I w) (I h) N N) ((AH (G0 _)).trans ((AH (G1 _)).trans ((AH (G2 _)).trans ((AH (G3 _)).trans ((AH P).trans ((AH (G5 _)).trans (A7 ((tk (i:=0) (τ:=τ1) rfl).trans ?_)))))))) rfl rfl
  refine(AH (τ1:=st v1 (I w) N N N) (AV (AI (τ1:=τ1) (rs:=[.d (.int v'),.d (.int 12)]) (ds:=[.int v',.int 12]) rfl rfl e1) rfl)).trans ?_
  exact(AH (τ1:=st v2 (I w) (I h) N N) (AV (AI (τ1:=st v1 (I w) N N N) (rs:=[.d (.int v1),.d (.int 12)]) (ds:=[.int v1,.int 12]) rfl rfl e2) rfl)).trans rfl
 have G6:∀a:DB,AQ (AE (dOp fEq (AB 0) (dC (.str "plate")))) a AO τ1=some (.nx τ1):=fun a=>sk hi (j:=0) (by decide) hh rfl
 by_cases h1:i=1
 ·subst h1
  have d1:=BP (i:=v') (j:=25) (by decide)
  have d2:=Bo (i:=v') (j:=25) (by decide) (by decide)
  have d3:=BP (i:=v' / 25) (j:=25) (by decide)
  have d4:=Bo (i:=v') (j:=625) (by decide) (by decide)
  refine⟨.band (v' % 25-12) (v' / 25 % 25-12) p q,v' / 625,LS,?_,rfl,by omega,by omega,by omega,by omega,op,oq⟩
  unfold An
  refine AR (τ:=τ1) ((AH (G0 _)).trans ((AH (G1 _)).trans ((AH (G2 _)).trans ((AH (G3 _)).trans ((AH P).trans ((AH (G5 _)).trans ((AH (G6 _)).trans (A7 ((tk (i:=1) (τ:=τ1) rfl).trans (Ae (τ1:=τ1) ?_)))))))))) rfl rfl
  walk_at "b|τ1,st,K,I,N,A,B,d1,d2,d3,d4,eD"
 have G7:∀a:DB,AQ (AE (dOp fEq (AB 0) (dC (.str "band")))) a AO τ1=some (.nx τ1):=fun a=>sk hi (j:=1) (by decide) h1 rfl
 by_cases h2:i=2
 ·subst h2
  obtain⟨t,v1,l1,e1,t6,ta⟩:=PB v'
  refine⟨.word t p q,v1,LS,?_,rfl,t6,ta,op,oq⟩
  unfold An
  refine AR (τ:=st v1 N N (some (.d (eT t))) N) ((AH (G0 _)).trans ((AH (G1 _)).trans ((AH (G2 _)).trans ((AH (G3 _)).trans ((AH P).trans ((AH (G5 _)).trans ((AH (G6 _)).trans ((AH (G7 _)).trans (A7 ((tk (i:=2) (τ:=τ1) rfl).trans ?_)))))))))) rfl rfl
  exact(AH (τ1:=st v1 N N (some (.d (eT t))) N) (AV (AI (τ1:=τ1) (rs:=[.d (.int v')]) (ds:=[.int v']) rfl rfl e1) rfl)).trans rfl
 have G8:∀a:DB,AQ (AE (dOp fEq (AB 0) (dC (.str "word")))) a AO τ1=some (.nx τ1):=fun a=>sk hi (j:=2) (by decide) h2 rfl
 have h3:i=3:=by omega
 subst h3
 obtain⟨R,w,v1,l1,e1,r1,r2,w1,w2,hr⟩:=Lr v'
 refine⟨.stencil R p q,v1,LS,?_,rfl,r1,r2,⟨w,w1,w2,hr⟩,op,oq⟩
 unfold An
 refine AR (τ:=st v1 N N N (some (.d (.tuple (R.map eT))))) ((AH (G0 _)).trans ((AH (G1 _)).trans ((AH (G2 _)).trans ((AH (G3 _)).trans ((AH P).trans ((AH (G5 _)).trans ((AH (G6 _)).trans ((AH (G7 _)).trans ((AH (G8 _)).trans ?_))))))))) rfl rfl
 exact(AH (τ1:=st v1 N N N (some (.d (.tuple (R.map eT))))) (AV (AI (τ1:=τ1) (rs:=[.d (.int v')]) (ds:=[.int v']) rfl rfl e1) rfl)).trans rfl
theorem lcg{α:Type}{enc:α->PyData}{rs:List α}{τ:DS}{fr:List Nat}{it:DI}{ex:DS}{c:DT}{e:DX}(p:α->Bool)(f:α->PyData)(h:it τ=some (rs.map enc,τ))(hz:rs.length<=1000)(hm:(fr.all fun j=>!isM τ j)=true)(hb:Nk 1 fr τ=none::ex)
  (hc:∀r∈rs,c (some (.d (enc r))::ex)=some (p r,some (.d (enc r))::ex)) (he:∀r∈rs,p r=true->e (some (.d (enc r))::ex)=some (f r,some (.d (enc r))::ex)):dLC 1 fr it (dN 0) c e τ=some (.list ((rs.filter p).map f),τ):=by
 obtain ⟨τb, el⟩ := NP (enc := enc) (g := dN 0) (c := c) (e := e) (fun τ => ∃ o1, nM o1 /\ τ = o1 :: ex) p f (xs := rs) (acc := []) (τ := none :: ex) ⟨none, BB, rfl⟩ (by
  rintro x τ hx ⟨o1,n1,rfl⟩
  exact⟨some (.d (enc x))::ex,some (.d (enc x))::ex,CD (o:=o1) rfl n1,hc x hx,fun _=>⟨_,Cv,rfl⟩,fun hp=>⟨some (.d (enc x))::ex,he x hx hp,_,Cv,rfl⟩⟩)
 rw[List.nil_append]at el
 exact Yn (ds:=rs.map enc) (τ1:=τ) (τb:=τb) h (by rw[List.length_map];exact sz hz) hm (by rw[hb];exact el)
theorem Cs{α:Type}(l:List α):l.filter (fun _=>true)=l:=List.filter_eq_self.mpr fun _ _=>rfl
structure OkRow(r:Rz):Prop where
 n1:1<=r.n.1.length
 n8:r.n.1.length<=8
 na:FH alN r.n.1
 x0:-60<=r.x
 x1:r.x<=60
 y0:-60<=r.y
 y1:r.y<=60
 d:O7 r.d
def OkR:List Rz->Prop
 |[]=>True
 |r::a=>OkR a/\OkRow r/\(∀q∈a,q.n≠r.n)/\(r.h=t0\/∃q∈a,q.n=r.h)
def hsR:List Rz->Tx->List Tx
 |[],_=>[]
 |r::a,n=>if r.n=n then n::hsR a r.h else hsR a n
def Ao(rs:List Rz)(t:Tx):Option Rz:=rs.find? fun r=>decide (r.n=t)
theorem OkRow.ne{r:Rz}(h:OkRow r):r.n≠t0:=fun z=>by
 have:=h.n1
 rw[z]at this
 exact absurd this ∅
theorem OkR.all{a:List Rz}(ok:OkR a):∀r∈a,OkRow r:=by
 induction a with
 |nil=>intro r hr;cases hr
 |cons q a ih =>
  intro r hr
  rcases List.mem_cons.mp hr with h|h
  ·rw[h];exact ok.2.1
  ·exact ih ok.1 r h
theorem OkR.suf{p q:List Rz}(ok:OkR (p++q)):OkR q:=by
 induction p with
 |nil=>exact ok
 |cons x p ih=>exact ih ok.1
theorem OkR.inj{a:List Rz}(ok:OkR a):∀r∈a,∀q∈a,r.n=q.n->r=q:=by
 induction a with
 |nil=>intro r hr;cases hr
 |cons x a ih =>
  intro r hr q hq e
  rcases List.mem_cons.mp hr with h1|h1<;>rcases List.mem_cons.mp hq with h2|h2
  ·rw[h1,h2]
  ·rw[h1]at e;exact absurd e.symm (ok.2.2.1 q h2)
  ·rw[h2]at e;exact absurd e (ok.2.2.1 r h1)
  ·exact ih ok.1 r h1 q h2 e
theorem EZ:∀{a:List Rz},OkR a->hsR a t0=[]
 |[],_=>rfl
 |r::a,⟨h,o,_⟩=>by
  unfold hsR
  rw[if_neg o.ne];exact EZ h
theorem Kc:∀{a:List Rz} {n:Tx},(∃q∈a,q.n=n)->∃l,hsR a n=n::l
 |[],_,⟨_,h,_⟩=>by cases h
 |r::a,n,⟨q,hq,e⟩=>by
  unfold hsR
  by_cases h:r.n=n
  ·rw[if_pos h];exact⟨_,rfl⟩
  ·rw[if_neg h]
   rcases List.mem_cons.mp hq with rfl|hq
   ·exact absurd e h
   ·exact Kc ⟨q,hq,e⟩
theorem HZ:∀(a:List Rz) (n:Tx),(hsR a n).length<=a.length
 |[],_=>Nat.le_refl _
 |r::a,n=>by
  unfold hsR
  split
  ·have:=HZ a r.h
   simp only[List.length_cons];omega
  ·have:=HZ a n
   simp only[List.length_cons];omega
abbrev OkZ(rs:List Rz):Prop:=OkR rs.reverse
theorem CY{rs:List Rz}(ok:OkZ rs){r:Rz}(hr:r∈rs):Ao rs r.n=some r:=by
 unfold Ao
 cases e:rs.find? fun q=>decide (q.n=r.n) with
 |none=>exact absurd (List.find?_eq_none.mp e r hr) (by simp)
 |some q =>
  have h1:=List.find?_some e
  have h2:=List.mem_of_find?_eq_some e
  rw[OkR.inj ok q (List.mem_reverse.mpr h2) r (List.mem_reverse.mpr hr) (of_decide_eq_true h1)]
theorem Gz{rs:List Rz}{n:Tx}(h:∀q∈rs,q.n≠n):Ao rs n=none:=List.find?_eq_none.mpr fun q hq=>by simpa using h q hq
theorem Pz{rs:List Rz}(ok:OkZ rs):Ao rs t0=none:=Gz fun q hq=>(OkR.all ok q (List.mem_reverse.mpr hq)).ne
def kvZ(rs:List Rz):List (PyData×PyData):=rs.map fun r=>(eT r.n,eZ r)
theorem NZ(t:Tx):∀rs:List Rz,IB (kvZ rs) t.1=(Ao rs t).map eZ
 |[]=>rfl
 |r::rs=>by
  show(if r.n.1=t.1 then some (eZ r) else IB (kvZ rs) t.1)=_
  unfold Ao
  rw[List.find?_cons]
  by_cases h:r.n=t
  ·rw[if_pos (by rw[h]),decide_eq_true h];rfl
  ·rw[if_neg (fun z=>h (Subtype.ext z)),decide_eq_false h];exact NZ t rs
theorem Xw{rs:List Rz}{r:Rz}(h:∀q∈rs,q.n≠r.n):PZ (kvZ rs) r.n.1 (eZ r)=kvZ (rs++[r]):=by
 unfold PZ
 rw[NZ,Gz h]
 show(if (none:Option PyData).isSome=true then _ else _)=_
 rw[if_neg (by decide)]
 unfold kvZ
 rw[List.map_append];rfl
theorem Sj{rs pre post:List Rz}{r:Rz}(ok:OkZ rs)(e:rs=pre++r::post):∀q∈pre,q.n≠r.n:=by
 have:OkR (post.reverse++(r::pre.reverse)):=by
  have:=ok
  unfold OkZ at this
  rw[e]at this
  simpa using this
 exact fun q hq=>this.suf.2.2.1 q (List.mem_reverse.mpr hq)
theorem MC(a b:Tx):fNe (eT a) (eT b)=some (.bool (!decide (a=b))):=encT.fNe a b
theorem Gg(a b:Tx):fEq (eT a) (eT b)=some (.bool (decide (a=b))):=encT.fEq a b
theorem VE{i:Nat}{e k:DX}{τ τ1 τ2:DS}{d:PyData}{x:Str}{kv0 kvs:List (PyData×PyData)}(he:e τ=some (d,τ1))(h1:τ1[i]?=some (some (.g (.dict kv0))))(hk:k τ1=some (.str x,τ2))(h2:τ2[i]?=some (some (.g (.dict kvs))))(hf:DN d=true)(hz:kvs.length<=1000) :
  La i e k τ=some (.nx (τ2.set i (some (.g (.dict (PZ kvs x d)))))):=by
 unfold La
 rw[he]
 dsimp only[Option.bind]
 rw[h1]
 dsimp only
 rw[hk]
 dsimp only
 rw[h2]
 dsimp only
 rw[if_pos ⟨hf,Nat.lt_of_le_of_lt hz (by decide)⟩]
theorem YZ{i:Nat}{f:DX}{τ τ1:DS}{x:Str}{kvs:List (PyData×PyData)}(hf:f τ=some (.str x,τ1))(h:τ1[i]?=some (some (.g (.dict kvs)))):Oy false f i τ=some (.bool (IB kvs x).isSome,τ1):=by
 unfold Oy
 rw[hf]
 dsimp only[Option.bind]
 rw[h]
 dsimp only
 rw[Bool.false_bne]
theorem YV{i:Nat}{f:DX}{τ τ1:DS}{x:Str}{kv0 kvs:List (PyData×PyData)}{d:PyData}(h0:τ[i]?=some (some (.g (.dict kv0))))(hf:f τ=some (.str x,τ1))(h:τ1[i]?=some (some (.g (.dict kvs))))(hd:IB kvs x=some d):Ox i f τ=some (d,τ1):=by
 unfold Ox
 rw[h0]
 dsimp only
 rw[hf]
 dsimp only[Option.bind]
 rw[h]
 dsimp only
 rw[hd];rfl
theorem QI{c:DT}{b:DB}{n:Nat}{τ:DS}{o:Option Out}(h:dWh c b n τ=o):Fd (fun _=>n) c b τ=o:=h
theorem SS{rs:List Rz}(ok:OkZ rs)(hl:rs.length<=40){a:Tx}(ha:a=t0\/∃q∈rs,q.n=a):∃ls,Ey [.d (.list (rs.map eZ)),.d (eT a)]=some (.list ((hsR rs.reverse a).map eT),ls):=by
 let R:Option L:=some (.d (.list (rs.map eZ)))
 let T:Tx->Option L:=fun a=>some (.d (eT a))
 let M:List Tx->Option L:=fun l=>some (.m (l.map eT))
 let G:List Rz->Option L:=fun l=>some (.g (.dict (kvZ l)))
 let st:List Rz->Option L->DS:=fun l o=>[R,T a,M [],G l,o]
 have lp:∃τ',BO (dN 4) (La 3 (AB 4) (dOp AJ (AB 4) (dC (.int 0)))) (rs.map eZ) (st [] none)=some (.nx τ')/\∃o,nM o/\τ'=st rs o:=by
  refine C4 (fun pre τ=>∃o,nM o/\τ=st pre o) ⟨none,BB,rfl⟩ ?_
  rintro pre r post τ e ⟨o,ho,rfl⟩
  have hz:=Ej e
  refine⟨st pre (some (.d (eZ r))),st (pre++[r]) (some (.d (eZ r))),CD (o:=o) rfl ho,?_,_,Cv,rfl⟩
  refine(VE (d:=eZ r) (x:=r.n.1) (kv0:=kvZ pre) (kvs:=kvZ pre) (τ1:=st pre (some (.d (eZ r)))) (τ2:=st pre (some (.d (eZ r)))) rfl rfl (op2 (x:=eZ r) (y:=.int 0) (τ1:=st pre (some (.d (eZ r)))) rfl rfl rfl) rfl (encZ.fix r) ?_).trans ?_
  ·rw[show(kvZ pre).length=pre.length from List.length_map ..];omega
  ·rw[Xw (Sj ok e)];rfl
 obtain⟨τ',e1,o,ho,rfl⟩:=lp
 let C:DT:=Ad (AE (dOp fNe (AB 1) (dC (.str "")))) (AE (Oy false (AB 1) 3))
 let B:DB:=AK (Bh (dMt 2 Ay (AA (AB 1) AD))) (AL (dOp AJ (Ox 3 (AB 1)) (dC (.int 1))) (dN 1))
 let sw:Tx->List Tx->DS:=fun a l=>[R,T a,M l,G rs,o]
 have cT:∀b l,C (sw b l)=some (!decide (b=t0)&&(Ao rs b).isSome,sw b l):=fun b l=>by
  refine F8 (tst (op2 (x:=eT b) (y:=eT t0) (τ1:=sw b l) rfl rfl (MC b t0))) (tst ?_)
  rw[YZ (x:=b.1) (kvs:=kvZ rs) (τ1:=sw b l) rfl rfl,NZ,Option.isSome_map]
 have wl:∀(ah post:List Rz) (b:Tx) (l:List Tx) (n:Nat),rs.reverse=post++ah->(b=t0\/∃q∈ah,q.n=b)->ah.length<n->l.length+ah.length<=60->∃b',dWh C B n (sw b l)=some (.nx (sw b' (l++hsR ah b))):=by
  have stop:∀(ah:List Rz) (l:List Tx) (n:Nat),OkR ah->0<n->∃b',dWh C B n (sw t0 l)=some (.nx (sw b' (l++hsR ah t0))):=fun ah l n oa hn=>by
   obtain⟨n,rfl⟩:∃m,n=m+1:=⟨n-1,by omega⟩
   refine⟨t0,?_⟩
   rw[EZ oa,List.append_nil]
   refine Uw (τ1:=sw t0 l) ?_
   rw[cT,decide_eq_true rfl];rfl
  intro ah
  induction ah with
  |nil =>
   intro post b l n e hb hn _
   rcases hb with rfl|⟨q,hq,_⟩
   ·exact stop [] l n trivial (by omega)
   ·cases hq
  |cons r ah ih =>
   intro post b l n e hb hn hz
   have okr:OkR (r::ah):=(show OkR (post++r::ah) from e▸ok).suf
   rcases hb with rfl|⟨q,hq,hqb⟩
   ·exact stop (r::ah) l n okr (by omega)
   simp only[List.length_cons]at hn hz
   by_cases h:r.n=b
   ·obtain⟨n,rfl⟩:∃m,n=m+1:=⟨n-1,by omega⟩
    have hr:r∈rs:=List.mem_reverse.mp (e▸List.mem_append_right _ List.mem_cons_self)
    have hf:Ao rs b=some r:=h▸CY ok hr
    obtain⟨b',e2⟩:=ih (post++[r]) r.h (l++[b]) n (by rw[e];simp) okr.2.2.2 (by omega) (by rw[List.length_append];simp only[List.length_cons,List.length_nil];omega)
    refine⟨b',(Xb (τ1:=sw b l) (τ2:=sw r.h (l++[b])) ?_ ?_).trans (e2.trans ?_)⟩
    ·rw[cT,hf,decide_eq_false (h▸okr.2.1.ne)];rfl
    ·have s1:Bh (dMt 2 Ay (AA (AB 1) AD)) (sw b l)=some (.nx (sw b (l++[b]))):=by
      refine(Uh (i:=2) (d:=eT b) (xs:=l.map eT) (τ1:=sw b l) rfl rfl (by rw[List.length_map];omega)).trans ?_
      show some (Out.nx [R,T b,some (.m (l.map eT++[eT b])),G rs,o])=_
      rw[show l.map eT++[eT b]=(l++[b]).map eT by rw[List.map_append];rfl]
     refine(AH s1).trans (AV (d:=eT r.h) (τ1:=sw b (l++[b])) (op2 (x:=eZ r) (y:=.int 1) (τ1:=sw b (l++[b])) (YV (x:=b.1) (kv0:=kvZ rs) (kvs:=kvZ rs) (τ1:=sw b (l++[b])) rfl rfl rfl (by rw[NZ,hf];rfl)) rfl rfl) rfl)
    ·rw[show hsR (r::ah) b=b::hsR ah r.h from by rw[hsR,if_pos h],List.append_assoc]
     rfl
   ·have:∃q∈ah,q.n=b:=by
     rcases List.mem_cons.mp hq with rfl|hq
     ·exact absurd hqb h
     ·exact⟨q,hq,hqb⟩
    obtain⟨b',e2⟩:=ih (post++[r]) b l n (by rw[e];simp) (.inr this) (by omega) (by omega)
    refine⟨b',e2.trans ?_⟩
    rw[show hsR (r::ah) b=hsR ah b from by rw[hsR,if_neg h]]
 obtain⟨b',e2⟩:=wl rs.reverse [] a [] 100 rfl (ha.imp id fun⟨q,hq,e⟩=>⟨q,List.mem_reverse.mpr hq,e⟩) (by rw[List.length_reverse];omega) (by rw[List.length_reverse,List.length_nil];omega)
 rw[List.nil_append]at e2
 refine⟨[.d (.list (rs.map eZ)),.d (eT a)],?_⟩
 unfold Ey
 refine AR (τ:=sw b' (hsR rs.reverse a)) ?_ rfl rfl
 exact(AH (τ1:=[R,T a,M [],none,none]) rfl).trans ((AH (τ1:=st [] none) rfl).trans ((AH ((C6 (ds:=rs.map eZ) (τ1:=st [] none) rfl).trans e1)).trans ((AH (τ1:=sw b' (hsR rs.reverse a)) (QI e2)).trans rfl)))
def oZ:Option Rz->PyData
 |none=>.none
 |some r=>eZ r
theorem ES(r:Rz):Ag [.d (eZ r)]=some (eT r.n,[.d (eZ r)]):=rfl
theorem B8(r:Rz):AM [.d (eZ r)]=some (eT r.h,[.d (eZ r)]):=rfl
theorem Bt(rs:List Rz)(a:Tx):∃ls,Am [.d (.list (rs.map eZ)),.d (eT a)]=some (oZ (Ao rs a),ls):=by
 let R:Option L:=some (.d (.list (rs.map eZ)))
 let A:Option L:=some (.d (eT a))
 let B:DB:=AQ (AE (dOp fEq (AF Ag (AA (AB 2) AD)) (AB 1))) (AN (AB 2)) AO
 have tt:∀r:Rz,AE (dOp fEq (AF Ag (AA (AB 2) AD)) (AB 1)) [R,A,some (.d (eZ r))]=some (decide (r.n=a),[R,A,some (.d (eZ r))]):=fun r =>
  tst (op2 (x:=eT r.n) (y:=eT a) (τ1:=[R,A,some (.d (eZ r))]) (AI (τ1:=[R,A,some (.d (eZ r))]) (ds:=[eZ r]) rfl rfl (ES r)) rfl (Gg _ _))
 have lp:∀(xs:List Rz) (o:Option L),nM o->(∀r,Ao xs a=some r->BO (dN 2) B (xs.map eZ) [R,A,o]=some (.rt (eZ r) [R,A,some (.d (eZ r))]))/\(Ao xs a=none->∃o',BO (dN 2) B (xs.map eZ) [R,A,o]=some (.nx [R,A,o'])):=by
  intro xs
  induction xs with
  |nil=>exact fun o ho=>⟨fun r h=>(by cases h),fun _=>⟨o,rfl⟩⟩
  |cons x xs ih =>
   intro o ho
   have e0:dN 2 (eZ x) [R,A,o]=some [R,A,some (.d (eZ x))]:=CD (o:=o) rfl ho
   have un:BO (dN 2) B ((x::xs).map eZ) [R,A,o]=(B [R,A,some (.d (eZ x))]).bind fun o=>match o with
     |.nx τ2=>BO (dN 2) B (xs.map eZ) τ2
     |.ct τ2=>BO (dN 2) B (xs.map eZ) τ2
     |.bk τ2=>some (.nx τ2)
     |.rt d τ2=>some (.rt d τ2):=by
    rw[List.map_cons,BO,e0];rfl
   by_cases h:x.n=a
   ·have eb:B [R,A,some (.d (eZ x))]=some (.rt (eZ x) [R,A,some (.d (eZ x))]):=(BK (τ1:=[R,A,some (.d (eZ x))]) (by rw[tt,decide_eq_true h])).trans rfl
    have ef:Ao (x::xs) a=some x:=by unfold Ao;rw[List.find?_cons,decide_eq_true h]
    refine⟨fun r hr=>?_,fun hn=>?_⟩
    ·rw[ef]at hr;cases hr
     rw[un,eb];rfl
    ·rw[ef]at hn;cases hn
   ·have eb:B [R,A,some (.d (eZ x))]=some (.nx [R,A,some (.d (eZ x))]):=(Ah (τ1:=[R,A,some (.d (eZ x))]) (by rw[tt,decide_eq_false h])).trans rfl
    have ef:Ao (x::xs) a=Ao xs a:=by unfold Ao;rw[List.find?_cons,decide_eq_false h]
    obtain⟨i1,i2⟩:=ih (some (.d (eZ x))) Cv
    rw[un,eb,ef]
    exact⟨i1,i2⟩
 obtain⟨l1,l2⟩:=lp rs none BB
 refine⟨[.d (.list (rs.map eZ)),.d (eT a)],?_⟩
 unfold Am
 cases h:Ao rs a with
 |some r=>exact AR (τ:=[R,A,some (.d (eZ r))]) (A7 ((C6 (ds:=rs.map eZ) (τ1:=[R,A,none]) rfl).trans (l1 r h))) rfl rfl
 |none =>
  obtain⟨o',e⟩:=l2 h
  exact AR (τ:=[R,A,o']) ((AH ((C6 (ds:=rs.map eZ) (τ1:=[R,A,none]) rfl).trans e)).trans rfl) rfl rfl
theorem Fn{rs:List Rz}(ok:OkZ rs){r:Rz}(hr:r∈rs):∃ls,DK [.d (.list (rs.map eZ)),.d (eT r.n)]=some (eZ r,ls):=by
 obtain⟨ls,e⟩:=Bt rs r.n
 rw[CY ok hr]at e
 let τ:DS:=[some (.d (.list (rs.map eZ))),some (.d (eT r.n)),some (.d (eZ r))]
 refine⟨[.d (.list (rs.map eZ)),.d (eT r.n)],?_⟩
 unfold DK
 exact AR (τ:=τ) ((AH (τ1:=τ) (AV (AI (τ1:=[some (.d (.list (rs.map eZ))),some (.d (eT r.n)),none]) (ds:=[.list (rs.map eZ),eT r.n]) rfl rfl e) rfl)).trans ((AH (τ1:=τ) ((Ah (τ1:=τ) (tst (op2 (x:=eZ r) (y:=.none) (τ1:=τ) rfl rfl rfl))).trans rfl)).trans rfl)) rfl rfl
theorem IA{rs:List Rz}(ok:OkZ rs)(hl:rs.length<=40){a:Tx}(ha:a=t0\/∃q∈rs,q.n=a):∃ls,BW [.d (.list (rs.map eZ)),.d (eT a)]=some (.list ((hsR rs.reverse a).tail.map eT),ls):=by
 let R:Option L:=some (.d (.list (rs.map eZ)))
 let A:Option L:=some (.d (eT a))
 let M:List Tx->Option L:=fun l=>some (.m (l.map eT))
 let sw:Tx->List Tx->DS:=fun b l=>[R,A,M l,some (.d (oZ (Ao rs b)))]
 let C:DT:=Ad (AE (dOp Bz (AB 3) (dC .none))) (AE (dOp fNe (AF AM (AA (AB 3) AD)) (dC (.str ""))))
 let B:DB:=AK (Bh (dMt 2 Ay (AA (AF AM (AA (AB 3) AD)) AD))) (AL (AF Am (AA (AB 0) (AA (AF AM (AA (AB 3) AD)) AD))) (dN 3))
 have cN:∀b l,Ao rs b=none->C (sw b l)=some (false,sw b l):=fun b l h=>by
  have e:sw b l=[R,A,M l,some (.d .none)]:=by show[R,A,M l,some (.d (oZ (Ao rs b)))]=_;rw[h];rfl
  rw[e];rfl
 have cS:∀b l r,Ao rs b=some r->C (sw b l)=some (!decide (r.h=t0),sw b l):=fun b l r h=>by
  have e:sw b l=[R,A,M l,some (.d (eZ r))]:=by show[R,A,M l,some (.d (oZ (Ao rs b)))]=_;rw[h];rfl
  rw[e]
  exact(F8 (p:=true) (τ:=[R,A,M l,some (.d (eZ r))]) rfl (tst (op2 (x:=eT r.h) (y:=eT t0) (τ1:=[R,A,M l,some (.d (eZ r))]) (AI (τ1:=[R,A,M l,some (.d (eZ r))]) (ds:=[eZ r]) rfl rfl (B8 r)) rfl (MC _ _)))).trans (by rw[Bool.true_and])
 have stop:∀(b:Tx) (l:List Tx) (n:Nat),0<n->(C (sw b l)=some (false,sw b l))->dWh C B n (sw b l)=some (.nx (sw b l)):=fun b l n hn h=>by
  obtain⟨n,rfl⟩:∃m,n=m+1:=⟨n-1,by omega⟩
  exact Uw h
 have wl:∀(ah post:List Rz) (b:Tx) (l:List Tx) (n:Nat),rs.reverse=post++ah->(b=t0\/∃q∈ah,q.n=b)->ah.length<n->l.length+ah.length<=60->∃b',dWh C B n (sw b l)=some (.nx (sw b' (l++(hsR ah b).tail))):=by
  intro ah
  induction ah with
  |nil =>
   intro post b l n e hb hn _
   rcases hb with rfl|⟨q,hq,_⟩
   ·exact⟨t0,by rw[show(hsR [] t0).tail=[] from rfl,List.append_nil];exact stop _ _ _ (by omega) (cN _ _ (Pz ok))⟩
   ·cases hq
  |cons r ah ih =>
   intro post b l n e hb hn hz
   have okr:OkR (r::ah):=(show OkR (post++r::ah) from e▸ok).suf
   rcases hb with rfl|⟨q,hq,hqb⟩
   ·exact⟨t0,by rw[EZ okr,List.tail_nil,List.append_nil];exact stop _ _ _ (by omega) (cN _ _ (Pz ok))⟩
   simp only[List.length_cons]at hn hz
   by_cases h:r.n=b
   ·have hr:r∈rs:=List.mem_reverse.mp (e▸List.mem_append_right _ List.mem_cons_self)
    have hf:Ao rs b=some r:=h▸CY ok hr
    rw[show(hsR (r::ah) b).tail=hsR ah r.h from by rw[hsR,if_pos h,List.tail_cons]]
    rcases okr.2.2.2 with hh|hh
    ·refine⟨b,?_⟩
     rw[hh,EZ okr.1,List.append_nil]
     exact stop _ _ _ (by omega) (by rw[cS b l r hf,hh,decide_eq_true rfl];rfl)
    ·have hne:r.h≠t0:=fun z=>by
      obtain⟨q,hq,hz⟩:=hh
      exact(OkR.all okr.1 q hq).ne (hz.trans z)
     obtain⟨tl,htl⟩:=Kc hh
     obtain⟨n,rfl⟩:∃m,n=m+1:=⟨n-1,by omega⟩
     obtain⟨b',e2⟩:=ih (post++[r]) r.h (l++[r.h]) n (by rw[e];simp) (.inr hh) (by omega) (by rw[List.length_append];simp only[List.length_cons,List.length_nil];omega)
     refine⟨b',(Xb (τ1:=sw b l) (τ2:=sw r.h (l++[r.h])) ?_ ?_).trans (e2.trans ?_)⟩
     ·rw[cS b l r hf,decide_eq_false hne];rfl
     ·obtain⟨lf,ef⟩:=Bt rs r.h
      let s2:List Tx->DS:=fun l=>[R,A,M l,some (.d (eZ r))]
      have es:sw b l=s2 l:=by show[R,A,M l,some (.d (oZ (Ao rs b)))]=_;rw[hf];rfl
      rw[es]
      have hx:∀l,AF AM (AA (AB 3) AD) (s2 l)=some (eT r.h,s2 l):=fun l=>AI (τ1:=s2 l) (ds:=[eZ r]) rfl rfl (B8 r)
      have s1:Bh (dMt 2 Ay (AA (AF AM (AA (AB 3) AD)) AD)) (s2 l)=some (.nx (s2 (l++[r.h]))):=by
       refine(Uh (i:=2) (d:=eT r.h) (xs:=l.map eT) (τ1:=s2 l) (acc (hx l) rfl) rfl (by rw[List.length_map];omega)).trans ?_
       show some (Out.nx [R,A,some (.m (l.map eT++[eT r.h])),some (.d (eZ r))])=_
       rw[show l.map eT++[eT r.h]=(l++[r.h]).map eT by rw[List.map_append];rfl]
      exact(AH s1).trans (AV (d:=oZ (Ao rs r.h)) (τ1:=s2 (l++[r.h])) (AI (τ1:=s2 (l++[r.h])) (rs:=[.d (.list (rs.map eZ)),.d (eT r.h)]) (ds:=[.list (rs.map eZ),eT r.h]) (acc (τ1:=s2 (l++[r.h])) rfl (acc (hx _) rfl)) rfl ef) rfl)
     ·rw[htl,List.tail_cons,List.append_assoc]
      rfl
   ·have:∃q∈ah,q.n=b:=by
     rcases List.mem_cons.mp hq with rfl|hq
     ·exact absurd hqb h
     ·exact⟨q,hq,hqb⟩
    obtain⟨b',e2⟩:=ih (post++[r]) b l n (by rw[e];simp) (.inr this) (by omega) (by omega)
    refine⟨b',e2.trans ?_⟩
    rw[show hsR (r::ah) b=hsR ah b from by rw[hsR,if_neg h]]
 obtain⟨b',e2⟩:=wl rs.reverse [] a [] 100 rfl (ha.imp id fun⟨q,hq,e⟩=>⟨q,List.mem_reverse.mpr hq,e⟩) (by rw[List.length_reverse];omega) (by rw[List.length_reverse,List.length_nil];omega)
 rw[List.nil_append]at e2
 obtain⟨lf,ef⟩:=Bt rs a
 refine⟨[.d (.list (rs.map eZ)),.d (eT a)],?_⟩
 unfold BW
 refine AR (τ:=sw b' (hsR rs.reverse a).tail) ?_ rfl rfl
 exact(AH (τ1:=[R,A,M [],none]) rfl).trans ((AH (τ1:=sw a []) (AV (AI (τ1:=[R,A,M [],none]) (rs:=[.d (.list (rs.map eZ)),.d (eT a)]) (ds:=[.list (rs.map eZ),eT a]) rfl rfl ef) rfl)).trans ((AH (τ1:=sw b' (hsR rs.reverse a).tail) (QI e2)).trans rfl))
theorem CB{α:Type}{enc:α->PyData}{xs:List α}{k:Int}(h0:0<=k)(h1:k<(xs.length:Int)):∃a,atI (xs.map enc) k=some (enc a)/\xs[k.toNat]?=some a:=by
 have hk:k.toNat<xs.length:=by omega
 refine⟨xs[k.toNat],?_,List.getElem?_eq_getElem hk⟩
 unfold atI ixN
 rw[List.length_map,if_pos h0,if_pos h1]
 simp[hk]
theorem Wg{α:Type}{enc:α->PyData}{xs:List α}(h:0<xs.length):∃a∈xs,atI (xs.map enc) (-1)=some (enc a):=by
 have hk:xs.length-1<xs.length:=by omega
 refine⟨xs[xs.length-1],List.getElem_mem hk,?_⟩
 unfold atI ixN
 rw[List.length_map,if_neg (by decide),if_pos (by omega)]
 show(xs.map enc)[((-1:Int)+(xs.length:Int)).toNat]?=_
 rw[show((-1:Int)+(xs.length:Int)).toNat=xs.length-1 by omega]
 simp[hk]
def KH:List Tx:=[kS 4,kS 5,kS 6,kS 7,kS 8,kS 9]
def KA:List Nat:=[0,1,2,3,0,3,4,5,6,7,8,9]
theorem Vk{τ:DS}:Cc (AF CV AD) (dPt (dC (.int 6))) Ba τ=some (.tuple (KH.map eT),τ):=rfl
theorem NQ{i:Nat}(hi:i<10):kS i∈KH↔4<=i:=by
 have:∀i:Fin 10,decide (kS i∈KH)=decide (4<=i.1):=∅
 have:=this ⟨i,hi⟩
 rwa [decide_eq_decide]at this
theorem inL(t:Tx)(ts:List Tx):fIn false (eT t) (.list (ts.map eT))=some (.bool (decide (t∈ts))) :=
 (encT.fIn t ts).trans (congrArg (fun b=>some (PyData.bool b)) (decide_eq_decide.mpr Iff.rfl))
theorem Vr(t:Tx)(ts:List Tx):fIn true (eT t) (.list (ts.map eT))=some (.bool (!decide (t∈ts))) :=
 (encT.fNotIn t ts).trans (congrArg (fun b=>some (PyData.bool (!b))) (decide_eq_decide.mpr Iff.rfl))
theorem J9{rs:List Rz}(ok:OkZ rs)(hl:rs.length<=40)(v:Int):∃(r:Rz) (w:Int) (ls:List L),C0 [.d (.list (rs.map eZ)),.d (.int v)]=some (.tuple [eZ r,.int w],ls)/\OkRow r /\
  (r.h=t0\/∃q∈rs,q.n=r.h/\4<=kz q.d/\(hsR rs.reverse q.n).length<7)/\(kz r.d=8->∀q∈rs,q.n∈hsR rs.reverse r.h->kz q.d≠8):=by
 let D:PyData:=.list (rs.map eZ)
 let R:Option L:=some (.d D)
 let I:Int->Option L:=fun i=>some (.d (.int i))
 let T:Tx->Option L:=fun a=>some (.d (eT a))
 let M:List Tx->Option L:=fun l=>some (.m (l.map eT))
 obtain⟨nm,u,l1,e1,n1,n8,na⟩:=Pq v
 let p:Rz->Bool:=fun r=>decide (kS (kz r.d)∈KH)&&decide (((hsR rs.reverse r.n).length:Int)<7)
 let hsO:List Rz->List Tx:=fun l=>t0::(l.filter p).map (·.n)
 let ex:DS:=[none,none,none,none,none,none]
 let s3:List Tx->Option L->DS:=fun hs o4=>R::I u::T nm::M hs::o4::none::ex
 have lp:∃τ',BO (dN 4) (AQ (Ad (AE (dOp (fIn false) (dOp AJ (AB 4) (dC (.int 5))) (Cc (AF CV AD) (dPt (dC (.int 6))) Ba))) (AE (dOp fLt (AY Au (AA (AF Ey (AA (AB 0) (AA (dOp AJ (AB 4) (dC (.int 0))) AD))) AD)) (dC (.int 7))))) (Bh (dMt 3 Ay (AA (dOp AJ (AB 4) (dC (.int 0))) AD))) AO) (rs.map eZ) (s3 (hsO []) none)=some (.nx τ')/\∃o,nM o/\τ'=s3 (hsO rs) o:=by
  refine C4 (fun pre τ=>∃o,nM o/\τ=s3 (hsO pre) o) ⟨none,BB,rfl⟩ ?_
  rintro pre r post τ e ⟨o,ho,rfl⟩
  have hz:=Ej e
  have hr:r∈rs:=HU e
  let τ1:=s3 (hsO pre) (some (.d (eZ r)))
  obtain⟨lu,eu⟩:=SS ok hl (a:=r.n) (.inr ⟨r,hr,rfl⟩)
  have c1:AE (dOp (fIn false) (dOp AJ (AB 4) (dC (.int 5))) (Cc (AF CV AD) (dPt (dC (.int 6))) Ba)) τ1=some (decide (kS (kz r.d)∈KH),τ1) :=
   tst (op2 (x:=eT (kS (kz r.d))) (y:=.tuple (KH.map eT)) (τ1:=τ1) (op2 (x:=eZ r) (y:=.int 5) (τ1:=τ1) rfl rfl rfl) Vk (inT _ _))
  have c2:AE (dOp fLt (AY Au (AA (AF Ey (AA (AB 0) (AA (dOp AJ (AB 4) (dC (.int 0))) AD))) AD)) (dC (.int 7))) τ1=some (decide (((hsR rs.reverse r.n).length:Int)<7),τ1):=by
   refine tst (op2 (x:=.int ((hsR rs.reverse r.n).length:Int)) (y:=.int 7) (τ1:=τ1) (EF (d:=.list ((hsR rs.reverse r.n).map eT)) (AI (τ1:=τ1) (rs:=[.d D,.d (eT r.n)]) (ds:=[D,eT r.n]) (acc (τ1:=τ1) rfl (acc (τ1:=τ1) (op2 (x:=eZ r) (y:=.int 0) (τ1:=τ1) rfl rfl rfl) rfl)) rfl eu) ?_) rfl rfl)
   show some (PyData.int (((hsR rs.reverse r.n).map eT).length:Int))=_
   rw[List.length_map]
  have c:=F8 c1 c2
  refine⟨τ1,s3 (hsO (pre++[r])) (some (.d (eZ r))),CD (o:=o) rfl ho,?_,_,Cv,rfl⟩
  cases hp:p r with
  |true =>
   refine(BK (τ1:=τ1) (c.trans (by rw[show(_&&_)=true from hp]))).trans ?_
   have hpl:(pre.filter p).length<=pre.length:=List.length_filter_le ..
   refine(Uh (i:=3) (d:=eT r.n) (xs:=(hsO pre).map eT) (τ1:=τ1) (acc (τ1:=τ1) (op2 (x:=eZ r) (y:=.int 0) (τ1:=τ1) rfl rfl rfl) rfl) rfl ?_).trans ?_
   ·rw[List.length_map]
    show((pre.filter p).map (·.n)).length+1<900
    rw[List.length_map];omega
   ·have:(hsO pre).map eT++[eT r.n]=(hsO (pre++[r])).map eT:=by
     show eT t0::((pre.filter p).map (·.n)).map eT++[eT r.n]=eT t0::(((pre++[r]).filter p).map (·.n)).map eT
     rw[List.filter_append,List.filter_cons,hp]
     simp
    show some (Out.nx (R::I u::T nm::some (.m ((hsO pre).map eT++[eT r.n]))::some (.d (eZ r))::none::ex))=_
    rw[this]
  |false =>
   refine(Ah (τ1:=τ1) (c.trans (by rw[show(_&&_)=false from hp]))).trans ?_
   have:hsO (pre++[r])=hsO pre:=by
    show t0::((pre++[r]).filter p).map (·.n)=t0::(pre.filter p).map (·.n)
    rw[List.filter_append,List.filter_cons,hp]
    simp
   rw[this];rfl
 obtain⟨τ',e3,o4,ho4,rfl⟩:=lp
 generalize hhs:hsO rs=hs at e3
 have hs0:0<hs.length:=by rw[<- hhs];exact Nat.succ_pos _
 have hs1:hs.length<=41:=by
  rw[<- hhs]
  show((rs.filter p).map (·.n)).length+1<=41
  have hpl:(rs.filter p).length<=rs.length:=List.length_filter_le ..
  rw[List.length_map];omega
 have hsm:∀h∈hs,h=t0\/∃q∈rs,q.n=h/\4<=kz q.d/\(hsR rs.reverse q.n).length<7:=fun h hh=>by
  rw[<- hhs]at hh
  rcases List.mem_cons.mp hh with rfl|hh
  ·exact .inl rfl
  ·obtain⟨q,hq,rfl⟩:=List.mem_map.mp hh
   obtain⟨hq1,hq2⟩:=List.mem_filter.mp hq
   have hq2:(decide (kS (kz q.d)∈KH)&&decide (((hsR rs.reverse q.n).length:Int)<7))=true:=hq2
   rw[Bool.and_eq_true,decide_eq_true_eq,decide_eq_true_eq,NQ (Cn _)]at hq2
   exact .inr ⟨q,hq1,rfl,hq2.1,by omega⟩
 have okm4:okM o4=true:=LK ho4
 let s5:Int->Option L->DS:=fun u o5=>R::I u::T nm::M hs::o4::o5::ex
 let b5:Int->Option L->DS:=fun u o5=>R::I u::T nm::some (.d (.list (hs.map eT)))::o4::o5::ex
 have hok:∀u o5,okM o5=true->(b5 u o5).all okM=true:=fun u o5 h=>by
  show(true&&(true&&(true&&(true&&(okM o4&&(okM o5&&true))))))=true
  rw[okm4,h];rfl
 have ln:∀u o5,AY Au (AA (AB 3) AD) (b5 u o5)=some (.int (hs.length:Int),b5 u o5):=fun u o5=>by
  refine EF (d:=.list (hs.map eT)) (τ1:=b5 u o5) rfl ?_
  show some (PyData.int ((hs.map eT).length:Int))=_
  rw[List.length_map]
 have n0:(0:Int)<(hs.length:Int):=by omega
 have k0:=Int.emod_nonneg u (show(hs.length:Int)≠0 by omega)
 have k1:=Int.emod_lt_of_pos u n0
 obtain⟨ha,ea,ha2⟩:=CB (enc:=eT) (xs:=hs) k0 k1
 have ha3:ha∈hs:=List.mem_of_getElem? ha2
 have z4:AL (Du 3 (dOp Co (AB 3) (dOp Aa (AB 1) (AY Au (AA (AB 3) AD))))) (dN 5) (s5 u none)=some (.nx (s5 u (T ha))):=by
  refine AV (d:=eT ha) (τ1:=s5 u none) (Wc (i:=3) (xs:=hs.map eT) rfl ?_ rfl (hok u none rfl)) rfl
  exact op2 (x:=.list (hs.map eT)) (y:=.int (u % (hs.length:Int))) (τ1:=b5 u none) rfl (op2 (x:=.int u) (y:=.int (hs.length:Int)) (τ1:=b5 u none) rfl (ln u none) (BP n0)) ea
 have z5:∃h∈hs,AQ (C7 3 (AE (dOp fEq (dOp Aa (dOp Aj (AB 1) (AY Au (AA (AB 3) AD))) (dC (.int 2))) (dC (.int 0))))) (AL (Du 3 (dOp Co (AB 3) (dUn FI (dC (.int 1))))) (dN 5)) AO (s5 u (T ha))=some (.nx (s5 u (T h))):=by
  have c:C7 3 (AE (dOp fEq (dOp Aa (dOp Aj (AB 1) (AY Au (AA (AB 3) AD))) (dC (.int 2))) (dC (.int 0)))) (s5 u (T ha))=some (decide (u / (hs.length:Int) % 2=0),s5 u (T ha)):=by
   refine QM (i:=3) (xs:=hs.map eT) (τ1:=b5 u (T ha)) rfl (tst (op2 (x:=.int (u / (hs.length:Int) % 2)) (y:=.int 0) (τ1:=b5 u (T ha)) (op2 (x:=.int (u / (hs.length:Int))) (y:=.int 2) (τ1:=b5 u (T ha)) (op2 (x:=.int u) (y:=.int (hs.length:Int)) (τ1:=b5 u (T ha)) rfl (ln u _) (Bo n0 (by omega))) rfl (BP (by decide))) rfl (encI.fEq _ _))) (hok u _ rfl)
  by_cases h:u / (hs.length:Int) % 2=0
  ·obtain⟨hb,hb1,eb⟩:=Wg (enc:=eT) hs0
   refine⟨hb,hb1,(BK (τ1:=s5 u (T ha)) (by rw[c,decide_eq_true h])).trans ?_⟩
   refine AV (d:=eT hb) (τ1:=s5 u (T ha)) (Wc (i:=3) (xs:=hs.map eT) rfl ?_ rfl (hok u _ rfl)) rfl
   exact op2 (x:=.list (hs.map eT)) (y:=.int (-1)) (τ1:=b5 u (T ha)) rfl rfl eb
  ·exact⟨ha,ha3,(Ah (τ1:=s5 u (T ha)) (by rw[c,decide_eq_false h])).trans rfl⟩
 obtain⟨h,hh,z5⟩:=z5
 generalize hu2:u / (hs.length:Int) / 2=u2
 have z6:AL (Du 3 (dOp Aj (dOp Aj (AB 1) (AY Au (AA (AB 3) AD))) (dC (.int 2)))) (dN 1) (s5 u (T h))=some (.nx (s5 u2 (T h))):=by
  refine AV (d:=.int u2) (τ1:=s5 u (T h)) (Wc (i:=3) (xs:=hs.map eT) rfl ?_ rfl (hok u _ rfl)) rfl
  rw[<- hu2]
  exact op2 (x:=.int (u / (hs.length:Int))) (y:=.int 2) (τ1:=b5 u (T h)) (op2 (x:=.int u) (y:=.int (hs.length:Int)) (τ1:=b5 u (T h)) rfl (ln u _) (Bo n0 (by omega))) rfl (Bo (by decide) (by decide))
 obtain⟨x,u3,l3,ex3,x0,x1⟩:=D0 u2
 obtain⟨y,u4,l4,ey4,y0,y1⟩:=D0 u3
 let s9:Int->Option L->Option L->Option L->Option L->Option L->Option L->DS:=fun u o6 o7 o8 o9 o10 o11=>[R,I u,T nm,M hs,o4,T h,o6,o7,o8,o9,o10,o11]
 have z7:AL (AF BD (AA (AB 1) AD)) (dGT (AS (dN 6) (AS (dN 1) Az))) (s9 u2 none none none none none none)=some (.nx (s9 u3 (I x) none none none none none)) :=
  AV (AI (τ1:=s9 u2 none none none none none none) (rs:=[.d (.int u2)]) (ds:=[.int u2]) rfl rfl ex3) rfl
 have z8:AL (AF BD (AA (AB 1) AD)) (dGT (AS (dN 7) (AS (dN 1) Az))) (s9 u3 (I x) none none none none none)=some (.nx (s9 u4 (I x) (I y) none none none none)) :=
  AV (AI (τ1:=s9 u3 (I x) none none none none none) (rs:=[.d (.int u3)]) (ds:=[.int u3]) rfl rfl ey4) rfl
 have m12:Aa (.int u4) (.int 12)=some (.int (u4 % 12)):=BP (by decide)
 obtain⟨j,ej,ej2⟩:=CB (enc:=fun i=>eT (kS i)) (xs:=KA) (k:=u4 % 12) (by omega) (by show u4 % 12<12;omega)
 have hj:j<10:=by
  have:=List.mem_of_getElem? ej2
  have q:∀i∈KA,i<10:=by decide
  exact q j this
 let t8:Nat->DS:=fun j=>s9 u4 (I x) (I y) (T (kS j)) none none none
 have z9:AL (dOp AJ (AF CV AD) (dOp Aa (AB 1) (dC (.int 12)))) (dN 8) (s9 u4 (I x) (I y) none none none none)=some (.nx (t8 j)) :=
  AV (d:=eT (kS j)) (τ1:=s9 u4 (I x) (I y) none none none none) (op2 (x:=.tuple (KA.map fun i=>eT (kS i))) (y:=.int (u4 % 12)) (τ1:=s9 u4 (I x) (I y) none none none none) rfl (op2 (x:=.int u4) (y:=.int 12) (τ1:=s9 u4 (I x) (I y) none none none none) rfl rfl m12) ej) rfl
 have hup:h=t0\/∃q∈rs,q.n=h:=(hsm h hh).imp id fun⟨q,a,b,_⟩=>⟨q,a,b⟩
 obtain⟨lu,eu⟩:=SS ok hl hup
 let up:=hsR rs.reverse h
 let U:Option L:=some (.d (.list (up.map eT)))
 let ta:Nat->DS:=fun j=>s9 u4 (I x) (I y) (T (kS j)) U none none
 have za:AL (AF Ey (AA (AB 0) (AA (AB 5) AD))) (dN 9) (t8 j)=some (.nx (ta j)) :=
  AV (AI (τ1:=t8 j) (rs:=[.d D,.d (eT h)]) (ds:=[D,eT h]) rfl rfl eu) rfl
 let pt:Rz->Bool:=fun r=>decide (r.n∈up)&&decide (kS (kz r.d)=kS 8)
 have zb:∃j',j'<10/\(j'=8->rs.filter pt=[])/\AQ (Ad (AE (dOp fEq (AB 8) (dC (.str "tiles")))) (AE (dOp fNe (dLC 1 [9] (dIL (AB 0)) (dN 0) (Ad (AE (dOp (fIn false) (dOp AJ (AB 0) (dC (.int 0))) (AB 1))) (AE (dOp fEq (dOp AJ (AB 0) (dC (.int 5))) (dC (.str "tiles"))))) (AB 0)) (Bs AD)))) (AL (dC (.str "group")) (dN 8)) AO (ta j)=some (.nx (ta j')):=by
  have c1:AE (dOp fEq (AB 8) (dC (.str "tiles"))) (ta j)=some (decide (kS j=kS 8),ta j):=tst (op2 (x:=eT (kS j)) (y:=eT (kS 8)) (τ1:=ta j) rfl rfl (Gg _ _))
  have lc:dLC 1 [9] (dIL (AB 0)) (dN 0) (Ad (AE (dOp (fIn false) (dOp AJ (AB 0) (dC (.int 0))) (AB 1))) (AE (dOp fEq (dOp AJ (AB 0) (dC (.int 5))) (dC (.str "tiles"))))) (AB 0) (ta j)=some (.list ((rs.filter pt).map eZ),ta j):=by
   refine lcg (enc:=eZ) (rs:=rs) (ex:=[U]) pt eZ rfl (by omega) rfl rfl (fun r hr=>?_) (fun r hr _=>rfl)
   let τ:DS:=[some (.d (eZ r)),U]
   exact F8 (τ:=τ) (tst (op2 (x:=eT r.n) (y:=.list (up.map eT)) (τ1:=τ) (op2 (x:=eZ r) (y:=.int 0) (τ1:=τ) rfl rfl rfl) rfl (inL _ _))) (tst (op2 (x:=eT (kS (kz r.d))) (y:=eT (kS 8)) (τ1:=τ) (op2 (x:=eZ r) (y:=.int 5) (τ1:=τ) rfl rfl rfl) rfl (Gg _ _)))
  have c2:AE (dOp fNe (dLC 1 [9] (dIL (AB 0)) (dN 0) (Ad (AE (dOp (fIn false) (dOp AJ (AB 0) (dC (.int 0))) (AB 1))) (AE (dOp fEq (dOp AJ (AB 0) (dC (.int 5))) (dC (.str "tiles"))))) (AB 0)) (Bs AD)) (ta j)=some (!decide (rs.filter pt=[]),ta j) :=
   tst (op2 (x:=.list ((rs.filter pt).map eZ)) (y:=.list (([]:List Rz).map eZ)) (τ1:=ta j) lc rfl (encZ.fNeL _ _))
  have c:=F8 c1 c2
  by_cases hc:(decide (kS j=kS 8)&&!decide (rs.filter pt=[]))=true
  ·exact⟨4,by decide,fun z=>absurd z (by decide),(BK (τ1:=ta j) (by rw[c,hc])).trans rfl⟩
  ·have hc:=Bool.eq_false_iff.mpr hc
   refine⟨j,hj,fun z=>?_,(Ah (τ1:=ta j) (by rw[c,hc])).trans rfl⟩
   rw[z,decide_eq_true rfl,Bool.true_and,Bool.not_eq_false',decide_eq_true_eq]at hc
   exact hc
 obtain⟨k,hk,hk8,zb⟩:=zb
 generalize hsh:decide (u4 / 12 % 8>0)=sh
 let S:Option L:=some (.d (.bool sh))
 have zc:AL (dOp fGt (dOp Aa (dOp Aj (AB 1) (dC (.int 12))) (dC (.int 8))) (dC (.int 0))) (dN 10) (ta k)=some (.nx (s9 u4 (I x) (I y) (T (kS k)) U S none)):=by
  refine AV (d:=.bool sh) (τ1:=ta k) (op2 (x:=.int (u4 / 12 % 8)) (y:=.int 0) (τ1:=ta k) (op2 (x:=.int (u4 / 12)) (y:=.int 8) (τ1:=ta k) (op2 (x:=.int u4) (y:=.int 12) (τ1:=ta k) rfl rfl (Bo (by decide) (by decide))) rfl (BP (by decide))) rfl ?_) rfl
  rw[<- hsh];rfl
 obtain⟨d,w,ld,ed,kd,okd⟩:=LX hk (u4 / 96)
 let tz:DS:=s9 w (I x) (I y) (T (kS k)) U S (some (.d (eD d)))
 have zd:AL (AF An (AA (AB 8) (AA (dOp Aj (AB 1) (dC (.int 96))) AD))) (dGT (AS (dN 11) (AS (dN 1) Az))) (s9 u4 (I x) (I y) (T (kS k)) U S none)=some (.nx tz) :=
  AV (AI (τ1:=s9 u4 (I x) (I y) (T (kS k)) U S none) (rs:=[.d (eT (kS k)),.d (.int (u4 / 96))]) (ds:=[eT (kS k),.int (u4 / 96)]) (acc (τ1:=s9 u4 (I x) (I y) (T (kS k)) U S none) rfl (acc (op2 (x:=.int u4) (y:=.int 96) (τ1:=s9 u4 (I x) (I y) (T (kS k)) U S none) rfl rfl (Bo (by decide) (by decide))) rfl)) rfl ed) rfl
 refine⟨⟨nm,h,x,y,sh,d⟩,w,[.d D,.d (.int v)],?_,⟨n1,n8,na,x0,x1,y0,y1,okd⟩,hsm h hh,fun hd8 q hq hqu z=>?_⟩
 ·unfold C0
  refine AR (τ:=tz) ?_ rfl rfl
  refine(AH (τ1:=R::I u::T nm::none::none::none::ex) (AV (AI (τ1:=R::I v::none::none::none::none::ex) (rs:=[.d (.int v)]) (ds:=[.int v]) rfl rfl e1) rfl)).trans ?_
  refine(AH (τ1:=s3 (hsO []) none) rfl).trans ((AH ((C6 (ds:=rs.map eZ) (τ1:=s3 (hsO []) none) rfl).trans e3)).trans ?_)
  refine(AH z4).trans ((AH z5).trans ((AH z6).trans ((AH z7).trans ((AH z8).trans ((AH z9).trans ((AH za).trans ((AH zb).trans ((AH zc).trans ((AH zd).trans (Ae ?_))))))))))
  have ez:eZ ⟨nm,h,x,y,sh,d⟩ = .tuple [eT nm,eT h,.int x,.int y,.bool sh,eT (kS k),eD d]:=by rw[<- kd];rfl
  rw[ez];rfl
 ·have f:=hk8 (kd▸hd8)
  have : q ∈ rs.filter pt := List.mem_filter.mpr ⟨hq, by
   show(decide (q.n∈up)&&decide (kS (kz q.d)=kS 8))=true
   rw[decide_eq_true hqu,z,decide_eq_true rfl];rfl⟩
  rw[f]at this;cases this
def VtR:List Rz->Prop
 |[]=>True
 |r::a=>VtR a/\(r.h=t0\/∃q∈a,q.n=r.h/\4<=kz q.d/\(hsR a q.n).length<7)/\(kz r.d=8->∀q∈a,q.n∈hsR a r.h->kz q.d≠8)
theorem Ny{ns:List Int}{f m:Int}(f0:0<=f)(m0:0<=m)(m1:m<=24):∃(rs:List Rz) (ls:List L),Dr [.c (ns.map .int),.d (.int f),.d (.int m)]=some (.list (rs.map eZ),ls)/\OkZ rs/\VtR rs.reverse/\(rs.length:Int)<=m/\(1<=m->1<=rs.length):=by
 let C:Option L:=some (.c (ns.map .int))
 let I:Int->Option L:=fun i=>some (.d (.int i))
 let st:List Rz->Option L->Option L->Option L->DS:=fun rs o4 o5 o6=>[C,I f,I m,some (.m (rs.map eZ)),o4,o5,o6]
 let bt:List Rz->Option L->Option L->Option L->DS:=fun rs o4 o5 o6=>[C,I f,I m,some (.d (.list (rs.map eZ))),o4,o5,o6]
 have hok:∀rs o4 o5 o6,nM o4->nM o5->nM o6->(bt rs o4 o5 o6).all okM=true:=fun rs o4 o5 o6 h4 h5 h6=>by
  show(true&&(true&&(true&&(true&&(okM o4&&(okM o5&&(okM o6&&true)))))))=true
  rw[LK h4,LK h5,LK h6];rfl
 have lp:∃τ',BO (dN 4) (AK (AL (Du 3 (AF C0 (AA (AB 3) (AA (Af 0 EO (AA (dOp Ap (AB 1) (AB 4)) AD)) AD)))) (dGT (AS (dN 5) (AS (dN 6) Az)))) (AQ (C7 3 (AE (dOp (fIn true) (dOp AJ (AB 5) (dC (.int 0))) (dLC 1 [] (dIL (AB 3)) (dN 0) Bp (dOp AJ (AB 0) (dC (.int 0))))))) (Bh (dMt 3 Ay (AA (AB 5) AD))) AO)) ((List.range m.toNat).map fun(k:Nat)=>PyData.int (k:Int)) (st [] none none none)=some (.nx τ')/\∃rs o4 o5 o6,nM o4/\nM o5/\nM o6/\OkZ rs/\VtR rs.reverse/\rs.length<=(List.range m.toNat).length/\(0<(List.range m.toNat).length->0<rs.length)/\τ'=st rs o4 o5 o6:=by
  refine C4 (fun(pre:List Nat) τ=>∃rs o4 o5 o6,nM o4/\nM o5/\nM o6/\OkZ rs/\VtR rs.reverse/\rs.length<=pre.length/\(0<pre.length->0<rs.length)/\τ=st rs o4 o5 o6) ⟨[],none,none,none,BB,BB,BB,trivial,trivial,Nat.le_refl _,fun h=>h,rfl⟩ ?_
  rintro pre k post τ e ⟨rs,o4,o5,o6,n4,n5,n6,ok,vt,hle,hpos,rfl⟩
  have hz:=Ej e
  rw[List.length_range]at hz
  have hl:rs.length<=40:=by omega
  let K:Option L:=I (k:Int)
  obtain⟨v,l1,e1⟩:=Uq (ns:=ns) (k:=f+(k:Int)) (by omega)
  obtain⟨r,w,l2,e2,okr,hh,ht⟩:=J9 ok hl v
  let X:Option L:=some (.d (eZ r))
  have z1:AL (Du 3 (AF C0 (AA (AB 3) (AA (Af 0 EO (AA (dOp Ap (AB 1) (AB 4)) AD)) AD)))) (dGT (AS (dN 5) (AS (dN 6) Az))) (st rs K o5 o6)=some (.nx (st rs K X (I w))):=by
   refine AV (d:=.tuple [eZ r,.int w]) (τ1:=st rs K o5 o6) (Wc (i:=3) (xs:=rs.map eZ) rfl ?_ ?_ (hok rs K o5 o6 Cv n5 n6)) ?_
   ·refine AI (τ1:=bt rs K o5 o6) (rs:=[.d (.list (rs.map eZ)),.d (.int v)]) (ds:=[.list (rs.map eZ),.int v]) (acc (τ1:=bt rs K o5 o6) rfl (acc (τ1:=bt rs K o5 o6) (HF (xs:=ns.map .int) (τ1:=bt rs K o5 o6) (rs:=[.d (.int (f+(k:Int)))]) (ds:=[.int (f+(k:Int))]) rfl rfl rfl e1) rfl)) rfl e2
   ·show(DN (eZ r)&&(true&&true))=true
    rw[encZ.fix];rfl
   ·show(dN 5 (eZ r) (st rs K o5 o6)).bind _=_
    rw[CD (o:=o5) rfl n5]
    show(dN 6 (.int w) (st rs K X o6)).bind _=_
    rw[CD (o:=o6) rfl n6];rfl
  have z2:C7 3 (AE (dOp (fIn true) (dOp AJ (AB 5) (dC (.int 0))) (dLC 1 [] (dIL (AB 3)) (dN 0) Bp (dOp AJ (AB 0) (dC (.int 0)))))) (st rs K X (I w))=some (!decide (r.n∈rs.map (·.n)),st rs K X (I w)):=by
   let τd:=bt rs K X (I w)
   have lc:dLC 1 [] (dIL (AB 3)) (dN 0) Bp (dOp AJ (AB 0) (dC (.int 0))) τd=some (.list ((rs.map (·.n)).map eT),τd):=by
    have:=lcg (enc:=eZ) (rs:=rs) (τ:=τd) (fr:=[]) (it:=dIL (AB 3)) (ex:=[]) (c:=Bp) (e:=dOp AJ (AB 0) (dC (.int 0))) (fun _=>true) (fun r=>eT r.n) rfl (by omega) rfl rfl (fun r _=>rfl) (fun r _ _=>rfl)
    rw[this,Cs,List.map_map];rfl
   exact QM (i:=3) (xs:=rs.map eZ) (τ1:=τd) rfl (tst (op2 (x:=eT r.n) (y:=.list ((rs.map (·.n)).map eT)) (τ1:=τd) (op2 (x:=eZ r) (y:=.int 0) (τ1:=τd) rfl rfl rfl) lc (Vr _ _))) (hok rs K X (I w) Cv Cv Cv)
  by_cases hn:r.n∈rs.map (·.n)
  ·refine⟨st rs K o5 o6,st rs K X (I w),CD (o:=o4) rfl n4,(AH z1).trans ((Ah (τ1:=st rs K X (I w)) (by rw[z2,decide_eq_true hn];rfl)).trans rfl),rs,K,X,I w,Cv,Cv,Cv,ok,vt,by rw[List.length_append];omega,fun _=>by obtain⟨q,hq,_⟩:=List.mem_map.mp hn;exact List.length_pos_of_mem hq,rfl⟩
  ·have z3:Bh (dMt 3 Ay (AA (AB 5) AD)) (st rs K X (I w))=some (.nx (st (rs++[r]) K X (I w))):=by
    refine(Uh (i:=3) (d:=eZ r) (xs:=rs.map eZ) (τ1:=st rs K X (I w)) rfl rfl (by rw[List.length_map];omega)).trans ?_
    show some (Out.nx [C,I f,I m,some (.m (rs.map eZ++[eZ r])),K,X,I w])=_
    rw[show rs.map eZ++[eZ r]=(rs++[r]).map eZ by rw[List.map_append];rfl]
   have er:(rs++[r]).reverse=r::rs.reverse:=by simp
   refine⟨st rs K o5 o6,st (rs++[r]) K X (I w),CD (o:=o4) rfl n4,(AH z1).trans ((BK (τ1:=st rs K X (I w)) (by rw[z2,decide_eq_false hn];rfl)).trans z3),rs++[r],K,X,I w,Cv,Cv,Cv,?_,?_,by rw[List.length_append,List.length_append];simp only[List.length_cons,List.length_nil];omega,fun _=>by rw[List.length_append];exact Nat.succ_pos _,rfl⟩
   ·show OkR (rs++[r]).reverse
    rw[er]
    exact⟨ok,okr,fun q hq z=>hn (List.mem_map.mpr ⟨q,List.mem_reverse.mp hq,z⟩),hh.imp id fun⟨q,hq,e,_⟩=>⟨q,List.mem_reverse.mpr hq,e⟩⟩
   ·rw[er]
    exact⟨vt,hh.imp id fun⟨q,hq,e,h4,h7⟩=>⟨q,List.mem_reverse.mpr hq,e,h4,h7⟩,fun h8 q hq=>ht h8 q (List.mem_reverse.mp hq)⟩
 obtain⟨τ',e,rs,o4,o5,o6,n4,n5,n6,ok,vt,hle,hpos,rfl⟩:=lp
 rw[<- Ic]at e
 rw[List.length_range]at hle hpos
 refine⟨rs,[.c (ns.map .int),.d (.int f),.d (.int m)],?_,ok,vt,by omega,fun h=>hpos (by omega)⟩
 unfold Dr
 refine AR (τ:=st rs o4 o5 o6) ?_ rfl rfl
 exact(AH (τ1:=st [] none none none) rfl).trans ((AH ((C6 (J0 (n:=m) (τ1:=st [] none none none) rfl (by omega) (by omega))).trans e)).trans rfl)
theorem Om{d1 d2:PyData}:∀(n:Nat) (a b:Int) (o:Option L),nM o->0<=a->0<=b->b.toNat<n->∃o',nM o' /\
  dWh (AE (dOp fNe (AB 3) (dC (.int 0)))) (AK (AL (dOp Aa (AB 2) (AB 3)) (dN 4)) (AK (AL (AB 3) (dN 2)) (AL (AB 4) (dN 3)))) n [some (.d d1),some (.d d2),some (.d (.int a)),some (.d (.int b)),o]=some (.nx [some (.d d1),some (.d d2),some (.d (.int (gI a b))),some (.d (.int 0)),o'])
 |0,a,b,o,_,_,_,h=>absurd h (Nat.not_lt_zero _)
 |n+1,a,b,o,ho,ha,hb,h=>by
  let st:Int->Int->Option L->DS:=fun x y z=>[some (.d d1),some (.d d2),some (.d (.int x)),some (.d (.int y)),z]
  have t:AE (dOp fNe (AB 3) (dC (.int 0))) (st a b o)=some (!decide (b=0),st a b o):=by
   show(((fNe (.int b) (.int 0)).map fun d=>(d,st a b o)).bind _)=_
   rw[encI.fNe];rfl
  unfold dWh
  rw[show AE (dOp fNe (AB 3) (dC (.int 0))) [some (.d d1),some (.d d2),some (.d (.int a)),some (.d (.int b)),o]=some (!decide (b=0),st a b o) from t]
  by_cases hz:b=0
  ·subst hz
   exact⟨o,ho,by rw[Qv ha];rfl⟩
  ·have hp:0<b:=by omega
   have md:=Int.emod_lt_of_pos a hp
   have mn:=Int.emod_nonneg a (show b≠0 by omega)
   obtain⟨o',ho',e⟩:=Om (d1:=d1) (d2:=d2) n b (a % b) (some (.d (.int (a % b)))) Cv hb mn (by omega)
   refine⟨o',ho',?_⟩
   rw[decide_eq_false hz]
   have bd:AK (AL (dOp Aa (AB 2) (AB 3)) (dN 4)) (AK (AL (AB 3) (dN 2)) (AL (AB 4) (dN 3))) (st a b o)=some (.nx (st b (a % b) (some (.d (.int (a % b)))))):=by
    refine(AH (τ1:=st a b (some (.d (.int (a % b))))) (AV (d:=.int (a % b)) (τ1:=st a b o) ?_ (CD rfl ho))).trans rfl
    show((Aa (.int a) (.int b)).map fun d=>(d,st a b o))=_
    rw[BP hp];rfl
   show((AK _ _ (st a b o)).bind _)=_
   rw[bd]
   show dWh _ _ n (st b (a % b) _)=_
   rw[<- UD ha hp]
   exact e
theorem P2{t b:Int}(hb:0<b):CU [.d (.int t),.d (.int b)]=some (.int (gI t b),[.d (.int t),.d (.int b)]):=by
 obtain⟨o,ho,e⟩:=Om (d1:=.int t) (d2:=.int b) (b.toNat+1) (JV t) b none BB (Q9 t) (by omega) (Nat.lt_succ_self _)
 rw[UE]at e
 unfold CU
 refine AR (τ:=[some (.d (.int t)),some (.d (.int b)),some (.d (.int (gI t b))),some (.d (.int 0)),o]) ?_ rfl rfl
 refine(AH (τ1:=[some (.d (.int t)),some (.d (.int b)),some (.d (.int (JV t))),none,none]) rfl).trans ?_
 refine(AH (τ1:=[some (.d (.int t)),some (.d (.int b)),some (.d (.int (JV t))),some (.d (.int b)),none]) ?_).trans ?_
 ·have:JV b=b:=Ui (by omega)
  show some (Out.nx [_,_,_,some (.d (.int (JV b))),_])=_
  rw[this]
 ·exact(AH e).trans rfl
theorem Ye{s:Cl}(h:OkF s):gI s.1 s.2=1:=by
 obtain⟨t,b,hb,rfl⟩:=h.red
 have hg:0<Int.gcd t b:=Int.gcd_pos_of_ne_zero_right _ (by omega)
 show((Int.gcd (t / (Int.gcd t b:Nat)) (b / (Int.gcd t b:Nat)):Nat):Int)=1
 rw[Int.gcd_ediv_gcd_ediv_gcd hg];rfl
theorem Ki(x:Int):DV [.d (.int x)]=some (.bool true,[.d (.int x)]):=rfl
theorem Bl{x a b:Int}(h1:a<=x)(h2:x<=b):Ac [.d (.int x),.d (.int a),.d (.int b)]=some (.bool true,[.d (.int x),.d (.int a),.d (.int b)]):=by
 walk_at "a|Ac,Ki,h1,h2,decide_true"
theorem Fo{x:Int}(h1:-60<=x)(h2:x<=60):Av [.d (.int x)]=some (.bool true,[.d (.int x)]):=by
 have w:=Bl h1 h2
 walk_at "a|Av,w"
theorem Sk{s:Cl}(h:OkF s):∃ls,GG [.d (ec s)]=some (.bool true,ls):=by
 have b1:=h.b1
 have lo:=h.lo
 have hi:=h.hi
 have dv:=P2 (t:=s.1) (b:=s.2) (by omega)
 rw[Ye h]at dv
 let I:Int->Option L:=fun i=>some (.d (.int i))
 let τ:DS:=[some (.d (ec s)),I s.1,I s.2]
 refine⟨[.d (ec s)],?_⟩
 unfold GG
 refine AR (τ:=τ) ?_ rfl rfl
 refine(AH (τ1:=[some (.d (ec s)),none,none]) rfl).trans ((AH (τ1:=[some (.d (ec s)),I s.1,none]) rfl).trans ((AH (τ1:=τ) rfl).trans ((AH (τ1:=τ) rfl).trans (Ae ?_))))
 have c1:dOp fGe (AB 2) (dC (.int 1)) τ=some (.bool true,τ):=op2 (x:=.int s.2) (y:=.int 1) (τ1:=τ) rfl rfl (by show some (PyData.bool (decide (s.2≥1)))=_;rw[decide_eq_true (by omega)])
 have c2:Bf fLe fLe (dC (.int 0)) (AB 1) (AB 2) τ=some (.bool true,τ):=by
  walk_at "a|τ,I,lo,hi,decide_true"
 have c3:dOp fEq (AF CU (AA (AB 1) (AA (AB 2) AD))) (dC (.int 1)) τ=some (.bool true,τ):=op2 (x:=.int 1) (y:=.int 1) (τ1:=τ) (AI (τ1:=τ) (rs:=[.d (.int s.1),.d (.int s.2)]) (ds:=[.int s.1,.int s.2]) rfl rfl dv) rfl (by rw[encI.fEq,decide_eq_true rfl])
 exact(Ef c1).trans ((Ef c2).trans c3)
theorem IE{s:Cl}(h:OkF s):∃ls,BQ [.d (ec s)]=some (.bool true,ls):=by
 obtain⟨l1,e1⟩:=Sk h
 have b2:=h.b2
 let τ:DS:=[some (.d (ec s))]
 refine⟨[.d (ec s)],?_⟩
 unfold BQ
 refine AR (τ:=τ) (Ae ((Ef (AI (τ1:=τ) (ds:=[ec s]) rfl rfl e1)).trans (op2 (x:=.int s.2) (y:=.int 1000) (τ1:=τ) rfl rfl ?_))) rfl rfl
 show some (PyData.bool (decide (s.2<=1000)))=_
 rw[decide_eq_true b2]
theorem Gs{a b:Cl}(ha:OkF a)(hb:OkF b):∃ls,B9 [.d (ec a),.d (ec b)]=some (.bool true,ls):=by
 obtain⟨l1,e1⟩:=IE ha
 obtain⟨l2,e2⟩:=IE hb
 let τ:DS:=[some (.d (ec a)),some (.d (ec b))]
 refine⟨[.d (ec a),.d (ec b)],?_⟩
 unfold B9
 exact AR (τ:=τ) (Ae ((Ef (AI (τ1:=τ) (ds:=[ec a]) rfl rfl e1)).trans (AI (τ1:=τ) (ds:=[ec b]) rfl rfl e2))) rfl rfl
def inB(al:Str)(c:Nat):Bool:=match Ot (.str ⟨#[c]⟩) (.str al) with
 |some (.bool b)=>b
 |_=>false
theorem Yb{al:Str}{c:Nat}(h:inB al c=true):Ot (.str ⟨#[c]⟩) (.str al)=some (.bool true):=by
 unfold inB at h
 split at h
 ·rename_i b e;rw[e,h]
 ·cases h
theorem bR:∀c∈alN.cps.toList,inB alN c=true:=∅
theorem bP:∀c∈alS.cps.toList,inB alS c=true:=∅
theorem aR:∀c∈alW.cps.toList,(Jg Fg ⟨#[c]⟩).isSome=true:=∅
theorem Q4{α:Type}:∀l:List α,EE (l.map fun _=>PyData.bool true)=some (l.map fun _=>true)
 |[]=>rfl
 |a::l=>by
  rw[List.map_cons,EE,Q4 l];rfl
theorem Q8{α:Type}(l:List α):JA [.list (l.map fun _=>PyData.bool true)]=some (.bool true):=by
 show(EE (l.map fun _=>PyData.bool true)).map _=_
 rw[Q4]
 show some (PyData.bool ((l.map fun _=>true).all id))=_
 rw[show((l.map fun _=>true).all id)=true by simp]
def eC(c:Nat):PyData:=.str ⟨#[c]⟩
theorem NO{t:Tx}(h:t.1.length<=100):Au [eT t]=some (.int (t.1.length:Nat)):=by
 show(if t.1.length<=sizeLine then _ else _)=_
 rw[if_pos (sz (by omega))]
theorem Kn{al:Str}{t:Tx}{lo hi:Int}(ha:FH al t.1)(hal:∀c∈al.cps.toList,inB al c=true)(h1:lo<=(t.1.length:Nat))(h2:((t.1.length:Nat):Int)<=hi)(hz:t.1.length<=100) :
  ∃ls,Bv [.d (eT t),.d (.str al),.d (.int lo),.d (.int hi)]=some (.bool true,ls):=by
 let A:Option L:=some (.d (.str al))
 let τ:DS:=[some (.d (eT t)),A,some (.d (.int lo)),some (.d (.int hi))]
 refine⟨[.d (eT t),.d (.str al),.d (.int lo),.d (.int hi)],?_⟩
 unfold Bv
 refine AR (τ:=τ) ?_ rfl rfl
 have ln:AY Au (AA (AB 0) AD) τ=some (.int (t.1.length:Nat),τ):=EF (d:=eT t) (τ1:=τ) rfl (NO hz)
 have c1:As (AE (Bf fLe fLe (AB 2) (AY Au (AA (AB 0) AD)) (AB 3))) τ=some (false,τ):=by
  refine DU (b:=true) (tst ?_)
  unfold Bf
  show((AY Au (AA (AB 0) AD) τ).bind _)=_
  rw[ln]
  walk_at "a|τ,A,h1,h2,decide_true"
 refine(AH (τ1:=τ) ((Ah (τ1:=τ) (Hz (τ1:=τ) rfl c1)).trans rfl)).trans (Ae ?_)
 have lc:dLC 1 [1] (dIS (AB 0)) (dN 0) Bp (dOp Ot (AB 0) (AB 1)) τ=some (.list (t.1.cps.toList.map fun _=>PyData.bool true),τ):=by
  have := lcg (enc := eC) (rs := t.1.cps.toList) (τ := τ) (fr := [1]) (it := dIS (AB 0)) (ex := [A]) (c := Bp) (e := dOp Ot (AB 0) (AB 1)) (fun _ => true) (fun _ => .bool true) rfl (by show t.1.length <= 1000; omega) rfl rfl (fun r _ => rfl) (fun c hc _ =>
   op2 (x:=eC c) (y:=.str al) (τ1:=[some (.d (eC c)),A]) rfl rfl (Yb (hal c (ha c hc))))
  rw[this,Cs]
 exact EF lc (Q8 _)
theorem GI{t:Tx}(ha:FH alN t.1)(h1:1<=t.1.length)(h2:t.1.length<=8):∃ls,CQ [.d (eT t)]=some (.bool true,ls):=by
 obtain⟨l1,e1⟩:=Kn (lo:=1) (hi:=8) ha bR (by omega) (by omega) (by omega)
 refine⟨[.d (eT t)],?_⟩
 unfold CQ
 exact AR (τ:=[some (.d (eT t))]) (Ae (AI (τ1:=[some (.d (eT t))]) (rs:=[.d (eT t),.d (.str alN),.d (.int 1),.d (.int 8)]) (ds:=[eT t,.str alN,.int 1,.int 8]) rfl rfl e1)) rfl rfl
theorem Mo{t:Tx}(ha:FH alW t.1)(h2:t.1.length<=6):∃ls,Dj [.d (eT t)]=some (.bool true,ls):=by
 let τ:DS:=[some (.d (eT t))]
 refine⟨[.d (eT t)],?_⟩
 unfold Dj
 refine AR (τ:=τ) ?_ rfl rfl
 have c1:AE (dOp fGt (AY Au (AA (AB 0) AD)) (dC (.int 6))) τ=some (false,τ):=by
  refine tst (op2 (x:=.int (t.1.length:Nat)) (y:=.int 6) (τ1:=τ) (EF (d:=eT t) (τ1:=τ) rfl (NO (by omega))) rfl ?_)
  show some (PyData.bool (decide (((t.1.length:Nat):Int)>6)))=_
  rw[decide_eq_false (by omega)]
 refine(AH (τ1:=τ) ((Ah (τ1:=τ) (Hz (τ1:=τ) rfl c1)).trans rfl)).trans (Ae ?_)
 have sg:∀c∈t.1.cps.toList,Ek [.d (eC c)]=some (.bool true,[.d (eC c)]):=fun c hc=>by
  unfold Ek
  refine AR (τ:=[some (.d (eC c))]) (Ae ?_) rfl rfl
  show some (PyData.bool (Jg Fg ⟨#[c]⟩).isSome,_)=_
  rw[aR c (ha c hc)];rfl
 have lc:dLC 1 [] (dIS (AB 0)) (dN 0) Bp (AF Ek (AA (AB 0) AD)) τ=some (.list (t.1.cps.toList.map fun _=>PyData.bool true),τ):=by
  have := lcg (enc := eC) (rs := t.1.cps.toList) (τ := τ) (fr := []) (it := dIS (AB 0)) (ex := []) (c := Bp) (e := AF Ek (AA (AB 0) AD)) (fun _ => true) (fun _ => .bool true) rfl (by show t.1.length <= 1000; omega) rfl rfl (fun r _ => rfl) (fun c hc _ =>
   AI (τ1:=[some (.d (eC c))]) (ds:=[eC c]) rfl rfl (sg c hc))
  rw[this,Cs]
 exact EF lc (Q8 _)
theorem KG{R:List Tx}{w:Nat}(r1:1<=R.length)(r8:R.length<=8)(w1:1<=w)(w8:w<=8)(h:∀r∈R,r.1.length=w/\FH alS r.1):∃ls,Cg [.d (.tuple (R.map eT))]=some (.bool true,ls):=by
 let D:Option L:=some (.d (.tuple (R.map eT)))
 let τ:DS:=[D]
 refine⟨[.d (.tuple (R.map eT))],?_⟩
 unfold Cg
 refine AR (τ:=τ) ?_ rfl rfl
 have hn:(1:Int)<=(R.length:Nat):=by omega
 have hn8:((R.length:Nat):Int)<=8:=by omega
 have ln:AY Au (AA (AB 0) AD) τ=some (.int (R.length:Nat),τ):=EF (d:=.tuple (R.map eT)) (τ1:=τ) rfl (by show some (PyData.int ((R.map eT).length:Nat))=_;rw[List.length_map])
 have c1:As (AE (Bf fLe fLe (dC (.int 1)) (AY Au (AA (AB 0) AD)) (dC (.int 8)))) τ=some (false,τ):=by
  refine DU (b:=true) (tst ?_)
  unfold Bf
  rw[show dC (.int 1) τ=some (.int 1,τ) from rfl]
  dsimp only[Option.bind]
  rw[ln]
  walk_at "a|hn,hn8,decide_true"
 have lc:dLC 1 [] (dIT (AB 0)) (dN 0) Bp (AF Bv (AA (AB 0) (AA (dC (.str "#.")) (AA (dC (.int 1)) (AA (dC (.int 8)) AD))))) τ=some (.list (R.map fun _=>PyData.bool true),τ):=by
  have := lcg (enc := eT) (rs := R) (τ := τ) (fr := []) (it := dIT (AB 0)) (ex := []) (c := Bp) (e := AF Bv (AA (AB 0) (AA (dC (.str "#.")) (AA (dC (.int 1)) (AA (dC (.int 8)) AD))))) (fun _ => true) (fun _ => .bool true) rfl (by omega) rfl rfl (fun r _ => rfl) (fun r hr _ => by
   obtain⟨h1,h2⟩:=h r hr
   obtain⟨l1,e1⟩:=Kn (lo:=1) (hi:=8) h2 bP (by omega) (by omega) (by omega)
   exact AI (τ1:=[some (.d (eT r))]) (rs:=[.d (eT r),.d (.str alS),.d (.int 1),.d (.int 8)]) (ds:=[eT r,.str alS,.int 1,.int 8]) rfl rfl e1)
  rw[this,Cs]
 have lc2:dLC 1 [0] (dIT (AB 0)) (dN 0) Bp (dOp fEq (AY Au (AA (AB 0) AD)) (AY Au (AA (dOp AJ (AB 1) (dC (.int 0))) AD))) τ=some (.list (R.map fun _=>PyData.bool true),τ):=by
  obtain⟨z,zs,rfl⟩:∃z zs,R=z::zs:=by
   cases R with
   |nil=>simp at r1
   |cons z zs=>exact⟨z,zs,rfl⟩
  have := lcg (enc := eT) (rs := z :: zs) (τ := τ) (fr := [0]) (it := dIT (AB 0)) (ex := [D]) (c := Bp) (e := dOp fEq (AY Au (AA (AB 0) AD)) (AY Au (AA (dOp AJ (AB 1) (dC (.int 0))) AD))) (fun _ => true) (fun _ => .bool true) rfl (by omega) rfl rfl (fun r _ => rfl) (fun r hr _ => by
   have h1:=(h r hr).1
   have h2:=(h z List.mem_cons_self).1
   let t:DS:=[some (.d (eT r)),D]
   obtain⟨a,ea,ha2⟩:=CB (enc:=eT) (xs:=z::zs) (k:=0) (by decide) (by simp only[List.length_cons];omega)
   cases (Option.some.inj ha2)
   refine op2 (x:=.int (r.1.length:Nat)) (y:=.int (z.1.length:Nat)) (τ1:=t) (EF (d:=eT r) (τ1:=t) rfl (NO (by omega))) (EF (d:=eT z) (τ1:=t) (op2 (x:=.tuple ((z::zs).map eT)) (y:=.int 0) (τ1:=t) rfl rfl ea) (NO (by omega))) ?_
   rw[encI.fEq,h1,h2,decide_eq_true rfl])
  rw[this,Cs]
 have c2:As (AE (AY JA (AA (dLC 1 [] (dIT (AB 0)) (dN 0) Bp (AF Bv (AA (AB 0) (AA (dC (.str "#.")) (AA (dC (.int 1)) (AA (dC (.int 8)) AD)))))) AD))) τ=some (false,τ):=DU (b:=true) (tst (EF lc (Q8 _)))
 exact(AH (τ1:=τ) ((Ah (τ1:=τ) (Hz (τ1:=τ) rfl c1)).trans rfl)).trans ((AH (τ1:=τ) ((Ah (τ1:=τ) c2).trans rfl)).trans (Ae (EF lc2 (Q8 _))))
def GF:Nat->Mir
 |0=>DW
 |1=>Fu
 |2=>Fs
 |3=>Dk
 |4=>Ew
 |5=>Eu
 |6=>Bu
 |7=>Ft
 |8=>Cz
 |_=>Ew
theorem SW{i:Nat}(hi:i<10):∀{l:List Nat},i∈l->(∀j∈l,j<10)->DJ (l.map fun j=>((kS j).1,GF j)) (kS i).1=some (GF i)
 |[],h,_=>by cases h
 |j::l,h,hl=>by
  rw[List.map_cons,DJ]
  by_cases e:j=i
  ·subst e;rw[if_pos rfl]
  ·rw[if_neg fun z=>e (DY (hl j List.mem_cons_self) hi (Subtype.ext z))]
   rcases List.mem_cons.mp h with z|z
   ·exact absurd z.symm e
   ·exact SW hi z fun k hk=>hl k (List.mem_cons_of_mem _ hk)
theorem ten{i:Nat}(hi:i<10):i∈[0,1,2,3,4,5,6,7,8,9]:=by
 have:∀i:Fin 10,i.1∈[0,1,2,3,4,5,6,7,8,9]:=by decide
 exact this ⟨i,hi⟩
theorem IQ{i:Nat}(hi:i<10):DJ Bm (kS i).1=some (GF i):=SW (l:=[0,1,2,3,4,5,6,7,8,9]) hi (ten hi) (by decide)
theorem Nb(d:Dz)(ok:O7 d):∃ls,GF (kz d) [.d (eD d)]=some (.bool true,ls):=by
 cases d with
 |plate w h a b =>
  obtain⟨w0,w1,h0,h1,oa,ob⟩:=ok
  obtain⟨lp,ep⟩:=Gs oa ob
  have e1:=Bl w0 w1
  have e2:=Bl h0 h1
  let τ:DS:=[some (.d (eD (.plate w h a b)))]
  refine⟨[.d (eD (.plate w h a b))],?_⟩
  show DW _=_
  unfold DW
  refine AR (τ:=τ) ?_ rfl rfl
  have c:=DU (tst (AI (G:=B9) (a:=AA (dOp AJ (AB 0) (dC (.int 2))) (AA (dOp AJ (AB 0) (dC (.int 3))) AD)) (τ:=τ) (τ1:=τ) (rs:=[.d (ec a),.d (ec b)]) (ds:=[ec a,ec b]) rfl rfl ep))
  refine(AH (τ1:=τ) ((Ah (τ1:=τ) (Hz (τ1:=τ) rfl c)).trans rfl)).trans (Ae ?_)
  exact(Ef (AI (τ1:=τ) (rs:=[.d (.int w),.d (.int 1),.d (.int 12)]) (ds:=[.int w,.int 1,.int 12]) rfl rfl e1)).trans (AI (τ1:=τ) (rs:=[.d (.int h),.d (.int 1),.d (.int 12)]) (ds:=[.int h,.int 1,.int 12]) rfl rfl e2)
 |band w h a b =>
  obtain⟨w0,w1,h0,h1,oa,ob⟩:=ok
  obtain⟨lp,ep⟩:=Gs oa ob
  have e1:=Bl w0 w1
  have e2:=Bl h0 h1
  let τ:DS:=[some (.d (eD (.band w h a b)))]
  refine⟨[.d (eD (.band w h a b))],?_⟩
  show Fu _=_
  unfold Fu
  refine AR (τ:=τ) ?_ rfl rfl
  have c:=DU (tst (AI (G:=B9) (a:=AA (dOp AJ (AB 0) (dC (.int 2))) (AA (dOp AJ (AB 0) (dC (.int 3))) AD)) (τ:=τ) (τ1:=τ) (rs:=[.d (ec a),.d (ec b)]) (ds:=[ec a,ec b]) rfl rfl ep))
  refine(AH (τ1:=τ) ((Ah (τ1:=τ) (Hz (τ1:=τ) rfl c)).trans rfl)).trans (Ae ?_)
  exact(Ef (AI (τ1:=τ) (rs:=[.d (.int w),.d (.int (-12)),.d (.int 12)]) (ds:=[.int w,.int (-12),.int 12]) rfl rfl e1)).trans (AI (τ1:=τ) (rs:=[.d (.int h),.d (.int (-12)),.d (.int 12)]) (ds:=[.int h,.int (-12),.int 12]) rfl rfl e2)
 |word t a b =>
  obtain⟨h6,ha,oa,ob⟩:=ok
  obtain⟨lp,ep⟩:=Gs oa ob
  obtain⟨lt,et⟩:=Mo ha h6
  let τ:DS:=[some (.d (eD (.word t a b)))]
  refine⟨[.d (eD (.word t a b))],?_⟩
  show Fs _=_
  unfold Fs
  refine AR (τ:=τ) (Ae ?_) rfl rfl
  exact(Ef (τ1:=τ) rfl).trans ((Ef (AI (τ1:=τ) (rs:=[.d (eT t)]) (ds:=[eT t]) rfl rfl et)).trans (AI (τ1:=τ) (rs:=[.d (ec a),.d (ec b)]) (ds:=[ec a,ec b]) rfl rfl ep))
 |stencil R a b =>
  obtain⟨r1,r8,⟨w,w1,w8,hr⟩,oa,ob⟩:=ok
  obtain⟨lp,ep⟩:=Gs oa ob
  obtain⟨lt,et⟩:=KG r1 r8 w1 w8 hr
  let τ:DS:=[some (.d (eD (.stencil R a b)))]
  refine⟨[.d (eD (.stencil R a b))],?_⟩
  show Dk _=_
  unfold Dk
  refine AR (τ:=τ) (Ae ?_) rfl rfl
  exact(Ef (τ1:=τ) rfl).trans ((Ef (AI (τ1:=τ) (rs:=[.d (.tuple (R.map eT))]) (ds:=[.tuple (R.map eT)]) rfl rfl et)).trans (AI (τ1:=τ) (rs:=[.d (ec a),.d (ec b)]) (ds:=[ec a,ec b]) rfl rfl ep))
 |group=>exact⟨_,rfl⟩
 |mask=>exact⟨_,rfl⟩
 |glass a =>
  obtain⟨lb,eb⟩:=IE (show OkF a from ok)
  let τ:DS:=[some (.d (eD (.glass a)))]
  refine⟨[.d (eD (.glass a))],?_⟩
  show Eu _=_
  unfold Eu
  exact AR (τ:=τ) (Ae ((Ef (τ1:=τ) rfl).trans (AI (τ1:=τ) (rs:=[.d (ec a)]) (ds:=[ec a]) rfl rfl eb))) rfl rfl
 |window w h x y =>
  obtain⟨w0,w1,h0,h1,x0,x1,y0,y1⟩:=ok
  have e1:=Bl w0 w1
  have e2:=Bl h0 h1
  have e3:=Fo x0 x1
  have e4:=Fo y0 y1
  let τ:DS:=[some (.d (eD (.window w h x y)))]
  refine⟨[.d (eD (.window w h x y))],?_⟩
  show Bu _=_
  unfold Bu
  refine AR (τ:=τ) ?_ rfl rfl
  have c1:=DU (tst (AI (G:=Av) (a:=AA (dOp AJ (AB 0) (dC (.int 2))) AD) (τ:=τ) (τ1:=τ) (rs:=[.d (.int x)]) (ds:=[.int x]) rfl rfl e3))
  have c2:=DU (tst (AI (G:=Av) (a:=AA (dOp AJ (AB 0) (dC (.int 3))) AD) (τ:=τ) (τ1:=τ) (rs:=[.d (.int y)]) (ds:=[.int y]) rfl rfl e4))
  refine(AH (τ1:=τ) ((Ah (τ1:=τ) (Hz (τ1:=τ) rfl (Hz c1 c2))).trans rfl)).trans (Ae ?_)
  exact(Ef (AI (τ1:=τ) (rs:=[.d (.int w),.d (.int 1),.d (.int 16)]) (ds:=[.int w,.int 1,.int 16]) rfl rfl e1)).trans (AI (τ1:=τ) (rs:=[.d (.int h),.d (.int 1),.d (.int 16)]) (ds:=[.int h,.int 1,.int 16]) rfl rfl e2)
 |turn q f =>
  obtain⟨q0,q1⟩:=ok
  have e1:=Bl q0 q1
  let τ:DS:=[some (.d (eD (.turn q f)))]
  refine⟨[.d (eD (.turn q f))],?_⟩
  show Ft _=_
  unfold Ft
  exact AR (τ:=τ) (Ae ((Ef (τ1:=τ) rfl).trans ((Ef (AI (τ1:=τ) (rs:=[.d (.int q),.d (.int 0),.d (.int 3)]) (ds:=[.int q,.int 0,.int 3]) rfl rfl e1)).trans rfl))) rfl rfl
 |tiles a b x y =>
  obtain⟨a0,a1,b0,b1,x0,x1,y0,y1⟩:=ok
  have e1:=Bl a0 a1
  have e2:=Bl b0 b1
  have e3:=Bl x0 x1
  have e4:=Bl y0 y1
  let τ:DS:=[some (.d (eD (.tiles a b x y)))]
  refine⟨[.d (eD (.tiles a b x y))],?_⟩
  show Cz _=_
  unfold Cz
  refine AR (τ:=τ) ?_ rfl rfl
  have c1:=DU (tst (AI (G:=Ac) (a:=AA (dOp AJ (AB 0) (dC (.int 0))) (AA (dC (.int 1)) (AA (dC (.int 3)) AD))) (τ:=τ) (τ1:=τ) (rs:=[.d (.int a),.d (.int 1),.d (.int 3)]) (ds:=[.int a,.int 1,.int 3]) rfl rfl e1))
  have c2:=DU (tst (AI (G:=Ac) (a:=AA (dOp AJ (AB 0) (dC (.int 1))) (AA (dC (.int 1)) (AA (dC (.int 3)) AD))) (τ:=τ) (τ1:=τ) (rs:=[.d (.int b),.d (.int 1),.d (.int 3)]) (ds:=[.int b,.int 1,.int 3]) rfl rfl e2))
  refine(AH (τ1:=τ) ((Ah (τ1:=τ) (Hz (τ1:=τ) rfl (Hz c1 c2))).trans rfl)).trans (Ae ?_)
  exact(Ef (AI (τ1:=τ) (rs:=[.d (.int x),.d (.int (-20)),.d (.int 20)]) (ds:=[.int x,.int (-20),.int 20]) rfl rfl e3)).trans (AI (τ1:=τ) (rs:=[.d (.int y),.d (.int (-20)),.d (.int 20)]) (ds:=[.int y,.int (-20),.int 20]) rfl rfl e4)
theorem Py(d:Dz)(ok:O7 d):∃ls,El [.d (eT (kS (kz d))),.d (eD d)]=some (.bool true,ls):=by
 obtain⟨lf,ef⟩:=Nb d ok
 let τ:DS:=[some (.d (eT (kS (kz d)))),some (.d (eD d))]
 refine⟨[.d (eT (kS (kz d))),.d (eD d)],?_⟩
 unfold El
 refine AR (τ:=τ) (Ae ?_) rfl rfl
 have c2:P8 Bm (AB 0) τ=some (.bool true,τ):=by
  show some (PyData.bool (DJ Bm (kS (kz d)).1).isSome,τ)=_
  rw[IQ (Cn d)];rfl
 have c3:DH "tuple" (AB 1) τ=some (.bool true,τ):=by cases d<;>rfl
 have c4:ID Bm (AB 0) (AA (AB 1) AD) τ=some (.bool true,τ):=by
  show((DJ Bm (kS (kz d)).1).bind fun G=>AF G (AA (AB 1) AD) τ)=_
  rw[IQ (Cn d)]
  exact AI (G:=GF (kz d)) (a:=AA (AB 1) AD) (τ:=τ) (τ1:=τ) (rs:=[.d (eD d)]) (ds:=[eD d]) rfl rfl ef
 exact(Ef (τ1:=τ) rfl).trans ((Ef c2).trans ((Ef c3).trans c4))
structure OkN(t:Tx):Prop where
 n1:1<=t.1.length
 n8:t.1.length<=8
 na:FH alN t.1
theorem Rl{r:Rz}(hh:r.h=t0\/OkN r.h):Ad (AE (dOp fNe (AF AM (AA (AB 0) AD)) (dC (.str "")))) (As (AE (AF CQ (AA (AF AM (AA (AB 0) AD)) AD)))) [some (.d (eZ r))]=some (false,[some (.d (eZ r))]):=by
 let τ:DS:=[some (.d (eZ r))]
 have t1:AE (dOp fNe (AF AM (AA (AB 0) AD)) (dC (.str ""))) τ=some (!decide (r.h=t0),τ):=tst (op2 (x:=eT r.h) (y:=eT t0) (τ1:=τ) rfl rfl (MC _ _))
 by_cases h:r.h=t0
 ·rw[decide_eq_true h]at t1
  unfold Ad
  rw[t1];rfl
 ·have hn:=hh.resolve_left h
  obtain⟨l3,e5⟩:=GI hn.na hn.n1 hn.n8
  rw[decide_eq_false h]at t1
  exact(F8 t1 (DU (tst (AI (G:=CQ) (a:=AA (AF AM (AA (AB 0) AD)) AD) (τ:=τ) (τ1:=τ) (rs:=[.d (eT r.h)]) (ds:=[eT r.h]) rfl rfl e5)))).trans rfl
theorem MX{r:Rz}(ok:OkRow r)(hh:r.h=t0\/OkN r.h):∃ls,BI [.d (eZ r)]=some (.bool true,ls):=by
 obtain⟨l1,e1⟩:=GI ok.na ok.n1 ok.n8
 obtain⟨l2,e2⟩:=Py r.d ok.d
 have e3:=Fo ok.x0 ok.x1
 have e4:=Fo ok.y0 ok.y1
 let τ:DS:=[some (.d (eZ r))]
 refine⟨[.d (eZ r)],?_⟩
 unfold BI
 refine AR (τ:=τ) ?_ rfl rfl
 have c1:=DU (tst (AI (G:=CQ) (a:=AA (AF Ag (AA (AB 0) AD)) AD) (τ:=τ) (τ1:=τ) (rs:=[.d (eT r.n)]) (ds:=[eT r.n]) rfl rfl e1))
 have c2:=Rl hh
 have c3:=DU (tst (AI (G:=Av) (a:=AA (AF Ka (AA (AB 0) AD)) AD) (τ:=τ) (τ1:=τ) (rs:=[.d (.int r.x)]) (ds:=[.int r.x]) rfl rfl e3))
 have c4:=DU (tst (AI (G:=Av) (a:=AA (AF KZ (AA (AB 0) AD)) AD) (τ:=τ) (τ1:=τ) (rs:=[.d (.int r.y)]) (ds:=[.int r.y]) rfl rfl e4))
 refine(AH (τ1:=τ) rfl).trans ((AH (τ1:=τ) ((Ah (τ1:=τ) c1).trans rfl)).trans ((AH (τ1:=τ) ((Ah (τ1:=τ) c2).trans rfl)).trans ((AH (τ1:=τ) ((Ah (τ1:=τ) (Hz c3 c4)).trans rfl)).trans (Ae ?_))))
 exact(Ef (τ1:=τ) rfl).trans (AI (τ1:=τ) (rs:=[.d (eT (kS (kz r.d))),.d (eD r.d)]) (ds:=[eT (kS (kz r.d)),eD r.d]) rfl rfl e2)
def U(rs:List Rz):Prop:=∀r∈rs,∀q∈rs,r.n=q.n->r=q
theorem OkZ.u{rs:List Rz}(ok:OkZ rs):U rs:=fun r hr q hq e=>OkR.inj ok r (List.mem_reverse.mpr hr) q (List.mem_reverse.mpr hq) e
def wS:Nat->Tx
 |0=>⟨"put",∅⟩
 |1=>⟨"take",∅⟩
 |2=>⟨"raise",∅⟩
 |3=>⟨"sink",∅⟩
 |4=>⟨"move",∅⟩
 |5=>⟨"turn",∅⟩
 |6=>⟨"size",∅⟩
 |7=>⟨"change",∅⟩
 |8=>⟨"hide",∅⟩
 |_=>⟨"show",∅⟩
theorem Xd:∀i j:Fin 10,wS i=wS j->i=j:=∅
theorem JG{i j:Nat}(hi:i<10)(hj:j<10)(h:wS i=wS j):i=j:=Fin.mk.inj (Xd ⟨i,hi⟩ ⟨j,hj⟩ h)
theorem skw{v i j:Nat}(hi:i<10)(hj:j<10)(h:i≠j){a:DB}{τ:DS}(e:τ[v]?=some (some (.d (eT (wS i))))):AQ (AE (dOp fEq (AB v) (dC (eT (wS j))))) a AO τ=some (.nx τ):=by
 refine(Ah (τ1:=τ) (tst (op2 (x:=eT (wS i)) (y:=eT (wS j)) (τ1:=τ) (by unfold AB;rw[e]) rfl ?_))).trans rfl
 rw[encT.fEq,decide_eq_false fun z=>h (JG hi hj z)]
theorem tkw{v i:Nat}{a:DB}{τ:DS}(e:τ[v]?=some (some (.d (eT (wS i))))):AQ (AE (dOp fEq (AB v) (dC (eT (wS i))))) a AO τ=a τ:=by
 refine BK (τ1:=τ) (tst (op2 (x:=eT (wS i)) (y:=eT (wS i)) (τ1:=τ) (by unfold AB;rw[e]) rfl ?_))
 rw[encT.fEq,decide_eq_true rfl]
def dd(i:Nat)(n:Tx)(A0:List PyData):PyData:=.tuple (eT (wS i)::eT n::A0)
theorem at0{x:PyData}{xs:List PyData}:atI (x::xs) 0=some x:=by
 unfold atI ixN
 rw[if_pos (by decide),if_pos (by simp only[List.length_cons];omega)];rfl
theorem at1{x y:PyData}{xs:List PyData}:atI (x::y::xs) 1=some y:=by
 unfold atI ixN
 rw[if_pos (by decide),if_pos (by simp only[List.length_cons];omega)];rfl
theorem dd0{i:Nat}{n:Tx}{A0:List PyData}:AJ (dd i n A0) (.int 0)=some (eT (wS i)):=at0
theorem dd1{i:Nat}{n:Tx}{A0:List PyData}:AJ (dd i n A0) (.int 1)=some (eT n):=at1
def Hg(rs:List Rz)(n:Tx)(c:Rz):List Rz:=rs.map fun q=>if q.n=n then c else q
theorem Xq(r:Rz){j:Int}(h0:0<=j)(h1:j<7):∃d,AJ (eZ r) (.int j)=some d:=by
 obtain⟨a,ea,_⟩:=CB (enc:=fun x=>x) (xs:=[eT r.n,eT r.h,.int r.x,.int r.y,.bool r.s,eT (kS (kz r.d)),eD r.d]) (k:=j) h0 (by show j<7;exact h1)
 rw[List.map_id']at ea
 exact⟨a,ea⟩
theorem Mr{rs:List Rz}(hl:rs.length<=900):∃ls,DM [.d (.list (rs.map eZ)),.d (.list (rs.map eZ))]=some (.bool true,ls):=by
 let D:Option L:=some (.d (.list (rs.map eZ)))
 let I:Int->Option L:=fun i=>some (.d (.int i))
 let st:Option L->Option L->DS:=fun a b=>[D,D,a,b]
 refine⟨[.d (.list (rs.map eZ)),.d (.list (rs.map eZ))],?_⟩
 let Bi:DB:=AQ (AE (dOp fNe (DH "bool" (dOp AJ (dOp Co (AB 0) (AB 2)) (AB 3))) (DH "bool" (dOp AJ (dOp Co (AB 1) (AB 2)) (AB 3))))) (AN (dC (.bool false))) AO
 have inn:∀(k:Int) (o:Option L),0<=k->k<(rs.length:Int)->nM o->∃o',nM o'/\Cp (dR1 (AA (dC (.int 7)) AD)) (dN 3) Bi (st (I k) o)=some (.nx (st (I k) o')):=by
  intro k o k0 k1 ho
  obtain⟨r,er,_⟩:=CB (enc:=eZ) k0 k1
  have lp := C4 (enc := PyData.int) (xs := rng 0 7) (τ := st (I k) o) (g := dN 3) (b := Bi) (fun (pre : List Int) τ => ∃ o', nM o' /\ τ = st (I k) o') ⟨o, ho, rfl⟩ (by
   rintro pre j post τ e ⟨o',ho',rfl⟩
   have hj:=(mem_rng (n:=7)).mp (HU e)
   obtain⟨d,ed⟩:=Xq r (j:=j) (by omega) (by omega)
   let t:=st (I k) (I j)
   refine⟨t,t,CD (o:=o') rfl ho',?_,_,Cv,rfl⟩
   have y1:∀v:Nat,t[v]?=some D->DH "bool" (dOp AJ (dOp Co (AB v) (AB 2)) (AB 3)) t=some (.bool (Vn "bool" d),t):=fun v hv=>by
    unfold DH
    rw[op2 (x:=eZ r) (y:=.int j) (τ1:=t) (op2 (x:=.list (rs.map eZ)) (y:=.int k) (τ1:=t) (by unfold AB;rw[hv]) rfl er) rfl ed]
    rfl
   refine(Ah (τ1:=t) (tst (op2 (y1 0 rfl) (y1 1 rfl) ?_))).trans rfl
   cases Vn "bool" d<;>rfl)
  obtain⟨τ',e,o',ho',rfl⟩:=lp
  exact⟨o',ho',(C6 (J0 (n:=7) (τ1:=st (I k) o) rfl (by decide) (by decide))).trans e⟩
 have lp := C4 (enc := PyData.int) (xs := rng 0 (rs.length : Int).toNat) (τ := st none none) (g := dN 2) (b := Cp (dR1 (AA (dC (.int 7)) AD)) (dN 3) Bi) (fun (pre : List Int) τ => ∃ a b, nM a /\ nM b /\ τ = st a b) ⟨none, none, BB, BB, rfl⟩ (by
  rintro pre k post τ e ⟨a,b,ha,hb,rfl⟩
  have hk:=mem_rng.mp (HU e)
  obtain⟨o',ho',ei⟩:=inn k b (by omega) (by omega) hb
  exact⟨_,_,CD (o:=a) rfl ha,ei,_,_,Cv,ho',rfl⟩)
 obtain⟨τ',e,a,b,ha,hb,rfl⟩:=lp
 unfold DM
 refine AR (τ:=st a b) ?_ rfl rfl
 have c1:AE (dOp fNe (AB 0) (AB 1)) (st none none)=some (false,st none none):=tst (op2 (x:=.list (rs.map eZ)) (y:=.list (rs.map eZ)) (τ1:=st none none) rfl rfl (by rw[encZ.fNeL,decide_eq_true rfl];rfl))
 refine(AH (τ1:=st none none) ((Ah (τ1:=st none none) (Hz (τ1:=st none none) rfl c1)).trans rfl)).trans ((AH (τ1:=st a b) ((C6 (J0 (n:=(rs.length:Int)) (τ1:=st none none) ?_ (by omega) (by omega))).trans ?_)).trans rfl)
 ·show some ([Ar.d (.int ((rs.map eZ).length:Int))],_)=_
  rw[List.length_map]
 ·exact e
def Ip(rs:List Rz)(a:Tx):List Tx:=(rs.filter fun r=>decide (a∈(hsR rs.reverse r.n).tail)).map (·.n)
theorem Qs(rs:List Rz)(a:Tx):(Ip rs a).length<=rs.length:=by
 unfold Ip;rw[List.length_map];exact List.length_filter_le ..
theorem N6{rs:List Rz}(ok:OkZ rs)(hl:rs.length<=30)(a:Tx):∃ls,EA [.d (.list (rs.map eZ)),.d (eT a)]=some (.list ((Ip rs a).map eT),ls):=by
 let D:Option L:=some (.d (.list (rs.map eZ)))
 let τ:DS:=[D,some (.d (eT a))]
 refine⟨[.d (.list (rs.map eZ)),.d (eT a)],?_⟩
 unfold EA
 refine AR (τ:=τ) (Ae ?_) rfl rfl
 have := lcg (enc := eZ) (rs := rs) (τ := τ) (fr := [1, 0]) (it := dIL (AB 0)) (ex := [some (.d (eT a)), D]) (c := AE (dOp (fIn false) (AB 1) (AF BW (AA (AB 2) (AA (AF Ag (AA (AB 0) AD)) AD))))) (e := AF Ag (AA (AB 0) AD)) (fun r => decide (a ∈ (hsR rs.reverse r.n).tail)) (fun r => eT r.n) rfl (by omega) rfl rfl (fun r hr => by
  obtain⟨l1,e1⟩:=IA ok (by omega) (a:=r.n) (.inr ⟨r,hr,rfl⟩)
  let t:DS:=[some (.d (eZ r)),some (.d (eT a)),D]
  exact tst (op2 (x:=eT a) (y:=.list ((hsR rs.reverse r.n).tail.map eT)) (τ1:=t) rfl (AI (τ1:=t) (rs:=[.d (.list (rs.map eZ)),.d (eT r.n)]) (ds:=[.list (rs.map eZ),eT r.n]) (acc (τ1:=t) rfl (acc (τ1:=t) (AI (τ1:=t) (ds:=[eZ r]) rfl rfl (ES r)) rfl)) rfl e1) (inL _ _))) (fun r _ _=>rfl)
 refine this.trans ?_
 unfold Ip
 rw[List.map_map];rfl
theorem Yf{np nl:Nat}{b:DB}{ls ls':List L}{τ:DS}(h:b (ls.map some++List.replicate nl none)=some (.nx τ))(hl:ls.length=np)(hf:fin ls τ=some ls'):Ab false np nl b ls=some (.none,ls'):=by
 unfold Ab
 rw[if_pos hl,h]
 show(if false=true then none else (fin ls τ).map _)=_
 rw[if_neg (by decide),hf];rfl
theorem VtR.suf:∀{p q:List Rz},VtR (p++q)->VtR q
 |[],_,h=>h
 |_::p,_,h=>VtR.suf (p:=p) h.1
theorem Df{m:Tx}:∀{a:List Rz} {n:Tx},m∈hsR a n->∃q∈a,q.n=m
 |[],_,h=>by cases h
 |r::a,n,h=>by
  rw[hsR]at h
  by_cases e:r.n=n
  ·rw[if_pos e]at h
   rcases List.mem_cons.mp h with z|z
   ·exact⟨r,List.mem_cons_self,e.trans z.symm⟩
   ·obtain⟨q,hq,hm⟩:=Df z
    exact⟨q,List.mem_cons_of_mem _ hq,hm⟩
  ·rw[if_neg e]at h
   obtain⟨q,hq,hm⟩:=Df h
   exact⟨q,List.mem_cons_of_mem _ hq,hm⟩
theorem OkRow.nm{r:Rz}(h:OkRow r):OkN r.n:=⟨h.n1,h.n8,h.na⟩
theorem Q5{α:Type}:∀l:List α,EE (l.map fun _=>PyData.bool false)=some (l.map fun _=>false)
 |[]=>rfl
 |a::l=>by
  rw[List.map_cons,EE,Q5 l];rfl
theorem dS{α:Type}(l:List α):Iz [.list (l.map fun _=>PyData.bool false)]=some (.bool false):=by
 show(EE (l.map fun _=>PyData.bool false)).map _=_
 rw[Q5]
 show some (PyData.bool ((l.map fun _=>false).any id))=_
 rw[show((l.map fun _=>false).any id)=false by simp]
theorem NU{q:Rz}(h:4<=kz q.d):∃ls,BY [.d (eZ q)]=some (.bool true,ls):=by
 let τ:DS:=[some (.d (eZ q))]
 refine⟨[.d (eZ q)],?_⟩
 unfold BY
 refine AR (τ:=τ) (Ae (op2 (x:=eT (kS (kz q.d))) (y:=.tuple (KH.map eT)) (τ1:=τ) rfl rfl ?_)) rfl rfl
 rw[inT,decide_eq_true ((NQ (Cn _)).mpr h)]
theorem Oh{rs:List Rz}(ok:OkZ rs){q:Rz}(hq:q∈rs)(h:kz q.d≠8):∃ls,Be [.d (.list (rs.map eZ)),.d (eT q.n)]=some (.bool false,ls):=by
 obtain⟨l1,e1⟩:=Fn ok hq
 let τ:DS:=[some (.d (.list (rs.map eZ))),some (.d (eT q.n))]
 refine⟨[.d (.list (rs.map eZ)),.d (eT q.n)],?_⟩
 unfold Be
 refine AR (τ:=τ) (Ae (op2 (x:=eT (kS (kz q.d))) (y:=eT (kS 8)) (τ1:=τ) (AI (τ1:=τ) (rs:=[.d (eZ q)]) (ds:=[eZ q]) (ls:=[.d (eZ q)]) (acc (τ1:=τ) (AI (τ1:=τ) (rs:=[.d (.list (rs.map eZ)),.d (eT q.n)]) (ds:=[.list (rs.map eZ),eT q.n]) rfl rfl e1) rfl) rfl rfl) rfl ?_)) rfl rfl
 rw[Gg,decide_eq_false fun z=>h (DY (Cn _) (by decide) z)]
theorem PL{ah:List Rz}{r:Rz}(okr:OkR (r::ah.reverse))(vt:VtR (r::ah.reverse))(hl:ah.length<=30):∃ls,Fp [.d (.list (ah.map eZ)),.d (eZ r)]=some (.none,ls):=by
 obtain⟨ok,or',hne,hhold⟩:=okr
 obtain⟨_,vh,v8⟩:=vt
 have ok:OkZ ah:=ok
 let D:PyData:=.list (ah.map eZ)
 let st:Option L->Option L->DS:=fun a b=>[some (.d D),some (.d (eZ r)),a,b]
 have hN:r.h=t0\/OkN r.h:=hhold.imp id fun⟨q,hq,e⟩=>e▸(OkR.all ok q hq).nm
 obtain⟨l1,e1⟩:=MX or' hN
 obtain⟨l2,e2⟩:=Bt ah r.n
 rw[Gz fun q hq=>hne q (List.mem_reverse.mpr hq)]at e2
 refine⟨[.d D,.d (eZ r)],?_⟩
 let τ0:=st none none
 have c1:=DU (tst (AI (G:=BI) (a:=AA (AB 1) AD) (τ:=τ0) (τ1:=τ0) (rs:=[.d (eZ r)]) (ds:=[eZ r]) rfl rfl e1))
 have c2:AE (dOp Bz (AF Am (AA (AB 0) (AA (AF Ag (AA (AB 1) AD)) AD))) (dC .none)) τ0=some (false,τ0) :=
  tst (op2 (x:=.none) (y:=.none) (τ1:=τ0) (AI (τ1:=τ0) (rs:=[.d D,.d (eT r.n)]) (ds:=[D,eT r.n]) rfl rfl e2) rfl rfl)
 have c3:AE (dOp fEq (AF AM (AA (AB 1) AD)) (dC (.str ""))) τ0=some (decide (r.h=t0),τ0):=tst (op2 (x:=eT r.h) (y:=eT t0) (τ1:=τ0) (AI (τ1:=τ0) (ds:=[eZ r]) rfl rfl (B8 r)) rfl (Gg _ _))
 unfold Fp
 by_cases h:r.h=t0
 ·rw[decide_eq_true h]at c3
  exact AR (τ:=τ0) ((AH (τ1:=τ0) ((Ah (τ1:=τ0) c1).trans rfl)).trans ((AH (τ1:=τ0) ((Ah (τ1:=τ0) c2).trans rfl)).trans (A7 ((BK (τ1:=τ0) c3).trans rfl)))) rfl rfl
 ·rw[decide_eq_false h]at c3
  obtain⟨q,hq,hqn,hq4,hq7⟩:=vh.resolve_left h
  have hqa:q∈ah:=List.mem_reverse.mp hq
  obtain⟨l3,e3⟩:=Bt ah r.h
  rw[<- hqn,CY ok hqa]at e3
  obtain⟨l4,e4⟩:=NU hq4
  obtain⟨l5,e5⟩:=IA ok (by omega) (a:=r.h) (.inr ⟨q,hqa,hqn⟩)
  obtain⟨tl,htl⟩:=Kc (a:=ah.reverse) (n:=r.h) ⟨q,hq,hqn⟩
  let τ1:=st (some (.d (eZ q))) none
  let H:PyData:=.list ((hsR ah.reverse r.h).map eT)
  let τ2:=st (some (.d (eZ q))) (some (.d H))
  have hx:∀a b,AF AM (AA (AB 1) AD) (st a b)=some (eT r.h,st a b):=fun a b=>AI (τ1:=st a b) (ds:=[eZ r]) rfl rfl (B8 r)
  have z4:AL (AF Am (AA (AB 0) (AA (AF AM (AA (AB 1) AD)) AD))) (dN 2) τ0=some (.nx τ1):=by
   refine AV (d:=eZ q) (τ1:=τ0) (AI (τ1:=τ0) (rs:=[.d D,.d (eT r.h)]) (ds:=[D,eT r.h]) (ls:=l3) (acc (τ1:=τ0) rfl (acc (hx _ _) rfl)) rfl ?_) rfl
   rw[<- hqn];exact e3
  have c5:=DU (tst (AI (G:=BY) (a:=AA (AB 2) AD) (τ:=τ1) (τ1:=τ1) (rs:=[.d (eZ q)]) (ds:=[eZ q]) rfl rfl e4))
  have z6:AL (dOp Ea (Bs (AA (AF AM (AA (AB 1) AD)) AD)) (AF BW (AA (AB 0) (AA (AF AM (AA (AB 1) AD)) AD)))) (dN 3) τ1=some (.nx τ2):=by
   have hlen:=HZ ah.reverse r.h
   rw[List.length_reverse]at hlen
   refine AV (d:=H) (τ1:=τ1) (op2 (x:=.list [eT r.h]) (y:=.list ((hsR ah.reverse r.h).tail.map eT)) (τ1:=τ1) ?_ (AI (τ1:=τ1) (rs:=[.d D,.d (eT r.h)]) (ds:=[D,eT r.h]) (acc (τ1:=τ1) rfl (acc (hx _ _) rfl)) rfl e5) ?_) rfl
   ·unfold Bs
    rw[acc (hx _ _) rfl];rfl
   ·show(if [eT r.h].length+((hsR ah.reverse r.h).tail.map eT).length<=sizeLine then some (PyData.list ([eT r.h]++(hsR ah.reverse r.h).tail.map eT)) else none)=_
    rw[if_pos (sz (by rw[List.length_map,List.length_tail];simp only[List.length_cons,List.length_nil];omega))]
    show some (PyData.list _)=some (PyData.list _)
    rw[htl];rfl
  have c7:AE (dOp fGt (AY Au (AA (AB 3) AD)) (dC (.int 6))) τ2=some (false,τ2):=by
   refine tst (op2 (x:=.int ((hsR ah.reverse r.h).length:Nat)) (y:=.int 6) (τ1:=τ2) (EF (d:=H) (τ1:=τ2) rfl (by show some (PyData.int (((hsR ah.reverse r.h).map eT).length:Nat))=_;rw[List.length_map])) rfl ?_)
   show some (PyData.bool (decide ((((hsR ah.reverse r.h).length:Nat):Int)>6)))=_
   rw[hqn]at hq7
   rw[decide_eq_false (by omega)]
  have c8:Ad (AE (dOp fEq (AF BM (AA (AB 1) AD)) (dC (.str "tiles")))) (AE (AY Iz (AA (dLC 1 [0] (dIL (AB 3)) (dN 0) Bp (AF Be (AA (AB 1) (AA (AB 0) AD)))) AD))) τ2=some (false,τ2):=by
   have t1:AE (dOp fEq (AF BM (AA (AB 1) AD)) (dC (.str "tiles"))) τ2=some (decide (kS (kz r.d)=kS 8),τ2):=tst (op2 (x:=eT (kS (kz r.d))) (y:=eT (kS 8)) (τ1:=τ2) rfl rfl (Gg _ _))
   by_cases h8:kz r.d=8
   ·have lc:dLC 1 [0] (dIL (AB 3)) (dN 0) Bp (AF Be (AA (AB 1) (AA (AB 0) AD))) τ2=some (.list ((hsR ah.reverse r.h).map fun _=>PyData.bool false),τ2):=by
     have hlen:=HZ ah.reverse r.h
     rw[List.length_reverse]at hlen
     have := lcg (enc := eT) (rs := hsR ah.reverse r.h) (τ := τ2) (fr := [0]) (it := dIL (AB 3)) (ex := [some (.d D)]) (c := Bp) (e := AF Be (AA (AB 1) (AA (AB 0) AD))) (fun _ => true) (fun _ => .bool false) rfl (by omega) rfl rfl (fun _ _ => rfl) (fun m hm _ => by
      obtain⟨p,hp,rfl⟩:=Df hm
      obtain⟨lt,et⟩:=Oh ok (List.mem_reverse.mp hp) (v8 h8 p hp hm)
      exact AI (τ1:=[some (.d (eT p.n)),some (.d D)]) (rs:=[.d D,.d (eT p.n)]) (ds:=[D,eT p.n]) rfl rfl et)
     rw[this,Cs]
    exact(F8 t1 (tst (EF lc (dS _)))).trans (by rw[Bool.and_false])
   ·rw[decide_eq_false fun z=>h8 (DY (Cn _) (by decide) z)]at t1
    unfold Ad
    rw[t1];rfl
  refine Yf (τ:=τ2) ?_ rfl rfl
  refine(AH (τ1:=τ0) ((Ah (τ1:=τ0) c1).trans rfl)).trans ((AH (τ1:=τ0) ((Ah (τ1:=τ0) c2).trans rfl)).trans ((AH (τ1:=τ0) ((Ah (τ1:=τ0) c3).trans rfl)).trans ((AH z4).trans ?_)))
  exact(AH (τ1:=τ1) ((Ah (τ1:=τ1) (Hz (τ1:=τ1) rfl c5)).trans rfl)).trans ((AH z6).trans ((AH (τ1:=τ2) ((Ah (τ1:=τ2) c7).trans rfl)).trans ((Ah (τ1:=τ2) c8).trans rfl)))
theorem XG:∀(k:Nat) (rs:List Rz),FU k (rs.map eZ)=(rs.zipIdx k).map fun p=>PyData.tuple [.int (p.2:Nat),eZ p.1]
 |_,[]=>rfl
 |k,r::rs=>by
  rw[List.map_cons,FU,XG (k+1) rs,List.zipIdx_cons,List.map_cons]
theorem Ke(xs:List PyData)(k:Nat):JD xs none (some (k:Int))=xs.take k:=by
 unfold JD
 have e:HT.sIx xs.length xs.length (some (k:Int))=min k xs.length:=by
  show(if (k:Int)<0 then ((k:Int)+(xs.length:Int)).toNat else min (k:Int).toNat xs.length)=_
  rw[if_neg (by omega),Int.toNat_natCast]
 rw[e]
 show(xs.drop 0).take (min k xs.length-0)=_
 rw[List.drop_zero,Nat.sub_zero,List.take_eq_take_iff]
 omega
theorem RB{rs:List Rz}{pre post:List (Rz×Nat)}{x:Rz×Nat}(e:rs.zipIdx=pre++x::post):rs=rs.take x.2++x.1::rs.drop (x.2+1)/\x.2<rs.length:=by
 have hx:x∈rs.zipIdx:=by rw[e];exact List.mem_append_right _ List.mem_cons_self
 have h1:=List.mem_zipIdx hx
 have h2:x.2<rs.length:=by have:=h1.2.1;omega
 have h3:x.1=rs[x.2]:=by simpa using h1.2.2
 refine⟨?_,h2⟩
 rw[h3,<- List.drop_eq_getElem_cons h2,List.take_append_drop]
theorem Xe{rs:List Rz}(ok:OkZ rs)(vt:VtR rs.reverse)(hl:rs.length<=24):∃ls,OV [.d (.list (rs.map eZ))]=some (.bool true,ls):=by
 let D:PyData:=.list (rs.map eZ)
 let st:Option L->Option L->DS:=fun a b=>[some (.d D),a,b]
 have lp := C4 (enc := fun p : Rz × Nat => PyData.tuple [.int (p.2 : Nat), eZ p.1]) (xs := rs.zipIdx) (τ := st none none) (g := dGT (AS (dN 1) (AS (dN 2) Az))) (b := Bh (AF Fp (AA (dSl (AB 0) Ba (dPt (AB 1))) (AA (AB 2) AD)))) (fun (pre : List (Rz × Nat)) τ => ∃ a b, nM a /\ nM b /\ τ = st a b) ⟨none, none, BB, BB, rfl⟩ (by
  rintro pre x post τ e ⟨a,b,ha,hb,rfl⟩
  obtain⟨es,hx⟩:=RB e
  let t:=st (some (.d (.int (x.2:Nat)))) (some (.d (eZ x.1)))
  have er:rs.reverse=(rs.drop (x.2+1)).reverse++(x.1::(rs.take x.2).reverse):=by
   conv=>lhs;rw[es]
   simp
  obtain⟨lv,ev⟩:=PL (ah:=rs.take x.2) (r:=x.1) ((show OkR (_++_) from er▸(show OkR rs.reverse from ok)).suf) ((show VtR (_++_) from er▸vt).suf) (by rw[List.length_take];omega)
  refine⟨t,t,?_,?_,_,_,Cv,Cv,rfl⟩
  ·show(dN 1 (.int (x.2:Nat)) (st a b)).bind _=_
   rw[CD (o:=a) rfl ha]
   show(dN 2 (eZ x.1) (st (some (.d (.int (x.2:Nat)))) b)).bind _=_
   rw[CD (o:=b) rfl hb];rfl
  ·have sl:dSl (AB 0) Ba (dPt (AB 1)) t=some (.list ((rs.take x.2).map eZ),t):=by
    show some (PyData.list (JD (rs.map eZ) none (some ((x.2:Nat):Int))),t)=_
    rw[Ke,List.map_take]
   unfold Bh
   rw[AI (τ1:=t) (rs:=[.d (.list ((rs.take x.2).map eZ)),.d (eZ x.1)]) (ds:=[.list ((rs.take x.2).map eZ),eZ x.1]) (acc sl rfl) rfl ev];rfl)
 obtain⟨τ',e,a,b,ha,hb,rfl⟩:=lp
 rw[<- XG]at e
 refine⟨[.d D],?_⟩
 unfold OV
 refine AR (τ:=st a b) ?_ rfl rfl
 refine(AH ((C6 (ds:=FU 0 (rs.map eZ)) (τ1:=st none none) rfl).trans e)).trans ((AH (τ1:=st a b) ((Ah (τ1:=st a b) (tst (op2 (x:=.int (rs.length:Nat)) (y:=.int 24) (τ1:=st a b) (EF (d:=D) (τ1:=st a b) rfl (by show some (PyData.int ((rs.map eZ).length:Nat))=_;rw[List.length_map])) rfl ?_))).trans rfl)).trans rfl)
 show some (PyData.bool (decide (((rs.length:Nat):Int)>24)))=_
 rw[decide_eq_false (by omega)]
theorem LQ{m:Tx}:∀{p a:List Rz},(∀q∈p,q.n≠m)->hsR (p++a) m=hsR a m
 |[],_,_=>rfl
 |r::p,a,h=>by
  rw[List.cons_append,hsR,if_neg (h r List.mem_cons_self)]
  exact LQ fun q hq=>h q (List.mem_cons_of_mem _ hq)
theorem Cr{rs R1 R2:List Rz}{r:Rz}(ok:OkZ rs)(e:rs=R1++r::R2):OkZ R1/\OkRow r/\(∀q∈R1,q.n≠r.n)/\(r.h=t0\/∃q∈R1,q.n=r.h):=by
 have:OkR (R2.reverse++(r::R1.reverse)):=by
  have:=ok
  unfold OkZ at this
  rw[e]at this
  simpa using this
 obtain⟨h1,h2,h3,h4⟩:=this.suf
 exact⟨h1,h2,fun q hq=>h3 q (List.mem_reverse.mpr hq),h4.imp id fun⟨q,hq,e⟩=>⟨q,List.mem_reverse.mp hq,e⟩⟩
theorem Qh{A B:List Rz}(ok:OkZ (A++B)):OkZ A:=by
 have:OkR (B.reverse++A.reverse):=by
  have:=ok
  unfold OkZ at this
  rwa [List.reverse_append]at this
 exact this.suf
theorem KY:∀{B A:List Rz},OkZ A->(∀B1 r B2,B=B1++r::B2->OkRow r/\(∀q∈A++B1,q.n≠r.n)/\(r.h=t0\/∃q∈A++B1,q.n=r.h))->OkZ (A++B)
 |[],A,ok,_=>by rw[List.append_nil];exact ok
 |r::B,A,ok,h=>by
  obtain⟨h1,h2,h3⟩:=h [] r B rfl
  rw[List.append_nil]at h2 h3
  have ok1:OkZ (A++[r]):=by
   show OkR (A++[r]).reverse
   rw[List.reverse_append]
   exact⟨ok,h1,fun q hq=>h2 q (List.mem_reverse.mp hq),h3.imp id fun⟨q,hq,e⟩=>⟨q,List.mem_reverse.mpr hq,e⟩⟩
  have:=KY (B:=B) ok1 fun B1 x B2 e=>by
   have:=h (r::B1) x B2 (by rw[e];rfl)
   rw[show A++r::B1=A++[r]++B1 by simp]at this
   exact this
  rwa [show A++[r]++B=A++r::B by simp]at this
theorem GJ{α:Type}{p:α->Bool}:∀{l B1 B2:List α} {r:α},l.filter p=B1++r::B2->∃R1 R2,l=R1++r::R2/\R1.filter p=B1/\p r=true
 |[],B1,B2,r,h=>by rw[List.filter_nil]at h;exact absurd h.symm (by simp)
 |x::l,B1,B2,r,h=>by
  rw[List.filter_cons]at h
  by_cases hp:p x=true
  ·rw[if_pos hp]at h
   cases B1 with
   |nil =>
    obtain⟨e1,e2⟩:=List.cons.inj (show x::l.filter p=r::B2 from h)
    subst e1
    exact⟨[],l,rfl,rfl,hp⟩
   |cons b B1 =>
    obtain⟨e1,e2⟩:=List.cons.inj (show x::l.filter p=b::(B1++r::B2) from h)
    subst e1
    obtain⟨R1,R2,e3,e4,e5⟩:=GJ e2
    exact⟨x::R1,R2,by rw[e3];rfl,by rw[List.filter_cons,if_pos hp,e4],e5⟩
  ·rw[if_neg hp]at h
   obtain⟨R1,R2,e3,e4,e5⟩:=GJ h
   exact⟨x::R1,R2,by rw[e3];rfl,by rw[List.filter_cons,if_neg hp,e4],e5⟩
theorem HY{rs:List Rz}(ok:OkZ rs){r:Rz}(hr:r∈rs):hsR rs.reverse r.n=r.n::hsR rs.reverse r.h:=by
 obtain⟨R1,R2,e⟩:=List.append_of_mem hr
 obtain⟨o1,o2,o3,o4⟩:=Cr ok e
 have er:rs.reverse=R2.reverse++(r::R1.reverse):=by rw[e];simp
 have u:=OkZ.u ok
 have h2:∀q∈R2.reverse,q.n≠r.n:=fun q hq z=>by
  have hq:=List.mem_reverse.mp hq
  obtain⟨S1,S2,e2⟩:=List.append_of_mem hq
  have:=(Cr ok (R1:=R1++r::S1) (r:=q) (R2:=S2) (by rw[e,e2];simp)).2.2.1 r (List.mem_append_right _ List.mem_cons_self)
  exact this z.symm
 rw[er,LQ h2,hsR,if_pos rfl]
 congr 1
 rcases o4 with hh|⟨q,hq,hqn⟩
 ·have ok':OkR (R2.reverse++(r::R1.reverse)):=er▸(show OkR rs.reverse from ok)
  rw[hh,EZ o1,EZ ok']
 ·have hq':q∈rs:=by rw[e];exact List.mem_append_left _ hq
  have h3:∀x∈R2.reverse++[r],x.n≠r.h:=fun x hx z=>by
   have hxq:x.n=q.n:=z.trans hqn.symm
   rcases List.mem_append.mp hx with hx|hx
   ·have hx:=List.mem_reverse.mp hx
    obtain⟨S1,S2,e2⟩:=List.append_of_mem hx
    exact(Cr ok (R1:=R1++r::S1) (r:=x) (R2:=S2) (by rw[e,e2];simp)).2.2.1 q (List.mem_append_left _ hq) hxq.symm
   ·rw[List.mem_singleton.mp hx]at hxq
    exact o3 q hq hxq.symm
  rw[show R2.reverse++r::R1.reverse=(R2.reverse++[r])++R1.reverse by simp,LQ h3]
theorem Iq{rs xs:List Rz}(ok:OkZ rs)(ox:OkZ xs)(h:∀q∈rs,q∈xs):∀{m:Tx},(m=t0\/∃q∈rs,q.n=m)->hsR xs.reverse m=hsR rs.reverse m:=by
 have key:∀(ah post:List Rz),rs.reverse=post++ah->∀m,(m=t0\/∃q∈ah,q.n=m)->hsR xs.reverse m=hsR rs.reverse m:=by
  intro ah
  induction ah with
  |nil =>
   intro post e m hm
   rcases hm with rfl|⟨q,hq,_⟩
   ·rw[EZ ok,EZ ox]
   ·cases hq
  |cons r ah ih =>
   intro post e m hm
   rcases hm with rfl|⟨q,hq,hqm⟩
   ·rw[EZ ok,EZ ox]
   rcases List.mem_cons.mp hq with rfl|hq
   ·have hr:q∈rs:=List.mem_reverse.mp (e▸List.mem_append_right _ List.mem_cons_self)
    have okr:OkR (q::ah):=(show OkR (post++q::ah) from e▸(show OkR rs.reverse from ok)).suf
    rw[<- hqm,HY ok hr,HY ox (h q hr),ih (post++[q]) (by rw[e];simp) q.h okr.2.2.2]
   ·exact ih (post++[r]) (by rw[e];simp) m (.inr ⟨q,hq,hqm⟩)
 exact fun {m} hm=>key rs.reverse [] rfl m (hm.imp id fun⟨q,hq,e⟩=>⟨q,List.mem_reverse.mpr hq,e⟩)
def inW(rs:List Rz)(n:Tx)(r:Rz):Bool:=decide (n∈hsR rs.reverse r.n)
def wiZ(rs:List Rz)(n:Tx):List Rz:=rs.filter (inW rs n)
def woZ(rs:List Rz)(n:Tx):List Rz:=rs.filter fun r=>!inW rs n r
theorem Kb{rs:List Rz}(ok:OkZ rs){n:Tx}{r:Rz}(hr:r∈rs):decide (r.n∈n::Ip rs n)=inW rs n r:=by
 unfold inW
 rw[decide_eq_decide,HY ok hr]
 have tl:∀q∈rs,(hsR rs.reverse q.n).tail=hsR rs.reverse q.h:=fun q hq=>by rw[HY ok hq,List.tail_cons]
 constructor
 ·intro h
  rcases List.mem_cons.mp h with h|h
  ·rw[h];exact List.mem_cons_self
  ·unfold Ip at h
   obtain⟨q,hq,e⟩:=List.mem_map.mp h
   obtain⟨hq1,hq2⟩:=List.mem_filter.mp hq
   have:=OkZ.u ok q hq1 r hr e
   subst this
   rw[tl q hq1]at hq2
   exact List.mem_cons_of_mem _ (of_decide_eq_true hq2)
 ·intro h
  rcases List.mem_cons.mp h with h|h
  ·rw[h];exact List.mem_cons_self
  ·refine List.mem_cons_of_mem _ (List.mem_map.mpr ⟨r,List.mem_filter.mpr ⟨hr,?_⟩,rfl⟩)
   rw[tl r hr];exact decide_eq_true h
theorem Ya{rs:List Rz}(ok:OkZ rs){n:Tx}{r q:Rz}(hr:r∈rs)(hq:q∈rs)(e:q.n=r.h)(h:inW rs n q=true):inW rs n r=true:=by
 unfold inW at *
 rw[decide_eq_true_eq]at *
 rw[HY ok hr,<- e]
 exact List.mem_cons_of_mem _ h
theorem T7{rs:List Rz}(ok:OkZ rs){n:Tx}{r q:Rz}(hr:r∈rs)(e:q.n=r.h)(hn:r.n≠n)(h:inW rs n r=true):inW rs n q=true:=by
 unfold inW at *
 rw[decide_eq_true_eq]at *
 rw[HY ok hr]at h
 rcases List.mem_cons.mp h with z|z
 ·exact absurd z.symm hn
 ·rw[e];exact z
theorem T6{rs:List Rz}(ok:OkZ rs){R1 R2:List Rz}{r q:Rz}(e:rs=R1++r::R2)(hq:q∈R1):inW rs r.n q=false:=by
 obtain⟨o1,_,o3,_⟩:=Cr ok e
 unfold inW
 rw[decide_eq_false]
 intro h
 have hR:∀x∈R1,x∈rs:=fun x hx=>by rw[e];exact List.mem_append_left _ hx
 rw[Iq (rs:=R1) (xs:=rs) o1 ok hR (.inr ⟨q,hq,rfl⟩)]at h
 obtain⟨x,hx,hxn⟩:=Df h
 exact o3 x (List.mem_reverse.mp hx) hxn
theorem wo_mem{rs:List Rz}{n:Tx}{q:Rz}:q∈woZ rs n↔q∈rs/\inW rs n q=false:=by
 unfold woZ;rw[List.mem_filter];simp
theorem wi_mem{rs:List Rz}{n:Tx}{q:Rz}:q∈wiZ rs n↔q∈rs/\inW rs n q=true:=by
 unfold wiZ;rw[List.mem_filter]
theorem NI{rs:List Rz}(ok:OkZ rs)(n:Tx):OkZ (woZ rs n):=by
 have:=KY (A:=[]) (B:=woZ rs n) trivial fun B1 r B2 e=>by
  obtain⟨R1,R2,e1,e2,e3⟩:=GJ e
  obtain⟨o1,o2,o3,o4⟩:=Cr ok e1
  have hr:r∈rs:=by rw[e1];exact List.mem_append_right _ List.mem_cons_self
  refine⟨o2,fun q hq=>o3 q ?_,o4.imp id fun⟨q,hq,hqn⟩=>⟨q,?_,hqn⟩⟩
  ·rw[List.nil_append,<- e2]at hq
   exact(List.mem_filter.mp hq).1
  ·rw[List.nil_append,<- e2,List.mem_filter]
   refine⟨hq,?_⟩
   have hq':q∈rs:=by rw[e1];exact List.mem_append_left _ hq
   rw[Bool.not_eq_true',Bool.eq_false_iff]
   intro z
   rw[Ya ok hr hq' hqn z]at e3
   cases e3
 rwa [List.nil_append]at this
theorem Tj{rs A:List Rz}(ok:OkZ rs){r0:Rz}(h0:r0∈rs)(oA:OkZ A)(hA:∀q∈A,q∈woZ rs r0.n)(hh:r0.h=t0\/∃q∈A,q.n=r0.h):OkZ (A++wiZ rs r0.n):=by
 refine KY oA fun B1 r B2 e=>?_
 obtain⟨R1,R2,e1,e2,e3⟩:=GJ e
 obtain⟨o1,o2,o3,o4⟩:=Cr ok e1
 have hr:r∈rs:=by rw[e1];exact List.mem_append_right _ List.mem_cons_self
 have u:=OkZ.u ok
 refine⟨o2,fun q hq z=>?_,?_⟩
 ·rcases List.mem_append.mp hq with hq|hq
  ·obtain⟨h1,h2⟩:=wo_mem.mp (hA q hq)
   rw[u q h1 r hr z]at h2
   rw[h2]at e3;cases e3
  ·rw[<- e2]at hq
   exact o3 q (List.mem_filter.mp hq).1 z
 ·by_cases hn:r.n=r0.n
  ·have:=u r hr r0 h0 hn
   subst this
   exact hh.imp id fun⟨q,hq,e⟩=>⟨q,List.mem_append_left _ hq,e⟩
  ·refine o4.imp id fun⟨q,hq,hqn⟩=>⟨q,List.mem_append_right _ ?_,hqn⟩
   rw[<- e2,List.mem_filter]
   exact⟨hq,T7 ok hr hqn hn e3⟩
theorem Fz{rs:List Rz}(ok:OkZ rs){r0:Rz}(h0:r0∈rs):r0.h=t0\/∃q∈woZ rs r0.n,q.n=r0.h:=by
 obtain⟨R1,R2,e⟩:=List.append_of_mem h0
 obtain⟨o1,o2,o3,o4⟩:=Cr ok e
 exact o4.imp id fun⟨q,hq,hqn⟩=>⟨q,wo_mem.mpr ⟨by rw[e];exact List.mem_append_left _ hq,T6 ok e hq⟩,hqn⟩
def Ge(rs:List Rz)(n:Tx):List Rz:=woZ rs n++wiZ rs n
def plc(ws:List Rz)(h:Tx):Nat:=if h=t0 then 0 else (ws.takeWhile fun q=>!decide (q.n=h)).length+1
def Hi(rs:List Rz)(n h:Tx):List Rz:=(woZ rs n).take (plc (woZ rs n) h)++wiZ rs n++(woZ rs n).drop (plc (woZ rs n) h)
theorem HW{ws:List Rz}{h:Tx}(hn:h≠t0)(hq:∃q∈ws,q.n=h):∃P q S,ws=P++q::S/\q.n=h/\(∀x∈P,x.n≠h)/\plc ws h=P.length+1:=by
 induction ws with
 |nil=>obtain⟨q,hq,_⟩:=hq;cases hq
 |cons x ws ih =>
  by_cases hx:x.n=h
  ·refine⟨[],x,ws,rfl,hx,fun y hy=>(by cases hy),?_⟩
   unfold plc
   rw[if_neg hn,List.takeWhile_cons,decide_eq_true hx];rfl
  ·have hq':∃q∈ws,q.n=h:=by
    obtain⟨q,hq,e⟩:=hq
    rcases List.mem_cons.mp hq with rfl|hq
    ·exact absurd e hx
    ·exact⟨q,hq,e⟩
   obtain⟨P,q,S,e1,e2,e3,e4⟩:=ih hq'
   refine⟨x::P,q,S,by rw[e1];rfl,e2,fun y hy=>?_,?_⟩
   ·rcases List.mem_cons.mp hy with rfl|hy
    ·exact hx
    ·exact e3 y hy
   ·unfold plc at e4 ⊢
    rw[if_neg hn]at e4 ⊢
    rw[List.takeWhile_cons,decide_eq_false hx]
    show(x::ws.takeWhile _).length+1=_
    rw[List.length_cons,List.length_cons];omega
theorem Vc{rs:List Rz}(ok:OkZ rs){r0:Rz}(h0:r0∈rs):OkZ (Ge rs r0.n):=Tj ok h0 (NI ok _) (fun q hq=>hq) (Fz ok h0)
theorem Vb{rs:List Rz}(ok:OkZ rs){r0:Rz}(h0:r0∈rs):OkZ (Hi rs r0.n r0.h):=by
 let wo:=woZ rs r0.n
 let k:=plc wo r0.h
 have owo:=NI ok r0.n
 have oT:OkZ (wo.take k):=Qh (B:=wo.drop k) (by rw[List.take_append_drop];exact owo)
 have hT:∀q∈wo.take k,q∈wo:=fun q hq=>List.mem_of_mem_take hq
 have hh:r0.h=t0\/∃q∈wo.take k,q.n=r0.h:=by
  by_cases hz:r0.h=t0
  ·exact .inl hz
  ·obtain⟨P,q,S,e1,e2,e3,e4⟩:=HW hz ((Fz ok h0).resolve_left hz)
   refine .inr ⟨q,?_,e2⟩
   show q∈wo.take (plc wo r0.h)
   rw[show plc wo r0.h=P.length+1 from e4,show wo=P++q::S from e1,show P++q::S=(P++[q])++S by simp,List.take_left' (by simp)]
   simp
 have o2:=Tj ok h0 oT hT hh
 refine KY o2 fun C1 r C2 e=>?_
 have ew:wo=(wo.take k++C1)++r::C2:=by
  conv=>lhs;rw[<- List.take_append_drop k wo]
  rw[show wo.drop k=C1++r::C2 from e];simp
 obtain⟨p1,p2,p3,p4⟩:=Cr owo ew
 have u:=OkZ.u ok
 have hrw:r∈wo:=by rw[ew];simp
 refine⟨p2,fun q hq z=>?_,p4.imp id fun⟨q,hq,hqn⟩=>⟨q,?_,hqn⟩⟩
 ·rcases List.mem_append.mp hq with hq|hq
  ·rcases List.mem_append.mp hq with hq|hq
   ·exact p3 q (List.mem_append_left _ hq) z
   ·obtain⟨h1,h2⟩:=wi_mem.mp hq
    obtain⟨h3,h4⟩:=wo_mem.mp hrw
    rw[u q h1 r h3 z,h4]at h2;cases h2
  ·exact p3 q (List.mem_append_right _ hq) z
 ·rcases List.mem_append.mp hq with hq|hq
  ·exact List.mem_append_left _ (List.mem_append_left _ hq)
  ·exact List.mem_append_right _ hq
theorem mem_rai{rs:List Rz}{n:Tx}{q:Rz}:q∈Ge rs n↔q∈rs:=by
 unfold Ge
 rw[List.mem_append,wo_mem,wi_mem]
 cases inW rs n q<;>simp
theorem mem_snk{rs:List Rz}{n h:Tx}{q:Rz}:q∈Hi rs n h↔q∈rs:=by
 unfold Hi
 rw[List.mem_append,List.mem_append]
 rw[<- mem_rai (rs:=rs) (n:=n)]
 unfold Ge
 rw[List.mem_append]
 constructor
 ·rintro((z|z)|z)
  ·exact .inl (List.mem_of_mem_take z)
  ·exact .inr z
  ·exact .inl (List.mem_of_mem_drop z)
 ·rintro(z|z)
  ·rw[<- List.take_append_drop (plc (woZ rs n) h) (woZ rs n)]at z
   rcases List.mem_append.mp z with z|z
   ·exact .inl (.inl z)
   ·exact .inr z
  ·exact .inl (.inr z)
theorem Le{xs ys:List PyData}(h:xs.length+ys.length<=1000):Ea (.list xs) (.list ys)=some (.list (xs++ys)):=by
 show(if xs.length+ys.length<=sizeLine then _ else _)=_
 rw[if_pos (sz h)]
theorem Ht{rs:List Rz}(ok:OkZ rs)(hl:rs.length<=30)(n:Tx):∃ls,Di [.d (.list (rs.map eZ)),.d (eT n)]=some (.list ((n::Ip rs n).map eT),ls):=by
 obtain⟨l1,e1⟩:=N6 ok hl n
 have hi:=Qs rs n
 let τ:DS:=[some (.d (.list (rs.map eZ))),some (.d (eT n))]
 refine⟨[.d (.list (rs.map eZ)),.d (eT n)],?_⟩
 unfold Di
 exact AR (τ:=τ) (Ae (op2 (x:=.list [eT n]) (y:=.list ((Ip rs n).map eT)) (τ1:=τ) rfl (AI (τ1:=τ) (rs:=[.d (.list (rs.map eZ)),.d (eT n)]) (ds:=[.list (rs.map eZ),eT n]) rfl rfl e1) (Le (by rw[List.length_map];simp only[List.length_cons,List.length_nil];omega)))) rfl rfl
theorem Hv{rs:List Rz}(ok:OkZ rs)(hl:rs.length<=30)(n:Tx):∃ls,Bn [.d (.list (rs.map eZ)),.d (eT n)]=some (.list ((woZ rs n).map eZ),ls):=by
 obtain⟨l1,e1⟩:=Ht ok hl n
 let N:Option L:=some (.d (.list ((n::Ip rs n).map eT)))
 let τ0:DS:=[some (.d (.list (rs.map eZ))),some (.d (eT n)),none]
 let τ:DS:=[some (.d (.list (rs.map eZ))),some (.d (eT n)),N]
 refine⟨[.d (.list (rs.map eZ)),.d (eT n)],?_⟩
 unfold Bn
 refine AR (τ:=τ) ((AH (τ1:=τ) (AV (AI (τ1:=τ0) (rs:=[.d (.list (rs.map eZ)),.d (eT n)]) (ds:=[.list (rs.map eZ),eT n]) rfl rfl e1) rfl)).trans (Ae ?_)) rfl rfl
 have := lcg (enc := eZ) (rs := rs) (τ := τ) (fr := [2]) (it := dIL (AB 0)) (ex := [N]) (c := AE (dOp (fIn true) (AF Ag (AA (AB 0) AD)) (AB 1))) (e := AB 0) (fun r => !inW rs n r) eZ rfl (by omega) rfl rfl (fun r hr => by
  let t:DS:=[some (.d (eZ r)),N]
  refine tst (op2 (x:=eT r.n) (y:=.list ((n::Ip rs n).map eT)) (τ1:=t) (AI (τ1:=t) (ds:=[eZ r]) rfl rfl (ES r)) rfl ?_)
  rw[Vr,Kb ok hr]) (fun r _ _=>rfl)
 exact this
theorem QH{rs:List Rz}(ok:OkZ rs)(hl:rs.length<=30)(n:Tx):∃ls,ET [.d (.list (rs.map eZ)),.d (eT n)]=some (.list ((wiZ rs n).map eZ),ls):=by
 obtain⟨l1,e1⟩:=Ht ok hl n
 let N:Option L:=some (.d (.list ((n::Ip rs n).map eT)))
 let τ0:DS:=[some (.d (.list (rs.map eZ))),some (.d (eT n)),none]
 let τ:DS:=[some (.d (.list (rs.map eZ))),some (.d (eT n)),N]
 refine⟨[.d (.list (rs.map eZ)),.d (eT n)],?_⟩
 unfold ET
 refine AR (τ:=τ) ((AH (τ1:=τ) (AV (AI (τ1:=τ0) (rs:=[.d (.list (rs.map eZ)),.d (eT n)]) (ds:=[.list (rs.map eZ),eT n]) rfl rfl e1) rfl)).trans (Ae ?_)) rfl rfl
 have := lcg (enc := eZ) (rs := rs) (τ := τ) (fr := [2]) (it := dIL (AB 0)) (ex := [N]) (c := AE (dOp (fIn false) (AF Ag (AA (AB 0) AD)) (AB 1))) (e := AB 0) (inW rs n) eZ rfl (by omega) rfl rfl (fun r hr => by
  let t:DS:=[some (.d (eZ r)),N]
  refine tst (op2 (x:=eT r.n) (y:=.list ((n::Ip rs n).map eT)) (τ1:=t) (AI (τ1:=t) (ds:=[eZ r]) rfl rfl (ES r)) rfl ?_)
  rw[inL,Kb ok hr]) (fun r _ _=>rfl)
 exact this
theorem Mp(rs:List Rz)(n:Tx):(woZ rs n).length<=rs.length:=List.length_filter_le ..
theorem PF(rs:List Rz)(n:Tx):(wiZ rs n).length<=rs.length:=List.length_filter_le ..
theorem Oo{α:Type}(p:α->Bool):∀l:List α,(l.filter fun x=>!p x).length+(l.filter p).length=l.length
 |[]=>rfl
 |x::l=>by
  have ih:=Oo p l
  rw[List.filter_cons,List.filter_cons]
  cases h:p x
  ·rw[if_pos (by rfl),if_neg (by decide),List.length_cons,List.length_cons];omega
  ·rw[if_neg (by decide),if_pos rfl,List.length_cons,List.length_cons];omega
theorem QW(rs:List Rz)(n:Tx):(Ge rs n).length=rs.length:=by
 unfold Ge
 rw[List.length_append]
 exact Oo (inW rs n) rs
theorem U5(rs:List Rz)(n h:Tx):(Hi rs n h).length=rs.length:=by
 rw[<- QW rs n]
 unfold Hi Ge
 rw[List.length_append,List.length_append,List.length_append,List.length_take,List.length_drop]
 omega
theorem RI{rs:List Rz}(ok:OkZ rs)(hl:rs.length<=30)(n:Tx):∃ls,EN [.d (.list (rs.map eZ)),.d (eT n)]=some (.list ((Ge rs n).map eZ),ls):=by
 obtain⟨l1,e1⟩:=Hv ok hl n
 obtain⟨l2,e2⟩:=QH ok hl n
 have h1:=Mp rs n
 have h2:=PF rs n
 let τ:DS:=[some (.d (.list (rs.map eZ))),some (.d (eT n))]
 refine⟨[.d (.list (rs.map eZ)),.d (eT n)],?_⟩
 unfold EN
 refine AR (τ:=τ) (Ae (op2 (x:=.list ((woZ rs n).map eZ)) (y:=.list ((wiZ rs n).map eZ)) (τ1:=τ) (AI (τ1:=τ) (rs:=[.d (.list (rs.map eZ)),.d (eT n)]) (ds:=[.list (rs.map eZ),eT n]) rfl rfl e1) (AI (τ1:=τ) (rs:=[.d (.list (rs.map eZ)),.d (eT n)]) (ds:=[.list (rs.map eZ),eT n]) rfl rfl e2) ?_)) rfl rfl
 rw[Le (by rw[List.length_map,List.length_map];omega)]
 unfold Ge
 rw[List.map_append]
theorem T8{q:Rz}{S:List Rz}:∀{P:List Rz},(∀x∈P,x.n≠q.n)->NW ((P++q::S).map eZ) (eZ q)=some P.length
 |[],_=>by
  show(if PyData.eqv (eZ q) (eZ q)=true then some 0 else _)=_
  rw[encZ.eqv,decide_eq_true rfl,if_pos rfl];rfl
 |x::P,h=>by
  show(if PyData.eqv (eZ x) (eZ q)=true then some 0 else (NW ((P++q::S).map eZ) (eZ q)).map (·+1))=_
  have hx:=h x List.mem_cons_self
  rw[encZ.eqv,decide_eq_false (fun z=>hx (by rw[z])),if_neg (by decide),T8 fun y hy=>h y (List.mem_cons_of_mem _ hy)]
  rfl
theorem KI{ws:List Rz}(ow:OkZ ws){h:Tx}(hh:h=t0\/∃q∈ws,q.n=h):∃ls,Cy [.d (.list (ws.map eZ)),.d (eT h)]=some (.int (plc ws h:Nat),ls):=by
 let τ:DS:=[some (.d (.list (ws.map eZ))),some (.d (eT h))]
 refine⟨[.d (.list (ws.map eZ)),.d (eT h)],?_⟩
 unfold Cy
 refine AR (τ:=τ) (Ae ?_) rfl rfl
 have c:AE (dOp fEq (AB 1) (dC (.str ""))) τ=some (decide (h=t0),τ):=tst (op2 (x:=eT h) (y:=eT t0) (τ1:=τ) rfl rfl (Gg _ _))
 show dIf _ _ _ τ=_
 unfold dIf
 rw[c]
 by_cases hz:h=t0
 ·rw[decide_eq_true hz]
  show some (PyData.int 0,τ)=_
  unfold plc
  rw[if_pos hz];rfl
 ·rw[decide_eq_false hz]
  obtain⟨P,q,S,e1,e2,e3,e4⟩:=HW hz (hh.resolve_left hz)
  have hq:q∈ws:=by rw[e1];simp
  obtain⟨l1,er⟩:=Fn ow hq
  rw[e2]at er
  show dOp Ap (dOp Mc (AB 0) (AF DK (AA (AB 0) (AA (AB 1) AD)))) (dC (.int 1)) τ=_
  refine(op2 (x:=.int (P.length:Nat)) (y:=.int 1) (τ1:=τ) (op2 (x:=.list (ws.map eZ)) (y:=eZ q) (τ1:=τ) rfl (AI (τ1:=τ) (rs:=[.d (.list (ws.map eZ)),.d (eT h)]) (ds:=[.list (ws.map eZ),eT h]) rfl rfl er) ?_) rfl (r:=.int ((plc ws h:Nat):Int)) ?_)
  ·show(if okD (eZ q)&&okD (.list (ws.map eZ)) then (NW (ws.map eZ) (eZ q)).map fun k=>PyData.int (k:Nat) else none)=_
   rw[encZ.ok,encZ.okL,e1,T8 fun x hx=>by rw[e2];exact e3 x hx];rfl
  ·rw[e4]
   show some (PyData.int ((P.length:Int)+1))=some (PyData.int ((P.length+1:Nat):Int))
   rw[Int.natCast_add];rfl
theorem O1(xs:List PyData)(k:Nat):JD xs (some (k:Int)) none=xs.drop k:=by
 unfold JD
 have e:HT.sIx xs.length 0 (some (k:Int))=min k xs.length:=by
  show(if (k:Int)<0 then ((k:Int)+(xs.length:Int)).toNat else min (k:Int).toNat xs.length)=_
  rw[if_neg (by omega),Int.toNat_natCast]
 rw[e]
 show(xs.drop (min k xs.length)).take (xs.length-min k xs.length)=_
 rw[List.take_of_length_le (by rw[List.length_drop];omega)]
 by_cases h:k<=xs.length
 ·rw[Nat.min_eq_left h]
 ·rw[Nat.min_eq_right (by omega),List.drop_length,List.drop_of_length_le (by omega)]
theorem U1{rs:List Rz}(ok:OkZ rs)(hl:rs.length<=30){r0:Rz}(h0:r0∈rs):∃ls,FK [.d (.list (rs.map eZ)),.d (eT r0.n)]=some (.list ((Hi rs r0.n r0.h).map eZ),ls):=by
 obtain⟨l1,e1⟩:=Hv ok hl r0.n
 obtain⟨l2,e2⟩:=QH ok hl r0.n
 obtain⟨l3,e3⟩:=Fn ok h0
 obtain⟨l4,e4⟩:=KI (NI ok r0.n) (Fz ok h0)
 have h1:=Mp rs r0.n
 have h2:=PF rs r0.n
 let D:PyData:=.list (rs.map eZ)
 let W:PyData:=.list ((woZ rs r0.n).map eZ)
 let k:=plc (woZ rs r0.n) r0.h
 let st:Option L->Option L->DS:=fun a b=>[some (.d D),some (.d (eT r0.n)),a,b]
 let τ1:=st (some (.d W)) none
 let τ:=st (some (.d W)) (some (.d (.int (k:Nat))))
 refine⟨[.d D,.d (eT r0.n)],?_⟩
 unfold FK
 have z1:AL (AF Bn (AA (AB 0) (AA (AB 1) AD))) (dN 2) (st none none)=some (.nx τ1):=AV (AI (τ1:=st none none) (rs:=[.d D,.d (eT r0.n)]) (ds:=[D,eT r0.n]) rfl rfl e1) rfl
 have z2:AL (AF Cy (AA (AB 2) (AA (AF AM (AA (AF DK (AA (AB 0) (AA (AB 1) AD))) AD)) AD))) (dN 3) τ1=some (.nx τ) :=
  AV (AI (τ1:=τ1) (rs:=[.d W,.d (eT r0.h)]) (ds:=[W,eT r0.h]) (acc (τ1:=τ1) rfl (acc (τ1:=τ1) (AI (τ1:=τ1) (rs:=[.d (eZ r0)]) (ds:=[eZ r0]) (acc (τ1:=τ1) (AI (τ1:=τ1) (rs:=[.d D,.d (eT r0.n)]) (ds:=[D,eT r0.n]) rfl rfl e3) rfl) rfl (B8 r0)) rfl)) rfl e4) rfl
 refine AR (τ:=τ) ((AH z1).trans ((AH z2).trans (Ae ?_))) rfl rfl
 have s1:dSl (AB 2) Ba (dPt (AB 3)) τ=some (.list (((woZ rs r0.n).take k).map eZ),τ):=by
  show some (PyData.list (JD ((woZ rs r0.n).map eZ) none (some ((k:Nat):Int))),τ)=_
  rw[Ke,List.map_take]
 have s2:dSl (AB 2) (dPt (AB 3)) Ba τ=some (.list (((woZ rs r0.n).drop k).map eZ),τ):=by
  show some (PyData.list (JD ((woZ rs r0.n).map eZ) (some ((k:Nat):Int)) none),τ)=_
  rw[O1,List.map_drop]
 have t1:((woZ rs r0.n).take k).length<=(woZ rs r0.n).length:=by rw[List.length_take];omega
 have t2:((woZ rs r0.n).drop k).length<=(woZ rs r0.n).length:=by rw[List.length_drop];omega
 refine op2 (op2 s1 (AI (τ1:=τ) (rs:=[.d D,.d (eT r0.n)]) (ds:=[D,eT r0.n]) rfl rfl e2) (Le (by rw[List.length_map,List.length_map];omega))) s2 ?_
 rw[Le (by rw[List.length_append,List.length_map,List.length_map,List.length_map];omega)]
 unfold Hi
 rw[List.map_append,List.map_append]
section
variable {rs:List Rz} {r0:Rz}
end
def eX(n h:Tx)(x y:Int)(s:Bool)(k:Nat)(D:PyData):PyData:=.tuple [eT n,eT h,.int x,.int y,.bool s,eT (kS k),D]
theorem cD(r:Rz):eZ r=eX r.n r.h r.x r.y r.s (kz r.d) (eD r.d):=rfl
theorem En(x a b:Int):Ac [.d (.int x),.d (.int a),.d (.int b)]=some (.bool (decide (a<=x/\x<=b)),[.d (.int x),.d (.int a),.d (.int b)]):=by
 by_cases h1:a<=x
 ·by_cases h2:x<=b
  ·rw[decide_eq_true ⟨h1,h2⟩];exact Bl h1 h2
  ·rw[decide_eq_false (fun z=>h2 z.2)]
   walk_at "a|Ac,Ki,h1,h2,decide_true,decide_false"
 ·rw[decide_eq_false (fun z=>h1 z.1)]
  walk_at "a|Ac,Ki,h1,decide_true,decide_false"
theorem Qe(x:Int):Av [.d (.int x)]=some (.bool (decide (-60<=x/\x<=60)),[.d (.int x)]):=by
 have w:=En x (-60) 60
 walk_at "a|Av,w"
theorem Rm{k:Nat}(hk:k<10){l:List PyData}{b:Bool}{lf:List L}(ef:GF k [.d (.tuple l)]=some (.bool b,lf)):∃ls,El [.d (eT (kS k)),.d (.tuple l)]=some (.bool b,ls):=by
 let τ:DS:=[some (.d (eT (kS k))),some (.d (.tuple l))]
 refine⟨[.d (eT (kS k)),.d (.tuple l)],?_⟩
 unfold El
 refine AR (τ:=τ) (Ae ?_) rfl rfl
 have c2:P8 Bm (AB 0) τ=some (.bool true,τ):=by
  show some (PyData.bool (DJ Bm (kS k).1).isSome,τ)=_
  rw[IQ hk];rfl
 have c4:ID Bm (AB 0) (AA (AB 1) AD) τ=some (.bool b,τ):=by
  show((DJ Bm (kS k).1).bind fun G=>AF G (AA (AB 1) AD) τ)=_
  rw[IQ hk]
  exact AI (G:=GF k) (a:=AA (AB 1) AD) (τ:=τ) (τ1:=τ) (rs:=[.d (.tuple l)]) (ds:=[.tuple l]) rfl rfl ef
 exact(Ef (τ1:=τ) rfl).trans ((Ef c2).trans ((Ef (τ1:=τ) rfl).trans c4))
theorem Px{n h:Tx}{x y:Int}{s:Bool}{k:Nat}{D:PyData}(hh:h=t0\/OkN h):Ad (AE (dOp fNe (AF AM (AA (AB 0) AD)) (dC (.str "")))) (As (AE (AF CQ (AA (AF AM (AA (AB 0) AD)) AD)))) [some (.d (eX n h x y s k D))]=some (false,[some (.d (eX n h x y s k D))]):=by
 let τ:DS:=[some (.d (eX n h x y s k D))]
 have t1:AE (dOp fNe (AF AM (AA (AB 0) AD)) (dC (.str ""))) τ=some (!decide (h=t0),τ):=tst (op2 (x:=eT h) (y:=eT t0) (τ1:=τ) rfl rfl (MC _ _))
 by_cases hz:h=t0
 ·rw[decide_eq_true hz]at t1
  unfold Ad
  rw[t1];rfl
 ·have hn:=hh.resolve_left hz
  obtain⟨l3,e5⟩:=GI hn.na hn.n1 hn.n8
  rw[decide_eq_false hz]at t1
  exact(F8 t1 (DU (tst (AI (G:=CQ) (a:=AA (AF AM (AA (AB 0) AD)) AD) (τ:=τ) (τ1:=τ) (rs:=[.d (eT h)]) (ds:=[eT h]) rfl rfl e5)))).trans rfl
theorem orB{x y:DT}{τ:DS}{p q:Bool}(h1:x τ=some (p,τ))(h2:y τ=some (q,τ)):BZ x y τ=some (p||q,τ):=by
 unfold BZ
 rw[h1]
 cases p
 ·exact h2
 ·rfl
theorem T3{n h:Tx}{x y:Int}{s:Bool}{k:Nat}{l:List PyData}{b:Bool}{lf:List L}(hn:OkN n)(hh:h=t0\/OkN h)(hk:k<10)(ef:GF k [.d (.tuple l)]=some (.bool b,lf)):∃ls,BI [.d (eX n h x y s k (.tuple l))]=some (.bool (decide (-60<=x/\x<=60)&&decide (-60<=y/\y<=60)&&b),ls):=by
 obtain⟨l1,e1⟩:=GI hn.na hn.n1 hn.n8
 obtain⟨l2,e2⟩:=Rm hk ef
 have e3:=Qe x
 have e4:=Qe y
 let D:PyData:=eX n h x y s k (.tuple l)
 let τ:DS:=[some (.d D)]
 refine⟨[.d D],?_⟩
 unfold BI
 refine AR (τ:=τ) ?_ rfl rfl
 have c1:=DU (tst (AI (G:=CQ) (a:=AA (AF Ag (AA (AB 0) AD)) AD) (τ:=τ) (τ1:=τ) (rs:=[.d (eT n)]) (ds:=[eT n]) rfl rfl e1))
 have c2:=Px (n:=n) (x:=x) (y:=y) (s:=s) (k:=k) (D:=.tuple l) hh
 have c3:=DU (tst (AI (G:=Av) (a:=AA (AF Ka (AA (AB 0) AD)) AD) (τ:=τ) (τ1:=τ) (rs:=[.d (.int x)]) (ds:=[.int x]) rfl rfl e3))
 have c4:=DU (tst (AI (G:=Av) (a:=AA (AF KZ (AA (AB 0) AD)) AD) (τ:=τ) (τ1:=τ) (rs:=[.d (.int y)]) (ds:=[.int y]) rfl rfl e4))
 have c5:=orB c3 c4
 refine(AH (τ1:=τ) rfl).trans ((AH (τ1:=τ) ((Ah (τ1:=τ) c1).trans rfl)).trans ((AH (τ1:=τ) ((Ah (τ1:=τ) c2).trans rfl)).trans ?_))
 by_cases hx:-60<=x/\x<=60
 ·by_cases hy:-60<=y/\y<=60
  ·rw[decide_eq_true hx,decide_eq_true hy]at c5 ⊢
   refine(AH (τ1:=τ) ((Ah (τ1:=τ) c5).trans rfl)).trans (Ae ?_)
   exact(Ef (τ1:=τ) rfl).trans (AI (τ1:=τ) (rs:=[.d (eT (kS k)),.d (.tuple l)]) (ds:=[eT (kS k),.tuple l]) rfl rfl e2)
  ·rw[decide_eq_true hx,decide_eq_false hy]at c5 ⊢
   exact A7 ((BK (τ1:=τ) c5).trans rfl)
 ·rw[decide_eq_false hx]at c5 ⊢
  exact A7 ((BK (τ1:=τ) c5).trans rfl)
theorem Z4{a b:DX}{τ τ1:DS}(h:a τ=some (.bool false,τ1)):Cb a b τ=some (.bool false,τ1):=by
 unfold Cb
 rw[tst h];rfl
theorem eE{x y:DT}{τ τ1:DS}(h:x τ=some (true,τ1)):BZ x y τ=some (true,τ1):=by
 unfold BZ
 rw[h];rfl
theorem eG{x y:DT}{τ τ1:DS}(h:x τ=some (false,τ1)):BZ x y τ=y τ1:=by
 unfold BZ
 rw[h];rfl
theorem dY{a b:DX}{τ:DS}{p q:Bool}(h:a τ=some (.bool p,τ))(k:b τ=some (.bool q,τ)):Cb a b τ=some (.bool (p&&q),τ):=by
 cases p with
 |true=>exact(Ef h).trans (by rw[k];rfl)
 |false=>exact Z4 h
theorem VJ{w h:Int}{a b:Cl}(oa:OkF a)(ob:OkF b):∃ls,GF 0 [.d (eD (.plate w h a b))]=some (.bool (decide (1<=w/\w<=12)&&decide (1<=h/\h<=12)),ls):=by
 obtain⟨lp,ep⟩:=Gs oa ob
 have e1:=En w 1 12
 have e2:=En h 1 12
 let τ:DS:=[some (.d (eD (.plate w h a b)))]
 refine⟨[.d (eD (.plate w h a b))],?_⟩
 show DW _=_
 unfold DW
 refine AR (τ:=τ) ?_ rfl rfl
 have c:=DU (tst (AI (G:=B9) (a:=AA (dOp AJ (AB 0) (dC (.int 2))) (AA (dOp AJ (AB 0) (dC (.int 3))) AD)) (τ:=τ) (τ1:=τ) (rs:=[.d (ec a),.d (ec b)]) (ds:=[ec a,ec b]) rfl rfl ep))
 refine(AH (τ1:=τ) ((Ah (τ1:=τ) (Hz (τ1:=τ) rfl c)).trans rfl)).trans (Ae ?_)
 exact dY (AI (τ1:=τ) (rs:=[.d (.int w),.d (.int 1),.d (.int 12)]) (ds:=[.int w,.int 1,.int 12]) rfl rfl e1) (AI (τ1:=τ) (rs:=[.d (.int h),.d (.int 1),.d (.int 12)]) (ds:=[.int h,.int 1,.int 12]) rfl rfl e2)
theorem SJ{w h x y:Int}(x0:-60<=x)(x1:x<=60)(y0:-60<=y)(y1:y<=60):∃ls,GF 6 [.d (eD (.window w h x y))]=some (.bool (decide (1<=w/\w<=16)&&decide (1<=h/\h<=16)),ls):=by
 have e1:=En w 1 16
 have e2:=En h 1 16
 have e3:=Fo x0 x1
 have e4:=Fo y0 y1
 let τ:DS:=[some (.d (eD (.window w h x y)))]
 refine⟨[.d (eD (.window w h x y))],?_⟩
 show Bu _=_
 unfold Bu
 refine AR (τ:=τ) ?_ rfl rfl
 have c3:=DU (tst (AI (G:=Av) (a:=AA (dOp AJ (AB 0) (dC (.int 2))) AD) (τ:=τ) (τ1:=τ) (rs:=[.d (.int x)]) (ds:=[.int x]) rfl rfl e3))
 have c4:=DU (tst (AI (G:=Av) (a:=AA (dOp AJ (AB 0) (dC (.int 3))) AD) (τ:=τ) (τ1:=τ) (rs:=[.d (.int y)]) (ds:=[.int y]) rfl rfl e4))
 refine(AH (τ1:=τ) ((Ah (τ1:=τ) (Hz (τ1:=τ) rfl (Hz (τ1:=τ) c3 c4))).trans rfl)).trans (Ae ?_)
 exact dY (AI (τ1:=τ) (rs:=[.d (.int w),.d (.int 1),.d (.int 16)]) (ds:=[.int w,.int 1,.int 16]) rfl rfl e1) (AI (τ1:=τ) (rs:=[.d (.int h),.d (.int 1),.d (.int 16)]) (ds:=[.int h,.int 1,.int 16]) rfl rfl e2)
theorem Uv(a:Cl):DV [.d (ec a)]=some (.bool false,[.d (ec a)]):=rfl
theorem Nx(a:Cl)(x y:Int):Ac [.d (ec a),.d (.int x),.d (.int y)]=some (.bool false,[.d (ec a),.d (.int x),.d (.int y)]):=by
 unfold Ac
 refine AR (τ:=[some (.d (ec a)),some (.d (.int x)),some (.d (.int y))]) (Ae ?_) rfl rfl
 exact Z4 (AI (G:=DV) (a:=AA (AB 0) AD) (τ:=[some (.d (ec a)),some (.d (.int x)),some (.d (.int y))]) (τ1:=[some (.d (ec a)),some (.d (.int x)),some (.d (.int y))]) (rs:=[.d (ec a)]) (ds:=[ec a]) rfl rfl (Uv a))
theorem VL(a:Cl):Av [.d (ec a)]=some (.bool false,[.d (ec a)]):=by
 have w:=Nx a (-60) 60
 walk_at "a|Av,w"
theorem TM{k:Nat}(hk:k<10)(h0:k≠0)(h1:k≠1){w h:Int}{a b:Cl}(oa:OkF a)(ob:OkF b):∃ls,GF k [.d (eD (.plate w h a b))]=some (.bool false,ls):=by
 let D:PyData:=eD (.plate w h a b)
 let τ:DS:=[some (.d D)]
 refine⟨[.d D],?_⟩
 match k,hk with
 |0,_=>exact absurd rfl h0
 |1,_=>exact absurd rfl h1
 |2,_=>rfl
 |3,_=>rfl
 |4,_=>rfl
 |5,_=>rfl
 |6,_ =>
  show Bu _=_
  unfold Bu
  refine AR (τ:=τ) ?_ rfl rfl
  have c3:=DU (tst (AI (G:=Av) (a:=AA (dOp AJ (AB 0) (dC (.int 2))) AD) (τ:=τ) (τ1:=τ) (rs:=[.d (ec a)]) (ds:=[ec a]) rfl rfl (VL a)))
  exact A7 ((BK (τ1:=τ) ((eG (τ1:=τ) rfl).trans (eE c3))).trans rfl)
 |7,_=>rfl
 |8,_ =>
  show Cz _=_
  unfold Cz
  refine AR (τ:=τ) ?_ rfl rfl
  have c1:=DU (tst (AI (G:=Ac) (a:=AA (dOp AJ (AB 0) (dC (.int 0))) (AA (dC (.int 1)) (AA (dC (.int 3)) AD))) (τ:=τ) (τ1:=τ) (rs:=[.d (.int w),.d (.int 1),.d (.int 3)]) (ds:=[.int w,.int 1,.int 3]) rfl rfl (En w 1 3)))
  have c2:=DU (tst (AI (G:=Ac) (a:=AA (dOp AJ (AB 0) (dC (.int 1))) (AA (dC (.int 1)) (AA (dC (.int 3)) AD))) (τ:=τ) (τ1:=τ) (rs:=[.d (.int h),.d (.int 1),.d (.int 3)]) (ds:=[.int h,.int 1,.int 3]) rfl rfl (En h 1 3)))
  have c:=orB (x:=AE (dOp fNe (AY Au (AA (AB 0) AD)) (dC (.int 4)))) (τ:=τ) (p:=false) rfl (orB c1 c2)
  cases e:(false||(!decide (1<=w/\w<=3)||!decide (1<=h/\h<=3))) with
  |true=>rw[e]at c;exact A7 ((BK (τ1:=τ) c).trans rfl)
  |false =>
   rw[e]at c
   refine(AH (τ1:=τ) ((Ah (τ1:=τ) c).trans rfl)).trans (Ae ?_)
   exact Z4 (AI (G:=Ac) (a:=AA (dOp AJ (AB 0) (dC (.int 2))) (AA (dUn FI (dC (.int 20))) (AA (dC (.int 20)) AD))) (τ:=τ) (τ1:=τ) (rs:=[.d (ec a),.d (.int (-20)),.d (.int 20)]) (ds:=[ec a,.int (-20),.int 20]) rfl rfl (Nx a (-20) 20))
 |9,_=>rfl
structure OkL(r:Rz):Prop where
 n:OkN r.n
 h:r.h=t0\/OkN r.h
 x0:-60<=r.x
 x1:r.x<=60
 y0:-60<=r.y
 d:O7 r.d
theorem OkL.row{r:Rz}(h:OkL r)(hy:r.y<=60):OkRow r:=⟨h.n.n1,h.n.n8,h.n.na,h.x0,h.x1,h.y0,hy,h.d⟩
theorem OkL.of{r:Rz}(h:OkRow r)(hh:r.h=t0\/OkN r.h):OkL r:=⟨h.nm,hh,h.x0,h.x1,h.y0,h.d⟩
theorem UH(d:Dz):∃l,eD d = .tuple l:=by cases d<;>exact⟨_,rfl⟩
theorem bL{r:Rz}(ok:OkL r):∃ls,BI [.d (eZ r)]=some (.bool (decide (r.y<=60)),ls):=by
 obtain⟨l,hl⟩:=UH r.d
 obtain⟨lf,ef⟩:=Nb r.d ok.d
 rw[hl]at ef
 obtain⟨ls,e⟩:=T3 (x:=r.x) (y:=r.y) (s:=r.s) ok.n ok.h (Cn r.d) ef
 refine⟨ls,?_⟩
 rw[cD,hl,e,decide_eq_true ⟨ok.x0,ok.x1⟩]
 have:=ok.y0
 simp only[this,true_and,Bool.true_and,Bool.and_true]
theorem aH{a b:DT}{τ:DS}{p q:Bool}(h:a τ=some (p,τ))(k:p=true->b τ=some (q,τ)):Ad a b τ=some (p&&q,τ):=by
 unfold Ad
 rw[h]
 cases p
 ·rfl
 ·exact k rfl
theorem Ub{α:Type}(p:α->Bool):∀l:List α,EE (l.map fun c=>PyData.bool (p c))=some (l.map p)
 |[]=>rfl
 |x::l=>by rw[List.map_cons,EE,Ub p l];rfl
theorem Lp{c:DT}{n:Nat}{b r:DBX}{τ τ':DS}(h:c τ=some (true,τ')):BE (xIf c (Cf n) b) r τ=some (.inr n):=by
 unfold BE xIf
 rw[h];rfl
theorem Hf{c:DT}{a r:DBX}{τ τ':DS}(h:c τ=some (false,τ')):BE (xIf c a (xOf AO)) r τ=r τ':=by
 unfold BE xIf
 rw[h];rfl
theorem Dw{b:DB}{r:DBX}{τ τ':DS}(h:b τ=some (.nx τ')):BE (xOf b) r τ=r τ':=by
 unfold BE xOf
 rw[h];rfl
theorem QG{b:DB}{r:DBX}{τ τ':DS}{d:PyData}(h:b τ=some (.rt d τ')):BE (xOf b) r τ=some (.inl (.rt d τ')):=by
 unfold BE xOf
 rw[h];rfl
theorem aD{c:DT}{n:Nat}{p:Bool}{τ τ':DS}(h:c τ=some (p,τ')):xIf c (Cf n) (xOf AO) τ=some (if p=true then .inr n else .inl (.nx τ')):=by
 unfold xIf
 rw[h]
 cases p<;>rfl
theorem dU{α:Type}(p:α->Bool)(l:List α):Iz [.list (l.map fun c=>PyData.bool (p c))]=some (.bool (l.any p)):=by
 show(EE (l.map fun c=>PyData.bool (p c))).map _=_
 rw[Ub]
 show some (PyData.bool ((l.map p).any id))=_
 rw[List.any_map];rfl
theorem Oi(q:Rz):∃ls,BY [.d (eZ q)]=some (.bool (decide (4<=kz q.d)),ls):=by
 let τ:DS:=[some (.d (eZ q))]
 refine⟨[.d (eZ q)],?_⟩
 unfold BY
 refine AR (τ:=τ) (Ae (op2 (x:=eT (kS (kz q.d))) (y:=.tuple (KH.map eT)) (τ1:=τ) rfl rfl ?_)) rfl rfl
 rw[inT]
 exact congrArg (fun b=>some (PyData.bool b)) (decide_eq_decide.mpr (NQ (Cn _)))
theorem Pw{rs:List Rz}(ok:OkZ rs){q:Rz}(hq:q∈rs):∃ls,Be [.d (.list (rs.map eZ)),.d (eT q.n)]=some (.bool (decide (kz q.d=8)),ls):=by
 obtain⟨l1,e1⟩:=Fn ok hq
 let τ:DS:=[some (.d (.list (rs.map eZ))),some (.d (eT q.n))]
 refine⟨[.d (.list (rs.map eZ)),.d (eT q.n)],?_⟩
 unfold Be
 refine AR (τ:=τ) (Ae (op2 (x:=eT (kS (kz q.d))) (y:=eT (kS 8)) (τ1:=τ) (AI (τ1:=τ) (rs:=[.d (eZ q)]) (ds:=[eZ q]) (ls:=[.d (eZ q)]) (acc (τ1:=τ) (AI (τ1:=τ) (rs:=[.d (.list (rs.map eZ)),.d (eT q.n)]) (ds:=[.list (rs.map eZ),eT q.n]) rfl rfl e1) rfl) rfl rfl) rfl ?_)) rfl rfl
 rw[Gg]
 exact congrArg (fun b=>some (PyData.bool b)) (decide_eq_decide.mpr ⟨DY (Cn _) (by decide),fun z=>by rw[z]⟩)
def tls(met:List Rz)(h:Tx):Bool:=(hsR met.reverse h).any fun t=>match Ao met t with|some q=>decide (kz q.d=8)|none=>false
def stp(met:List Rz)(r:Rz):Option Nat :=
 if r.y<=60 then
  if (Ao met r.n).isSome=true then some 1
  else if r.h=t0 then none
  else match Ao met r.h with
   |none=>some 2
   |some q=>if 4<=kz q.d then if 6<(hsR met.reverse r.h).length then some 3 else if kz r.d=8/\tls met r.h=true then some 4 else none else some 2
 else some 0
def ouX:Option Nat->PyData ⊕ Nat
 |some n=>.inr n
 |none=>.inl .none
def enX:F7->Option (PyData ⊕ Nat)
 |.inl (.nx _)=>some (.inl .none)
 |.inl (.rt d _)=>some (.inl d)
 |.inr n=>some (.inr n)
 |_=>none
theorem DZ{np nl:Nat}{f:DBX}{ds:List PyData}{o:F7}{v:PyData ⊕ Nat}(h:f ((ds.map L.d).map some++List.replicate nl none)=some o)(hl:ds.length=np)(hv:enX o=some v):EW np nl f ds=some v:=by
 unfold EW
 rw[if_pos hl,h,Option.bind_some]
 cases o with
 |inr n=>exact hv
 |inl o=>cases o<;>exact hv
theorem Hc{rs:List Rz}{t:Tx}{q:Rz}(h:Ao rs t=some q):q∈rs/\q.n=t:=⟨List.mem_of_find?_eq_some h,of_decide_eq_true (p:=q.n=t) (List.find?_some (p:=fun r:Rz=>decide (r.n=t)) h)⟩
abbrev vC1:DT:=As (AE (AF BI (AA (AB 1) AD)))
abbrev vC2:DT:=AE (dOp Bz (AF Am (AA (AB 0) (AA (AF Ag (AA (AB 1) AD)) AD))) (dC .none))
abbrev vC3:DT:=AE (dOp fEq (AF AM (AA (AB 1) AD)) (dC (.str "")))
abbrev vA4:DB:=AL (AF Am (AA (AB 0) (AA (AF AM (AA (AB 1) AD)) AD))) (dN 2)
abbrev vC5:DT:=BZ (AE (dOp ED (AB 2) (dC .none))) (As (AE (AF BY (AA (AB 2) AD))))
abbrev vA6:DB:=AL (dOp Ea (Bs (AA (AF AM (AA (AB 1) AD)) AD)) (AF BW (AA (AB 0) (AA (AF AM (AA (AB 1) AD)) AD)))) (dN 3)
theorem RC{met:List Rz}{r:Rz}(ok:OkZ met)(okl:OkL r)(hl:met.length<=40):EB [.list (met.map eZ),eZ r]=some (ouX (stp met r)):=by
 let D:PyData:=.list (met.map eZ)
 let st:Option L->Option L->DS:=fun a b=>[some (.d D),some (.d (eZ r)),a,b]
 let τ0:=st none none
 obtain⟨lr,er⟩:=bL okl
 have c1:=DU (tst (AI (G:=BI) (a:=AA (AB 1) AD) (τ:=τ0) (τ1:=τ0) (rs:=[.d (eZ r)]) (ds:=[eZ r]) rfl rfl er))
 unfold EB stp
 by_cases hx:r.y<=60
 case neg =>
  rw[decide_eq_false hx]at c1
  rw[if_neg hx]
  exact DZ (Lp (τ':=τ0) c1) rfl rfl
 rw[decide_eq_true hx]at c1
 rw[if_pos hx]
 obtain⟨l2,e2⟩:=Bt met r.n
 have c2:AE (dOp Bz (AF Am (AA (AB 0) (AA (AF Ag (AA (AB 1) AD)) AD))) (dC .none)) τ0=some ((Ao met r.n).isSome,τ0) :=
  tst (op2 (x:=oZ (Ao met r.n)) (y:=.none) (τ1:=τ0) (AI (τ1:=τ0) (rs:=[.d D,.d (eT r.n)]) (ds:=[D,eT r.n]) rfl rfl e2) rfl (by cases Ao met r.n<;>rfl))
 by_cases h1:(Ao met r.n).isSome=true
 case pos =>
  rw[h1]at c2
  rw[if_pos h1]
  exact DZ ((Hf (τ':=τ0) c1).trans (Lp (τ':=τ0) c2)) rfl rfl
 rw[if_neg h1]
 rw[Bool.not_eq_true]at h1
 rw[h1]at c2
 have c3:AE (dOp fEq (AF AM (AA (AB 1) AD)) (dC (.str ""))) τ0=some (decide (r.h=t0),τ0):=tst (op2 (x:=eT r.h) (y:=eT t0) (τ1:=τ0) (AI (τ1:=τ0) (ds:=[eZ r]) rfl rfl (B8 r)) rfl (Gg _ _))
 by_cases h:r.h=t0
 case pos =>
  rw[decide_eq_true h]at c3
  rw[if_pos h]
  exact DZ ((Hf (τ':=τ0) c1).trans ((Hf (τ':=τ0) c2).trans (QG (τ':=τ0) (d:=.none) ((BK (τ1:=τ0) c3).trans rfl)))) rfl rfl
 rw[decide_eq_false h]at c3
 rw[if_neg h]
 obtain⟨l3,e3⟩:=Bt met r.h
 let τ1:=st (some (.d (oZ (Ao met r.h)))) none
 have hx:∀a b,AF AM (AA (AB 1) AD) (st a b)=some (eT r.h,st a b):=fun a b=>AI (τ1:=st a b) (ds:=[eZ r]) rfl rfl (B8 r)
 have z4:AL (AF Am (AA (AB 0) (AA (AF AM (AA (AB 1) AD)) AD))) (dN 2) τ0=some (.nx τ1):=AV (d:=oZ (Ao met r.h)) (τ1:=τ0) (AI (τ1:=τ0) (rs:=[.d D,.d (eT r.h)]) (ds:=[D,eT r.h]) (ls:=l3) (acc (τ1:=τ0) rfl (acc (hx _ _) rfl)) rfl e3) rfl
 have pre:∀{A0:DBX} {o:F7},A0 τ1=some o->BE (xIf vC1 (Cf 0) (xOf AO)) (BE (xIf vC2 (Cf 1) (xOf AO)) (BE (xOf (AQ vC3 EV AO)) (BE (xOf vA4) A0))) τ0=some o:=fun {A0 o} k=>(Hf (τ':=τ0) c1).trans ((Hf (τ':=τ0) c2).trans ((Dw (τ':=τ0) ((Ah (τ1:=τ0) c3).trans rfl)).trans ((Dw z4).trans k)))
 cases hq:Ao met r.h with
 |none =>
  refine DZ (pre (Lp (τ':=τ1) ?_)) rfl rfl
  show BZ (AE (dOp ED (AB 2) (dC .none))) _ (st (some (.d (oZ (Ao met r.h)))) none)=some (true,st (some (.d (oZ (Ao met r.h)))) none)
  rw[hq];rfl
 |some q =>
  dsimp only
  obtain⟨hqm,hqn⟩:=Hc hq
  have e1:τ1=st (some (.d (eZ q))) none:=by show st (some (.d (oZ (Ao met r.h)))) none=_;rw[hq];rfl
  obtain⟨l4,e4⟩:=Oi q
  have c5:BZ (AE (dOp ED (AB 2) (dC .none))) (As (AE (AF BY (AA (AB 2) AD)))) τ1=some (!decide (4<=kz q.d),τ1):=by
   rw[e1]
   exact orB (p:=false) rfl (DU (tst (AI (G:=BY) (a:=AA (AB 2) AD) (τ1:=st (some (.d (eZ q))) none) (rs:=[.d (eZ q)]) (ds:=[eZ q]) rfl rfl e4)))
  by_cases h4:4<=kz q.d
  case neg =>
   rw[decide_eq_false h4]at c5
   rw[if_neg h4]
   exact DZ (pre (Lp (τ':=τ1) c5)) rfl rfl
  rw[decide_eq_true h4]at c5
  rw[if_pos h4]
  obtain⟨l5,e5⟩:=IA ok hl (a:=r.h) (.inr ⟨q,hqm,hqn⟩)
  obtain⟨tl,htl⟩:=Kc (a:=met.reverse) (n:=r.h) ⟨q,List.mem_reverse.mpr hqm,hqn⟩
  let H:PyData:=.list ((hsR met.reverse r.h).map eT)
  let τ2:=st (some (.d (oZ (Ao met r.h)))) (some (.d H))
  have hlen:=HZ met.reverse r.h
  rw[List.length_reverse]at hlen
  have z6:AL (dOp Ea (Bs (AA (AF AM (AA (AB 1) AD)) AD)) (AF BW (AA (AB 0) (AA (AF AM (AA (AB 1) AD)) AD)))) (dN 3) τ1=some (.nx τ2):=by
   refine AV (d:=H) (τ1:=τ1) (op2 (x:=.list [eT r.h]) (y:=.list ((hsR met.reverse r.h).tail.map eT)) (τ1:=τ1) ?_ (AI (τ1:=τ1) (rs:=[.d D,.d (eT r.h)]) (ds:=[D,eT r.h]) (acc (τ1:=τ1) rfl (acc (hx _ _) rfl)) rfl e5) ?_) rfl
   ·unfold Bs
    rw[acc (hx _ _) rfl];rfl
   ·show(if [eT r.h].length+((hsR met.reverse r.h).tail.map eT).length<=sizeLine then some (PyData.list ([eT r.h]++(hsR met.reverse r.h).tail.map eT)) else none)=_
    rw[if_pos (sz (by rw[List.length_map,List.length_tail];simp only[List.length_cons,List.length_nil];omega))]
    show some (PyData.list _)=some (PyData.list _)
    rw[htl];rfl
  have c7:AE (dOp fGt (AY Au (AA (AB 3) AD)) (dC (.int 6))) τ2=some (decide (6<(hsR met.reverse r.h).length),τ2):=by
   refine tst (op2 (x:=.int ((hsR met.reverse r.h).length:Nat)) (y:=.int 6) (τ1:=τ2) (EF (d:=H) (τ1:=τ2) rfl (by show some (PyData.int (((hsR met.reverse r.h).map eT).length:Nat))=_;rw[List.length_map])) rfl ?_)
   show some (PyData.bool (decide ((((hsR met.reverse r.h).length:Nat):Int)>6)))=_
   exact congrArg (fun b=>some (PyData.bool b)) (decide_eq_decide.mpr (by omega))
  have pre2:∀{A0:DBX} {o:F7},A0 τ2=some o->BE (xIf vC1 (Cf 0) (xOf AO)) (BE (xIf vC2 (Cf 1) (xOf AO)) (BE (xOf (AQ vC3 EV AO)) (BE (xOf vA4) (BE (xIf vC5 (Cf 2) (xOf AO)) (BE (xOf vA6) A0))))) τ0=some o:=fun {A0 o} k=>pre ((Hf (τ':=τ1) c5).trans ((Dw z6).trans k))
  by_cases h6:6<(hsR met.reverse r.h).length
  case pos =>
   rw[decide_eq_true h6]at c7
   rw[if_pos h6]
   exact DZ (pre2 (Lp (τ':=τ2) c7)) rfl rfl
  rw[decide_eq_false h6]at c7
  rw[if_neg h6]
  have t1:AE (dOp fEq (AF BM (AA (AB 1) AD)) (dC (.str "tiles"))) τ2=some (decide (kz r.d=8),τ2):=tst (op2 (x:=eT (kS (kz r.d))) (y:=eT (kS 8)) (τ1:=τ2) rfl rfl ((Gg _ _).trans (congrArg (fun b=>some (PyData.bool b)) (decide_eq_decide.mpr ⟨DY (Cn _) (by decide),fun z=>by rw[z]⟩))))
  have c8:Ad (AE (dOp fEq (AF BM (AA (AB 1) AD)) (dC (.str "tiles")))) (AE (AY Iz (AA (dLC 1 [0] (dIL (AB 3)) (dN 0) Bp (AF Be (AA (AB 1) (AA (AB 0) AD)))) AD))) τ2=some (decide (kz r.d=8)&&tls met r.h,τ2):=by
   refine aH t1 fun _=>tst (EF (d:=.list ((hsR met.reverse r.h).map fun t=>PyData.bool (match Ao met t with|some q=>decide (kz q.d=8)|none=>false))) (τ1:=τ2) ?_ (dU _ _))
   have := lcg (enc := eT) (rs := hsR met.reverse r.h) (τ := τ2) (fr := [0]) (it := dIL (AB 3)) (ex := [some (.d D)]) (c := Bp) (e := AF Be (AA (AB 1) (AA (AB 0) AD))) (fun _ => true) (fun t => PyData.bool (match Ao met t with | some q => decide (kz q.d = 8) | none => false)) rfl (by omega) rfl rfl (fun _ _ => rfl) (fun m hm _ => by
    obtain⟨p,hp,rfl⟩:=Df hm
    have hp':=List.mem_reverse.mp hp
    obtain⟨lt,et⟩:=Pw ok hp'
    rw[CY ok hp']
    exact AI (τ1:=[some (.d (eT p.n)),some (.d D)]) (rs:=[.d D,.d (eT p.n)]) (ds:=[D,eT p.n]) rfl rfl et)
   rw[this,Cs]
  refine DZ (pre2 ((Hf (τ':=τ2) c7).trans (aD c8))) rfl ?_
  by_cases h8:kz r.d=8/\tls met r.h=true
  ·rw[if_pos h8,h8.2,decide_eq_true h8.1];rfl
  ·rw[if_neg h8]
   have:(decide (kz r.d=8)&&tls met r.h)=false:=by
    rw[Bool.eq_false_iff]
    intro z
    rw[Bool.and_eq_true]at z
    exact h8 ⟨of_decide_eq_true z.1,z.2⟩
   rw[this];rfl
def goF(met:List Rz):List Rz->Option Nat
 |[]=>none
 |r::rs=>match stp met r with
  |some n=>some n
  |none=>goF (met++[r]) rs
def Wi(rs:List Rz):Option Nat:=match goF [] rs with
 |some n=>some n
 |none=>if 24<rs.length then some 5 else none
theorem Sh{met:List Rz}{r:Rz}(ok:OkZ met)(okl:OkL r)(h:stp met r=none):OkZ (met++[r]):=by
 show OkR (met++[r]).reverse
 rw[List.reverse_append]
 show OkR met.reverse/\OkRow r/\(∀q∈met.reverse,q.n≠r.n)/\(r.h=t0\/∃q∈met.reverse,q.n=r.h)
 unfold stp at h
 split at h
 ·rename_i hx
  refine⟨ok,okl.row hx,?_⟩
  split at h
  ·cases h
  ·rename_i h1
   refine⟨fun q hq e=>h1 ?_,?_⟩
   ·rw[<- e,CY ok (List.mem_reverse.mp hq)];rfl
   ·split at h
    ·rename_i h0;exact .inl h0
    ·split at h
     ·cases h
     ·rename_i q hq
      obtain⟨h2,h3⟩:=Hc hq
      exact .inr ⟨q,List.mem_reverse.mpr h2,h3⟩
 ·cases h
def vG:DG:=dGT (AS (dN 1) (AS (dN 2) Az))
def vB:DBX:=E5 EB (AA (dSl (AB 0) Ba (dPt (AB 1))) (AA (AB 2) AD))
def ouL(D:PyData)(a b:Option L):Option Nat->F7
 |some n=>.inr n
 |none=>.inl (.nx [some (.d D),a,b])
theorem SQ{rs:List Rz}(hl:rs.length<=40):∀(post pre:List Rz) (a b:Option L),nM a->nM b->rs=pre++post->OkZ pre->(∀r∈post,OkL r)->∃a' b',IP vG vB (FU pre.length (post.map eZ)) [some (.d (.list (rs.map eZ))),a,b]=some (ouL (.list (rs.map eZ)) a' b' (goF pre post)):=by
 intro post
 induction post with
 |nil=>exact fun pre a b _ _ _ _ _=>⟨a,b,rfl⟩
 |cons r post ih =>
  intro pre a b ha hb e ok h
  have okl:=h r List.mem_cons_self
  let D:PyData:=.list (rs.map eZ)
  let st:Option L->Option L->DS:=fun a b=>[some (.d D),a,b]
  let t:=st (some (.d (.int (pre.length:Nat)))) (some (.d (eZ r)))
  have g1:vG (.tuple [.int (pre.length:Nat),eZ r]) (st a b)=some t:=by
   show(dN 1 (.int (pre.length:Nat)) (st a b)).bind _=_
   rw[CD (o:=a) rfl ha]
   show(dN 2 (eZ r) (st (some (.d (.int (pre.length:Nat)))) b)).bind _=_
   rw[CD (o:=b) rfl hb];rfl
  have sl:dSl (AB 0) Ba (dPt (AB 1)) t=some (.list (pre.map eZ),t):=by
   show some (PyData.list (JD (rs.map eZ) none (some ((pre.length:Nat):Int))),t)=_
   rw[Ke,e,List.map_append,List.take_left' (by rw[List.length_map])]
  have pl:pre.length<=40:=by rw[e,List.length_append]at hl;omega
  have b1:vB t=some (match ouX (stp pre r) with|.inl _=>.inl (.nx t)|.inr n=>.inr n):=by
   unfold vB E5
   rw[acc sl rfl]
   show Option.map _ (EB [PyData.list (pre.map eZ),eZ r])=_
   rw[RC ok okl pl];rfl
  rw[List.map_cons,FU,IP]
  rw[g1,Option.bind_some,b1,Option.bind_some,goF]
  cases hs:stp pre r with
  |some n=>exact⟨none,none,rfl⟩
  |none =>
   dsimp only[ouX]
   have:=ih (pre++[r]) (some (.d (.int (pre.length:Nat)))) (some (.d (eZ r))) Cv Cv (by rw[e];simp) (Sh ok okl hs) fun q hq=>h q (List.mem_cons_of_mem _ hq)
   rw[List.length_append]at this
   exact this
theorem aF{rs:List Rz}(h:∀r∈rs,OkL r)(hl:rs.length<=40):LN [.list (rs.map eZ)]=some (match Wi rs with|some n=>.inr n|none=>.inl (.bool true)):=by
 let D:PyData:=.list (rs.map eZ)
 obtain⟨a,b,e⟩:=SQ hl rs [] none none BB BB rfl trivial h
 have e1:O9 (dIE (AB 0)) vG vB [some (.d D),none,none]=some (ouL D a b (goF [] rs)):=by
  unfold O9
  rw[show dIE (AB 0) [some (.d D),none,none]=some (FU 0 (rs.map eZ),[some (.d D),none,none]) from rfl,Option.bind_some]
  exact e
 have sq:∀{f:DBX},BE (O9 (dIE (AB 0)) vG vB) f [some (.d D),none,none]=match goF [] rs with|some n=>some (.inr n)|none=>f [some (.d D),a,b]:=fun {f}=>by
  unfold BE
  rw[e1,Option.bind_some]
  cases goF [] rs<;>rfl
 unfold LN Wi
 cases hg:goF [] rs with
 |some n =>
  refine DZ (o:=.inr n) ?_ rfl rfl
  refine sq.trans ?_
  rw[hg]
 |none =>
  have c:AE (dOp fGt (AY Au (AA (AB 0) AD)) (dC (.int 24))) [some (.d D),a,b]=some (decide (24<rs.length),[some (.d D),a,b]):=by
   refine tst (op2 (x:=.int (rs.length:Nat)) (y:=.int 24) (τ1:=[some (.d D),a,b]) (EF (d:=D) (τ1:=[some (.d D),a,b]) rfl (by show some (PyData.int ((rs.map eZ).length:Nat))=_;rw[List.length_map])) rfl ?_)
   show some (PyData.bool (decide (((rs.length:Nat):Int)>24)))=_
   exact congrArg (fun b=>some (PyData.bool b)) (decide_eq_decide.mpr (by omega))
  by_cases h24:24<rs.length
  ·rw[decide_eq_true h24]at c
   refine DZ (o:=.inr 5) ?_ rfl (by dsimp only;rw[if_pos h24];rfl)
   refine sq.trans ?_
   rw[hg]
   exact Lp c
  ·rw[decide_eq_false h24]at c
   refine DZ (o:=.inl (.rt (.bool true) [some (.d D),a,b])) ?_ rfl (by dsimp only;rw[if_neg h24];rfl)
   refine sq.trans ?_
   rw[hg]
   exact(Hf c).trans rfl
def Vg(rs:List Rz):Prop:=∀r∈rs,(r.h=t0\/∃q∈rs,q.n=r.h/\4<=kz q.d/\(hsR rs.reverse r.h).length<7)/\(kz r.d=8->∀q∈rs,q.n∈hsR rs.reverse r.h->kz q.d≠8)
theorem ON{rs:List Rz}(ok:OkZ rs){r:Rz}(hr:r∈rs):r.h=t0\/∃q∈rs,q.n=r.h:=by
 obtain⟨A,B,rfl⟩:=List.append_of_mem hr
 obtain⟨_,_,_,h⟩:=Cr ok rfl
 exact h.imp id fun⟨q,hq,e⟩=>⟨q,List.mem_append_left _ hq,e⟩
theorem SO{big small:List Rz}(okb:OkZ big)(oks:OkZ small)(h:∀q∈small,q∈big)(v:Vg big):Vg small:=by
 intro r hr
 obtain⟨v1,v2⟩:=v r (h r hr)
 have hh:=ON oks hr
 have e:hsR big.reverse r.h=hsR small.reverse r.h:=Iq oks okb h hh
 refine⟨?_,fun z q hq hn=>v2 z q (h q hq) (by rw[e];exact hn)⟩
 rcases v1 with v1|⟨q,hq,e1,e2,e3⟩
 ·exact .inl v1
 ·rcases hh with hh|⟨p,hp,ep⟩
  ·exact .inl hh
  ·have:q=p:=okb.u q hq p (h p hp) (e1.trans ep.symm)
   subst this
   exact .inr ⟨q,hp,e1,e2,by rw[<- e];exact e3⟩
theorem aE{rs:List Rz}(ok:OkZ rs)(vt:VtR rs.reverse):Vg rs:=by
 intro r hr
 obtain⟨A,B,e⟩:=List.append_of_mem hr
 obtain⟨okA,_,_,hh⟩:=Cr ok e
 have hA:∀q∈A,q∈rs:=fun q hq=>by rw[e];exact List.mem_append_left _ hq
 have vr : VtR (r :: A.reverse) := VtR.suf (p := B.reverse) (by
  have:rs.reverse=B.reverse++r::A.reverse:=by rw[e];simp
  rw[<- this];exact vt)
 obtain⟨_,v1,v2⟩:=vr
 refine⟨?_,fun z q hq hn=>?_⟩
 ·rcases v1 with v1|⟨q,hq,e1,e2,e3⟩
  ·exact .inl v1
  ·have hq':=List.mem_reverse.mp hq
   refine .inr ⟨q,hA q hq',e1,e2,?_⟩
   rw[Iq okA ok hA (.inr ⟨q,hq',e1⟩),<- e1];exact e3
 ·rw[Iq okA ok hA hh]at hn
  obtain⟨p,hp,ep⟩:=Df hn
  have:q=p:=ok.u q hq p (hA p (List.mem_reverse.mp hp)) ep.symm
  subst this
  exact v2 z q hp hn
theorem Wm:∀{a:List Rz},OkR a->Vg a.reverse->VtR a
 |[],_,_=>trivial
 |r::a,ok,v=>by
  have okz:OkZ (r::a).reverse:=by show OkR (r::a).reverse.reverse;rw[List.reverse_reverse];exact ok
  have oka:OkZ a.reverse:=by show OkR a.reverse.reverse;rw[List.reverse_reverse];exact ok.1
  have hs:∀q∈a.reverse,q∈(r::a).reverse:=fun q hq=>by rw[List.mem_reverse]at hq ⊢;exact List.mem_cons_of_mem _ hq
  have ih:=Wm ok.1 (SO okz oka hs v)
  obtain⟨v1,v2⟩:=v r (List.mem_reverse.mpr List.mem_cons_self)
  have hh:r.h=t0\/∃q∈a.reverse,q.n=r.h:=ok.2.2.2.imp id fun⟨q,hq,e⟩=>⟨q,List.mem_reverse.mpr hq,e⟩
  have e:hsR (r::a).reverse.reverse r.h=hsR a.reverse.reverse r.h:=Iq oka okz hs hh
  rw[List.reverse_reverse (as:=a)]at e
  refine⟨ih,?_,fun z q hq hn=>v2 z q (List.mem_reverse.mpr (List.mem_cons_of_mem _ hq)) (by rw[e];exact hn)⟩
  rcases v1 with v1|⟨q,hq,e1,e2,e3⟩
  ·exact .inl v1
  ·rcases hh with hh|⟨p,hp,ep⟩
   ·exact .inl hh
   ·have:q=p:=okz.u q hq p (hs p hp) (e1.trans ep.symm)
    subst this
    exact .inr ⟨q,List.mem_reverse.mp hp,e1,e2,by rw[e1,<- e];exact e3⟩
structure Iv(rs:List Rz):Prop where
 ok:OkZ rs
 vt:VtR rs.reverse
 ln:rs.length<=24
theorem Iv.sub{rs xs:List Rz}(I:Iv rs)(ox:OkZ xs)(h:∀q∈xs,q∈rs)(hl:xs.length<=rs.length):Iv xs :=
 ⟨ox,Wm ox (by rw[List.reverse_reverse];exact SO I.ok ox h (aE I.ok I.vt)),Nat.le_trans hl I.ln⟩
theorem Iv.wo{rs:List Rz}(I:Iv rs)(n:Tx):Iv (woZ rs n):=I.sub (NI I.ok n) (fun q hq=>(wo_mem.mp hq).1) (Mp rs n)
theorem Iv.rai{rs:List Rz}(I:Iv rs){r:Rz}(hr:r∈rs):Iv (Ge rs r.n):=I.sub (Vc I.ok hr) (fun q hq=>mem_rai.mp hq) (Nat.le_of_eq (QW rs r.n))
theorem Iv.snk{rs:List Rz}(I:Iv rs){r:Rz}(hr:r∈rs):Iv (Hi rs r.n r.h):=I.sub (Vb I.ok hr) (fun q hq=>mem_snk.mp hq) (Nat.le_of_eq (U5 rs r.n r.h))
theorem NL{f:Rz->Rz}(hn:∀q,(f q).n=q.n)(hh:∀q,(f q).h=q.h):∀(a:List Rz) (m:Tx),hsR (a.map f) m=hsR a m
 |[],_=>rfl
 |r::a,m=>by rw[List.map_cons,hsR,hsR,hn,hh,NL hn hh a,NL hn hh a]
theorem Tt{f:Rz->Rz}(hn:∀q,(f q).n=q.n)(hh:∀q,(f q).h=q.h):∀{a:List Rz},(∀q∈a,OkRow (f q))->OkR a->OkR (a.map f)
 |[],_,_=>trivial
 |r::a,h,ok=>by
  refine⟨Tt hn hh (fun q hq=>h q (List.mem_cons_of_mem _ hq)) ok.1,h r List.mem_cons_self,fun q hq=>?_,?_⟩
  ·obtain⟨p,hp,rfl⟩:=List.mem_map.mp hq
   rw[hn,hn];exact ok.2.2.1 p hp
  ·rw[hh]
   exact ok.2.2.2.imp id fun⟨q,hq,e⟩=>⟨f q,List.mem_map_of_mem hq,(hn q).trans e⟩
theorem Ts{f:Rz->Rz}(hn:∀q,(f q).n=q.n)(hh:∀q,(f q).h=q.h)(hk:∀q,kz (f q).d=kz q.d):∀{a:List Rz},VtR a->VtR (a.map f)
 |[],_=>trivial
 |r::a,⟨v0,v1,v2⟩=>by
  refine⟨Ts hn hh hk v0,?_,fun z q hq hm=>?_⟩
  ·rw[hh]
   exact v1.imp id fun⟨q,hq,e1,e2,e3⟩=>⟨f q,List.mem_map_of_mem hq,(hn q).trans e1,by rw[hk];exact e2,by rw[hn,NL hn hh];exact e3⟩
  ·obtain⟨p,hp,rfl⟩:=List.mem_map.mp hq
   rw[hn,hh,NL hn hh]at hm
   rw[hk]at z ⊢
   exact v2 z p hp hm
theorem Iv.upd{rs:List Rz}(I:Iv rs){r c:Rz}(hr:r∈rs)(hn:c.n=r.n)(hh:c.h=r.h)(hk:kz c.d=kz r.d)(ok:OkRow c):Iv (Hg rs r.n c):=by
 have u:=I.ok.u
 let f:Rz->Rz:=fun q=>if q=r then c else q
 have e:Hg rs r.n c=rs.map f:=List.map_congr_left fun q hq=>by
  show(if q.n=r.n then c else q)=if q=r then c else q
  by_cases h:q.n=r.n
  ·rw[if_pos h,if_pos (u q hq r hr h)]
  ·rw[if_neg h,if_neg fun z=>h (by rw[z])]
 have h1:∀q,(f q).n=q.n:=fun q=>by show(if q=r then c else q).n=_;split<;>simp_all
 have h2:∀q,(f q).h=q.h:=fun q=>by show(if q=r then c else q).h=_;split<;>simp_all
 have h3:∀q,kz (f q).d=kz q.d:=fun q=>by show kz (if q=r then c else q).d=_;split<;>simp_all
 have h4:∀q∈rs.reverse,OkRow (f q):=fun q hq=>by
  show OkRow (if q=r then c else q)
  split
  ·exact ok
  ·exact OkR.all I.ok q hq
 rw[e]
 refine⟨?_,?_,by rw[List.length_map];exact I.ln⟩
 ·show OkR (rs.map f).reverse
  rw[<- List.map_reverse];exact Tt h1 h2 h4 I.ok
 ·rw[<- List.map_reverse];exact Ts h1 h2 h3 I.vt
theorem Si{met:List Rz}{r:Rz}(ok:OkZ (met++[r]))(vt:VtR (met++[r]).reverse):stp met r=none:=by
 rw[List.reverse_append]at vt
 replace vt:VtR (r::met.reverse):=vt
 have ok':OkR (r::met.reverse):=by have:=ok;unfold OkZ at this;rw[List.reverse_append]at this;exact this
 obtain⟨om,okr,hn,_⟩:=ok'
 obtain⟨_,v1,v2⟩:=vt
 unfold stp
 rw[if_pos okr.y1,if_neg (by rw[Gz fun q hq=>hn q (List.mem_reverse.mpr hq)];exact Bool.false_ne_true)]
 by_cases h:r.h=t0
 ·rw[if_pos h]
 rw[if_neg h]
 obtain⟨q,hq,e1,e2,e3⟩:=v1.resolve_left h
 have hq':=List.mem_reverse.mp hq
 have om':OkZ met:=om
 rw[<- e1,CY om' hq']
 dsimp only
 rw[if_pos e2,if_neg (by omega),if_neg]
 rintro⟨z1,z2⟩
 obtain⟨t,ht,z3⟩:=List.any_eq_true.mp z2
 obtain⟨p,hp,rfl⟩:=Df ht
 rw[CY om' (List.mem_reverse.mp hp)]at z3
 exact v2 z1 p hp (by rw[<- e1];exact ht) (of_decide_eq_true z3)
theorem Qu:∀(a b met:List Rz),goF met (a++b)=match goF met a with|some n=>some n|none=>goF (met++a) b
 |[],b,met=>by rw[List.append_nil];rfl
 |r::a,b,met=>by
  rw[List.cons_append,goF,goF]
  cases stp met r with
  |some n=>rfl
  |none =>
   dsimp only
   rw[Qu a b (met++[r])]
   rw[List.append_assoc];rfl
theorem UB{rs:List Rz}:∀(post pre:List Rz),rs=pre++post->OkZ rs->VtR rs.reverse->goF pre post=none
 |[],_,_,_,_=>rfl
 |r::post,pre,e,ok,vt=>by
  have e':rs=(pre++[r])++post:=by rw[e];simp
  rw[goF,Si (Qh (B:=post) (e'▸ok)) (VtR.suf (p:=post.reverse) (by rw[<- List.reverse_append,<- e'];exact vt))]
  exact UB post (pre++[r]) e' ok vt
theorem Iv.put{rs:List Rz}(I:Iv rs){r:Rz}(okl:OkL r)(h:stp rs r=none)(hl:rs.length<24):Iv (rs++[r]):=by
 have ok:=Sh I.ok okl h
 refine⟨ok,?_,by rw[List.length_append];exact hl⟩
 rw[List.reverse_append]
 show VtR (r::rs.reverse)
 refine⟨I.vt,?_,fun z q hq hm=>?_⟩
 ·unfold stp at h
  split at h
  case isFalse=>cases h
  split at h
  case isTrue=>cases h
  by_cases e:r.h=t0
  ·exact .inl e
  rw[if_neg e]at h
  cases hq:Ao rs r.h with
  |none=>rw[hq]at h;cases h
  |some q =>
   rw[hq]at h
   dsimp only at h
   obtain⟨hm,hn⟩:=Hc hq
   by_cases h4:4<=kz q.d
   case neg=>rw[if_neg h4]at h;cases h
   rw[if_pos h4]at h
   by_cases h6:6<(hsR rs.reverse r.h).length
   case pos=>rw[if_pos h6]at h;cases h
   exact .inr ⟨q,List.mem_reverse.mpr hm,hn,h4,by rw[hn];omega⟩
 ·unfold stp at h
  split at h
  case isFalse=>cases h
  split at h
  case isTrue=>cases h
  by_cases e:r.h=t0
  ·rw[e,EZ I.ok]at hm;cases hm
  rw[if_neg e]at h
  cases hp:Ao rs r.h with
  |none=>rw[hp]at h;cases h
  |some p =>
   rw[hp]at h
   dsimp only at h
   by_cases h4:4<=kz p.d
   case neg=>rw[if_neg h4]at h;cases h
   rw[if_pos h4]at h
   by_cases h6:6<(hsR rs.reverse r.h).length
   case pos=>rw[if_pos h6]at h;cases h
   rw[if_neg h6]at h
   by_cases h8:kz r.d=8/\tls rs r.h=true
   case pos=>rw[if_pos h8]at h;cases h
   intro z8
   refine h8 ⟨z,List.any_eq_true.mpr ⟨q.n,hm,?_⟩⟩
   rw[CY I.ok (List.mem_reverse.mp hq)]
   exact decide_eq_true z8
inductive De where
 |put (r:Rz)
 |nm (i:Nat) (n:Tx)
 |mv (n:Tx) (x y:Int)
 |tn (n:Tx) (q:Int)
 |sz (n:Tx) (w h:Int)
 |ch (n:Tx) (d:Dz)
def eDe:De->PyData
 |.put r=>.tuple [eT (wS 0),eZ r]
 |.nm i n=>dd i n []
 |.mv n x y=>dd 4 n [.int x,.int y]
 |.tn n q=>dd 5 n [.int q]
 |.sz n w h=>dd 6 n [.int w,.int h]
 |.ch n d=>dd 7 n [eD d]
def nmD:De->Tx
 |.put _=>t0
 |.nm _ n=>n
 |.mv n _ _=>n
 |.tn n _=>n
 |.sz n _ _=>n
 |.ch n _=>n
def wdD:De->Nat
 |.put _=>0
 |.nm i _=>i
 |.mv _ _ _=>4
 |.tn _ _=>5
 |.sz _ _ _=>6
 |.ch _ _=>7
def chX(r:Rz):De->Option (PyData×Option Rz)
 |.put _=>none
 |.nm i _=>some (eZ { r with s:=decide (i=9) },some { r with s:=decide (i=9) })
 |.mv _ x y=>some (eZ { r with x:=x,y:=y },if (-60<=x/\x<=60)/\(-60<=y/\y<=60) then some { r with x:=x,y:=y } else none)
 |.tn _ k=>match r.d with
  |.turn q f=>some (eZ { r with d:=.turn ((q+k) % 4) f },some { r with d:=.turn ((q+k) % 4) f })
  |_=>none
 |.sz _ w h=>match r.d with
  |.plate _ _ a b=>some (eZ { r with d:=.plate w h a b },if (1<=w/\w<=12)/\(1<=h/\h<=12) then some { r with d:=.plate w h a b } else none)
  |.window _ _ x y=>some (eZ { r with d:=.window w h x y },if (1<=w/\w<=16)/\(1<=h/\h<=16) then some { r with d:=.window w h x y } else none)
  |_=>none
 | .ch _ d => some (eX r.n r.h r.x r.y r.s (kz r.d) (eD d), if kz d = kz r.d then some { r with d := d } else match d with
  |.plate w h a b=>if kz r.d=1 then some { r with d:=.band w h a b } else none
  |_=>none)
def Ln(rs:List Rz):De->Prop
 |.put r=>OkL r
 |.nm i _=>i=1\/i=2\/i=3\/i=8\/i=9
 |.ch n d=>O7 d/\∀r∈rs,r.n=n->kz d=kz r.d\/kz d=0
 |_=>True
structure Z9(r:Rz)(X:PyData)(v:Option Rz):Prop where
 row:∃ls,BI [.d X]=some (.bool v.isSome,ls)
 val:∀r',v=some r'->X=eZ r'/\OkRow r'/\r'.n=r.n/\r'.h=r.h/\kz r'.d=kz r.d
 nam:AJ X (.int 0)=some (eT r.n)
theorem T2{r:Rz}(hn:OkN r.n)(hh:r.h=t0\/OkN r.h){b:Bool}{lf:List L}(ef:GF (kz r.d) [.d (eD r.d)]=some (.bool b,lf)):∃ls,BI [.d (eZ r)]=some (.bool (decide (-60<=r.x/\r.x<=60)&&decide (-60<=r.y/\r.y<=60)&&b),ls):=by
 obtain⟨l,hl⟩:=UH r.d
 rw[hl]at ef
 rw[cD,hl]
 exact T3 hn hh (Cn r.d) ef
theorem P9{rs:List Rz}{r:Rz}(hr:r∈rs)(ok:OkRow r)(hh:r.h=t0\/OkN r.h){d:De}(hd:Ln rs d)(hn:nmD d=r.n){X:PyData}{v:Option Rz}(h:chX r d=some (X,v)):Z9 r X v:=by
 have tr:∀{r':Rz},OkRow r'->r'.n=r.n->r'.h=r.h->kz r'.d=kz r.d->Z9 r (eZ r') (some r'):=fun {r'} o e1 e2 e3 =>
  ⟨MX o (by rw[e2];exact hh),fun q z=>by cases z;exact⟨rfl,o,e1,e2,e3⟩,by rw[<- e1];rfl⟩
 have px:decide (-60<=r.x/\r.x<=60)=true:=decide_eq_true ⟨ok.x0,ok.x1⟩
 have py:decide (-60<=r.y/\r.y<=60)=true:=decide_eq_true ⟨ok.y0,ok.y1⟩
 cases d with
 |put q=>cases h
 |nm i n=>cases h;exact tr ⟨ok.n1,ok.n8,ok.na,ok.x0,ok.x1,ok.y0,ok.y1,ok.d⟩ rfl rfl rfl
 |mv n x y =>
  cases h
  by_cases hb:(-60<=x/\x<=60)/\(-60<=y/\y<=60)
  ·rw[if_pos hb];exact tr ⟨ok.n1,ok.n8,ok.na,hb.1.1,hb.1.2,hb.2.1,hb.2.2,ok.d⟩ rfl rfl rfl
  ·rw[if_neg hb]
   refine⟨?_,fun q z=>(nomatch z),rfl⟩
   obtain⟨lf,ef⟩:=Nb r.d ok.d
   obtain⟨ls,e⟩:=T2 (r:={ r with x:=x,y:=y }) ok.nm hh ef
   refine⟨ls,e.trans ?_⟩
   have:(decide (-60<=x/\x<=60)&&decide (-60<=y/\y<=60)&&true)=false:=by
    rw[Bool.and_true,Bool.eq_false_iff]
    intro z
    rw[Bool.and_eq_true]at z
    exact hb ⟨of_decide_eq_true z.1,of_decide_eq_true z.2⟩
   exact congrArg (fun b=>some (PyData.bool b,ls)) this
 |tn n k =>
  dsimp only[chX]at h
  split at h
  ·rename_i q f e
   cases h
   exact tr ⟨ok.n1,ok.n8,ok.na,ok.x0,ok.x1,ok.y0,ok.y1,by show 0<=(q+k) % 4/\(q+k) % 4<=3;omega⟩ rfl rfl (by rw[e];rfl)
  ·cases h
 |sz n w g =>
  dsimp only[chX]at h
  split at h
  ·rename_i w0 h0 a b e
   have od:=ok.d
   rw[e]at od
   obtain⟨_,_,_,_,oa,ob⟩:=od
   cases h
   by_cases hb:(1<=w/\w<=12)/\(1<=g/\g<=12)
   ·rw[if_pos hb];exact tr ⟨ok.n1,ok.n8,ok.na,ok.x0,ok.x1,ok.y0,ok.y1,⟨hb.1.1,hb.1.2,hb.2.1,hb.2.2,oa,ob⟩⟩ rfl rfl (by rw[e];rfl)
   ·rw[if_neg hb]
    refine⟨?_,fun q z=>(nomatch z),rfl⟩
    obtain⟨lf,ef⟩:=VJ (w:=w) (h:=g) oa ob
    obtain⟨ls,e⟩:=T2 (r:={ r with d:=.plate w g a b }) ok.nm hh ef
    refine⟨ls,e.trans ?_⟩
    have:(decide (1<=w/\w<=12)&&decide (1<=g/\g<=12))=false:=by
     rw[Bool.eq_false_iff]
     intro z
     rw[Bool.and_eq_true]at z
     exact hb ⟨of_decide_eq_true z.1,of_decide_eq_true z.2⟩
    rw[this,Bool.and_false];rfl
  ·rename_i w0 h0 x y e
   have od:=ok.d
   rw[e]at od
   obtain⟨_,_,_,_,x0,x1,y0,y1⟩:=od
   cases h
   by_cases hb:(1<=w/\w<=16)/\(1<=g/\g<=16)
   ·rw[if_pos hb];exact tr ⟨ok.n1,ok.n8,ok.na,ok.x0,ok.x1,ok.y0,ok.y1,⟨hb.1.1,hb.1.2,hb.2.1,hb.2.2,x0,x1,y0,y1⟩⟩ rfl rfl (by rw[e];rfl)
   ·rw[if_neg hb]
    refine⟨?_,fun q z=>(nomatch z),rfl⟩
    obtain⟨lf,ef⟩:=SJ (w:=w) (h:=g) x0 x1 y0 y1
    obtain⟨ls,e⟩:=T2 (r:={ r with d:=.window w g x y }) ok.nm hh ef
    refine⟨ls,e.trans ?_⟩
    have:(decide (1<=w/\w<=16)&&decide (1<=g/\g<=16))=false:=by
     rw[Bool.eq_false_iff]
     intro z
     rw[Bool.and_eq_true]at z
     exact hb ⟨of_decide_eq_true z.1,of_decide_eq_true z.2⟩
    rw[this,Bool.and_false];rfl
  ·cases h
 |ch n d =>
  obtain⟨od,hk⟩:=hd
  cases h
  by_cases e:kz d=kz r.d
  ·rw[if_pos e,<- e]
   exact tr (r':={ r with d:=d }) ⟨ok.n1,ok.n8,ok.na,ok.x0,ok.x1,ok.y0,ok.y1,od⟩ rfl rfl e
  ·rw[if_neg e]
   have e0:=(hk r hr hn.symm).resolve_left e
   cases d with
   |plate w g a b =>
    obtain⟨w0,w1,g0,g1,oa,ob⟩:=od
    dsimp only
    by_cases h1:kz r.d=1
    ·rw[if_pos h1,h1]
     exact tr (r':={ r with d:=.band w g a b }) ⟨ok.n1,ok.n8,ok.na,ok.x0,ok.x1,ok.y0,ok.y1,⟨by omega,w1,by omega,g1,oa,ob⟩⟩ rfl rfl h1.symm
    ·rw[if_neg h1]
     refine⟨?_,fun q z=>(nomatch z),rfl⟩
     obtain⟨lf,ef⟩:=TM (Cn r.d) (fun z=>e z.symm) h1 (w:=w) (h:=g) oa ob
     obtain⟨ls,e⟩:=T3 (x:=r.x) (y:=r.y) (s:=r.s) ok.nm hh (Cn r.d) ef
     exact⟨ls,e.trans (by rw[Bool.and_false];rfl)⟩
   |_=>cases e0
def rX(τ:DS):PyData ⊕ Nat->F7
 |.inl d=>.inl (.rt d τ)
 |.inr n=>.inr n
theorem xrc{G:List PyData->Option (PyData ⊕ Nat)}{a:DA}{τ τ1:DS}{rs:List Ar}{ds:List PyData}{v:PyData ⊕ Nat}(h:a τ=some (rs,τ1))(k:BC rs=some ds)(g:G ds=some v):Ho G a τ=some (rX τ1 v):=by
 unfold Ho
 rw[h,Option.bind_some]
 show((BC rs).bind _)=_
 rw[k,Option.bind_some,g]
 cases v<;>rfl
theorem XT{i:Nat}{G:List PyData->Option (PyData ⊕ Nat)}{a:DA}{τ τ1 τ2:DS}{rs:List Ar}{ds:List PyData}{d:PyData}(h:a τ=some (rs,τ1))(k:BC rs=some ds)(g:G ds=some (.inl d))(e:dN i d τ1=some τ2):Je i G a τ=some (.inl (.nx τ2)):=by
 unfold Je
 rw[h,Option.bind_some]
 show((BC rs).bind _)=_
 rw[k,Option.bind_some,g,Option.bind_some]
 show(dN i d τ1).map _=_
 rw[e];rfl
theorem XU{i:Nat}{G:List PyData->Option (PyData ⊕ Nat)}{a:DA}{τ τ1:DS}{rs:List Ar}{ds:List PyData}{n:Nat}(h:a τ=some (rs,τ1))(k:BC rs=some ds)(g:G ds=some (.inr n)):Je i G a τ=some (.inr n):=by
 unfold Je
 rw[h,Option.bind_some]
 show((BC rs).bind _)=_
 rw[k,Option.bind_some,g];rfl
def nX(τ:DS):PyData ⊕ Nat->F7
 |.inl _=>.inl (.nx τ)
 |.inr n=>.inr n
theorem dcx{G:List PyData->Option (PyData ⊕ Nat)}{a:DA}{τ τ1:DS}{rs:List Ar}{ds:List PyData}{v:PyData ⊕ Nat}(h:a τ=some (rs,τ1))(k:BC rs=some ds)(g:G ds=some v):E5 G a τ=some (nX τ1 v):=by
 unfold E5
 rw[h,Option.bind_some]
 show((BC rs).bind _)=_
 rw[k,Option.bind_some,g]
 cases v<;>rfl
theorem QE{a b:DBX}{τ τ1:DS}(h:a τ=some (.inl (.nx τ1))):BE a b τ=b τ1:=by
 unfold BE
 rw[h];rfl
theorem QF{a b:DBX}{τ:DS}{n:Nat}(h:a τ=some (.inr n)):BE a b τ=some (.inr n):=by
 unfold BE
 rw[h];rfl
theorem SA{a b:DBX}{τ τ1:DS}{v:PyData ⊕ Nat}(h:a τ=some (rX τ1 v)):BE a b τ=some (rX τ1 v):=by
 unfold BE
 rw[h]
 cases v<;>rfl
theorem Wl{c:DT}{a b:DBX}{τ τ':DS}(h:c τ=some (true,τ')):xIf c a b τ=a τ':=by
 unfold xIf
 rw[h];rfl
theorem V0{τ:DS}(v:PyData ⊕ Nat):enX (rX τ v)=some v:=by cases v<;>rfl
theorem Sq{rs:List Rz}(a:Tx):Em [.list (rs.map eZ),eT a]=some (match Ao rs a with|some r=>.inl (eZ r)|none=>.inr 6):=by
 let D:PyData:=.list (rs.map eZ)
 obtain⟨l,e⟩:=Bt rs a
 let τ0:DS:=[some (.d D),some (.d (eT a)),none]
 let τ:DS:=[some (.d D),some (.d (eT a)),some (.d (oZ (Ao rs a)))]
 unfold Em
 have z:AL (AF Am (AA (AB 0) (AA (AB 1) AD))) (dN 2) τ0=some (.nx τ):=AV (τ1:=τ0) (AI (τ1:=τ0) (rs:=[.d D,.d (eT a)]) (ds:=[D,eT a]) rfl rfl e) rfl
 cases hf:Ao rs a with
 |none=>exact DZ ((Dw z).trans (Lp (τ':=τ) (by show AE _ [_,_,some (.d (oZ (Ao rs a)))]=some (true,[_,_,some (.d (oZ (Ao rs a)))]);rw[hf];rfl))) rfl rfl
 |some r =>
  refine DZ (o:=.inl (.rt (eZ r) τ)) ((Dw z).trans ((Hf (τ':=τ) ?_).trans ?_)) rfl rfl
  ·show AE _ [_,_,some (.d (oZ (Ao rs a)))]=some (false,[_,_,some (.d (oZ (Ao rs a)))]);rw[hf];rfl
  ·show xOf (AN (AB 2)) [_,_,some (.d (oZ (Ao rs a)))]=some (.inl (.rt (eZ r) [_,_,some (.d (oZ (Ao rs a)))]));rw[hf];rfl
theorem kq{i j:Nat}(hi:i<10)(hj:j<10):fEq (eT (kS i)) (eT (kS j))=some (.bool (decide (i=j))):=by
 rw[Gg];exact congrArg (fun b=>some (PyData.bool b)) (decide_eq_decide.mpr ⟨DY hi hj,fun z=>by rw[z]⟩)
theorem knq{i j:Nat}(hi:i<10)(hj:j<10):fNe (eT (kS i)) (eT (kS j))=some (.bool (!decide (i=j))):=by
 rw[MC];exact congrArg (fun b=>some (PyData.bool (!b))) (decide_eq_decide.mpr ⟨DY hi hj,fun z=>by rw[z]⟩)
theorem wq{i j:Nat}(hi:i<10)(hj:j<10):fEq (eT (wS i)) (eT (wS j))=some (.bool (decide (i=j))):=by
 rw[Gg];exact congrArg (fun b=>some (PyData.bool b)) (decide_eq_decide.mpr ⟨JG hi hj,fun z=>by rw[z]⟩)
theorem Km(d:Dz):kz d=7↔∃q f,d = .turn q f:=by cases d<;>simp[kz]
theorem bO(t:Tx)(ts:List Tx):fIn true (eT t) (.tuple (ts.map eT))=some (.bool (!decide (t∈ts))):=Vr t ts
theorem W9{i:Nat}(hi:i<10):fIn true (eT (kS i)) (.tuple [eT (kS 0),eT (kS 6)])=some (.bool (!decide (i=0\/i=6))):=by
 refine(bO (kS i) [kS 0,kS 6]).trans (congrArg (fun b=>some (PyData.bool (!b))) (decide_eq_decide.mpr ?_))
 rw[List.mem_cons,List.mem_singleton]
 exact⟨fun z=>z.imp (DY hi (by decide)) (DY hi (by decide)),fun z=>z.imp (fun e=>by rw[e]) fun e=>by rw[e]⟩
theorem SU(r:Rz)(k:Int):Ed [eZ r,.int k]=some (match r.d with|.turn q f=>.inl (eZ { r with d:=.turn ((q+k) % 4) f })|_=>.inr 7):=by
 let τ0:DS:=[some (.d (eZ r)),some (.d (.int k)),none]
 have c:AE (dOp fNe (AF BM (AA (AB 0) AD)) (dC (.str "turn"))) τ0=some (!decide (kz r.d=7),τ0):=tst (op2 (x:=eT (kS (kz r.d))) (y:=eT (kS 7)) (τ1:=τ0) rfl rfl (knq (Cn _) (by decide)))
 unfold Ed
 by_cases h:kz r.d=7
 ·obtain⟨q,f,e⟩:=(Km r.d).mp h
  rw[decide_eq_true h]at c
  obtain⟨n,hh,x,y,s,d⟩:=r
  dsimp only at e
  subst e
  exact DZ (o:=.inl (.rt _ _)) ((Hf (τ':=τ0) c).trans rfl) rfl rfl
 ·rw[decide_eq_false h]at c
  refine(DZ (Lp (τ':=τ0) c) rfl rfl).trans ?_
  split
  ·rename_i q f e
   exact absurd ((Km r.d).mpr ⟨q,f,e⟩) h
  ·rfl
theorem U7(r:Rz)(w g:Int):FL [eZ r,.int w,.int g]=some (match r.d with|.plate _ _ a b=>.inl (eZ { r with d:=.plate w g a b })|.window _ _ x y=>.inl (eZ { r with d:=.window w g x y })|_=>.inr 7):=by
 let τ0:DS:=[some (.d (eZ r)),some (.d (.int w)),some (.d (.int g))]
 have c:AE (dOp (fIn true) (AF BM (AA (AB 0) AD)) (AW (AA (dC (.str "plate")) (AA (dC (.str "window")) AD)))) τ0=some (!decide (kz r.d=0\/kz r.d=6),τ0):=tst (op2 (x:=eT (kS (kz r.d))) (y:=.tuple [eT (kS 0),eT (kS 6)]) (τ1:=τ0) rfl rfl (W9 (Cn _)))
 obtain⟨n,hh,x,y,s,d⟩:=r
 unfold FL
 cases d with
 |plate w0 h0 a b=>exact DZ (o:=.inl (.rt _ _)) ((Hf (τ':=τ0) c).trans rfl) rfl rfl
 |window w0 h0 a b=>exact DZ (o:=.inl (.rt _ _)) ((Hf (τ':=τ0) c).trans rfl) rfl rfl
 |_=>exact DZ (Lp (τ':=τ0) c) rfl rfl
def ouC:Option (PyData×Option Rz)->PyData ⊕ Nat
 |some p=>.inl p.1
 |none=>.inr 7
theorem Ym{rs:List Rz}(r:Rz){d:De}(hd:Ln rs d)(h4:4<=wdD d):GC [eZ r,eDe d]=some (ouC (chX r d)):=by
 have h9:wdD d<10:=by cases d with
  |nm i n=>show i<10;rcases hd with h|h|h|h|h<;>omega
  |put _=>show 0<10;decide
  |mv _ _ _=>show 4<10;decide
  |tn _ _=>show 5<10;decide
  |sz _ _ _=>show 6<10;decide
  |ch _ _=>show 7<10;decide
 let τ0:DS:=[some (.d (eZ r)),some (.d (eDe d)),none]
 let τ:DS:=[some (.d (eZ r)),some (.d (eDe d)),some (.d (eT (wS (wdD d))))]
 have z0:AL (dOp AJ (AB 1) (dC (.int 0))) (dN 2) τ0=some (.nx τ):=by cases d<;>rfl
 have sk:∀j,j<10->wdD d≠j->∀(a:DB) (r:DBX),BE (xOf (AQ (AE (dOp fEq (AB 2) (dC (eT (wS j))))) a AO)) r τ=r τ:=fun j hj hn a r=>Dw (skw (v:=2) h9 hj hn rfl)
 have sx:∀j,j<10->wdD d≠j->∀(a:DBX) (r:DBX),BE (xIf (AE (dOp fEq (AB 2) (dC (eT (wS j))))) a (xOf AO)) r τ=r τ:=fun j hj hn a r=>Hf (τ':=τ) (tst (op2 (x:=eT (wS (wdD d))) (y:=eT (wS j)) (τ1:=τ) rfl rfl ((wq h9 hj).trans (by rw[decide_eq_false hn]))))
 have tx:∀j,wdD d=j->∀(a b:DBX),xIf (AE (dOp fEq (AB 2) (dC (eT (wS j))))) a b τ=a τ:=fun j e a b=>Wl (τ':=τ) (tst (op2 (x:=eT (wS (wdD d))) (y:=eT (wS j)) (τ1:=τ) rfl rfl (by rw[<- e,wq h9 h9,decide_eq_true rfl])))
 unfold GC
 cases d with
 |put q=>exact absurd h4 (show ¬4<=0 by decide)
 |mv n x y=>exact DZ (o:=.inl (.rt (eZ { r with x:=x,y:=y }) τ)) ((Dw z0).trans ((QG (τ':=τ) ((tkw (v:=2) (i:=4) rfl).trans rfl)))) rfl rfl
 |tn n k =>
  refine(DZ ((Dw z0).trans ((sk 4 (by decide) (show 5≠4 by decide) _ _).trans (SA ((tx 5 rfl _ _).trans (xrc (τ1:=τ) (rs:=[.d (eZ r),.d (.int k)]) (ds:=[eZ r,.int k]) rfl rfl (SU r k)))))) rfl (V0 _)).trans ?_
  dsimp only[chX]
  cases r.d<;>rfl
 |sz n w g =>
  refine(DZ ((Dw z0).trans ((sk 4 (by decide) (show 6≠4 by decide) _ _).trans ((sx 5 (by decide) (show 6≠5 by decide) _ _).trans (SA ((tx 6 rfl _ _).trans (xrc (τ1:=τ) (rs:=[.d (eZ r),.d (.int w),.d (.int g)]) (ds:=[eZ r,.int w,.int g]) rfl rfl (U7 r w g))))))) rfl (V0 _)).trans ?_
  dsimp only[chX]
  cases r.d<;>rfl
 |ch n c=>exact DZ (o:=.inl (.rt (eX r.n r.h r.x r.y r.s (kz r.d) (eD c)) τ)) ((Dw z0).trans ((sk 4 (by decide) (show 7≠4 by decide) _ _).trans ((sx 5 (by decide) (show 7≠5 by decide) _ _).trans ((sx 6 (by decide) (show 7≠6 by decide) _ _).trans (QG (τ':=τ) ((tkw (v:=2) (i:=7) rfl).trans rfl)))))) rfl rfl
 |nm i n =>
  have hi:i=8\/i=9:=by have:4<=i:=h4;rcases hd with h|h|h|h|h<;>omega
  refine DZ (o:=.inl (.rt (eZ { r with s:=decide (i=9) }) τ)) ((Dw z0).trans ((sk 4 (by decide) (by show i≠4;omega) _ _).trans ((sx 5 (by decide) (by show i≠5;omega) _ _).trans ((sx 6 (by decide) (by show i≠6;omega) _ _).trans ((sk 7 (by decide) (by show i≠7;omega) _ _).trans ?_))))) rfl rfl
  have cs:dOp fEq (AB 2) (dC (.str "show")) τ=some (.bool (decide (i=9)),τ):=op2 (x:=eT (wS i)) (y:=eT (wS 9)) (τ1:=τ) rfl rfl (wq h9 (by decide))
  unfold xOf
  rw[Ae (AI (G:=D1) (τ1:=τ) (rs:=[.d (eZ r),.d (.bool (decide (i=9)))]) (ds:=[eZ r,.bool (decide (i=9))]) (ls:=[.d (eZ r),.d (.bool (decide (i=9)))]) (r:=eZ { r with s:=decide (i=9) }) (acc (τ1:=τ) rfl (acc cs rfl)) rfl rfl)];rfl
def res(rs:List Rz)(d:De):List Rz ⊕ Nat:=match d with
 |.put r=>match stp rs r with
  |some n=>.inr n
  |none=>if rs.length<24 then .inl (rs++[r]) else .inr 5
 |d=>match Ao rs (nmD d) with
  |none=>.inr 6
  |some r=>match wdD d with
   |1=>.inl (woZ rs (nmD d))
   |2=>.inl (Ge rs (nmD d))
   |3=>.inl (Hi rs (nmD d) r.h)
   |_=>match chX r d with
    |none=>.inr 7
    |some (_,none)=>.inr 0
    |some (_,some r')=>.inl (Hg rs (nmD d) r')
def cE:List Rz ⊕ Nat->PyData ⊕ Nat
 |.inl l=>.inl (.list (l.map eZ))
 |.inr n=>.inr n
theorem Xf{rs:List Rz}(hl:rs.length<=30){n:Tx}{X W:PyData}{c:Rz}(hX:X=eZ c)(hW:AJ W (.int 1)=some (eT n)):dLC 1 [2,1] (dIL (AB 0)) (dN 0) Bp (dIf (AE (dOp fEq (AF Ag (AA (AB 0) AD)) (dOp AJ (AB 2) (dC (.int 1))))) (AB 1) (AB 0)) [some (.d (.list (rs.map eZ))),some (.d W),some (.d X)]=some (.list ((Hg rs n c).map eZ),[some (.d (.list (rs.map eZ))),some (.d W),some (.d X)]):=by
 subst hX
 let τ:DS:=[some (.d (.list (rs.map eZ))),some (.d W),some (.d (eZ c))]
 have := lcg (enc := eZ) (rs := rs) (τ := τ) (fr := [2, 1]) (it := dIL (AB 0)) (ex := [some (.d (eZ c)), some (.d W)]) (c := Bp) (e := dIf (AE (dOp fEq (AF Ag (AA (AB 0) AD)) (dOp AJ (AB 2) (dC (.int 1))))) (AB 1) (AB 0)) (fun _ => true) (fun q => eZ (if q.n = n then c else q)) rfl (by omega) rfl rfl (fun _ _ => rfl) (fun q _ _ => by
  let t:DS:=[some (.d (eZ q)),some (.d (eZ c)),some (.d W)]
  have c:AE (dOp fEq (AF Ag (AA (AB 0) AD)) (dOp AJ (AB 2) (dC (.int 1)))) t=some (decide (q.n=n),t):=tst (op2 (x:=eT q.n) (y:=eT n) (τ1:=t) (AI (τ1:=t) (ds:=[eZ q]) rfl rfl (ES q)) (op2 (x:=W) (y:=.int 1) (τ1:=t) rfl rfl hW) (Gg _ _))
  show dIf _ (AB 1) (AB 0) t=_
  unfold dIf
  rw[c]
  by_cases h:q.n=n
  ·rw[decide_eq_true h,if_pos h];rfl
  ·rw[decide_eq_false h,if_neg h];rfl)
 refine this.trans ?_
 rw[Cs]
 unfold Hg
 rw[List.map_map];rfl
theorem Yl{d:De}(h:1<=wdD d):AJ (eDe d) (.int 1)=some (eT (nmD d)):=by
 cases d with
 |put r=>exact absurd h (show ¬1<=0 by decide)
 |_=>exact dd1
theorem SM{rs:List Rz}{d:De}(hd:Ln rs d):wdD d<10:=by
 cases d with
 |nm i n=>show i<10;rcases hd with h|h|h|h|h<;>omega
 |put _=>show 0<10;decide
 |mv _ _ _=>show 4<10;decide
 |tn _ _=>show 5<10;decide
 |sz _ _ _=>show 6<10;decide
 |ch _ _=>show 7<10;decide
theorem cF{rs:List Rz}{d:De}(hd:Ln rs d):AJ (eDe d) (.int 0)=some (eT (wS (wdD d))):=by
 cases d<;>first|exact dd0|rfl
def chR(rs:List Rz)(n:Tx):Option (PyData×Option Rz)->PyData ⊕ Nat
 |none=>.inr 7
 |some (_,none)=>.inr 0
 |some (_,some r')=>.inl (.list ((Hg rs n r').map eZ))
theorem Rv{rs:List Rz}(I:Iv rs){r:Rz}{d:De}(hr:r∈rs)(hn:nmD d=r.n)(hd:Ln rs d)(h4:4<=wdD d)(hh:r.h=t0\/OkN r.h):Dh [.list (rs.map eZ),eDe d]=some (chR rs r.n (chX r d)):=by
 have okr:=OkR.all I.ok r (List.mem_reverse.mpr hr)
 let D:PyData:=.list (rs.map eZ)
 let W:=eDe d
 obtain⟨l1,e1⟩:=Fn I.ok hr
 have e2:=Ym r hd h4
 have w1:AJ W (.int 1)=some (eT r.n):=by rw[<- hn];exact Yl (by omega)
 let t0':DS:=[some (.d D),some (.d W),none]
 have a1:dOp AJ (AB 1) (dC (.int 1)) t0'=some (eT r.n,t0'):=op2 (x:=W) (y:=.int 1) (τ1:=t0') rfl rfl w1
 have aa:AA (AF DK (AA (AB 0) (AA (dOp AJ (AB 1) (dC (.int 1))) AD))) (AA (AB 1) AD) t0'=some ([.d (eZ r),.d W],t0'):=acc (τ1:=t0') (AI (τ1:=t0') (rs:=[.d D,.d (eT r.n)]) (ds:=[D,eT r.n]) (acc (τ1:=t0') rfl (acc a1 rfl)) rfl e1) rfl
 unfold Dh
 cases hc:chX r d with
 |none =>
  rw[hc]at e2
  exact DZ (QF (XU aa (ds:=[eZ r,W]) rfl e2)) rfl rfl
 |some p =>
  obtain⟨X,v⟩:=p
  have ck:=P9 hr okr hh hd hn hc
  rw[hc]at e2
  let τ:DS:=[some (.d D),some (.d W),some (.d X)]
  obtain⟨l3,e3⟩:=ck.row
  have c2:=DU (tst (AI (G:=BI) (a:=AA (AB 2) AD) (τ:=τ) (τ1:=τ) (rs:=[.d X]) (ds:=[X]) rfl rfl e3))
  have z1:=XT (i:=2) (τ2:=τ) aa (ds:=[eZ r,W]) rfl e2 rfl
  cases v with
  |none=>exact DZ ((QE z1).trans (Lp (τ':=τ) c2)) rfl rfl
  |some r' =>
   obtain⟨hX,_⟩:=ck.val r' rfl
   refine DZ (o:=.inl (.rt (.list ((Hg rs r.n r').map eZ)) τ)) ((QE z1).trans ((Hf (τ':=τ) c2).trans ?_)) rfl rfl
   unfold xOf
   rw[Ae (Xf (by have:=I.ln;omega) hX w1)];rfl
theorem aX{rs:List Rz}(I:Iv rs){r:Rz}(okl:OkL r):Et [.list (rs.map eZ),eZ r]=some (cE (res rs (.put r))):=by
 have hl:=I.ln
 let D:PyData:=.list (rs.map eZ)
 let B:PyData:=.list ((rs++[r]).map eZ)
 have hall:∀q∈rs++[r],OkL q:=fun q hq=>by
  rcases List.mem_append.mp hq with h|h
  ·refine OkL.of (OkR.all I.ok q (List.mem_reverse.mpr h)) ?_
   rcases ON I.ok h with z|⟨p,hp,z⟩
   ·exact .inl z
   ·exact .inr (by rw[<- z];exact(OkR.all I.ok p (List.mem_reverse.mpr hp)).nm)
  ·rw[List.mem_singleton.mp h];exact okl
 have ev:=aF hall (by rw[List.length_append];show rs.length+1<=40;omega)
 have ga:Wi (rs++[r])=match stp rs r with|some n=>some n|none=>if rs.length<24 then none else some 5:=by
  unfold Wi
  rw[Qu,UB rs [] rfl I.ok I.vt]
  dsimp only
  rw[List.nil_append,goF]
  cases stp rs r with
  |some n=>rfl
  |none =>
   show(match (none:Option Nat) with|some n=>some n|none=>_)=_
   dsimp only
   rw[List.length_append]
   by_cases h:rs.length<24
   ·rw[if_pos h,if_neg (by show ¬24<rs.length+1;omega)]
   ·rw[if_neg h,if_pos (by show 24<rs.length+1;omega)]
 let t0':DS:=[some (.d D),some (.d (eZ r)),none]
 let τ:DS:=[some (.d D),some (.d (eZ r)),some (.d B)]
 have z1:AL (dOp Ea (AB 0) (Bs (AA (AB 1) AD))) (dN 2) t0'=some (.nx τ):=AV (d:=B) (τ1:=t0') (op2 (x:=D) (y:=.list [eZ r]) (τ1:=t0') rfl rfl ((Le (by rw[List.length_map];show rs.length+1<=1000;omega)).trans (by rw[<- List.map_singleton,<- List.map_append]))) rfl
 have z2:=dcx (G:=LN) (a:=AA (AB 2) AD) (τ:=τ) (τ1:=τ) (rs:=[.d B]) (ds:=[B]) rfl rfl ev
 unfold Et res
 dsimp only
 rw[ga]at z2
 cases hs:stp rs r with
 |some n =>
  rw[hs]at z2
  exact DZ ((Dw z1).trans (QF z2)) rfl rfl
 |none =>
  rw[hs]at z2
  dsimp only at z2 ⊢
  by_cases h:rs.length<24
  ·rw[if_pos h]at z2 ⊢
   exact DZ (o:=.inl (.rt B τ)) ((Dw z1).trans ((QE z2).trans rfl)) rfl rfl
  ·rw[if_neg h]at z2 ⊢
   exact DZ ((Dw z1).trans (QF z2)) rfl rfl
theorem Yo{rs:List Rz}(I:Iv rs){d:De}(hd:Ln rs d):Bw [.list (rs.map eZ),eDe d]=some (cE (res rs d)):=by
 have hl:=I.ln
 have hlt:=SM hd
 let D:PyData:=.list (rs.map eZ)
 let W:=eDe d
 let t0':DS:=[some (.d D),some (.d W),none]
 let τ:DS:=[some (.d D),some (.d W),some (.d (eT (wS (wdD d))))]
 have z0:AL (dOp AJ (AB 1) (dC (.int 0))) (dN 2) t0'=some (.nx τ):=AV (d:=eT (wS (wdD d))) (τ1:=t0') (op2 (x:=W) (y:=.int 0) (τ1:=t0') rfl rfl (cF hd)) rfl
 have sk:∀j,j<10->wdD d≠j->∀(a:DB) (r:DBX),BE (xOf (AQ (AE (dOp fEq (AB 2) (dC (eT (wS j))))) a AO)) r τ=r τ:=fun j hj hn a r=>Dw (skw (v:=2) hlt hj hn rfl)
 have tk:∀j,wdD d=j->∀{a:DB} {r:DBX} {X:PyData},a τ=some (.rt X τ)->BE (xOf (AQ (AE (dOp fEq (AB 2) (dC (eT (wS j))))) a AO)) r τ=some (.inl (.rt X τ)):=fun j e {a r X} ha=>QG ((tkw (v:=2) (i:=j) (by rw[<- e];rfl)).trans ha)
 have cq:∀j,j<10->AE (dOp fEq (AB 2) (dC (eT (wS j)))) τ=some (decide (wdD d=j),τ):=fun j hj=>tst (op2 (x:=eT (wS (wdD d))) (y:=eT (wS j)) (τ1:=τ) rfl rfl (wq hlt hj))
 by_cases hp:wdD d=0
 ·cases d with
  |put r =>
   refine DZ ((Dw z0).trans (SA ((Wl (τ':=τ) (cq 0 (by decide))).trans (xrc (τ1:=τ) (rs:=[.d D,.d (eZ r)]) (ds:=[D,eZ r]) rfl rfl (aX I hd))))) rfl (V0 _)
  |nm i n=>rcases hd with h|h|h|h|h<;>(rw[show wdD (.nm i n)=i from rfl]at hp;omega)
  |mv _ _ _=>exact absurd hp (show 4≠0 by decide)
  |tn _ _=>exact absurd hp (show 5≠0 by decide)
  |sz _ _ _=>exact absurd hp (show 6≠0 by decide)
  |ch _ _=>exact absurd hp (show 7≠0 by decide)
 have w1:AJ W (.int 1)=some (eT (nmD d)):=Yl (by omega)
 have a1:AA (AB 0) (AA (dOp AJ (AB 1) (dC (.int 1))) AD) τ=some ([.d D,.d (eT (nmD d))],τ):=acc (τ1:=τ) rfl (acc (op2 (x:=W) (y:=.int 1) (τ1:=τ) rfl rfl w1) rfl)
 have c0:=cq 0 (by decide)
 rw[decide_eq_false hp]at c0
 have z1:=dcx (G:=Em) a1 (ds:=[D,eT (nmD d)]) rfl (Sq (rs:=rs) (nmD d))
 have hres:res rs d=match Ao rs (nmD d) with
  |none=>.inr 6
  |some r=>match wdD d with
   |1=>.inl (woZ rs (nmD d))
   |2=>.inl (Ge rs (nmD d))
   |3=>.inl (Hi rs (nmD d) r.h)
   |_=>match chX r d with
    |none=>.inr 7
    |some (_,none)=>.inr 0
    |some (_,some r')=>.inl (Hg rs (nmD d) r'):=by
  cases d with
  |put r=>exact absurd rfl hp
  |_=>rfl
 rw[hres]
 unfold Bw
 cases hf:Ao rs (nmD d) with
 |none =>
  rw[hf]at z1
  exact DZ ((Dw z0).trans ((Hf (τ':=τ) c0).trans (QF z1))) rfl rfl
 |some r =>
  rw[hf]at z1
  obtain⟨hr,hn⟩:=Hc hf
  have pre:∀{A0:DBX} {o:F7} {v:PyData ⊕ Nat},A0 τ=some o->enX o=some v->EW 2 1 (BE (xOf (AL (dOp AJ (AB 1) (dC (.int 0))) (dN 2))) (BE (xIf (AE (dOp fEq (AB 2) (dC (.str "put")))) (Ho Et (AA (AB 0) (AA (dOp AJ (AB 1) (dC (.int 1))) AD))) (xOf AO)) (BE (E5 Em (AA (AB 0) (AA (dOp AJ (AB 1) (dC (.int 1))) AD))) A0))) [D,W]=some v:=fun {A0 o v} k kv=>DZ ((Dw z0).trans ((Hf (τ':=τ) c0).trans ((QE z1).trans k))) rfl kv
  have hl':rs.length<=30:=by omega
  have hh:r.h=t0\/OkN r.h:=(ON I.ok hr).imp id fun⟨p,hp,z⟩=>by rw[<- z];exact(OkR.all I.ok p (List.mem_reverse.mpr hp)).nm
  by_cases h1:wdD d=1
  ·rw[h1]
   obtain⟨l,e⟩:=Hv I.ok hl' (nmD d)
   exact pre (tk 1 h1 (Ae (AI a1 (ds:=[D,eT (nmD d)]) rfl e))) rfl
  by_cases h2:wdD d=2
  ·rw[h2]
   obtain⟨l,e⟩:=RI I.ok hl' (nmD d)
   exact pre ((sk 1 (by decide) h1 _ _).trans (tk 2 h2 (Ae (AI a1 (ds:=[D,eT (nmD d)]) rfl e)))) rfl
  by_cases h3:wdD d=3
  ·rw[h3]
   obtain⟨l,e⟩:=U1 I.ok hl' hr
   rw[hn]at e
   exact pre ((sk 1 (by decide) h1 _ _).trans ((sk 2 (by decide) h2 _ _).trans (tk 3 h3 (Ae (AI a1 (ds:=[D,eT (nmD d)]) rfl e))))) rfl
  have e:=Rv I hr hn.symm hd (by omega) hh
  refine(pre ((sk 1 (by decide) h1 _ _).trans ((sk 2 (by decide) h2 _ _).trans ((sk 3 (by decide) h3 _ _).trans (xrc (τ1:=τ) (rs:=[.d D,.d W]) (ds:=[D,W]) rfl rfl e)))) (V0 _)).trans ?_
  have:∀(k:Nat) (A B C E:List Rz ⊕ Nat),k≠1->k≠2->k≠3->(match k with|1=>A|2=>B|3=>C|_=>E)=E:=fun k A B C E h1 h2 h3=>by
   match k,h1,h2,h3 with
   |0,_,_,_=>rfl
   |1,h,_,_=>exact absurd rfl h
   |2,_,h,_=>exact absurd rfl h
   |3,_,_,h=>exact absurd rfl h
   |k+4,_,_,_=>rfl
  dsimp only
  rw[this _ _ _ _ _ h1 h2 h3,hn]
  cases chX r d with
  |none=>rfl
  |some p=>obtain⟨X,v⟩:=p;cases v<;>rfl
def ME:List Rz ⊕ Nat->PyData
 |.inl l=>.tuple [.str "",.list (l.map eZ)]
 |.inr n=>.tuple [.str (whS n),.none]
theorem HV(rs:List Rz)(a:Tx):∃ls,BA [.d (.list (rs.map eZ)),.d (eT a)]=some (oZ (Ao rs a),ls):=by
 let R:Option L:=some (.d (.list (rs.map eZ)))
 let A:Option L:=some (.d (eT a))
 let B:DB:=AQ (AE (dOp fEq (dOp AJ (AB 2) (dC (.int 0))) (AB 1))) (AN (AB 2)) AO
 have tt:∀r:Rz,AE (dOp fEq (dOp AJ (AB 2) (dC (.int 0))) (AB 1)) [R,A,some (.d (eZ r))]=some (decide (r.n=a),[R,A,some (.d (eZ r))]):=fun r =>
  tst (op2 (x:=eT r.n) (y:=eT a) (τ1:=[R,A,some (.d (eZ r))]) rfl rfl (Gg _ _))
 have lp:∀(xs:List Rz) (o:Option L),nM o->(∀r,Ao xs a=some r->BO (dN 2) B (xs.map eZ) [R,A,o]=some (.rt (eZ r) [R,A,some (.d (eZ r))]))/\(Ao xs a=none->∃o',BO (dN 2) B (xs.map eZ) [R,A,o]=some (.nx [R,A,o'])):=by
  intro xs
  induction xs with
  |nil=>exact fun o ho=>⟨fun r h=>(by cases h),fun _=>⟨o,rfl⟩⟩
  |cons x xs ih =>
   intro o ho
   have e0:dN 2 (eZ x) [R,A,o]=some [R,A,some (.d (eZ x))]:=CD (o:=o) rfl ho
   have un:BO (dN 2) B ((x::xs).map eZ) [R,A,o]=(B [R,A,some (.d (eZ x))]).bind fun o=>match o with
     |.nx τ2=>BO (dN 2) B (xs.map eZ) τ2
     |.ct τ2=>BO (dN 2) B (xs.map eZ) τ2
     |.bk τ2=>some (.nx τ2)
     |.rt d τ2=>some (.rt d τ2):=by
    rw[List.map_cons,BO,e0];rfl
   by_cases h:x.n=a
   ·have eb:B [R,A,some (.d (eZ x))]=some (.rt (eZ x) [R,A,some (.d (eZ x))]):=(BK (τ1:=[R,A,some (.d (eZ x))]) (by rw[tt,decide_eq_true h])).trans rfl
    have ef:Ao (x::xs) a=some x:=by unfold Ao;rw[List.find?_cons,decide_eq_true h]
    refine⟨fun r hr=>?_,fun hn=>?_⟩
    ·rw[ef]at hr;cases hr
     rw[un,eb];rfl
    ·rw[ef]at hn;cases hn
   ·have eb:B [R,A,some (.d (eZ x))]=some (.nx [R,A,some (.d (eZ x))]):=(Ah (τ1:=[R,A,some (.d (eZ x))]) (by rw[tt,decide_eq_false h])).trans rfl
    have ef:Ao (x::xs) a=Ao xs a:=by unfold Ao;rw[List.find?_cons,decide_eq_false h]
    obtain⟨i1,i2⟩:=ih (some (.d (eZ x))) Cv
    rw[un,eb,ef]
    exact⟨i1,i2⟩
 obtain⟨l1,l2⟩:=lp rs none BB
 refine⟨[.d (.list (rs.map eZ)),.d (eT a)],?_⟩
 unfold BA
 cases h:Ao rs a with
 |some r=>exact AR (τ:=[R,A,some (.d (eZ r))]) (A7 ((C6 (ds:=rs.map eZ) (τ1:=[R,A,none]) rfl).trans (l1 r h))) rfl rfl
 |none =>
  obtain⟨o',e⟩:=l2 h
  exact AR (τ:=[R,A,o']) ((AH ((C6 (ds:=rs.map eZ) (τ1:=[R,A,none]) rfl).trans e)).trans rfl) rfl rfl
def wX(rs:List Rz)(n:Tx):Option Rz->List Rz ⊕ Nat
 |some r'=>.inl (Hg rs n r')
 |none=>.inr 0
theorem Xa{rs:List Rz}(hl:rs.length<=30){r:Rz}{X:PyData}{v:Option Rz}(ck:Z9 r X v):∃ls,Dl [.d (.list (rs.map eZ)),.d X]=some (ME (wX rs r.n v),ls):=by
 obtain⟨l3,e3⟩:=ck.row
 let τ:DS:=[some (.d (.list (rs.map eZ))),some (.d X)]
 have c:=DU (tst (AI (G:=BI) (a:=AA (AB 1) AD) (τ:=τ) (τ1:=τ) (rs:=[.d X]) (ds:=[X]) rfl rfl e3))
 refine⟨[.d (.list (rs.map eZ)),.d X],?_⟩
 unfold Dl
 cases v with
 |none=>exact AR (τ:=τ) (A7 ((BK (τ1:=τ) c).trans rfl)) rfl rfl
 |some r' =>
  obtain⟨hX,_,hn,_⟩:=ck.val r' rfl
  refine AR (τ:=τ) ((AH (τ1:=τ) ((Ah (τ1:=τ) c).trans rfl)).trans (Ae ?_)) rfl rfl
  have := lcg (enc := eZ) (rs := rs) (τ := τ) (fr := [1]) (it := dIL (AB 0)) (ex := [some (.d X)]) (c := Bp) (e := dOp Co (Bs (AA (AB 0) (AA (AB 1) AD))) (AY Dt (AA (dOp fEq (dOp AJ (AB 0) (dC (.int 0))) (dOp AJ (AB 1) (dC (.int 0)))) AD))) (fun _ => true) (fun q => eZ (if q.n = r.n then r' else q)) rfl (by omega) rfl rfl (fun _ _ => rfl) (fun q _ _ => by
   let t:DS:=[some (.d (eZ q)),some (.d X)]
   have e1:dOp fEq (dOp AJ (AB 0) (dC (.int 0))) (dOp AJ (AB 1) (dC (.int 0))) t=some (.bool (decide (q.n=r.n)),t):=op2 (x:=eT q.n) (y:=eT r.n) (τ1:=t) rfl (op2 (x:=X) (y:=.int 0) (τ1:=t) rfl rfl ck.nam) (Gg _ _)
   by_cases h:q.n=r.n
   ·rw[decide_eq_true h]at e1
    rw[if_pos h]
    exact op2 (x:=.list [eZ q,X]) (y:=.int 1) (τ1:=t) rfl (EF e1 rfl) (by rw[hX];rfl)
   ·rw[decide_eq_false h]at e1
    rw[if_neg h]
    exact op2 (x:=.list [eZ q,X]) (y:=.int 0) (τ1:=t) rfl (EF e1 rfl) rfl)
  have h2:dLC 1 [1] (dIL (AB 0)) (dN 0) Bp (dOp Co (Bs (AA (AB 0) (AA (AB 1) AD))) (AY Dt (AA (dOp fEq (dOp AJ (AB 0) (dC (.int 0))) (dOp AJ (AB 1) (dC (.int 0)))) AD))) τ=some (.list ((Hg rs r.n r').map eZ),τ):=by
   refine this.trans ?_
   rw[Cs]
   unfold Hg
   rw[List.map_map];rfl
  exact Gh (rs:=[.d (.str ""),.d (.list ((Hg rs r.n r').map eZ))]) (acc (τ1:=τ) rfl (acc h2 rfl)) rfl (show 2<=1000 by decide)
theorem Uy{rs:List Rz}(ok:OkZ rs)(h:Tx):tls rs h=!(rs.filter fun q=>decide (q.n∈hsR rs.reverse h)&&decide (kz q.d=8)).isEmpty:=by
 rw[Bool.eq_iff_iff,Bool.not_eq_true',List.isEmpty_eq_false_iff_exists_mem]
 unfold tls
 rw[List.any_eq_true]
 constructor
 ·rintro⟨t,ht,z⟩
  obtain⟨p,hp,rfl⟩:=Df ht
  have hp':=List.mem_reverse.mp hp
  rw[CY ok hp']at z
  exact⟨p,List.mem_filter.mpr ⟨hp',by rw[decide_eq_true ht];exact z⟩⟩
 ·rintro⟨q,hq⟩
  obtain⟨h1,h2⟩:=List.mem_filter.mp hq
  rw[Bool.and_eq_true]at h2
  exact⟨q.n,of_decide_eq_true h2.1,by rw[CY ok h1];exact h2.2⟩
theorem To(l:List Rz):fNe (.list (l.map eZ)) (.list [])=some (.bool (!l.isEmpty)):=by
 cases l with
 |nil=>rfl
 |cons a l=>exact(encZ.fNeL (a::l) []).trans rfl
theorem aY{rs:List Rz}(I:Iv rs){r:Rz}(okl:OkL r):∃ls,HX [.d (.list (rs.map eZ)),.d (eZ r)]=some (ME (res rs (.put r)),ls):=by
 have hl:=I.ln
 let D:PyData:=.list (rs.map eZ)
 let B:PyData:=.list ((rs++[r]).map eZ)
 let st:Option L->Option L->Option L->DS:=fun a b c=>[some (.d D),some (.d (eZ r)),a,b,c]
 let τ0:=st none none none
 obtain⟨lr,er⟩:=bL okl
 have c1:=DU (tst (AI (G:=BI) (a:=AA (AB 1) AD) (τ:=τ0) (τ1:=τ0) (rs:=[.d (eZ r)]) (ds:=[eZ r]) rfl rfl er))
 refine⟨[.d D,.d (eZ r)],?_⟩
 unfold HX res
 dsimp only
 unfold stp
 by_cases hy:r.y<=60
 case neg =>
  rw[decide_eq_false hy]at c1
  rw[if_neg hy]
  exact AR (τ:=τ0) (A7 ((BK (τ1:=τ0) c1).trans rfl)) rfl rfl
 rw[decide_eq_true hy]at c1
 rw[if_pos hy]
 obtain⟨l2,e2⟩:=HV rs r.n
 have c2:AE (dOp Bz (AF BA (AA (AB 0) (AA (dOp AJ (AB 1) (dC (.int 0))) AD))) (dC .none)) τ0=some ((Ao rs r.n).isSome,τ0) :=
  tst (op2 (x:=oZ (Ao rs r.n)) (y:=.none) (τ1:=τ0) (AI (τ1:=τ0) (rs:=[.d D,.d (eT r.n)]) (ds:=[D,eT r.n]) rfl rfl e2) rfl (by cases Ao rs r.n<;>rfl))
 by_cases h1:(Ao rs r.n).isSome=true
 case pos =>
  rw[h1]at c2
  rw[if_pos h1]
  exact AR (τ:=τ0) ((AH (τ1:=τ0) ((Ah (τ1:=τ0) c1).trans rfl)).trans (A7 ((BK (τ1:=τ0) c2).trans rfl))) rfl rfl
 rw[if_neg h1]
 rw[Bool.not_eq_true]at h1
 rw[h1]at c2
 obtain⟨l3,e3⟩:=HV rs r.h
 let τ1:=st (some (.d (oZ (Ao rs r.h)))) none none
 have z3:AL (AF BA (AA (AB 0) (AA (dOp AJ (AB 1) (dC (.int 1))) AD))) (dN 2) τ0=some (.nx τ1):=AV (d:=oZ (Ao rs r.h)) (τ1:=τ0) (AI (τ1:=τ0) (rs:=[.d D,.d (eT r.h)]) (ds:=[D,eT r.h]) rfl rfl e3) rfl
 have c4:BZ (Ad (AE (dOp ED (AB 2) (dC .none))) (AE (dOp fNe (dOp AJ (AB 1) (dC (.int 1))) (dC (.str ""))))) (Ad (AE (dOp Bz (AB 2) (dC .none))) (AE (dOp (fIn true) (dOp AJ (AB 2) (dC (.int 5))) (Cc (AF CV AD) (dPt (dC (.int 6))) Ba)))) τ1=some (match Ao rs r.h with|none=>!decide (r.h=t0)|some q=>!decide (4<=kz q.d),τ1):=by
  show BZ _ _ (st (some (.d (oZ (Ao rs r.h)))) none none)=some (_,st (some (.d (oZ (Ao rs r.h)))) none none)
  cases Ao rs r.h with
  |none =>
   let t:=st (some (.d .none)) none none
   have a:Ad (AE (dOp ED (AB 2) (dC .none))) (AE (dOp fNe (dOp AJ (AB 1) (dC (.int 1))) (dC (.str "")))) t=some (true&&!decide (r.h=t0),t):=F8 rfl (tst (op2 (x:=eT r.h) (y:=eT t0) (τ1:=t) rfl rfl (MC _ _)))
   exact(orB a (q:=false) rfl).trans (by rw[Bool.true_and,Bool.or_false];rfl)
  |some q =>
   let t:=st (some (.d (eZ q))) none none
   have a:Ad (AE (dOp Bz (AB 2) (dC .none))) (AE (dOp (fIn true) (dOp AJ (AB 2) (dC (.int 5))) (Cc (AF CV AD) (dPt (dC (.int 6))) Ba))) t=some (true&&!decide (4<=kz q.d),t):=F8 rfl (tst (op2 (x:=eT (kS (kz q.d))) (y:=.tuple (KH.map eT)) (τ1:=t) rfl rfl ((bO _ _).trans (congrArg (fun b=>some (PyData.bool (!b))) (decide_eq_decide.mpr (NQ (Cn _)))))))
   exact(orB (p:=false) rfl a).trans (by rw[Bool.true_and,Bool.false_or];rfl)
 have pre:∀{A0:DB} {o:Out},A0 τ1=some o->AK (AQ (As (AE (AF BI (AA (AB 1) AD)))) (AN (AW (AA (dC (.str "NoPart")) (AA (dC .none) AD)))) AO) (AK (AQ (AE (dOp Bz (AF BA (AA (AB 0) (AA (dOp AJ (AB 1) (dC (.int 0))) AD))) (dC .none))) (AN (AW (AA (dC (.str "Twice")) (AA (dC .none) AD)))) AO) (AK (AL (AF BA (AA (AB 0) (AA (dOp AJ (AB 1) (dC (.int 1))) AD))) (dN 2)) A0)) τ0=some o:=fun k=>(AH (τ1:=τ0) ((Ah (τ1:=τ0) c1).trans rfl)).trans ((AH (τ1:=τ0) ((Ah (τ1:=τ0) c2).trans rfl)).trans ((AH z3).trans k))
 have bad:∀{c:DT} {n:Nat} {A0:DB} {τ:DS},c τ=some (true,τ)->AK (AQ c (AN (AW (AA (dC (.str (whS n))) (AA (dC .none) AD)))) AO) A0 τ=some (.rt (.tuple [.str (whS n),.none]) τ):=fun h=>A7 ((BK h).trans rfl)
 have good:∀{c:DT} {a A0:DB} {τ:DS},c τ=some (false,τ)->AK (AQ c a AO) A0 τ=A0 τ:=fun {c a A0 τ} h=>AH (τ1:=τ) ((Ah (τ1:=τ) h).trans rfl)
 by_cases hq:r.h=t0\/∃q∈rs,q.n=r.h
 case neg =>
  have hn:Ao rs r.h=none:=Gz fun q hq' e=>hq (.inr ⟨q,hq',e⟩)
  have h0:r.h≠t0:=fun z=>hq (.inl z)
  rw[hn]at c4
  dsimp only at c4
  rw[decide_eq_false h0]at c4
  rw[if_neg h0,hn]
  exact AR (τ:=τ1) (pre (bad (n:=2) c4)) rfl rfl
 obtain⟨l6,e6⟩:=SS I.ok (by omega) hq
 let τ2:=st (some (.d (oZ (Ao rs r.h)))) (some (.d B)) none
 let τ3:=st (some (.d (oZ (Ao rs r.h)))) (some (.d B)) (some (.d (.list ((hsR rs.reverse r.h).map eT))))
 have z5:AL (dOp Ea (AB 0) (Bs (AA (AB 1) AD))) (dN 3) τ1=some (.nx τ2):=AV (d:=B) (τ1:=τ1) (op2 (x:=D) (y:=.list [eZ r]) (τ1:=τ1) rfl rfl ((Le (by rw[List.length_map];show rs.length+1<=1000;omega)).trans (by rw[<- List.map_singleton,<- List.map_append]))) rfl
 have z6:AL (AF Ey (AA (AB 0) (AA (dOp AJ (AB 1) (dC (.int 1))) AD))) (dN 4) τ2=some (.nx τ3):=AV (τ1:=τ2) (AI (τ1:=τ2) (rs:=[.d D,.d (eT r.h)]) (ds:=[D,eT r.h]) rfl rfl e6) rfl
 have hlen:=HZ rs.reverse r.h
 rw[List.length_reverse]at hlen
 have c7:AE (dOp fGt (AY Au (AA (AB 4) AD)) (dC (.int 6))) τ3=some (decide (6<(hsR rs.reverse r.h).length),τ3):=by
  refine tst (op2 (x:=.int ((hsR rs.reverse r.h).length:Nat)) (y:=.int 6) (τ1:=τ3) (EF (d:=.list ((hsR rs.reverse r.h).map eT)) (τ1:=τ3) rfl (by show some (PyData.int (((hsR rs.reverse r.h).map eT).length:Nat))=_;rw[List.length_map])) rfl ?_)
  show some (PyData.bool (decide ((((hsR rs.reverse r.h).length:Nat):Int)>6)))=_
  exact congrArg (fun b=>some (PyData.bool b)) (decide_eq_decide.mpr (by omega))
 have t8:AE (dOp fEq (dOp AJ (AB 1) (dC (.int 5))) (dC (.str "tiles"))) τ3=some (decide (kz r.d=8),τ3):=tst (op2 (x:=eT (kS (kz r.d))) (y:=eT (kS 8)) (τ1:=τ3) rfl rfl (kq (Cn _) (by decide)))
 have c8:Ad (AE (dOp fEq (dOp AJ (AB 1) (dC (.int 5))) (dC (.str "tiles")))) (AE (dOp fNe (dLC 1 [4] (dIL (AB 0)) (dN 0) (Ad (AE (dOp (fIn false) (dOp AJ (AB 0) (dC (.int 0))) (AB 1))) (AE (dOp fEq (dOp AJ (AB 0) (dC (.int 5))) (dC (.str "tiles"))))) (AB 0)) (Bs AD))) τ3=some (decide (kz r.d=8)&&tls rs r.h,τ3):=by
  refine F8 t8 (tst (op2 (x:=.list ((rs.filter fun q=>decide (q.n∈hsR rs.reverse r.h)&&decide (kz q.d=8)).map eZ)) (y:=.list []) (τ1:=τ3) ?_ rfl ((To _).trans (by rw[Uy I.ok]))))
  exact lcg (enc := eZ) (rs := rs) (τ := τ3) (fr := [4]) (it := dIL (AB 0)) (ex := [some (.d (.list ((hsR rs.reverse r.h).map eT)))]) (c := Ad (AE (dOp (fIn false) (dOp AJ (AB 0) (dC (.int 0))) (AB 1))) (AE (dOp fEq (dOp AJ (AB 0) (dC (.int 5))) (dC (.str "tiles"))))) (e := AB 0) (fun q => decide (q.n ∈ hsR rs.reverse r.h) && decide (kz q.d = 8)) eZ rfl (by omega) rfl rfl (fun q _ => by
   let t:DS:=[some (.d (eZ q)),some (.d (.list ((hsR rs.reverse r.h).map eT)))]
   exact F8 (tst (op2 (x:=eT q.n) (y:=.list ((hsR rs.reverse r.h).map eT)) (τ1:=t) rfl rfl (inL _ _))) (tst (op2 (x:=eT (kS (kz q.d))) (y:=eT (kS 8)) (τ1:=t) rfl rfl (kq (Cn _) (by decide))))) (fun q _ _=>rfl)
 have c9:AE (dOp fGt (AY Au (AA (AB 3) AD)) (dC (.int 24))) τ3=some (!decide (rs.length<24),τ3):=by
  refine tst (op2 (x:=.int ((rs.length+1:Nat):Int)) (y:=.int 24) (τ1:=τ3) (EF (d:=B) (τ1:=τ3) rfl (by show some (PyData.int (((rs++[r]).map eZ).length:Nat))=_;rw[List.length_map,List.length_append];rfl)) rfl ?_)
  show some (PyData.bool (decide (((rs.length+1:Nat):Int)>24)))=_
  refine congrArg (fun b=>some (PyData.bool b)) ?_
  rw[<- decide_not]
  exact decide_eq_decide.mpr (by omega)
 have pre2:∀{A0:DB} {o:Out},(match Ao rs r.h with|none=>!decide (r.h=t0)|some q=>!decide (4<=kz q.d))=false->A0 τ3=some o->AK (AQ (As (AE (AF BI (AA (AB 1) AD)))) (AN (AW (AA (dC (.str "NoPart")) (AA (dC .none) AD)))) AO) (AK (AQ (AE (dOp Bz (AF BA (AA (AB 0) (AA (dOp AJ (AB 1) (dC (.int 0))) AD))) (dC .none))) (AN (AW (AA (dC (.str "Twice")) (AA (dC .none) AD)))) AO) (AK (AL (AF BA (AA (AB 0) (AA (dOp AJ (AB 1) (dC (.int 1))) AD))) (dN 2)) (AK (AQ (BZ (Ad (AE (dOp ED (AB 2) (dC .none))) (AE (dOp fNe (dOp AJ (AB 1) (dC (.int 1))) (dC (.str ""))))) (Ad (AE (dOp Bz (AB 2) (dC .none))) (AE (dOp (fIn true) (dOp AJ (AB 2) (dC (.int 5))) (Cc (AF CV AD) (dPt (dC (.int 6))) Ba))))) (AN (AW (AA (dC (.str "NoHolder")) (AA (dC .none) AD)))) AO) (AK (AL (dOp Ea (AB 0) (Bs (AA (AB 1) AD))) (dN 3)) (AK (AL (AF Ey (AA (AB 0) (AA (dOp AJ (AB 1) (dC (.int 1))) AD))) (dN 4)) A0))))) τ0=some o:=fun e k=>pre ((good (by rw[c4,e])).trans ((AH z5).trans ((AH z6).trans k)))
 have fin:∀{k8:Bool},(kz r.d=8->tls rs r.h=true->False)->AK (AQ (Ad (AE (dOp fEq (dOp AJ (AB 1) (dC (.int 5))) (dC (.str "tiles")))) (AE (dOp fNe (dLC 1 [4] (dIL (AB 0)) (dN 0) (Ad (AE (dOp (fIn false) (dOp AJ (AB 0) (dC (.int 0))) (AB 1))) (AE (dOp fEq (dOp AJ (AB 0) (dC (.int 5))) (dC (.str "tiles"))))) (AB 0)) (Bs AD)))) (AN (AW (AA (dC (.str "Nested")) (AA (dC .none) AD)))) AO) (AK (AQ (AE (dOp fGt (AY Au (AA (AB 3) AD)) (dC (.int 24)))) (AN (AW (AA (dC (.str "TooMany")) (AA (dC .none) AD)))) AO) (AN (AW (AA (dC (.str "")) (AA (AB 3) AD))))) τ3=some (.rt (ME (if rs.length<24 then .inl (rs++[r]) else .inr 5)) τ3):=fun {_} h8=>by
  have e8:(decide (kz r.d=8)&&tls rs r.h)=false:=by
   rw[Bool.eq_false_iff]
   intro z
   rw[Bool.and_eq_true]at z
   exact h8 (of_decide_eq_true z.1) z.2
  rw[e8]at c8
  refine(good c8).trans ?_
  by_cases h:rs.length<24
  ·rw[decide_eq_true h]at c9
   rw[if_pos h]
   exact(good c9).trans rfl
  ·rw[decide_eq_false h]at c9
   rw[if_neg h]
   exact bad (n:=5) c9
 by_cases h0:r.h=t0
 ·have hs0:hsR rs.reverse r.h=[]:=by rw[h0];exact EZ I.ok
  rw[if_pos h0]
  have hz:(match Ao rs r.h with|none=>!decide (r.h=t0)|some q=>!decide (4<=kz q.d))=false:=by
   rw[h0,Pz I.ok];rfl
  rw[hs0]at c7
  exact AR (τ:=τ3) (pre2 hz ((good c7).trans (fin (k8:=true) fun _ z=>by unfold tls at z;rw[hs0]at z;cases z))) rfl rfl
 rw[if_neg h0]
 obtain⟨q,hqm,hqn⟩:=hq.resolve_left h0
 have hf:Ao rs r.h=some q:=by rw[<- hqn];exact CY I.ok hqm
 rw[hf]at pre2 c4 ⊢
 dsimp only at pre2 c4 ⊢
 by_cases h4:4<=kz q.d
 case neg =>
  rw[if_neg h4]
  rw[decide_eq_false h4]at c4
  exact AR (τ:=τ1) (pre (bad (n:=2) c4)) rfl rfl
 rw[if_pos h4]
 have hz:(!decide (4<=kz q.d))=false:=by rw[decide_eq_true h4];rfl
 by_cases h6:6<(hsR rs.reverse r.h).length
 ·rw[if_pos h6]
  rw[decide_eq_true h6]at c7
  exact AR (τ:=τ3) (pre2 hz (bad (n:=3) c7)) rfl rfl
 rw[if_neg h6]
 rw[decide_eq_false h6]at c7
 by_cases h8:kz r.d=8/\tls rs r.h=true
 ·rw[if_pos h8]
  rw[decide_eq_true h8.1,h8.2]at c8
  exact AR (τ:=τ3) (pre2 hz ((good c7).trans (bad (n:=4) c8))) rfl rfl
 ·rw[if_neg h8]
  exact AR (τ:=τ3) (pre2 hz ((good c7).trans (fin (k8:=true) fun a b=>h8 ⟨a,b⟩))) rfl rfl
theorem RS{rs:List Rz}(I:Iv rs){r:Rz}(hr:r∈rs){i:Nat}(hi:i=1\/i=2\/i=3):∃ls,FO [.d (.list (rs.map eZ)),.d (dd i r.n [])]=some (.list ((if i=1 then woZ rs r.n else if i=2 then Ge rs r.n else Hi rs r.n r.h).map eZ),ls):=by
 have hl:=I.ln
 have i9:i<10:=by omega
 have wl:=Mp rs r.n
 have il:=PF rs r.n
 let D:PyData:=.list (rs.map eZ)
 let W:PyData:=dd i r.n []
 let NM:PyData:=.list ((r.n::Ip rs r.n).map eT)
 let O:PyData:=.list ((wiZ rs r.n).map eZ)
 let E:PyData:=.list ((woZ rs r.n).map eZ)
 let st:Option L->Option L->Option L->Option L->Option L->DS:=fun a b c d e=>[some (.d D),some (.d W),a,b,c,d,e]
 let τ0:=st none none none none none
 let τ1:=st (some (.d NM)) none none none none
 let τ2:=st (some (.d NM)) (some (.d O)) none none none
 let τ3:=st (some (.d NM)) (some (.d O)) (some (.d E)) none none
 obtain⟨lp,ep⟩:=N6 I.ok (by omega) r.n
 have ilen:=Qs rs r.n
 have z1:AL (dOp Ea (Bs (AA (dOp AJ (AB 1) (dC (.int 1))) AD)) (AF EA (AA (AB 0) (AA (dOp AJ (AB 1) (dC (.int 1))) AD)))) (dN 2) τ0=some (.nx τ1) :=
  AV (d:=NM) (τ1:=τ0) (op2 (x:=.list [eT r.n]) (y:=.list ((Ip rs r.n).map eT)) (τ1:=τ0) rfl (AI (τ1:=τ0) (rs:=[.d D,.d (eT r.n)]) (ds:=[D,eT r.n]) rfl rfl ep) (Le (by rw[List.length_map];simp only[List.length_cons,List.length_nil];omega))) rfl
 have z2:AL (dLC 1 [2] (dIL (AB 0)) (dN 0) (AE (dOp (fIn false) (dOp AJ (AB 0) (dC (.int 0))) (AB 1))) (AB 0)) (dN 3) τ1=some (.nx τ2):=by
  refine AV (d:=O) (τ1:=τ1) ?_ rfl
  exact lcg (enc := eZ) (rs := rs) (τ := τ1) (fr := [2]) (it := dIL (AB 0)) (ex := [some (.d NM)]) (c := AE (dOp (fIn false) (dOp AJ (AB 0) (dC (.int 0))) (AB 1))) (e := AB 0) (inW rs r.n) eZ rfl (by omega) rfl rfl (fun q hq => by
   let t:DS:=[some (.d (eZ q)),some (.d NM)]
   refine tst (op2 (x:=eT q.n) (y:=NM) (τ1:=t) rfl rfl ?_)
   rw[inL,Kb I.ok hq]) (fun q _ _=>rfl)
 have z3:AL (dLC 1 [2] (dIL (AB 0)) (dN 0) (AE (dOp (fIn true) (dOp AJ (AB 0) (dC (.int 0))) (AB 1))) (AB 0)) (dN 4) τ2=some (.nx τ3):=by
  refine AV (d:=E) (τ1:=τ2) ?_ rfl
  exact lcg (enc := eZ) (rs := rs) (τ := τ2) (fr := [2]) (it := dIL (AB 0)) (ex := [some (.d NM)]) (c := AE (dOp (fIn true) (dOp AJ (AB 0) (dC (.int 0))) (AB 1))) (e := AB 0) (fun q => !inW rs r.n q) eZ rfl (by omega) rfl rfl (fun q hq => by
   let t:DS:=[some (.d (eZ q)),some (.d NM)]
   refine tst (op2 (x:=eT q.n) (y:=NM) (τ1:=t) rfl rfl ?_)
   rw[Vr,Kb I.ok hq]) (fun q _ _=>rfl)
 have cw:∀j,j<10->AE (dOp fEq (dOp AJ (AB 1) (dC (.int 0))) (dC (eT (wS j)))) τ3=some (decide (i=j),τ3):=fun j hj=>tst (op2 (x:=eT (wS i)) (y:=eT (wS j)) (τ1:=τ3) rfl rfl (wq i9 hj))
 refine⟨[.d D,.d W],?_⟩
 unfold FO
 have pre:∀{A0:DB} {o:Out},A0 τ3=some o->AK _ (AK _ (AK _ A0)) τ0=some o:=fun k=>(AH z1).trans ((AH z2).trans ((AH z3).trans k))
 have c1:=cw 1 (by decide)
 have c2:=cw 2 (by decide)
 by_cases h1:i=1
 ·rw[decide_eq_true h1]at c1
  rw[if_pos h1]
  exact AR (τ:=τ3) (pre (A7 ((BK (τ1:=τ3) c1).trans rfl))) rfl rfl
 rw[decide_eq_false h1]at c1
 rw[if_neg h1]
 by_cases h2:i=2
 ·rw[decide_eq_true h2]at c2
  rw[if_pos h2]
  refine AR (τ:=τ3) (pre ((AH (τ1:=τ3) ((Ah (τ1:=τ3) c1).trans rfl)).trans (A7 ((BK (τ1:=τ3) c2).trans (Ae (op2 (x:=E) (y:=O) (τ1:=τ3) rfl rfl ?_)))))) rfl rfl
  refine(Le (by rw[List.length_map,List.length_map];omega)).trans ?_
  rw[<- List.map_append];rfl
 rw[decide_eq_false h2]at c2
 rw[if_neg h2]
 obtain⟨la,ea⟩:=HV rs r.n
 rw[CY I.ok hr]at ea
 let su:Nat->DS:=fun k=>st (some (.d NM)) (some (.d O)) (some (.d E)) (some (.d (eT r.h))) (some (.d (.int (k:Int))))
 let τ4:=st (some (.d NM)) (some (.d O)) (some (.d E)) (some (.d (eT r.h))) none
 have z4:AL (dOp AJ (AF BA (AA (AB 0) (AA (dOp AJ (AB 1) (dC (.int 1))) AD))) (dC (.int 1))) (dN 5) τ3=some (.nx τ4):=AV (d:=eT r.h) (τ1:=τ3) (op2 (x:=eZ r) (y:=.int 1) (τ1:=τ3) (AI (τ1:=τ3) (rs:=[.d D,.d (eT r.n)]) (ds:=[D,eT r.n]) rfl rfl ea) rfl rfl) rfl
 have z5:AL (dC (.int 0)) (dN 6) τ4=some (.nx (su 0)):=rfl
 let ws:=woZ rs r.n
 have hp:plc ws r.h<=ws.length:=by
  unfold plc
  split
  ·omega
  ·rename_i h0
   obtain⟨P,q,S,e,_,_,hpl⟩:=HW h0 ((Fz I.ok hr).resolve_left h0)
   unfold plc at hpl
   rw[if_neg h0]at hpl
   rw[hpl]
   show _<=(woZ rs r.n).length
   rw[e,List.length_append,List.length_cons];omega
 have tn:∀k,AE (dOp fNe (AB 5) (dC (.str ""))) (su k)=some (!decide (r.h=t0),su k):=fun k=>tst (op2 (x:=eT r.h) (y:=eT t0) (τ1:=su k) rfl rfl (MC _ _))
 have key:∃k:Nat,Fd (fun _=>100) (Ad (AE (dOp fNe (AB 5) (dC (.str "")))) (AE (dOp fNe (dOp AJ (dOp Co (AB 4) (AB 6)) (dC (.int 0))) (AB 5)))) (AL (dOp Ap (AB 6) (dC (.int 1))) (dN 6)) (su 0)=some (.nx (su k))/\plc ws r.h=k+(if r.h=t0 then 0 else 1):=by
  by_cases h0:r.h=t0
  ·refine⟨0,QI (Uw (n:=99) (τ1:=su 0) ?_),by unfold plc;rw[if_pos h0,if_pos h0]⟩
   have t:=tn 0
   rw[decide_eq_true h0]at t
   unfold Ad
   rw[t];rfl
  ·obtain⟨P,q,S,e,hq,hP,hpl⟩:=HW h0 ((Fz I.ok hr).resolve_left h0)
   refine⟨P.length,?_,by rw[hpl,if_neg h0]⟩
   have hPl:P.length<=24:=by
    have:(woZ rs r.n).length=P.length+(S.length+1):=by rw[e,List.length_append,List.length_cons]
    omega
   have ct:∀(k:Nat) (p:Rz),ws[k]?=some p->Ad (AE (dOp fNe (AB 5) (dC (.str "")))) (AE (dOp fNe (dOp AJ (dOp Co (AB 4) (AB 6)) (dC (.int 0))) (AB 5))) (su k)=some (!decide (p.n=r.h),su k):=fun k p hk=>by
    have t:=tn k
    rw[decide_eq_false h0]at t
    have hlt:k<ws.length:=(List.getElem?_eq_some_iff.mp hk).1
    obtain⟨a,e1,e2⟩:=CB (enc:=eZ) (xs:=ws) (k:=(k:Int)) (by omega) (by omega)
    rw[Int.toNat_natCast,hk]at e2
    cases e2
    exact(F8 t (tst (op2 (x:=eT p.n) (y:=eT r.h) (τ1:=su k) (op2 (x:=eZ p) (y:=.int 0) (τ1:=su k) (op2 (x:=E) (y:=.int (k:Int)) (τ1:=su k) rfl rfl e1) rfl rfl) rfl (MC _ _)))).trans (by rw[show(!false)=true from rfl,Bool.true_and])
   have lp:∀(j k fuel:Nat),k+j=P.length->j<fuel->dWh (Ad (AE (dOp fNe (AB 5) (dC (.str "")))) (AE (dOp fNe (dOp AJ (dOp Co (AB 4) (AB 6)) (dC (.int 0))) (AB 5)))) (AL (dOp Ap (AB 6) (dC (.int 1))) (dN 6)) fuel (su k)=some (.nx (su P.length)):=by
    intro j
    induction j with
    |zero =>
     intro k fuel hk hf
     obtain⟨f,rfl⟩:∃f,fuel=f+1:=⟨fuel-1,by omega⟩
     have:k=P.length:=by omega
     subst this
     refine Uw ((ct P.length q ?_).trans ?_)
     ·show(woZ rs r.n)[P.length]?=some q
      rw[e,List.getElem?_append_right (Nat.le_refl _),Nat.sub_self];rfl
     ·rw[decide_eq_true hq];rfl
    |succ j ih =>
     intro k fuel hk hf
     obtain⟨f,rfl⟩:∃f,fuel=f+1:=⟨fuel-1,by omega⟩
     have hlt:k<P.length:=by omega
     refine(Xb (τ1:=su k) (τ2:=su (k+1)) ((ct k P[k] ?_).trans ?_) ?_).trans (ih (k+1) f (by omega) (by omega))
     ·show(woZ rs r.n)[k]?=some P[k]
      rw[e,List.getElem?_append_left hlt,List.getElem?_eq_getElem hlt]
     ·rw[decide_eq_false (hP _ (List.getElem_mem hlt))];rfl
     ·exact AV (d:=.int ((k+1:Nat):Int)) (τ1:=su k) (op2 (x:=.int (k:Int)) (y:=.int 1) (τ1:=su k) rfl rfl (by show some (PyData.int ((k:Int)+1))=_;rw[Int.natCast_add];rfl)) rfl
   exact QI (lp P.length 0 100 (by omega) (by omega))
 obtain⟨k,zw,hk⟩:=key
 let p:=plc ws r.h
 have z7:AL (dOp Ap (AB 6) (AY Dt (AA (dOp fNe (AB 5) (dC (.str ""))) AD))) (dN 6) (su k)=some (.nx (su p)):=by
  refine AV (d:=.int (p:Int)) (τ1:=su k) (op2 (x:=.int (k:Int)) (y:=.int ((if r.h=t0 then 0 else 1:Nat):Int)) (τ1:=su k) rfl (EF (d:=.bool (!decide (r.h=t0))) (τ1:=su k) (op2 (x:=eT r.h) (y:=eT t0) (τ1:=su k) rfl rfl (MC _ _)) ?_) ?_) rfl
  ·by_cases h0:r.h=t0
   ·rw[decide_eq_true h0,if_pos h0];rfl
   ·rw[decide_eq_false h0,if_neg h0];rfl
  ·show some (PyData.int ((k:Int)+((if r.h=t0 then 0 else 1:Nat):Int)))=some (PyData.int ((plc ws r.h:Nat):Int))
   rw[hk,Int.natCast_add]
 refine AR (τ:=su p) (pre ((AH (τ1:=τ3) ((Ah (τ1:=τ3) c1).trans rfl)).trans ((AH (τ1:=τ3) ((Ah (τ1:=τ3) c2).trans rfl)).trans ((AH z4).trans ((AH z5).trans ((AH zw).trans ((AH z7).trans (Ae ?_)))))))) rfl rfl
 have s1:dSl (AB 4) Ba (dPt (AB 6)) (su p)=some (.list ((ws.take p).map eZ),su p):=by
  show some (PyData.list (JD (ws.map eZ) none (some (p:Int))),su p)=_
  rw[Ke,List.map_take]
 have s2:dSl (AB 4) (dPt (AB 6)) Ba (su p)=some (.list ((ws.drop p).map eZ),su p):=by
  show some (PyData.list (JD (ws.map eZ) (some (p:Int)) none),su p)=_
  rw[O1,List.map_drop]
 have tl:(ws.take p).length<=24:=by rw[List.length_take];have:ws.length<=rs.length:=wl;omega
 have dl':(ws.drop p).length<=24:=by rw[List.length_drop];have:ws.length<=rs.length:=wl;omega
 refine(op2 (x:=.list (((ws.take p).map eZ)++((wiZ rs r.n).map eZ))) (y:=.list ((ws.drop p).map eZ)) (τ1:=su p) (op2 (x:=.list ((ws.take p).map eZ)) (y:=O) (τ1:=su p) s1 rfl (Le (by rw[List.length_map,List.length_map];omega))) s2 (Le (by rw[List.length_append,List.length_map,List.length_map,List.length_map];omega))).trans ?_
 rw[<- List.map_append,<- List.map_append];rfl
theorem US{r:Rz}{d:De}(h:chX r d=none)(h4:4<=wdD d):(wdD d=5/\kz r.d≠7)\/(wdD d=6/\kz r.d≠0/\kz r.d≠6):=by
 cases d with
 |put q=>exact absurd h4 (show ¬4<=0 by decide)
 |tn n k =>
  refine .inl ⟨rfl,fun z=>?_⟩
  obtain⟨q,f,e⟩:=(Km r.d).mp z
  dsimp only[chX]at h
  rw[e]at h;cases h
 |sz n w g =>
  dsimp only[chX]at h
  refine .inr ⟨rfl,?_⟩
  cases e:r.d<;>rw[e]at h<;>first|(cases h;done)|exact⟨by simp[kz],by simp[kz]⟩
 |nm i n=>cases h
 |mv n x y=>cases h
 |ch n c=>cases h
theorem Yp{rs:List Rz}(I:Iv rs){d:De}(hd:Ln rs d):∃ls,Gx [.d (.list (rs.map eZ)),.d (eDe d)]=some (ME (res rs d),ls):=by
 have hl:=I.ln
 have hlt:=SM hd
 let D:PyData:=.list (rs.map eZ)
 let W:=eDe d
 let τ0:DS:=[some (.d D),some (.d W),none]
 have w0:∀o,dOp AJ (AB 1) (dC (.int 0)) [some (.d D),some (.d W),o]=some (eT (wS (wdD d)),[some (.d D),some (.d W),o]):=fun o=>op2 (x:=W) (y:=.int 0) (τ1:=[some (.d D),some (.d W),o]) rfl rfl (cF hd)
 have cq:∀j,j<10->∀o,AE (dOp fEq (dOp AJ (AB 1) (dC (.int 0))) (dC (eT (wS j)))) [some (.d D),some (.d W),o]=some (decide (wdD d=j),[some (.d D),some (.d W),o]):=fun j hj o=>tst (op2 (x:=eT (wS (wdD d))) (y:=eT (wS j)) (w0 o) rfl (wq hlt hj))
 refine⟨[.d D,.d W],?_⟩
 unfold Gx
 have c0:=cq 0 (by decide) none
 by_cases hp:wdD d=0
 ·cases d with
  |put r =>
   obtain⟨l,e⟩:=aY I hd
   exact AR (τ:=τ0) (A7 ((BK (τ1:=τ0) c0).trans (Ae (AI (τ1:=τ0) (rs:=[.d D,.d (eZ r)]) (ds:=[D,eZ r]) rfl rfl e)))) rfl rfl
  |nm i n=>rcases hd with h|h|h|h|h<;>(rw[show wdD (.nm i n)=i from rfl]at hp;omega)
  |mv _ _ _=>exact absurd hp (show 4≠0 by decide)
  |tn _ _=>exact absurd hp (show 5≠0 by decide)
  |sz _ _ _=>exact absurd hp (show 6≠0 by decide)
  |ch _ _=>exact absurd hp (show 7≠0 by decide)
 rw[decide_eq_false hp]at c0
 have hres:res rs d=match Ao rs (nmD d) with
  |none=>.inr 6
  |some r=>match wdD d with
   |1=>.inl (woZ rs (nmD d))
   |2=>.inl (Ge rs (nmD d))
   |3=>.inl (Hi rs (nmD d) r.h)
   |_=>match chX r d with
    |none=>.inr 7
    |some (_,none)=>.inr 0
    |some (_,some r')=>.inl (Hg rs (nmD d) r'):=by
  cases d with
  |put r=>exact absurd rfl hp
  |_=>rfl
 rw[hres]
 have w1:AJ W (.int 1)=some (eT (nmD d)):=Yl (by omega)
 obtain⟨l1,e1⟩:=HV rs (nmD d)
 let τ:DS:=[some (.d D),some (.d W),some (.d (oZ (Ao rs (nmD d))))]
 have z1:AL (AF BA (AA (AB 0) (AA (dOp AJ (AB 1) (dC (.int 1))) AD))) (dN 2) τ0=some (.nx τ):=AV (τ1:=τ0) (AI (τ1:=τ0) (rs:=[.d D,.d (eT (nmD d))]) (ds:=[D,eT (nmD d)]) (acc (τ1:=τ0) rfl (acc (op2 (x:=W) (y:=.int 1) (τ1:=τ0) rfl rfl w1) rfl)) rfl e1) rfl
 have pre:∀{A0:DB} {o:Out},A0 τ=some o->AK (AQ (AE (dOp fEq (dOp AJ (AB 1) (dC (.int 0))) (dC (.str "put")))) (AN (AF HX (AA (AB 0) (AA (dOp AJ (AB 1) (dC (.int 1))) AD)))) AO) (AK (AL (AF BA (AA (AB 0) (AA (dOp AJ (AB 1) (dC (.int 1))) AD))) (dN 2)) A0) τ0=some o:=fun k=>(AH (τ1:=τ0) ((Ah (τ1:=τ0) c0).trans rfl)).trans ((AH z1).trans k)
 cases hf:Ao rs (nmD d) with
 |none =>
  refine AR (τ:=τ) (pre (A7 ((BK (τ1:=τ) ?_).trans rfl))) rfl rfl
  show AE _ [_,_,some (.d (oZ (Ao rs (nmD d))))]=some (true,[_,_,some (.d (oZ (Ao rs (nmD d))))])
  rw[hf];rfl
 |some r =>
  obtain⟨hr,hn⟩:=Hc hf
  have eτ:τ=[some (.d D),some (.d W),some (.d (eZ r))]:=by show([some (.d D),some (.d W),some (.d (oZ (Ao rs (nmD d))))]:DS)=_;rw[hf];rfl
  let σ:DS:=[some (.d D),some (.d W),some (.d (eZ r))]
  have okr:=OkR.all I.ok r (List.mem_reverse.mpr hr)
  have hh:r.h=t0\/OkN r.h:=(ON I.ok hr).imp id fun⟨p,hp,z⟩=>by rw[<- z];exact(OkR.all I.ok p (List.mem_reverse.mpr hp)).nm
  have good:∀{c:DT} {a A0:DB},c σ=some (false,σ)->AK (AQ c a AO) A0 σ=A0 σ:=fun {c a A0} h=>AH (τ1:=σ) ((Ah (τ1:=σ) h).trans rfl)
  have ci:AE (dOp (fIn false) (dOp AJ (AB 1) (dC (.int 0))) (AW (AA (dC (.str "take")) (AA (dC (.str "raise")) (AA (dC (.str "sink")) AD))))) σ=some (decide (wdD d=1\/wdD d=2\/wdD d=3),σ):=by
   refine tst (op2 (x:=eT (wS (wdD d))) (y:=.tuple ([wS 1,wS 2,wS 3].map eT)) (τ1:=σ) (w0 _) rfl ((inT _ _).trans (congrArg (fun b=>some (PyData.bool b)) (decide_eq_decide.mpr ?_))))
   rw[List.mem_cons,List.mem_cons,List.mem_singleton]
   exact⟨fun z=>z.imp (JG hlt (by decide)) fun z=>z.imp (JG hlt (by decide)) (JG hlt (by decide)),fun z=>z.imp (fun e=>by rw[e]) fun z=>z.imp (fun e=>by rw[e]) fun e=>by rw[e]⟩
  have pre2:∀{A0:DB} {o:Out},A0 σ=some o->AK (AQ (AE (dOp fEq (dOp AJ (AB 1) (dC (.int 0))) (dC (.str "put")))) (AN (AF HX (AA (AB 0) (AA (dOp AJ (AB 1) (dC (.int 1))) AD)))) AO) (AK (AL (AF BA (AA (AB 0) (AA (dOp AJ (AB 1) (dC (.int 1))) AD))) (dN 2)) (AK (AQ (AE (dOp ED (AB 2) (dC .none))) (AN (AW (AA (dC (.str "NoName")) (AA (dC .none) AD)))) AO) A0)) τ0=some o:=fun k=>pre (by rw[eτ];exact(good rfl).trans k)
  dsimp only
  by_cases hi:wdD d=1\/wdD d=2\/wdD d=3
  ·rw[decide_eq_true hi]at ci
   have hW:W=dd (wdD d) r.n []:=by
    cases d with
    |nm i n=>rw[hn];rfl
    |put _=>exact absurd rfl hp
    |mv _ _ _=>exact absurd hi (show ¬(4=1\/4=2\/4=3) by decide)
    |tn _ _=>exact absurd hi (show ¬(5=1\/5=2\/5=3) by decide)
    |sz _ _ _=>exact absurd hi (show ¬(6=1\/6=2\/6=3) by decide)
    |ch _ _=>exact absurd hi (show ¬(7=1\/7=2\/7=3) by decide)
   obtain⟨l,e⟩:=RS I hr hi
   rw[<- hW]at e
   let Y:PyData:=.list ((if wdD d=1 then woZ rs r.n else if wdD d=2 then Ge rs r.n else Hi rs r.n r.h).map eZ)
   have fin : ME (match wdD d with
    |1=>.inl (woZ rs (nmD d))
    |2=>.inl (Ge rs (nmD d))
    |3=>.inl (Hi rs (nmD d) r.h)
    |_=>match chX r d with
     |none=>.inr 7
     |some (_,none)=>.inr 0
     |some (_,some r')=>.inl (Hg rs (nmD d) r')) = .tuple [.str "",Y]:=by
    rw[<- hn]
    rcases hi with h|h|h<;>(show _=PyData.tuple [.str "",.list ((if wdD d=1 then woZ rs r.n else if wdD d=2 then Ge rs r.n else Hi rs r.n r.h).map eZ)];rw[h];rfl)
   rw[fin]
   exact AR (τ:=σ) (pre2 (A7 ((BK (τ1:=σ) ci).trans (Ae (Gh (rs:=[.d (.str ""),.d Y]) (acc (τ1:=σ) rfl (acc (AI (τ1:=σ) (rs:=[.d D,.d W]) (ds:=[D,W]) rfl rfl e) rfl)) rfl (show 2<=1000 by decide)))))) rfl rfl
  rw[decide_eq_false hi]at ci
  have h4:4<=wdD d:=by omega
  have e9:∀(k:Nat) (A B C E:List Rz ⊕ Nat),k≠1->k≠2->k≠3->(match k with|1=>A|2=>B|3=>C|_=>E)=E:=fun k A B C E h1 h2 h3=>by
   match k,h1,h2,h3 with
   |0,_,_,_=>rfl
   |1,h,_,_=>exact absurd rfl h
   |2,_,h,_=>exact absurd rfl h
   |3,_,_,h=>exact absurd rfl h
   |k+4,_,_,_=>rfl
  rw[e9 _ _ _ _ _ (fun z=>hi (.inl z)) (fun z=>hi (.inr (.inl z))) (fun z=>hi (.inr (.inr z)))]
  have kt:dOp AJ (AB 2) (dC (.int 5)) σ=some (eT (kS (kz r.d)),σ):=rfl
  have ce:BZ (Ad (AE (dOp fEq (dOp AJ (AB 1) (dC (.int 0))) (dC (.str "turn")))) (AE (dOp fNe (dOp AJ (AB 2) (dC (.int 5))) (dC (.str "turn"))))) (Ad (AE (dOp fEq (dOp AJ (AB 1) (dC (.int 0))) (dC (.str "size")))) (AE (dOp (fIn true) (dOp AJ (AB 2) (dC (.int 5))) (AW (AA (dC (.str "plate")) (AA (dC (.str "window")) AD)))))) σ=some ((decide (wdD d=5)&&!decide (kz r.d=7))||(decide (wdD d=6)&&!decide (kz r.d=0\/kz r.d=6)),σ) :=
   orB (F8 (cq 5 (by decide) _) (tst (op2 (x:=eT (kS (kz r.d))) (y:=eT (kS 7)) (τ1:=σ) kt rfl (knq (Cn _) (by decide))))) (F8 (cq 6 (by decide) _) (tst (op2 (x:=eT (kS (kz r.d))) (y:=.tuple [eT (kS 0),eT (kS 6)]) (τ1:=σ) kt rfl (W9 (Cn _)))))
  cases hc:chX r d with
  |none =>
   have:((decide (wdD d=5)&&!decide (kz r.d=7))||(decide (wdD d=6)&&!decide (kz r.d=0\/kz r.d=6)))=true:=by
    rcases US hc h4 with ⟨a,b⟩|⟨a,b,c⟩
    ·rw[decide_eq_true a,decide_eq_false b];rfl
    ·rw[decide_eq_true a,decide_eq_false (show ¬(kz r.d=0\/kz r.d=6) from fun z=>z.elim b c),Bool.or_eq_true];exact .inr rfl
   rw[this]at ce
   exact AR (τ:=σ) (pre2 ((good ci).trans (A7 ((BK (τ1:=σ) ce).trans rfl)))) rfl rfl
  |some pq =>
   obtain⟨X,v⟩:=pq
   have ck:=P9 hr okr hh hd hn.symm hc
   obtain⟨l,e⟩:=Xa (rs:=rs) (by omega) ck
   have ee : ME (wX rs r.n v) = ME (match some (X, v) with
     |none=>.inr 7
     |some (_,none)=>.inr 0
     |some (_,some r')=>.inl (Hg rs (nmD d) r')):=by rw[hn];cases v<;>rfl
   rw[<- ee]
   have hce:((decide (wdD d=5)&&!decide (kz r.d=7))||(decide (wdD d=6)&&!decide (kz r.d=0\/kz r.d=6)))=false:=by
    cases d with
    |put _=>cases hc
    |mv _ _ _=>rfl
    |ch _ _=>rfl
    |nm i n=>show((decide (i=5)&&_)||(decide (i=6)&&_))=false;rw[decide_eq_false (show i≠5 by rcases hd with h|h|h|h|h<;>omega),decide_eq_false (show i≠6 by rcases hd with h|h|h|h|h<;>omega)];rfl
    |tn n k =>
     dsimp only[chX]at hc
     cases e:r.d<;>rw[e]at hc<;>first|(cases hc;done)|rfl
    |sz n w g =>
     dsimp only[chX]at hc
     cases e:r.d<;>rw[e]at hc<;>first|(cases hc;done)|rfl
   rw[hce]at ce
   have cn:∀j,j<10->wdD d≠j->AE (dOp fEq (dOp AJ (AB 1) (dC (.int 0))) (dC (eT (wS j)))) σ=some (false,σ):=fun j hj h=>by rw[cq j hj,decide_eq_false h]
   have ct:∀j,j<10->wdD d=j->AE (dOp fEq (dOp AJ (AB 1) (dC (.int 0))) (dC (eT (wS j)))) σ=some (true,σ):=fun j hj h=>by rw[cq j hj,decide_eq_true h]
   have wt:∀{f:DX},f σ=some (X,σ)->AN (AF Dl (AA (AB 0) (AA f AD))) σ=some (.rt (ME (wX rs r.n v)) σ):=fun {f} hf=>Ae (AI (τ1:=σ) (rs:=[.d D,.d X]) (ds:=[D,X]) (acc (τ1:=σ) rfl (acc hf rfl)) rfl e)
   refine AR (τ:=σ) (pre2 ((good ci).trans ((good ce).trans ?_))) rfl rfl
   cases d with
   |put _=>cases hc
   |mv n x y =>
    cases hc
    exact A7 ((BK (τ1:=σ) (ct 4 (by decide) rfl)).trans (wt rfl))
   |tn n k =>
    refine(good (cn 4 (by decide) (show 5≠4 by decide))).trans (A7 ((BK (τ1:=σ) (ct 5 (by decide) rfl)).trans (wt ?_)))
    dsimp only[chX]at hc
    obtain⟨rn,rh,rx,ry,rsh,rd⟩:=r
    cases rd<;>first|(cases hc;done)|(cases hc;rfl)
   |sz n w g =>
    refine(good (cn 4 (by decide) (show 6≠4 by decide))).trans ((good (cn 5 (by decide) (show 6≠5 by decide))).trans (A7 ((BK (τ1:=σ) (ct 6 (by decide) rfl)).trans (wt ?_))))
    dsimp only[chX]at hc
    obtain⟨rn,rh,rx,ry,rsh,rd⟩:=r
    cases rd<;>first|(cases hc;done)|(cases hc;rfl)
   |ch n c =>
    cases hc
    exact(good (cn 4 (by decide) (show 7≠4 by decide))).trans ((good (cn 5 (by decide) (show 7≠5 by decide))).trans ((good (cn 6 (by decide) (show 7≠6 by decide))).trans (A7 ((BK (τ1:=σ) (ct 7 (by decide) rfl)).trans (wt rfl)))))
   |nm i n =>
    cases hc
    have h8:i=8\/i=9:=by have:4<=i:=h4;rcases hd with h|h|h|h|h<;>omega
    refine(good (cn 4 (by decide) (show i≠4 by omega))).trans ((good (cn 5 (by decide) (show i≠5 by omega))).trans ((good (cn 6 (by decide) (show i≠6 by omega))).trans ((good (cn 7 (by decide) (show i≠7 by omega))).trans (wt ?_))))
    have cs:dOp fEq (dOp AJ (AB 1) (dC (.int 0))) (dC (.str "show")) σ=some (.bool (decide (i=9)),σ):=op2 (x:=eT (wS i)) (y:=eT (wS 9)) (w0 _) rfl (wq hlt (by decide))
    have t1:AW (AA (dOp fEq (dOp AJ (AB 1) (dC (.int 0))) (dC (.str "show"))) AD) σ=some (.tuple [.bool (decide (i=9))],σ):=Gh (rs:=[.d (.bool (decide (i=9)))]) (acc cs rfl) rfl (show 1<=1000 by decide)
    exact op2 (x:=.tuple [eT r.n,eT r.h,.int r.x,.int r.y,.bool (decide (i=9))]) (y:=.tuple [eT (kS (kz r.d)),eD r.d]) (τ1:=σ) (op2 (x:=.tuple [eT r.n,eT r.h,.int r.x,.int r.y]) (y:=.tuple [.bool (decide (i=9))]) (τ1:=σ) rfl t1 rfl) rfl rfl
def WI:List Nat:=[4,8,9,5,6,7,0,1,2,3,4,7]
def PV:Tx:=⟨"strange",∅⟩
def Wx:Bool:=decide (1<=PV.1.length)&&decide (PV.1.length<=8)&&PV.1.cps.toList.all fun c=>decide (c∈alN.cps.toList)
theorem U3:Wx=true:=∅
theorem U2:OkN PV:=by
 have h:=U3
 unfold Wx at h
 simp only[Bool.and_eq_true,List.all_eq_true,decide_eq_true_eq]at h
 exact⟨h.1.1,h.1.2,fun c hc=>h.2 c hc⟩
def NS(rs:List Rz):List Tx:=rs.map (·.n)++[PV]
theorem df{rs:List Rz}(ok:OkZ rs){n:Tx}(h:n∈NS rs):OkN n:=by
 rcases List.mem_append.mp h with h|h
 ·obtain⟨r,hr,rfl⟩:=List.mem_map.mp h
  exact(OkR.all ok r (List.mem_reverse.mpr hr)).nm
 ·rw[List.mem_singleton.mp h];exact U2
theorem dZ{i:Nat}(h:i∈WI):i<10:=by
 have:∀i∈WI,i<10:=by decide
 exact this i h
theorem bG{a:Int}{n:Nat}(h:0<n):0<=a % (n:Int)/\a % (n:Int)<(n:Int):=⟨Int.emod_nonneg _ (by omega),Int.emod_lt_of_pos _ (by omega)⟩
theorem aZ{α:Type}{enc:α->PyData}(xs:List α)(h:0<xs.length)(a:Int):∃x∈xs,Co (.list (xs.map enc)) (.int (a % (xs.length:Int)))=some (enc x):=by
 obtain⟨m0,m1⟩:=bG (a:=a) h
 obtain⟨x,e1,e2⟩:=CB (enc:=enc) (xs:=xs) m0 m1
 exact⟨x,List.mem_of_getElem? e2,e1⟩
abbrev oT(t:Tx):Option L:=some (.d (eT t))
abbrev oI(i:Int):Option L:=some (.d (.int i))
def WT:PyData:=.tuple (WI.map fun i=>eT (wS i))
def sD(rs:List Rz)(v:Int)(i:Nat)(s:Int)(n:Tx)(a7 a8 a9 a10 a11:Option L):DS:=[some (.d (.list (rs.map eZ))),oI v,some (.d WT),oT (wS i),some (.d (.list ((NS rs).map eT))),oI s,oT n,a7,a8,a9,a10,a11]
def B1:DB:=AL (AW (AA (dC (.str "move")) (AA (dC (.str "hide")) (AA (dC (.str "show")) (AA (dC (.str "turn")) (AA (dC (.str "size")) (AA (dC (.str "change")) (AA (dC (.str "put")) (AA (dC (.str "take")) (AA (dC (.str "raise")) (AA (dC (.str "sink")) (AA (dC (.str "move")) (AA (dC (.str "change")) AD))))))))))))) (dN 2)
def B2:DB:=AL (dOp AJ (AB 2) (dOp Aa (AB 1) (dC (.int 12)))) (dN 3)
def B3:DB:=AL (dOp Ea (dLC 1 [] (dIL (AB 0)) (dN 0) Bp (dOp AJ (AB 0) (dC (.int 0)))) (Bs (AA (dC (.str "strange")) AD))) (dN 4)
def B4:DB:=AL (dOp Aa (dOp Aj (AB 1) (dC (.int 12))) (dOp F5 (dC (.int 8)) (AY Au (AA (AB 4) AD)))) (dN 5)
def B5:DB:=AL (dOp Co (AB 4) (dOp Aa (AB 5) (AY Au (AA (AB 4) AD)))) (dN 6)
def B6:DB:=AQ (Ad (AE (dOp fLt (AB 5) (dOp F5 (dC (.int 6)) (AY Au (AA (AB 4) AD))))) (AE (dOp fGt (AY Au (AA (AB 4) AD)) (dC (.int 1))))) (AL (dOp Co (AB 4) (dOp Aa (AB 5) (dOp BN (AY Au (AA (AB 4) AD)) (dC (.int 1))))) (dN 6)) AO
def B7:DB:=AL (dOp Aj (dOp Aj (AB 1) (dC (.int 96))) (AY Au (AA (AB 4) AD))) (dN 1)
theorem Vt{rs:List Rz}(hl:rs.length<=24)(v:Int):∃i∈WI,∃n∈NS rs,∃w s:Int,∀A0:DB,AK B1 (AK B2 (AK B3 (AK B4 (AK B5 (AK B6 (AK B7 A0)))))) [some (.d (.list (rs.map eZ))),oI v,none,none,none,none,none,none,none,none,none,none]=A0 (sD rs w i s n none none none none none):=by
 let D:PyData:=.list (rs.map eZ)
 let N:PyData:=.list ((NS rs).map eT)
 let f:Option L->Option L->Option L->Option L->Option L->DS:=fun a b c d e=>[some (.d D),oI v,a,b,c,d,e,none,none,none,none,none]
 have nl:(NS rs).length=rs.length+1:=by unfold NS;rw[List.length_append,List.length_map];rfl
 have z1:B1 (f none none none none none)=some (.nx (f (some (.d WT)) none none none none)):=rfl
 obtain⟨i,e2,hi⟩:=CB (enc:=fun i=>eT (wS i)) (xs:=WI) (k:=v % 12) (by omega) (by show v % 12<12;omega)
 have hiW:i∈WI:=List.mem_of_getElem? hi
 have z2:B2 (f (some (.d WT)) none none none none)=some (.nx (f (some (.d WT)) (oT (wS i)) none none none)):=AV (d:=eT (wS i)) (τ1:=f (some (.d WT)) none none none none) (op2 (x:=WT) (y:=.int (v % 12)) rfl (op2 (x:=.int v) (y:=.int 12) rfl rfl (BP (by decide))) e2) rfl
 let τ2:=f (some (.d WT)) (oT (wS i)) none none none
 let τ3:=f (some (.d WT)) (oT (wS i)) (some (.d N)) none none
 have z3:B3 τ2=some (.nx τ3):=by
  refine AV (d:=N) (τ1:=τ2) (op2 (x:=.list ((rs.map (·.n)).map eT)) (y:=.list [eT PV]) (τ1:=τ2) ?_ rfl ?_) rfl
  ·have:=lcg (enc:=eZ) (rs:=rs) (τ:=τ2) (fr:=[]) (it:=dIL (AB 0)) (ex:=[]) (c:=Bp) (e:=dOp AJ (AB 0) (dC (.int 0))) (fun _=>true) (fun q=>eT q.n) rfl (by omega) rfl rfl (fun _ _=>rfl) (fun q _ _=>rfl)
   refine this.trans ?_
   rw[Cs,List.map_map];rfl
  ·refine(Le (by rw[List.length_map,List.length_map];show rs.length+1<=1000;omega)).trans ?_
   show some (PyData.list ((rs.map (·.n)).map eT++[PV].map eT))=_
   rw[<- List.map_append];rfl
 have ln:∀τ:DS,τ[4]?=some (some (.d N))->AY Au (AA (AB 4) AD) τ=some (.int ((NS rs).length:Nat),τ):=fun τ h=>EF (d:=N) (τ1:=τ) (by unfold AB;rw[h]) (by show some (PyData.int (((NS rs).map eT).length:Nat))=_;rw[List.length_map])
 let s:=v / 12 % (8*((NS rs).length:Int))
 let τ4:=f (some (.d WT)) (oT (wS i)) (some (.d N)) (oI s) none
 have z4:B4 τ3=some (.nx τ4):=AV (d:=.int s) (τ1:=τ3) (op2 (x:=.int (v / 12)) (y:=.int (8*((NS rs).length:Int))) (τ1:=τ3) (op2 (x:=.int v) (y:=.int 12) (τ1:=τ3) rfl rfl (Bo (by decide) (by decide))) (op2 (x:=.int 8) (y:=.int ((NS rs).length:Nat)) (τ1:=τ3) rfl (ln τ3 rfl) (YL (by decide) (by decide))) (BP (by omega))) rfl
 obtain⟨n5,hn5,e5⟩:=aZ (enc:=eT) (NS rs) (by omega) s
 let τ5:Tx->DS:=fun n=>f (some (.d WT)) (oT (wS i)) (some (.d N)) (oI s) (oT n)
 have z5:B5 τ4=some (.nx (τ5 n5)):=AV (d:=eT n5) (τ1:=τ4) (op2 (x:=N) (y:=.int (s % ((NS rs).length:Int))) (τ1:=τ4) rfl (op2 (x:=.int s) (y:=.int ((NS rs).length:Nat)) (τ1:=τ4) rfl (ln τ4 rfl) (BP (by omega))) e5) rfl
 have z6:∃n∈NS rs,B6 (τ5 n5)=some (.nx (τ5 n)):=by
  have c:Ad (AE (dOp fLt (AB 5) (dOp F5 (dC (.int 6)) (AY Au (AA (AB 4) AD))))) (AE (dOp fGt (AY Au (AA (AB 4) AD)) (dC (.int 1)))) (τ5 n5)=some (decide (s<6*((NS rs).length:Int))&&decide (1<((NS rs).length:Int)),τ5 n5) :=
   F8 (tst (op2 (x:=.int s) (y:=.int (6*((NS rs).length:Int))) (τ1:=τ5 n5) rfl (op2 (x:=.int 6) (y:=.int ((NS rs).length:Nat)) (τ1:=τ5 n5) rfl (ln _ rfl) (YL (by decide) (by decide))) rfl)) (tst (op2 (x:=.int ((NS rs).length:Nat)) (y:=.int 1) (τ1:=τ5 n5) (ln _ rfl) rfl rfl))
  cases hb:(decide (s<6*((NS rs).length:Int))&&decide (1<((NS rs).length:Int))) with
  |false =>
   rw[hb]at c
   exact⟨n5,hn5,(Ah c).trans rfl⟩
  |true =>
   rw[hb]at c
   rw[Bool.and_eq_true]at hb
   have h1:=of_decide_eq_true hb.2
   obtain⟨m0,m1⟩:=bG (a:=s) (n:=(NS rs).length-1) (by omega)
   have ec:(((NS rs).length-1:Nat):Int)=((NS rs).length:Int)-1:=by omega
   rw[ec]at m0 m1
   obtain⟨x,e1,e2⟩:=CB (enc:=eT) (xs:=NS rs) (k:=s % (((NS rs).length:Int)-1)) m0 (by omega)
   refine⟨x,List.mem_of_getElem? e2,(BK c).trans (AV (d:=eT x) (τ1:=τ5 n5) (op2 (x:=N) (y:=.int (s % (((NS rs).length:Int)-1))) (τ1:=τ5 n5) rfl (op2 (x:=.int s) (y:=.int (((NS rs).length:Int)-1)) (τ1:=τ5 n5) rfl (op2 (x:=.int ((NS rs).length:Nat)) (y:=.int 1) (τ1:=τ5 n5) (ln _ rfl) rfl rfl) (BP (by omega))) e1) rfl)⟩
 obtain⟨n,hn,z6⟩:=z6
 have z7:B7 (τ5 n)=some (.nx (sD rs (v / 96 / ((NS rs).length:Int)) i s n none none none none none)):=AV (d:=.int (v / 96 / ((NS rs).length:Int))) (τ1:=τ5 n) (op2 (x:=.int (v / 96)) (y:=.int ((NS rs).length:Nat)) (τ1:=τ5 n) (op2 (x:=.int v) (y:=.int 96) (τ1:=τ5 n) rfl rfl (Bo (by decide) (by decide))) (ln _ rfl) (Bo (by omega) (Int.lt_of_lt_of_le (show((NS rs).length:Int)<100 by omega) (by decide)))) rfl
 exact⟨i,hiW,n,hn,_,s,fun A0=>(AH z1).trans ((AH z2).trans ((AH z3).trans ((AH z4).trans ((AH z5).trans ((AH z6).trans (AH z7))))))⟩
theorem P4{rs:List Rz}(I:Iv rs)(v:Int):∃(d:De) (ls:List L),FQ [.d (.list (rs.map eZ)),.d (.int v)]=some (eDe d,ls)/\Ln rs d:=by
 have hl:=I.ln
 obtain⟨i,hi,n,hn,w,s,hd⟩:=Vt hl v
 have i9:=dZ hi
 let D:PyData:=.list (rs.map eZ)
 have cw:∀j,j<10->∀(w:Int) (n:Tx) a7 a8 a9 a10 a11,AE (dOp fEq (AB 3) (dC (eT (wS j)))) (sD rs w i s n a7 a8 a9 a10 a11)=some (decide (i=j),sD rs w i s n a7 a8 a9 a10 a11):=fun j hj w n a7 a8 a9 a10 a11=>tst (op2 (x:=eT (wS i)) (y:=eT (wS j)) (τ1:=sD rs w i s n a7 a8 a9 a10 a11) rfl rfl (wq i9 hj))
 have fin:∀{A0:DB} {X:PyData} {w':Int} {n':Tx} {a7 a8 a9 a10 a11:Option L},A0 (sD rs w i s n none none none none none)=some (.rt X (sD rs w' i s n' a7 a8 a9 a10 a11))->Ab false 2 10 (AK B1 (AK B2 (AK B3 (AK B4 (AK B5 (AK B6 (AK B7 A0))))))) [.d D,.d (.int v)]=some (X,[.d D,.d (.int v)]):=fun {A0 X w' n' a7 a8 a9 a10 a11} k=>AR (τ:=sD rs w' i s n' a7 a8 a9 a10 a11) ((hd A0).trans k) rfl rfl
 by_cases h0:i=0
 ·-- put
  subst h0
  obtain⟨r,u,lr,er,okr,hh,_⟩:=J9 I.ok (by omega) w
  have hh':r.h=t0\/OkN r.h:=hh.imp id fun⟨q,hq,e,_⟩=>by rw[<- e];exact(OkR.all I.ok q (List.mem_reverse.mpr hq)).nm
  let σ:Rz->DS:=fun r=>sD rs u 0 s n (some (.d (eZ r))) none none none none
  have z1:AL (AF C0 (AA (AB 0) (AA (AB 1) AD))) (dGT (AS (dN 7) (AS (dN 1) Az))) (sD rs w 0 s n none none none none none)=some (.nx (σ r)):=AV (d:=.tuple [eZ r,.int u]) (τ1:=sD rs w 0 s n none none none none none) (AI (τ1:=sD rs w 0 s n none none none none none) (rs:=[.d D,.d (.int w)]) (ds:=[D,.int w]) rfl rfl er) rfl
  have cm:∀(r:Rz) (k:Int),0<k->AE (dOp fEq (dOp Aa (AB 1) (dC (.int k))) (dC (.int 0))) (σ r)=some (decide (u % k=0),σ r):=fun r k hk=>tst (op2 (x:=.int (u % k)) (y:=.int 0) (τ1:=σ r) (op2 (x:=.int u) (y:=.int k) (τ1:=σ r) rfl rfl (BP hk)) rfl (encI.fEq _ _))
  have st:∀(r r':Rz) (k:Int) (a:DB),0<k->a (σ r)=some (.nx (σ r'))->AQ (AE (dOp fEq (dOp Aa (AB 1) (dC (.int k))) (dC (.int 0)))) a AO (σ r)=some (.nx (σ (if u % k=0 then r' else r))):=fun r r' k a hk ha=>by
   have c:=cm r k hk
   by_cases h:u % k=0
   ·rw[decide_eq_true h]at c;rw[if_pos h];exact(BK c).trans ha
   ·rw[decide_eq_false h]at c;rw[if_neg h];exact(Ah c).trans rfl
  let r1:Rz:=if u % 5=0 then { r with n:=n } else r
  let r2:Rz:=if u % 7=0 then { r1 with h:=n } else r1
  let r3:Rz:=if u % 11=0 then { r2 with y:=61 } else r2
  have k1:=st r { r with n:=n } 5 (AL (dOp B0 (AW (AA (AB 6) AD)) (Cc (AB 7) (dPt (dC (.int 1))) Ba)) (dN 7)) (by decide) rfl
  have k2:=st r1 { r1 with h:=n } 7 (AL (dOp B0 (dOp B0 (Cc (AB 7) Ba (dPt (dC (.int 1)))) (AW (AA (AB 6) AD))) (Cc (AB 7) (dPt (dC (.int 2))) Ba)) (dN 7)) (by decide) rfl
  have k3:=st r2 { r2 with y:=61 } 11 (AL (dOp B0 (dOp B0 (Cc (AB 7) Ba (dPt (dC (.int 3)))) (AW (AA (dC (.int 61)) AD))) (Cc (AB 7) (dPt (dC (.int 4))) Ba)) (dN 7)) (by decide) rfl
  have nk:=df I.ok hn
  have o1:OkL r1:=by
   show OkL (if u % 5=0 then { r with n:=n } else r)
   split
   ·exact⟨nk,hh',okr.x0,okr.x1,okr.y0,okr.d⟩
   ·exact OkL.of okr hh'
  have o2:OkL r2:=by
   show OkL (if u % 7=0 then { r1 with h:=n } else r1)
   split
   ·exact⟨o1.n,.inr nk,o1.x0,o1.x1,o1.y0,o1.d⟩
   ·exact o1
  have o3:OkL r3:=by
   show OkL (if u % 11=0 then { r2 with y:=61 } else r2)
   split
   ·exact⟨o2.n,o2.h,o2.x0,o2.x1,by show(-60:Int)<=61;decide,o2.d⟩
   ·exact o2
  refine⟨.put r3,_,fin (X:=eDe (.put r3)) (A7 ((BK (cw 0 (by decide) w n none none none none none)).trans ((AH z1).trans ((AH k1).trans ((AH k2).trans ((AH k3).trans rfl)))))),o3⟩
 have c0:=cw 0 (by decide) w n none none none none none
 rw[decide_eq_false h0]at c0
 let τ0:=sD rs w i s n none none none none none
 have ci:AE (dOp (fIn false) (AB 3) (AW (AA (dC (.str "hide")) (AA (dC (.str "show")) (AA (dC (.str "take")) (AA (dC (.str "raise")) (AA (dC (.str "sink")) AD))))))) τ0=some (decide (i=8\/i=9\/i=1\/i=2\/i=3),τ0):=by
  refine tst (op2 (x:=eT (wS i)) (y:=.tuple ([wS 8,wS 9,wS 1,wS 2,wS 3].map eT)) (τ1:=τ0) rfl rfl ((inT _ _).trans (congrArg (fun b=>some (PyData.bool b)) (decide_eq_decide.mpr ?_))))
  simp only[List.mem_cons,List.not_mem_nil,or_false]
  have q:∀j,j<10->(wS i=wS j↔i=j):=fun j hj=>⟨JG i9 hj,fun e=>by rw[e]⟩
  rw[q 8 (by decide),q 9 (by decide),q 1 (by decide),q 2 (by decide),q 3 (by decide)]
 by_cases hin:i=8\/i=9\/i=1\/i=2\/i=3
 ·rw[decide_eq_true hin]at ci
  refine⟨.nm i n,_,fin (X:=eDe (.nm i n)) ((AH ((Ah c0).trans rfl)).trans (A7 ((BK ci).trans rfl))),?_⟩
  show i=1\/i=2\/i=3\/i=8\/i=9
  omega
 rw[decide_eq_false hin]at ci
 have hi4:i=4\/i=5\/i=6\/i=7:=by omega
 -- the rows of that kind
 let kp:Rz->Bool:=fun q=>decide (kS (kz q.d)=wS i)||(decide (i=6)&&decide (kz q.d=0\/kz q.d=6))
 let kh:=rs.filter kp
 have khl:kh.length<=24:=Nat.le_trans (List.length_filter_le ..) hl
 let τ8:Tx->DS:=fun n=>sD rs w i s n none (some (.d (.list (kh.map eZ)))) none none none
 have z8:AL (dLC 1 [3] (dIL (AB 0)) (dN 0) (BZ (AE (dOp fEq (dOp AJ (AB 0) (dC (.int 5))) (AB 1))) (Ad (AE (dOp fEq (AB 1) (dC (.str "size")))) (AE (dOp (fIn false) (dOp AJ (AB 0) (dC (.int 5))) (AW (AA (dC (.str "plate")) (AA (dC (.str "window")) AD))))))) (AB 0)) (dN 8) τ0=some (.nx (τ8 n)):=by
  refine AV (d:=.list (kh.map eZ)) (τ1:=τ0) ?_ rfl
  exact lcg (enc := eZ) (rs := rs) (τ := τ0) (fr := [3]) (it := dIL (AB 0)) (ex := [oT (wS i)]) (c := BZ (AE (dOp fEq (dOp AJ (AB 0) (dC (.int 5))) (AB 1))) (Ad (AE (dOp fEq (AB 1) (dC (.str "size")))) (AE (dOp (fIn false) (dOp AJ (AB 0) (dC (.int 5))) (AW (AA (dC (.str "plate")) (AA (dC (.str "window")) AD))))))) (e := AB 0) kp eZ rfl (by omega) rfl rfl (fun q _ => by
   let t:DS:=[some (.d (eZ q)),oT (wS i)]
   refine orB (tst (op2 (x:=eT (kS (kz q.d))) (y:=eT (wS i)) (τ1:=t) rfl rfl (Gg _ _))) (F8 (tst (op2 (x:=eT (wS i)) (y:=eT (wS 6)) (τ1:=t) rfl rfl (wq i9 (by decide)))) (tst (op2 (x:=eT (kS (kz q.d))) (y:=.tuple ([kS 0,kS 6].map eT)) (τ1:=t) rfl rfl ((inT _ _).trans (congrArg (fun b=>some (PyData.bool b)) (decide_eq_decide.mpr ?_))))))
   rw[List.mem_cons,List.mem_singleton]
   exact⟨fun z=>z.imp (DY (Cn _) (by decide)) (DY (Cn _) (by decide)),fun z=>z.imp (fun e=>by rw[e]) fun e=>by rw[e]⟩) (fun q _ _=>rfl)
 have z9:∃n'∈NS rs,AQ (Ad (AE (dOp fNe (AB 8) (Bs AD))) (AE (dOp fGt (dOp Aa (AB 1) (dC (.int 4))) (dC (.int 0))))) (AL (dOp AJ (dOp Co (AB 8) (dOp Aa (dOp Aj (AB 1) (dC (.int 4))) (AY Au (AA (AB 8) AD)))) (dC (.int 0))) (dN 6)) AO (τ8 n)=some (.nx (τ8 n')):=by
  have c:Ad (AE (dOp fNe (AB 8) (Bs AD))) (AE (dOp fGt (dOp Aa (AB 1) (dC (.int 4))) (dC (.int 0)))) (τ8 n)=some (!kh.isEmpty&&decide (0<w % 4),τ8 n):=F8 (tst (op2 (x:=.list (kh.map eZ)) (y:=.list []) (τ1:=τ8 n) rfl rfl (To kh))) (tst (op2 (x:=.int (w % 4)) (y:=.int 0) (τ1:=τ8 n) (op2 (x:=.int w) (y:=.int 4) (τ1:=τ8 n) rfl rfl (BP (by decide))) rfl rfl))
  cases hb:(!kh.isEmpty&&decide (0<w % 4)) with
  |false=>rw[hb]at c;exact⟨n,hn,(Ah c).trans rfl⟩
  |true =>
   rw[hb]at c
   rw[Bool.and_eq_true]at hb
   have hpos:0<kh.length:=by
    cases e:kh with
    |nil=>rw[e]at hb;exact absurd hb.1 (by decide)
    |cons a l=>exact Nat.succ_pos _
   obtain⟨x,hx,ex⟩:=aZ (enc:=eZ) kh hpos (w / 4)
   refine⟨x.n,List.mem_append_left _ (List.mem_map_of_mem (List.mem_filter.mp hx).1),(BK c).trans (AV (d:=eT x.n) (τ1:=τ8 n) (op2 (x:=eZ x) (y:=.int 0) (τ1:=τ8 n) (op2 (x:=.list (kh.map eZ)) (y:=.int (w / 4 % (kh.length:Int))) (τ1:=τ8 n) rfl (op2 (x:=.int (w / 4)) (y:=.int (kh.length:Nat)) (τ1:=τ8 n) (op2 (x:=.int w) (y:=.int 4) (τ1:=τ8 n) rfl rfl (Bo (by decide) (by decide))) (EF (d:=.list (kh.map eZ)) (τ1:=τ8 n) rfl (by show some (PyData.int ((kh.map eZ).length:Nat))=_;rw[List.length_map])) (BP (by omega))) ex) rfl rfl) rfl)⟩
 obtain⟨m,hm,z9⟩:=z9
 let u:=w / 64
 let σ:=sD rs u i s m none (some (.d (.list (kh.map eZ)))) none none none
 have z10:AL (dOp Aj (AB 1) (dC (.int 64))) (dN 1) (τ8 m)=some (.nx σ):=AV (d:=.int u) (τ1:=τ8 m) (op2 (x:=.int w) (y:=.int 64) (τ1:=τ8 m) rfl rfl (Bo (by decide) (by decide))) rfl
 have pre:∀{a1 a2 b8 b9 b10 A0:DB} {o:Out},b8 τ0=some (.nx (τ8 n))->b9 (τ8 n)=some (.nx (τ8 m))->b10 (τ8 m)=some (.nx σ)->A0 σ=some o->AK (AQ (AE (dOp fEq (AB 3) (dC (.str "put")))) a1 AO) (AK (AQ (AE (dOp (fIn false) (AB 3) (AW (AA (dC (.str "hide")) (AA (dC (.str "show")) (AA (dC (.str "take")) (AA (dC (.str "raise")) (AA (dC (.str "sink")) AD)))))))) a2 AO) (AK b8 (AK b9 (AK b10 A0)))) τ0=some o:=fun z8 z9 z10 k=>(AH ((Ah c0).trans rfl)).trans ((AH ((Ah ci).trans rfl)).trans ((AH z8).trans ((AH z9).trans ((AH z10).trans k))))
 have cs:∀j,j<10->AE (dOp fEq (AB 3) (dC (eT (wS j)))) σ=some (decide (i=j),σ):=fun j hj=>cw j hj _ _ _ _ _ _ _
 have c5:=cs 5 (by decide)
 by_cases h5:i=5
 ·rw[decide_eq_true h5]at c5
  have:∃q:Int,dOp AJ (AW (AA (dOp BN (dOp Aa (AB 1) (dC (.int 9))) (dC (.int 4))) (AA (dOp BN (dOp Aa (AB 1) (dOp Iy (dC (.int 10)) (dC (.int 30)))) (dOp Iy (dC (.int 10)) (dC (.int 29)))) AD))) (dOp Aj (dOp Aa (dOp Aj (AB 1) (dC (.int 9))) (dC (.int 5))) (dC (.int 4))) σ=some (.int q,σ):=by
   have p1:dOp BN (dOp Aa (AB 1) (dC (.int 9))) (dC (.int 4)) σ=some (.int (u % 9-4),σ):=op2 (x:=.int (u % 9)) (y:=.int 4) (τ1:=σ) (op2 (x:=.int u) (y:=.int 9) (τ1:=σ) rfl rfl (BP (by decide))) rfl rfl
   have p2:dOp BN (dOp Aa (AB 1) (dOp Iy (dC (.int 10)) (dC (.int 30)))) (dOp Iy (dC (.int 10)) (dC (.int 29))) σ=some (.int (u % 10 ^ 30-10 ^ 29),σ):=op2 (x:=.int (u % 10 ^ 30)) (y:=.int (10 ^ 29)) (τ1:=σ) (op2 (x:=.int u) (y:=.int (10 ^ 30)) (τ1:=σ) rfl (op2 (x:=.int 10) (y:=.int 30) (τ1:=σ) rfl rfl rfl) (BP (by decide))) (op2 (x:=.int 10) (y:=.int 29) (τ1:=σ) rfl rfl rfl) rfl
   have p3:AW (AA (dOp BN (dOp Aa (AB 1) (dC (.int 9))) (dC (.int 4))) (AA (dOp BN (dOp Aa (AB 1) (dOp Iy (dC (.int 10)) (dC (.int 30)))) (dOp Iy (dC (.int 10)) (dC (.int 29)))) AD)) σ=some (.tuple ([u % 9-4,u % 10 ^ 30-10 ^ 29].map .int),σ):=Gh (rs:=[.d (.int (u % 9-4)),.d (.int (u % 10 ^ 30-10 ^ 29))]) (acc p1 (acc p2 rfl)) rfl (show 2<=1000 by decide)
   have p4:dOp Aj (dOp Aa (dOp Aj (AB 1) (dC (.int 9))) (dC (.int 5))) (dC (.int 4)) σ=some (.int (u / 9 % 5 / 4),σ):=op2 (x:=.int (u / 9 % 5)) (y:=.int 4) (τ1:=σ) (op2 (x:=.int (u / 9)) (y:=.int 5) (τ1:=σ) (op2 (x:=.int u) (y:=.int 9) (τ1:=σ) rfl rfl (Bo (by decide) (by decide))) rfl (BP (by decide))) rfl (Bo (by decide) (by decide))
   obtain⟨x,e1,_⟩:=CB (enc:=PyData.int) (xs:=[u % 9-4,u % 10 ^ 30-10 ^ 29]) (k:=u / 9 % 5 / 4) (by omega) (by show _<(2:Int);omega)
   exact⟨x,op2 p3 p4 e1⟩
  obtain⟨q,eq⟩:=this
  refine⟨.tn m q,_,fin (X:=eDe (.tn m q)) (pre z8 z9 z10 (A7 ((BK c5).trans (Ae (Gh (rs:=[.d (eT (wS i)),.d (eT m),.d (.int q)]) (ds:=[eT (wS i),eT m,.int q]) (acc (τ1:=σ) rfl (acc (τ1:=σ) rfl (acc eq rfl))) rfl (show 3<=1000 by decide) |>.trans (congrArg (fun z=>some (PyData.tuple [eT (wS z),eT m,.int q],σ)) h5)))))),trivial⟩
 rw[decide_eq_false h5]at c5
 have c6:=cs 6 (by decide)
 by_cases h6:i=6
 ·rw[decide_eq_true h6]at c6
  have p1:dOp Aa (AB 1) (dC (.int 18)) σ=some (.int (u % 18),σ):=op2 (x:=.int u) (y:=.int 18) (τ1:=σ) rfl rfl (BP (by decide))
  have p2:dOp Aa (dOp Aj (AB 1) (dC (.int 18))) (dC (.int 14)) σ=some (.int (u / 18 % 14),σ):=op2 (x:=.int (u / 18)) (y:=.int 14) (τ1:=σ) (op2 (x:=.int u) (y:=.int 18) (τ1:=σ) rfl rfl (Bo (by decide) (by decide))) rfl (BP (by decide))
  refine⟨.sz m (u % 18) (u / 18 % 14),_,fin (X:=eDe (.sz m (u % 18) (u / 18 % 14))) (pre z8 z9 z10 ((AH ((Ah c5).trans rfl)).trans (A7 ((BK c6).trans (Ae (Gh (rs:=[.d (eT (wS i)),.d (eT m),.d (.int (u % 18)),.d (.int (u / 18 % 14))]) (ds:=[eT (wS i),eT m,.int (u % 18),.int (u / 18 % 14)]) (acc (τ1:=σ) rfl (acc (τ1:=σ) rfl (acc p1 (acc p2 rfl)))) rfl (show 4<=1000 by decide) |>.trans (congrArg (fun z=>some (PyData.tuple [eT (wS z),eT m,.int (u % 18),.int (u / 18 % 14)],σ)) h6))))))),trivial⟩
 rw[decide_eq_false h6]at c6
 have c4:=cs 4 (by decide)
 by_cases h4:i=4
 ·rw[decide_eq_true h4]at c4
  obtain⟨x,u1,l1,e1,_⟩:=D0 u
  obtain⟨y,u2,l2,e2,_⟩:=D0 u1
  let K8:Option L:=some (.d (.list (kh.map eZ)))
  let σ1:=sD rs u1 i s m none K8 (oI x) none none
  let σ2:=sD rs u2 i s m none K8 (oI x) (oI y) none
  have y1:AL (AF BD (AA (AB 1) AD)) (dGT (AS (dN 9) (AS (dN 1) Az))) σ=some (.nx σ1):=AV (d:=.tuple [.int x,.int u1]) (τ1:=σ) (AI (τ1:=σ) (rs:=[.d (.int u)]) (ds:=[.int u]) rfl rfl e1) rfl
  have y2:AL (AF BD (AA (AB 1) AD)) (dGT (AS (dN 10) (AS (dN 1) Az))) σ1=some (.nx σ2):=AV (d:=.tuple [.int y,.int u2]) (τ1:=σ1) (AI (τ1:=σ1) (rs:=[.d (.int u1)]) (ds:=[.int u1]) rfl rfl e2) rfl
  have p1:dOp Ap (AB 9) (dOp Aj (dOp Aa (AB 1) (dC (.int 40))) (dC (.int 39))) σ2=some (.int (x+u2 % 40 / 39),σ2):=op2 (x:=.int x) (y:=.int (u2 % 40 / 39)) (τ1:=σ2) rfl (op2 (x:=.int (u2 % 40)) (y:=.int 39) (τ1:=σ2) (op2 (x:=.int u2) (y:=.int 40) (τ1:=σ2) rfl rfl (BP (by decide))) rfl (Bo (by decide) (by decide))) rfl
  have p2:dOp BN (AB 10) (dOp F5 (dOp Aj (dOp Aa (dOp Aj (AB 1) (dC (.int 40))) (dC (.int 40))) (dC (.int 39))) (dC (.int 2))) σ2=some (.int (y-u2 / 40 % 40 / 39*2),σ2):=op2 (x:=.int y) (y:=.int (u2 / 40 % 40 / 39*2)) (τ1:=σ2) rfl (op2 (x:=.int (u2 / 40 % 40 / 39)) (y:=.int 2) (τ1:=σ2) (op2 (x:=.int (u2 / 40 % 40)) (y:=.int 39) (τ1:=σ2) (op2 (x:=.int (u2 / 40)) (y:=.int 40) (τ1:=σ2) (op2 (x:=.int u2) (y:=.int 40) (τ1:=σ2) rfl rfl (Bo (by decide) (by decide))) rfl (BP (by decide))) rfl (Bo (by decide) (by decide))) rfl (YL (by omega) (by omega))) rfl
  refine⟨.mv m (x+u2 % 40 / 39) (y-u2 / 40 % 40 / 39*2),_,fin (X:=eDe (.mv m (x+u2 % 40 / 39) (y-u2 / 40 % 40 / 39*2))) (pre z8 z9 z10 ((AH ((Ah c5).trans rfl)).trans ((AH ((Ah c6).trans rfl)).trans (A7 ((BK c4).trans ((AH y1).trans ((AH y2).trans (Ae (Gh (rs:=[.d (eT (wS i)),.d (eT m),.d (.int (x+u2 % 40 / 39)),.d (.int (y-u2 / 40 % 40 / 39*2))]) (ds:=[eT (wS i),eT m,.int (x+u2 % 40 / 39),.int (y-u2 / 40 % 40 / 39*2)]) (acc (τ1:=σ2) rfl (acc (τ1:=σ2) rfl (acc p1 (acc p2 rfl)))) rfl (show 4<=1000 by decide) |>.trans (congrArg (fun z=>some (PyData.tuple [eT (wS z),eT m,.int (x+u2 % 40 / 39),.int (y-u2 / 40 % 40 / 39*2)],σ2)) h4)))))))))),trivial⟩
 rw[decide_eq_false h4]at c4
 have h7:i=7:=by omega
 let K8:Option L:=some (.d (.list (kh.map eZ)))
 let σL:Option L->Nat->DS:=fun o k=>sD rs u i s m o K8 none none (oT (kS k))
 have y1:AL (dC (.str "plate")) (dN 11) σ=some (.nx (σL none 0)):=rfl
 have lp:∃τ',BO (dN 7) (AQ (Ad (AE (dOp fEq (dOp AJ (AB 7) (dC (.int 0))) (AB 6))) (AE (dOp fGt (dOp Aa (AB 1) (dC (.int 8))) (dC (.int 0))))) (AL (dOp AJ (AB 7) (dC (.int 5))) (dN 11)) AO) (rs.map eZ) (σL none 0)=some (.nx τ')/\∃o k,nM o/\τ'=σL o k/\k<10/\(k=0\/∃q∈rs,q.n=m/\k=kz q.d):=by
  refine C4 (fun pre τ=>∃o k,nM o/\τ=σL o k/\k<10/\(k=0\/∃q∈rs,q.n=m/\k=kz q.d)) ⟨none,0,BB,rfl,by decide,.inl rfl⟩ ?_
  rintro pre r post τ e ⟨o,k,ho,rfl,hk,hq⟩
  have hr:r∈rs:=HU e
  let t:=σL (some (.d (eZ r))) k
  have c:Ad (AE (dOp fEq (dOp AJ (AB 7) (dC (.int 0))) (AB 6))) (AE (dOp fGt (dOp Aa (AB 1) (dC (.int 8))) (dC (.int 0)))) t=some (decide (r.n=m)&&decide (0<u % 8),t):=F8 (tst (op2 (x:=eT r.n) (y:=eT m) (τ1:=t) rfl rfl (Gg _ _))) (tst (op2 (x:=.int (u % 8)) (y:=.int 0) (τ1:=t) (op2 (x:=.int u) (y:=.int 8) (τ1:=t) rfl rfl (BP (by decide))) rfl rfl))
  have g:dN 7 (eZ r) (σL o k)=some t:=CD (o:=o) rfl ho
  cases hb:(decide (r.n=m)&&decide (0<u % 8)) with
  |false=>rw[hb]at c;exact⟨t,t,g,(Ah c).trans rfl,_,k,Cv,rfl,hk,hq⟩
  |true =>
   rw[hb]at c
   rw[Bool.and_eq_true]at hb
   exact⟨t,σL (some (.d (eZ r))) (kz r.d),g,(BK c).trans rfl,_,kz r.d,Cv,rfl,Cn _,.inr ⟨r,hr,of_decide_eq_true hb.1,rfl⟩⟩
 obtain⟨τ',el,o,k,ho,rfl,hk,hq⟩:=lp
 obtain⟨d,w',ld,ed,hkd,od⟩:=LX hk (u / 8)
 have p1:dOp AJ (AF An (AA (AB 11) (AA (dOp Aj (AB 1) (dC (.int 8))) AD))) (dC (.int 0)) (σL o k)=some (eD d,σL o k):=op2 (x:=.tuple [eD d,.int w']) (y:=.int 0) (τ1:=σL o k) (AI (τ1:=σL o k) (rs:=[.d (eT (kS k)),.d (.int (u / 8))]) (ds:=[eT (kS k),.int (u / 8)]) (acc (τ1:=σL o k) rfl (acc (op2 (x:=.int u) (y:=.int 8) (τ1:=σL o k) rfl rfl (Bo (by decide) (by decide))) rfl)) rfl ed) rfl rfl
 refine⟨.ch m d,_,fin (X:=eDe (.ch m d)) (pre z8 z9 z10 ((AH ((Ah c5).trans rfl)).trans ((AH ((Ah c6).trans rfl)).trans ((AH ((Ah c4).trans rfl)).trans ((AH y1).trans ((AH ((C6 (ds:=rs.map eZ) (τ1:=σL none 0) rfl).trans el)).trans (Ae (Gh (rs:=[.d (eT (wS i)),.d (eT m),.d (eD d)]) (ds:=[eT (wS i),eT m,eD d]) (acc (τ1:=σL o k) rfl (acc (τ1:=σL o k) rfl (acc p1 rfl))) rfl (show 3<=1000 by decide) |>.trans (congrArg (fun z=>some (PyData.tuple [eT (wS z),eT m,eD d],σL o k)) h7))))))))),od,fun r hr e=>?_⟩
 rw[hkd]
 rcases hq with hq|⟨q,hq1,hq2,hq3⟩
 ·exact .inr hq
 ·rw[hq3,I.ok.u q hq1 r hr (hq2.trans e.symm)];exact .inl rfl
theorem Xn{met:List Rz}{r:Rz}{n:Nat}(h:stp met r=some n):n<6:=by
 unfold stp at h
 repeat' split at h
 all_goals first|(cases h;decide)|cases h
def aT(rs:List Rz)(d:De):List Rz ⊕ Nat:=match Ao rs (nmD d) with
 |none=>.inr 6
 |some r=>match wdD d with
  |1=>.inl (woZ rs (nmD d))
  |2=>.inl (Ge rs (nmD d))
  |3=>.inl (Hi rs (nmD d) r.h)
  |_=>match chX r d with
   |none=>.inr 7
   |some (_,none)=>.inr 0
   |some (_,some r')=>.inl (Hg rs (nmD d) r')
def Rok(x:List Rz ⊕ Nat):Prop:=(∀l,x = .inl l->Iv l)/\∀n,x = .inr n->n<8
theorem Rok.l{l:List Rz}(h:Iv l):Rok (.inl l):=⟨fun _ e=>(by cases e;exact h),fun _ e=>(by cases e)⟩
theorem Rok.r{n:Nat}(h:n<8):Rok (.inr n):=⟨fun _ e=>(by cases e),fun _ e=>(by cases e;exact h)⟩
theorem U9{rs:List Rz}(I:Iv rs){d:De}(hd:Ln rs d):Rok (aT rs d):=by
 unfold aT
 cases hf:Ao rs (nmD d) with
 |none=>exact .r (by decide)
 |some r =>
  obtain⟨hr,hn⟩:=Hc hf
  have okr:=OkR.all I.ok r (List.mem_reverse.mpr hr)
  have hh:r.h=t0\/OkN r.h:=(ON I.ok hr).imp id fun⟨p,hp,z⟩=>by rw[<- z];exact(OkR.all I.ok p (List.mem_reverse.mpr hp)).nm
  dsimp only
  split
  ·exact .l (I.wo _)
  ·rw[<- hn];exact .l (I.rai hr)
  ·rw[<- hn];exact .l (I.snk hr)
  ·split
   ·exact .r (by decide)
   ·exact .r (by decide)
   ·rename_i X r' hc
    obtain⟨_,ok',n',h',k'⟩:=(P9 hr okr hh hd hn.symm hc).val r' rfl
    rw[<- hn];exact .l (I.upd hr n' h' k' ok')
theorem Sr{rs:List Rz}(I:Iv rs){d:De}(hd:Ln rs d):Rok (res rs d):=by
 cases d with
 |put r =>
  show Rok (match stp rs r with
   |some n=>.inr n
   |none=>if rs.length<24 then .inl (rs++[r]) else .inr 5)
  cases hs:stp rs r with
  |some n=>exact .r (Nat.lt_trans (Xn hs) (by decide))
  |none =>
   dsimp only
   split
   ·rename_i h;exact .l (I.put hd hs h)
   ·exact .r (by decide)
 |_=>exact U9 I hd
def wdR:List Rz ⊕ Nat->Str
 |.inl _=>""
 |.inr n=>whS n
def mdR:List Rz ⊕ Nat->PyData
 |.inl l=>.list (l.map eZ)
 |.inr _=>.none
theorem V3(x:List Rz ⊕ Nat):ME x = .tuple [.str (wdR x),mdR x]:=by cases x<;>rfl
theorem SK:∀n:_root_.Fin 8,PyData.strOk (whS n.1)=true/\whS n.1≠"":=∅
theorem Xc{x:List Rz ⊕ Nat}(h:Rok x):PyData.strOk (wdR x)=true:=by
 cases x with
 |inl l=>exact(by decide +kernel:PyData.strOk ("":Str)=true)
 |inr n=>exact(SK ⟨n,h.2 n rfl⟩).1
def afR(rs:List Rz):List Rz ⊕ Nat->List Rz
 |.inl l=>l
 |.inr _=>rs
theorem Xj{rs:List Rz}(I:Iv rs){d:De}(hd:Ln rs d):∃ls,EU [.d (.list (rs.map eZ)),.d (eDe d)]=some (ME (res rs d),ls):=by
 refine⟨[.d (.list (rs.map eZ)),.d (eDe d)],?_⟩
 unfold EU
 dsimp only
 rw[Yo I hd]
 have h:=Sr I hd
 revert h
 cases res rs d with
 |inl l=>exact fun _=>rfl
 |inr n=>exact fun h=>if_pos (h.2 n rfl)
def sT(C:Option L)(rs:List Rz)(a b c d e:Option L):DS:=[C,some (.d (.list (rs.map eZ))),some (.d (.list (rs.map eZ))),a,b,c,d,e]
def A1:DB:=AL (AF FQ (AA (AB 1) (AA (dOp Ap (Af 0 EO (AA (dOp Ap (dC (.int 11)) (AB 3)) AD)) (AB 3)) AD))) (dN 4)
def A2:DB:=AL (AF Gx (AA (AB 1) (AA (AB 4) AD))) (dGT (AS (dN 5) (AS (dN 6) Az)))
def A3:DB:=AL (AF EU (AA (AB 2) (AA (AB 4) AD))) (dN 7)
def A4:DB:=AQ (AE (dOp fNe (dOp AJ (AB 7) (dC (.int 0))) (AB 5))) (AN (dC (.bool false))) AO
def A5:DB:=AQ (AE (dOp fEq (AB 5) (dC (.str "")))) (AK (AL (AB 6) (dN 1)) (AL (dOp AJ (AB 7) (dC (.int 1))) (dN 2))) AO
def A6:DB:=AQ (BZ (As (AE (AF DM (AA (AB 2) (AA (AB 1) AD))))) (AE (dOp Oq (AF OV (AA (AY Bq (AA (AB 2) AD)) AD)) (dC (.bool true))))) (AN (dC (.bool false))) AO
theorem Ux{ns:List Int}{rs:List Rz}(I:Iv rs)(k:Nat){o4 o5 o6 o7:Option L}(n4:nM o4)(n5:nM o5)(n6:nM o6)(n7:nM o7):∃rs' a b c d,nM a/\nM b/\nM c/\nM d/\Iv rs'/\AK A1 (AK A2 (AK A3 (AK A4 (AK A5 A6)))) (sT (some (.c (ns.map .int))) rs (oI k) o4 o5 o6 o7)=some (.nx (sT (some (.c (ns.map .int))) rs' (oI k) a b c d)):=by
 let C:Option L:=some (.c (ns.map .int))
 let D:PyData:=.list (rs.map eZ)
 let K:Option L:=oI (k:Int)
 obtain⟨v,l0,e0⟩:=Uq (ns:=ns) (k:=11+(k:Int)) (by omega)
 obtain⟨d,l1,e1,hd⟩:=P4 I (v+k)
 let τ0:=sT C rs K o4 o5 o6 o7
 let X:Option L:=some (.d (eDe d))
 let τ1:=sT C rs K X o5 o6 o7
 have z1:A1 τ0=some (.nx τ1):=AV (d:=eDe d) (τ1:=τ0) (AI (τ1:=τ0) (rs:=[.d D,.d (.int (v+k))]) (ds:=[D,.int (v+k)]) (acc (τ1:=τ0) rfl (acc (op2 (x:=.int v) (y:=.int k) (τ1:=τ0) (HF (xs:=ns.map .int) (τ1:=τ0) (rs:=[.d (.int (11+(k:Int)))]) (ds:=[.int (11+(k:Int))]) rfl rfl rfl e0) rfl rfl) rfl)) rfl e1) (CD (o:=o4) rfl n4)
 obtain⟨l2,e2⟩:=Yp I hd
 obtain⟨l3,e3⟩:=Xj I hd
 have ro:=Sr I hd
 revert e2 e3 ro
 generalize res rs d=x
 intro e2 e3 ro
 rw[V3]at e2 e3
 have so:=Xc ro
 let w:Tx:=⟨wdR x,so⟩
 let W:Option L:=oT w
 let M:Option L:=some (.d (mdR x))
 let T:Option L:=some (.d (.tuple [.str (wdR x),mdR x]))
 let τ2:=sT C rs K X W M o7
 let τ3:=sT C rs K X W M T
 have z2:A2 τ1=some (.nx τ2):=by
  refine AV (d:=.tuple [.str (wdR x),mdR x]) (τ1:=τ1) (AI (τ1:=τ1) (rs:=[.d D,.d (eDe d)]) (ds:=[D,eDe d]) rfl rfl e2) ?_
  show(dN 5 (.str (wdR x)) τ1).bind _=_
  rw[CD (o:=o5) rfl n5]
  show(dN 6 (mdR x) (sT C rs K X W o6 o7)).bind _=_
  rw[CD (o:=o6) rfl n6];rfl
 have z3:A3 τ2=some (.nx τ3):=AV (d:=.tuple [.str (wdR x),mdR x]) (τ1:=τ2) (AI (τ1:=τ2) (rs:=[.d D,.d (eDe d)]) (ds:=[D,eDe d]) rfl rfl e3) (CD (o:=o7) rfl n7)
 have z4:A4 τ3=some (.nx τ3):=(Ah (tst (op2 (x:=eT w) (y:=eT w) (τ1:=τ3) rfl rfl ((MC w w).trans (by rw[decide_eq_true rfl];rfl))))).trans rfl
 let τ5:=sT C (afR rs x) K X W M T
 have z5:A5 τ3=some (.nx τ5):=by
  have c:AE (dOp fEq (AB 5) (dC (.str ""))) τ3=some (decide (w=t0),τ3):=tst (op2 (x:=eT w) (y:=eT t0) (τ1:=τ3) rfl rfl (Gg w t0))
  cases x with
  |inl l =>
   rw[decide_eq_true (show w=t0 from Subtype.ext rfl)]at c
   exact(BK c).trans rfl
  |inr n =>
   rw[decide_eq_false fun z=>(SK ⟨n,ro.2 n rfl⟩).2 (congrArg Subtype.val z)]at c
   exact(Ah c).trans rfl
 have I':Iv (afR rs x):=by
  cases x with
  |inl l=>exact ro.1 l rfl
  |inr n=>exact I
 obtain⟨l6,e6⟩:=Mr (rs:=afR rs x) (Nat.le_trans I'.ln (by decide))
 obtain⟨l7,e7⟩:=Xe I'.ok I'.vt I'.ln
 let D':PyData:=.list ((afR rs x).map eZ)
 have z6:A6 τ5=some (.nx τ5):=(Ah (orB (DU (tst (b:=true) (AI (τ1:=τ5) (rs:=[.d D',.d D']) (ds:=[D',D']) rfl rfl e6))) (tst (b:=false) (op2 (x:=.bool true) (y:=.bool true) (τ1:=τ5) (AI (τ1:=τ5) (rs:=[.d D']) (ds:=[D']) (acc (EF (d:=D') (τ1:=τ5) rfl rfl) rfl) rfl e7) rfl rfl)))).trans rfl
 exact⟨afR rs x,X,W,M,T,Cv,Cv,Cv,Cv,I',(AH z1).trans ((AH z2).trans ((AH z3).trans ((AH z4).trans ((AH z5).trans z6))))⟩
theorem OW(ns:List Int)(h63:ns.length<=63):∃ls,LM [.c (ns.map .int)]=some (.bool true,ls):=by
 let C:Option L:=some (.c (ns.map .int))
 obtain⟨v,l0,e0⟩:=Uq (ns:=ns) (k:=0) (by decide)
 obtain⟨rs0,l1,e1,ok,vt,hl,_⟩:=Ny (ns:=ns) (f:=1) (m:=v % 11) (by decide) (by omega) (by omega)
 have I0:Iv rs0:=⟨ok,vt,by omega⟩
 let τi:DS:=[C,none,none,none,none,none,none,none]
 let τj:DS:=[C,some (.d (.list (rs0.map eZ))),none,none,none,none,none,none]
 let τ0:=sT C rs0 none none none none none
 have z1:AL (Af 0 Dr (AA (dC (.int 1)) (AA (dOp Aa (Af 0 EO (AA (dC (.int 0)) AD)) (dC (.int 11))) AD))) (dN 1) τi=some (.nx τj):=AV (d:=.list (rs0.map eZ)) (τ1:=τi) (HF (xs:=ns.map .int) (τ1:=τi) (rs:=[.d (.int 1),.d (.int (v % 11))]) (ds:=[.int 1,.int (v % 11)]) (acc (τ1:=τi) rfl (acc (op2 (x:=.int v) (y:=.int 11) (τ1:=τi) (HF (xs:=ns.map .int) (τ1:=τi) (rs:=[.d (.int 0)]) (ds:=[.int 0]) rfl rfl rfl e0) rfl (BP (by decide))) rfl)) rfl rfl e1) rfl
 have z2:AL (AY Bq (AA (AB 1) AD)) (dN 2) τj=some (.nx τ0):=AV (d:=.list (rs0.map eZ)) (τ1:=τj) (EF (d:=.list (rs0.map eZ)) (τ1:=τj) rfl rfl) rfl
 let L:Int:=((ns.map PyData.int).length:Nat)
 let m:Int:=if L-11<40 then L-11 else 40
 let N:Int:=if m>6 then m else 6
 have m1:m<=40:=by show(if L-11<40 then L-11 else 40)<=40;split<;>omega
 have N0:6<=N/\N<=40:=by show 6<=(if m>6 then m else 6)/\(if m>6 then m else 6)<=40;split<;>omega
 have lp:∃τ',BO (dN 3) (AK A1 (AK A2 (AK A3 (AK A4 (AK A5 A6))))) ((List.range N.toNat).map fun(k:Nat)=>PyData.int (k:Int)) τ0=some (.nx τ')/\∃rs a b c d e,nM a/\nM b/\nM c/\nM d/\nM e/\Iv rs/\τ'=sT C rs a b c d e:=by
  refine C4 (fun(pre:List Nat) τ=>∃rs a b c d e,nM a/\nM b/\nM c/\nM d/\nM e/\Iv rs/\τ=sT C rs a b c d e) ⟨rs0,none,none,none,none,none,BB,BB,BB,BB,BB,I0,rfl⟩ ?_
  rintro pre k post τ _ ⟨rs,a,b,c,d,e,na,nb,nc,nd,ne,I,rfl⟩
  obtain⟨rs',b',c',d',e',nb',nc',nd',ne',I',eb⟩:=Ux (ns:=ns) I k nb nc nd ne
  exact⟨_,_,CD (o:=a) rfl na,eb,rs',_,b',c',d',e',Cv,nb',nc',nd',ne',I',rfl⟩
 obtain⟨τ',e,rs,a,b,c,d,f,_,_,_,_,_,_,rfl⟩:=lp
 rw[<- Ic]at e
 refine⟨[.c (ns.map .int)],?_⟩
 unfold LM
 refine AR (τ:=sT C rs a b c d f) ?_ rfl rfl
 exact(AH z1).trans ((AH z2).trans ((AH ((C6 (J0 (n:=N) (τ1:=τ0) rfl (by omega) (by omega))).trans e)).trans rfl))
theorem all_mk{l:PySem.W.OpenLaw}{w:World}{K:PySem.W.Frag}{h:Heap}{mg:Str->Option Value}{fa:Addr}(X:K.In h)(G:h.Ns mainGlobals mg)(hfa:mg "law"=some (.ref fa))
  (d0:DE K "_law_name_of" Jw)
  (d1:DE K "_law_step_of" Jt)
  (d2:DE K "_law_up" So)
  (d3:DE K "_law_low" QU)
  (d4:DE K "_law_share_of" IZ)
  (d5:DE K "_law_paint_of" Ib)
  (d6:DE K "_law_stencil_of" Gp)
  (d7:DE K "_law_size_of" Ju)
  (d8:DE K "_law_word_of" Js)
  (d9:DE K "_law_data_of" Jy)
  (d10:DE K "_law_kinds" MQ)
  (d11:DE K "_law_row_of" K6)
  (d12:DE K "_law_cell_at" Jz)
  (d13:DE K "_law_big" QV)
  (d14:DE K "_law_scene_of" Ia)
  (d15:DE K "_law_deed_of" Jx)
  (d16:DE K "_law_row_at" K7)
  (d17:DE K "is_text_of" IW)
  (d18:DE K "is_name" MN)
  (d19:DE K "is_truth" Ky)
  (d20:DE K "is_whole" Kx)
  (d21:DE K "is_within" Jn)
  (d22:DE K "common_divisor" Fm)
  (d23:DE K "is_share" K0)
  (d24:DE K "is_bounded_share" Ep)
  (d25:DE K "is_paint" K3)
  {f26:Addr} {g26:FuncData} (d26:DF K "is_plate" K1 f26 g26)
  {f27:Addr} {g27:FuncData} (d27:DF K "is_band" MP f27 g27)
  (d28:DE K "is_sign" MM)
  (d29:DE K "is_word_text" Gn)
  {f30:Addr} {g30:FuncData} (d30:DF K "is_word" MK f30 g30)
  (d31:DE K "are_stencil_rows" Er)
  {f32:Addr} {g32:FuncData} (d32:DF K "is_stencil" IX f32 g32)
  {f33:Addr} {g33:FuncData} (d33:DF K "is_empty" K5 f33 g33)
  {f34:Addr} {g34:FuncData} (d34:DF K "is_glass" K4 f34 g34)
  (d35:DE K "is_place" K2)
  {f36:Addr} {g36:FuncData} (d36:DF K "is_window" Jo f36 g36)
  {f37:Addr} {g37:FuncData} (d37:DF K "is_turn" ML f37 g37)
  {f38:Addr} {g38:FuncData} (d38:DF K "are_tiles" Jr f38 g38)
  (d39:DE K "is_data" MO)
  (d40:DE K "row_name" Ks)
  (d41:DE K "row_holder" IU)
  (d42:DE K "row_shown" Jl)
  (d43:DE K "row_kind" Kt)
  (d44:DE K "row_data" Kv)
  (d45:DE K "row_x" QS)
  (d46:DE K "row_y" QR)
  (d47:DE K "is_row" Nz)
  (d48:DE K "_law_with" N1)
  (d49:DE K "_law_put" QT)
  (d50:DE K "row_found" Jm)
  (d51:DE K "holders_of" IY)
  (d52:DE K "parts_in" Kw)
  (d53:DE K "_law_ordered" Jv)
  (d54:DE K "_law_deed" N2)
  (d55:DE K "row_of" Kr)
  (d56:DE K "row_with_shown" Fj)
  (d57:DE K "row_with_place" Fl)
  (d58:DE K "row_with_data" GZ)
  (d59:DE K "row_turned" IS)
  (d60:DE K "row_sized" Jk)
  (d61:DE K "row_done" Ku)
  (d62:DE K "rows_changed" Gk)
  (d63:DE K "is_holder" Jp)
  (d64:DE K "is_tiles" Kz)
  (d65:DE K "vet_row" JM)
  (d66:DE K "vet" Sn)
  (d67:DE K "rows_put" Kq)
  (d68:DE K "names_with" IV)
  (d69:DE K "rows_without" Gj)
  (d70:DE K "rows_with" Ji)
  (d71:DE K "rows_raised" Hr)
  (d72:DE K "place_behind" Gm)
  (d73:DE K "rows_sunk" Jj)
  (d74:DE K "deed_done" Jq)
  {f75:Addr} {g75:FuncData} (d75:DF K "_law_which" Aw f75 g75)
  {f76:Addr} {g76:FuncData} (d76:DF K "_law_told" CK f76 g76)
  (d77:DE K "_law_same_rows" Hs)
  (d78:DE K "law" Wy)
  (z_ValueError:PySem.W.nsIn K mainGlobals "ValueError"=some none)
  (z_abs:PySem.W.nsIn K mainGlobals "abs"=some none)
  (z_all:PySem.W.nsIn K mainGlobals "all"=some none)
  (z_any:PySem.W.nsIn K mainGlobals "any"=some none)
  (z_bool:PySem.W.nsIn K mainGlobals "bool"=some none)
  (z_enumerate:PySem.W.nsIn K mainGlobals "enumerate"=some none)
  (z_int:PySem.W.nsIn K mainGlobals "int"=some none)
  (z_isinstance:PySem.W.nsIn K mainGlobals "isinstance"=some none)
  (z_len:PySem.W.nsIn K mainGlobals "len"=some none)
  (z_list:PySem.W.nsIn K mainGlobals "list"=some none)
  (z_max:PySem.W.nsIn K mainGlobals "max"=some none)
  (z_min:PySem.W.nsIn K mainGlobals "min"=some none)
  (z_range:PySem.W.nsIn K mainGlobals "range"=some none)
  (z_str:PySem.W.nsIn K mainGlobals "str"=some none)
  (z_tuple:PySem.W.nsIn K mainGlobals "tuple"=some none)
  {ad_FORMS:Addr} {es_FORMS:Array DictEntry} {nn_FORMS:Nat} (kn_FORMS:PySem.W.nsIn K mainGlobals "FORMS"=some (some (.ref ad_FORMS))) (kl_FORMS:K.lookup ad_FORMS=some ⟨.type "dict",none,.dict es_FORMS nn_FORMS,#[]⟩) (kq_FORMS:KfL w es_FORMS.toList [("plate",f26),("band",f27),("word",f30),("stencil",f32),("group",f33),("glass",f34),("window",f36),("turn",f37),("tiles",f38),("mask",f33)]) (hs_FORMS:(ad_FORMS==sysModules)=false)
  {uv_HOLDERS:Value} (kn_HOLDERS:PySem.W.nsIn K mainGlobals "HOLDERS"=some (some uv_HOLDERS)) (kt_HOLDERS:Bb ⟨K,w⟩ (.tuple [(.str "group"),(.str "glass"),(.str "window"),(.str "turn"),(.str "tiles"),(.str "mask")]) uv_HOLDERS=true)
  {tk_MOST_HOLDERS:Tok} (kn_MOST_HOLDERS:PySem.W.nsIn K mainGlobals "MOST_HOLDERS"=some (some (.int 6 tk_MOST_HOLDERS)))
  {tk_MOST_ROWS:Tok} (kn_MOST_ROWS:PySem.W.nsIn K mainGlobals "MOST_ROWS"=some (some (.int 24 tk_MOST_ROWS)))
  {uv_NAME_SIGNS:Value} (kn_NAME_SIGNS:PySem.W.nsIn K mainGlobals "NAME_SIGNS"=some (some uv_NAME_SIGNS)) (kt_NAME_SIGNS:Bb ⟨K,w⟩ (.str "abcdefghijklmnopqrstuvwxyz0123456789") uv_NAME_SIGNS=true)
  {ad_SIGNS:Addr} {es_SIGNS:Array DictEntry} {nn_SIGNS:Nat} (kn_SIGNS:PySem.W.nsIn K mainGlobals "SIGNS"=some (some (.ref ad_SIGNS))) (kl_SIGNS:K.lookup ad_SIGNS=some ⟨.type "dict",none,.dict es_SIGNS nn_SIGNS,#[]⟩) (kq_SIGNS:KdL ⟨K,w⟩ w es_SIGNS.toList Fg) (hs_SIGNS:(ad_SIGNS==sysModules)=false)
  {c_NoPart:Addr} (ac_NoPart:PySem.W.nsIn K mainGlobals "NoPart"=some (some (.ref c_NoPart))) (qc_NoPart:PySem.W.excIn K c_NoPart [.type "ValueError",.type "Exception",.type "BaseException",.type "object"] "ValueError.__new__"=true)
  {c_Twice:Addr} (ac_Twice:PySem.W.nsIn K mainGlobals "Twice"=some (some (.ref c_Twice))) (qc_Twice:PySem.W.excIn K c_Twice [.type "ValueError",.type "Exception",.type "BaseException",.type "object"] "ValueError.__new__"=true)
  {c_NoHolder:Addr} (ac_NoHolder:PySem.W.nsIn K mainGlobals "NoHolder"=some (some (.ref c_NoHolder))) (qc_NoHolder:PySem.W.excIn K c_NoHolder [.type "ValueError",.type "Exception",.type "BaseException",.type "object"] "ValueError.__new__"=true)
  {c_TooDeep:Addr} (ac_TooDeep:PySem.W.nsIn K mainGlobals "TooDeep"=some (some (.ref c_TooDeep))) (qc_TooDeep:PySem.W.excIn K c_TooDeep [.type "ValueError",.type "Exception",.type "BaseException",.type "object"] "ValueError.__new__"=true)
  {c_Nested:Addr} (ac_Nested:PySem.W.nsIn K mainGlobals "Nested"=some (some (.ref c_Nested))) (qc_Nested:PySem.W.excIn K c_Nested [.type "ValueError",.type "Exception",.type "BaseException",.type "object"] "ValueError.__new__"=true)
  {c_TooMany:Addr} (ac_TooMany:PySem.W.nsIn K mainGlobals "TooMany"=some (some (.ref c_TooMany))) (qc_TooMany:PySem.W.excIn K c_TooMany [.type "ValueError",.type "Exception",.type "BaseException",.type "object"] "ValueError.__new__"=true)
  {c_NoName:Addr} (ac_NoName:PySem.W.nsIn K mainGlobals "NoName"=some (some (.ref c_NoName))) (qc_NoName:PySem.W.excIn K c_NoName [.type "ValueError",.type "Exception",.type "BaseException",.type "object"] "ValueError.__new__"=true)
  {c_WrongKind:Addr} (ac_WrongKind:PySem.W.nsIn K mainGlobals "WrongKind"=some (some (.ref c_WrongKind))) (qc_WrongKind:PySem.W.excIn K c_WrongKind [.type "ValueError",.type "Exception",.type "BaseException",.type "object"] "ValueError.__new__"=true)
  {c_NoStep:Addr} (ac_NoStep:PySem.W.nsIn K mainGlobals "NoStep"=some (some (.ref c_NoStep))) (qc_NoStep:PySem.W.excIn K c_NoStep [.type "ValueError",.type "Exception",.type "BaseException",.type "object"] "ValueError.__new__"=true)
  {cSE:Addr}
  (aSE:PySem.W.nsIn K mainGlobals "SceneError"=some (some (.ref cSE)))
  (xaK:L2.excAll K cSE [c_NoPart,c_Twice,c_NoHolder,c_TooDeep,c_Nested,c_TooMany,c_NoName,c_WrongKind,c_NoStep] 8=true)
  : ∃fd:FuncData,(∀(s:Shared) (v:Value),BindsTo s fd ⟨[v],[]⟩ [("_law_script",v)])/\∀base:Heap,K.In base->base.Ns mainGlobals mg->FnOk l.prog w K mg base CX0 13 fa fd ["_law_script"] (spD ⟨K,w⟩ LM false):=by
 refine DE.law d78 X G hfa fun base _ _ F=>?_
 let Z:Zz:=⟨l.prog,w,K,mg,base⟩
 have D:∀{x st},DE K x st->Dd Z x st:=fun d=>⟨h,X,G,d⟩
 have z_ValueError:zQ Z "ValueError":=PySem.W.mg_none_of X G z_ValueError
 have z_abs:zQ Z "abs":=PySem.W.mg_none_of X G z_abs
 have z_all:zQ Z "all":=PySem.W.mg_none_of X G z_all
 have z_any:zQ Z "any":=PySem.W.mg_none_of X G z_any
 have z_bool:zQ Z "bool":=PySem.W.mg_none_of X G z_bool
 have z_enumerate:zQ Z "enumerate":=PySem.W.mg_none_of X G z_enumerate
 have z_int:zQ Z "int":=PySem.W.mg_none_of X G z_int
 have z_isinstance:zQ Z "isinstance":=PySem.W.mg_none_of X G z_isinstance
 have z_len:zQ Z "len":=PySem.W.mg_none_of X G z_len
 have z_list:zQ Z "list":=PySem.W.mg_none_of X G z_list
 have z_max:zQ Z "max":=PySem.W.mg_none_of X G z_max
 have z_min:zQ Z "min":=PySem.W.mg_none_of X G z_min
 have z_range:zQ Z "range":=PySem.W.mg_none_of X G z_range
 have z_str:zQ Z "str":=PySem.W.mg_none_of X G z_str
 have z_tuple:zQ Z "tuple":=PySem.W.mg_none_of X G z_tuple
 have kc_HOLDERS:kaZ Z "HOLDERS" (.tuple [(.str "group"),(.str "glass"),(.str "window"),(.str "turn"),(.str "tiles"),(.str "mask")]) uv_HOLDERS:=And.intro (PySem.W.mg_of X G kn_HOLDERS) kt_HOLDERS
 have kc_MOST_HOLDERS:kiZ Z "MOST_HOLDERS" 6 tk_MOST_HOLDERS:=PySem.W.mg_of X G kn_MOST_HOLDERS
 have kc_MOST_ROWS:kiZ Z "MOST_ROWS" 24 tk_MOST_ROWS:=PySem.W.mg_of X G kn_MOST_ROWS
 have kc_NAME_SIGNS:kaZ Z "NAME_SIGNS" (.str "abcdefghijklmnopqrstuvwxyz0123456789") uv_NAME_SIGNS:=And.intro (PySem.W.mg_of X G kn_NAME_SIGNS) kt_NAME_SIGNS
 have kc_SIGNS:kdZ Z "SIGNS" Fg:=⟨_,PySem.W.mg_of X G kn_SIGNS,⟨⟨es_SIGNS,nn_SIGNS,kl_SIGNS,kq_SIGNS⟩⟩,hs_SIGNS⟩
 let cls:Nat->Addr:=fun n=>[c_NoPart,c_Twice,c_NoHolder,c_TooDeep,c_Nested,c_TooMany,c_NoName,c_WrongKind,c_NoStep].getD n 0
 have hm_NoPart:clZ Z cls 0 "NoPart":=⟨PySem.W.mg_of X G ac_NoPart,qc_NoPart⟩
 have hm_Twice:clZ Z cls 1 "Twice":=⟨PySem.W.mg_of X G ac_Twice,qc_Twice⟩
 have hm_NoHolder:clZ Z cls 2 "NoHolder":=⟨PySem.W.mg_of X G ac_NoHolder,qc_NoHolder⟩
 have hm_TooDeep:clZ Z cls 3 "TooDeep":=⟨PySem.W.mg_of X G ac_TooDeep,qc_TooDeep⟩
 have hm_Nested:clZ Z cls 4 "Nested":=⟨PySem.W.mg_of X G ac_Nested,qc_Nested⟩
 have hm_TooMany:clZ Z cls 5 "TooMany":=⟨PySem.W.mg_of X G ac_TooMany,qc_TooMany⟩
 have hm_NoName:clZ Z cls 6 "NoName":=⟨PySem.W.mg_of X G ac_NoName,qc_NoName⟩
 have hm_WrongKind:clZ Z cls 7 "WrongKind":=⟨PySem.W.mg_of X G ac_WrongKind,qc_WrongKind⟩
 have c53:HP Z:=ND (D d0) z_range
 have c11:EX Z:=NA (D d1)
 have c59:Nq Z:=Va (D d2)
 have c66:Nt Z:=Th (D d3) z_abs
 have c36:FE Z:=KO (D d6) z_range z_tuple
 have c51:HM Z:=NB (D d7)
 have c52:HL Z:=M9 (D d8) z_range
 have c32:He Z:=Po (D d10)
 have c50:HS Z:=NH (D d12) z_len
 have c14:FF Z:=OM (D d16)
 have c15:Eh Z:=Lw (D d17) z_len z_str z_isinstance z_all
 have c22:GP Z:=OD (D d19) z_bool z_isinstance
 have c21:GO Z:=OC (D d20) z_bool z_isinstance z_int
 have c28:EL Z:=Ij (D d22) z_abs
 have c60:JZ Z:=Pk (D d28) kc_SIGNS
 have c26:IL Z:=OK (D ⟨_,_,d33⟩) z_len
 have c00:CC Z:=N8 (D d40)
 have c03:Ck Z:=Lu (D d41)
 have c54:HI Z:=M1 (D d42)
 have c01:Cj Z:=N9 (D d43)
 have c13:E9 Z:=OA (D d44)
 have c68:Np Z:=Tf (D d45)
 have c67:Nn Z:=Te (D d46)
 have c30:EI Z:=Ih (D d56)
 have c29:EJ Z:=Ii (D d57)
 have c05:Cq Z:=JO (D d58)
 have c42:Ff Z:=LI (D d77) z_list z_isinstance z_len z_range z_bool
 have c43:GV Z:=Lz (D d4) c66
 have c49:Kh Z:=Ti (D d13) c50 z_range
 have c61:Ja Z:=Pl (D d18) c15 kc_NAME_SIGNS
 have c02:Ce Z:=M5 (D d21) c21
 have c58:II Z:=OF (D d23) c21 c28 z_len z_tuple z_isinstance
 have c37:FC Z:=KN (D d29) c60 z_len z_str z_isinstance z_all
 have c20:Dc Z:=Hk (D d31) c15 z_len z_tuple z_isinstance z_all
 have c04:C9 Z:=M3 (D d50) c00
 have X_row_turned:GL Z cls:=LJ (D d59) c01 c13 c05 hm_WrongKind
 have X_row_sized:HG Z cls:=L9 (D d60) c01 c05 c13 hm_WrongKind
 have c19:FY Z:=M7 (D d63) c01 kc_HOLDERS
 have c44:GY Z:=L8 (D d5) c43
 have c07:Cm Z:=Hj (D d24) c58
 have c23:GU Z:=OH (D d35) c02
 have c47:JY Z:=Pj (D ⟨_,_,d37⟩) c22 c02 z_len
 have c35:HK Z:=M8 (D ⟨_,_,d38⟩) c02 z_len
 have c10:Dv Z:=Ly (D d51) c04 c03
 have X_row_of:Li Z cls:=Pp (D d55) c04 hm_NoName
 have c12:F6 Z:=RW (D d55) c04
 have X_row_done:IH Z cls:=NK (D d61) c29 c05 c30 X_row_turned X_row_sized
 have c17:FZ Z:=NG (D d9) c51 c11 c44 c52 c36
 have c08:EK Z:=OI (D d25) c07
 have c40:IK Z:=OJ (D ⟨_,_,d34⟩) c07 z_len
 have c34:HJ Z:=M6 (D ⟨_,_,d36⟩) c23 c02 z_len
 have c24:GN Z:=OB (D d52) c10 c00
 have c27:GQ Z:=OE (D d64) c01 c12
 have c38:FA Z:=KL (D d72) c12
 have c25:GX Z:=OL (D d11) c53 c59 c32 c11 c17 z_len
 have c39:IJ Z:=OG (D ⟨_,_,d26⟩) c08 c02 z_len
 have c45:Jc Z:=Pn (D ⟨_,_,d27⟩) c08 c02 z_len
 have c46:JX Z:=Ph (D ⟨_,_,d30⟩) c08 c37 z_len
 have c31:GS Z:=Lx (D ⟨_,_,d32⟩) c08 c20 z_len
 have c55:HN Z:=NC (D d53) c24 c14 z_int
 have c16:Eg Z:=Lv (D d68) c24
 have c48:GW Z:=L7 (D d14) c25 c49 z_range
 have c57:HR Z:=NF (D d15) c25 c11 c17 z_len
 have M_is_plate:=d26.m X G
 have M_is_band:=d27.m X G
 have M_is_word:=d30.m X G
 have M_is_stencil:=d32.m X G
 have M_is_empty:=d33.m X G
 have M_is_glass:=d34.m X G
 have M_is_window:=d36.m X G
 have M_is_turn:=d37.m X G
 have M_are_tiles:=d38.m X G
 have M_is_empty:=d33.m X G
 have kc5_FORMS:kfZ Z 5 "FORMS" Bm:=⟨_,[("plate",f26),("band",f27),("word",f30),("stencil",f32),("group",f33),("glass",f34),("window",f36),("turn",f37),("tiles",f38),("mask",f33)],PySem.W.mg_of X G kn_FORMS,⟨⟨es_FORMS,nn_FORMS,kl_FORMS,kq_FORMS⟩⟩,hs_FORMS,(.cons ⟨_,_,c39.mono (by decide),M_is_plate⟩ (.cons ⟨_,_,c45.mono (by decide),M_is_band⟩ (.cons ⟨_,_,c46.mono (by decide),M_is_word⟩ (.cons ⟨_,_,c31.mono (by decide),M_is_stencil⟩ (.cons ⟨_,_,c26.mono (by decide),M_is_empty⟩ (.cons ⟨_,_,c40.mono (by decide),M_is_glass⟩ (.cons ⟨_,_,c34.mono (by decide),M_is_window⟩ (.cons ⟨_,_,c47.mono (by decide),M_is_turn⟩ (.cons ⟨_,_,c35.mono (by decide),M_are_tiles⟩ (.cons ⟨_,_,c26.mono (by decide),M_is_empty⟩ .nil))))))))))⟩
 have c62:Jb Z:=Pm (D d39) c39 c45 c46 c31 c26 c40 c34 c47 c35 z_tuple z_isinstance z_str kc5_FORMS
 have c06:C8 Z:=KJ (D d69) c16 c00
 have c18:FX Z:=Mz (D d70) c16 c00
 have c09:FD Z:=RX (D d47) c61 c00 c03 c23 c67 c68 c62 c13 c01 c22 c54 z_len z_tuple z_isinstance
 have c41:Fe Z:=LG (D d71) c06 c18
 have c56:HH Z:=M0 (D d73) c06 c38 c03 c12 c18
 have c63:Lj Z:=RY (D d48) c09 z_int
 have c69:Nr Z:=Tg (D d49) c09 c14 c32 c59 z_len
 have X_rows_changed:E8 Z cls:=JP (D d62) c12 c09 c00 hm_NoPart X_row_done
 have X_vet_row:JW Z cls:=OP (D d65) c09 c04 c00 c03 c19 c10 c27 c01 z_len z_any kc_MOST_HOLDERS hm_NoPart hm_Twice hm_NoHolder hm_TooDeep hm_Nested
 have c33:Hd Z:=Pg (D d65) c09 c04 c00 c03 c19 c10 c27 c01 z_len z_any kc_MOST_HOLDERS
 have c64:Lk Z:=Ra (D d54) c69 c14 c55 c63
 have X_vet:Ul Z cls:=Vd (D d66) c33 z_enumerate z_len kc_MOST_ROWS hm_TooMany X_vet_row
 have c70:Uo Z:=YE (D d66) c33 z_enumerate z_len kc_MOST_ROWS
 have X_rows_put:IG Z cls:=NJ (D d67) X_vet
 have X_deed_done:J8 Z cls:=MA (D d74) c06 c41 c56 X_rows_put X_row_of X_rows_changed
 have c65:O6 Z:=d76.cal X G (RZ d76.2 (cs:=[c_NoPart,c_Twice,c_NoHolder,c_TooDeep,c_Nested,c_TooMany,c_NoName,c_WrongKind,c_NoStep]) rfl X_deed_done d75.2 (d75.m X G) d75.2.kp (d75.b ⋯) (PySem.W.mg_of X G aSE) xaK (PySem.W.mg_of X G ac_NoPart) (PySem.W.mg_of X G ac_Twice) (PySem.W.mg_of X G ac_NoHolder) (PySem.W.mg_of X G ac_TooDeep) (PySem.W.mg_of X G ac_Nested) (PySem.W.mg_of X G ac_TooMany) (PySem.W.mg_of X G ac_NoName) (PySem.W.mg_of X G ac_WrongKind) (PySem.W.mg_of X G ac_NoStep) z_isinstance z_ValueError z_len) ⋯
 exact YF (Z:=Z) F c48 c49 c57 c64 c65 c70 c42 z_list z_len z_min z_max z_range
theorem entry{K:KW}{H:Hp}{a:Addr}{ns:List Int}{Q:VK}{X:XK}(hS:SqL K H a (ns.map V.int))(h63:ns.length<=63)(q:∀H',Q (.bl true) H'):spD K LM false [.ref a] H Q X:=by
 obtain⟨ls,e⟩:=OW ns h63
 refine⟨fun _=>False,fun _=>False,[.c (ns.map PyData.int)],.bool true,ls,⟨rfl,fun i x e=>?_,fun i x e=>?_,fun i x e=>?_,fun i j xs ys b e=>?_,fun _ h=>h.elim,fun _ h=>h.elim,GR.nil fun i x e=>?_⟩,e,fun v H' _ _ res=>?_⟩
 ·match i,e with
  |0,e=>cases e
  |i+1,e=>cases e
 ·match i,e with
  |0,e=>exact absurd (Option.some.inj (Option.some.inj e)).symm Ow.not_c
  |i+1,e=>cases e
 ·match i,e with
  |0,e =>
   cases e
   exact⟨a,ns.map V.int,rfl,UO hS,Of ns⟩
  |i+1,e=>cases e
 ·match i,e with
  |0,e=>exact absurd (Option.some.inj (Option.some.inj e)).symm Ow.not_c
  |i+1,e=>cases e
 ·match i,e with
  |0,e=>cases e
  |i+1,e=>cases e
 ·cases (show v = .bl true from res)
  exact q H'
theorem walk{l:PySem.W.OpenLaw}{q:Program}{loose:List Str}{XP:(Str->Option Value)->Heap->Prop}{YP:World->Heap->Prop}{d:DefRec}{K:Params->PySem.W.Frag}(hn:l.most=some 63)(hdf:d.params.defaults=[])
  (hY:∀(w:World) (h:Heap),YP w h->(K w.params).In h)
  (F : ∀ (w : World) (mg : Str -> Option Value) (fa : Addr) (h : Heap), (K w.params).In h -> h.Ns mainGlobals mg -> mg d.name = some (.ref fa) ->
   ∃fd:FuncData,(∀(s:Shared) (u:Value),BindsTo s fd ⟨[u],[]⟩ [("_law_script",u)])/\∀base:Heap,(K w.params).In base->base.Ns mainGlobals mg->FnOk l.prog w (K w.params) mg base CX0 13 fa fd ["_law_script"] (spD ⟨K w.params,w⟩ LM false)) :
  PySem.W.WalkO q loose XP YP l.row.toRowW d [] (fun f vs=>PySem.call f vs) :=
 L2.walk_of (n:=63) (k:=13) (x:="_law_script") (CX:=fun _=>CX0) (sp:=fun w=>spD ⟨K w.params,w⟩ LM false) hn (by decide) hdf ⟨rfl,by decide,by decide⟩ hY F (fun _ _ a ns hl _ hS=>entry hS hl fun _=>rfl) fun _ _ _ _ _ z=>z
end My
namespace PySem.W.Fast
def tw10353184125126257527:=0
def tw181109333662702611:=0
def tw9609621798398098630:=0
def tw17019465639024604731:=0
def tw17045984830779826510:=0
def tw11875485282644525449:=0
def tw11296516538238549204:=0
def tw2263938542249084662:=0
def tw1322975062033226035:=0
def tw418760835221016769:=0
def tw9861281676168752577:=0
def tw2678140883080229545:=0
def tw10147958478712021188:=0
def tw14804302039717437515:=0
def tw6195627426860401945:=0
def tw12866836911022433953:=0
def tw1630506085879946955:=0
def tw3291810272381882994:=0
def tw17080055611188089122:=0
def tw10414702225410338751:=0
def tw13028567333016818493:=0
def tw5305117518932101612:=0
def tw5172469504296121552:=0
def tw3302662958258388144:=0
def tw5233731741421640167:=0
def tw9721864745618732139:=0
def tw5572984676721075290:=0
def tw516751681529675049:=0
def tw4848161021646187523:=0
def tw1946123315956299901:=0
def tw5171034291806184772:=0
def tw17837646781904929989:=0
def tw7777867800084751909:=0
def tw6447199082558814454:=0
def tw2449802666495332713:=0
def tw2363315100246743170:=0
def tw12895222039446304989:=0
def tw1958541432172835616:=0
def tw16170349362159730113:=0
def tw9266558191337198075:=0
def tw16264199971309408300:=0
def tw9120941127340226588:=0
def tw6915132013493692106:=0
def tw17152804151979259282:=0
def tw4779630185777254904:=0
def tw18319585222523570485:=0
def tw15270829256319568700:=0
def tw18126530342074973287:=0
def tw3924863114250672751:=0
def tw637639411313674486:=0
def tw17187471785165896057:=0
def tw3634423389699577989:=0
def tw13743305325128508375:=0
def tw2181099496736338288:=0
def tw1897398279529222964:=0
def tw14764355465654912725:=0
def tw1838890550696077610:=0
def tw9494714543101628209:=0
def tw10443388480230246428:=0
def tw3985241214431205850:=0
def tw6110936626456939329:=0
def tw14576328487313481894:=0
def tw11333462550970332683:=0
def tw16521227660740905121:=0
def tw1603387913290047930:=0
def tw10706930574122196506:=0
def tw16325366576680395056:=0
def tw3596445423800829133:=0
def tw3681927661584485849:=0
def tw13888289064489180230:=0
def tw1730963544028226163:=0
def tw13618210188170647609:=0
def tw6394344673452347937:=0
def tw11191605933612659151:=0
def tw16483517124103541939:=0
def tw564484535963959385:=0
def tw10883610825748524051:=0
def tw2837182669016360799:=0
def tw5398110338372003342:=0
def tw12381267033471131737:=0
def tw16769857409203006232:=0
def tw899221561577074058:=0
def tw13944082184258360648:=0
def tw13500788295586768765:=0
def tw3441024282060117673:=0
def tw7903807297630082162:=0
def tw46908933940583150:=0
def tw1106253413391780463:=0
def tw384151390261696617:=0
def tw8244235437741288088:=0
def tw4697039510109926384:=0
def tw16978475370116852419:=0
def tw4690979499865169462:=0
def tw6158312073216400235:=0
def tw12852330036933594465:=0
def tw17417725330616810387:=0
def tw14585005630642972812:=0
def tw11919691754610563106:=0
def tw17754292419374238903:=0
def tw6288035141748056154:=0
def tw11306234969404446457:=0
def tw281402209930095148:=0
def tw6173834279674486668:=0
def tw5222387075168021216:=0
def tw6985439508949437652:=0
def tw9296170302161098268:=0
def tw9577467649392341799:=0
def tw17871080997041774637:=0
def tw1155351537930164223:=0
def tw377034780617007046:=0
def tw11368180877603355244:=0
def tw13188608664006261317:=0
def tw2853266087821574428:=0
def tw15640341963909255211:=0
def tw7016748419451666254:=0
def tw3294124772282427708:=0
def tw17923039058038721808:=0
def tw14344633310820026264:=0
def tw3967102458287684064:=0
def tw11216653459467384519:=0
def tw15549613239952982108:=0
def tw16481757920724026094:=0
def tw8024444388697138888:=0
def tw1243994311732729890:=0
def tw11043925432781993125:=0
def tw6187159188251092351:=0
def tw3968230020191845625:=0
def tw2196403606763841100:=0
def tw15638501981860882330:=0
def tw4547392340036878659:=0
def tw3589699504902607923:=0
def tw1998273693244774519:=0
def tw6764325780034593288:=0
def tw1411375124270689147:=0
def tw11504420551843494281:=0
def tw10321064287237272267:=0
def tw6683190124599771270:=0
def tw10402108261601460732:=0
def tw1766104600376743416:=0
def tw8119800355654617556:=0
def tw8602620195871803286:=0
def tw7345638163895406969:=0
def tw7615718764927470466:=0
def tw12455593030131405720:=0
def tw13156303436632199690:=0
def tw13197690134653905522:=0
def tw4367006744462770848:=0
def tw2365895880867891535:=0
def tw12324061978396553013:=0
end PySem.W.Fast
open PySem PySem.W PyProof.Rows
set_option maxRecDepth 100000 in
set_option maxHeartbeats 0 in
theorem PySem.Challenge.cw_scenemend_k47_whole_rows_of_deeds_holds : PySem.Challenge.rw_scenemend_k47_whole_rows_of_deeds.Holds := by
 w_on;o_law;k_head;(case hw=>w_witness2)
 k_fill
 refine My.walk (l:=PySem.Challenge.rw_scenemend_k47_whole_rows_of_deeds) rfl rfl (fun w h Y=>PySem.W.kIn_of Y) ?F
 case F =>
  intro w mg fa h KX G hmg
  refine' My.all_mk KX G hmg ?d0 ?d1 ?d2 ?d3 ?d4 ?d5 ?d6 ?d7 ?d8 ?d9 ?d10 ?d11 ?d12 ?d13 ?d14 ?d15 ?d16 ?d17 ?d18 ?d19 ?d20 ?d21 ?d22 ?d23 ?d24 ?d25 ?d26 ?d27 ?d28 ?d29 ?d30 ?d31 ?d32 ?d33 ?d34 ?d35 ?d36 ?d37 ?d38 ?d39 ?d40 ?d41 ?d42 ?d43 ?d44 ?d45 ?d46 ?d47 ?d48 ?d49 ?d50 ?d51 ?d52 ?d53 ?d54 ?d55 ?d56 ?d57 ?d58 ?d59 ?d60 ?d61 ?d62 ?d63 ?d64 ?d65 ?d66 ?d67 ?d68 ?d69 ?d70 ?d71 ?d72 ?d73 ?d74 ?d75 ?d76 ?d77 ?d78 ?z_ValueError ?z_abs ?z_all ?z_any ?z_bool ?z_enumerate ?z_int ?z_isinstance ?z_len ?z_list ?z_max ?z_min ?z_range ?z_str ?z_tuple ?kn_FORMS ?kl_FORMS ?kq_FORMS ?hs_FORMS ?kn_HOLDERS ?kt_HOLDERS ?kn_MOST_HOLDERS ?kn_MOST_ROWS ?kn_NAME_SIGNS ?kt_NAME_SIGNS ?kn_SIGNS ?kl_SIGNS ?kq_SIGNS ?hs_SIGNS ?ac_NoPart ?qc_NoPart ?ac_Twice ?qc_Twice ?ac_NoHolder ?qc_NoHolder ?ac_TooDeep ?qc_TooDeep ?ac_Nested ?qc_Nested ?ac_TooMany ?qc_TooMany ?ac_NoName ?qc_NoName ?ac_WrongKind ?qc_WrongKind ?ac_NoStep ?qc_NoStep ?aSE ?xaK
  (case d26|d27|d30|d32|d33|d34|d36|d37|d38|d75|d76=>(refine' L2.DF.mk ?a ?b ?c ?d;(case a=>k_is);(case b=>k_is);(case c=>k_is);(case d=>k_is)))
  (case d0|d1|d2|d3|d4|d5|d6|d7|d8|d9|d10|d11|d12|d13|d14|d15|d16|d17|d18|d19|d20|d21|d22|d23|d24|d25|d28|d29|d31|d35|d39|d40|d41|d42|d43|d44|d45|d46|d47|d48|d49|d50|d51|d52|d53|d54|d55|d56|d57|d58|d59|d60|d61|d62|d63|d64|d65|d66|d67|d68|d69|d70|d71|d72|d73|d74|d77|d78=>(refine' Exists.intro _ (Exists.intro _ (L2.DF.mk ?a ?b ?c ?d));(case a=>k_is);(case b=>k_is);(case c=>k_is);(case d=>k_is)))
  (case z_ValueError|z_abs|z_all|z_any|z_bool|z_enumerate|z_int|z_isinstance|z_len|z_list|z_max|z_min|z_range|z_str|z_tuple|kn_FORMS|kl_FORMS=>k_is)
  (case kq_FORMS=>(repeat' (first|exact trivial|(refine And.intro ⟨_,rfl⟩ (And.intro rfl (And.intro rfl ?_))))))
  (case hs_FORMS=>kernel_rfl)
  (case kn_HOLDERS=>k_is)
  (case kt_HOLDERS=>kernel_rfl)
  (case kn_MOST_HOLDERS|kn_MOST_ROWS|kn_NAME_SIGNS=>k_is)
  (case kt_NAME_SIGNS=>kernel_rfl)
  (case kn_SIGNS|kl_SIGNS=>k_is)
  (case kq_SIGNS=>(repeat' (first|exact trivial|(refine And.intro ⟨_,rfl⟩ (And.intro rfl (And.intro ?_ ?_)))|kernel_rfl)))
  (case hs_SIGNS=>kernel_rfl)
  (case ac_NoPart=>k_is)
  (case qc_NoPart=>k_exc)
  (case ac_Twice=>k_is)
  (case qc_Twice=>k_exc)
  (case ac_NoHolder=>k_is)
  (case qc_NoHolder=>k_exc)
  (case ac_TooDeep=>k_is)
  (case qc_TooDeep=>k_exc)
  (case ac_Nested=>k_is)
  (case qc_Nested=>k_exc)
  (case ac_TooMany=>k_is)
  (case qc_TooMany=>k_exc)
  (case ac_NoName=>k_is)
  (case qc_NoName=>k_exc)
  (case ac_WrongKind=>k_is)
  (case qc_WrongKind=>k_exc)
  (case ac_NoStep=>k_is)
  (case qc_NoStep=>k_exc)
  (case aSE=>k_is)
  (case xaK=>kernel_rfl)
