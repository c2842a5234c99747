import PyProof.Rows.All
import Wide.All
import OpenK.AllK
import Wide.FinOn
import Lean
import PyProof.EqAt
import PyProof.EqKinds
import PyProof.TupleCall
import KE.KSortTup
import PyProof.EnumMake
import PyProof.EnumStmt
import PyProof.EnumFor
import PyProof.TupleKey
import PyProof.Rows.SetFrom
import PyProof.IsRules
import PyProof.DictWalks
import PyProof.FactsAll.set
import PyProof.CollectIter
import PyProof.ConsumeS
import PySem.SetOps
import KE.KDictList
import PyProof.DictRoadsH
import PyProof.DictFindH
import PyProof.Rows.SortRuns
import PyProof.Draws
import PyProof.Rows.TupIter
import PyProof.Rows.FStr
import PyProof.StrCalls2
import PyProof.SliceStr2
import PyProof.StrBlockI
import PyProof.StrLawsNeg
import PyProof.StrLawsJoin
import KE.KIntText
import PyProof.RaisesStr
import PyProof.ConsumeWalk
import PyProof.WalkInts
import PyProof.DictUpdate
import KE.KDictOf
import PyProof.Rows.Range3
import PyProof.DictTable
import PyProof.ListMulRoad
import PyProof.FactsAll.tuple_2
import PyProof.StrCalls3
import KE.KNestM
import KE.KLam
import KE.KSortKey
import PySem.Challenge.RW_scenemend_k06_blocks
set_option Elab.async false
set_option linter.all false
set_option maxRecDepth 100000
theorem oB{α β:Type}{x:Option α}{f:α->Option β}{b:β}(h:x.bind f=some b):∃a,x=some a/\f a=some b:=Option.bind_eq_some_iff.mp h
theorem oM{α β:Type}{x:Option α}{f:α->β}{b:β}(h:x.map f=some b):∃a,x=some a/\f a=b:=Option.map_eq_some_iff.mp h
section
namespace L2
open PySem PySem.Spec PyProof.Rows
abbrev Key:=Sum Int Str
def keyIs:Key->Value->Bool
 |.inl k,v=>Value.isInt k v
 |.inr x,v=>Value.isStrOf x v
def keyH(w:World):Key->Int
 |.inl k=>hashInt k
 |.inr x=>hashStr w x
theorem keyIs_shape:∀{k:Key} {v:Value},keyIs k v=true->(∃i t,k=Sum.inl i/\v=Value.int i t)\/(∃x t,k=Sum.inr x/\v=Value.str x t)
 |.inl i,v,h=>by
  obtain⟨t,e⟩:=Value.isInt_shape (k:=i) (v:=v) h
  exact .inl ⟨i,t,rfl,e⟩
 |.inr x,v,h=>by
  obtain⟨t,e⟩:=Value.isStrOf_shape (x:=x) (v:=v) h
  exact .inr ⟨x,t,rfl,e⟩
theorem key_ll(a b:Int):decide ((Sum.inl a:Key)=Sum.inl b)=(a==b):=by
 by_cases e:a=b
 ·subst e;simp
 ·have h:¬(Sum.inl a:Key)=Sum.inl b:=fun q=>e (Sum.inl.inj q)
  rw[decide_eq_false h]
  exact(beq_eq_false_iff_ne.mpr e).symm
theorem key_rr(a b:Str):decide ((Sum.inr a:Key)=Sum.inr b)=decide (a=b):=by
 by_cases e:a=b
 ·subst e;simp
 ·have h:¬(Sum.inr a:Key)=Sum.inr b:=fun q=>e (Sum.inr.inj q)
  rw[decide_eq_false h,decide_eq_false e]
theorem key_lr(a:Int)(b:Str):decide ((Sum.inl a:Key)=Sum.inr b)=false:=decide_eq_false (fun q=>nomatch q)
theorem key_rl(a:Str)(b:Int):decide ((Sum.inr a:Key)=Sum.inl b)=false:=decide_eq_false (fun q=>nomatch q)
def mixKind(prog:Program)(w:World):PySem.KeyKind prog w Key where
 is:=keyIs
 hash:=keyH w
 inj:=fun v a b ha hb=>by
  rcases keyIs_shape ha with ⟨i,t,rfl,rfl⟩|⟨x,t,rfl,rfl⟩
  ·rcases keyIs_shape hb with ⟨j,u,rfl,e⟩|⟨y,u,rfl,e⟩
   ·injection e with e1 _;rw[e1]
   ·exact nomatch e
  ·rcases keyIs_shape hb with ⟨j,u,rfl,e⟩|⟨y,u,rfl,e⟩
   ·exact nomatch e
   ·injection e with e1 _;rw[e1]
 byValue:=fun k v h=>by
  rcases keyIs_shape h with ⟨i,t,rfl,rfl⟩|⟨x,t,rfl,rfl⟩<;>rfl
 pyHash:=fun hv h=>by
  rcases keyIs_shape hv with ⟨i,t,rfl,rfl⟩|⟨x,t,rfl,rfl⟩
  ·exact wpAny_pyHash_int h
  ·exact wpAny_pyHash_str h
 eqBool:=fun hu hv h=>by
  rcases keyIs_shape hu with ⟨i,t,rfl,rfl⟩|⟨x,t,rfl,rfl⟩
  ·rcases keyIs_shape hv with ⟨j,u,rfl,rfl⟩|⟨y,u,rfl,rfl⟩
   ·rw[key_ll]at h;exact wpAny_eqBool_int h
   ·rw[key_lr]at h;exact SeqAt.EqAt.int_str i t y u _ _ _ _ h
  ·rcases keyIs_shape hv with ⟨j,u,rfl,rfl⟩|⟨y,u,rfl,rfl⟩
   ·rw[key_rl]at h;exact SeqAt.EqAt.str_int x t j u _ _ _ _ h
   ·rw[key_rr]at h;exact wpAny_eqBool_str h
 «strs»:=fun k x t v h=>by
  rcases keyIs_shape h with ⟨i,u,rfl,e⟩|⟨y,u,rfl,e⟩
  ·exact nomatch e
  ·injection e with e1 _
   subst e1
   cases v<;>rfl
end L2
namespace L2
open PySem PySem.Spec PyProof.Rows
inductive V where
 |non|bl (b:Bool)|int (i:Int)|str (x:Str)|byt (b:Array UInt8)|flt (b:UInt64)|ref (a:Addr)|ty (n:String)
 deriving DecidableEq
def RelV:V->Value->Prop
 |.non,u=>u=Value.none
 |.bl b,u=>u=Value.bool b
 |.int i,u=>∃t,u=Value.int i t
 |.str x,u=>∃t,u=Value.str x t
 |.byt b,u=>∃t,u=Value.bytes b t
 |.flt b,u=>∃t,u=Value.float b t
 |.ref a,u=>u=Value.ref a
 |.ty n,u=>u=Value.type n
abbrev Vals:List V->List Value->Prop:=Paired RelV
theorem Vals.length{xs:List V}{us:List Value}(r:Vals xs us):xs.length=us.length:=Paired.length r
theorem Vals.get:∀{xs:List V} {us:List Value} {i:Nat} {x:V},Vals xs us->xs[i]?=some x->∃u,us[i]?=some u/\RelV x u
 |_,_,_,_,.nil,e=>by simp at e
 |_,_,0,_,.cons r _,e=>by simp at e;subst e;exact⟨_,rfl,r⟩
 |_,_,i+1,x,.cons _ t,e=>by
  obtain⟨u,h1,h2⟩:=Vals.get (i:=i) (x:=x) t (by simpa using e)
  exact⟨u,by simpa using h1,h2⟩
theorem Vals.set{x:V}{u:Value}(r:RelV x u):∀{xs:List V} {us:List Value} (i:Nat),Vals xs us->Vals (xs.set i x) (us.set i u)
 |_,_,_,.nil=>.nil
 |_,_,0,.cons _ t=>.cons r t
 |_,_,i+1,.cons q t=>.cons q (Vals.set r i t)
theorem Vals.append:∀{xs ys:List V} {us ws:List Value},Vals xs us->Vals ys ws->Vals (xs++ys) (us++ws)
 |_,_,_,_,.nil,s=>s
 |_,_,_,_,.cons r t,s=>.cons r (Vals.append t s)
def RelO:Option V->Option Value->Prop
 |some v,some u=>RelV v u
 |none,none=>True
 |_,_=>False
def KV{κ:Type}:List (κ×V)->List (κ×Value)->Prop:=Paired fun(p:κ×V) (q:κ×Value)=>p.1=q.1/\RelV p.2 q.2
def kV:Key->V
 |.inl i=>.int i
 |.inr x=>.str x
inductive HO where
 |lst (xs:List V)
 |tup (xs:List V)
 |dK (kvs:List (Key×V))|dT (kvs:List (List Key×V))
 |set (S:Int->Bool) (n:Nat)
 |ins (C dx:Addr) (fs:List (Str×V))
 |own (x:Addr)
 |xd (fs:List (Str×V))
 |met (f x:Addr)
 |rng (lo hi:Int)
 |frz (o:Obj) (u:HO)
 |tbl (ps:Array Value)
 |ext (φ:Heap->Prop)
 |exo (φ:(Addr->Obj->Prop)->Heap->Prop)
abbrev Hp:=Addr->Option HO
def upd(H:Hp)(a:Addr)(o:HO):Hp:=fun b=>if b=a then some o else H b
theorem upd_same{H:Hp}{a:Addr}{o:HO}:upd H a o a=some o:=by unfold upd;rw[if_pos rfl]
theorem upd_ne{H:Hp}{a b:Addr}{o:HO}(h:b≠a):upd H a o b=H b:=by unfold upd;rw[if_neg h]
theorem ne_of{H:Hp}{a b:Addr}{o u:HO}(h:H a=some o)(h':H b=some u)(d:o≠u):a≠b:=by
 intro e;subst e;rw[h]at h';exact d (Option.some.inj h')
theorem ne_of_none{H:Hp}{a b:Addr}{o:HO}(h:H a=some o)(h':H b=none):a≠b:=by
 intro e;subst e;rw[h]at h';cases h'
section
variable (P:Program) (w:World)
def ObjOk(H:Hp)(h:Heap)(a:Addr):HO->Prop
 |.lst xs=>xs.length<=sizeLine/\∃(its:List Value) (n:Nat),Vals xs its/\h.get? a=some { cls:=.type "list",data:=.seq its.toArray n }
 |.tup xs=>xs.length<=sizeLine/\∃its:List Value,Vals xs its/\IsTup h a its.toArray
 |.dK kvs=>kvs.length<=sizeLine/\(a==sysModules)=false/\∃vs,KV kvs vs/\h.DictOf (mixKind P w) a vs
 |.dT kvs=>kvs.length<=sizeLine/\(a==sysModules)=false/\∃xs:List (List Key×Addr×Value),
   Paired (fun(p:List Key×V) (q:List Key×Addr×Value)=>p.1=q.1/\H q.2.1=some (.tup (p.1.map kV))/\RelV p.2 q.2.2) kvs xs /\
   ∃o es ep,h.get? a=some o/\o.ExactDict/\o.data = .dict es ep/\es.toList=xs.map (entryOfKey (tupleKind (mixKind P w)))/\(xs.map (·.1)).Nodup
 |.set S n=>h.SetOf (intKind P w) a S n
 |.ins C dx fs=>H dx=some (.own a)/\fs.length<=1000/\dx≠a/\h.get? a=some (PySem.W.instObj C dx) /\
   ∃mA,h.Ns1 dx mA/\(∀f,RelO (fs.lookup f) (mA f))/\PySem.Within mA (fs.map (·.1))
 |.own _=>∃o,h.get? a=some o
 |.xd fs=>∃mA,h.Ns1 a mA/\∀f,RelO (fs.lookup f) (mA f)
 |.rng lo hi=>∃t u v,h.get? a=some { cls:=.type "range",data:=.fields #[.int lo t,.int hi u,.int 1 v] }
 |.frz o u=>h.get? a=some o/\ObjOk H h a u
 |.tbl ps=>h.get? a=some { cls:=.none,data:=.fields ps }
 |.met f x=>h.get? a=some (PySem.W.methodObj (.ref f) (.ref x))
 |.ext φ=>φ h/\(∃o,h.get? a=some o)/\∀h1 h2:Heap,φ h1->(∀o,h1.get? a=some o->h2.get? a=some o)->φ h2
 |.exo φ=>φ (fun b o=>H b=some (.frz o (.own a))) h/\(∃o,h.get? a=some o)/\∀(O1 O2:Addr->Obj->Prop) (h1 h2:Heap),φ O1 h1->(∀b o,O1 b o->O2 b o)->(∀o,h1.get? a=some o->h2.get? a=some o)->φ O2 h2
def HOk(H:Hp)(h:Heap):Prop:=∀a o,H a=some o->ObjOk P w H h a o
end
section
variable {P:Program} {w:World} {H H':Hp} {h h':Heap} {a:Addr} {o:HO}
theorem ObjOk.lt(x:ObjOk P w H h a o):a<h.objs.size:=by
 cases o with
 |lst xs=>obtain⟨_,_,_,_,e⟩:=x;exact Heap.lt_size e
 |tup xs=>obtain⟨_,_,_,p⟩:=x;exact p.lt
 |dK kvs=>obtain⟨_,_,_,_,o,_,_,e,_⟩:=x;exact Heap.lt_size e
 |dT kvs=>obtain⟨_,_,_,_,o,_,_,e,_⟩:=x;exact Heap.lt_size e
 |set S n=>obtain⟨o,_,_,_,e,_⟩:=x;exact Heap.lt_size e
 |ins C dx fs=>obtain⟨_,_,_,e,_⟩:=x;exact Heap.lt_size e
 |own y=>obtain⟨_,e⟩:=x;exact Heap.lt_size e
 |xd fs=>obtain⟨_,⟨_,_,_,e,_⟩,_⟩:=x;exact Heap.lt_size e
 |rng lo hi=>obtain⟨_,_,_,e⟩:=x;exact Heap.lt_size e
 |frz ob u=>obtain⟨e,_⟩:=x;exact Heap.lt_size e
 |tbl ps=>exact Heap.lt_size (show h.get? a=some _ from x)
 |met f y=>exact Heap.lt_size (show h.get? a=some _ from x)
 |ext φ=>obtain⟨_,⟨_,e⟩,_⟩:=x;exact Heap.lt_size e
 |exo φ=>obtain⟨_,⟨_,e⟩,_⟩:=x;exact Heap.lt_size e
theorem Paired.mapP{α β:Type}{F G:α->β->Prop}:∀{l₁:List α} {l₂:List β},Paired F l₁ l₂->(∀a b,F a b->G a b)->Paired G l₁ l₂
 |_,_,.nil,_=>.nil
 |_,_,.cons r t,f=>.cons (f _ _ r) (Paired.mapP t f)
theorem ObjOk.stay(x:ObjOk P w H h a o)(k:∀b u,(b=a\/H b=some (.own a))->h.get? b=some u->h'.get? b=some u)
  (ho:∀b,H b=some (.own a)->H' b=some (.own a)) (ht:∀b xs,H b=some (.tup xs)->H' b=some (.tup xs)) (hz:∀b o u,H b=some (.frz o u)->H' b=some (.frz o u):=by exact fun _ _ _ q=>q):ObjOk P w H' h' a o:=by
 induction o with
 |lst xs=>obtain⟨z,its,n,r,e⟩:=x;exact⟨z,its,n,r,k _ _ (.inl rfl) e⟩
 |tup xs=>obtain⟨z,its,r,ob,e,c⟩:=x;exact⟨z,its,r,ob,k _ _ (.inl rfl) e,c⟩
 |dK kvs=>obtain⟨z,y,vs,r,ob,es,ep,e,c⟩:=x;exact⟨z,y,vs,r,ob,es,ep,k _ _ (.inl rfl) e,c⟩
 |dT kvs =>
  obtain⟨z,y,xs,r,ob,es,ep,e,c⟩:=x
  exact⟨z,y,xs,Paired.mapP r fun p q z=>⟨z.1,ht _ _ z.2.1,z.2.2⟩,ob,es,ep,k _ _ (.inl rfl) e,c⟩
 |set S n=>obtain⟨ob,es,ep,t,e,c⟩:=x;exact⟨ob,es,ep,t,k _ _ (.inl rfl) e,c⟩
 |ins C dx fs =>
  obtain⟨d,z,ne,e,mA,⟨od,es,ep,e2,c⟩,r⟩:=x
  exact⟨ho _ d,z,ne,k _ _ (.inl rfl) e,mA,⟨od,es,ep,k _ _ (.inr d) e2,c⟩,r⟩
 |own y=>obtain⟨ob,e⟩:=x;exact⟨ob,k _ _ (.inl rfl) e⟩
 |xd fs=>obtain⟨mA,⟨od,es,ep,e,c⟩,r⟩:=x;exact⟨mA,⟨od,es,ep,k _ _ (.inl rfl) e,c⟩,r⟩
 |rng lo hi=>obtain⟨t,u,v,e⟩:=x;exact⟨t,u,v,k _ _ (.inl rfl) e⟩
 |frz ob u ih=>obtain⟨e,q⟩:=x;exact⟨k _ _ (.inl rfl) e,ih q⟩
 |tbl ps =>
  have e:h.get? a=some { cls:=.none,data:=.fields ps }:=x
  show h'.get? a=some { cls:=.none,data:=.fields ps }
  exact k a _ (.inl rfl) e
 |met f y =>
  have e:h.get? a=some (PySem.W.methodObj (.ref f) (.ref y)):=x
  show h'.get? a=some (PySem.W.methodObj (.ref f) (.ref y))
  exact k a _ (.inl rfl) e
 |ext φ=>obtain⟨p,⟨o,e⟩,st⟩:=x;exact⟨st _ _ p fun o q=>k _ _ (.inl rfl) q,⟨o,k _ _ (.inl rfl) e⟩,st⟩
 |exo φ=>obtain⟨p,⟨o,e⟩,st⟩:=x;exact⟨st _ _ _ _ p (fun b o q=>hz b o _ q) fun o q=>k _ _ (.inl rfl) q,⟨o,k _ _ (.inl rfl) e⟩,st⟩
theorem HOk.lt(x:HOk P w H h)(e:H a=some o):a<h.objs.size:=(x a o e).lt
theorem HOk.fresh(x:HOk P w H h)(e:h.objs.size<=a):H a=none:=by
 cases q:H a with
 |none=>rfl
 |some u=>exact absurd (Nat.lt_of_lt_of_le (x.lt q) e) (Nat.lt_irrefl _)
theorem HOk.kept(x:HOk P w H h)(k:∀b u,h.get? b=some u->h'.get? b=some u):HOk P w H h':=fun a o e =>
 (x a o e).stay (fun b u _ q=>k b u q) (fun _ q=>q) fun _ _ q=>q
theorem HOk.laid(x:HOk P w H h)(k:∀b u,h.get? b=some u->h'.get? b=some u)(hp:h.objs.size<=a)(new:ObjOk P w (upd H a o) h' a o):HOk P w (upd H a o) h':=fun b u e=>by
 have hn:=x.fresh hp
 by_cases hb:b=a
 ·subst hb;rw[upd_same]at e;cases e;exact new
 ·rw[upd_ne hb]at e
  exact(x b u e).stay (fun c v _ q=>k c v q) (fun c q=>by rw[upd_ne (ne_of_none q hn)];exact q) (fun c xs q=>by rw[upd_ne (ne_of_none q hn)];exact q) fun c o xs q=>by rw[upd_ne (ne_of_none q hn)];exact q
end
def Rd(H:Hp)(a:Addr)(u:HO):Prop:=H a=some u\/∃o,H a=some (.frz o u)
theorem Rd.ok{P:Program}{w:World}{H:Hp}{h:Heap}{a:Addr}{u:HO}(r:Rd H a u)(x:HOk P w H h):ObjOk P w H h a u:=by
 rcases r with r|⟨o,r⟩
 ·exact x a u r
 ·obtain⟨_,q⟩:=x a _ r
  exact q
def Mut:Option HO->Prop
 |some (.lst _)=>True
 |some (.dK _)=>True
 |some (.dT _)=>True
 |some (.set _ _)=>True
 |some (.ins _ _ _)=>True
 |some (.ext _)=>True
 |_=>False
section
variable {P:Program} {w:World} {H:Hp} {h h':Heap} {x e:Addr} {o':HO}
theorem HOk.write(ok:HOk P w H h)(mu:Mut (H x))(he:e=x\/H e=some (.own x))(k:∀b u,b≠e->h.get? b=some u->h'.get? b=some u)(heo:∃u,h'.get? e=some u)
  (new:ObjOk P w (upd H x o') h' x o'):HOk P w (upd H x o') h':=fun b u q=>by
 have nown:∀c y,H c=some (.own y)->c≠x:=fun c y r z=>by subst z;rw[r]at mu;exact mu
 have ntup:∀c xs,H c=some (.tup xs)->c≠x:=fun c xs r z=>by subst z;rw[r]at mu;exact mu
 by_cases hb:b=x
 ·subst hb;rw[upd_same]at q;cases q;exact new
 ·rw[upd_ne hb]at q
  by_cases hbe:b=e
  ·have q':H b=some (.own x):=by
    rcases he with z|z
    ·exact absurd (hbe.trans z) hb
    ·rw[hbe];exact z
   rw[q]at q';cases q'
   obtain⟨v,hv⟩:=heo
   exact⟨v,by rw[hbe];exact hv⟩
  ·refine(ok b u q).stay (fun c v hc r=>k c v ?_ r) (fun c r=>by rw[upd_ne (nown c b r)];exact r) (fun c xs r=>by rw[upd_ne (ntup c xs r)];exact r) fun c o xs r=>by rw[upd_ne (fun z=>by subst z;rw[r]at mu;exact mu)];exact r
   rcases hc with rfl|hc
   ·exact hbe
   ·rintro rfl
    rcases he with z|z
    ·exact nown c b hc z
    ·rw[hc]at z;cases z;exact hb rfl
end
structure Un(fs ex:List Addr)(H H':Hp)(h h':Heap):Prop where
 keep:∀b o,h.get? b=some o->H b=none->b∉fs->b∉ex->h'.get? b=some o
 slot:∀b o,h.get? b=some o->H b=none->b∈fs->b∉ex->∃sl,h'.get? b=some { o with slots:=sl }
 free:∀b o,h.get? b=some o->H b=none->b∉ex->H' b=none
 there:∀b o,h.get? b=some o->b∉ex->∃o',h'.get? b=some o'
 tups:∀b xs,H b=some (.tup xs)->H' b=some (.tup xs)
 frzs:∀b o u,H b=some (.frz o u)->H' b=some (.frz o u)
 tbls:∀b ps,H b=some (.tbl ps)->∃more,H' b=some (.tbl (ps++more))
section
variable {fs fs' ex ex':List Addr} {H H1 H2:Hp} {h h1 h2 h':Heap} {a x e:Addr} {o:HO}
theorem Un.any(u:Un fs ex H H1 h h1){b:Addr}{ob:Obj}(q:h.get? b=some ob)(n:H b=none)(hx:b∉ex):∃sl,h1.get? b=some { ob with slots:=sl }:=by
 by_cases hb:b∈fs
 ·exact u.slot b ob q n hb hx
 ·exact⟨ob.slots,u.keep b ob q n hb hx⟩
theorem Un.kept(k:∀b u,h.get? b=some u->h'.get? b=some u):Un fs ex H H h h' :=
 ⟨fun b ob q _ _ _=>k b ob q,fun b ob q _ _ _=>⟨ob.slots,k b ob q⟩,fun _ _ _ n _=>n,fun b ob q _=>⟨ob,k b ob q⟩,fun _ _ q=>q,fun _ _ _ q=>q,fun _ ps q=>⟨#[],by rw[q];simp⟩⟩
theorem Un.refl:Un fs ex H H h h:=Un.kept fun _ _ q=>q
theorem Un.laid(k:∀b u,h.get? b=some u->h'.get? b=some u)(hp:h.objs.size<=a)(hn:H a=none):Un fs ex H (upd H a o) h h' where
 keep:=fun b u q _ _ _=>k b u q
 slot:=fun b u q _ _ _=>⟨u.slots,k b u q⟩
 free:=fun b u q n _=>by rw[upd_ne (Nat.ne_of_lt (Nat.lt_of_lt_of_le (Heap.lt_size q) hp))];exact n
 there:=fun b u q _=>⟨u,k b u q⟩
 tups:=fun b xs q=>by rw[upd_ne (ne_of_none q hn)];exact q
 frzs:=fun b u xs q=>by rw[upd_ne (ne_of_none q hn)];exact q
 tbls:=fun b ps q=>⟨#[],by rw[upd_ne (ne_of_none q hn),q];simp⟩
theorem Un.write(mu:Mut (H x))(he:e=x\/H e=some (.own x))(k:∀b u,b≠e->h.get? b=some u->h'.get? b=some u)(heo:∃u,h'.get? e=some u):Un fs ex H (upd H x o) h h':=by
 have hx:∀b,H b=none->b≠x:=fun b n z=>by subst z;rw[n]at mu;exact mu
 have hb:∀b,H b=none->b≠e:=fun b n z=>by
  subst z
  rcases he with r|r
  ·exact hx b n r
  ·rw[n]at r;cases r
 have hm:∀b u,H b=some u->¬Mut (some u)->b≠x:=fun b u q nm z=>by subst z;rw[q]at mu;exact nm mu
 refine ⟨fun b u q n _ _ => k b u (hb b n) q, fun b u q n _ _ => ⟨u.slots, k b u (hb b n) q⟩, fun b u q n _ => by rw [upd_ne (hx b n)]; exact n, fun b u q _ => ?_,
  fun b xs q=>by rw[upd_ne (hm b _ q fun z=>z)];exact q,fun b u xs q=>by rw[upd_ne (hm b _ q fun z=>z)];exact q,fun b ps q=>⟨#[],by rw[upd_ne (hm b _ q fun z=>z),q];simp⟩⟩
 by_cases hbe:b=e
 ·subst hbe;exact heo
 ·exact⟨u,k b u hbe q⟩
end
def trk(h:Heap)(H:Hp):List Addr:=(List.range h.objs.size).filter fun a=>(H a).isSome
def hidT(h:Heap)(H:Hp):Heap:=PySem.W.hideAll h (trk h H)
theorem hidT_size(h:Heap)(H:Hp):(hidT h H).objs.size=h.objs.size:=PySem.W.hideAll_size _ _
theorem hidT_get{h:Heap}{H:Hp}{b:Addr}{o:Obj}(e:h.get? b=some o)(n:H b=none):(hidT h H).get? b=some o :=
 PySem.W.hideAll_get _ e fun hm=>by
  have q:(H b).isSome=true:=(List.mem_filter.mp hm).2
  rw[n]at q;simp at q
theorem of_hidT{h:Heap}{H:Hp}{b:Addr}{o:Obj}(e:(hidT h H).get? b=some o):h.get? b=some o/\H b=none:=by
 have e':h.get? b=some o:=PySem.W.of_hideAll (trk h H) e
 refine⟨e',?_⟩
 cases q:H b with
 |none=>rfl
 |some x =>
  have hm:b∈trk h H:=List.mem_filter.mpr ⟨List.mem_range.mpr (Heap.lt_size e'),by simp[q]⟩
  have z:(hidT h H).get? b=none:=PySem.W.hideAll_none (trk h H) hm
  rw[z]at e;cases e
def allNews(g h:Heap)(L:Addr):List (Addr×Obj):=(List.range h.objs.size).filterMap fun a=>if a=L\/(g.get? a).isSome=true then none else (h.get? a).map fun o=>(a,o)
def rest(g h:Heap)(L d:Addr):List (Addr×Obj):=(allNews g h L).filter fun p=>decide (p.1≠d)
end L2
namespace L2
open PySem PySem.Spec PyProof.Rows
structure Mod(K:PySem.W.Frag)(mg:Str->Option Value)(base:Heap):Prop where
 kin:K.In base
 glob:base.Ns mainGlobals mg
 blt:∃mb,base.Ns builtinsNs mb/\∀x:Str,x≠"__name__"->mb x=bootBuiltins x
 nolimit:base.NoLimit
 bm:∃bm ob,mg "__builtins__"=some (.ref bm)/\bm≠builtinsNs/\base.get? bm=some ob/\ob.cls = .type "module"/\ob.dict=some builtinsNs/\ob.data = .plain
structure Cx where
 prog:Program
 w:World
 K:PySem.W.Frag
 mg:Str->Option Value
 base:Heap
 A:Around
 N:List Str
 s₀:Shared
 H₀:Hp
 env:Env
 outer:List Env
 stack:List Env
 ex:List Addr
 fn:Str->Bool
 calm:Bool
 pn:List (Addr×Obj)
 xe:Value->Shared->Prop
def frs(l:List Env):List Addr:=l.filterMap (·.frame)
abbrev Cx.fs(X:Cx):List Addr:=frs X.outer
def Vis(sc:Scope)(x:Str):Prop:=sc.names.lookup x=some .local\/sc.names.lookup x=some .cell\/sc.names.lookup x=some .free
def Loc(sc:Scope)(x:Str):Prop:=sc.names.lookup x=some .local\/sc.names.lookup x=some .cell
def Look(env:Env)(h:Heap)(m:Str->Option Value)(x:Str)(u:Value):Prop :=
 (env.kindOf x=some .local/\m x=some u)\/((env.kindOf x=some .cell\/env.kindOf x=some .free)/\∃c,env.cells.lookup x=some c/\h.IsCell c (some u))
structure Cx.Ok(X:Cx):Prop where
 mod:Mod X.K X.mg X.base
 kind:X.env.scope.kind = .function
 glob:X.env.globals=mainGlobals
 blt:X.env.builtins=builtinsNs
 above:X.s₀.heap.objs.size<=X.env.locals
 inj:∀x y c,X.env.cells.lookup x=some c->X.env.cells.lookup y=some c->x=y
 has:∀x,(X.env.kindOf x=some .cell\/X.env.kindOf x=some .free)->∃c,X.env.cells.lookup x=some c
 cab:∀x c,X.fn x=true->X.env.cells.lookup x=some c->X.s₀.heap.objs.size<=c
 hd:X.calm=true->X.A.handled=none
 frames:X.A.frames=some X.stack
 stk:X.stack=X.outer\/(X.stack=X.env::X.outer/\X.env.frame=some X.env.locals)
 exf:∀b∈X.ex,b≠X.env.locals/\∀x c,X.env.cells.lookup x=some c->c≠b
 bs:∀b o,X.base.get? b=some o->X.s₀.heap.get? b=some o/\X.H₀ b=none
 bsz:X.base.objs.size<=X.s₀.heap.objs.size
 noex:∀b o,X.base.get? b=some o->b∉X.ex
 exfs:∀b∈X.ex,b∉X.fs
 funs:X.s₀.heap.FunFrames X.base X.outer
 frf:∀b∈X.fs,X.H₀ b=none
structure Inv(X:Cx)(pins:List (Addr×Obj))(σ:List (Option V))(H:Hp)(s:Shared):Prop where
 ok:X.Ok
 os:s.os=X.s₀.os
 bare:AllBare s.gens
 base:Un X.fs X.ex X.H₀ H X.s₀.heap s.heap
 loc:∃m,s.heap.Ns X.env.locals m/\∀(i:Nat) (x:Str) (v:V),X.N[i]?=some x->σ[i]?=some (some v)->Vis X.env.scope x->∃u,RelV v u/\Look X.env s.heap m x u
 cell:∀x c,X.env.cells.lookup x=some c->∃v,s.heap.IsCell c v
 free:H X.env.locals=none
 freeC:∀x c,X.env.cells.lookup x=some c->H c=none
 pin:∀p∈X.pn++pins,s.heap.get? p.1=some p.2/\H p.1=none/\p.1≠X.env.locals/\p.1∉X.fs/\∀v,p.2.data≠.cell v
 hok:HOk X.prog X.w H s.heap
 len:σ.length=X.N.length
section
variable {X:Cx} {pins:List (Addr×Obj)} {σ:List (Option V)} {H H':Hp} {s:Shared} {h':Heap}
theorem Cx.Ok.nofr(ok:X.Ok){b:Addr}{o:Obj}(e:X.base.get? b=some o):b∉X.fs:=fun hb=>by
 have:=(ok.funs.mem hb).1
 rw[e]at this;cases this
theorem Inv.bs(I:Inv X pins σ H s):∀b o,X.base.get? b=some o->s.heap.get? b=some o/\H b=none:=fun b o e =>
 ⟨I.base.keep b o (I.ok.bs b o e).1 (I.ok.bs b o e).2 (I.ok.nofr e) (I.ok.noex b o e),I.base.free b o (I.ok.bs b o e).1 (I.ok.bs b o e).2 (I.ok.noex b o e)⟩
theorem Inv.bk(I:Inv X pins σ H s):∀b o,X.base.get? b=some o->s.heap.get? b=some o:=fun b o e=>(I.bs b o e).1
theorem Inv.mod(I:Inv X pins σ H s):Mod X.K X.mg X.base:=I.ok.mod
theorem Inv.kIn(I:Inv X pins σ H s):X.K.In s.heap:=I.ok.mod.kin.keeps I.bk
theorem Inv.nolimit(I:Inv X pins σ H s):s.heap.NoLimit:=I.ok.mod.nolimit.keeps I.bk
theorem Inv.lt(I:Inv X pins σ H s):X.env.locals<s.heap.objs.size:=let ⟨_,hn,_⟩:=I.loc;hn.lt
theorem Inv.sz(I:Inv X pins σ H s):X.s₀.heap.objs.size<=s.heap.objs.size:=Nat.le_trans I.ok.above (Nat.le_of_lt I.lt)
theorem Inv.nofs(I:Inv X pins σ H s){a:Addr}(h:s.heap.objs.size<=a):a∉X.fs:=fun hb=>by
 obtain⟨_,o,ho,_⟩:=I.ok.funs.mem hb
 exact absurd (Nat.lt_of_lt_of_le (Heap.lt_size ho) (Nat.le_trans I.sz h)) (Nat.lt_irrefl _)
theorem Inv.cne(I:Inv X pins σ H s):∀x c,X.env.cells.lookup x=some c->c≠X.env.locals:=fun x c e z=>by
 obtain⟨v,o,ho,hd⟩:=I.cell x c e
 obtain⟨m,⟨o',es,ep,ho',hd',_⟩,_⟩:=I.loc
 rw[z,ho']at ho;cases ho;rw[hd']at hd;cases hd
theorem Inv.funs(I:Inv X pins σ H s):s.heap.FunFrames X.base X.outer:=by
 have all:∀(l:List Env),(∀b∈frs l,b∈X.fs)->X.s₀.heap.FunFrames X.base l->s.heap.FunFrames X.base l:=by
  intro l
  induction l with
  |nil=>intro _ _;trivial
  |cons env r ih =>
   intro hs hl
   obtain⟨hk,⟨L,o,hf,hn,ho,hd⟩,hr⟩:=hl
   have hL:L∈X.fs:=hs L (by unfold frs;rw[List.filterMap_cons,hf];exact List.mem_cons_self)
   obtain⟨sl,e⟩:=I.base.slot L o ho (I.ok.frf L hL) hL fun z=>I.ok.exfs L z hL
   exact⟨hk,⟨L,_,hf,hn,e,hd⟩,ih (fun b hb=>hs b (by unfold frs;rw[List.filterMap_cons,hf];exact List.mem_cons_of_mem _ hb)) hr⟩
 exact all X.outer (fun _ hb=>hb) I.ok.funs
theorem Inv.stack(I:Inv X pins σ H s):s.heap.FunFrames X.base X.stack:=by
 rcases I.ok.stk with e|⟨e,hf⟩
 ·rw[e];exact I.funs
 ·rw[e]
  obtain⟨m,hn,_⟩:=I.loc
  refine .cons (by rw[I.ok.kind];decide) hf hn ?_ I.funs
  exact Heap.get?_none_of_le (Nat.le_trans I.ok.bsz I.ok.above)
theorem Inv.stkSub(I:Inv X pins σ H s):∀b∈frs X.stack,b∈X.env.locals::X.fs:=fun b hb=>by
 rcases I.ok.stk with e|⟨e,hf⟩
 ·rw[e]at hb;exact List.mem_cons_of_mem _ hb
 ·rw[e]at hb
  unfold frs at hb
  rw[List.filterMap_cons,hf]at hb
  exact hb
theorem Inv.stkFree(I:Inv X pins σ H s):∀b∈frs X.stack,H b=none:=fun b hb=>by
 rcases List.mem_cons.mp (I.stkSub b hb)with e|hb
 ·rw[e];exact I.free
 ·obtain⟨_,o,ho,_⟩:=I.ok.funs.mem hb
  exact I.base.free b o ho (I.ok.frf b hb) fun z=>I.ok.exfs b z hb
theorem Inv.step{g':Array GenState}{t':Nat}{d':Drawn}{ch:List Addr}(I:Inv X pins σ H s)
  (hch:∀b∈ch,(b∈X.ex\/X.s₀.heap.objs.size<=b)/\b≠X.env.locals/\(∀x c,X.env.cells.lookup x=some c->c≠b)/\∀p∈X.pn++pins,p.1≠b)
  (keep:∀b o,b≠X.env.locals->b∉X.fs->b∉ch->s.heap.get? b=some o->H b=none->h'.get? b=some o)
  (slot:∀b o,b≠X.env.locals->b∈X.fs->b∉ch->s.heap.get? b=some o->H b=none->∃sl,h'.get? b=some { o with slots:=sl }) (free:∀b o,b∉ch->s.heap.get? b=some o->H b=none->H' b=none)
  (there:∀b o,b∉ch->s.heap.get? b=some o->∃o',h'.get? b=some o')
  (tups:∀b xs,H b=some (.tup xs)->H' b=some (.tup xs)) (frzs:∀b o u,H b=some (.frz o u)->H' b=some (.frz o u)) (tbls:∀b ps,H b=some (.tbl ps)->∃more,H' b=some (.tbl (ps++more)))
  (ns:∀m,s.heap.Ns X.env.locals m->h'.Ns X.env.locals m) (hok:HOk X.prog X.w H' h') (hg:AllBare g') :
  Inv X pins σ H' { s with heap:=h',gens:=g',drawn:=d',toks:=t' }:=by
 have neL:∀b o,X.s₀.heap.get? b=some o->b≠X.env.locals:=fun b o e=>Nat.ne_of_lt (Nat.lt_of_lt_of_le (Heap.lt_size e) I.ok.above)
 have neC:∀b o,X.s₀.heap.get? b=some o->b∉X.ex->b∉ch:=fun b o e hx hb=>by
  rcases(hch b hb).1 with z|z
  ·exact hx z
  ·exact absurd (Nat.lt_of_lt_of_le (Heap.lt_size e) z) (Nat.lt_irrefl _)
 have cellK:∀x c,X.env.cells.lookup x=some c->∀v,s.heap.IsCell c v->h'.IsCell c v:=fun x c e v ⟨o,ho,hd⟩=>by
  have nch:c∉ch:=fun z=>(hch c z).2.2.1 x c e rfl
  by_cases hc:c∈X.fs
  ·obtain⟨sl,q⟩:=slot c o (I.cne x c e) hc nch ho (I.freeC x c e)
   exact⟨_,q,hd⟩
  ·exact⟨o,keep c o (I.cne x c e) hc nch ho (I.freeC x c e),hd⟩
 refine⟨I.ok,I.os,hg,⟨fun b o e n hb hx=>?_,fun b o e n hb hx=>?_,fun b o e n hx=>?_,fun b o e hx=>?_,fun b xs e=>tups b xs (I.base.tups b xs e),fun b o xs e=>frzs b o xs (I.base.frzs b o xs e),fun b ps e=>?_⟩,?_,fun x c e=>?_,?_,fun x c e=>?_,fun p hp=>?_,hok,I.len⟩
 ·exact keep b o (neL b o e) hb (neC b o e hx) (I.base.keep b o e n hb hx) (I.base.free b o e n hx)
 ·obtain⟨sl,e1⟩:=I.base.slot b o e n hb hx
  obtain⟨sl',e2⟩:=slot b _ (neL b o e) hb (neC b o e hx) e1 (I.base.free b o e n hx)
  exact⟨sl',e2⟩
 ·obtain⟨o',e1⟩:=I.base.there b o e hx
  exact free b o' (neC b o e hx) e1 (I.base.free b o e n hx)
 ·obtain⟨o',e1⟩:=I.base.there b o e hx
  exact there b o' (neC b o e hx) e1
 ·obtain⟨m1,e1⟩:=I.base.tbls b ps e
  obtain⟨m2,e2⟩:=tbls b _ e1
  exact⟨m1++m2,by rw[e2,Array.append_assoc]⟩
 ·obtain⟨m,hn,hl⟩:=I.loc
  refine⟨m,ns m hn,fun i x v e1 e2 e3=>?_⟩
  obtain⟨u,r,l⟩:=hl i x v e1 e2 e3
  refine⟨u,r,?_⟩
  rcases l with l|⟨k,c,e,z⟩
  ·exact .inl l
  ·exact .inr ⟨k,c,e,cellK x c e _ z⟩
 ·obtain⟨v,z⟩:=I.cell x c e
  exact⟨v,cellK x c e v z⟩
 ·obtain⟨m,⟨o,_,_,ho,_⟩,_⟩:=I.loc
  exact free _ o (fun z=>(hch _ z).2.1 rfl) ho I.free
 ·obtain⟨v,o,ho,hd⟩:=I.cell x c e
  exact free c o (fun z=>(hch c z).2.2.1 x c e rfl) ho (I.freeC x c e)
 ·obtain⟨e,n,ne,nf,d⟩:=I.pin p hp
  have nch:p.1∉ch:=fun z=>(hch p.1 z).2.2.2 p hp rfl
  exact⟨keep p.1 p.2 ne nf nch e n,free p.1 p.2 nch e n,ne,nf,d⟩
theorem Inv.un{t':Nat}(I:Inv X pins σ H s)(u:Un X.fs [] H H' s.heap h')(hok:HOk X.prog X.w H' h'):Inv X pins σ H' { s with heap:=h',toks:=t' }:=by
 obtain⟨m,⟨o,es,ep,ho,r⟩,_⟩:=id I.loc
 obtain⟨sl,hL⟩:=u.any ho I.free (by simp)
 exact I.step (g' := s.gens) (d' := s.drawn) (ch := []) (fun _ z => nomatch z) (fun b o _ hb _ e n => u.keep b o e n hb (by simp)) (fun b o _ hb _ e n => u.slot b o e n hb (by simp)) (fun b o _ e n => u.free b o e n (by simp)) (fun b o _ e => u.there b o e (by simp)) u.tups u.frzs u.tbls (fun m' hm => by
  obtain⟨o',es',ep',ho',r'⟩:=hm
  rw[ho]at ho';cases ho'
  exact⟨_,es',ep',hL,r'⟩) hok I.bare
theorem Inv.call{g':Array GenState}{t':Nat}{d':Drawn}{ch:List Addr}(I:Inv X pins σ H s)(u:Un (frs X.stack) ch H H' s.heap h')(hok:HOk X.prog X.w H' h')(hg:AllBare g')
  (hch:∀b∈ch,(b∈X.ex\/X.s₀.heap.objs.size<=b)/\b≠X.env.locals/\(∀x c,X.env.cells.lookup x=some c->c≠b)/\∀p∈X.pn++pins,p.1≠b) :
  Inv X pins σ H' { s with heap:=h',gens:=g',drawn:=d',toks:=t' }:=by
 obtain⟨m,⟨o,es,ep,ho,r⟩,_⟩:=id I.loc
 obtain⟨sl,hL⟩:=u.any ho I.free fun z=>(hch _ z).2.1 rfl
 exact I.step (ch := ch) hch (fun b o hL hb hc e n => u.keep b o e n (fun z => (List.mem_cons.mp (I.stkSub b z)).elim hL hb) hc) (fun b o _ _ hc e n => u.any e n hc) (fun b o hc e n => u.free b o e n hc) (fun b o hc e => u.there b o e hc) u.tups u.frzs u.tbls (fun m' hm => by
  obtain⟨o',es',ep',ho',r'⟩:=hm
  rw[ho]at ho';cases ho'
  exact⟨_,es',ep',hL,r'⟩) hok hg
theorem Inv.turned{t':Nat}{it:Addr}(I:Inv X pins σ H s)(k:∀b o,b≠it->s.heap.get? b=some o->h'.get? b=some o)(hn:H it=none)(hL:it≠X.env.locals)
  (h1:it∈X.ex\/X.s₀.heap.objs.size<=it) (h2:∀x c,X.env.cells.lookup x=some c->c≠it) (h3:∀p∈X.pn++pins,p.1≠it):Inv X pins σ H { s with heap:=h',toks:=t' }:=by
 have nit:∀b u,H b=some u->b≠it:=fun b u e z=>by rw[z,hn]at e;cases e
 refine I.step (g':=s.gens) (d':=s.drawn) (ch:=[it]) (fun b hb=>?_) (fun b o _ _ hc e _=>k b o (fun z=>hc (by simp[z])) e) (fun b o _ _ hc e _=>⟨o.slots,k b o (fun z=>hc (by simp[z])) e⟩) (fun _ _ _ _ n=>n)
  (fun b o hc e=>⟨o,k b o (fun z=>hc (by simp[z])) e⟩) (fun _ _ e=>e) (fun _ _ _ e=>e) (fun b ps e=>⟨#[],by rw[e];simp⟩) (fun m hm=>?_) (fun b u e=>?_) I.bare
 ·have e:b=it:=by simpa using hb
  subst e
  exact⟨h1,hL,h2,h3⟩
 ·obtain⟨o,es,ep,ho,r⟩:=hm
  exact⟨o,es,ep,k _ o (Ne.symm hL) ho,r⟩
 ·refine(I.hok b u e).stay (fun c v hc q=>k c v ?_ q) (fun _ q=>q) fun _ _ q=>q
  rcases hc with z|z
  ·rw[z];exact nit b u e
  ·exact nit c _ z
theorem Inv.tok(I:Inv X pins σ H s)(t:Nat):Inv X pins σ H { s with toks:=t }:=I.un (h':=s.heap) (t':=t) Un.refl I.hok
theorem Inv.kept{t':Nat}(I:Inv X pins σ H s)(k:∀b u,s.heap.get? b=some u->h'.get? b=some u):Inv X pins σ H { s with heap:=h',toks:=t' }:=I.un (Un.kept k) (I.hok.kept k)
theorem Inv.laid{a:Addr}{o:HO}{t':Nat}(I:Inv X pins σ H s)(k:∀b u,s.heap.get? b=some u->h'.get? b=some u)(hp:s.heap.objs.size<=a)(new:ObjOk X.prog X.w (upd H a o) h' a o) :
  Inv X pins σ (upd H a o) { s with heap:=h',toks:=t' }:=I.un (Un.laid k hp (I.hok.fresh hp)) (I.hok.laid k hp new)
theorem Inv.write{x e:Addr}{o:HO}{t':Nat}(I:Inv X pins σ H s)(mu:Mut (H x))(he:e=x\/H e=some (.own x))(k:∀b u,b≠e->s.heap.get? b=some u->h'.get? b=some u)(heo:∃u,h'.get? e=some u)
  (new:ObjOk X.prog X.w (upd H x o) h' x o):Inv X pins σ (upd H x o) { s with heap:=h',toks:=t' }:=I.un (Un.write mu he k heo) (I.hok.write mu he k heo new)
theorem Inv.pins_of{pins':List (Addr×Obj)}(I:Inv X pins σ H s)(h:∀p∈pins',s.heap.get? p.1=some p.2/\H p.1=none/\p.1≠X.env.locals/\p.1∉X.fs/\∀v,p.2.data≠.cell v):Inv X pins' σ H s :=
 ⟨I.ok,I.os,I.bare,I.base,I.loc,I.cell,I.free,I.freeC,fun p hp=>(List.mem_append.mp hp).elim (fun z=>I.pin p (List.mem_append_left _ z)) (h p),I.hok,I.len⟩
theorem nodup_ix{N:List Str}(hN:N.Nodup){i j:Nat}{x:Str}(a:N[i]?=some x)(b:N[j]?=some x):i=j:=by
 obtain⟨h1,e1⟩:=List.getElem?_eq_some_iff.mp a
 obtain⟨h2,e2⟩:=List.getElem?_eq_some_iff.mp b
 exact(List.getElem_inj hN).mp (e1.trans e2.symm)
theorem store_ok2{M:Model}{A:Around}{E:Value->Shared->Prop}{i:Nat}{x:Str}{v:V}{u:Value}{Q:Unit->Shared->Prop}(I:Inv X pins σ H s)(hN:X.N.Nodup)(hi:X.N[i]?=some x)(hx:Loc X.env.scope x)(r:RelV v u)
  (h:∀s',Inv X pins (σ.set i (some v)) H s'->(∃a,Heap.SameBut a s.heap s'.heap/\(a=X.env.locals\/X.env.cells.lookup x=some a))->Q () s') (hf:X.fn x=true\/X.env.scope.names.lookup x=some .local:=by first|exact .inl rfl|exact .inr rfl|assumption):wpAny M A (storeName X.env x u) Q E s:=by
 obtain⟨m,hn,hl⟩:=id I.loc
 have hcls:(X.env.scope.kind==.class||(X.env.scope.kind==.module&&X.env.locals != X.env.globals))=false:=by rw[I.ok.kind];rfl
 have hiσ:i<σ.length:=by rw[I.len];exact(List.getElem?_eq_some_iff.mp hi).1
 have cne:=I.cne
 have tracked:∀{a:Addr} {h':Heap},(∃o,s.heap.get? a=some o/\H a=none)->Heap.SameBut a s.heap h'->HOk X.prog X.w H h':=fun {a h'} ha hs b ob e=>by
  obtain⟨_,_,hfree⟩:=ha
  refine(I.hok b ob e).stay (fun c w' hc q=>(hs.2 c ?_).trans q) (fun _ q=>q) fun _ _ q=>q
  rintro rfl
  rcases hc with rfl|hc
  ·rw[hfree]at e;cases e
  ·rw[hfree]at hc;cases hc
 rcases hx with hk|hk
 ·refine wpAny_storeName_local hk hn (fun h' hn' hs=>?_) hcls
  obtain⟨oL,_,_,hoL,_⟩:=id hn
  refine h _ ⟨I.ok,I.os,I.bare,⟨fun b o e n hb hx=>?_,fun b o e n hb hx=>?_,I.base.free,fun b o e hx=>?_,I.base.tups,I.base.frzs,I.base.tbls⟩,⟨_,hn',fun j y v' e1 e2 e3=>?_⟩,fun y c e=>?_,I.free,I.freeC,fun p hp=>?_,tracked ⟨oL,hoL,I.free⟩ hs,by simpa using I.len⟩ ⟨_,hs,.inl rfl⟩
  ·exact(hs.2 b (Nat.ne_of_lt (Nat.lt_of_lt_of_le (Heap.lt_size e) I.ok.above))).trans (I.base.keep b o e n hb hx)
  ·obtain⟨sl,e1⟩:=I.base.slot b o e n hb hx
   exact⟨sl,(hs.2 b (Nat.ne_of_lt (Nat.lt_of_lt_of_le (Heap.lt_size e) I.ok.above))).trans e1⟩
  ·obtain⟨o',e1⟩:=I.base.there b o e hx
   exact⟨o',(hs.2 b (Nat.ne_of_lt (Nat.lt_of_lt_of_le (Heap.lt_size e) I.ok.above))).trans e1⟩
  ·by_cases hj:j=i
   ·subst hj
    rw[hi]at e1;cases e1
    rw[List.getElem?_set_self hiσ]at e2
    cases e2
    exact⟨u,r,.inl ⟨hk,by simp⟩⟩
   ·rw[List.getElem?_set_ne (Ne.symm hj)]at e2
    obtain⟨u',r',q⟩:=hl j y v' e1 e2 e3
    refine⟨u',r',?_⟩
    rcases q with ⟨k,e⟩|⟨k,c,e,z⟩
    ·refine .inl ⟨k,?_⟩
     have:y≠x:=fun e=>hj (nodup_ix hN e1 (e▸hi))
     simp[this,e]
    ·exact .inr ⟨k,c,e,z.sameBut hs (cne y c e)⟩
  ·obtain⟨w',z⟩:=I.cell y c e
   exact⟨w',z.sameBut hs (cne y c e)⟩
  ·obtain⟨e,n,ne,nf,d⟩:=I.pin p hp
   exact⟨(hs.2 p.1 ne).trans e,n,ne,nf,d⟩
 ·have hfn:X.fn x=true:=by
   rcases hf with z|z
   ·exact z
   ·rw[z]at hk;cases hk
  obtain⟨c,hc⟩:=I.ok.has x (.inl hk)
  obtain⟨w',z⟩:=I.cell x c hc
  refine wpAny_storeName_cell I.ok.kind hk hc z (fun h' hc' hs=>?_)
  obtain⟨oc,hoc,hocd⟩:=id z
  refine h { s with heap:=h' } ⟨I.ok,I.os,I.bare,⟨fun b o e n hb hx=>?_,fun b o e n hb hx=>?_,I.base.free,fun b o e hx=>?_,I.base.tups,I.base.frzs,I.base.tbls⟩,⟨m,hn.sameBut hs (Ne.symm (cne x c hc)),fun j y v' e1 e2 e3=>?_⟩,fun y c' e=>?_,I.free,I.freeC,fun p hp=>?_,tracked ⟨oc,hoc,I.freeC x c hc⟩ hs,by simpa using I.len⟩ ⟨c,hs,.inr hc⟩
  ·exact(hs.2 b (Nat.ne_of_lt (Nat.lt_of_lt_of_le (Heap.lt_size e) (I.ok.cab x c hfn hc)))).trans (I.base.keep b o e n hb hx)
  ·obtain⟨sl,e1⟩:=I.base.slot b o e n hb hx
   exact⟨sl,(hs.2 b (Nat.ne_of_lt (Nat.lt_of_lt_of_le (Heap.lt_size e) (I.ok.cab x c hfn hc)))).trans e1⟩
  ·obtain⟨o',e1⟩:=I.base.there b o e hx
   exact⟨o',(hs.2 b (Nat.ne_of_lt (Nat.lt_of_lt_of_le (Heap.lt_size e) (I.ok.cab x c hfn hc)))).trans e1⟩
  ·by_cases hj:j=i
   ·subst hj
    rw[hi]at e1;cases e1
    rw[List.getElem?_set_self hiσ]at e2
    cases e2
    exact⟨u,r,.inr ⟨.inl hk,c,hc,hc'⟩⟩
   ·rw[List.getElem?_set_ne (Ne.symm hj)]at e2
    obtain⟨u',r',q⟩:=hl j y v' e1 e2 e3
    refine⟨u',r',?_⟩
    rcases q with q|⟨k,c',e,z'⟩
    ·exact .inl q
    ·refine .inr ⟨k,c',e,z'.sameBut hs ?_⟩
     rintro rfl
     exact hj (nodup_ix hN e1 (I.ok.inj _ _ _ e hc▸hi))
  ·by_cases hcc:c'=c
   ·subst hcc;exact⟨_,hc'⟩
   ·obtain⟨w2,z2⟩:=I.cell y c' e
    exact⟨w2,z2.sameBut hs hcc⟩
  ·obtain⟨e,n,ne,nf,d⟩:=I.pin p hp
   refine⟨(hs.2 p.1 ?_).trans e,n,ne,nf,d⟩
   intro q
   rw[q,hoc]at e
   have q':oc=p.2:=Option.some.inj e
   exact d w' (by rw[<- q'];exact hocd)
theorem store_ok{M:Model}{A:Around}{E:Value->Shared->Prop}{i:Nat}{x:Str}{v:V}{u:Value}{Q:Unit->Shared->Prop}(I:Inv X pins σ H s)(hN:X.N.Nodup)(hi:X.N[i]?=some x)(hx:Loc X.env.scope x)(r:RelV v u)
  (h:∀s',Inv X pins (σ.set i (some v)) H s'->Q () s') (hf:X.fn x=true\/X.env.scope.names.lookup x=some .local:=by first|exact .inl rfl|exact .inr rfl|assumption):wpAny M A (storeName X.env x u) Q E s :=
 store_ok2 I hN hi hx r (fun s' I' _=>h s' I') hf
theorem Inv.call'{s':Shared}{ch:List Addr}(I:Inv X pins σ H s)(ho:s'.os=s.os)(u:Un (frs X.stack) ch H H' s.heap s'.heap)(hok:HOk X.prog X.w H' s'.heap)(hg:AllBare s'.gens)
  (hch:∀b∈ch,(b∈X.ex\/X.s₀.heap.objs.size<=b)/\b≠X.env.locals/\(∀x c,X.env.cells.lookup x=some c->c≠b)/\∀p∈X.pn++pins,p.1≠b):Inv X pins σ H' s':=by
 obtain⟨h',g',d',t',o'⟩:=s'
 have e:o'=s.os:=ho
 subst e
 exact I.call (g':=g') (t':=t') (d':=d') u hok hg hch
end
abbrev XK:=Value->Option Addr->Hp->Prop
abbrev St:=List (Option V)
abbrev VK:=V->Hp->Prop
abbrev TE:=St->Hp->VK->Prop
abbrev TT:=St->Hp->(Bool->Hp->Prop)->Prop
abbrev TA:=St->Hp->(List V->Hp->Prop)->Prop
structure Ends where
 nx:St->Hp->Prop
 rt:VK
 bk:St->Hp->Prop:=fun _ _=>False
 ct:St->Hp->Prop:=fun _ _=>False
abbrev TS:=Ends->St->Hp->Prop
def EP(X:Cx)(pins:List (Addr×Obj))(σ:St)(Q:VK)(u:Value)(s':Shared):Prop:=∃v H',Inv X pins σ H' s'/\RelV v u/\Q v H'
def TP(X:Cx)(pins:List (Addr×Obj))(σ:St)(Q:Bool->Hp->Prop)(b:Bool)(s':Shared):Prop:=∃H',Inv X pins σ H' s'/\Q b H'
def AP(X:Cx)(pins:List (Addr×Obj))(σ:St)(Q:List V->Hp->Prop)(us:List Value)(s':Shared):Prop:=∃vs H',Inv X pins σ H' s'/\Vals vs us/\Q vs H'
def SP(X:Cx)(pins:List (Addr×Obj))(D:Ends)(f:Flow)(s':Shared):Prop :=
 match f with
 |.next=>∃σ' H',Inv X pins σ' H' s'/\D.nx σ' H'
 |.brk=>∃σ' H',Inv X pins σ' H' s'/\D.bk σ' H'
 |.cont=>∃σ' H',Inv X pins σ' H' s'/\D.ct σ' H'
 |.ret u=>∃v σ' H',Inv X pins σ' H' s'/\RelV v u/\D.rt v H'
def PE(X:Cx)(e:Expr)(t:TE):Prop :=
 ∀(pins:List (Addr×Obj)) (s:Shared) (σ:St) (H:Hp) (Q:VK),Inv X pins σ H s->t σ H Q->wpAny (model X.prog X.w) X.A (eval e X.env) (EP X pins σ Q) X.xe s
def PT(X:Cx)(e:Expr)(t:TT):Prop :=
 ∀(pins:List (Addr×Obj)) (s:Shared) (σ:St) (H:Hp) (Q:Bool->Hp->Prop),Inv X pins σ H s->t σ H Q->wpAny (model X.prog X.w) X.A (isTrue e X.env (eval e X.env)) (TP X pins σ Q) X.xe s
def PW(X:Cx)(e:Expr)(t:TT):Prop :=
 ∀(whole:Sem Value) (pins:List (Addr×Obj)) (s:Shared) (σ:St) (H:Hp) (Q:Bool->Hp->Prop),Inv X pins σ H s->t σ H Q->wpAny (model X.prog X.w) X.A (isTrue e X.env whole) (TP X pins σ Q) X.xe s
theorem PW.pt{X:Cx}{e:Expr}{t:TT}(h:PW X e t):PT X e t:=h _
def PA(X:Cx)(es:List Expr)(t:TA):Prop :=
 ∀(pos:Pos) (pins:List (Addr×Obj)) (s:Shared) (σ:St) (H:Hp) (Q:List V->Hp->Prop),Inv X pins σ H s->t σ H Q->wpAny (model X.prog X.w) X.A (spliced (backTo pos (starEach es X.env))) (AP X pins σ Q) X.xe s
def PS(X:Cx)(st:Stmt)(t:TS):Prop :=
 ∀(pins:List (Addr×Obj)) (s:Shared) (σ:St) (H:Hp) (D:Ends),Inv X pins σ H s->t D σ H->wpAny (model X.prog X.w) X.A (exec st X.env) (SP X pins D) X.xe s
def PSs(X:Cx)(st:List Stmt)(t:TS):Prop :=
 ∀(pins:List (Addr×Obj)) (s:Shared) (σ:St) (H:Hp) (D:Ends),Inv X pins σ H s->t D σ H->wpAny (model X.prog X.w) X.A (execs st X.env) (SP X pins D) X.xe s
theorem thn{α:Type}{t:Sem α}{Q Q':α->Shared->Prop}{M:Model}{A:Around}{E:Value->Shared->Prop}{s:Shared}(h:wpAny M A t Q E s)(hQ:∀a s,Q a s->Q' a s):wpAny M A t Q' E s:=wpAny_mono h hQ fun _ _ x=>x
end L2
namespace L2
open PySem PySem.Spec PyProof.Rows
section
variable {X:Cx}
theorem bin{a b:Expr}{ta tb:TE}(ha:PE X a ta)(hb:PE X b tb){pins:List (Addr×Obj)}{s:Shared}{σ:St}{H:Hp}{R:V->V->Hp->Prop}(I:Inv X pins σ H s)(h:ta σ H fun x H1=>tb σ H1 fun y H2=>R x y H2)
  {α:Type} {Q:α->Shared->Prop} {f:Value->Value->Sem α}
  (hf:∀v u s2 x y H2,Inv X pins σ H2 s2->RelV x v->RelV y u->R x y H2->wpAny (model X.prog X.w) X.A (f v u) Q X.xe s2) :
  wpAny (model X.prog X.w) X.A (eval a X.env) (fun v s₁=>wpAny (model X.prog X.w) X.A (eval b X.env) (fun u s₂=>wpAny (model X.prog X.w) X.A (f v u) Q X.xe s₂) X.xe s₁) X.xe s:=by
 refine thn (ha pins s σ H _ I h) fun v s1 ⟨x,H1,I1,r1,q1⟩=>?_
 refine thn (hb pins s1 σ H1 _ I1 q1) fun u s2 ⟨y,H2,I2,r2,q2⟩=>?_
 exact hf v u s2 x y H2 I2 r1 r2 q2
def tVar(i:Nat):TE:=fun σ H Q=>∃v,σ[i]?=some (some v)/\Q v H
def tC(v:V):TE:=fun _ H Q=>Q v H
theorem pe_var{i:Nat}{x:Str}{pos:Pos}(hN:X.N[i]?=some x)(hv:Vis X.env.scope x)(hd:(x==("__debug__":Str))=false:=by decide)(hcd:(x==("__classdict__":Str))=false:=by decide):PE X (.Name x pos) (tVar i):=by
 intro pins s σ H Q I h
 obtain⟨v,e,h⟩:=h
 obtain⟨m,hn,hl⟩:=I.loc
 obtain⟨u,r,l⟩:=hl i x v hN e hv
 have fin:EP X pins σ Q u s:=⟨v,H,I,r,h⟩
 rcases l with ⟨hk,hm⟩|⟨hk,c,hc,hcell⟩
 ·exact wpAny_Name (wpAny_loadName_local I.ok.kind hk hn hm fin) hd
 ·rcases hk with hk|hk
  ·exact wpAny_Name (wpAny_loadName_cell I.ok.kind hk hc hcell fin) hd
  ·exact wpAny_Name (wpAny_loadName_free I.ok.kind hk hc hcell fin hcd) hd
theorem pe_int{i j pos}:PE X (.Constant (.int i) j pos) (tC (.int i)):=fun _ _ _ H _ I h=>wpAny_Constant_int ⟨.int i,H,I.tok _,⟨_,rfl⟩,h⟩
theorem pe_bl{b j pos}:PE X (.Constant (.bool b) j pos) (tC (.bl b)):=fun _ _ _ H _ I h=>Constant_bool ⟨.bl b,H,I,rfl,h⟩
theorem pe_non{j pos}:PE X (.Constant .none j pos) (tC .non):=fun _ _ _ H _ I h=>Constant_none ⟨.non,H,I,rfl,h⟩
def Gl(X:Cx)(x:Str):Prop:=X.env.kindOf x=some .globalImplicit
theorem ld_glob{E:Value->Shared->Prop}{pins:List (Addr×Obj)}{s:Shared}{σ:St}{H:Hp}{x:Str}{u:Value}{pos:Pos}{Q:Value->Shared->Prop}(I:Inv X pins σ H s)(hg:Gl X x)(hm:X.mg x=some u)(h:Q u s)
  (hd:(x==("__debug__":Str))=false:=by decide):wpAny (model X.prog X.w) X.A (eval (.Name x pos) X.env) Q E s :=
 Calls.Name_function_global I.ok.kind hg (Calls.loadGlobal_global (by rw[I.ok.glob];exact I.mod.glob.keeps I.bk) hm h) hd
theorem ld_blt{E:Value->Shared->Prop}{pins:List (Addr×Obj)}{s:Shared}{σ:St}{H:Hp}{x:Str}{u:Value}{pos:Pos}{Q:Value->Shared->Prop}(I:Inv X pins σ H s)(hg:Gl X x)(hm:X.mg x=none)(hv:bootBuiltins x=some u)(h:Q u s)
  (hn:x≠"__name__":=by decide) (hd:(x==("__debug__":Str))=false:=by decide):wpAny (model X.prog X.w) X.A (eval (.Name x pos) X.env) Q E s:=by
 obtain⟨mb,h1,h2⟩:=I.mod.blt
 exact Calls.Name_function_global I.ok.kind hg (Calls.loadGlobal_builtin (by rw[I.ok.glob];exact I.mod.glob.keeps I.bk) hm (by rw[I.ok.blt];exact h1.keeps I.bk) ((h2 x hn).trans hv) h) hd
theorem pe_bltn{x:Str}{v:V}{u:Value}{pos:Pos}(hg:Gl X x)(hm:X.mg x=none)(hv:bootBuiltins x=some u)(r:RelV v u)(hn:x≠"__name__":=by decide)(hd:(x==("__debug__":Str))=false:=by decide):PE X (.Name x pos) (tC v) :=
 fun _ _ _ H _ I h=>ld_blt I hg hm hv ⟨v,H,I,r,h⟩ hn hd
variable {a b:Expr} {ta tb:TE} {pos:Pos}
def tB(t:TE):TT:=fun σ H Q=>t σ H fun x H1=>∃c,x = .bl c/\Q c H1
theorem pt_val{e:Expr}{t:TE}(h:PE X e t)(he:∀whole,isTrue e X.env whole=(do let v <- whole;standAt e.pos;holding [v] (truthy v)):=by intro _;rfl):PT X e (tB t):=by
 intro pins s σ H Q I hw
 refine isTrue_plain (thn (h pins s σ H _ I hw) fun v s1 ⟨x,H1,I1,r1,q1⟩=>?_) (he _)
 obtain⟨d,rfl,q⟩:=q1
 cases r1
 exact wpAny_truthy_bool ⟨H1,I1,q⟩
variable {tA tB':TT} {rest:List Expr}
def tAnd(t u:TT):TT:=fun σ H Q=>t σ H fun c H1=>if c=true then u σ H1 Q else Q false H1
def tOr(t u:TT):TT:=fun σ H Q=>t σ H fun c H1=>if c=true then Q true H1 else u σ H1 Q
def tNot(t:TT):TT:=fun σ H Q=>t σ H fun c H1=>Q (!c) H1
theorem pw_and1(ha:PT X a tA):PW X (.BoolOp .And [a] pos) tA:=by
 intro wh pins s σ H Q I h
 refine isTrue_and (thn (ha pins s σ H Q I h) fun c s1 e=>?_)
 cases c with
 |true=>exact isTrue_and_nil e
 |false=>exact e
theorem pw_or1(ha:PT X a tA):PW X (.BoolOp .Or [a] pos) tA:=by
 intro wh pins s σ H Q I h
 refine isTrue_or (thn (ha pins s σ H Q I h) fun c s1 e=>?_)
 cases c with
 |false=>exact isTrue_or_nil e
 |true=>exact e
theorem pw_and(ha:PT X a tA)(hb:PW X (.BoolOp .And (b::rest) pos) tB'):PW X (.BoolOp .And (a::b::rest) pos) (tAnd tA tB'):=by
 intro wh pins s σ H Q I h
 refine isTrue_and (thn (ha pins s σ H _ I h) fun c s1 ⟨H1,I1,q1⟩=>?_)
 cases c with
 |true=>exact hb wh pins s1 σ H1 Q I1 q1
 |false=>exact⟨H1,I1,q1⟩
theorem pw_or(ha:PT X a tA)(hb:PW X (.BoolOp .Or (b::rest) pos) tB'):PW X (.BoolOp .Or (a::b::rest) pos) (tOr tA tB'):=by
 intro wh pins s σ H Q I h
 refine isTrue_or (thn (ha pins s σ H _ I h) fun c s1 ⟨H1,I1,q1⟩=>?_)
 cases c with
 |true=>exact⟨H1,I1,q1⟩
 |false=>exact hb wh pins s1 σ H1 Q I1 q1
theorem pt_not(ha:PT X a tA):PT X (.UnaryOp .Not a pos) (tNot tA):=by
 intro pins s σ H Q I h
 exact isTrue_not (ha pins s σ H (fun c H1=>Q (!c) H1) I h)
end
end L2
namespace L2
open PySem PySem.Spec PyProof.Rows
def SqL(K:PySem.W.Frag)(H:Hp)(a:Addr)(xs:List V):Prop :=
 Rd H a (.lst xs) \/
  ∃(o:Obj) (its:Array Value) (n:Nat),K.lookup a=some o/\o.cls = .type "list"/\o.dict=none/\o.data = .seq its n/\its.size<=sizeLine/\Vals xs its.toList
def SqT(K:PySem.W.Frag)(H:Hp)(a:Addr)(xs:List V):Prop :=
 Rd H a (.tup xs) \/
  ∃(o:Obj) (its:Array Value) (n:Nat),K.lookup a=some o/\o.cls = .type "tuple"/\o.data = .seq its n/\its.size<=sizeLine/\Vals xs its.toList
def absV:Value->Option V
 |.none=>some .non
 |.bool b=>some (.bl b)
 |.int i _=>some (.int i)
 |.str x _=>some (.str x)
 |.bytes b _=>some (.byt b)
 |.float b _=>some (.flt b)
 |.ref a=>some (.ref a)
 |.type n=>some (.ty n)
 |_=>none
theorem RelV.abs{x:V}{u:Value}(r:RelV x u):absV u=some x:=by
 cases x with
 |non=>cases r;rfl
 |bl _=>cases r;rfl
 |int _=>obtain⟨t,rfl⟩:=r;rfl
 |str _=>obtain⟨t,rfl⟩:=r;rfl
 |byt _=>obtain⟨t,rfl⟩:=r;rfl
 |flt _=>obtain⟨t,rfl⟩:=r;rfl
 |ref _=>cases r;rfl
 |ty _=>cases r;rfl
theorem RelV.inj{x y:V}{u:Value}(r:RelV x u)(q:RelV y u):x=y:=Option.some.inj (r.abs.symm.trans q.abs)
theorem Vals.inj:∀{xs ys:List V} {us:List Value},Vals xs us->Vals ys us->xs=ys
 |_,_,_,.nil,.nil=>rfl
 |_,_,_,.cons r t,.cons r' t'=>by rw[r.inj r',Vals.inj t t']
section
variable {X:Cx} {pins:List (Addr×Obj)} {σ:St} {H:Hp} {s:Shared} {a:Addr} {xs ys:List V}
theorem SqL.of{K:PySem.W.Frag}(h:H a=some (.lst xs)):SqL K H a xs:=.inl (.inl h)
theorem SqT.of{K:PySem.W.Frag}(h:H a=some (.tup xs)):SqT K H a xs:=.inl (.inl h)
theorem Inv.list(I:Inv X pins σ H s)(h:SqL X.K H a xs):∃its:List Value,Vals xs its/\PlainL s.heap a its.toArray/\xs.length<=sizeLine:=by
 rcases h with h|⟨o,its,n,hk,hc,hd,hs,hz,r⟩
 ·obtain⟨z,its,n,r,e⟩:=h.ok I.hok
  exact⟨its,r,⟨_,n,e,rfl,rfl,rfl⟩,z⟩
 ·refine⟨its.toList,r,⟨o,n,I.kIn a o hk,hc,hd,by simpa using hs⟩,?_⟩
  have e:=r.length
  simp only[Array.length_toList]at e
  omega
theorem Inv.tuple(I:Inv X pins σ H s)(h:SqT X.K H a xs):∃its:List Value,Vals xs its/\IsTup s.heap a its.toArray/\xs.length<=sizeLine:=by
 rcases h with h|⟨o,its,n,hk,hc,hs,hz,r⟩
 ·obtain⟨z,its,r,p⟩:=h.ok I.hok
  exact⟨its,r,p,z⟩
 ·refine⟨its.toList,r,⟨o,I.kIn a o hk,hc,n,by simpa using hs⟩,?_⟩
  have e:=r.length
  simp only[Array.length_toList]at e
  omega
theorem Inv.list_inj(I:Inv X pins σ H s)(h:SqL X.K H a xs)(h':SqL X.K H a ys):xs=ys:=by
 obtain⟨its,r,⟨o,n,e,_,_,d⟩,_⟩:=I.list h
 obtain⟨its',r',⟨o',n',e',_,_,d'⟩,_⟩:=I.list h'
 rw[e]at e';cases e'
 rw[d]at d'
 injection d' with d1 _
 have:its=its':=by simpa using congrArg Array.toList d1
 subst this
 exact r.inj r'
theorem Inv.tuple_inj(I:Inv X pins σ H s)(h:SqT X.K H a xs)(h':SqT X.K H a ys):xs=ys:=by
 obtain⟨its,r,⟨o,e,_,n,d⟩,_⟩:=I.tuple h
 obtain⟨its',r',⟨o',e',_,n',d'⟩,_⟩:=I.tuple h'
 rw[e]at e';cases e'
 rw[d]at d'
 injection d' with d1 _
 have:its=its':=by simpa using congrArg Array.toList d1
 subst this
 exact r.inj r'
end
abbrev Cx.wish(X:Cx)(E:Value->Shared->Prop):Cx:={ X with xe:=E }
abbrev Cx.nox(X:Cx):Cx:=X.wish fun _ _=>False
theorem Cx.Ok.wish{X:Cx}(ok:X.Ok)(E:Value->Shared->Prop):(X.wish E).Ok :=
 ⟨ok.mod,ok.kind,ok.glob,ok.blt,ok.above,ok.inj,ok.has,ok.cab,ok.hd,ok.frames,ok.stk,ok.exf,ok.bs,ok.bsz,ok.noex,ok.exfs,ok.funs,ok.frf⟩
theorem Cx.Ok.unwish{X:Cx}{E:Value->Shared->Prop}(ok:(X.wish E).Ok):X.Ok :=
 ⟨ok.mod,ok.kind,ok.glob,ok.blt,ok.above,ok.inj,ok.has,ok.cab,ok.hd,ok.frames,ok.stk,ok.exf,ok.bs,ok.bsz,ok.noex,ok.exfs,ok.funs,ok.frf⟩
section
variable {X:Cx} {pins:List (Addr×Obj)} {σ:St} {H:Hp} {s:Shared} {E:Value->Shared->Prop}
theorem Inv.wish(I:Inv X pins σ H s)(E:Value->Shared->Prop):Inv (X.wish E) pins σ H s:=⟨I.ok.wish E,I.os,I.bare,I.base,I.loc,I.cell,I.free,I.freeC,I.pin,I.hok,I.len⟩
theorem Inv.unwish(I:Inv (X.wish E) pins σ H s):Inv X pins σ H s:=⟨I.ok.unwish,I.os,I.bare,I.base,I.loc,I.cell,I.free,I.freeC,I.pin,I.hok,I.len⟩
theorem SP.unwish{D:Ends}{f:Flow}{s':Shared}(h:SP (X.wish E) pins D f s'):SP X pins D f s':=by
 cases f with
 |next=>obtain⟨σ',H',I,q⟩:=h;exact⟨σ',H',I.unwish,q⟩
 |brk=>obtain⟨σ',H',I,q⟩:=h;exact⟨σ',H',I.unwish,q⟩
 |cont=>obtain⟨σ',H',I,q⟩:=h;exact⟨σ',H',I.unwish,q⟩
 |ret u=>obtain⟨v,σ',H',I,r,q⟩:=h;exact⟨v,σ',H',I.unwish,r,q⟩
theorem PSs.nox{st:List Stmt}{t:TS}(h:PSs X.nox st t):PSs X st t:=fun pins s σ H D I hw =>
 wpAny_mono (h pins s σ H D (I.wish _) hw) (fun _ _ q=>q.unwish) fun _ _ z=>False.elim z
end
section
variable {X:Cx} {st:Stmt} {rest:List Stmt} {t u:TS} {e:Expr} {te:TE} {pos:Pos}
def tNext:TS:=fun D σ H=>D.nx σ H
def tSeq(t u:TS):TS:=fun D σ H=>t { D with nx:=u D } σ H
theorem pss_nil:PSs X [] tNext:=fun _ _ σ H _ I h=>wpAny_execs_nil ⟨σ,H,I,h⟩
theorem pss_cons(h1:PS X st t)(h2:PSs X rest u):PSs X (st::rest) (tSeq t u):=by
 intro pins s σ H D I h
 refine wpAny_execs_cons (thn (h1 pins s σ H { D with nx:=u D } I h) fun f s1 q=>?_)
 cases f with
 |next =>
  obtain⟨σ',H',I',q⟩:=q
  exact h2 pins s1 σ' H' D I' q
 |ret v=>exact q
 |brk=>exact q
 |cont=>exact q
theorem pss_one(h1:PS X st t):PSs X [st] t:=by
 intro pins s σ H D I h
 refine wpAny_execs_cons (thn (h1 pins s σ H D I h) fun f s1 q=>?_)
 cases f with
 |next=>exact wpAny_execs_nil q
 |ret v=>exact q
 |brk=>exact q
 |cont=>exact q
theorem Inv.quiet{pins:List (Addr×Obj)}{σ:St}{H:Hp}{s:Shared}(I:Inv X pins σ H s):interactive X.env=false:=by simp[interactive,I.ok.kind]
def tDrop(te:TE):TS:=fun D σ H=>te σ H fun _ H1=>D.nx σ H1
theorem ps_expr(he:PE X e te)(hs:swapsWith e none pos.line X.env=pure false:=by rfl):PS X (.Expr e pos) (tDrop te):=by
 intro pins s σ H D I h
 exact wpAny_Expr_any (thn (he pins s σ H _ I h) fun v s1 ⟨x,H1,I1,r1,q1⟩=>⟨σ,H1,I1,q1⟩) I.quiet hs
def tRet(te:TE):TS:=fun D σ H=>te σ H D.rt
theorem ps_ret(he:PE X e te):PS X (.Return (some e) pos) (tRet te):=by
 intro pins s σ H D I h
 exact wpAny_Return_some (thn (he pins s σ H _ I h) fun v s1 ⟨x,H1,I1,r1,q1⟩=>⟨x,σ,H1,I1,r1,q1⟩)
def tIfS(c:TT)(t u:TS):TS:=fun D σ H=>c σ H fun b H1=>if b=true then t D σ H1 else u D σ H1
theorem ps_if{c:Expr}{a b:List Stmt}{tc:TT}(hc:PT X c tc)(ha:PSs X a t)(hb:PSs X b u):PS X (.If c a b pos) (tIfS tc t u):=by
 intro pins s σ H D I h
 refine wpAny_If (thn (hc pins s σ H _ I h) fun d s1 ⟨H1,I1,q1⟩=>?_)
 cases d with
 |true=>exact ha pins s1 σ H1 D I1 q1
 |false=>exact hb pins s1 σ H1 D I1 q1
end
abbrev TG:=V->St->Hp->(St->Hp->Prop)->Prop
abbrev TGs:=List V->St->Hp->(St->Hp->Prop)->Prop
def PG(X:Cx)(target:Expr)(t:TG):Prop :=
 ∀(pins:List (Addr×Obj)) (s:Shared) (σ:St) (H:Hp) (v:V) (u:Value) (Q:St->Hp->Prop),Inv X pins σ H s->RelV v u->t v σ H Q ->
  wpAny (model X.prog X.w) X.A (assign target X.env u) (fun _ s'=>∃σ' H',Inv X pins σ' H' s'/\Q σ' H') X.xe s
def PGs(X:Cx)(ts:List Expr)(t:TGs):Prop :=
 ∀(pins:List (Addr×Obj)) (s:Shared) (σ:St) (H:Hp) (vs:List V) (us:List Value) (Q:St->Hp->Prop),Inv X pins σ H s->Vals vs us->t vs σ H Q ->
  wpAny (model X.prog X.w) X.A (assignInOrder ((assignEach ts X.env).map (·.2)) us) (fun _ s'=>∃σ' H',Inv X pins σ' H' s'/\Q σ' H') X.xe s
abbrev TSet:=V->V->V->Hp->(Hp->Prop)->Prop
def PSet(X:Cx)(t:TSet):Prop :=
 ∀(pins:List (Addr×Obj)) (s:Shared) (σ:St) (H:Hp) (o i v:V) (ov iv u:Value) (Q:Hp->Prop),Inv X pins σ H s->RelV o ov->RelV i iv->RelV v u->t o i v H Q ->
  wpAny (model X.prog X.w) X.A (setItem ov iv u) (fun _ s'=>∃H',Inv X pins σ H' s'/\Q H') X.xe s
section
variable {X:Cx} {pos:Pos}
def gName(i:Nat):TG:=fun v σ H Q=>Q (σ.set i (some v)) H
theorem pg_name{i:Nat}{x:Str}(hN:X.N.Nodup)(hi:X.N[i]?=some x)(hx:Loc X.env.scope x)(hf:X.fn x=true\/X.env.scope.names.lookup x=some .local:=by first|exact .inl rfl|exact .inr rfl|assumption):PG X (.Name x pos) (gName i):=by
 intro pins s σ H v u Q I r h
 exact wpAny_assign_Name (store_ok I hN hi hx r (fun s' I'=>⟨_,H,I',h⟩) hf)
def gNil:TGs:=fun vs σ H Q=>vs=[]/\Q σ H
def gCons(t:TG)(u:TGs):TGs:=fun vs σ H Q=>∃v r,vs=v::r/\t v σ H fun σ' H'=>u r σ' H' Q
theorem pgs_nil:PGs X [] gNil:=by
 intro pins s σ H vs us Q I r h
 obtain⟨e,h⟩:=h
 subst e
 cases r
 exact assignInOrder_nil ⟨σ,H,I,h⟩
theorem pgs_cons{e:Expr}{es:List Expr}{t:TG}{u:TGs}(h1:PG X e t)(h2:PGs X es u)
  (hs:(assignEach (e::es) X.env).map (·.2)=assign e X.env::(assignEach es X.env).map (·.2):=by rfl):PGs X (e::es) (gCons t u):=by
 intro pins s σ H vs us Q I r h
 obtain⟨v,vr,e1,h⟩:=h
 subst e1
 cases r with
 |cons r rr =>
  rw[hs]
  refine assignInOrder_cons (thn (h1 pins s σ H _ _ _ I r h) fun _ s1 ⟨σ1,H1,I1,q1⟩=>?_)
  exact h2 pins s1 σ1 H1 _ _ Q I1 rr q1
def gTup(K:PySem.W.Frag)(n:Nat)(t:TGs):TG:=fun v σ H Q=>∃a xs,v = .ref a/\SqT K H a xs/\xs.length=n/\t xs σ H Q
theorem pg_tup{es:List Expr}{k:Nat}{t:TGs}{n:Nat}(hc:X.calm=true)(h:PGs X es t)
  (hn:(assignEach es X.env).length=n:=by rfl) (hst:(assignEach es X.env).findIdx? (·.1)=none:=by rfl):PG X (.Tuple es k pos) (gTup X.K n t):=by
 intro pins s σ H v u Q I r hw
 obtain⟨a,xs,e1,hq,hl,hw⟩:=hw
 subst e1
 cases r
 obtain⟨its,rv,ht,hz⟩:=I.tuple hq
 refine assign_Tuple_tuple (I.ok.hd hc) ht (by simp[hn,<- hl,rv.length]) hst fun h' hx=>?_
 have I1:Inv X pins σ H { s with heap:=h' }:=I.kept (t':=s.toks) fun b o e=>hx b o (Nat.ne_of_lt (Heap.lt_size e)) e
 exact h pins _ σ H xs _ Q I1 (by simpa using rv) hw
def gSub(to ti:TE)(t:TSet):TG:=fun v σ H Q=>to σ H fun o H1=>ti σ H1 fun i H2=>t o i v H2 fun H3=>Q σ H3
theorem pg_sub{o i:Expr}{to ti:TE}{t:TSet}(ho:PE X o to)(hi:PE X i ti)(hs:PSet X t)
  (ha : ∀ v, assign (.Subscript o i pos) X.env v = (do
   let ov <- holding [v] (eval o X.env)
   let iv <- holding [v,ov] (eval i X.env)
   standAt pos
   holding [v,ov,iv] (setItem ov iv v)
   release [v,ov,iv] []):=by intro _;rfl):PG X (.Subscript o i pos) (gSub to ti t):=by
 intro pins s σ H v u Q I r h
 rw[ha]
 refine wpAny_bind (wpAny_holding (thn (ho pins s σ H _ I h) fun ov s1 ⟨x,H1,I1,r1,q1⟩=>?_))
 refine wpAny_bind (wpAny_holding (thn (hi pins s1 σ H1 _ I1 q1) fun iv s2 ⟨y,H2,I2,r2,q2⟩=>?_))
 refine wpAny_bind (wpAny_standAt (wpAny_bind (wpAny_holding (thn (hs pins s2 σ H2 x y v ov iv u _ I2 r1 r2 r q2) fun _ s3 ⟨H3,I3,q3⟩=>?_))))
 exact wpAny_release ⟨σ,H3,I3,q3⟩
def tAsg(te:TE)(g:TG):TS:=fun D σ H=>te σ H fun x H1=>g x σ H1 D.nx
theorem ps_asg{tg e:Expr}{te:TE}{g:TG}(he:PE X e te)(hg:PG X tg g)(hs:swapsWithSole [tg] e pos.line X.env=pure false:=by rfl)(hw:swappedStores [tg] e X.env=pure none:=by rfl)
  (h1:(assignEach [tg] X.env).map (·.2)=[assign tg X.env]:=by rfl):PS X (.Assign [tg] e pos) (tAsg te g):=by
 intro pins s σ H D I h
 refine wpAny_Assign_stores (thn (he pins s σ H _ I h) fun v s1 ⟨x,H1,I1,r1,q1⟩=>?_) hs hw
 rw[h1]
 exact thn (hg pins s1 σ H1 x v _ I1 r1 q1) fun _ s2 q=>q
theorem ps_set{i:Nat}{x:Str}{e:Expr}{te:TE}{pos':Pos}(hN:X.N.Nodup)(hi:X.N[i]?=some x)(hx:Loc X.env.scope x)(he:PE X e te)(hs:swapsWith e (some (.Name x pos')) pos.line X.env=pure false:=by rfl)(hf:X.fn x=true\/X.env.scope.names.lookup x=some .local:=by first|exact .inl rfl|exact .inr rfl|assumption) :
  PS X (.Assign [.Name x pos'] e pos) (tAsg te (gName i)):=by
 intro pins s σ H D I h
 refine wpAny_Assign_Name (thn (he pins s σ H _ I h) fun v s1 ⟨y,H1,I1,r1,q1⟩=>?_) hs
 exact store_ok I1 hN hi hx r1 (fun s2 I2=>⟨_,H1,I2,q1⟩) hf
end
section
variable {X:Cx} {pos:Pos}
end
structure It where
 go:Nat->Hp->Prop
 yld:Nat->Hp->V->Hp->Prop
 stop:Nat->Hp->Prop
def FpOk(X:Cx)(pins:List (Addr×Obj))(H:Hp)(b:Addr):Prop :=
 H b=none/\b≠X.env.locals/\b∉X.fs/\(b∈X.ex\/X.s₀.heap.objs.size<=b)/\(∀x c,X.env.cells.lookup x=some c->c≠b)/\∀p∈X.pn++pins,p.1≠b
theorem Inv.fpOk{X:Cx}{pins:List (Addr×Obj)}{σ:St}{H H':Hp}{s:Shared}{b:Addr}(I:Inv X pins σ H s)(hb:s.heap.objs.size<=b)(hn:H' b=none):FpOk X pins H' b:=by
 refine⟨hn,Nat.ne_of_gt (Nat.lt_of_lt_of_le I.lt hb),I.nofs hb,.inr (Nat.le_trans I.sz hb),fun x c e z=>?_,fun p hp z=>?_⟩
 ·obtain⟨v,q⟩:=I.cell x c e
  exact absurd (Nat.lt_of_lt_of_le q.lt (by rw[z];exact hb)) (Nat.lt_irrefl _)
 ·exact absurd (Nat.lt_of_lt_of_le (Heap.lt_size (I.pin p hp).1) (by rw[z];exact hb)) (Nat.lt_irrefl _)
structure Turn(P:Program)(w:World)(K:PySem.W.Frag)(tg:Expr)(J:It)(fp:List Addr)(it:Addr)(tn:Nat->Heap->Prop):Prop where
 mem:it∈fp
 obj:∀i h,tn i h->∀b∈fp,∃o,h.get? b=some o/\∀v,o.data≠.cell v
 keep:∀i h h',tn i h->(∀b∈fp,∀o,h.get? b=some o->h'.get? b=some o)->tn i h'
 item:∀(X:Cx),X.prog=P->X.w=w->X.K=K->X.calm=true->∀(i:Nat) (pins:List (Addr×Obj)) (s:Shared) (σ:St) (H:Hp) (E:Value->Shared->Prop),Inv X pins σ H s->(∀b∈fp,FpOk X pins H b)->tn i s.heap->J.go i H ->
  wpAny (model P w) X.A (pyNext (.ref it)) (fun r s1 => ∃ u, r = some u /\
   wpAny (model P w) X.A (letOwnedTupleGo tg (.ref it) u) (fun _ s2=>∃x H',Inv X pins σ H' s2/\RelV x u/\J.yld i H x H'/\tn (i+1) s2.heap/\∀b∈fp,H' b=none) E s1) E s
 done:∀(X:Cx),X.prog=P->X.w=w->X.K=K->X.calm=true->∀(i:Nat) (pins:List (Addr×Obj)) (s:Shared) (σ:St) (H:Hp) (E:Value->Shared->Prop),Inv X pins σ H s->(∀b∈fp,FpOk X pins H b)->tn i s.heap->J.stop i H ->
  wpAny (model P w) X.A (pyNext (.ref it)) (fun r s1=>r=none/\Inv X pins σ H s1) E s
 self:∀(A:Around) (i:Nat) (s:Shared) (Q:Value->Shared->Prop) (E:Value->Shared->Prop),tn i s.heap->Q (.ref it) s->wpAny (model P w) A (pyIter (.ref it)) Q E s
abbrev TI:=St->Hp->(It->Hp->Prop)->Prop
def PIE(X:Cx)(pins:List (Addr×Obj))(σ:St)(tg:Expr)(R:It->Hp->Prop)(itv:Value)(s2:Shared):Prop :=
 ∃(it:Addr) (fp:List Addr) (tn:Nat->Heap->Prop) (J:It) (H':Hp),itv = .ref it/\Inv X pins σ H' s2/\Turn X.prog X.w X.K tg J fp it tn/\tn 0 s2.heap/\(∀b∈fp,FpOk X pins H' b)/\R J H'
def PI(X:Cx)(tg iter:Expr)(wi:TI):Prop :=
 ∀(pins:List (Addr×Obj)) (s:Shared) (σ:St) (H:Hp) (R:It->Hp->Prop),Inv X pins σ H s->wi σ H R ->
  wpAny (model X.prog X.w) X.A (eval iter X.env) (fun v s1=>wpAny (model X.prog X.w) X.A (pyIter v) (PIE X pins σ tg R) X.xe s1) X.xe s
theorem go_of{M:Model}{A:Around}{E:Value->Shared->Prop}{s:Shared}{tg:Expr}{it:Addr}{u:Value}{o:Obj}{n:String}{vs:Array Value}{Q:Unit->Shared->Prop}(ho:s.heap.get? it=some o)(hc:o.cls = .type n)(hd:o.data = .fields vs)
    (hn:["enumerate","zip","dict_itemiterator","dict_reverseitemiterator","odict_iterator","itertools.zip_longest","itertools.pairwise"].contains n=false) (hQ:Q () s):wpAny M A (letOwnedTupleGo tg (.ref it) u) Q E s:=by
  unfold letOwnedTupleGo
  cases tg<;>first
    |exact wpAny_pure hQ
    | (cases u <;> first
        |exact wpAny_pure hQ
        | (refine wpAny_bind (wpAny_load ho ?_)
           rw[hc,hd]
           show wpAny M A (if (["enumerate","zip","dict_itemiterator","dict_reverseitemiterator","odict_iterator","itertools.zip_longest","itertools.pairwise"].contains n&&vs[0]?==some (rawInt _))=true then _ else _) Q E s
           rw[if_neg (by intro h;rw[hn,Bool.false_and]at h;cases h)]
           exact wpAny_pure hQ))
def Itl(K:PySem.W.Frag)(a:Addr):It :=
 ⟨fun i H=>∃xs x,SqL K H a xs/\xs[i]?=some x,fun i H x H'=>H'=H/\∀xs,SqL K H a xs->xs[i]?=some x,fun i H=>∃xs,SqL K H a xs/\xs.length<=i⟩
def Itt(K:PySem.W.Frag)(a:Addr):It :=
 ⟨fun i H=>∃xs x,SqT K H a xs/\xs[i]?=some x,fun i H x H'=>H'=H/\∀xs,SqT K H a xs->xs[i]?=some x,fun i H=>∃xs,SqT K H a xs/\xs.length<=i⟩
def Itr(lo:Int)(n:Nat):It:=⟨fun i _=>i<n,fun i H x H'=>H'=H/\x = .int (lo+i),fun i _=>n<=i⟩
theorem turn_list{P:Program}{w:World}{K:PySem.W.Frag}{tg:Expr}(a it:Addr):Turn P w K tg (Itl K a) [it] it (fun i h=>h.IsListIter it a i) where
 mem:=by simp
 obj:=fun i h st b hb=>by
  have e:b=it:=by simpa using hb
  subst e
  obtain⟨o,e,c,d⟩:=st
  exact⟨o,e,fun v z=>by rw[d]at z;cases z⟩
 keep:=fun i h h' st k=>st.at fun o e=>k it (by simp) o e
 item:=by
  intro X hP hw hK hc i pins s σ H E I hf st hg
  subst hP hw hK
  obtain⟨xs,x,hq,hx⟩:=hg
  obtain⟨its,rv,p,hz⟩:=I.list hq
  obtain⟨u,hu,ru⟩:=rv.get hx
  obtain⟨f0,f1,f2,f3,f4,f5⟩:=hf it (by simp)
  refine wpAny_pyNext_list_item st p.isList (x:=u) (by simpa using hu) fun h' st' sb=>?_
  have I1:Inv X pins σ H { s with heap:=h' }:=I.turned (t':=s.toks) (fun b o hb e=>(sb.2 b hb).trans e) f0 f1 f3 f4 f5
  obtain⟨o,e,c,d⟩:=id st'
  exact⟨u,rfl,go_of (s:={ s with heap:=h' }) e c d (by decide) ⟨x,H,I1,ru,⟨rfl,fun ys hy=>by rw[I.list_inj hy hq];exact hx⟩,st',fun b hb=>(hf b hb).1⟩⟩
 done:=by
  intro X hP hw hK hc i pins s σ H E I hf st hg
  subst hP hw hK
  obtain⟨xs,hq,hx⟩:=hg
  obtain⟨its,rv,p,hz⟩:=I.list hq
  obtain⟨f0,f1,f2,f3,f4,f5⟩:=hf it (by simp)
  have hl:=rv.length
  exact wpAny_pyNext_list_end (I.ok.hd hc) st p.isList (by simp;omega) fun h' eb=>⟨rfl,I.turned (t':=s.toks) (fun b o hb e=>eb b o hb e) f0 f1 f3 f4 f5⟩
 self:=fun _ _ _ _ _ st h=>wpAny_pyIter_listiter st h
theorem turn_tuple{P:Program}{w:World}{K:PySem.W.Frag}{tg:Expr}(a it:Addr):Turn P w K tg (Itt K a) [it] it (fun i h=>h.IsTupleIter it a i) where
 mem:=by simp
 obj:=fun i h st b hb=>by
  have e:b=it:=by simpa using hb
  subst e
  obtain⟨o,e,c,d⟩:=st
  exact⟨o,e,fun v z=>by rw[d]at z;cases z⟩
 keep:=fun i h h' st k=>st.at fun o e=>k it (by simp) o e
 item:=by
  intro X hP hw hK hc i pins s σ H E I hf st hg
  subst hP hw hK
  obtain⟨xs,x,hq,hx⟩:=hg
  obtain⟨its,rv,p,hz⟩:=I.tuple hq
  obtain⟨u,hu,ru⟩:=rv.get hx
  obtain⟨f0,f1,f2,f3,f4,f5⟩:=hf it (by simp)
  refine wpAny_pyNext_tuple_item st (show s.heap.IsTuple a its.toArray from p) (x:=u) (by simpa using hu) fun h' st' sb=>?_
  have I1:Inv X pins σ H { s with heap:=h' }:=I.turned (t':=s.toks) (fun b o hb e=>(sb.2 b hb).trans e) f0 f1 f3 f4 f5
  obtain⟨o,e,c,d⟩:=id st'
  exact⟨u,rfl,go_of (s:={ s with heap:=h' }) e c d (by decide) ⟨x,H,I1,ru,⟨rfl,fun ys hy=>by rw[I.tuple_inj hy hq];exact hx⟩,st',fun b hb=>(hf b hb).1⟩⟩
 done:=by
  intro X hP hw hK hc i pins s σ H E I hf st hg
  subst hP hw hK
  obtain⟨xs,hq,hx⟩:=hg
  obtain⟨its,rv,p,hz⟩:=I.tuple hq
  obtain⟨f0,f1,f2,f3,f4,f5⟩:=hf it (by simp)
  have hl:=rv.length
  exact wpAny_pyNext_tuple_end (I.ok.hd hc) st (show s.heap.IsTuple a its.toArray from p) (by simp;omega) fun h' eb=>⟨rfl,I.turned (t':=s.toks) (fun b o hb e=>eb b o hb e) f0 f1 f3 f4 f5⟩
 self:=fun _ _ _ _ _ st h=>wpAny_pyIter_tupleiter st h
theorem turn_range{P:Program}{w:World}{K:PySem.W.Frag}{tg:Expr}(it:Addr)(lo:Int)(n:Nat):Turn P w K tg (Itr lo n) [it] it (fun i h=>IsRangeIter h it (lo+(i:Nat)*1) ((n:Int)-(i:Nat)) 1) where
 mem:=by simp
 obj:=fun i h st b hb=>by
  have e:b=it:=by simpa using hb
  subst e
  exact ⟨_, st, fun v z => by
   have z':Data.fields _=Data.cell v:=z
   cases z'⟩
 keep:=fun i h h' st k=>k it (by simp) _ st
 item:=by
  intro X hP hw hK hc i pins s σ H E I hf st hg
  subst hP hw hK
  obtain⟨f0,f1,f2,f3,f4,f5⟩:=hf it (by simp)
  have W:=Walks.range (prog:=X.prog) (w:=X.w) (I.ok.hd hc) it lo 1 n
  refine W.item i s _ _ hg st fun v h' tk hv st' kk=>?_
  obtain⟨t,rfl⟩:=hv
  have I1:Inv X pins σ H { s with heap:=h',toks:=tk }:=I.turned (fun b o hb e=>kk b o (by simpa using hb) e) f0 f1 f3 f4 f5
  refine⟨_,rfl,go_of (s:={ s with heap:=h',toks:=tk }) (n:="range_iterator") st' rfl rfl (by decide) ⟨.int (lo+i),H,I1,⟨t,?_⟩,⟨rfl,rfl⟩,st',fun b hb=>(hf b hb).1⟩⟩
  rw[Int.mul_one]
 done:=by
  intro X hP hw hK hc i pins s σ H E I hf st hg
  subst hP hw hK
  obtain⟨f0,f1,f2,f3,f4,f5⟩:=hf it (by simp)
  exact wpAny_pyNext_range_end (I.ok.hd hc) st (by have:n<=i:=hg;omega) fun h' eb=>⟨rfl,I.turned (t':=s.toks) (fun b o hb e=>eb b o hb e) f0 f1 f3 f4 f5⟩
 self:=fun _ _ _ _ _ st h=>wpAny_pyIter_rangeiter st h
end L2
namespace L2
open PySem PySem.Spec PyProof.Rows
section
variable {X:Cx} {tg:Expr}
def iList(K:PySem.W.Frag)(tl:TE):TI:=fun σ H R=>tl σ H fun x H1=>∃a,x = .ref a/\(∃xs,SqL K H1 a xs)/\R (Itl K a) H1
def iTup(K:PySem.W.Frag)(tl:TE):TI:=fun σ H R=>tl σ H fun x H1=>∃a,x = .ref a/\(∃xs,SqT K H1 a xs)/\R (Itt K a) H1
theorem pi_list{l:Expr}{tl:TE}(hl:PE X l tl):PI X tg l (iList X.K tl):=by
 intro pins s σ H R I h
 refine thn (hl pins s σ H _ I h) fun v s1 ⟨x,H1,I1,r1,q1⟩=>?_
 obtain⟨a,e,⟨xs,hq⟩,q⟩:=q1
 subst e
 cases r1
 obtain⟨its,rv,p,hz⟩:=I1.list hq
 refine wpAny_pyIter_list p.isList ?_
 refine⟨s1.heap.objs.size,[s1.heap.objs.size],_,_,H1,rfl,I1.kept (t':=s1.toks) fun b o e=>Heap.get?_push_of_some _ e,turn_list a _,⟨_,Heap.get?_push_size _ rfl,rfl,rfl⟩,fun b hb=>?_,q⟩
 have e:b=s1.heap.objs.size:=by simpa using hb
 subst e
 exact I1.fpOk (Nat.le_refl _) (I1.hok.fresh (Nat.le_refl _))
theorem pi_tup{l:Expr}{tl:TE}(hl:PE X l tl):PI X tg l (iTup X.K tl):=by
 intro pins s σ H R I h
 refine thn (hl pins s σ H _ I h) fun v s1 ⟨x,H1,I1,r1,q1⟩=>?_
 obtain⟨a,e,⟨xs,hq⟩,q⟩:=q1
 subst e
 cases r1
 obtain⟨its,rv,p,hz⟩:=I1.tuple hq
 refine wpAny_pyIter_tuple (show s1.heap.IsTuple a its.toArray from p) ?_
 refine⟨s1.heap.objs.size,[s1.heap.objs.size],_,_,H1,rfl,I1.kept (t':=s1.toks) fun b o e=>Heap.get?_push_of_some _ e,turn_tuple a _,⟨_,Heap.get?_push_size _ rfl,rfl,rfl⟩,fun b hb=>?_,q⟩
 have e:b=s1.heap.objs.size:=by simpa using hb
 subst e
 exact I1.fpOk (Nat.le_refl _) (I1.hok.fresh (Nat.le_refl _))
theorem range_it{pins:List (Addr×Obj)}{σ:St}{H:Hp}{s:Shared}{R:It->Hp->Prop}{E:Value->Shared->Prop}{lo hi:Int}{t u v:Tok}{tk:Nat}(I:Inv X pins σ H s)(h1:-(2 ^ 62)<=lo)(h2:lo<2 ^ 62)(h3:-(2 ^ 62)<=hi)(h4:hi<2 ^ 62)
  (q:R (Itr lo (hi-lo).toNat) H):wpAny (model X.prog X.w) X.A (pyIter (.ref s.heap.objs.size)) (PIE X pins σ tg R) E { s with heap:=s.heap.push { cls:=.type "range",data:=.fields #[.int lo t,.int hi u,.int 1 v] },toks:=tk }:=by
 refine wpAny_pyIter_range (IsRange.new ..) (small_one h1 h2 h3 h4) ?_
 have I1:Inv X pins σ H { s with heap:=s.heap.push { cls:=.type "range",data:=.fields #[.int lo t,.int hi u,.int 1 v] },toks:=tk }:=I.kept fun b o e=>Heap.get?_push_of_some _ e
 refine ⟨(s.heap.push { cls := .type "range", data := .fields #[.int lo t, .int hi u, .int 1 v] }).objs.size, [(s.heap.push { cls := .type "range", data := .fields #[.int lo t, .int hi u, .int 1 v] }).objs.size], _, _, H, rfl,
  I1.kept (t':=tk) fun b o e=>Heap.get?_push_of_some _ e,turn_range _ lo (hi-lo).toNat,?_,fun b hb=>?_,q⟩
 ·have e1:lo+((0:Nat):Int)*1=lo:=by simp
  have e2:(((hi-lo).toNat:Nat):Int)-((0:Nat):Int)=Builtin.Range.rangeSize lo hi 1:=by rw[rangeSize_one];split<;>omega
  show IsRangeIter _ _ (lo+((0:Nat):Int)*1) ((((hi-lo).toNat:Nat):Int)-((0:Nat):Int)) 1
  rw[e1,e2]
  exact Heap.get?_push_size _ rfl
 ·have e:b=(s.heap.push { cls:=.type "range",data:=.fields #[.int lo t,.int hi u,.int 1 v] }).objs.size:=by simpa using hb
  subst e
  exact I1.fpOk (Nat.le_refl _) (I1.hok.fresh (Nat.le_refl _))
def iRng1(ta:TA):TI:=fun σ H R=>ta σ H fun vs H1=>∃j:Int,vs=[.int j]/\-(2 ^ 62)<=j/\j<2 ^ 62/\R (Itr 0 j.toNat) H1
theorem pi_range1{a:Expr}{ta:TA}{p pos:Pos}(hg:Gl X "range")(hm:X.mg "range"=none)(ha:PA X [a] ta)(hs:starEach [a] X.env=[(false,eval a X.env)]:=by rfl):PI X tg (.Call (.Name "range" p) [a] [] pos) (iRng1 ta):=by
 intro pins s σ H R I h
 refine Call_ (ld_blt I hg hm boot_range (PyProof.Rows.callWith_type1 (thn (ha pos pins s σ H _ I h) fun us s1 ⟨vs,H1,I1,r1,q1⟩=>?_) hs rfl))
 obtain⟨j,e,q1,q2,q⟩:=q1
 subst e
 cases r1 with
 |cons r rr =>
  cases rr
  obtain⟨t,rfl⟩:=r
  exact call_range_1 (range_it I1 (by omega) (by omega) q1 q2 (by simpa using q))
def tFor(wi:TI)(g:TG)(tb:TS):TS:=fun D σ H=>wi σ H fun J H1=>∃W:Nat->Nat->St->Hp->Prop,(∃m,W 0 m σ H1)/\∀i m σ H,W i m σ H ->
 (J.stop i H/\D.nx σ H)\/(J.go i H/\∃N:St->Hp->Prop,(∀σ' H',N σ' H'->∃m',m'<m/\W (i+1) m' σ' H')/\∀x H',J.yld i H x H'->g x σ H' fun σ2 H2=>tb { D with nx:=N,ct:=N,bk:=D.nx } σ2 H2)
def pinsAt(fp:List Addr)(h:Heap):List (Addr×Obj):=fp.filterMap fun b=>(h.get? b).map fun o=>(b,o)
theorem mem_pinsAt{fp:List Addr}{h:Heap}{b:Addr}{o:Obj}(hb:b∈fp)(e:h.get? b=some o):(b,o)∈pinsAt fp h:=List.mem_filterMap.mpr ⟨b,hb,by rw[e];rfl⟩
theorem of_pinsAt{fp:List Addr}{h:Heap}{p:Addr×Obj}(hp:p∈pinsAt fp h):p.1∈fp/\h.get? p.1=some p.2:=by
 obtain⟨b,hb,e⟩:=List.mem_filterMap.mp hp
 cases q:h.get? b with
 |none=>rw[q]at e;cases e
 |some o =>
  rw[q]at e
  have e':(b,o)=p:=Option.some.inj e
  subst e'
  exact⟨hb,q⟩
theorem Inv.pinned{pins:List (Addr×Obj)}{σ:St}{H:Hp}{s:Shared}{fp:List Addr}(I:Inv X pins σ H s)(hf:∀b∈fp,FpOk X pins H b)(ho:∀b∈fp,∃o,s.heap.get? b=some o/\∀v,o.data≠.cell v):Inv X (pins++pinsAt fp s.heap) σ H s :=
 I.pins_of fun p hp=>(List.mem_append.mp hp).elim (fun z=>I.pin p (List.mem_append_right _ z)) fun z=>by
  obtain⟨hb,e⟩:=of_pinsAt z
  obtain⟨f0,f1,f2,_⟩:=hf p.1 hb
  obtain⟨o,e',d⟩:=ho p.1 hb
  rw[e]at e';cases e'
  exact⟨e,f0,f1,f2,d⟩
theorem Inv.unpinned{pins pl:List (Addr×Obj)}{σ:St}{H:Hp}{s:Shared}(I:Inv X (pins++pl) σ H s):Inv X pins σ H s:=I.pins_of fun p hp=>I.pin p (List.mem_append_right _ (List.mem_append_left _ hp))
theorem ps_for{iter:Expr}{body:List Stmt}{wi:TI}{g:TG}{tb:TS}{pos:Pos}(hp:PassesOwn (model X.prog X.w) X.A X.env X.xe)(hc:X.calm=true)(hi:PI X tg iter wi)(hg:PG X tg g)(hb:PSs X body tb)
  (hs:∀x,foldedSetIterable iter X.env x=pure x:=by intro _;rfl):PS X (.For tg iter body [] pos) (tFor wi g tb):=by
 intro pins s σ H D I h
 refine wpAny_For (thn (hi pins s σ H _ I h) fun v s1 h1=>thn h1 fun itv s2 h2=>?_) hs
 obtain⟨it,fp,tn,J,H2,e,I2,T,st2,f2,W,⟨m0,w0⟩,turn⟩:=h2
 subst e
 -- what stays true of the iterator's objects through the loop
 have stat:∀{H':Hp},(∀b∈fp,H' b=none)->∀b∈fp,FpOk X pins H' b:=fun hn b hb=>⟨hn b hb,(f2 b hb).2⟩
 refine codeAny_forLoop_any (fun n s'=>∃i σ' H',Inv X pins σ' H' s'/\tn i s'.heap/\(∀b∈fp,H' b=none)/\W i n σ' H') ?_ m0 ⟨0,σ,H2,I2,st2,fun b hb=>(f2 b hb).1,w0⟩
 rintro n s3 ⟨i,σ3,H3,I3,st3,fr3,w3⟩
 rcases turn i n σ3 H3 w3 with ⟨stop,qn⟩|⟨go,N,hN,step⟩
 ·refine wpAny_passesOwn hp (thn (T.done X rfl rfl rfl hc i pins s3 σ3 H3 X.xe I3 (stat fr3) st3 stop) fun r s4 ⟨hr,I4⟩=>?_)
  subst hr
  exact wpAny_execs_nil ⟨σ3,H3,I4,qn⟩
 ·refine wpAny_passesOwn hp (thn (T.item X rfl rfl rfl hc i pins s3 σ3 H3 X.xe I3 (stat fr3) st3 go) fun r s4 ⟨u,hr,h4⟩=>?_)
  subst hr
  refine wpAny_passesOwn hp (thn h4 fun _ s5 ⟨x,H5,I5,r5,y5,st5,fr5⟩=>?_)
  have I5':=I5.pinned (stat fr5) (T.obj _ _ st5)
  refine wpAny_passesOwn hp (thn (hg _ s5 σ3 H5 x u _ I5' r5 (step x H5 y5)) fun _ s6 ⟨σ6,H6,I6,q6⟩=>?_)
  refine wpAny_passesOwn hp (thn (hb _ s6 σ6 H6 _ I6 q6) fun f s7 q7=>?_)
  have again:∀{σ7:St} {H7:Hp},Inv X (pins++pinsAt fp s5.heap) σ7 H7 s7->N σ7 H7->∃m,m<n/\∃i σ' H',Inv X pins σ' H' s7/\tn i s7.heap/\(∀b∈fp,H' b=none)/\W i m σ' H':=fun {σ7 H7} I7 n7=>by
   obtain⟨m',hm,w7⟩:=hN σ7 H7 n7
   refine⟨m',hm,i+1,σ7,H7,I7.unpinned,T.keep _ _ _ st5 fun b hb o e=>(I7.pin (b,o) (List.mem_append_right _ (List.mem_append_right _ (mem_pinsAt hb e)))).1,fun b hb=>?_,w7⟩
   obtain⟨o,e,d⟩:=T.obj _ _ st5 b hb
   exact(I7.pin (b,o) (List.mem_append_right _ (List.mem_append_right _ (mem_pinsAt hb e)))).2.1
  cases f with
  |next=>obtain⟨σ7,H7,I7,n7⟩:=q7;exact again I7 n7
  |cont=>obtain⟨σ7,H7,I7,n7⟩:=q7;exact again I7 n7
  |brk=>obtain⟨σ7,H7,I7,q7⟩:=q7;exact⟨σ7,H7,I7.unpinned,q7⟩
  |ret v=>obtain⟨x7,σ7,H7,I7,r7,q7⟩:=q7;exact⟨x7,σ7,H7,I7.unpinned,r7,q7⟩
end
end L2
namespace L2
open PySem PySem.Spec PyProof.Rows
abbrev R2:=V->V->Hp->VK->Prop
def OpR(X:Cx)(f:Value->Value->Sem Value)(r:R2):Prop :=
 ∀(pins:List (Addr×Obj)) (s:Shared) (σ:St) (H:Hp) (x y:V) (v u:Value) (Q:VK),Inv X pins σ H s->RelV x v->RelV y u->r x y H Q ->
  wpAny (model X.prog X.w) X.A (f v u) (EP X pins σ Q) X.xe s
def UnR(X:Cx)(f:Value->Sem Value)(r:V->Hp->VK->Prop):Prop :=
 ∀(pins:List (Addr×Obj)) (s:Shared) (σ:St) (H:Hp) (x:V) (v:Value) (Q:VK),Inv X pins σ H s->RelV x v->r x H Q ->
  wpAny (model X.prog X.w) X.A (f v) (EP X pins σ Q) X.xe s
def CallR(X:Cx)(f:Value)(r:List V->Hp->VK->Prop):Prop :=
 ∀(pins:List (Addr×Obj)) (s:Shared) (σ:St) (H:Hp) (xs:List V) (us:List Value) (Q:VK),Inv X pins σ H s->Vals xs us->r xs H Q ->
  wpAny (model X.prog X.w) X.A (call f us) (EP X pins σ Q) X.xe s
def tOp(r:R2)(ta tb:TE):TE:=fun σ H Q=>ta σ H fun x H1=>tb σ H1 fun y H2=>r x y H2 Q
def tUn(r:V->Hp->VK->Prop)(ta:TE):TE:=fun σ H Q=>ta σ H fun x H1=>r x H1 Q
def rI(C:Int->Int->Prop)(g:Int->Int->V):R2:=fun x y H Q=>∃i j,x = .int i/\y = .int j/\C i j/\Q (g i j) H
def rI0(g:Int->Int->V):R2:=fun x y H Q=>∃i j,x = .int i/\y = .int j/\Q (g i j) H
def rU(g:Int->V):V->Hp->VK->Prop:=fun x H Q=>∃i,x = .int i/\Q (g i) H
section
variable {X:Cx} {a b c:Expr} {ta tb tc:TE} {pos:Pos}
theorem binT(ha:PE X a ta)(hb:PE X b tb){pins:List (Addr×Obj)}{s:Shared}{σ:St}{H:Hp}{R:V->V->Hp->Prop}(I:Inv X pins σ H s)
  (h:ta σ H fun x H1=>tb σ H1 fun y H2=>R x y H2) {Q:Value->Shared->Prop} {f:Value->Value->Sem Value}
  (hf:∀v u s2 x y H2,Inv X pins σ H2 s2->RelV x v->RelV y u->R x y H2->wpAny (model X.prog X.w) X.A (f v u) Q X.xe s2) :
  wpAny (model X.prog X.w) X.A (eval a X.env) (fun v s₁=>wpAny (model X.prog X.w) X.A (eval b X.env) (fun u s₂=>wpAny (model X.prog X.w) X.A (f v u) Q X.xe s₂) X.xe s₁) X.xe s:=by
 refine thn (ha pins s σ H _ I h) fun v s1 ⟨x,H1,I1,r1,q1⟩=>?_
 refine thn (hb pins s1 σ H1 _ I1 q1) fun u s2 ⟨y,H2,I2,r2,q2⟩=>?_
 exact hf v u s2 x y H2 I2 r1 r2 q2
theorem pe_op{op:Operator}{r:R2}(ho:OpR X (binaryOp op) r)(ha:PE X a ta)(hb:PE X b tb):PE X (.BinOp a op b pos) (tOp r ta tb):=by
 intro pins s σ H Q I h
 exact wpAny_BinOp (binT ha hb I h fun v u s2 x y H2 I2 rx ry q=>ho pins s2 σ H2 x y v u Q I2 rx ry q)
theorem pe_un{op:UnaryOp}{r:V->Hp->VK->Prop}(ho:UnR X (unaryOp op) r)(ha:PE X a ta):PE X (.UnaryOp op a pos) (tUn r ta):=by
 intro pins s σ H Q I h
 exact UnaryOp_ (thn (ha pins s σ H _ I h) fun v s1 ⟨x,H1,I1,r1,q1⟩=>ho pins s1 σ H1 x v Q I1 r1 q1)
theorem opI{f:Value->Value->Sem Value}{C:Int->Int->Prop}{g:Int->Int->Int}
  (rule:∀(i j:Int) (t u:Tok) (s:Shared) (Q:Value->Shared->Prop) (E:Value->Shared->Prop),C i j->Q (.int (g i j) s.toks) { s with toks:=s.toks+1 }->wpAny (model X.prog X.w) X.A (f (.int i t) (.int j u)) Q E s) :
  OpR X f (rI C fun i j=>.int (g i j)):=by
 intro pins s σ H x y v u Q I rx ry h
 obtain⟨i,j,rfl,rfl,hc,q⟩:=h
 obtain⟨t,rfl⟩:=rx
 obtain⟨t',rfl⟩:=ry
 exact rule i j t t' s _ _ hc ⟨.int (g i j),H,I.tok _,⟨_,rfl⟩,q⟩
theorem opI0{f:Value->Value->Sem Value}{g:Int->Int->Int}
  (rule:∀(i j:Int) (t u:Tok) (s:Shared) (Q:Value->Shared->Prop) (E:Value->Shared->Prop),Q (.int (g i j) s.toks) { s with toks:=s.toks+1 }->wpAny (model X.prog X.w) X.A (f (.int i t) (.int j u)) Q E s) :
  OpR X f (rI0 fun i j=>.int (g i j)):=by
 intro pins s σ H x y v u Q I rx ry h
 obtain⟨i,j,rfl,rfl,q⟩:=h
 obtain⟨t,rfl⟩:=rx
 obtain⟨t',rfl⟩:=ry
 exact rule i j t t' s _ _ ⟨.int (g i j),H,I.tok _,⟨_,rfl⟩,q⟩
theorem opB0{f:Value->Value->Sem Value}{g:Int->Int->Bool}
  (rule:∀(i j:Int) (t u:Tok) (s:Shared) (Q:Value->Shared->Prop) (E:Value->Shared->Prop),Q (.bool (g i j)) s->wpAny (model X.prog X.w) X.A (f (.int i t) (.int j u)) Q E s) :
  OpR X f (rI0 fun i j=>.bl (g i j)):=by
 intro pins s σ H x y v u Q I rx ry h
 obtain⟨i,j,rfl,rfl,q⟩:=h
 obtain⟨t,rfl⟩:=rx
 obtain⟨t',rfl⟩:=ry
 exact rule i j t t' s _ _ ⟨.bl (g i j),H,I,rfl,q⟩
def CPow(i j:Int):Prop:=0<=j/\j<=1000000/\i.natAbs<2 ^ 64
def CMul(i j:Int):Prop:=(-(2 ^ 64)<i/\i<2 ^ 64)\/(-(2 ^ 64)<j/\j<2 ^ 64)
theorem CMul.ok{i j:Int}(h:CMul i j):IntMulOk i j:=by
 rcases h with ⟨h1,h2⟩|⟨h1,h2⟩
 ·exact .of_left (intBits_le_64 h1 h2)
 ·exact .of_right (intBits_le_64 h1 h2)
theorem op_add:OpR X (binaryOp .Add) (rI0 fun i j=>.int (i+j)):=opI0 fun _ _ _ _ _ _ _ q=>add_int q
theorem op_sub:OpR X (binaryOp .Sub) (rI0 fun i j=>.int (i-j)):=opI0 fun _ _ _ _ _ _ _ q=>sub_int q
theorem op_mod:OpR X (binaryOp .Mod) (rI (fun _ j=>0<j) fun i j=>.int (i % j)):=opI fun i j _ _ _ _ _ hc q=>by
 have h1:(0:Int)<j:=hc
 exact mod_int' (by omega) (by rw[Int.fmod_eq_emod_of_nonneg i (by omega)];exact q)
theorem op_pow:OpR X (binaryOp .Pow) (rI CPow fun i j=>.int (i ^ j.toNat)):=opI fun _ _ _ _ _ _ _ hc q=>pow_int_small hc.1 hc.2.1 hc.2.2 q
theorem unI{f:Value->Sem Value}{g:Int->Int}
  (rule:∀(i:Int) (t:Tok) (s:Shared) (Q:Value->Shared->Prop) (E:Value->Shared->Prop),Q (.int (g i) s.toks) { s with toks:=s.toks+1 }->wpAny (model X.prog X.w) X.A (f (.int i t)) Q E s) :
  UnR X f (rU fun i=>.int (g i)):=by
 intro pins s σ H x v Q I rx h
 obtain⟨i,rfl,q⟩:=h
 obtain⟨t,rfl⟩:=rx
 exact rule i t s _ _ ⟨.int (g i),H,I.tok _,⟨_,rfl⟩,q⟩
theorem un_neg:UnR X (unaryOp .USub) (rU fun i=>.int (-i)):=unI fun _ _ _ _ _ q=>neg_int q
end
section
variable {X:Cx} {a b c:Expr} {ta tb tc:TE} {pos:Pos}
theorem fin_bl{pins:List (Addr×Obj)}{σ:St}{H:Hp}{s:Shared}{Q:VK}{k k':Bool}(I:Inv X pins σ H s)(q:Q (.bl k) H)(e:k=k'):EP X pins σ Q (.bool k') s:=by
 subst e
 exact⟨.bl k,H,I,rfl,q⟩
theorem op_lt:OpR X (compareOp .Lt) (rI0 fun i j=>.bl (decide (i<j))):=opB0 fun _ _ _ _ _ _ _ q=>lt_int q
theorem op_gt:OpR X (compareOp .Gt) (rI0 fun i j=>.bl (decide (j<i))):=opB0 fun _ _ _ _ _ _ _ q=>gt_int q
theorem op_ge:OpR X (compareOp .GtE) (rI0 fun i j=>.bl (decide (j<=i))):=opB0 fun _ _ _ _ _ _ _ q=>ge_int q
theorem op_notN:OpR X (compareOp .IsNot) (fun x y H Q=>y = .non/\Q (.bl (!decide (x = .non))) H):=by
 intro pins s σ H x y v u Q I rx ry h
 obtain⟨rfl,q⟩:=h
 cases ry
 refine isnot_none_gen (fin_bl I q ?_)
 cases x<;>first
  |(cases rx;rfl)
  |(obtain⟨t,rfl⟩:=rx;rfl)
theorem nomark(b:Expr){op:CmpOp}(h:op≠.In:=by decide)(h2:op≠.NotIn:=by decide):behindInMarks op b=false:=by
 have e1:(op==CmpOp.In)=false:=by cases op<;>first|rfl|exact absurd rfl h
 have e2:(op==CmpOp.NotIn)=false:=by cases op<;>first|rfl|exact absurd rfl h2
 cases b<;>simp[behindInMarks,e1,e2]
theorem pe_cmpR{op:CmpOp}{r:R2}(ho:OpR X (compareOp op) r)(ha:PE X a ta)(hb:PE X b tb)(hm:behindInMarks op b=false):PE X (.Compare a [op] [b] pos) (tOp r ta tb):=by
 intro pins s σ H Q I h
 exact wpAny_Compare1 (binT ha hb I h fun v u s2 x y H2 I2 rx ry q=>ho pins s2 σ H2 x y v u Q I2 rx ry q) hm
def tTest(t:TE):TT:=fun σ H Q=>t σ H fun x H'=>∃k,x = .bl k/\Q k H'
theorem pt_cmpR{op:CmpOp}{r:R2}(ho:OpR X (compareOp op) r)(ha:PE X a ta)(hb:PE X b tb)(hm:behindInMarks op b=false):PT X (.Compare a [op] [b] pos) (tTest (tOp r ta tb)):=by
 intro pins s σ H Q I h
 refine wpAny_isTrue_Compare1 (thn (ha pins s σ H _ I h) fun v s1 ⟨x, H1, I1, r1, q1⟩ => thn (hb pins s1 σ H1 _ I1 q1) fun u s2 ⟨y, H2, I2, r2, q2⟩ =>
  thn (ho pins s2 σ H2 x y v u _ I2 r1 r2 q2) fun c s3 ⟨z,H3,I3,r3,k,e,q3⟩=>?_) hm
 subst e
 cases r3
 exact wpAny_truthy_bool ⟨H3,I3,q3⟩
theorem line63:(sizeLine:Nat)<2 ^ 63:=by rw[sizeLine_eq];decide
theorem vals1{x:V}{us:List Value}(r:Vals [x] us):∃u,us=[u]/\RelV x u:=by
 cases r with
 |cons r1 r2=>cases r2;exact⟨_,rfl,r1⟩
theorem vals2{x y:V}{us:List Value}(r:Vals [x,y] us):∃u w',us=[u,w']/\RelV x u/\RelV y w':=by
 cases r with
 |cons r1 r2 =>
  cases r2 with
  |cons r3 r4=>cases r4;exact⟨_,_,rfl,r1,r3⟩
def LenV(K:PySem.W.Frag)(x:V)(H:Hp)(n:Nat):Prop :=
 match x with
 |.str y=>y.length<=sizeLine/\n=y.length
 |.byt y=>y.size<=sizeLine/\n=y.size
 |.ref p=>(∃xs,SqL K H p xs/\n=xs.length)\/∃xs,SqT K H p xs/\n=xs.length
 |_=>False
theorem call_len:CallR X (.builtin "len") (fun xs H Q=>∃x n,xs=[x]/\LenV X.K x H n/\Q (.int n) H):=by
 intro pins s σ H xs us Q I r h
 obtain⟨x,n,rfl,e,q⟩:=h
 obtain⟨u,rfl,rx⟩:=vals1 r
 have hl:=line63
 have hs:sizeLine=16777216:=sizeLine_eq
 cases x with
 |str y =>
  obtain⟨t,rfl⟩:=rx
  obtain⟨hy,e'⟩:y.length<=sizeLine/\n=y.length:=e
  subst e'
  exact len_str (by omega) ⟨.int _,H,I.tok _,⟨_,rfl⟩,q⟩
 |byt y =>
  obtain⟨t,rfl⟩:=rx
  obtain⟨hy,e'⟩:y.size<=sizeLine/\n=y.size:=e
  subst e'
  exact PySem.W.len_bytes (by omega) ⟨.int _,H,I.tok _,⟨_,rfl⟩,q⟩
 |ref p =>
  cases rx
  have e':(∃xs,SqL X.K H p xs/\n=xs.length)\/∃xs,SqT X.K H p xs/\n=xs.length:=e
  rcases e' with ⟨xs,hx,e'⟩|⟨xs,hx,e'⟩
  ·subst e'
   obtain⟨its,r',pl,hz⟩:=I.list hx
   have hlen:=r'.length
   exact Calls.call_len_list pl.isList (by simp only[List.size_toArray];omega) ⟨.int xs.length,H,I.tok _,⟨_,by simp only[List.size_toArray];rw[hlen]⟩,q⟩
  ·subst e'
   obtain⟨its,r',pl,hz⟩:=I.tuple hx
   have hlen:=r'.length
   exact len_tuple pl (by simp only[List.size_toArray];omega) ⟨.int xs.length,H,I.tok _,⟨_,by simp only[List.size_toArray];rw[hlen]⟩,q⟩
 |_=>exact(show False from e).elim
end
end L2
namespace L2
open PySem PySem.Spec PyProof.Rows
structure ObjM(h:Heap)(x dx C:Addr)(mA:Str->Option Value):Prop where
 obj:h.get? x=some (PySem.W.instObj C dx)
 ns:h.Ns1 dx mA
 ne:dx≠x
theorem lookIn_ns{h:Heap}{dx:Addr}{mA:Str->Option Value}(n:h.Ns1 dx mA):∃od,h.get? dx=some od/\∀name,PySem.W.lookIn name od=some (mA name):=by
 obtain⟨o,es,ep,ho,hd,hk,_,hm⟩:=n
 refine⟨o,ho,fun name=>?_⟩
 have e:=hm name
 unfold nsFind findBy at e
 rw[<- Array.find?_toList]at e
 unfold PySem.W.lookIn
 rw[hd]
 dsimp only
 split
 ·rename_i y q
  rw[q]at e
  exact congrArg some e
 ·rename_i q
  rw[q]at e
  have a:es.toList.any (·.refKey)=false:=by
   rw[List.any_eq_false]
   intro y hy
   obtain⟨z,t,hkey⟩:=hk y (Array.mem_toList_iff.mp hy)
   simp[DictEntry.refKey,hkey]
  have a':¬es.toList.any (·.refKey)=true:=by rw[a];exact Bool.false_ne_true
  rw[if_neg a']
  exact congrArg some e
theorem ObjM.look{h:Heap}{x dx C:Addr}{mA:Str->Option Value}(I:ObjM h x dx C mA):∃od,PySem.W.InstAt h x (PySem.W.instObj C dx) C (some od)/\∀name,PySem.W.lookIn name od=some (mA name) :=
 let ⟨od,ho,hl⟩:=lookIn_ns I.ns
 ⟨od,⟨I.obj,rfl,rfl,ho⟩,hl⟩
section
variable {prog:Program} {w:World} {A:Around} {E:Value->Shared->Prop} {s:Shared} {K:PySem.W.Frag} {x dx C f:Addr} {mA:Str->Option Value} {name:Str} {v:Value}
end
section
variable {P:Program} {w:World} {H H':Hp} {h h':Heap} {a C dx:Addr} {fs fs':List (Str×V)}
theorem ins_get(hok:HOk P w H h)(e:H a=some (.ins C dx fs)):∃mA,ObjM h a dx C mA/\(∀f,RelO (fs.lookup f) (mA f))/\PySem.Within mA (fs.map (·.1))/\fs.length<=1000/\H dx=some (.own a):=by
 obtain⟨d,z,ne,ob,mA,n,r,q⟩:=(show ObjOk P w H h a (.ins C dx fs) from hok a _ e)
 exact⟨mA,⟨ob,n,ne⟩,r,q,z,d⟩
end
structure Cls(K:PySem.W.Frag)(C:Addr):Prop where
 pg:PySem.W.plainGet K C Str.empty=true
 hd:PySem.W.hasDictIn K C=true
 po:PySem.W.plainOver K C=true
 sa:PySem.W.findIn K (.ref C) "__setattr__"=some (some (.builtin "object.__setattr__"))
theorem Cls.get{K:PySem.W.Frag}{C:Addr}(c:Cls K C)(f:Str):PySem.W.plainGet K C f=true:=c.pg
section
variable {X:Cx} {pins:List (Addr×Obj)} {σ:St} {H:Hp} {s:Shared} {a C dx:Addr} {fs:List (Str×V)} {f:Str} {v:V} {A:Around} {E:Value->Shared->Prop}
end
section
variable {X:Cx} {o e value:Expr} {f:Str} {pos pos' tpos:Pos} {ta tv:TE}
end
section
variable {X:Cx} {pins:List (Addr×Obj)} {σ:St} {H:Hp} {s:Shared} {A:Around} {E:Value->Shared->Prop} {Q:Value->Shared->Prop} {c:Value} {b:Bool}
inductive TyOf (K:PySem.W.Frag) (H:Hp):V->Value->Prop where
 |non:TyOf K H .non (.type "NoneType")
 |bl (x:Bool):TyOf K H (.bl x) (.type "bool")
 |int (i:Int):TyOf K H (.int i) (.type "int")
 |str (x:Str):TyOf K H (.str x) (.type "str")
 |flt (x:UInt64):TyOf K H (.flt x) (.type "float")
 |lst {a:Addr} {xs:List V} (e:H a=some (.lst xs)):TyOf K H (.ref a) (.type "list")
 |frz {a:Addr} {o:Obj} {xs:List V} (e:H a=some (.frz o (.lst xs))):TyOf K H (.ref a) (.type "list")
 |tup {a:Addr} {xs:List V} (e:H a=some (.tup xs)):TyOf K H (.ref a) (.type "tuple")
 |dK {a:Addr} {kvs:List (Key×V)} (e:H a=some (.dK kvs)):TyOf K H (.ref a) (.type "dict")
 |dT {a:Addr} {kvs:List (List Key×V)} (e:H a=some (.dT kvs)):TyOf K H (.ref a) (.type "dict")
 |ins {a C dx:Addr} {fs:List (Str×V)} (e:H a=some (.ins C dx fs)) (cl:Cls K C) (ha:PySem.W.findIn K (.ref C) "__class__"=some (some (.builtin "object.__class__")))
   (hn:PySem.W.specialIn K (.builtin "object.__class__") "__get__"=some (some (.builtin "getset_descriptor.__get__"))) (htk:PySem.W.takesIn K (.builtin "object.__class__")=some true)
   (hm:PySem.W.mroIn K C (.type "object")=some true):TyOf K H (.ref a) (.ref C)
theorem isinst_ok{x:V}{u t:Value}(I:Inv X pins σ H s)(rx:RelV x u)(ty:TyOf X.K H x t)(e:PySem.W.kitOne X.K t c=some b)(h:∀tk,Q (.bool b) { s with toks:=tk }) :
  wpAny (model X.prog X.w) A (call (.builtin "isinstance") [u,c]) Q E s:=by
 cases ty with
 |non=>cases (show u=Value.none from rx);exact PySem.W.kia_one PySem.W.kitx_none I.kIn True.intro e (fun z=>nomatch z) h
 |bl y=>cases (show u=Value.bool y from rx);exact PySem.W.kia_one PySem.W.kitx_bool I.kIn True.intro e (fun z=>nomatch z) h
 |int i=>obtain⟨t,q⟩:=(show ∃t,u=Value.int i t from rx);cases q;exact PySem.W.kia_one PySem.W.kitx_int I.kIn True.intro e (fun z=>nomatch z) h
 |str y=>obtain⟨t,q⟩:=(show ∃t,u=Value.str y t from rx);cases q;exact PySem.W.kia_one PySem.W.kitx_str I.kIn True.intro e (fun z=>nomatch z) h
 |flt y=>obtain⟨t,q⟩:=(show ∃t,u=Value.float y t from rx);cases q;exact PySem.W.kia_one PySem.W.kitx_float I.kIn True.intro e (fun z=>nomatch z) h
 |@lst a xs ea =>
  cases (show u=Value.ref a from rx)
  obtain⟨_,_,n,_,h1⟩:=(show ObjOk X.prog X.w H s.heap a (.lst xs) from I.hok a _ ea)
  exact PySem.W.kia_one PySem.W.kitx_list I.kIn ⟨_,h1,rfl⟩ e (fun z=>nomatch z) h
 |@frz a ob xs ea =>
  cases (show u=Value.ref a from rx)
  obtain⟨_,_,_,n,_,h1⟩:=(show ObjOk X.prog X.w H s.heap a (.frz ob (.lst xs)) from I.hok a _ ea)
  exact PySem.W.kia_one PySem.W.kitx_list I.kIn ⟨_,h1,rfl⟩ e (fun z=>nomatch z) h
 |@tup a xs ea =>
  cases (show u=Value.ref a from rx)
  obtain⟨_,_,_,p⟩:=(show ObjOk X.prog X.w H s.heap a (.tup xs) from I.hok a _ ea)
  obtain⟨o,h1,h2,_⟩:=p
  exact PySem.W.kia_one PySem.W.kitx_tuple I.kIn ⟨o,h1,h2⟩ e (fun z=>nomatch z) h
 |@dK a kvs ea =>
  cases (show u=Value.ref a from rx)
  obtain⟨_,_,vs,_,p⟩:=(show ObjOk X.prog X.w H s.heap a (.dK kvs) from I.hok a _ ea)
  obtain⟨o,es,ep,h1,h2,_⟩:=p
  exact PySem.W.kia_one PySem.W.kitx_dict I.kIn ⟨o,h1,h2.1⟩ e (fun z=>nomatch z) h
 |@dT a kvs ea =>
  cases (show u=Value.ref a from rx)
  obtain⟨_,_,xs,_,o,es,ep,h1,h2,_⟩:=(show ObjOk X.prog X.w H s.heap a (.dT kvs) from I.hok a _ ea)
  exact PySem.W.kia_one PySem.W.kitx_dict I.kIn ⟨o,h1,h2.1⟩ e (fun z=>nomatch z) h
 |@ins a C dx fs ea cl ha hn htk hm =>
  cases (show u=Value.ref a from rx)
  obtain⟨mA,O,_⟩:=ins_get I.hok ea
  obtain⟨od,J,_⟩:=O.look
  exact PySem.W.kia_one (PySem.W.kitx_own (cl.get _) cl.hd ha hn htk hm) I.kIn J e (fun z=>nomatch z) h
end
end L2
namespace L2
open PySem PySem.Spec PyProof.Rows
structure Room(k:Nat)(A:Around):Prop where
 hd:A.handled=none
 dp:A.depth+3*k+5<recursionLimit
 un:A.units+16*k+200<cLine
theorem Room.mono{j k:Nat}{A:Around}(r:Room k A)(h:j<=k):Room j A:=⟨r.hd,by have:=r.dp;omega,by have:=r.un;omega⟩
theorem Room.deeper{k:Nat}{A:Around}(r:Room (k+1) A)(env:Env):Room k (A.deeper env) :=
 ⟨r.hd,by have:=r.dp;show A.depth+1+3*k+5<_;omega,by have:=r.un;show A.units+3+16*k+200<_;omega⟩
theorem Room.in1{k:Nat}{A:Around}(r:Room (k+1) A):Room k A.in1 :=
 ⟨r.hd,by have:=r.dp;show A.depth+3*k+5<_;omega,by have:=r.un;show A.units+1+16*k+200<_;omega⟩
theorem Room.depth{k:Nat}{A:Around}(r:Room k A):A.depth<recursionLimit:=by have:=r.dp;omega
theorem Room.units{k:Nat}{A:Around}(r:Room k A):A.units+64<cLine:=by have:=r.un;omega
def tNil:TA:=fun _ H Q=>Q [] H
def tCons(ta:TE)(tr:TA):TA:=fun σ H Q=>ta σ H fun x H1=>tr σ H1 fun xs H2=>Q (x::xs) H2
section
variable {X:Cx} {e:Expr} {es:List Expr} {te:TE} {t:TA} {pos:Pos}
theorem pa_nil:PA X [] tNil:=fun _ _ _ _ H Q I h=>Calls.spliced_nil ⟨[],H,I,.nil,h⟩
theorem pa_cons(ha:PE X e te)(hr:PA X es t)(hs:starEach (e::es) X.env=(false,eval e X.env)::starEach es X.env:=by rfl):PA X (e::es) (tCons te t):=by
 intro pos pins s σ H Q I h
 rw[hs]
 show wpAny _ _ (spliced ((false,eval e X.env)::backTo pos (starEach es X.env))) _ _ s
 refine Calls.spliced_cons (thn (ha pins s σ H _ I h) fun u s1 ⟨x,H1,I1,r1,q1⟩=>?_)
 exact thn (hr pos pins s1 σ H1 _ I1 q1) fun us s2 ⟨xs,H2,I2,r2,q2⟩=>⟨x::xs,H2,I2,.cons r1 r2,q2⟩
def tTup(t:TA):TE:=fun σ H Q=>t σ H fun xs H1=>xs.length<=sizeLine/\∀p,H1 p=none->Q (.ref p) (upd H1 p (.tup xs))
def tLst(t:TA):TE:=fun σ H Q=>t σ H fun xs H1=>xs.length<=sizeLine/\∀p,H1 p=none->Q (.ref p) (upd H1 p (.lst xs))
theorem pe_tup{x1}(h:PA X es t):PE X (.Tuple es x1 pos) (tTup t):=by
 intro pins s σ H Q I hq
 refine wpAny_Tuple_spliced (thn (h pos pins s σ H _ I hq) fun us s1 ⟨xs,H1,I1,r,z,q⟩=>⟨by rw[<- r.length];exact z,?_⟩)
 have hf:H1 s1.heap.objs.size=none:=I1.hok.fresh (Nat.le_refl _)
 refine⟨.ref s1.heap.objs.size,upd H1 s1.heap.objs.size (.tup xs),I1.laid (t':=s1.toks) (fun b u e=>Heap.get?_push_of_some _ e) (Nat.le_refl _) ?_,rfl,q _ hf⟩
 exact⟨z,us,r,⟨_,Heap.get?_push_size _ rfl,rfl,_,rfl⟩⟩
theorem pe_lst(h:PA X es t):PE X (.List es pos) (tLst t):=by
 intro pins s σ H Q I hq
 refine wpAny_List_spliced (thn (h pos pins s σ H _ I hq) fun us s1 ⟨xs,H1,I1,r,z,q⟩=>⟨by rw[<- r.length];exact z,?_⟩)
 have hf:H1 s1.heap.objs.size=none:=I1.hok.fresh (Nat.le_refl _)
 refine⟨.ref s1.heap.objs.size,upd H1 s1.heap.objs.size (.lst xs),I1.laid (t':=s1.toks) (fun b u e=>Heap.get?_push_of_some _ e) (Nat.le_refl _) ?_,rfl,q _ hf⟩
 exact⟨z,us,0,r,Heap.get?_push_size _ rfl⟩
end
abbrev Sp:=List V->Hp->VK->XK->Prop
abbrev CXT:=List Env->Hp->Shared->XK->Value->Shared->Prop
structure Env0(P:Program)(w:World)(K:PySem.W.Frag)(mg:Str->Option Value)(base:Heap)(A:Around)(outer:List Env)(s:Shared)(H:Hp):Prop where
 frames:A.frames=some outer
 mod:Mod K mg base
 bs:∀b o,base.get? b=some o->s.heap.get? b=some o/\H b=none
 bsz:base.objs.size<=s.heap.objs.size
 funs:s.heap.FunFrames base outer
 frf:∀b∈frs outer,H b=none
 hok:HOk P w H s.heap
 bare:AllBare s.gens
def CE(outer:List Env)(P:Program)(w:World)(H:Hp)(s:Shared)(Q:VK)(u:Value)(s':Shared):Prop :=
 ∃v H',s'.os=s.os/\AllBare s'.gens/\Un (frs outer) [] H H' s.heap s'.heap/\HOk P w H' s'.heap/\RelV v u/\Q v H'
def CR(CX:CXT)(outer:List Env)(P:Program)(w:World)(H:Hp)(s:Shared)(Q:VK)(E:XK)(r:Result)(s':Shared):Prop :=
 match r with
 |.ok (.ret u)=>CE outer P w H s Q u s'
 |.ok _=>False
 |.error e=>CX outer H s E e s'
structure FnOk(P:Program)(w:World)(K:PySem.W.Frag)(mg:Str->Option Value)(base:Heap)(CX:CXT)(k:Nat)(f:Addr)(fd:FuncData)(ps:List Str)(sp:Sp):Prop where
 len:∀vs H Q E,sp vs H Q E->vs.length=ps.length
 run:∀(A:Around) (outer:List Env) (s:Shared) (H:Hp) (args:Args) (us:List Value) (vs:List V) (Q:VK) (E:XK),Room k A->Env0 P w K mg base A outer s H->BindsTo s fd args (ps.zip us)->Vals vs us->sp vs H Q E ->
  codeAny (model P w) A (.call (.ref f) args) (CR CX outer P w H s Q E) s
theorem FnOk.mono{P:Program}{w:World}{K:PySem.W.Frag}{mg:Str->Option Value}{base:Heap}{CX:CXT}{j k:Nat}{f:Addr}{fd:FuncData}{ps:List Str}{sp:Sp}(F:FnOk P w K mg base CX j f fd ps sp)(h:j<=k) :
  FnOk P w K mg base CX k f fd ps sp:=⟨F.len,fun A outer s H args us vs Q E hr=>F.run A outer s H args us vs Q E (hr.mono h)⟩
theorem Env0.in1{P:Program}{w:World}{K:PySem.W.Frag}{mg:Str->Option Value}{base:Heap}{A:Around}{outer:List Env}{s:Shared}{H:Hp}(e:Env0 P w K mg base A outer s H) :
  Env0 P w K mg base A.in1 outer s H:=⟨e.frames,e.mod,e.bs,e.bsz,e.funs,e.frf,e.hok,e.bare⟩
section
variable {X:Cx} {pins:List (Addr×Obj)} {σ:St} {H:Hp} {s s':Shared}
theorem Inv.env0(I:Inv X pins σ H s):Env0 X.prog X.w X.K X.mg X.base X.A X.stack s H :=
 ⟨I.ok.frames,I.ok.mod,I.bs,Nat.le_trans I.ok.bsz I.sz,I.stack,I.stkFree,I.hok,I.bare⟩
theorem Inv.after{Q:VK}{u:Value}(I:Inv X pins σ H s)(h:CE X.stack X.prog X.w H s Q u s'):EP X pins σ Q u s':=by
 obtain⟨v,H',os,bare,un,hok,r,q⟩:=h
 obtain⟨hh,g,d,t,os'⟩:=s'
 obtain rfl:os'=s.os:=os
 exact⟨v,H',I.call (h':=hh) (g':=g) (d':=d) (t':=t) (ch:=[]) un hok bare (fun b z=>absurd z (by simp)),r,q⟩
end
def tCall(sp:Sp)(dvs:List V)(E:XK)(t:TA):TE:=fun σ H Q=>t σ H fun vs H1=>sp (vs++dvs) H1 Q E
def Binds(K:PySem.W.Frag)(fd:FuncData)(ps:List Str)(ds:List Value):Prop :=
 ∀(s:Shared) (us:List Value),K.In s.heap->(us++ds).length=ps.length->BindsTo s fd ⟨us,[]⟩ (ps.zip (us++ds))
theorem Binds.all{K:PySem.W.Frag}{fd:FuncData}{ps:List Str}(h:∀us:List Value,us.length=ps.length->bindArgs fd ⟨us,[]⟩=pure (ps.zip us)):Binds K fd ps []:=fun s us _ hl=>by
 rw[List.append_nil]at hl ⊢
 exact .of_eq (h us hl)
def Passes(CX:CXT)(X:Cx)(E:XK):Prop:=∀(pins:List (Addr×Obj)) (σ:St) (H:Hp) (s:Shared) (e:Value) (s':Shared),Inv X pins σ H s->CX X.stack H s E e s'->X.xe e s'
section
variable {X:Cx} {CX:CXT} {k:Nat} {f C:Addr} {fd:FuncData} {ps:List Str} {sp:Sp} {dvs:List V} {ds:List Value} {E:XK} {x m:Str} {p pos apos:Pos} {e o:Expr} {es:List Expr} {ta:TE} {t:TA}
theorem run_fn{pins:List (Addr×Obj)}{σ:St}{H:Hp}{s:Shared}{Q:VK}{us:List Value}{vs:List V}(F:FnOk X.prog X.w X.K X.mg X.base CX k f fd ps sp)(hr:Room k X.A)(hb:Binds X.K fd ps ds)(hd:Vals dvs ds)(hx:Passes CX X E)
  (I:Inv X pins σ H s) (r:Vals vs us) (h:sp (vs++dvs) H Q E):wpAny (model X.prog X.w) X.A (call (.ref f) us) (EP X pins σ Q) X.xe s:=by
 have r2:Vals (vs++dvs) (us++ds):=r.append hd
 have hl:(us++ds).length=ps.length:=by rw[<- r2.length];exact F.len _ _ _ _ h
 refine wpAny_call (codeAny_mono (F.run X.A X.stack s H ⟨us,[]⟩ (us++ds) (vs++dvs) Q E hr I.env0 (hb s us I.kIn hl) r2 h) fun r s' hq=>?_)
 cases r with
 |error e=>exact hx pins σ H s e s' I hq
 |ok fl =>
  cases fl with
  |ret u=>exact I.after hq
  |next=>exact False.elim hq
  |brk=>exact False.elim hq
  |cont=>exact False.elim hq
theorem pe_call(F:FnOk X.prog X.w X.K X.mg X.base CX k f fd ps sp)(hr:Room k X.A)(hg:Gl X x)(hm:X.mg x=some (.ref f))(hk:PySem.W.keepIn X.K (.ref f)=true)(hb:Binds X.K fd ps ds)(hd:Vals dvs ds)(hx:Passes CX X E)
  (ha:PA X (e::es) t) (hdb:(x==("__debug__":Str))=false:=by decide) (he:starEach (e::es) X.env=(false,eval e X.env)::starEach es X.env:=by rfl) (hpl:(backTo pos (starEach es X.env)).any (·.1)=false:=by rfl) :
  PE X (.Call (.Name x p) (e::es) [] pos) (tCall sp dvs E t):=by
 intro pins s σ H Q I h
 refine wpAny_Call_Name_kw (ld_glob I hg hm ?_ hdb)
 refine PySem.W.callWith_K (h₀:=X.base) I.ok.mod.kin hk (thn (ha pos pins s σ H _ I h) fun us s1 ⟨vs,H1,I1,r,q⟩=>⟨I1.kIn,?_⟩) he hpl
 exact run_fn F hr hb hd hx I1 r q
end
section
variable {X:Cx} {CX:CXT} {k:Nat} {f C:Addr} {fd:FuncData} {ps ks:List Str} {sp:Sp} {E:XK} {x m:Str} {p pos apos kpos:Pos} {e o:Expr} {es:List Expr} {kws:List Keyword} {te ta:TE} {t tk:TA} {nm:Option Str}
variable {g:List Value->List Value->List Value} {gV:List V->List V->List V}
end
structure FnScope(N P:List Str)(sc:Scope):Prop where
 kind:sc.kind = .function
 co:sc.isCoroutine=false
 gen:sc.isGenerator=false
 nd:N.Nodup
 pre:N.take P.length=P
 par:∀x∈P,sc.names.lookup x=some .local\/sc.names.lookup x=some .cell
 nofree:∀y∈sc.names,y.2≠.free
theorem bindL_out{kindOf:Str->Option NameKind}{x:Str}:∀{binds:List (Str×Value)} {m:Str->Option Value},(∀v,(x,v)∉binds)->bindL kindOf binds m x=m x
 |[],_,_=>rfl
 |(n,v)::r,m,h=>by
  unfold bindL
  rw[bindL_out fun w hw=>h w (List.mem_cons_of_mem _ hw)]
  split
  ·have:x≠n:=by rintro rfl;exact h v List.mem_cons_self
   simp[this]
  ·rfl
theorem bindC_out{kindOf:Str->Option NameKind}{x:Str}:∀{binds:List (Str×Value)} {m:Str->Option Value},(∀v,(x,v)∉binds)->bindC kindOf binds m x=m x
 |[],_,_=>rfl
 |(n,v)::r,m,h=>by
  unfold bindC
  rw[bindC_out fun w hw=>h w (List.mem_cons_of_mem _ hw)]
  split
  ·rfl
  ·have:x≠n:=by rintro rfl;exact h v List.mem_cons_self
   simp[this]
theorem bindL_get{kindOf:Str->Option NameKind}{x:Str}{v:Value}:∀{P:List Str} {vs:List Value} {i:Nat} {m:Str->Option Value},P.Nodup->P[i]?=some x->vs[i]?=some v->kindOf x=some .local ->
  bindL kindOf (P.zip vs) m x=some v
 |[],_,_,_,_,h,_,_=>by simp at h
 |_::_,[],_,_,_,_,h,_=>by simp at h
 |p::P,w::vs,0,m,nd,h1,h2,hk=>by
  simp at h1 h2;subst h1;subst h2
  show bindL kindOf ((p,w)::P.zip vs) m p=_
  unfold bindL
  rw[bindL_out fun v hv=>(List.nodup_cons.mp nd).1 (List.of_mem_zip hv).1,if_pos hk]
  simp
 |p::P,w::vs,i+1,m,nd,h1,h2,hk=>by
  show bindL kindOf ((p,w)::P.zip vs) m x=_
  unfold bindL
  exact bindL_get (i:=i) (List.nodup_cons.mp nd).2 (by simpa using h1) (by simpa using h2) hk
theorem bindC_get{kindOf:Str->Option NameKind}{x:Str}{v:Value}:∀{P:List Str} {vs:List Value} {i:Nat} {m:Str->Option Value},P.Nodup->P[i]?=some x->vs[i]?=some v->kindOf x≠some .local ->
  bindC kindOf (P.zip vs) m x=some v
 |[],_,_,_,_,h,_,_=>by simp at h
 |_::_,[],_,_,_,_,h,_=>by simp at h
 |p::P,w::vs,0,m,nd,h1,h2,hk=>by
  simp at h1 h2;subst h1;subst h2
  show bindC kindOf ((p,w)::P.zip vs) m p=_
  unfold bindC
  rw[bindC_out fun v hv=>(List.nodup_cons.mp nd).1 (List.of_mem_zip hv).1,if_neg hk]
  simp
 |p::P,w::vs,i+1,m,nd,h1,h2,hk=>by
  show bindC kindOf ((p,w)::P.zip vs) m x=_
  unfold bindC
  exact bindC_get (i:=i) (List.nodup_cons.mp nd).2 (by simpa using h1) (by simpa using h2) hk
def start(N:List Str)(vs:List V):St:=vs.map some++List.replicate (N.length-vs.length) none
def cxOf(CX:CXT)(P:Program)(w:World)(K:PySem.W.Frag)(mg:Str->Option Value)(base:Heap)(N:List Str)(qual:Str)(scope:Scope)(f:Addr)(cd:Value)(A:Around)(outer:List Env)(s:Shared)(H:Hp)(E:XK):Cx where
 prog:=P
 w:=w
 K:=K
 mg:=mg
 base:=base
 A:=A.deeper (envOfC qual scope s.heap.objs.size f cd)
 N:=N
 s₀:=s
 H₀:=H
 env:=envOfC qual scope s.heap.objs.size f cd
 outer:=outer
 stack:=envOfC qual scope s.heap.objs.size f cd::outer
 ex:=[]
 calm:=true
 fn:=fun _=>true
 pn:=[]
 xe:=fun e s'=>wpAny (model P w) (A.deeper (envOfC qual scope s.heap.objs.size f cd)) (leaving (envOfC qual scope s.heap.objs.size f cd) e) (fun _ s''=>CX outer H s E e s'') (fun e' s''=>CX outer H s E e' s'') s'
theorem cell_has{sc:Scope}{n:Nat}{x:Str}(h:sc.names.lookup x=some .cell):∃c,(cellsFrom n sc.names []).lookup x=some c:=by
 have q:=PySem.W.cellsFrom_some sc.names n [] (.inl h)
 exact Option.isSome_iff_exists.mp q
theorem inv_start{CX:CXT}{P:Program}{w:World}{K:PySem.W.Frag}{mg:Str->Option Value}{base:Heap}{N ps:List Str}{qual:Str}{scope:Scope}{f:Addr}{cd:Value}{A:Around}{outer:List Env}{s s1:Shared}{H:Hp}{E:XK}{us:List Value}{vs:List V}
  (S:FnScope N ps scope) (hd:A.handled=none) (e0:Env0 P w K mg base A outer s H) (hl:vs.length=ps.length) (r:Vals vs us)
  (x:InCallC s s.heap.objs.size (bindL (envOfC qual scope s.heap.objs.size f cd).kindOf (ps.zip us) fun _=>none) (cellsFrom (s.heap.objs.size+1) scope.names []) (bindC (envOfC qual scope s.heap.objs.size f cd).kindOf (ps.zip us) fun _=>none) s1) :
  Inv (cxOf CX P w K mg base N qual scope f cd A outer s H E) [] (start N vs) H s1:=by
 have hpl:ps.length<=N.length:=by have:=congrArg List.length S.pre;rw[List.length_take]at this;omega
 obtain⟨h1,tk,rfl,hk⟩:=x.done
 have noA:∀b:Addr,b∉(cxOf CX P w K mg base N qual scope f cd A outer s H E).ex:=fun b z=>absurd (show b∈([]:List Addr) from z) (by simp)
 refine ⟨⟨e0.mod, S.kind, rfl, rfl, Nat.le_refl _, fun y z c h1 h2 => ?_, fun y hy => ?_, fun y c _ h => ?_, fun _ => hd, Around.frames_deeper e0.frames, .inr ⟨rfl, rfl⟩, fun b z => absurd z (noA b), e0.bs, e0.bsz, fun b _ _ => noA b, fun b z => absurd z (noA b), e0.funs, e0.frf⟩,
  rfl,e0.bare,Un.kept hk,⟨_,x.toInCall.ns,fun i y v h1 h2 h3=>?_⟩,fun y c h=>⟨_,x.cell y c h⟩,e0.hok.fresh (Nat.le_refl _),fun y c h=>?_,fun p hp=>absurd (show p∈([]:List (Addr×Obj)) from hp) (by simp),e0.hok.kept hk,?_⟩
 ·exact name_of_addr x.apart (PySem.mem_of_lookup h1) (PySem.mem_of_lookup h2)
 ·have hy:scope.names.lookup y=some .cell\/scope.names.lookup y=some .free:=hy
  rcases hy with hy|hy
  ·exact cell_has hy
  ·exact absurd rfl (S.nofree _ (PySem.mem_of_lookup hy))
 ·exact Nat.le_of_lt (x.above y c (PySem.mem_of_lookup h))
 ·have hi:i<vs.length:=by
   unfold start at h2
   by_cases hi:i<vs.length
   ·exact hi
   ·rw[List.getElem?_append_right (by simpa using hi)]at h2
    rw[List.getElem?_replicate]at h2
    split at h2<;>cases h2
  have ha:vs[i]?=some v:=by
   unfold start at h2
   rw[List.getElem?_append_left (by simpa using hi),List.getElem?_map]at h2
   cases e:vs[i]? with
   |none=>rw[e]at h2;cases h2
   |some a=>rw[e]at h2;cases h2;rfl
  obtain⟨u,hu,rv⟩:=r.get ha
  have hp:ps[i]?=some y:=by
   rw[<- S.pre,List.getElem?_take_of_lt (by omega)];exact h1
  have ndP:ps.Nodup:=by rw[<- S.pre];exact S.nd.sublist (List.take_sublist _ _)
  refine⟨u,rv,?_⟩
  rcases S.par y (List.mem_of_getElem? hp)with k|k
  ·exact .inl ⟨k,bindL_get ndP hp hu k⟩
  ·obtain⟨c,e⟩:=cell_has (n:=s.heap.objs.size+1) k
   refine .inr ⟨.inl k,c,e,?_⟩
   have q:=x.cell y c e
   rw[bindC_get ndP hp hu (by show scope.names.lookup y≠_;rw[k];decide)]at q
   exact q
 ·exact e0.hok.fresh (Nat.le_of_lt (x.above y c (PySem.mem_of_lookup h)))
 ·unfold start
  show _=N.length
  rw[List.length_append,List.length_map,List.length_replicate]
  omega
theorem fn_of{CX:CXT}{P:Program}{w:World}{K:PySem.W.Frag}{mg:Str->Option Value}{base:Heap}{k:Nat}{f:Addr}{name qual:Str}{params:Arguments}{body:List Stmt}{scope:Scope}{dV kV doc pm cdv ct oc:Value}{an od:Option Addr}
  {osl:Array (Option Value)} {N ps:List Str} {sp:Sp} (lk:K.lookup f=some ⟨oc,od,.func (PySem.W.fnOf name qual params body scope dV kV doc pm an cdv ct),osl⟩) (hcd:PySem.W.codeIn K cdv qual=true) (S:FnScope N ps scope)
  (len:∀vs H Q E,sp vs H Q E->vs.length=ps.length)
  (hbody : ∀ (A : Around) (outer : List Env) (s : Shared) (H : Hp) (vs : List V) (Q : VK) (E : XK), Room k (A.deeper (envOfC qual scope s.heap.objs.size f cdv)) -> sp vs H Q E ->
   ∃t,PSs (cxOf CX P w K mg base N qual scope f cdv A outer s H E) body t/\t { nx:=fun _ H'=>Q .non H',rt:=Q } (start N vs) H) :
  FnOk P w K mg base CX (k+1) f (PySem.W.fnOf name qual params body scope dV kV doc pm an cdv ct) ps sp:=by
 refine⟨len,fun A outer s H args us vs Q E hr e0 hb r hsp=>?_⟩
 have hl:=len _ _ _ _ hsp
 have KX:K.In s.heap:=e0.mod.kin.keeps fun b o e=>(e0.bs b o e).1
 have lim:s.heap.NoLimit:=e0.mod.nolimit.keeps fun b o e=>(e0.bs b o e).1
 have hkind:∀y∈ps.zip us,scope.names.lookup y.1=some .local\/(scope.names.lookup y.1=some .cell/\((cellsFrom (s.heap.objs.size+1) scope.names []).lookup y.1).isSome=true):=fun⟨n,v⟩ hy=>by
  rcases S.par n (List.of_mem_zip hy).1 with q|q
  ·exact .inl q
  ·exact .inr ⟨q,PySem.W.cellsFrom_some _ _ _ (.inl q)⟩
 refine codeAny_call_function hr.depth (KX _ _ lk) rfl S.co S.gen rfl (PySem.W.codeRec_of KX hcd) (hb _ _ _ _ ?_)
 refine wpAny_newFunctionEnv_cells S.kind hkind fun env he s1 x=>?_
 subst he
 refine⟨lim.keeps x.toInCall.keep,codeAny_func ?_⟩
 obtain⟨t,ht,hq⟩:=hbody A outer s H vs Q E (hr.deeper _) hsp
 have I:Inv (cxOf CX P w K mg base N qual scope f cdv A outer s H E) [] (start N vs) H s1:=inv_start S hr.hd e0 hl r x
 refine wpAny_mono (ht [] s1 (start N vs) H _ I hq) (fun fl s' hs=>?_) fun e s' hs=>hs
 have fin:∀{σ':St} {H':Hp} {v:V} {u:Value},Inv (cxOf CX P w K mg base N qual scope f cdv A outer s H E) [] σ' H' s'->RelV v u->Q v H'->CE outer P w H s Q u s' :=
  fun {σ' H' v u} J rv q=>⟨v,H',J.os,J.bare,J.base,J.hok,rv,q⟩
 cases fl with
 |ret u =>
  obtain⟨v,σ',H',J,rv,q⟩:=hs
  exact fin J rv q
 |next =>
  obtain⟨σ',H',J,q⟩:=hs
  exact fin (v:=V.non) (u:=Value.none) J rfl q
 |brk =>
  obtain⟨_,_,_,q⟩:=hs
  exact False.elim q
 |cont =>
  obtain⟨_,_,_,q⟩:=hs
  exact False.elim q
end L2
namespace L2
open PySem PySem.Spec PyProof.Rows
section
variable {X:Cx} {x:Str} {p pos:Pos} {e:Expr} {es:List Expr} {t:TA} {id T:String} {r:List V->Hp->VK->Prop}
def tCB(r:List V->Hp->VK->Prop)(t:TA):TE:=fun σ H Q=>t σ H fun vs H1=>r vs H1 Q
theorem pe_callB(hc:CallR X (.builtin id) r)(hg:Gl X x)(hm:X.mg x=none)(hv:bootBuiltins x=some (.builtin id))(ha:PA X (e::es) t)(hn:x≠"__name__":=by decide)(hdb:(x==("__debug__":Str))=false:=by decide)
  (he:starEach (e::es) X.env=(false,eval e X.env)::starEach es X.env:=by rfl) (hpl:(backTo pos (starEach es X.env)).any (·.1)=false:=by rfl):PE X (.Call (.Name x p) (e::es) [] pos) (tCB r t):=by
 intro pins s σ H Q I h
 refine wpAny_Call_Name_kw (ld_blt I hg hm hv ?_ hn hdb)
 exact PyProof.Rows.callWith_builtin1 (thn (ha pos pins s σ H _ I h) fun us s1 ⟨vs,H1,I1,r1,q1⟩=>hc pins s1 σ H1 vs us Q I1 r1 q1) he hpl
theorem pe_callTy(hc:CallR X (.type T) r)(hg:Gl X x)(hm:X.mg x=none)(hv:bootBuiltins x=some (.type T))(ha:PA X (e::es) t)(hn:x≠"__name__":=by decide)(hdb:(x==("__debug__":Str))=false:=by decide)
  (he:starEach (e::es) X.env=(false,eval e X.env)::starEach es X.env:=by rfl) (hpl:(backTo pos (starEach es X.env)).any (·.1)=false:=by rfl):PE X (.Call (.Name x p) (e::es) [] pos) (tCB r t):=by
 intro pins s σ H Q I h
 refine wpAny_Call_Name_kw (ld_blt I hg hm hv ?_ hn hdb)
 exact PyProof.Rows.callWith_type1 (thn (ha pos pins s σ H _ I h) fun us s1 ⟨vs,H1,I1,r1,q1⟩=>hc pins s1 σ H1 vs us Q I1 r1 q1) he hpl
end
end L2
namespace HT
open PySem PyProof.Rows
def lexLt:List Int->List Int->Bool
 |[],[]=>false
 |[],_::_=>true
 |_::_,[]=>false
 |x::xs,y::ys=>if x=y then lexLt xs ys else decide (x<y)
theorem lexLt_cons(x y:Int)(xs ys:List Int):lexLt (x::xs) (y::ys)=if x=y then lexLt xs ys else decide (x<y):=rfl
section
open PySem.SeqAt
open PySem.AutoSeq1 (wpAny_loadPart')
open PySem.MeetsSeq PySem.MeetsSeq2 PySem.MeetsSeq3
end
section
variable {prog:Program} {w:World} {A:Around} {E:Value->Shared->Prop} {s:Shared}
end
end HT
namespace L2
open PySem PySem.Spec PyProof.Rows
abbrev TO:=St->Hp->(Option Int->Hp->Prop)->Prop
theorem intsAre_of{ns:List Int}:∀{us:List Value},Vals (ns.map V.int) us->IntsAre us ns:=by
 induction ns with
 |nil=>intro us r;rw[List.map_nil]at r;cases r;exact .nil
 |cons n ns ih =>
  intro us r
  rw[List.map_cons]at r
  cases r with
  |cons r1 r2 =>
   obtain⟨t,e⟩:=r1
   subst e
   exact .cons n t (ih r2)
section
variable {X:Cx} {e:Expr} {te:TE} {lo hi:Option Expr} {tl th:TO} {pos p2:Pos}
end
end L2
namespace L2
open PySem PySem.Spec PyProof.Rows
def ixN(n:Nat)(i:Int):Option Nat:=if 0<=i then (if i<n then some i.toNat else none) else if -(n:Int)<=i then some (i+n).toNat else none
def atI{α:Type}(xs:List α)(i:Int):Option α:=(ixN xs.length i).bind fun j=>xs[j]?
theorem ixN_seq{n:Nat}{i:Int}{j:Nat}(h:ixN n i=some j):seqIndex? i n=some j/\j<n/\-(n:Int)<=i/\i<n:=by
 unfold ixN at h
 by_cases h0:0<=i
 ·rw[if_pos h0]at h
  by_cases h1:i<n
  ·rw[if_pos h1]at h
   have e:i.toNat=j:=Option.some.inj h
   exact⟨by rw[seqIndex_of h0 h1,e],by omega,by omega,h1⟩
  ·rw[if_neg h1]at h;cases h
 ·rw[if_neg h0]at h
  by_cases h1:-(n:Int)<=i
  ·rw[if_pos h1]at h
   have e:(i+n).toNat=j:=Option.some.inj h
   exact⟨by rw[seqIndex_neg (by omega) h1,e],by omega,h1,by omega⟩
  ·rw[if_neg h1]at h;cases h
theorem atI_get{α:Type}{xs:List α}{i:Int}{v:α}(h:atI xs i=some v):∃j,seqIndex? i xs.length=some j/\xs[j]?=some v/\j<xs.length/\-(xs.length:Int)<=i/\i<xs.length:=by
 unfold atI at h
 cases e:ixN xs.length i with
 |none=>rw[e]at h;cases h
 |some j =>
  rw[e]at h
  obtain⟨h1,h2,h3,h4⟩:=ixN_seq e
  exact⟨j,h1,h,h2,h3,h4⟩
def PlainIx(b:Expr):Prop:=∀o i,subscripted b false o i=operate [o,i] (getItem o i)
def IxR(X:Cx)(r:R2):Prop :=
 ∀(value slice:Expr) (pins:List (Addr×Obj)) (s:Shared) (σ:St) (H:Hp) (x y:V) (v u:Value) (Q:VK),Inv X pins σ H s->RelV x v->RelV y u->r x y H Q ->
  subscripted slice false v u=operate [v,u] (getItem v u)->wpAny (model X.prog X.w) X.A (subscriptTail value slice v u) (EP X pins σ Q) X.xe s
def MtR(X:Cx)(id:String)(r:V->List V->Hp->VK->Prop):Prop :=
 ∀(pins:List (Addr×Obj)) (s:Shared) (σ:St) (H:Hp) (x:V) (xs:List V) (v:Value) (us:List Value) (Q:VK),Inv X pins σ H s->RelV x v->Vals xs us->r x xs H Q ->
  wpAny (model X.prog X.w) X.A (call (.builtin id) (v::us)) (EP X pins σ Q) X.xe s
section
variable {X:Cx} {a b:Expr} {ta tb:TE} {pos:Pos}
theorem pe_ix{r:R2}(hr:IxR X r)(ha:PE X a ta)(hb:PE X b tb)(hs:PlainIx b):PE X (.Subscript a b pos) (tOp r ta tb):=by
 intro pins s σ H Q I h
 exact Subscript_ (binT ha hb I h fun v u s2 x y H2 I2 rx ry q=>hr a b pins s2 σ H2 x y v u Q I2 rx ry q (hs _ _))
def rIxL(K:PySem.W.Frag):R2:=fun x y H Q=>∃p xs i v,x = .ref p/\y = .int i/\SqL K H p xs/\atI xs i=some v/\Q v H
def rIxT(K:PySem.W.Frag):R2:=fun x y H Q=>∃p xs i v,x = .ref p/\y = .int i/\SqT K H p xs/\atI xs i=some v/\Q v H
theorem ix_list:IxR X (rIxL X.K):=by
 intro value slice pins s σ H x y v u Q I rx ry h hs
 obtain⟨p,xs,i,z,rfl,rfl,hq,he,q⟩:=h
 cases rx
 obtain⟨t,rfl⟩:=ry
 obtain⟨its,r,pl,hz⟩:=I.list hq
 obtain⟨j,h1,h2,h3,h4,h5⟩:=atI_get he
 obtain⟨w,ew,rw'⟩:=r.get h2
 have hl:=r.length
 have hn:=line63
 have fin:EP X pins σ Q w s:=⟨z,H,I,rw',q⟩
 by_cases h0:0<=i
 ·have hj:i.toNat=j:=by
   rw[seqIndex_of h0 h5]at h1
   exact Option.some.inj h1
  exact item_listR pl.isList h0 (by omega) (by rw[hj];simpa using ew) fin hs
 ·have hj:(i+(its.toArray.size:Int)).toNat=j:=by
   rw[seqIndex_neg (by omega) h4]at h1
   rw[List.size_toArray,<- hl]
   exact Option.some.inj h1
  exact subscriptTail_builtinR (x:=w) pl.isList.typeIs slot_list_getitem.lookup
   (wpAny_getItem_list_neg (Q:=fun r s'=>r=w/\EP X pins σ Q r s') pl.isList (by omega) (by rw[List.size_toArray]<;>omega) (by omega) (by rw[hj];simpa using ew) ⟨rfl,fin⟩) hs
theorem ix_tup:IxR X (rIxT X.K):=by
 intro value slice pins s σ H x y v u Q I rx ry h hs
 obtain⟨p,xs,i,z,rfl,rfl,hq,he,q⟩:=h
 cases rx
 obtain⟨t,rfl⟩:=ry
 obtain⟨its,r,pl,hz⟩:=I.tuple hq
 obtain⟨j,h1,h2,h3,h4,h5⟩:=atI_get he
 obtain⟨w,ew,rw'⟩:=r.get h2
 have hl:=r.length
 have hn:=line63
 have fin:EP X pins σ Q w s:=⟨z,H,I,rw',q⟩
 exact subscriptTail_builtinR (x:=w) pl.typeIs slot_tuple_getitem.lookup
  (getItem_tuple (j:=j) (Q:=fun r s'=>r=w/\EP X pins σ Q r s') pl (by omega) (by omega) (by rw[List.size_toArray,<- hl];exact h1) (by simpa using ew) ⟨rfl,fin⟩) hs
theorem mapSeq_set(its:List Value)(n j:Nat)(u:Value):Obj.mapSeq (·.setIfInBounds j u) { cls:=.type "list",data:=.seq its.toArray n }={ cls:=.type "list",data:=.seq (its.set j u).toArray n }:=by
 simp[Obj.mapSeq]
theorem Inv.lst{pins:List (Addr×Obj)}{σ:St}{H:Hp}{s:Shared}{p:Addr}{xs:List V}(I:Inv X pins σ H s)(h:H p=some (.lst xs)) :
  ∃(its:List Value) (n:Nat),Vals xs its/\s.heap.get? p=some { cls:=.type "list",data:=.seq its.toArray n }/\xs.length<=sizeLine:=by
 obtain⟨z,its,n,r,e⟩:=I.hok p _ h
 exact⟨its,n,r,e,z⟩
theorem Inv.lstUpd{pins:List (Addr×Obj)}{σ:St}{H:Hp}{s:Shared}{p:Addr}{xs ys:List V}{its its':List Value}{n n':Nat}{f:Obj->Obj}(I:Inv X pins σ H s)(h:H p=some (.lst xs))
  (ho:s.heap.get? p=some { cls:=.type "list",data:=.seq its.toArray n }) (hf:f { cls:=.type "list",data:=.seq its.toArray n }={ cls:=.type "list",data:=.seq its'.toArray n' }) (r:Vals ys its') (hz:ys.length<=sizeLine) (t:Nat) :
  Inv X pins σ (upd H p (.lst ys)) { s with heap:=s.heap.update p f,toks:=t }:=by
 have e:(s.heap.update p f).get? p=some { cls:=.type "list",data:=.seq its'.toArray n' }:=by
  rw[Heap.get?_update_self f ho (by rw[hf]<;>rfl),hf]
 refine I.write (x:=p) (e:=p) (by rw[h];trivial) (.inl rfl) (fun b u hb q=>(Heap.get?_update_other _ _ (Ne.symm hb)).trans q) ⟨_,e⟩ ?_
 exact⟨hz,its',n',r,e⟩
def rSetL:V->V->V->Hp->(Hp->Prop)->Prop:=fun o i v H Q=>∃p xs k j,o = .ref p/\i = .int k/\H p=some (.lst xs)/\ixN xs.length k=some j/\Q (upd H p (.lst (xs.set j v)))
theorem set_list:PSet X rSetL:=by
 intro pins s σ H o i v ov iv u Q I ro ri rv h
 obtain⟨p,xs,k,j,rfl,rfl,hp,hj,q⟩:=h
 cases ro
 obtain⟨t,rfl⟩:=ri
 obtain⟨its,n,r,ho,hz⟩:=I.lst hp
 obtain⟨h1,h2,h3,h4⟩:=ixN_seq hj
 have hl:=r.length
 have hn:=line63
 have I':Inv X pins σ (upd H p (.lst (xs.set j v))) { s with heap:=s.heap.update p (Obj.mapSeq (·.setIfInBounds j u)) } :=
  I.lstUpd hp ho (mapSeq_set its n j u) (r.set rv j) (by rw[List.length_set];exact hz) s.toks
 by_cases h0:0<=k
 ·have hk:k.toNat=j:=by
   rw[seqIndex_of h0 h4]at h1
   exact Option.some.inj h1
  exact PySem.W.ki_setAt ho h0 (by omega) (by rw[List.size_toArray,<- hl];exact h4) (by rw[hk];exact⟨_,I',q⟩)
 ·have hk:(k+(its.toArray.size:Int)).toNat=j:=by
   rw[seqIndex_neg (by omega) h3]at h1
   rw[List.size_toArray,<- hl]
   exact Option.some.inj h1
  exact PySem.W.ki_setBack ho (by omega) (by rw[List.size_toArray,<- hl];exact h3) (by omega) (by rw[hk];exact⟨_,I',q⟩)
theorem call_list_of:CallR X (.type "list") (fun xs H Q=>∃p ys,xs=[.ref p]/\(SqL X.K H p ys\/SqT X.K H p ys)/\∀l,H l=none->Q (.ref l) (upd H l (.lst ys))):=by
 intro pins s σ H xs us Q I r h
 obtain⟨p,ys,rfl,hq,q⟩:=h
 obtain⟨u,rfl,rx⟩:=vals1 r
 cases rx
 have fin:∀(its:List Value),Vals ys its->ys.length<=sizeLine->∀(h':Heap) (c':Nat),(∀b o',s.heap.get? b=some o'->h'.get? b=some o') ->
   h'.get? s.heap.objs.size=some { cls:=.type "list",dict:=none,data:=.seq its.toArray c',slots:=#[] }->EP X pins σ Q (.ref s.heap.objs.size) { s with heap:=h' }:=fun its r' hz h' c' kp e =>
  ⟨.ref s.heap.objs.size,_,I.laid (t':=s.toks) kp (Nat.le_refl _) (show ObjOk X.prog X.w _ h' _ (.lst ys) from⟨hz,its,c',r',e⟩),rfl,q _ (I.hok.fresh (Nat.le_refl _))⟩
 rcases hq with hq|hq
 ·obtain⟨its,r',pl,hz⟩:=I.list hq
  have hlen:=r'.length
  obtain⟨o,ho,hc,n,hd⟩:=pl.isList
  exact call_list_seq p (.inl rfl) ho hc hd (fun h' c' kp e=>fin its r' hz h' c' kp e) (by simp only[List.size_toArray]<;>omega)
 ·obtain⟨its,r',pl,hz⟩:=I.tuple hq
  have hlen:=r'.length
  obtain⟨o,ho,hc,n,hd⟩:=pl
  exact call_list_seq p (.inr rfl) ho hc hd (fun h' c' kp e=>fin its r' hz h' c' kp e) (by simp only[List.size_toArray]<;>omega)
def tyV(K:PySem.W.Frag)(T:String)(x:V)(H:Hp):Prop:=match x with
 |.str _=>T="str"
 |.int _=>T="int"
 |.ref p=>(T="list"/\∃xs,SqL K H p xs)\/(T="tuple"/\∃o,K.lookup p=some o/\o.cls = .type "tuple"/\o.dict=none) \/
   (T="dict"/\((∃kvs,H p=some (.dK kvs))\/∃kvs,H p=some (.dT kvs)))\/(T="set"/\∃S n,H p=some (.set S n))
 |_=>False
theorem tyV_is{pins:List (Addr×Obj)}{σ:St}{H:Hp}{s:Shared}{T:String}{x:V}{v:Value}(I:Inv X pins σ H s)(r:RelV x v)(ty:tyV X.K T x H) :
  s.TypeIs v T/\∀a,v = .ref a->∃ob,s.heap.get? a=some ob/\ob.dict=none:=by
 cases x with
 |str z =>
  obtain⟨t,rfl⟩:=r
  cases (show T="str" from ty)
  exact⟨typeIs_str s z t,fun _ e=>nomatch e⟩
 |int i =>
  obtain⟨t,rfl⟩:=r
  cases (show T="int" from ty)
  exact⟨typeIs_int s i t,fun _ e=>nomatch e⟩
 |ref p =>
  cases r
  rcases ty with ⟨rfl,xs,hq⟩|⟨rfl,o,hk,hc,hd⟩|⟨rfl,hk⟩|⟨rfl,S,n,hk⟩
  ·obtain⟨its,_,pl,_⟩:=I.list hq
   refine⟨pl.isList.typeIs,fun a e=>?_⟩
   cases e
   obtain⟨o,n,e,c,hd,_⟩:=pl
   exact⟨o,e,hd⟩
  ·refine⟨⟨o,I.kIn p o hk,hc⟩,fun a e=>?_⟩
   cases e
   exact⟨o,I.kIn _ o hk,hd⟩
  ·have z:∃o,s.heap.get? p=some o/\o.ExactDict:=by
    rcases hk with ⟨kvs,hk⟩|⟨kvs,hk⟩
    ·obtain⟨_,_,_,_,o,_,_,e,ex,_⟩:=I.hok p _ hk
     exact⟨o,e,ex⟩
    ·obtain⟨_,_,_,_,o,_,_,e,ex,_⟩:=I.hok p _ hk
     exact⟨o,e,ex⟩
   obtain⟨o,e,ex⟩:=z
   refine⟨⟨o,e,ex.1⟩,fun a e2=>?_⟩
   cases e2
   exact⟨o,e,ex.2.1⟩
  ·obtain⟨o,_,_,_,e,ex,_⟩:=I.hok p _ hk
   refine⟨⟨o,e,ex.1⟩,fun a e2=>?_⟩
   cases e2
   exact⟨o,e,ex.2.1⟩
 |_=>exact False.elim ty
def tBM(K:PySem.W.Frag)(T:String)(r:V->List V->Hp->VK->Prop)(to:TE)(t:TA):TE:=fun σ H Q=>to σ H fun x H1=>tyV K T x H1/\t σ H1 fun xs H2=>r x xs H2 Q
variable {o e:Expr} {es:List Expr} {to:TE} {t:TA} {name:Str} {apos cpos:Pos} {T id:String} {r:V->List V->Hp->VK->Prop}
theorem pe_bm(pa:PlainAttrs T)(slot:Slot T name id)(hty:typeOf (.builtin id)=pure (.type "method_descriptor"))(hm:MtR X id r)(ho:PE X o to)(ha:PA X (e::es) t)
  (hbase:attributeBase o name X.env (eval o X.env)=eval o X.env:=by rfl)
  (hfew : ((backTo cpos (starEach (e :: es) X.env)).all (fun x => !x.1) && (backToKw cpos (keywordEach [] X.env)).all (fun x => x.1.isSome)
   && decide ((e::es).length+([]:List Keyword).length+(if ([]:List Keyword).isEmpty then 0 else 1)<30))=true:=by rfl)
  (hline:(apos.endLine==cpos.line)=true:=by rfl) (hs:starEach (e::es) X.env=(false,eval e X.env)::starEach es X.env:=by rfl) (hplain:(backTo cpos (starEach es X.env)).any (·.1)=false:=by rfl) :
  PE X (.Call (.Attribute o name apos) (e::es) [] cpos) (tBM X.K T r to t):=by
 intro pins s σ H Q I h
 refine wpAny_Call_method_late hbase hfew hline rfl (thn (ho pins s σ H _ I h) fun v s1 ⟨x,H1,I1,r1,ty,q1⟩=>?_)
 obtain⟨h1,h2⟩:=tyV_is I1 r1 ty
 refine⟨T,id,pa,slot,hty,h1,h2,?_⟩
 have hA:=ha cpos pins s1 σ H1 _ I1 q1
 rw[hs]at hA ⊢
 refine Calls.callWith_builtin (by show(false||(backTo cpos (starEach es X.env)).any (·.1))=false;rw[hplain]<;>rfl) (Calls.evalArgs_plain ?_)
 exact thn hA fun us s2 ⟨vs,H2,I2,r2,q2⟩=>hm pins s2 σ H2 x vs v us Q I2 r1 r2 q2
end
end L2
namespace L2
open PySem PySem.Spec PyProof.Rows
def MtM(X:Cx)(id:String)(r:V->List V->Hp->VK->Prop):Prop :=
 ∀(pins:List (Addr×Obj)) (s:Shared) (σ:St) (H:Hp) (x:V) (xs:List V) (v:Value) (us:List Value) (Q:VK),Inv X pins σ H s->RelV x v->Vals xs us->r x xs H Q ->
  wpAny (model X.prog X.w) X.A (call (.builtin id) (v::us)) (EP X pins σ Q) X.xe s
theorem Vals.one:∀{x:V} {us:List Value},Vals [x] us->∃u,us=[u]/\RelV x u
 |_,_,.cons r .nil=>⟨_,rfl,r⟩
section
variable {X:Cx} {pins:List (Addr×Obj)} {σ:St} {H:Hp} {s:Shared} {l b:Addr} {xs ys zs:List V}
theorem Inv.lset{its its':List Value}{n:Nat}{f:Array Value->Array Value}{t':Nat}(I:Inv X pins σ H s)(hH:H l=some (.lst xs))
  (e:s.heap.get? l=some { cls:=.type "list",data:=.seq its.toArray n }) (hf:f its.toArray=its'.toArray) (hv:Vals ys its') (hz:ys.length<=sizeLine) :
  Inv X pins σ (upd H l (.lst ys)) { s with heap:=s.heap.update l (Obj.mapSeq f),toks:=t' }:=by
 have q:=PySem.IsL.update e f
 rw[hf]at q
 refine I.write (x:=l) (e:=l) (by rw[hH];exact trivial) (.inl rfl) (fun b' u hb hu=>(Heap.get?_update_other s.heap (Obj.mapSeq f) (Ne.symm hb)).trans hu) ⟨_,q⟩ ?_
 exact⟨hz,its',_,hv,q⟩
theorem Inv.lstM(I:Inv X pins σ H s)(hH:H l=some (.lst xs)):xs.length<=sizeLine/\∃(its:List Value) (n:Nat),Vals xs its/\xs.length=its.length/\s.heap.get? l=some { cls:=.type "list",data:=.seq its.toArray n }:=by
 obtain⟨z,its,n,r,e⟩:=I.hok l _ hH
 exact⟨z,its,n,r,r.length,e⟩
theorem notLongL{n:Nat}(h:n<=sizeLine):Builtin.List.listTooLong n=false:=by
 unfold Builtin.List.listTooLong
 exact decide_eq_false (by omega)
end
section
variable {X:Cx}
def rAppend:V->List V->Hp->VK->Prop:=fun x vs H Q=>∃l xs y,x = .ref l/\vs=[y]/\H l=some (.lst xs)/\xs.length<sizeLine/\Q .non (upd H l (.lst (xs++[y])))
theorem mt_append:MtM X "list.append" rAppend:=by
 intro pins s σ H x vs v us Q I rx rv h
 obtain⟨l,xs,y,rfl,rfl,hH,hz,q⟩:=h
 cases rx
 obtain⟨u,rfl,ru⟩:=rv.one
 obtain⟨z,its,n,r,hl,e⟩:=I.lstM hH
 refine call_meets F.slot_list_append ⟨_,e,rfl⟩ F.entry_list_append (F.args_list_append_2 _ _) (PySem.list_append l its.toArray n u (by rw[List.size_toArray];omega)) ⟨e,?_⟩
 refine⟨.non,_,I.lset (its':=its++[u]) hH e (by simp) (r.append (.cons ru .nil)) ?_,rfl,q⟩
 rw[List.length_append,List.length_singleton]
 omega
def rExtend:V->List V->Hp->VK->Prop:=fun x vs H Q=>∃l b xs zs,x = .ref l/\vs=[.ref b]/\H l=some (.lst xs)/\H b=some (.lst zs)/\xs.length+zs.length<=sizeLine/\Q .non (upd H l (.lst (xs++zs)))
theorem mt_extend:MtM X "list.extend" rExtend:=by
 intro pins s σ H x vs v us Q I rx rv h
 obtain⟨l,b,xs,zs,rfl,rfl,hH,hB,hz,q⟩:=h
 cases rx
 obtain⟨u,rfl,ru⟩:=rv.one
 cases ru
 obtain⟨z,its,n,r,hl,e⟩:=I.lstM hH
 obtain⟨z2,its2,n2,r2,hl2,e2⟩:=I.lstM hB
 have hsz:its.toArray.size+its2.toArray.size<=sizeLine:=by rw[List.size_toArray,List.size_toArray];omega
 have hlong:¬(!its.toArray.isEmpty&&Builtin.List.listTooLong (its.toArray.size+its2.toArray.size))=true:=by
  rw[notLongL hsz,Bool.and_false]
  exact Bool.false_ne_true
 refine call_meets F.slot_list_extend ⟨_,e,rfl⟩ F.entry_list_extend (F.args_list_extend_2 _ _)
  (AutoSeq1.list_extend_list_list_0 l its.toArray n b its2.toArray n2 hlong (by rw[List.size_toArray];omega) (by omega)) ⟨e,e2,?_⟩
 refine⟨.non,_,I.lset (its':=its++its2) hH e (by simp) (r.append r2) ?_,rfl,q⟩
 rw[List.length_append]
 omega
end
section
variable {prog:Program} {w:World} {A:Around} {E:Value->Shared->Prop} {s:Shared}
end
section
variable {X:Cx}
end
end L2
namespace Att
open PySem PySem.W PySem.Calls PyProof.Rows
theorem ints_of_wellAll{P:Params}{h:Heap}:∀(ns:List Int) (vs:List Value),WellAll P h vs (ns.map WData.int)->IntsAre vs ns:=by
 intro ns
 induction ns with
 |nil =>
  intro vs w
  rw[List.map_nil]at w
  cases w
  exact .nil
 |cons n ns ih =>
  intro vs w
  rw[List.map_cons]at w
  cases w with
  |cons a b =>
   cases a
   exact .cons _ _ (ih _ b)
theorem script_of{l:OpenLaw}{n:Nat}(hn:l.most=some n){P:Params}{h:Heap}{args:List WData}{vals:List Value}
  (hpre:l.row.toRowW.claim.pre args=true) (hwl:WellAll P h vals args) :
  ∃a vs ns,vals=[Value.ref a]/\args=[WData.list (ns.map WData.int)]/\h.get? a=some { cls:=.type "list",data:=.seq vs.toArray }/\IntsAre vs ns/\ns.length<=n:=by
 have hsh:WShape.hasAll [] args [.list .int]=true:=(pre_splitW hpre).1
 have hc:l.pre.holds [] { args:=args }=true:=(pre_splitW hpre).2
 obtain⟨d,r,rfl,h1,h2⟩:=hasAllW_cons hsh
 obtain rfl:=hasAllW_nil h2
 obtain⟨xs,rfl,h3⟩:=hasW_list h1
 obtain⟨ns,rfl⟩:=items_int h3
 have hlen:ns.length<=n:=by
  unfold OpenLaw.pre at hc
  have h4:(WTm.not (.lt (.lit (.int (n:Int))) (.len (.arg 0)))).holds [] { args:=[.list (ns.map .int)] }=true:=by
   have h4:=(holds_andW hc).1
   rw[hn]at h4
   exact h4
  have h5:=condW_of h4 (w_not (w_lt w_lit (w_len_list (w_arg rfl))))
  rw[List.length_map]at h5
  refine Nat.le_of_not_lt fun q=>?_
  have q':(n:Int)<((ns.length:Nat):Int):=by omega
  first
   |(rw[decide_eq_true q']at h5;exact absurd h5 (by decide))
   |(simp at h5;omega)
 cases hwl with
 |cons w1 w2 =>
  cases w2
  cases w1 with
  |list ho hall=>exact⟨_,_,ns,rfl,rfl,ho,ints_of_wellAll ns _ hall,hlen⟩
theorem post_true(l:OpenLaw)(args:List WData):l.row.toRowW.claim.post args (.bool true) args=true :=
 postW_of (r:=l.row.toRowW) (X:=(true==true))
  (show WShape.has [] (.bool true) .bool=true by first|rfl|decide|simp[WShape.has,WShape.arms,WShape.armsAll])
  (show(WTm.eq .res (.lit (.bool true))).value [] { args:=args,res:=some (.bool true),after:=args }=some (.bool (true==true)) from w_eq_bool (w_res rfl) w_lit) rfl
theorem attach_call{l:OpenLaw}{n:Nat}{q:Program}{loose:List Str}{XP:(Str->Option Value)->Heap->Prop}{YP:World->Heap->Prop}{d:DefRec}
  (hn:l.most=some n) (hdf:d.params.defaults=[])
  (call : ∀ (w : World) (s₀ s₁ : Shared) (mg mb : Str -> Option Value) (fa : Addr) (o : Obj) (pm cd doc : Value) (a : Addr) (vs : List Value) (ns : List Int),
   Ground q loose [] XP w s₀ mg mb s₁.heap->YP w s₁.heap ->
   s₁.heap.get? fa=some o->o.data = .func (docDef d.name d.params d.body d.scope pm cd doc)->s₁.heap.CodeRec cd d.name->mg d.name=some (.ref fa) ->
   s₁.heap.get? a=some { cls:=.type "list",data:=.seq vs.toArray }->IntsAre vs ns->ns.length<=n->s₁.gens=#[] ->
   codeAny (model l.prog w) callerA (.call (.ref fa) ⟨[.ref a],[]⟩) (fun r s'=>r = .ok (.ret (.bool true))/\OldK s₁.heap s'.heap/\s'.os=s₁.os/\AllBare s'.gens) s₁) :
  WalkO q loose XP YP l.row.toRowW d [] (fun f vs=>PySem.call f vs):=by
 intro w s₀ s₁ mg mb G Y fa o pm cd doc dV kV ho hd hcd hD hmg hg args vals as hpre hlay hrd hwl hlo
 obtain rfl:dV = .none:=Dflts.none hD hdf
 obtain rfl:kV = .none:=Dflts.noKw hD
 obtain⟨a,vs,ns,rfl,rfl,hobj,hints,hlen⟩:=script_of hn hpre hwl
 refine enter_call (codeAny_mono (call w s₀ s₁ mg mb fa o pm cd doc a vs ns G Y ho (fd_plain hd) hcd hmg hobj hints hlen hg) fun r s' hq=>?_)
 obtain⟨rfl,h2,h3,h4⟩:=hq
 exact⟨.inl ⟨.bool true,.bool true,[],rfl,fun _=>rfl,.bool true,post_true l _,fun _=>⟨List.Pairwise.nil,fun _ hm=>(nomatch hm)⟩⟩,h2,h3,h4⟩
section
variable {prog:Program} {w:World} {A:Around} {E:Value->Shared->Prop} {s:Shared} {K:Frag}
end
end Att
namespace L2
open PySem PySem.Spec PyProof.Rows
theorem vals_ints:∀{vs:List Value} {ns:List Int},IntsAre vs ns->Vals (ns.map V.int) vs
 |_,_,.nil=>.nil
 |_,_,.cons n t h=>.cons ⟨t,rfl⟩ (vals_ints h)
end L2
namespace L2
open PySem PySem.Spec PyProof.Rows
end L2
namespace L2
open PySem PySem.Spec PyProof.Rows
def defArgs(s:Stmt):Arguments:=match s with
 |.FunctionDef _ a _ _ _ _ _ _ _ _=>a
 |_=>{ posonlyargs:=[],args:=[],vararg:=none,kwonlyargs:=[],kw_defaults:=[],kwarg:=none,defaults:=[] }
def defBody(s:Stmt):List Stmt:=match s with
 |.FunctionDef _ _ b _ _ _ _ _ _ _=>b
 |_=>[]
def defScope(s:Stmt):Scope:=match s with
 |.FunctionDef _ _ _ _ _ _ sc _ _ _=>sc
 |_=>{ kind:=.function,names:=[],isGenerator:=false,isCoroutine:=false }
abbrev CX0:CXT:=fun _ _ _ _ _ _=>False
abbrev E0:XK:=fun _ _ _=>False
theorem pass0{X:Cx}:Passes CX0 X E0:=fun _ _ _ _ _ _ _ h=>h.elim
structure Fun(K:PySem.W.Frag)(x qual:Str)(st:Stmt)(f:Addr)(fd:FuncData):Prop where
 ex:∃(oc:Value) (od:Option Addr) (kV doc pm:Value) (an:Option Addr) (cdv ct:Value) (osl:Array (Option Value)),
  fd=PySem.W.fnOf x qual (defArgs st) (defBody st) (defScope st) .none kV doc pm an cdv ct/\K.lookup f=some ⟨oc,od,.func fd,osl⟩/\PySem.W.codeIn K cdv qual=true
 kp:PySem.W.keepIn K (.ref f)=true
section
variable {P:Program} {w:World} {K:PySem.W.Frag} {mg:Str->Option Value} {base:Heap}
theorem Fun.ok{x qual:Str}{st:Stmt}{f:Addr}{fd:FuncData}{N ps:List Str}{k:Nat}{sp:Sp}(F:Fun K x qual st f fd)(S:FnScope N ps (defScope st))(len:∀vs H Q E,sp vs H Q E->vs.length=ps.length)
  (hbody : ∀ (cdv : Value) (A : Around) (outer : List Env) (s : Shared) (H : Hp) (vs : List V) (Q : VK) (E : XK), Room k (A.deeper (envOfC qual (defScope st) s.heap.objs.size f cdv)) -> sp vs H Q E ->
   ∃t,PSs (cxOf CX0 P w K mg base N qual (defScope st) f cdv A outer s H E).nox (defBody st) t/\t { nx:=fun _ H'=>Q .non H',rt:=Q } (start N vs) H):FnOk P w K mg base CX0 (k+1) f fd ps sp:=by
 obtain⟨oc,od,kV,doc,pm,an,cdv,ct,osl,rfl,lk,hcd⟩:=F.ex
 refine fn_of lk hcd S len fun A outer s H vs Q E hr hsp=>?_
 obtain⟨t,h,q⟩:=hbody cdv A outer s H vs Q E hr hsp
 exact⟨t,h.nox,q⟩
theorem Fun.binds{x qual:Str}{st:Stmt}{f:Addr}{fd:FuncData}{ps:List Str}(F:Fun K x qual st f fd)
  (h:∀(kV doc pm:Value) (an:Option Addr) (cdv ct:Value) (us:List Value),us.length=ps.length->bindArgs (PySem.W.fnOf x qual (defArgs st) (defBody st) (defScope st) .none kV doc pm an cdv ct) ⟨us,[]⟩=pure (ps.zip us)):Binds K fd ps []:=by
 obtain⟨oc,od,kV,doc,pm,an,cdv,ct,osl,rfl,lk,hcd⟩:=F.ex
 exact .all (h kV doc pm an cdv ct)
theorem fun_mk{x qual:Str}{st:Stmt}{f:Addr}{oc:Value}{od an:Option Addr}{osl:Array (Option Value)}{kV doc pm cdv ct:Value}(l:K.lookup f=some ⟨oc,od,.func (PySem.W.fnOf x qual (defArgs st) (defBody st) (defScope st) .none kV doc pm an cdv ct),osl⟩)
  (c:PySem.W.codeIn K cdv qual=true) (k:PySem.W.keepIn K (.ref f)=true):Fun K x qual st f (PySem.W.fnOf x qual (defArgs st) (defBody st) (defScope st) .none kV doc pm an cdv ct):=⟨⟨oc,od,kV,doc,pm,an,cdv,ct,osl,rfl,l,c⟩,k⟩
end
section
variable {X:Cx}
theorem pv(i:Nat){x:Str}{pos:Pos}(hN:X.N[i]?=some x:=by rfl)(hv:Vis X.env.scope x:=by first|exact Or.inl rfl|exact Or.inr (Or.inl rfl)|exact Or.inr (Or.inr rfl))(hd:(x==("__debug__":Str))=false:=by decide)
  (hcd:(x==("__classdict__":Str))=false:=by decide):PE X (.Name x pos) (tVar i):=pe_var hN hv hd hcd
end
def Same(H H':Hp):Prop:=∀b o,H b=some o->H' b=some o
theorem Same.refl(H:Hp):Same H H:=fun _ _ h=>h
theorem Same.trans{H H1 H2:Hp}(a:Same H H1)(b:Same H1 H2):Same H H2:=fun c o h=>b c o (a c o h)
theorem Same.seq{K:PySem.W.Frag}{H H':Hp}{a:Addr}{xs:List V}(e:Same H H')(h:SqL K H a xs):SqL K H' a xs:=by
 rcases h with (h|⟨o,h⟩)|h
 ·exact .inl (.inl (e _ _ h))
 ·exact .inl (.inr ⟨o,e _ _ h⟩)
 ·exact .inr h
end L2
end
section
namespace L2
open PySem PySem.Spec PyProof.Rows
def Bd(n:Nat)(x:Int):Prop:=x.natAbs<2 ^ n
theorem Bd.mono{m n:Nat}{x:Int}(h:Bd m x)(k:m<=n):Bd n x:=Nat.lt_of_lt_of_le h (Nat.pow_le_pow_right (by decide) k)
theorem Bd.bits{n:Nat}{x:Int}(h:Bd n x):Builtin.Int.intBits x<=n+1:=by
 unfold Builtin.Int.intBits
 split
 ·exact Nat.zero_le _
 ·have:x.natAbs.log2<=n:=by
   rcases Nat.eq_zero_or_pos x.natAbs with h0|hp
   ·rw[h0];simp
   ·exact Nat.le_of_lt ((Nat.log2_lt (Nat.ne_of_gt hp)).mpr h)
  omega
theorem Bd.log{n:Nat}{x:Int}(h:Bd n x):x.natAbs.log2<=n:=by
 rcases Nat.eq_zero_or_pos x.natAbs with h0|hp
 ·rw[h0];simp
 ·exact Nat.le_of_lt ((Nat.log2_lt (Nat.ne_of_gt hp)).mpr h)
theorem Bd.of{n:Nat}{x m:Int}(h1:-m<=x)(h2:x<=m)(hm:m.natAbs<2 ^ n):Bd n x:=by
 unfold Bd
 omega
section
variable {X:Cx}
def CMulB(i j:Int):Prop:=CMul i j\/(Bd 8000 i/\Bd 8000 j)
theorem CMulB.ok{i j:Int}(h:CMulB i j):IntMulOk i j:=by
 rcases h with h|⟨h,k⟩
 ·exact h.ok
 ·have a:=h.bits
  have b:=k.bits
  have e:(2:Nat) ^ 20=1048576:=by decide
  exact IntMulOk.of_bits (by omega) (by omega)
theorem op_mulB:OpR X (binaryOp .Mult) (rI CMulB fun i j=>.int (i*j)):=opI fun _ _ _ _ _ _ _ hc q=>mul_int q hc.ok
def CDivB(i j:Int):Prop:=0<j/\Bd 8000 j
theorem op_fdivB:OpR X (binaryOp .FloorDiv) (rI CDivB fun i j=>.int (i / j)):=opI fun i j _ _ _ _ _ hc q=>by
 have:=hc.2.log
 rw[<- Int.fdiv_eq_ediv_of_nonneg _ (Int.le_of_lt hc.1)]at q
 exact floordiv_int (by have:=hc.1;omega) q (.inl (PyProof.noPylong_of_log2 (by omega)))
end
mutual
def Is(H:Hp):PyData->V->Prop
 |.none,v=>v = .non
 |.bool b,v=>v = .bl b
 |.int i,v=>v = .int i
 |.str x,v=>v = .str x
 |.tuple ds,v=>∃a vs,v = .ref a/\H a=some (.tup vs)/\IsL H ds vs
 |.list ds,v=>∃a vs,v = .ref a/\H a=some (.lst vs)/\IsL H ds vs
 |.dict _,_=>False
def IsL(H:Hp):List PyData->List V->Prop
 |[],vs=>vs=[]
 |d::ds,vs=>∃x xs,vs=x::xs/\Is H d x/\IsL H ds xs
end
mutual
def fixD:PyData->Bool
 |.none=>true
 |.bool _=>true
 |.int _=>true
 |.str _=>true
 |.tuple ds=>fixDs ds
 |.list _=>false
 |.dict _=>false
def fixDs:List PyData->Bool
 |[]=>true
 |d::ds=>fixD d&&fixDs ds
end
section
variable {X:Cx} {pins:List (Addr×Obj)} {σ:St} {H:Hp} {s:Shared}
end
def okD(d:PyData):Bool:=SeqAt.shaped d
section
variable {X:Cx}
theorem shaped_list{es:List PyData}(h:okD (.list es)=true):PyData.canLayAll0 es=true/\PyData.depthAll es<=63:=by
 unfold okD SeqAt.shaped at h
 rw[Bool.and_eq_true]at h
 obtain⟨h1,h2⟩:=h
 have h3:=of_decide_eq_true h2
 simp only[PyData.depth]at h3
 exact⟨by simpa only[PyData.canLay0] using h1,by omega⟩
theorem shaped_can{d:PyData}(h:okD d=true):d.canLay0=true:=by
 unfold okD SeqAt.shaped at h
 rw[Bool.and_eq_true]at h
 exact h.1
end
structure Cal(P:Program)(w:World)(K:PySem.W.Frag)(mg:Str->Option Value)(base:Heap)(k:Nat)(x:Str)(ps:List Str)(sp:Sp):Prop where
 ex:∃f fd,FnOk P w K mg base CX0 k f fd ps sp/\Binds K fd ps []/\PySem.W.keepIn K (.ref f)=true/\mg x=some (.ref f)
theorem Cal.mono{P:Program}{w:World}{K:PySem.W.Frag}{mg:Str->Option Value}{base:Heap}{j k:Nat}{x:Str}{ps:List Str}{sp:Sp}(C:Cal P w K mg base j x ps sp)(h:j<=k):Cal P w K mg base k x ps sp:=by
 obtain⟨f,fd,F,b,kp,m⟩:=C.ex
 exact⟨f,fd,F.mono h,b,kp,m⟩
theorem Cal.of{P:Program}{w:World}{K:PySem.W.Frag}{mg:Str->Option Value}{base:Heap}{k:Nat}{x:Str}{ps:List Str}{sp:Sp}{f:Addr}{fd:FuncData}{st:Stmt}(F:Fun K x x st f fd)(ok:FnOk P w K mg base CX0 k f fd ps sp)(b:Binds K fd ps [])(m:mg x=some (.ref f)):Cal P w K mg base k x ps sp:=⟨f,fd,ok,b,F.kp,m⟩
section
variable {X:Cx} {k:Nat} {ps:List Str} {sp:Sp} {x:Str} {p pos:Pos} {e:Expr} {es:List Expr} {t:TA}
theorem pe_callC(C:Cal X.prog X.w X.K X.mg X.base k x ps sp)(hr:Room k X.A)(hg:Gl X x)(ha:PA X (e::es) t)(hdb:(x==("__debug__":Str))=false:=by decide)
  (he:starEach (e::es) X.env=(false,eval e X.env)::starEach es X.env:=by rfl) (hpl:(backTo pos (starEach es X.env)).any (·.1)=false:=by rfl) :
  PE X (.Call (.Name x p) (e::es) [] pos) (tCall sp [] E0 t):=by
 obtain⟨f,fd,F,b,kp,m⟩:=C.ex
 exact pe_call F hr hg m kp b .nil pass0 ha hdb he hpl
end
theorem pe_ty{X:Cx}{x:Str}{T:String}{pos:Pos}(hg:Gl X x)(hm:X.mg x=none)(hv:bootBuiltins x=some (.type T))(hn:x≠"__name__")(hd:(x==("__debug__":Str))=false):PE X (.Name x pos) (tC (.ty T)):=pe_bltn hg hm hv rfl hn hd
theorem same_new{H:Hp}{p:Addr}(h:H p=none)(o:HO):Same H (upd H p o):=fun b u q=>by rw[upd_ne (ne_of_none q h)];exact q
theorem kit_same{K:PySem.W.Frag}(T:String):PySem.W.kitOne K (.type T) (.type T)=some true:=by
 unfold PySem.W.kitOne
 rw[if_pos (beq_self_eq_true _)]
theorem kit_ty{K:PySem.W.Frag}{t T:String}{b:Bool}(h1:(Value.type t==Value.type T)=false)(h2:PySem.W.kitMeta T=true)(h3:(PySem.fastBuiltinMro t).map (·.contains (Value.type T))=some b):PySem.W.kitOne K (.type t) (.type T)=some b:=by
 unfold PySem.W.kitOne PySem.W.kitCls
 rw[h1,if_neg Bool.false_ne_true]
 simp only[h2,if_true]
 exact h3
end L2
end
section
namespace L2
open PySem PySem.Spec PyProof.Rows
theorem clos_go{env:Env}:∀(names:List (Str×NameKind)) (cs:List (Str×Addr)),(∀x,(x,NameKind.free)∈names->∃c,env.cells.lookup x=some c) ->
  (∀x c,cs.lookup x=some c->env.cells.lookup x=some c) ->
  ∃ cl, (forIn names cs fun (x : Str × NameKind) (r : List (Str × Addr)) => match x with
   |(name,kind)=>if (kind==NameKind.free)=true then do let c <- cellOf env name;pure (ForInStep.yield ((name,c)::r)) else pure (ForInStep.yield r):Sem (List (Str×Addr)))=pure cl /\
   (∀x c,cl.lookup x=some c->env.cells.lookup x=some c)/\(∀x,(x,NameKind.free)∈names->∃c,cl.lookup x=some c)/\(∀x c,cs.lookup x=some c->∃c',cl.lookup x=some c')
 |[],cs,_,h2=>⟨cs,rfl,h2,fun x hx=>by simp at hx,fun x c e=>⟨c,e⟩⟩
 |(n,k)::r,cs,h1,h2=>by
  by_cases hk:k = .free
  ·subst hk
   obtain⟨c,hc⟩:=h1 n List.mem_cons_self
   have hh:∀x c',((n,c)::cs).lookup x=some c'->env.cells.lookup x=some c':=by
    intro x c' e
    rw[List.lookup_cons]at e
    cases q:x==n with
    |true=>rw[q]at e;cases e;rw[eq_of_beq q];exact hc
    |false=>rw[q]at e;exact h2 x c' e
   obtain⟨cl,e,a,b,d⟩:=clos_go (env:=env) r ((n,c)::cs) (fun x hx=>h1 x (List.mem_cons_of_mem _ hx)) hh
   refine⟨cl,?_,a,fun x hx=>?_,fun x c' e'=>?_⟩
   ·rw[List.forIn_cons]
    have ec:cellOf env n=pure c:=by
     unfold cellOf
     rw[hc]
    simp only[beq_self_eq_true,if_true]
    rw[ec]
    exact e
   ·rcases List.mem_cons.mp hx with z|z
    ·cases z
     exact d n c (by rw[List.lookup_cons,beq_self_eq_true])
    ·exact b x z
   ·cases q:x==n with
    |true=>exact d x c (by rw[List.lookup_cons,q])
    |false=>exact d x c' (by rw[List.lookup_cons,q];exact e')
  ·obtain⟨cl,e,a,b,d⟩:=clos_go (env:=env) r cs (fun x hx=>h1 x (List.mem_cons_of_mem _ hx)) h2
   refine⟨cl,?_,a,fun x hx=>?_,d⟩
   ·rw[List.forIn_cons]
    have hb:(k==NameKind.free)=false:=by simpa using hk
    simp only[hb,Bool.false_eq_true,if_false]
    exact e
   ·rcases List.mem_cons.mp hx with z|z
    ·cases z;exact absurd rfl hk
    ·exact b x z
theorem clos_of{env:Env}{scope:Scope}(h:∀x,(x,NameKind.free)∈scope.names->∃c,env.cells.lookup x=some c) :
  ∃cl,closureFor scope env=pure cl/\(∀x c,cl.lookup x=some c->env.cells.lookup x=some c)/\(∀x,(x,NameKind.free)∈scope.names->∃c,cl.lookup x=some c):=by
 obtain⟨cl,e,a,b,_⟩:=clos_go (env:=env) scope.names [] h (fun x c e=>by simp at e)
 refine⟨cl,?_,a,b⟩
 exact(congrArg (fun m:Sem (List (Str×Addr))=>m >>= fun r=>(pure r:Sem (List (Str×Addr)))) e).trans rfl
theorem comp_loop{prog:Program}{w:World}{A:Around}{R:Result->Shared->Prop}{s:Shared}{elt target iter:Expr}{ifs:List Expr}{scope:Scope}{pos:Pos}{it acc:Value}{env:Env}(I:Nat->Shared->Prop)
  (turn : ∀ n s, I n s -> wpAny (model prog w) A (pyNext it) (fun r s₁ => match r with
   |none=>R (.ok .next) s₁
   | some v => wpAny (model prog w) A (letOwnedTupleGo target it v) (fun _ s₁ => wpAny (model prog w) A (assign target env v) (fun _ s₂ =>
     wpAny (model prog w) A (forIn ifs true fun c r => if r = true then do let ok <- isTrue c env (eval c env); pure (ForInStep.yield ok) else pure (ForInStep.yield r)) (fun ok s₃ =>
      if ok = true then wpAny (model prog w) A (eval elt env) (fun x s₄ =>
       wpAny (model prog w) A (call (.builtin "list.append") [acc,x]) (fun _ s₅=>∃m,m<n/\I m s₅) (fun _ _=>False) s₄) (fun _ _=>False) s₃
      else ∃m,m<n/\I m s₃) (fun _ _=>False) s₂) (fun _ _=>False) s₁) (fun _ _=>False) s₁) (fun _ _=>False) s)
  (n:Nat) (h:I n s) :
  codeAny (model prog w) A (.compLoop (.ListComp elt [⟨target,iter,ifs,0⟩] scope pos) 0 it acc env) R s:=by
 refine codeAny_loop rfl I (fun n s hI=>?_) n h
 show wpAny _ A ((compTurn (.ListComp elt [⟨target,iter,ifs,0⟩] scope pos) 0 it acc env).onRaise (fun x=>do noteFrame x env;theTreesLotGoes x)) _ _ s
 refine wpAny_noted ?_
 rw[compTurn_list]
 refine wpAny_bind (wpAny_standAt (wpAny_bind (wpAny_mono (turn n s hI) (fun r s₁ h₁=>?_) fun _ _ h'=>h'.elim)))
 cases r with
 |none=>exact wpAny_pure h₁
 |some v =>
  refine wpAny_bind (wpAny_mono h₁ (fun _ s₁ h₁=>?_) fun _ _ h'=>h'.elim)
  refine wpAny_bind (wpAny_mono h₁ (fun _ s₂ h₂=>wpAny_bind (wpAny_mono h₂ (fun ok s₃ h₃=>?_) fun _ _ h'=>h'.elim)) fun _ _ h'=>h'.elim)
  cases ok with
  |false=>exact wpAny_pure ⟨rfl,h₃⟩
  |true =>
   exact wpAny_bind (wpAny_bind (wpAny_mono h₃ (fun x s₄ h₄=>wpAny_bind (wpAny_mono h₄ (fun _ s₅ h₅=>wpAny_pure (wpAny_pure ⟨rfl,h₅⟩)) fun _ _ h'=>h'.elim)) fun _ _ h'=>h'.elim))
theorem relabel_go{env:Env}:∀{names:List (Str×NameKind)} {x:Str} {k:NameKind},names.lookup x=some k ->
  (names.map fun(n,k)=>if (k==NameKind.free&&env.scope.kind==.function&&env.kindOf n==some .cell) then (n,NameKind.cell) else (n,k)).lookup x=some k \/
  (k = .free/\(names.map fun(n,k)=>if (k==NameKind.free&&env.scope.kind==.function&&env.kindOf n==some .cell) then (n,NameKind.cell) else (n,k)).lookup x=some .cell)
 |[],_,_,h=>by simp at h
 |(n,k')::r,x,k,h=>by
  rw[List.map_cons]
  dsimp only
  cases hx:x==n with
  |true =>
   simp only[List.lookup_cons,hx]at h
   have e:k=k':=(Option.some.inj h).symm
   subst e
   by_cases hc:(k==NameKind.free&&env.scope.kind==.function&&env.kindOf n==some .cell)=true
   ·rw[if_pos hc]
    refine .inr ⟨?_,by simp only[List.lookup_cons,hx]⟩
    simp only[Bool.and_eq_true]at hc
    exact eq_of_beq hc.1.1
   ·rw[if_neg hc]
    exact .inl (by simp only[List.lookup_cons,hx])
  |false =>
   simp only[List.lookup_cons,hx]at h
   have ih:=@relabel_go env r x k h
   by_cases hc:(k'==NameKind.free&&env.scope.kind==.function&&env.kindOf n==some .cell)=true
   ·rw[if_pos hc];simp only[List.lookup_cons,hx];exact ih
   ·rw[if_neg hc];simp only[List.lookup_cons,hx];exact ih
theorem relabel_back{env:Env}:∀{names:List (Str×NameKind)} {x:Str} {k:NameKind},(∀y∈names,y.2≠.cell) ->
  (names.map fun(n,k)=>if (k==NameKind.free&&env.scope.kind==.function&&env.kindOf n==some .cell) then (n,NameKind.cell) else (n,k)).lookup x=some k->(k = .cell\/k = .free)->(x,NameKind.free)∈names
 |[],_,_,_,h,_=>by simp at h
 |(n,k')::r,x,k,nc,h,hk=>by
  rw[List.map_cons]at h
  dsimp only at h
  cases hx:x==n with
  |true =>
   have e:=eq_of_beq hx
   subst e
   by_cases hc:(k'==NameKind.free&&env.scope.kind==.function&&env.kindOf x==some .cell)=true
   ·simp only[Bool.and_eq_true]at hc
    rw[eq_of_beq hc.1.1]
    exact List.mem_cons_self
   ·rw[if_neg hc,List.lookup_cons,hx]at h
    cases h
    rcases hk with rfl|rfl
    ·exact absurd rfl (nc _ List.mem_cons_self)
    ·exact List.mem_cons_self
  |false =>
   refine List.mem_cons_of_mem _ (relabel_back (env:=env) (fun y hy=>nc y (List.mem_cons_of_mem _ hy)) ?_ hk)
   by_cases hc:(k'==NameKind.free&&env.scope.kind==.function&&env.kindOf n==some .cell)=true
   ·rw[if_pos hc,List.lookup_cons,hx]at h;exact h
   ·rw[if_neg hc,List.lookup_cons,hx]at h;exact h
theorem rl_local{scope:Scope}{env:Env}{x:Str}(h:scope.names.lookup x=some .local):(relabel scope env).names.lookup x=some .local:=lookup_relabel_local h
theorem rl_glob{scope:Scope}{env:Env}{x:Str}(h:scope.names.lookup x=some .globalImplicit):(relabel scope env).names.lookup x=some .globalImplicit:=by
 rcases relabel_go (env:=env) h with z|⟨z,_⟩
 ·exact z
 ·cases z
theorem rl_free{scope:Scope}{env:Env}{x:Str}(h:scope.names.lookup x=some .free):(relabel scope env).names.lookup x=some .cell\/(relabel scope env).names.lookup x=some .free:=by
 rcases relabel_go (env:=env) h with z|⟨_,z⟩
 ·exact .inr z
 ·exact .inl z
theorem vis_local{scope:Scope}{env:Env}{x:Str}(h:scope.names.lookup x=some .local):Vis (relabel scope env) x:=.inl (rl_local h)
theorem vis_free{scope:Scope}{env:Env}{x:Str}(h:scope.names.lookup x=some .free):Vis (relabel scope env) x:=(rl_free h).elim (fun z=>.inr (.inl z)) fun z=>.inr (.inr z)
theorem loc_local{scope:Scope}{env:Env}{x:Str}(h:scope.names.lookup x=some .local):Loc (relabel scope env) x:=.inl (rl_local h)
def blk(own:Nat)(fr:List Nat)(σ:St):St:=List.replicate own none++fr.map fun j=>(σ[j]?).join
def cxC(X:Cx)(N':List Str)(scope:Scope)(cl:List (Str×Addr))(fp:List Addr)(s3:Shared)(H3:Hp):Cx:={ X with
 N:=N',s₀:=s3,H₀:=H3,env:=compEnvC scope cl s3.heap.objs.size X.env,outer:=X.stack,stack:=X.stack,ex:=fp,fn:=fun _=>false,pn:=[],xe:=fun _ _=>False }
structure LcOk(X:Cx)(N':List Str)(own:Nat)(fr:List Nat)(scope:Scope):Prop where
 kind:scope.kind = .function
 len:N'.length=own+fr.length
 cell:∀y∈scope.names,y.2≠.cell
 names:∀y∈scope.names,y.2 = .local->scope.names.lookup y.1=some .local
 free:∀x,(x,NameKind.free)∈scope.names->X.env.scope.names.lookup x=some .cell\/X.env.scope.names.lookup x=some .free
 slot:∀k j,fr[k]?=some j->∃x,N'[own+k]?=some x/\X.N[j]?=some x/\scope.names.lookup x=some .free
theorem blk_get{own:Nat}{fr:List Nat}{σ:St}{i:Nat}{v:V}(h:(blk own fr σ)[i]?=some (some v)):∃k j,i=own+k/\fr[k]?=some j/\σ[j]?=some (some v):=by
 unfold blk at h
 by_cases hi:i<own
 ·rw[List.getElem?_append_left (by simpa using hi),List.getElem?_replicate,if_pos hi]at h
  cases h
 ·rw[List.getElem?_append_right (by simpa using hi),List.length_replicate,List.getElem?_map]at h
  cases e:fr[i-own]? with
  |none=>rw[e]at h;cases h
  |some j =>
   rw[e]at h
   simp only[Option.map_some,Option.some.injEq]at h
   refine⟨i-own,j,by omega,e,?_⟩
   cases q:σ[j]? with
   |none=>rw[q]at h;cases h
   |some o=>rw[q]at h;cases o with
    |none=>cases h
    |some u=>cases h;rfl
section
variable {X:Cx} {N':List Str} {own:Nat} {fr:List Nat} {scope:Scope}
theorem inv_blk{pins:List (Addr×Obj)}{σ:St}{H3:Hp}{s3:Shared}{cl:List (Str×Addr)}{fp:List Addr}{h4:Heap}{tk:Nat}(ok:LcOk X N' own fr scope)(I:Inv X pins σ H3 s3)(f2:∀b∈fp,FpOk X pins H3 b)(flt:∀b∈fp,b<s3.heap.objs.size)
  (cl1:∀x c,cl.lookup x=some c->X.env.cells.lookup x=some c) (cl2:∀x,(x,NameKind.free)∈scope.names->∃c,cl.lookup x=some c)
  (m4:Str->Option Value) (n4:h4.Ns s3.heap.objs.size m4) (k4:∀b o,s3.heap.get? b=some o->h4.get? b=some o) :
  Inv (cxC X N' scope cl fp s3 H3) [] (blk own fr σ) H3 { s3 with heap:=h4,toks:=tk }:=by
 have stk:∀b,b∈frs X.stack->b∈X.env.locals::X.fs:=I.stkSub
 have exfs:∀b∈fp,b∉frs X.stack:=fun b hb z=>by
  rcases List.mem_cons.mp (stk b z)with e|e
  ·exact(f2 b hb).2.1 e
  ·exact(f2 b hb).2.2.1 e
 have okk:(cxC X N' scope cl fp s3 H3).Ok:=by
  refine ⟨I.ok.mod, ok.kind, I.ok.glob, I.ok.blt, Nat.le_refl _, fun x y c e1 e2 => I.ok.inj x y c (cl1 x c e1) (cl1 y c e2), fun x hx => ?_, fun x c hf => ?_, I.ok.hd, I.ok.frames, .inl rfl, fun b hb => ⟨Nat.ne_of_lt (flt b hb), fun x c e => (f2 b hb).2.2.2.2.1 x c (cl1 x c e)⟩,
   I.bs,Nat.le_trans I.ok.bsz I.sz,fun b o e hb=>?_,exfs,I.stack,I.stkFree⟩
  ·refine cl2 x ?_
   have hx:(relabel scope X.env).names.lookup x=some .cell\/(relabel scope X.env).names.lookup x=some .free:=hx
   rcases hx with hx|hx
   ·exact relabel_back (env:=X.env) ok.cell hx (.inl rfl)
   ·exact relabel_back (env:=X.env) ok.cell hx (.inr rfl)
  ·exact absurd (show false=true from hf) Bool.false_ne_true
  ·rcases(f2 b hb).2.2.2.1 with z|z
   ·exact I.ok.noex b o e z
   ·exact absurd (Nat.lt_of_lt_of_le (Heap.lt_size e) (Nat.le_trans I.ok.bsz z)) (Nat.lt_irrefl _)
 refine⟨okk,rfl,I.bare,Un.kept k4,⟨m4,n4,fun i x v e1 e2 e3=>?_⟩,fun x c e=>?_,I.hok.fresh (Nat.le_refl _),fun x c e=>I.freeC x c (cl1 x c e),fun p hp=>absurd (show p∈([]:List (Addr×Obj)) from hp) (by simp),I.hok.kept k4,?_⟩
 ·obtain⟨k,j,rfl,ej,es⟩:=blk_get e2
  obtain⟨y,y1,y2,y0⟩:=ok.slot k j ej
  have y3:=PySem.mem_of_lookup y0
  rw[show(cxC X N' scope cl fp s3 H3).N=N' from rfl,y1]at e1
  cases e1
  obtain⟨m,hn,hl⟩:=I.loc
  have vis:Vis X.env.scope x:=(ok.free x y3).elim (fun z=>.inr (.inl z)) fun z=>.inr (.inr z)
  obtain⟨u,r,l⟩:=hl j x v y2 es vis
  refine⟨u,r,?_⟩
  rcases l with ⟨l,_⟩|⟨_,c,ec,z⟩
  ·exfalso
   have l':X.env.scope.names.lookup x=some .local:=l
   rcases ok.free x y3 with q|q
   ·rw[q]at l';cases l'
   ·rw[q]at l';cases l'
  ·obtain⟨c',ec'⟩:=cl2 x y3
   have:=cl1 x c' ec'
   rw[ec]at this
   cases this
   obtain⟨o,ho,hd⟩:=z
   refine .inr ⟨?_,c,ec',⟨o,k4 c o ho,hd⟩⟩
   rcases e3 with z|z|z
   ·exfalso
    have z':(relabel scope X.env).names.lookup x=some .local:=z
    rcases rl_free (env:=X.env) y0 with q|q
    ·rw[z']at q;cases q
    ·rw[z']at q;cases q
   ·exact .inl z
   ·exact .inr z
 ·obtain⟨v,o,ho,hd⟩:=I.cell x c (cl1 x c e)
  exact⟨v,o,k4 c o ho,hd⟩
 ·show(blk own fr σ).length=N'.length
  unfold blk
  rw[List.length_append,List.length_replicate,List.length_map,ok.len]
end
end L2
end
section
namespace L2
open PySem PySem.Spec PyProof.Rows
def PTs(X:Cx)(ifs:List Expr)(tc:TT):Prop :=
 ∀(pins:List (Addr×Obj)) (s:Shared) (σ:St) (H:Hp) (Q:Bool->Hp->Prop),Inv X pins σ H s->tc σ H Q->wpAny (model X.prog X.w) X.A (forIn ifs true fun c r=>if r=true then do let ok <- isTrue c X.env (eval c X.env);pure (ForInStep.yield ok) else pure (ForInStep.yield r)) (TP X pins σ Q) X.xe s
def tYes:TT:=fun _ H Q=>Q true H
theorem pts_nil{X:Cx}:PTs X [] tYes:=fun pins s σ H Q I h=>wpAny_tests_nil ⟨H,I,h⟩
def lcGo(own:Nat)(fr:List Nat)(g:TG)(tc:TT)(te:TE)(J:It)(σ:St)(H1:Hp)(Q:VK):Prop:=∀D,H1 D=none->∃W:Nat->Nat->List V->St->Hp->Prop,(∃m,W 0 m [] (blk own fr σ) (upd H1 D (.lst [])))/\∀i m ys σ' H',W i m ys σ' H' ->
 (J.stop i H' /\ Q (.ref D) H') \/ (J.go i H' /\ ∀ x H2, J.yld i H' x H2 -> g x σ' H2 fun σ3 H3 => tc σ3 H3 fun b H4 => if b = true then te σ3 H4 fun y H5 => H5 D = some (.lst ys) /\ ys.length < sizeLine /\ ∃ m', m' < m /\ W (i + 1) m' (ys ++ [y]) σ3 (upd H5 D (.lst (ys ++ [y])))
  else ∃m',m'<m/\W (i+1) m' ys σ3 H4)
def tLC(own:Nat)(fr:List Nat)(wi:TI)(g:TG)(tc:TT)(te:TE):TE:=fun σ H Q=>wi σ H fun J H1=>lcGo own fr g tc te J σ H1 Q
structure Own(X:Cx)(pins:List (Addr×Obj))(C:Addr)(H:Hp)(s:Shared):Prop where
 ns:∃m,s.heap.Ns C m
 hn:H C=none
 ne:C≠X.env.locals
 ab:X.s₀.heap.objs.size<=C
 nc:∀x c,X.env.cells.lookup x=some c->c≠C
 np:∀p∈X.pn++pins,p.1≠C
structure TurnG(G:Cx->Prop)(P:Program)(w:World)(K:PySem.W.Frag)(tg:Expr)(J:It)(fp:List Addr)(it:Addr)(tn:Nat->Heap->Prop):Prop where
 obj:∀i h,tn i h->∀b∈fp,∃o,h.get? b=some o/\∀v,o.data≠.cell v
 keep:∀i h h',tn i h->(∀b∈fp,∀o,h.get? b=some o->h'.get? b=some o)->tn i h'
 item:∀(X:Cx),X.prog=P->X.w=w->X.K=K->G X->∀(i:Nat) (pins:List (Addr×Obj)) (s:Shared) (σ:St) (H:Hp) (E:Value->Shared->Prop),Inv X pins σ H s->(∀b∈fp,FpOk X pins H b)->tn i s.heap->J.go i H ->
  wpAny (model P w) X.A (pyNext (.ref it)) (fun r s1 => ∃ u, r = some u /\
   wpAny (model P w) X.A (letOwnedTupleGo tg (.ref it) u) (fun _ s2=>∃x H',Inv X pins σ H' s2/\RelV x u/\J.yld i H x H'/\tn (i+1) s2.heap/\∀b∈fp,H' b=none) E s1) E s
 done:∀(X:Cx),X.prog=P->X.w=w->X.K=K->G X->∀(i:Nat) (pins:List (Addr×Obj)) (s:Shared) (σ:St) (H:Hp) (E:Value->Shared->Prop),Inv X pins σ H s->(∀b∈fp,FpOk X pins H b)->tn i s.heap->J.stop i H ->
  wpAny (model P w) X.A (pyNext (.ref it)) (fun r s1=>r=none/\Inv X pins σ H s1) E s
 self:∀(A:Around) (i:Nat) (s:Shared) (Q:Value->Shared->Prop) (E:Value->Shared->Prop),tn i s.heap->Q (.ref it) s->wpAny (model P w) A (pyIter (.ref it)) Q E s
theorem Turn.g{P:Program}{w:World}{K:PySem.W.Frag}{tg:Expr}{J:It}{fp:List Addr}{it:Addr}{tn:Nat->Heap->Prop}(T:Turn P w K tg J fp it tn):TurnG (fun X=>X.calm=true) P w K tg J fp it tn:=⟨T.obj,T.keep,T.item,T.done,T.self⟩
section
variable {X:Cx} {N':List Str} {own:Nat} {fr:List Nat} {scope:Scope} {elt tg iter:Expr} {ifs:List Expr} {pos:Pos}
theorem Own.go{pins:List (Addr×Obj)}{σ:St}{H:Hp}{s:Shared}{C:Addr}{h':Heap}(O:Own X pins C H s)(I:Inv X pins σ H s)(sb:Heap.SameBut C s.heap h'):Inv X pins σ H { s with heap:=h' } :=
 I.turned (t':=s.toks) (fun b o hb e=>sb.extBut b o hb e) O.hn O.ne (.inr O.ab) O.nc O.np
theorem comp_run{G:Cx->Prop}{pins:List (Addr×Obj)}{σ:St}{H2:Hp}{s2:Shared}{J:It}{fp:List Addr}{it:Addr}{tn:Nat->Heap->Prop}{cl:List (Str×Addr)}{Q:VK}{g:TG}{tc:TT}{te:TE}{RR:Value->Addr->Result->Shared->Prop}{E:Value->Shared->Prop}
  (hc:∀s3 H3,Inv X pins σ H3 s3->G (cxC X N' scope cl fp s3 H3)) (ok:LcOk X N' own fr scope) (I2:Inv X pins σ H2 s2) (T:TurnG G X.prog X.w X.K tg J fp it tn) (st2:tn 0 s2.heap) (f2:∀b∈fp,FpOk X pins H2 b)
  (cl1:∀x c,cl.lookup x=some c->X.env.cells.lookup x=some c) (cl2:∀x,(x,NameKind.free)∈scope.names->∃c,cl.lookup x=some c)
  (hg:∀fp s3 H3,PG (cxC X N' scope cl fp s3 H3) tg g) (ht:∀fp s3 H3,PTs (cxC X N' scope cl fp s3 H3) ifs tc) (he:∀fp s3 H3,PE (cxC X N' scope cl fp s3 H3) elt te)
  (h:lcGo own fr g tc te J σ H2 Q)
  (fin:∀D C s' H',Inv X pins σ H' s'->Own X pins C H' s'->Q (.ref D) H'->RR (.ref D) C (.ok .next) s') :
  wpAny (model X.prog X.w) X.A (newList []) (fun acc s₃ => wpAny (model X.prog X.w) X.A (newFunctionEnv scope X.env.globals cl [] X.env.qual none .none (some X.env)) (fun cenv s₄ =>
   codeAny (model X.prog X.w) X.A (.compStart (.ListComp elt [⟨tg,iter,ifs,0⟩] scope pos) 0 (.ref it) acc { cenv with scope:=relabel scope X.env }) (RR acc cenv.locals) s₄) E s₃) E s2:=by
 obtain⟨W,⟨m0,w0⟩,turn⟩:=h s2.heap.objs.size (I2.hok.fresh (Nat.le_refl _))
 refine wpAny_newObj_type (wpAny_newFunctionEnv ok.cell (by intro y hy;simp at hy) (fun h₁ hns₁ hsb₁=>?_) ok.kind)
 dsimp only at hns₁ hsb₁ ⊢
 have I3:Inv X pins σ (upd H2 s2.heap.objs.size (.lst [])) { s2 with heap:=s2.heap.push { cls:=.type "list",dict:=none,data:=.seq ([]:List Value).toArray } } :=
  I2.laid (t':=s2.toks) (fun b u e=>Heap.get?_push_of_some _ e) (Nat.le_refl _) ⟨Nat.zero_le _,[],0,.nil,Heap.get?_push_size _ rfl⟩
 generalize hH3:upd H2 s2.heap.objs.size (.lst [])=H3 at w0 I3
 generalize hS3:({ s2 with heap:=s2.heap.push { cls:=.type "list",dict:=none,data:=.seq ([]:List Value).toArray } }:Shared)=S3 at I3
 have e3:s2.heap.push { cls:=.type "list",dict:=none,data:=.seq ([]:List Value).toArray }=S3.heap:=by rw[<- hS3]
 have k23:∀b o,s2.heap.get? b=some o->S3.heap.get? b=some o:=fun b o e=>by rw[<- e3];exact Heap.get?_push_of_some _ e
 rw[e3]at hns₁ hsb₁ ⊢
 have st3:tn 0 S3.heap:=T.keep _ _ _ st2 fun b _ o e=>k23 b o e
 have flt:∀b∈fp,b<S3.heap.objs.size:=fun b hb=>by
  obtain⟨o,e,_⟩:=T.obj _ _ st3 b hb
  exact Heap.lt_size e
 have flt2:∀b∈fp,b<s2.heap.objs.size:=fun b hb=>by
  obtain⟨o,e,_⟩:=T.obj _ _ st2 b hb
  exact Heap.lt_size e
 have f3:∀b∈fp,FpOk X pins H3 b:=fun b hb=>by
  refine⟨?_,(f2 b hb).2⟩
  rw[<- hH3,upd_ne (Nat.ne_of_lt (flt2 b hb))]
  exact(f2 b hb).1
 have k34:∀b o,S3.heap.get? b=some o->h₁.get? b=some o:=fun b o e=>hsb₁.extBut b o (Nat.ne_of_lt (Heap.lt_size e)) (Heap.get?_push_of_some _ e)
 have I4:Inv (cxC X N' scope cl fp S3 H3) [] (blk own fr σ) H3 { S3 with heap:=h₁,toks:=s2.toks+([]:List (Str×Value)).length }:=inv_blk ok I3 f3 flt cl1 cl2 _ hns₁ k34
 have st4:tn 0 h₁:=T.keep _ _ _ st3 fun b _ o e=>k34 b o e
 -- back in the def
 have back:∀{σ' H' s'},Inv (cxC X N' scope cl fp S3 H3) [] σ' H' s'->Inv X pins σ H' s'/\Own X pins S3.heap.objs.size H' s':=fun {σ' H' s'} I'=>by
  have J1:Inv X pins σ H' s':=I3.call' I'.os I'.base I'.hok I'.bare fun b hb=>⟨(f3 b hb).2.2.2.1,(f3 b hb).2.1,(f3 b hb).2.2.2.2⟩
  refine⟨J1,⟨let ⟨m,hn,_⟩:=I'.loc;⟨m,hn⟩,I'.free,Nat.ne_of_gt I3.lt,I3.sz,fun x c e z=>?_,fun p hp z=>?_⟩⟩
  ·obtain⟨v,q⟩:=I3.cell x c e
   exact absurd q.lt (by rw[z];exact Nat.lt_irrefl _)
  ·exact absurd (Heap.lt_size (I3.pin p hp).1) (by rw[z];exact Nat.lt_irrefl _)
 have stat:∀{H':Hp},(∀b∈fp,H' b=none)->∀b∈fp,FpOk (cxC X N' scope cl fp S3 H3) [] H' b:=fun hn b hb =>
  ⟨hn b hb,(I4.ok.exf b hb).1,I4.ok.exfs b hb,.inl hb,(I4.ok.exf b hb).2,fun p hp=>absurd (show p∈([]:List (Addr×Obj)) from hp) (by simp)⟩
 have loop:codeAny (model X.prog X.w) X.A (.compLoop (.ListComp elt [⟨tg,iter,ifs,0⟩] scope pos) 0 (.ref it) (.ref s2.heap.objs.size) (cxC X N' scope cl fp S3 H3).env) (RR (.ref s2.heap.objs.size) S3.heap.objs.size) { S3 with heap:=h₁,toks:=s2.toks+([]:List (Str×Value)).length }:=by
  refine comp_loop (fun n s'=>∃i ys σ' H',Inv (cxC X N' scope cl fp S3 H3) [] σ' H' s'/\tn i s'.heap/\(∀b∈fp,H' b=none)/\W i n ys σ' H') ?_ m0 ⟨0,[],_,H3,I4,st4,fun b hb=>(f3 b hb).1,w0⟩
  rintro n s5 ⟨i,ys,σ5,H5,I5,st5,fr5,w5⟩
  rcases turn i n ys σ5 H5 w5 with ⟨stop,qn⟩|⟨go,step⟩
  ·refine thn (T.done (cxC X N' scope cl fp S3 H3) rfl rfl rfl (hc _ _ I3) i [] s5 σ5 H5 (fun _ _=>False) I5 (stat fr5) st5 stop) fun r s6 ⟨hr,I6⟩=>?_
   subst hr
   obtain⟨J1,O⟩:=back I6
   exact fin _ _ s6 H5 J1 O qn
  ·refine thn (T.item (cxC X N' scope cl fp S3 H3) rfl rfl rfl (hc _ _ I3) i [] s5 σ5 H5 (fun _ _=>False) I5 (stat fr5) st5 go) fun r s6 ⟨u,hr,h6⟩=>?_
   subst hr
   refine thn h6 fun _ s7 ⟨x,H7,I7,r7,y7,st7,fr7⟩=>?_
   have I7':=I7.pinned (stat fr7) (T.obj _ _ st7)
   refine thn (hg fp S3 H3 _ s7 σ5 H7 x u _ I7' r7 (step x H7 y7)) fun _ s8 ⟨σ8,H8,I8,q8⟩=>?_
   refine thn (ht fp S3 H3 _ s8 σ8 H8 _ I8 q8) fun b s9 ⟨H9,I9,q9⟩=>?_
   have again:∀{σ' H' s' m' ys'},m'<n->Inv (cxC X N' scope cl fp S3 H3) ([]++pinsAt fp s7.heap) σ' H' s'->W (i+1) m' ys' σ' H'->∃m,m<n/\∃i ys σ' H',Inv (cxC X N' scope cl fp S3 H3) [] σ' H' s'/\tn i s'.heap/\(∀b∈fp,H' b=none)/\W i m ys σ' H':=fun {σ' H' s' m' ys'} hm I' w'=>by
    refine⟨m',hm,i+1,ys',σ',H',I'.unpinned,T.keep _ _ _ st7 fun b hb o e=>(I'.pin (b,o) (List.mem_append_right _ (List.mem_append_right _ (mem_pinsAt hb e)))).1,fun b hb=>?_,w'⟩
    obtain⟨o,e,d⟩:=T.obj _ _ st7 b hb
    exact(I'.pin (b,o) (List.mem_append_right _ (List.mem_append_right _ (mem_pinsAt hb e)))).2.1
   cases b with
   |false =>
    rw[if_neg Bool.false_ne_true]at q9 ⊢
    obtain⟨m',hm,w9⟩:=q9
    exact again hm I9 w9
   |true =>
    rw[if_pos rfl]at q9 ⊢
    refine thn (he fp S3 H3 _ s9 σ8 H9 _ I9 q9) fun v s10 ⟨y,H10,I10,r10,q10⟩=>?_
    obtain⟨hD,hz,m',hm,w10⟩:=q10
    refine thn (mt_append (X:=cxC X N' scope cl fp S3 H3) _ s10 σ8 H10 (.ref s2.heap.objs.size) [y] (.ref s2.heap.objs.size) [v] (fun _ H'=>W (i+1) m' (ys++[y]) σ8 H') I10 rfl (.cons r10 .nil) ⟨_,ys,y,rfl,rfl,hD,hz,w10⟩) fun v' s11 ⟨_,H11,I11,_,q11⟩=>?_
    exact again hm I11 q11
 subst hS3
 exact codeAny_compStart_list loop (T.self _ 0 _ _ _ st4 loop)
theorem pe_lc{wi:TI}{g:TG}{tc:TT}{te:TE}(hc:X.calm=true)(ok:LcOk X N' own fr scope)(hi:PI X tg iter wi)
  (hg:∀cl fp s3 H3,PG (cxC X N' scope cl fp s3 H3) tg g) (ht:∀cl fp s3 H3,PTs (cxC X N' scope cl fp s3 H3) ifs tc) (he:∀cl fp s3 H3,PE (cxC X N' scope cl fp s3 H3) elt te)
  (hs:∀x,foldedSetIterable iter X.env x=pure x:=by intro _;rfl):PE X (.ListComp elt [⟨tg,iter,ifs,0⟩] scope pos) (tLC own fr wi g tc te):=by
 intro pins s σ H Q I h
 obtain⟨cl,ecl,cl1,cl2⟩:=clos_of (env:=X.env) (scope:=scope) fun x hx=>I.ok.has x (ok.free x hx)
 rw[eval_ListComp]
 refine wpAny_comprehension_free (use:=none) rfl hs ecl ok.kind ok.names (thn (hi pins s σ H _ I h) fun v s1 h1=>thn h1 fun itv s2 h2=>?_)
 obtain⟨it,fp,tn,J,H2,rfl,I2,T,st2,f2,h2⟩:=h2
 refine comp_run (RR:=fun acc C=>compPost (model X.prog X.w) X.A X.xe none (EP X pins σ Q) acc C) (fun _ _ _=>hc) ok I2 T.g st2 f2 cl1 cl2 (hg cl) (ht cl) (he cl) h2 ?_
 intro D C s' H' J1 O q
 obtain⟨m,hn⟩:=O.ns
 exact⟨m,hn,fun h'' sb=>⟨.ref D,H',O.go J1 sb,rfl,q⟩⟩
end
end L2
end
section
namespace DL
open PySem L2 PyProof.Rows
structure KW where
 fr:PySem.W.Frag
 w:World
instance:CoeOut KW PySem.W.Frag:=⟨KW.fr⟩
abbrev kwOf(X:Cx):KW:=⟨X.K,X.w⟩
def hT(ks:List Int):Int:=reduceHash (Builtin.Tuple.tupleHashOf (ks.map hashInt))
def phiD(a:Addr)(ts:List (List Int×Addr×V))(ep:Nat):Heap->Prop:=fun h=>(a==sysModules)=false/\ts.length<=sizeLine/\(ts.map (·.1)).Nodup /\
 ∃xs:List (List Int×Addr×Value),Paired (fun(t:List Int×Addr×V) (x:List Int×Addr×Value)=>t.1=x.1/\t.2.1=x.2.1/\RelV t.2.2 x.2.2) ts xs /\
  ∃(o:Obj) (es:Array DictEntry),h.get? a=some o/\o.ExactDict/\o.data = .dict es ep/\es.toList=xs.map fun x=>⟨hT x.1,.ref x.2.1,x.2.2⟩
def HD(H:Hp)(a:Addr)(ts:List (List Int×Addr×V)):Prop:=∃ep,H a=some (.ext (phiD a ts ep))
def txK(ts:List (Str×V)):List (Key×V):=ts.map fun t=>(Sum.inr t.1,t.2)
mutual
def Is(K:KW)(H:Hp):PyData->V->Prop
 |.none,v=>v = .non
 |.bool b,v=>v = .bl b
 |.int i,v=>v = .int i
 |.str x,v=>v = .str x
 |.tuple ds,v=>∃a vs,v = .ref a/\SqT K H a vs/\IsL K H ds vs
 |.list ds,v=>∃a vs,v = .ref a/\H a=some (.lst vs)/\IsL K H ds vs
 |.dict kvs,v=>∃a ts,v = .ref a/\HD H a ts/\IsKV K H kvs ts
def IsL(K:KW)(H:Hp):List PyData->List V->Prop
 |[],vs=>vs=[]
 |d::ds,vs=>∃x xs,vs=x::xs/\Is K H d x/\IsL K H ds xs
def IsKV(K:KW)(H:Hp):List (PyData×PyData)->List (List Int×Addr×V)->Prop
 |[],ts=>ts=[]
 |(k,d)::r,ts=>∃t tr,ts=t::tr/\k = .tuple (t.1.map PyData.int)/\SqT K H t.2.1 (t.1.map V.int)/\Is K H d t.2.2/\IsKV K H r tr
end
theorem Same.tup{K:KW}{H H':Hp}{a:Addr}{xs:List V}(e:Same H H')(h:SqT K H a xs):SqT K H' a xs:=by
 rcases h with (h|⟨o,h⟩)|h
 ·exact .inl (.inl (e _ _ h))
 ·exact .inl (.inr ⟨o,e _ _ h⟩)
 ·exact .inr h
def TSm(H H':Hp):Prop:=∀b o,H b=some o->(∀xs,o≠.lst xs)->(∀φ,o≠.ext φ)->H' b=some o
theorem TSm.tup{K:KW}{H H':Hp}{a:Addr}{xs:List V}(e:TSm H H')(h:SqT K H a xs):SqT K H' a xs:=by
 rcases h with (h|⟨o,h⟩)|h
 ·exact .inl (.inl (e _ _ h (fun _ z=>by cases z) fun _ z=>by cases z))
 ·exact .inl (.inr ⟨o,e _ _ h (fun _ z=>by cases z) fun _ z=>by cases z⟩)
 ·exact .inr h
section
variable {K:KW}
mutual
theorem Is.mono{H H':Hp}(s:Same H H'):∀{d:PyData} {v:V},Is K H d v->Is K H' d v
 |.none,_,h=>h
 |.bool _,_,h=>h
 |.int _,_,h=>h
 |.str _,_,h=>h
 |.tuple _,_,⟨a,vs,e,h,l⟩=>⟨a,vs,e,Same.tup s h,IsL.mono s l⟩
 |.list _,_,⟨a,vs,e,h,l⟩=>⟨a,vs,e,s _ _ h,IsL.mono s l⟩
 |.dict _,_,⟨a,ts,e,⟨ep,h⟩,l⟩=>⟨a,ts,e,⟨ep,s _ _ h⟩,IsKV.mono s l⟩
theorem IsL.mono{H H':Hp}(s:Same H H'):∀{ds:List PyData} {vs:List V},IsL K H ds vs->IsL K H' ds vs
 |[],_,h=>h
 |_::_,_,⟨x,xs,e,h,l⟩=>⟨x,xs,e,Is.mono s h,IsL.mono s l⟩
theorem IsKV.mono{H H':Hp}(s:Same H H'):∀{kvs:List (PyData×PyData)} {ts:List (List Int×Addr×V)},IsKV K H kvs ts->IsKV K H' kvs ts
 |[],_,h=>h
 |(_,_)::_,_,⟨t,tr,e,ek,hk,h,l⟩=>⟨t,tr,e,ek,Same.tup s hk,Is.mono s h,IsKV.mono s l⟩
end
mutual
theorem Is.monoT{H H':Hp}(s:TSm H H'):∀{d:PyData} {v:V},fixD d=true->Is K H d v->Is K H' d v
 |.none,_,_,h=>h
 |.bool _,_,_,h=>h
 |.int _,_,_,h=>h
 |.str _,_,_,h=>h
 |.tuple _,_,f,⟨a,vs,e,h,l⟩=>⟨a,vs,e,s.tup h,IsL.monoT s f l⟩
 |.list _,_,f,_=>absurd f Bool.false_ne_true
 |.dict _,_,f,_=>absurd f Bool.false_ne_true
theorem IsL.monoT{H H':Hp}(s:TSm H H'):∀{ds:List PyData} {vs:List V},fixDs ds=true->IsL K H ds vs->IsL K H' ds vs
 |[],_,_,h=>h
 |d::ds,_,f,⟨x,xs,e,h,l⟩=>⟨x,xs,e,Is.monoT s (by rw[fixDs,Bool.and_eq_true]at f;exact f.1) h,IsL.monoT s (by rw[fixDs,Bool.and_eq_true]at f;exact f.2) l⟩
end
theorem IsL.length{H:Hp}:∀{ds:List PyData} {vs:List V},IsL K H ds vs->vs.length=ds.length
 |[],_,h=>by rw[show _=[] from h];rfl
 |_::_,_,⟨x,xs,e,_,l⟩=>by rw[e,List.length_cons,List.length_cons,IsL.length l]
theorem IsL.get{H:Hp}:∀{ds:List PyData} {vs:List V} {i:Nat} {d:PyData},IsL K H ds vs->ds[i]?=some d->∃v,vs[i]?=some v/\Is K H d v
 |[],_,_,_,_,e=>by simp at e
 |d::ds,_,0,_,⟨x,xs,e,h,l⟩,q=>by
  subst e
  simp at q
  subst q
  exact⟨x,rfl,h⟩
 |d::ds,_,i+1,_,⟨x,xs,e,h,l⟩,q=>by
  subst e
  obtain⟨v,a,b⟩:=IsL.get (i:=i) l (by simpa using q)
  exact⟨v,by simpa using a,b⟩
end
section
variable {X:Cx} {pins:List (Addr×Obj)} {σ:L2.St} {H:Hp} {s:Shared}
mutual
theorem reads(I:Inv X pins σ H s):∀{d:PyData} {v:V} {u:Value},Is (kwOf X) H d v->RelV v u->∃as,Reads s.heap u d as
 |.none,_,_,h,r=>by subst h;cases r;exact⟨_,.none⟩
 |.bool _,_,_,h,r=>by subst h;cases r;exact⟨_,.bool _⟩
 |.int _,_,_,h,r=>by subst h;obtain⟨t,rfl⟩:=r;exact⟨_,.int _ _⟩
 |.str _,_,_,h,r=>by subst h;obtain⟨t,rfl⟩:=r;exact⟨_,.str _ _⟩
 |.tuple ds,_,_,⟨a,vs,e,h,l⟩,r=>by
  subst e;cases r
  obtain⟨its,rr,⟨o,e,c,n,q⟩,_⟩:=I.tuple h
  obtain⟨as,z⟩:=readsL I l rr
  exact⟨_,.tuple e c q z⟩
 |.list ds,_,_,⟨a,vs,e,h,l⟩,r=>by
  subst e;cases r
  obtain⟨_,its,n,rr,e⟩:=I.hok a _ h
  obtain⟨as,z⟩:=readsL I l rr
  exact⟨_,.list e rfl rfl z⟩
 |.dict kvs,_,_,⟨a,ts,e,⟨ep,h⟩,l⟩,r=>by
  subst e;cases r
  obtain⟨⟨_,_,_,xs,pr,o,es,ho,he,hd,hes⟩,_,_⟩:=(show ObjOk X.prog X.w H s.heap a (.ext (phiD a ts ep)) from I.hok a _ h)
  obtain⟨as,bs,z1,z2⟩:=readsK I l pr
  refine⟨_,.dict ho he.1 hd (as:=as) (bs:=bs) ?_ ?_⟩
  ·rw[hes,List.map_map];exact z1
  ·rw[hes,List.map_map];exact z2
theorem readsL(I:Inv X pins σ H s):∀{ds:List PyData} {vs:List V} {us:List Value},IsL (kwOf X) H ds vs->Vals vs us->∃as,ReadsAll s.heap us ds as
 |[],_,_,h,r=>by subst h;cases r;exact⟨_,.nil⟩
 |d::ds,_,_,⟨x,xs,e,h,l⟩,r=>by
  subst e
  cases r with
  |cons r1 r2 =>
   obtain⟨as,z⟩:=reads I h r1
   obtain⟨bs,y⟩:=readsL I l r2
   exact⟨_,.cons z y⟩
theorem readsK(I:Inv X pins σ H s):∀{kvs:List (PyData×PyData)} {ts:List (List Int×Addr×V)} {xs:List (List Int×Addr×Value)},IsKV (kwOf X) H kvs ts->Paired (fun(t:List Int×Addr×V) (x:List Int×Addr×Value)=>t.1=x.1/\t.2.1=x.2.1/\RelV t.2.2 x.2.2) ts xs ->
  ∃as bs,ReadsAll s.heap (xs.map fun x=>Value.ref x.2.1) (kvs.map (·.1)) as/\ReadsAll s.heap (xs.map fun x=>x.2.2) (kvs.map (·.2)) bs
 |[],_,_,h,r=>by subst h;cases r;exact⟨_,_,.nil,.nil⟩
 |(k,d)::kvs,_,_,⟨t,tr,e,ek,hk,h,l⟩,r=>by
  subst e
  cases r with
  |cons r1 r2 =>
   obtain⟨q1,q2,q3⟩:=r1
   obtain⟨as,bs,z1,z2⟩:=readsK I l r2
   obtain⟨cs,z3⟩:=reads I h q3
   obtain⟨its,rr,⟨o,e,c,n,q⟩,_⟩:=I.tuple hk
   subst ek
   have hz:∃ds,ReadsAll s.heap its.toArray.toList (t.1.map PyData.int) ds:=by
    clear hk e q
    generalize t.1=ks at rr
    induction ks generalizing its with
    |nil=>cases rr;exact⟨_,.nil⟩
    |cons k ks ih =>
     cases rr with
     |cons a b =>
      obtain⟨ds,y⟩:=ih _ b
      obtain⟨tk,rfl⟩:=a
      exact⟨_,.cons (.int _ _) y⟩
   obtain⟨ds,y⟩:=hz
   rw[q2]at e
   exact⟨_,_,.cons (.tuple e c q y) z1,.cons z3 z2⟩
end
def rEqK(K:KW):R2:=fun x y H Q=>∃d e,Is K H d x/\Is K H e y/\okD d=true/\okD e=true/\Q (.bl (PyData.eqv d e)) H
def rNeK(K:KW):R2:=fun x y H Q=>∃d e,Is K H d x/\Is K H e y/\okD d=true/\okD e=true/\Q (.bl (!PyData.eqv d e)) H
theorem op_eqK(hu:X.A.units+64<cLine):OpR X (compareOp .Eq) (rEqK (kwOf X)):=by
 intro pins s σ H x y v u Q I rx ry h
 obtain⟨d,e,hd,he,od,oe,q⟩:=h
 obtain⟨as,ra⟩:=reads I hd rx
 obtain⟨bs,rb⟩:=reads I he ry
 exact eq_dataH ra rb od oe hu ⟨.bl _,H,I,rfl,q⟩
theorem op_neK(hu:X.A.units+64<cLine):OpR X (compareOp .NotEq) (rNeK (kwOf X)):=by
 intro pins s σ H x y v u Q I rx ry h
 obtain⟨d,e,hd,he,od,oe,q⟩:=h
 obtain⟨as,ra⟩:=reads I hd rx
 obtain⟨bs,rb⟩:=reads I he ry
 exact ne_dataH ra rb od oe hu ⟨.bl _,H,I,rfl,q⟩
def rInK(K:KW)(neg:Bool):R2:=fun x y H Q=>∃d es,Is K H d x/\(Is K H (.list es) y\/Is K H (.tuple es) y)/\okD d=true/\okD (.list es)=true/\Q (.bl (if neg then !(es.any fun y=>PyData.eqv y d) else es.any fun y=>PyData.eqv y d)) H
theorem op_inK(hu:X.A.units+65<cLine):OpR X (compareOp .In) (rInK (kwOf X) false):=by
 intro pins s σ H x y v u Q I rx ry h
 obtain⟨d,es,hd,he,od,oe,q⟩:=h
 obtain⟨as,ra⟩:=reads I hd rx
 obtain⟨c1,c2⟩:=shaped_list oe
 have hm:X.A.units+1+min (PyData.depthAll es) d.depth<cLine:=by omega
 rcases he with he|he
 ·obtain⟨bs,rb⟩:=reads I he ry
  exact SeqAt.in_list_reads rb ra c1 (shaped_can od) hm ⟨.bl _,H,I,rfl,q⟩
 ·obtain⟨bs,rb⟩:=reads I he ry
  exact SeqAt.in_tuple_reads rb ra c1 (shaped_can od) hm ⟨.bl _,H,I,rfl,q⟩
theorem op_notInK(hu:X.A.units+65<cLine):OpR X (compareOp .NotIn) (rInK (kwOf X) true):=by
 intro pins s σ H x y v u Q I rx ry h
 obtain⟨d,es,hd,he,od,oe,q⟩:=h
 obtain⟨as,ra⟩:=reads I hd rx
 obtain⟨c1,c2⟩:=shaped_list oe
 have hm:X.A.units+1+min (PyData.depthAll es) d.depth<cLine:=by omega
 rcases he with he|he
 ·obtain⟨bs,rb⟩:=reads I he ry
  exact SeqAt.notIn_list_reads rb ra c1 (shaped_can od) hm ⟨.bl _,H,I,rfl,q⟩
 ·obtain⟨bs,rb⟩:=reads I he ry
  exact SeqAt.notIn_tuple_reads rb ra c1 (shaped_can od) hm ⟨.bl _,H,I,rfl,q⟩
end
end DL
end
section
namespace DL
open PySem L2
inductive L where
 |d (x:PyData)
 |m (xs:List PyData)
 |c (xs:List PyData)
 |k (kvs:List (List Int×PyData))
 |g (x:PyData)
abbrev DS:=List (Option L)
inductive Ow where
 |l (xs:List PyData)
 |t (kvs:List (List Int×PyData))
def Ow.L:Ow->L
 |.l xs=>.m xs
 |.t kvs=>.k kvs
def dctP(kvs:List (List Int×PyData)):List (PyData×PyData):=kvs.map fun p=>(.tuple (p.1.map PyData.int),p.2)
def Ow.D:Ow->PyData
 |.l xs=>.list xs
 |.t kvs=>.dict (dctP kvs)
def Ow.fl:Ow->Bool
 |.l _=>true
 |.t _=>false
theorem Ow.not_d{o:Ow}{x:PyData}:o.L≠.d x:=by cases o<;>exact fun z=>nomatch z
theorem Ow.not_g{o:Ow}{x:PyData}:o.L≠.g x:=by cases o<;>exact fun z=>nomatch z
theorem Ow.not_c{o:Ow}{x:List PyData}:o.L≠.c x:=by cases o<;>exact fun z=>nomatch z
theorem Ow.inj{o p:Ow}(h:o.L=p.L):o=p:=by
 cases o<;>cases p<;>cases h<;>rfl
def IsO(K:KW)(H:Hp):Ow->Addr->HO->Prop
 |.l xs,_,h=>∃vs,h = .lst vs/\IsL K H xs vs
 |.t kvs,a,h=>∃ts,(∃ep,h = .ext (phiD a ts ep))/\IsKV K H (dctP kvs) ts
theorem IsO.mono{K:KW}{H H':Hp}(s:Same H H'):∀{o:Ow} {a:Addr} {h:HO},IsO K H o a h->IsO K H' o a h
 |.l _,_,_,⟨vs,e,l⟩=>⟨vs,e,l.mono s⟩
 |.t _,_,_,⟨ts,e,l⟩=>⟨ts,e,l.mono s⟩
theorem IsO.is{K:KW}{H:Hp}:∀{o:Ow} {a:Addr} {h:HO},IsO K H o a h->H a=some h->Is K H o.D (.ref a)
 |.l _,a,_,⟨vs,e,l⟩,z=>⟨a,vs,rfl,e▸z,l⟩
 |.t _,a,_,⟨ts,⟨ep,e⟩,l⟩,z=>⟨a,ts,rfl,⟨ep,e▸z⟩,l⟩
open Classical in
noncomputable def hid(S:Addr->Prop)(H:Hp):Hp:=fun a=>if S a then none else H a
theorem hid_iff{S:Addr->Prop}{H:Hp}{b:Addr}{o:HO}:hid S H b=some o↔¬S b/\H b=some o:=by
 unfold hid
 by_cases h:S b
 ·rw[if_pos h];exact⟨fun z=>(nomatch z),fun z=>absurd h z.1⟩
 ·rw[if_neg h];exact⟨fun z=>⟨h,z⟩,fun z=>z.2⟩
def Keep(S:Addr->Prop)(H:Hp)(S':Addr->Prop)(H':Hp):Prop:=∀b o,¬S b->H b=some o->¬S' b/\H' b=some o
def Chg(M:Addr->Prop)(H H':Hp):Prop:=∀b o,¬M b->H b=some o->H' b=some o
theorem Keep.same{S S':Addr->Prop}{H H':Hp}(k:Keep S H S' H'):Same (hid S H) (hid S' H'):=fun b o e=>hid_iff.mpr (k b o (hid_iff.mp e).1 (hid_iff.mp e).2)
theorem Keep.refl{S:Addr->Prop}{H:Hp}:Keep S H S H:=fun _ _ h e=>⟨h,e⟩
theorem Keep.trans{S S1 S2:Addr->Prop}{H H1 H2:Hp}(a:Keep S H S1 H1)(b:Keep S1 H1 S2 H2):Keep S H S2 H2:=fun c o h e=>b c o (a c o h e).1 (a c o h e).2
theorem Chg.refl{M:Addr->Prop}{H:Hp}:Chg M H H:=fun _ _ _ e=>e
theorem Chg.trans{M:Addr->Prop}{H H1 H2:Hp}(a:Chg M H H1)(b:Chg M H1 H2):Chg M H H2:=fun c o h e=>b c o h (a c o h e)
theorem Chg.of{M:Addr->Prop}{H H':Hp}(s:Same H H'):Chg M H H':=fun b o _ e=>s b o e
theorem Chg.keep{S M:Addr->Prop}{H H':Hp}(c:Chg M H H')(sub:∀a,M a->S a):Keep S H S H':=fun b o h e=>⟨h,c b o (fun z=>h (sub b z)) e⟩
theorem Same.keep{S:Addr->Prop}{H H':Hp}(s:Same H H'):Keep S H S H':=fun b o h e=>⟨h,s b o e⟩
theorem same_hid{S:Addr->Prop}{H:Hp}:Same (hid S H) H:=fun b o e=>(hid_iff.mp e).2
theorem HD.unhid{S:Addr->Prop}{H:Hp}{a:Addr}{ts:List (List Int×Addr×V)}(h:HD (hid S H) a ts):HD H a ts:=let ⟨ep,e⟩:=h;⟨ep,(hid_iff.mp e).2⟩
theorem hid_less{S S':Addr->Prop}{H:Hp}(h:∀a,S' a->S a):Same (hid S H) (hid S' H):=Keep.same fun b o n e=>⟨fun z=>n (h b z),e⟩
theorem tsS{H H':Hp}(s:Same H H'):TSm H H':=fun b o e _ _=>s b o e
theorem TSm.refl{H:Hp}:TSm H H:=fun _ _ e _ _=>e
mutual
def Dp(K:KW)(S:Addr->Prop)(H:Hp):PyData->V->List Addr->Prop
 |.none,v,F=>v = .non/\F=[]
 |.bool b,v,F=>v = .bl b/\F=[]
 |.int i,v,F=>v = .int i/\F=[]
 |.str x,v,F=>v = .str x/\F=[]
 |.tuple ds,v,F=>∃a vs,v = .ref a/\SqT K (hid S H) a vs/\DpL K S H ds vs F
 |.list ds,v,F=>∃a vs G,v = .ref a/\F=a::G/\H a=some (.lst vs)/\DpL K S H ds vs G
 |.dict _,_,_=>False
def DpL(K:KW)(S:Addr->Prop)(H:Hp):List PyData->List V->List Addr->Prop
 |[],vs,F=>vs=[]/\F=[]
 |d::ds,vs,F=>∃x xs F1 F2,vs=x::xs/\F=F1++F2/\Dp K S H d x F1/\DpL K S H ds xs F2
end
section
variable {K:KW} {S S':Addr->Prop} {H H':Hp}
mutual
theorem Dp.mono(s:TSm (hid S H) (hid S' H')):∀{d:PyData} {v:V} {F:List Addr},(∀a∈F,H' a=H a)->Dp K S H d v F->Dp K S' H' d v F
 |.none,_,_,_,h=>h
 |.bool _,_,_,_,h=>h
 |.int _,_,_,_,h=>h
 |.str _,_,_,_,h=>h
 |.tuple _,_,_,f,⟨a,vs,e,h,l⟩=>⟨a,vs,e,s.tup h,DpL.mono s f l⟩
 |.list _,_,_,f,⟨a,vs,G,e,e2,h,l⟩=>⟨a,vs,G,e,e2,(f a (by rw[e2];exact List.mem_cons_self ..)).trans h,DpL.mono s (fun b hb=>f b (by rw[e2];exact List.mem_cons_of_mem _ hb)) l⟩
theorem DpL.mono(s:TSm (hid S H) (hid S' H')):∀{ds:List PyData} {vs:List V} {F:List Addr},(∀a∈F,H' a=H a)->DpL K S H ds vs F->DpL K S' H' ds vs F
 |[],_,_,_,h=>h
 |_::_,_,_,f,⟨x,xs,F1,F2,e,e2,h,l⟩=>⟨x,xs,F1,F2,e,e2,Dp.mono s (fun b hb=>f b (by rw[e2];exact List.mem_append_left _ hb)) h,DpL.mono s (fun b hb=>f b (by rw[e2];exact List.mem_append_right _ hb)) l⟩
end
end
def IsX(K:KW)(H:Hp):List (PyData×PyData)->List (Str×V)->Prop
 |[],ts=>ts=[]
 |(k,d)::r,ts=>∃t tr,ts=t::tr/\k = .str t.1/\fixD d=true/\Is K H d t.2/\IsX K H r tr
theorem IsX.mono{K:KW}{H H':Hp}(s:TSm H H'):∀{kvs:List (PyData×PyData)} {ts:List (Str×V)},IsX K H kvs ts->IsX K H' kvs ts
 |[],_,h=>h
 |(_,_)::_,_,⟨t,tr,e,ek,f,h,l⟩=>⟨t,tr,e,ek,f,Is.monoT s f h,IsX.mono s l⟩
def DpT(K:KW)(S:Addr->Prop)(H:Hp)(d:PyData)(v:V)(F:List Addr):Prop:=match d with
 |.dict kvs=>∃a ts,v = .ref a/\F=[a]/\H a=some (.dK (txK ts))/\IsX K (hid S H) kvs ts
 |d=>Dp K S H d v F
theorem DpT.mono{K:KW}{S S':Addr->Prop}{H H':Hp}{d:PyData}{v:V}{F:List Addr}(s:TSm (hid S H) (hid S' H'))(f:∀a∈F,H' a=H a)(h:DpT K S H d v F):DpT K S' H' d v F:=by
 cases d with
 |dict kvs =>
  obtain⟨a,ts,e,e2,h,l⟩:=(show ∃a ts,v = .ref a/\F=[a]/\H a=some (.dK (txK ts))/\IsX K (hid S H) kvs ts from h)
  exact⟨a,ts,e,e2,(f a (by rw[e2];exact List.mem_singleton_self a)).trans h,l.mono s⟩
 |_=>exact Dp.mono s f h
def lmA:Addr:=96
def lmPos:Pos:=⟨85,75,85,118⟩
def lmQ:Str:="_law_right.<locals>.<lambda>"
def lmPhi(O:Addr->Obj->Prop)(h:Heap):Prop:=∃ps,h.get? lmA=some (PySem.W.tabObj ps)/\(ps=#[]\/∃c o vs t,ps=#[PySem.rawInt lmPos.line,PySem.rawInt lmPos.col,.ref c]/\O c o/\o.data = .fields vs/\vs[1]?=some (.str lmQ t))
def PtOk(G:Hp):Prop:=G lmA=some (.exo lmPhi)
theorem PtOk.to{G G':Hp}(p:PtOk G)(t:TSm G G'):PtOk G':=t _ _ p (fun _ z=>nomatch z) fun _ z=>nomatch z
def GR(K:KW)(S M:Addr->Prop)(τ:DS)(σ:St)(H:Hp):Prop:=PtOk (hid S H)/\∃φ:Nat->List Addr,∀(i:Nat) (d:PyData),τ[i]?=some (some (.g d)) ->
 (∃v,σ[i]?=some (some v)/\DpT K S H d v (φ i))/\(φ i).Nodup/\(∀a∈φ i,M a)/\(∀(j:Nat) (o:Ow) (a:Addr),τ[j]?=some (some o.L)->σ[j]?=some (some (.ref a))->a∉φ i) /\
  ∀(j:Nat) (d':PyData),j≠i->τ[j]?=some (some (.g d'))->∀a∈φ i,a∉φ j
theorem GR.nil{K:KW}{S M:Addr->Prop}{τ:DS}{σ:St}{H:Hp}(p:PtOk (hid S H))(h:∀(i:Nat) (d:PyData),τ[i]?≠some (some (.g d))):GR K S M τ σ H:=⟨p,fun _=>[],fun i d e=>absurd e (h i d)⟩
theorem GR.to{K:KW}{S M S' M':Addr->Prop}{τ τ':DS}{σ σ':St}{H H':Hp}(g:GR K S M τ σ H)(ht:∀(i:Nat) (d:PyData),τ'[i]?=some (some (.g d))->τ[i]?=some (some (.g d))/\σ'[i]?=σ[i]?)
  (ho:∀(j:Nat) (o:Ow) (a:Addr),τ'[j]?=some (some o.L)->σ'[j]?=some (some (.ref a))->(∃o':Ow,τ[j]?=some (some o'.L)/\σ[j]?=some (some (.ref a)))\/¬M a)
  (hm:∀a,M a->(∀(j:Nat) (o:Ow),τ[j]?=some (some o.L)->σ[j]?≠some (some (.ref a)))->M' a/\H' a=H a) (ts:TSm (hid S H) (hid S' H')):GR K S' M' τ' σ' H':=by
 obtain⟨p,φ,g⟩:=g
 refine⟨p.to ts,φ,fun i d e=>?_⟩
 obtain⟨e1,e2⟩:=ht i d e
 obtain⟨⟨v,g1,g2⟩,g3,g4,g5,g6⟩:=g i d e1
 have hm':∀a∈φ i,M' a/\H' a=H a:=fun a ha=>hm a (g4 a ha) fun j o q q2=>g5 j o a q q2 ha
 refine⟨⟨v,e2.trans g1,g2.mono ts fun a ha=>(hm' a ha).2⟩,g3,fun a ha=>(hm' a ha).1,fun j o a q1 q2 ha=>?_,fun j d' hj q=>g6 j d' hj (ht j d' q).1⟩
 rcases ho j o a q1 q2 with ⟨o',z1,z2⟩|z
 ·exact g5 j o' a z1 z2 ha
 ·exact z (g4 a ha)
structure R(K:KW)(S M:Addr->Prop)(τ:DS)(σ:St)(H:Hp):Prop where
 len:σ.length=τ.length
 dat:∀(i:Nat) (x:PyData),τ[i]?=some (some (.d x))->∃v,σ[i]?=some (some v)/\Is K (hid S H) x v
 mt:∀(i:Nat) (o:Ow),τ[i]?=some (some o.L)->∃(a:Addr) (h:HO),σ[i]?=some (some (.ref a))/\M a/\H a=some h/\IsO K (hid S H) o a h
 cst:∀(i:Nat) (xs:List PyData),τ[i]?=some (some (.c xs))->∃(a:Addr) (vs:List V),σ[i]?=some (some (.ref a))/\SqL K (hid S H) a vs/\IsL K (hid S H) xs vs
 inj:∀(i j:Nat) (o p:Ow) (a:Addr),τ[i]?=some (some o.L)->τ[j]?=some (some p.L)->σ[i]?=some (some (.ref a))->σ[j]?=some (some (.ref a))->i=j
 sub:∀a,M a->S a
 ex:∀a,S a->∃o,H a=some o
 gr:GR K S M τ σ H
def Res(K:KW)(fr:Bool)(S:Addr->Prop)(H H':Hp)(d:PyData)(v:V):Prop:=match fr with
 |false=>Is K (hid S H') d v
 |true=>∃(o:Ow) (a:Addr) (h:HO),d=o.D/\v = .ref a/\H a=none/\H' a=some h/\IsO K (hid (fun b=>S b\/b=a) H') o a h
section
variable {K:KW} {S M:Addr->Prop} {τ:DS} {σ:St} {H H':Hp}
theorem R.fresh(r:R K S M τ σ H){a:Addr}(h:H a=none):¬S a:=fun z=>by
 obtain⟨o,e⟩:=r.ex a z
 rw[h]at e;cases e
theorem R.ml(r:R K S M τ σ H)(i:Nat)(xs:List PyData)(e:τ[i]?=some (some (.m xs))):∃(a:Addr) (vs:List V),σ[i]?=some (some (.ref a))/\M a/\H a=some (.lst vs)/\IsL K (hid S H) xs vs:=by
 obtain⟨a,h,h1,h2,h3,vs,rfl,l⟩:=r.mt i (.l xs) e
 exact⟨a,vs,h1,h2,h3,l⟩
theorem R.same(r:R K S M τ σ H)(s:Same H H'):R K S M τ σ H' where
 len:=r.len
 dat:=fun i x e=>let ⟨v,a,b⟩:=r.dat i x e;⟨v,a,b.mono (Same.keep s).same⟩
 mt:=fun i o e=>let ⟨a,h,h1,h2,h3,h4⟩:=r.mt i o e;⟨a,h,h1,h2,s _ _ h3,h4.mono (Same.keep s).same⟩
 cst:=fun i xs e=>let ⟨a,vs,h1,h2,h3⟩:=r.cst i xs e;⟨a,vs,h1,(Same.keep s).same.seq h2,h3.mono (Same.keep s).same⟩
 inj:=r.inj
 sub:=r.sub
 ex:=fun a h=>let ⟨o,e⟩:=r.ex a h;⟨o,s _ _ e⟩
 gr:=r.gr.to (fun i d e=>⟨e,rfl⟩) (fun j o a e q=>.inl ⟨o,e,q⟩) (fun a h _=>⟨h,by obtain⟨o,e⟩:=r.ex a (r.sub a h);rw[e];exact s _ _ e⟩) (tsS (Same.keep s).same)
theorem Res.is{fr:Bool}{d:PyData}{v:V}(h:Res K fr S H H' d v)(f:∀a,H a=none->¬S a):Is K (hid S H') d v:=by
 cases fr with
 |false=>exact h
 |true =>
  obtain⟨o,a,ho,rfl,rfl,h1,h2,h3⟩:=h
  exact IsO.is (h3.mono (hid_less fun b z=>.inl z)) (hid_iff.mpr ⟨f a h1,h2⟩)
theorem Res.imp{fr:Bool}{d:PyData}{v:V}(h:Res K fr S H H' d v)(f:∀a,H a=none->¬S a)(fr':Bool)(hf:fr'=true->fr=true):Res K fr' S H H' d v:=by
 cases fr' with
 |false=>exact h.is f
 |true=>rw[hf rfl]at h;exact h
end
abbrev DX:=DS->Option (PyData×DS)
abbrev DT:=DS->Option (Bool×DS)
inductive Ar where
 |d (x:PyData)
 |s (i:Nat)
abbrev DA:=DS->Option (List Ar×DS)
inductive Out where
 |nx (τ:DS)
 |bk (τ:DS)
 |ct (τ:DS)
 |rt (d:PyData) (τ:DS)
abbrev DB:=DS->Option Out
def Like(τ τ':DS):Prop:=τ'.length=τ.length/\∀j:Nat,((∀x,τ'[j]?=some (some (.d x))↔τ[j]?=some (some (.d x)))/\∀x,τ'[j]?=some (some (.c x))↔τ[j]?=some (some (.c x)))/\∀b:Bool,(∃o:Ow,o.fl=b/\τ'[j]?=some (some o.L))↔∃o:Ow,o.fl=b/\τ[j]?=some (some o.L)
theorem Like.refl{τ:DS}:Like τ τ:=⟨rfl,fun j=>⟨⟨fun x=>Iff.rfl,fun x=>Iff.rfl⟩,fun b=>Iff.rfl⟩⟩
theorem Like.trans{τ τ1 τ2:DS}(a:Like τ τ1)(b:Like τ1 τ2):Like τ τ2:=⟨b.1.trans a.1,fun j=>⟨⟨fun x=>((b.2 j).1.1 x).trans ((a.2 j).1.1 x),fun x=>((b.2 j).1.2 x).trans ((a.2 j).1.2 x)⟩,fun c=>((b.2 j).2 c).trans ((a.2 j).2 c)⟩⟩
theorem Like.own{τ τ':DS}(a:Like τ τ')(j:Nat):(∃o:Ow,τ'[j]?=some (some o.L))↔∃o:Ow,τ[j]?=some (some o.L) :=
 ⟨fun⟨o,h⟩=>let ⟨p,_,q⟩:=((a.2 j).2 o.fl).mp ⟨o,rfl,h⟩;⟨p,q⟩,fun⟨o,h⟩=>let ⟨p,_,q⟩:=((a.2 j).2 o.fl).mpr ⟨o,rfl,h⟩;⟨p,q⟩⟩
theorem Like.ml{τ τ':DS}(a:Like τ τ'){j:Nat}{xs:List PyData}(h:τ'[j]?=some (some (.m xs))):∃ys,τ[j]?=some (some (.m ys)):=by
 obtain⟨o,e,h⟩:=((a.2 j).2 true).mp ⟨.l xs,rfl,h⟩
 cases o with
 |l ys=>exact⟨ys,h⟩
 |t ys=>cases e
theorem Like.kl{τ τ':DS}(a:Like τ τ'){j:Nat}{xs:List (List Int×PyData)}(h:τ'[j]?=some (some (.k xs))):∃ys,τ[j]?=some (some (.k ys)):=by
 obtain⟨o,e,h⟩:=((a.2 j).2 false).mp ⟨.t xs,rfl,h⟩
 cases o with
 |l ys=>cases e
 |t ys=>exact⟨ys,h⟩
structure E K (t:TE) (fr:Bool) (f:DX):Prop where
 like:∀τ d τ',f τ=some (d,τ')->Like τ τ'
 run:∀S M τ σ H (Q:VK) d τ',R K S M τ σ H->f τ=some (d,τ')->(∀v H',R K S M τ' σ H'->Chg M H H'->Res K fr S H H' d v->Q v H')->t σ H Q
structure T K (t:TT) (f:DT):Prop where
 like:∀τ b τ',f τ=some (b,τ')->Like τ τ'
 run:∀S M τ σ H (Q:Bool->Hp->Prop) b τ',R K S M τ σ H->f τ=some (b,τ')->(∀H',R K S M τ' σ H'->Chg M H H'->Q b H')->t σ H Q
def ArIs(K:KW)(S:Addr->Prop)(σ:St)(H:Hp):List Ar->List V->Prop
 |[],vs=>vs=[]
 |.d x::rs,vs=>∃v us,vs=v::us/\Is K (hid S H) x v/\ArIs K S σ H rs us
 |.s i::rs,vs=>∃v us,vs=v::us/\σ[i]?=some (some v)/\ArIs K S σ H rs us
structure A K (t:TA) (f:DA):Prop where
 like:∀τ rs τ',f τ=some (rs,τ')->Like τ τ'
 run:∀S M τ σ H (Q:List V->Hp->Prop) rs τ',R K S M τ σ H->f τ=some (rs,τ')->(∀vs H',R K S M τ' σ H'->Chg M H H'->ArIs K S σ H' rs vs->Q vs H')->t σ H Q
structure Frm where
 S:Addr->Prop
 M:Addr->Prop
 H:Hp
 ar:List (Option V)
structure RF(K:KW)(F:Frm)(S M:Addr->Prop)(τ:DS)(σ:St)(H:Hp):Prop where
 r:R K S M τ σ H
 sS:∀a,F.S a->S a
 old:∀b o,F.H b=some o->¬F.M b->H b=some o
 new:∀a,M a->F.M a\/F.H a=none
 fm:∀a,F.M a->M a
 fs:∀a,F.S a->∃o,F.H a=some o
 fsub:∀a,F.M a->F.S a
 snew:∀a,S a->F.S a\/F.H a=none
 par:∀(i:Nat) (v:V),F.ar[i]?=some (some v)->σ[i]?=some (some v)
 pm:∀(i:Nat) (v:V),F.ar[i]?=some (some v)->∃o:Ow,τ[i]?=some (some o.L)
 fma:∀a,F.M a->∃i:Nat,F.ar[i]?=some (some (.ref a))
def Gl(K:KW)(F:Frm)(fr:Bool)(S:Addr->Prop)(H:Hp)(D:Ends):Out->Prop
 |.nx τ'=>∀S' M' σ' H',RF K F S' M' τ' σ' H'->Keep S H S' H'->D.nx σ' H'
 |.bk τ'=>∀S' M' σ' H',RF K F S' M' τ' σ' H'->Keep S H S' H'->D.bk σ' H'
 |.ct τ'=>∀S' M' σ' H',RF K F S' M' τ' σ' H'->Keep S H S' H'->D.ct σ' H'
 |.rt d τ'=>∀S' M' σ' H' v,RF K F S' M' τ' σ' H'->Res K fr F.S F.H H' d v->D.rt v H'
def B(K:KW)(np:Nat)(t:TS)(fr:Bool)(f:DB):Prop:=∀(F:Frm) S M τ σ H (D:Ends) out,F.ar.length<=np->RF K F S M τ σ H->f τ=some out->Gl K F fr S H D out->t D σ H
end DL
end
section
namespace DL
open PySem L2
variable {K:KW}
section
variable {S M:Addr->Prop} {τ τ':DS} {σ:St} {H H' H2:Hp}
theorem R.none(r:R K S M τ σ H')(c:Chg M H H'){a:Addr}(h:H' a=Option.none):H a=Option.none:=by
 cases e:H a with
 |none=>rfl
 |some o =>
  exfalso
  by_cases hm:M a
  ·obtain⟨o',e'⟩:=r.ex a (r.sub a hm)
   rw[h]at e';cases e'
  ·have:=c a o hm e
   rw[h]at this;cases this
theorem Res.back{fr:Bool}{d:PyData}{v:V}(h:Res K fr S H' H2 d v)(r:R K S M τ σ H')(c:Chg M H H'):Res K fr S H H2 d v:=by
 cases fr with
 |false=>exact h
 |true =>
  obtain⟨xs,a,vs,e1,e2,h1,h2,h3⟩:=h
  exact⟨xs,a,vs,e1,e2,r.none c h1,h2,h3⟩
theorem R.isr(r:R K S M τ σ H){fr:Bool}{d:PyData}{v:V}(h:Res K fr S H H' d v):Is K (hid S H') d v:=h.is fun _ z=>r.fresh z
end
theorem E.weak{t:TE}{fr:Bool}{f:DX}(h:E K t fr f):E K t false f:=⟨h.like,fun S M τ σ H Q d τ' r e q=>h.run S M τ σ H Q d τ' r e fun v H' r' c res=>q v H' r' c (r.isr res)⟩
def dVar(i:Nat)(τ:DS):Option (PyData×DS):=match τ[i]? with
 |some (some (.d x))=>some (x,τ)
 |_=>none
theorem e_var{i:Nat}:E K (tVar i) false (dVar i):=by
 refine⟨fun τ d τ' e=>?_,?_⟩
 ·unfold dVar at e;split at e
  ·cases e;exact .refl
  ·cases e
 intro S M τ σ H Q d τ' r e q
 unfold dVar at e
 split at e
 ·rename_i x hx
  cases e
  obtain⟨v,h1,h2⟩:=r.dat i _ hx
  exact⟨v,h1,q v H r .refl h2⟩
 ·cases e
def dC(d:PyData)(τ:DS):Option (PyData×DS):=some (d,τ)
theorem e_c{d:PyData}{v:V}(h:∀H,Is K H d v):E K (tC v) false (dC d):=by
 refine⟨fun τ d τ' e=>?_,?_⟩
 ·cases e;exact .refl
 intro S M τ σ H Q d' τ' r e q
 cases e
 exact q v H r .refl (h _)
theorem e_int{i:Int}:E K (tC (.int i)) false (dC (.int i)):=e_c fun _=>rfl
theorem e_bl{b:Bool}:E K (tC (.bl b)) false (dC (.bool b)):=e_c fun _=>rfl
theorem e_non:E K (tC .non) false (dC .none):=e_c fun _=>rfl
def OR(K:KW)(fr:Bool)(r:R2)(F:PyData->PyData->Option PyData):Prop:=∀(S:Addr->Prop) H x y dx dy d (Q:VK),(∀a,H a=none->¬S a)->Is K (hid S H) dx x->Is K (hid S H) dy y->F dx dy=some d->(∀v H',Same H H'->Res K fr S H H' d v->Q v H')->r x y H Q
def dOp(F:PyData->PyData->Option PyData)(a b:DX)(τ:DS):Option (PyData×DS):=(a τ).bind fun p=>(b p.2).bind fun q=>(F p.1 q.1).map fun d=>(d,q.2)
theorem e_op{fr fa fb:Bool}{r:R2}{F:PyData->PyData->Option PyData}{ta tb:TE}{a b:DX}(h:OR K fr r F)(ha:E K ta fa a)(hb:E K tb fb b):E K (tOp r ta tb) fr (dOp F a b):=by
 refine⟨fun τ d τ' e=>?_,?_⟩
 ·unfold dOp at e;obtain⟨⟨x,τ1⟩,e1,e⟩:=oB e;obtain⟨⟨y,τ2⟩,e2,e⟩:=oB e;obtain⟨z,e3,e⟩:=oM e;cases e;exact(ha.like _ _ _ e1).trans (hb.like _ _ _ e2)
 intro S M τ σ H Q d τ' rr e q
 unfold dOp at e
 obtain⟨⟨x,τ1⟩,e1,e⟩:=oB e
 obtain⟨⟨y,τ2⟩,e2,e⟩:=oB e
 obtain⟨z,e3,e⟩:=oM e
 cases e
 refine ha.run S M τ σ H _ x τ1 rr e1 fun v1 H1 r1 c1 i1=>?_
 refine hb.run S M τ1 σ H1 _ y τ2 r1 e2 fun v2 H2 r2 c2 i2=>?_
 refine h S H2 v1 v2 x y d _ (fun _=>r2.fresh) ((rr.isr i1).mono (c2.keep r1.sub).same) (r1.isr i2) e3 fun v H' s res=>?_
 exact q v H' (r2.same s) ((c1.trans c2).trans (.of s)) (res.back r2 (c1.trans c2))
def UR(K:KW)(fr:Bool)(r:V->Hp->VK->Prop)(F:PyData->Option PyData):Prop:=∀(S:Addr->Prop) H x dx d (Q:VK),(∀a,H a=none->¬S a)->Is K (hid S H) dx x->F dx=some d->(∀v H',Same H H'->Res K fr S H H' d v->Q v H')->r x H Q
def dUn(F:PyData->Option PyData)(a:DX)(τ:DS):Option (PyData×DS):=(a τ).bind fun p=>(F p.1).map fun d=>(d,p.2)
theorem e_un{fr fa:Bool}{r:V->Hp->VK->Prop}{F:PyData->Option PyData}{ta:TE}{a:DX}(h:UR K fr r F)(ha:E K ta fa a):E K (tUn r ta) fr (dUn F a):=by
 refine⟨fun τ d τ' e=>?_,?_⟩
 ·unfold dUn at e;obtain⟨⟨x,τ1⟩,e1,e⟩:=oB e;obtain⟨z,e3,e⟩:=oM e;cases e;exact ha.like _ _ _ e1
 intro S M τ σ H Q d τ' rr e q
 unfold dUn at e
 obtain⟨⟨x,τ1⟩,e1,e⟩:=oB e
 obtain⟨z,e3,e⟩:=oM e
 cases e
 refine ha.run S M τ σ H _ x _ rr e1 fun v1 H1 r1 c1 i1=>?_
 refine h S H1 v1 x d _ (fun _=>r1.fresh) (rr.isr i1) e3 fun v H' s res=>?_
 exact q v H' (r1.same s) (c1.trans (.of s)) (res.back r1 c1)
def fI(g:Int->Int->PyData):PyData->PyData->Option PyData
 |.int i,.int j=>some (g i j)
 |_,_=>none
def fC(C:Int->Int->Prop)[∀i j,Decidable (C i j)](g:Int->Int->PyData):PyData->PyData->Option PyData
 |.int i,.int j=>if C i j then some (g i j) else none
 |_,_=>none
theorem fI_some{g:Int->Int->PyData}{x y d:PyData}(h:fI g x y=some d):∃i j,x = .int i/\y = .int j/\d=g i j:=by
 unfold fI at h
 split at h
 ·exact⟨_,_,rfl,rfl,(Option.some.inj h).symm⟩
 ·cases h
theorem fC_some{C:Int->Int->Prop}[∀i j,Decidable (C i j)]{g:Int->Int->PyData}{x y d:PyData}(h:fC C g x y=some d):∃i j,x = .int i/\y = .int j/\C i j/\d=g i j:=by
 unfold fC at h
 split at h
 ·split at h
  ·rename_i hc;exact⟨_,_,rfl,rfl,hc,(Option.some.inj h).symm⟩
  ·cases h
 ·cases h
theorem or_I{g:Int->Int->V}{g':Int->Int->PyData}(h:∀i j H,Is K H (g' i j) (g i j)):OR K false (rI0 g) (fI g'):=by
 intro S H x y dx dy d Q _ ix iy e q
 obtain⟨i,j,rfl,rfl,rfl⟩:=fI_some e
 exact⟨i,j,ix,iy,q _ H (fun _ _ e=>e) (h _ _ _)⟩
theorem or_C{C:Int->Int->Prop}[∀i j,Decidable (C i j)]{g:Int->Int->V}{g':Int->Int->PyData}(h:∀i j H,Is K H (g' i j) (g i j)):OR K false (rI C g) (fC C g'):=by
 intro S H x y dx dy d Q _ ix iy e q
 obtain⟨i,j,rfl,rfl,c,rfl⟩:=fC_some e
 exact⟨i,j,ix,iy,c,q _ H (fun _ _ e=>e) (h _ _ _)⟩
instance {i j:Int}:Decidable (CMulB i j):=by unfold CMulB CMul Bd;infer_instance
instance {i j:Int}:Decidable (CDivB i j):=by unfold CDivB Bd;infer_instance
instance {i j:Int}:Decidable (CPow i j):=by unfold CPow;infer_instance
def fAdd:=fI fun i j=>.int (i+j)
def fSub:=fI fun i j=>.int (i-j)
def fMul:=fC CMulB fun i j=>.int (i*j)
def fDiv:=fC CDivB fun i j=>.int (i / j)
def fMod:=fC (fun _ j=>0<j) fun i j=>.int (i % j)
def fPow:=fC CPow fun i j=>.int (i ^ j.toNat)
def fLt:=fI fun i j=>.bool (decide (i<j))
def fLe:=fI fun i j=>.bool (decide (i<=j))
def fGt:=fI fun i j=>.bool (decide (j<i))
def fGe:=fI fun i j=>.bool (decide (j<=i))
theorem o_add:OR K false (rI0 fun i j=>.int (i+j)) fAdd:=or_I fun _ _ _=>rfl
theorem o_sub:OR K false (rI0 fun i j=>.int (i-j)) fSub:=or_I fun _ _ _=>rfl
theorem o_mul:OR K false (rI CMulB fun i j=>.int (i*j)) fMul:=or_C fun _ _ _=>rfl
theorem o_div:OR K false (rI CDivB fun i j=>.int (i / j)) fDiv:=or_C fun _ _ _=>rfl
theorem o_mod:OR K false (rI (fun _ j=>0<j) fun i j=>.int (i % j)) fMod:=or_C fun _ _ _=>rfl
theorem o_pow:OR K false (rI CPow fun i j=>.int (i ^ j.toNat)) fPow:=or_C fun _ _ _=>rfl
theorem o_lt:OR K false (rI0 fun i j=>.bl (decide (i<j))) fLt:=or_I fun _ _ _=>rfl
theorem o_gt:OR K false (rI0 fun i j=>.bl (decide (j<i))) fGt:=or_I fun _ _ _=>rfl
theorem o_ge:OR K false (rI0 fun i j=>.bl (decide (j<=i))) fGe:=or_I fun _ _ _=>rfl
def fNeg:PyData->Option PyData
 |.int i=>some (.int (-i))
 |_=>none
theorem u_neg:UR K false (rU fun i=>.int (-i)) fNeg:=by
 intro S H x dx d Q _ ix e q
 unfold fNeg at e
 split at e
 ·cases e;exact⟨_,ix,q _ H (fun _ _ e=>e) rfl⟩
 ·cases e
def fEq(x y:PyData):Option PyData:=if okD x&&okD y then some (.bool (PyData.eqv x y)) else none
def fNe(x y:PyData):Option PyData:=if okD x&&okD y then some (.bool (!PyData.eqv x y)) else none
theorem o_eq:OR K false (rEqK K) fEq:=by
 intro S H x y dx dy d Q _ ix iy e q
 unfold fEq at e
 split at e
 ·rename_i h
  rw[Bool.and_eq_true]at h
  cases e
  exact⟨dx,dy,ix.mono same_hid,iy.mono same_hid,h.1,h.2,q _ H (fun _ _ e=>e) rfl⟩
 ·cases e
theorem o_ne:OR K false (rNeK K) fNe:=by
 intro S H x y dx dy d Q _ ix iy e q
 unfold fNe at e
 split at e
 ·rename_i h
  rw[Bool.and_eq_true]at h
  cases e
  exact⟨dx,dy,ix.mono same_hid,iy.mono same_hid,h.1,h.2,q _ H (fun _ _ e=>e) rfl⟩
 ·cases e
def fIn(neg:Bool)(x:PyData):PyData->Option PyData
 |.list es=>if okD x&&okD (.list es) then some (.bool (if neg then !(es.any fun y=>PyData.eqv y x) else es.any fun y=>PyData.eqv y x)) else none
 |.tuple es=>if okD x&&okD (.list es) then some (.bool (if neg then !(es.any fun y=>PyData.eqv y x) else es.any fun y=>PyData.eqv y x)) else none
 |_=>none
theorem o_in{neg:Bool}:OR K false (rInK K neg) (fIn neg):=by
 intro S H x y dx dy d Q _ ix iy e q
 unfold fIn at e
 split at e
 ·split at e
  ·rename_i h
   rw[Bool.and_eq_true]at h
   cases e
   exact⟨dx,_,ix.mono same_hid,.inl (iy.mono same_hid),h.1,h.2,q _ H (fun _ _ e=>e) rfl⟩
  ·cases e
 ·split at e
  ·rename_i h
   rw[Bool.and_eq_true]at h
   cases e
   exact⟨dx,_,ix.mono same_hid,.inr (iy.mono same_hid),h.1,h.2,q _ H (fun _ _ e=>e) rfl⟩
  ·cases e
 ·cases e
def isNo:PyData->Bool
 |.none=>true
 |_=>false
def fIsN(x y:PyData):Option PyData:=match y with
 |.none=>some (.bool (isNo x))
 |_=>none
def fNotN(x y:PyData):Option PyData:=match y with
 |.none=>some (.bool (!isNo x))
 |_=>none
theorem is_non{H:Hp}{x:PyData}{v:V}(h:Is K H x v):decide (v=V.non)=isNo x:=by
 cases x with
 |none=>rw[show v = .non from h];rfl
 |bool b=>rw[show v = .bl b from h];rfl
 |int b=>rw[show v = .int b from h];rfl
 |str b=>rw[show v = .str b from h];rfl
 |list b=>obtain⟨a,vs,rfl,_⟩:=h;rfl
 |tuple b=>obtain⟨a,vs,rfl,_⟩:=h;rfl
 |dict b=>obtain⟨a,ts,rfl,_⟩:=h;rfl
theorem o_notN:OR K false (fun x y H Q=>y = .non/\Q (.bl (!decide (x = .non))) H) fNotN:=by
 intro S H x y dx dy d Q _ ix iy e q
 unfold fNotN at e
 split at e
 ·cases e
  refine⟨iy,?_⟩
  rw[is_non ix]
  exact q _ H (fun _ _ e=>e) rfl
 ·cases e
def fIxL:PyData->PyData->Option PyData
 |.list xs,.int i=>atI xs i
 |_,_=>none
def fIxT:PyData->PyData->Option PyData
 |.tuple xs,.int i=>atI xs i
 |_,_=>none
theorem isl_at{H:Hp}{ds:List PyData}{vs:List V}{i:Int}{d:PyData}(h:IsL K H ds vs)(e:atI ds i=some d):∃v,atI vs i=some v/\Is K H d v:=by
 unfold atI at e ⊢
 rw[h.length]
 cases q:ixN ds.length i with
 |none=>rw[q]at e;cases e
 |some j =>
  rw[q]at e
  exact h.get (show ds[j]?=some d from e)
theorem o_ixL:OR K false (rIxL K) fIxL:=by
 intro S H x y dx dy d Q _ ix iy e q
 unfold fIxL at e
 split at e
 ·obtain⟨a,vs,rfl,h,l⟩:=ix
  obtain⟨v,h1,h2⟩:=isl_at l e
  exact⟨a,vs,_,v,rfl,iy,SqL.of (hid_iff.mp h).2,h1,q _ H (fun _ _ e=>e) h2⟩
 ·cases e
theorem o_ixT:OR K false (rIxT K) fIxT:=by
 intro S H x y dx dy d Q _ ix iy e q
 unfold fIxT at e
 split at e
 ·obtain⟨a,vs,rfl,h,l⟩:=ix
  obtain⟨v,h1,h2⟩:=isl_at l e
  exact⟨a,vs,_,v,rfl,iy,Same.tup same_hid h,h1,q _ H (fun _ _ e=>e) h2⟩
 ·cases e
theorem isl_append{H:Hp}:∀{xs ys:List PyData} {vs us:List V},IsL K H xs vs->IsL K H ys us->IsL K H (xs++ys) (vs++us)
 |[],_,_,_,h,k=>by rw[show _=[] from h];exact k
 |_::_,_,_,_,⟨x,xs,e,h,l⟩,k=>by subst e;exact⟨x,_,rfl,h,isl_append l k⟩
theorem res_new{S:Addr->Prop}{H:Hp}{xs:List PyData}{vs:List V}{p:Addr}(hp:H p=none)(l:IsL K (hid S H) xs vs):Res K true S H (upd H p (.lst vs)) (.list xs) (.ref p):=by
 refine⟨.l xs,p,_,rfl,rfl,hp,upd_same,vs,rfl,l.mono (Keep.same fun b o hn e=>?_)⟩
 have:b≠p:=ne_of_none e hp
 exact⟨fun z=>z.elim hn this,by rw[upd_ne this];exact e⟩
def dTest(a:DX)(τ:DS):Option (Bool×DS):=(a τ).bind fun p=>match p.1 with
 |.bool b=>some (b,p.2)
 |_=>none
theorem t_test{fr:Bool}{t:TE}{a:DX}(h:E K t fr a):T K (tTest t) (dTest a):=by
 refine⟨fun τ d τ' e=>?_,?_⟩
 ·unfold dTest at e;obtain⟨⟨x,τ1⟩,e1,e⟩:=oB e;dsimp only at e;split at e
  ·cases e;exact h.like _ _ _ e1
  ·cases e
 intro S M τ σ H Q b τ' r e q
 unfold dTest at e
 obtain⟨⟨x,τ1⟩,e1,e⟩:=oB e
 dsimp only at e
 split at e
 ·cases e
  refine h.run S M τ σ H _ _ _ r e1 fun v H' r' c i=>?_
  exact⟨b,(show v = .bl b from r.isr i),q H' r' c⟩
 ·cases e
theorem t_val{fr:Bool}{t:TE}{a:DX}(h:E K t fr a):T K (tB t) (dTest a):=t_test h
def dTAnd(a b:DT)(τ:DS):Option (Bool×DS):=(a τ).bind fun p=>if p.1=true then b p.2 else some (false,p.2)
def dTOr(a b:DT)(τ:DS):Option (Bool×DS):=(a τ).bind fun p=>if p.1=true then some (true,p.2) else b p.2
def dTNot(a:DT)(τ:DS):Option (Bool×DS):=(a τ).map fun p=>(!p.1,p.2)
theorem t_and{ta tb:TT}{a b:DT}(ha:T K ta a)(hb:T K tb b):T K (tAnd ta tb) (dTAnd a b):=by
 refine⟨fun τ d τ' e=>?_,?_⟩
 ·unfold dTAnd at e;obtain⟨⟨c,τ1⟩,e1,e⟩:=oB e;cases c with
  |true=>exact(ha.like _ _ _ e1).trans (hb.like _ _ _ e)
  |false=>cases e;exact ha.like _ _ _ e1
 intro S M τ σ H Q k τ' r e q
 unfold dTAnd at e
 obtain⟨⟨c,τ1⟩,e1,e⟩:=oB e
 refine ha.run S M τ σ H _ c τ1 r e1 fun H1 r1 c1=>?_
 cases c with
 |true=>exact hb.run S M τ1 σ H1 _ k τ' r1 e fun H2 r2 c2=>q H2 r2 (c1.trans c2)
 |false=>cases e;exact q H1 r1 c1
theorem t_or{ta tb:TT}{a b:DT}(ha:T K ta a)(hb:T K tb b):T K (tOr ta tb) (dTOr a b):=by
 refine⟨fun τ d τ' e=>?_,?_⟩
 ·unfold dTOr at e;obtain⟨⟨c,τ1⟩,e1,e⟩:=oB e;cases c with
  |false=>exact(ha.like _ _ _ e1).trans (hb.like _ _ _ e)
  |true=>cases e;exact ha.like _ _ _ e1
 intro S M τ σ H Q k τ' r e q
 unfold dTOr at e
 obtain⟨⟨c,τ1⟩,e1,e⟩:=oB e
 refine ha.run S M τ σ H _ c τ1 r e1 fun H1 r1 c1=>?_
 cases c with
 |false=>exact hb.run S M τ1 σ H1 _ k τ' r1 e fun H2 r2 c2=>q H2 r2 (c1.trans c2)
 |true=>cases e;exact q H1 r1 c1
theorem t_not{ta:TT}{a:DT}(ha:T K ta a):T K (tNot ta) (dTNot a):=by
 refine⟨fun τ d τ' e=>?_,?_⟩
 ·unfold dTNot at e;obtain⟨⟨c,τ1⟩,e1,e⟩:=oM e;cases e;exact ha.like _ _ _ e1
 intro S M τ σ H Q k τ' r e q
 unfold dTNot at e
 obtain⟨⟨c,τ1⟩,e1,e⟩:=oM e
 cases e
 exact ha.run S M τ σ H _ c _ r e1 fun H1 r1 c1=>q H1 r1 c1
def dIf(c:DT)(a b:DX)(τ:DS):Option (PyData×DS):=(c τ).bind fun p=>if p.1=true then a p.2 else b p.2
def dAnd(a b:DX)(τ:DS):Option (PyData×DS):=(dTest a τ).bind fun p=>if p.1=true then b p.2 else some (.bool false,p.2)
def dOr(a b:DX)(τ:DS):Option (PyData×DS):=(dTest a τ).bind fun p=>if p.1=true then some (.bool true,p.2) else b p.2
def dNot(a:DX)(τ:DS):Option (PyData×DS):=(dTest a τ).map fun p=>(.bool (!p.1),p.2)
def dChain(F G:PyData->PyData->Option PyData)(a b c:DX)(τ:DS):Option (PyData×DS):=(a τ).bind fun p=>(b p.2).bind fun q=>(F p.1 q.1).bind fun z=>match z with
 |.bool true=>(c q.2).bind fun s=>(G q.1 s.1).map fun d=>(d,s.2)
 |.bool false=>some (.bool false,q.2)
 |_=>none
end DL
end
section
namespace DL
open PySem L2
variable {K:KW}
def dANil(τ:DS):Option (List Ar×DS):=some ([],τ)
def dACons(a:DX)(r:DA)(τ:DS):Option (List Ar×DS):=(a τ).bind fun p=>(r p.2).map fun q=>(.d p.1::q.1,q.2)
theorem a_nil:A K tNil dANil:=by
 refine⟨fun τ d τ' e=>?_,?_⟩
 ·cases e;exact .refl
 intro S M τ σ H Q rs τ' r e q
 cases e
 exact q [] H r .refl rfl
theorem a_cons{fr:Bool}{te:TE}{t:TA}{a:DX}{f:DA}(ha:E K te fr a)(hr:A K t f):A K (tCons te t) (dACons a f):=by
 refine⟨fun τ d τ' e=>?_,?_⟩
 ·unfold dACons at e
  obtain⟨⟨x,τ1⟩,e1,e⟩:=oB e
  obtain⟨⟨y,τ2⟩,e2,e⟩:=oM e
  cases e
  exact(ha.like _ _ _ e1).trans (hr.like _ _ _ e2)
 intro S M τ σ H Q rs τ' r e q
 unfold dACons at e
 obtain⟨⟨x,τ1⟩,e1,e⟩:=oB e
 obtain⟨⟨y,τ2⟩,e2,e⟩:=oM e
 cases e
 refine ha.run S M τ σ H _ x τ1 r e1 fun v H1 r1 c1 i1=>?_
 refine hr.run S M τ1 σ H1 _ y _ r1 e2 fun vs H2 r2 c2 i2=>?_
 exact q (v::vs) H2 r2 (c1.trans c2) ⟨v,vs,rfl,(r.isr i1).mono (c2.keep r1.sub).same,i2⟩
def allD:List Ar->Option (List PyData)
 |[]=>some []
 |.d x::r=>(allD r).map (x::·)
 |.s _::_=>none
theorem allD_is{S:Addr->Prop}{σ:St}{H:Hp}:∀{rs:List Ar} {vs:List V} {ds:List PyData},ArIs K S σ H rs vs->allD rs=some ds->IsL K (hid S H) ds vs
 |[],_,_,h,e=>by cases e;exact h
 |.d x::r,_,_,⟨v,us,e1,h,l⟩,e=>by
  obtain⟨ds,e2,e⟩:=oM e
  cases e
  exact⟨v,us,e1,h,allD_is l e2⟩
 |.s _::_,_,_,_,e=>by cases e
def dTup(a:DA)(τ:DS):Option (PyData×DS):=(a τ).bind fun p=>(allD p.1).bind fun ds=>if ds.length<=sizeLine then some (.tuple ds,p.2) else none
def dLst(a:DA)(τ:DS):Option (PyData×DS):=(a τ).bind fun p=>(allD p.1).bind fun ds=>if ds.length<=sizeLine then some (.list ds,p.2) else none
theorem e_tup{t:TA}{a:DA}(ha:A K t a):E K (tTup t) false (dTup a):=by
 refine⟨fun τ d τ' e=>?_,?_⟩
 ·unfold dTup at e
  obtain⟨⟨x,τ1⟩,e1,e⟩:=oB e
  obtain⟨ds,e2,e⟩:=oB e
  split at e
  ·cases e;exact ha.like _ _ _ e1
  ·cases e
 intro S M τ σ H Q d τ' r e q
 unfold dTup at e
 obtain⟨⟨x,τ1⟩,e1,e⟩:=oB e
 obtain⟨ds,e2,e⟩:=oB e
 split at e
 ·rename_i hz
  cases e
  refine ha.run S M τ σ H _ x _ r e1 fun vs H1 r1 c1 i1=>?_
  have l:=allD_is i1 e2
  refine⟨by rw[l.length];exact hz,fun p hp=>?_⟩
  have s:=same_new hp (HO.tup vs)
  exact q _ _ (r1.same s) (c1.trans (.of s)) ⟨p,vs,rfl,SqT.of (hid_iff.mpr ⟨r1.fresh hp,upd_same⟩),l.mono (Same.keep s).same⟩
 ·cases e
theorem e_lst{t:TA}{a:DA}(ha:A K t a):E K (tLst t) true (dLst a):=by
 refine⟨fun τ d τ' e=>?_,?_⟩
 ·unfold dLst at e
  obtain⟨⟨x,τ1⟩,e1,e⟩:=oB e
  obtain⟨ds,e2,e⟩:=oB e
  split at e
  ·cases e;exact ha.like _ _ _ e1
  ·cases e
 intro S M τ σ H Q d τ' r e q
 unfold dLst at e
 obtain⟨⟨x,τ1⟩,e1,e⟩:=oB e
 obtain⟨ds,e2,e⟩:=oB e
 split at e
 ·rename_i hz
  cases e
  refine ha.run S M τ σ H _ x _ r e1 fun vs H1 r1 c1 i1=>?_
  have l:=allD_is i1 e2
  refine⟨by rw[l.length];exact hz,fun p hp=>?_⟩
  have s:=same_new hp (HO.lst vs)
  exact q _ _ (r1.same s) (c1.trans (.of s)) ((res_new hp l).back r1 c1)
 ·cases e
def BR(K:KW)(fr:Bool)(r:List V->Hp->VK->Prop)(F:List PyData->Option PyData):Prop:=∀(S:Addr->Prop) H vs ds d (Q:VK),(∀a,H a=none->¬S a)->IsL K (hid S H) ds vs->F ds=some d->(∀v H',Same H H'->Res K fr S H H' d v->Q v H')->r vs H Q
def dApp(F:List PyData->Option PyData)(a:DA)(τ:DS):Option (PyData×DS):=(a τ).bind fun p=>(allD p.1).bind fun ds=>(F ds).map fun d=>(d,p.2)
theorem e_app{fr:Bool}{r:List V->Hp->VK->Prop}{F:List PyData->Option PyData}{t:TA}{a:DA}(h:BR K fr r F)(ha:A K t a):E K (tCB r t) fr (dApp F a):=by
 refine⟨fun τ d τ' e=>?_,?_⟩
 ·unfold dApp at e
  obtain⟨⟨x,τ1⟩,e1,e⟩:=oB e
  obtain⟨ds,e2,e⟩:=oB e
  obtain⟨z,e3,e⟩:=oM e
  cases e;exact ha.like _ _ _ e1
 intro S M τ σ H Q d τ' rr e q
 unfold dApp at e
 obtain⟨⟨x,τ1⟩,e1,e⟩:=oB e
 obtain⟨ds,e2,e⟩:=oB e
 obtain⟨z,e3,e⟩:=oM e
 cases e
 refine ha.run S M τ σ H _ x _ rr e1 fun vs H1 r1 c1 i1=>?_
 refine h S H1 vs ds d _ (fun _=>r1.fresh) (allD_is i1 e2) e3 fun v H' s res=>?_
 exact q v H' (r1.same s) (c1.trans (.of s)) (res.back r1 c1)
def spD(K:KW)(G:List L->Option (PyData×List L))(fr:Bool):Sp:=fun vs H Q _=>∃(S M:Addr->Prop) (ls:List L) (r:PyData) (ls':List L),R K S M (ls.map some) (vs.map some) H/\G ls=some (r,ls') /\
 ∀v H',R K S M (ls'.map some) (vs.map some) H'->Chg M H H'->Res K fr S H H' r v->Q v H'
theorem r_args{S M:Addr->Prop}{τ:DS}{σ:St}{H:Hp}(r:R K S M τ σ H){ds:List PyData}{vs:List V}(l:IsL K (hid S H) ds vs):R K S (fun _=>False) ((ds.map L.d).map some) (vs.map some) H where
 len:=by rw[List.length_map,List.length_map,List.length_map,l.length]
 dat:=fun i x e=>by
  rw[List.getElem?_map,List.getElem?_map]at e
  cases q:ds[i]? with
  |none=>rw[q]at e;cases e
  |some d =>
   rw[q]at e
   cases e
   obtain⟨v,h1,h2⟩:=l.get q
   exact⟨v,by rw[List.getElem?_map,h1];rfl,h2⟩
 mt:=fun i o e=>by
  rw[List.getElem?_map,List.getElem?_map]at e
  cases q:ds[i]? with
  |none=>rw[q]at e;cases e
  |some d=>rw[q]at e;cases o<;>cases e
 cst:=fun i xs e=>by
  rw[List.getElem?_map,List.getElem?_map]at e
  cases q:ds[i]? with
  |none=>rw[q]at e;cases e
  |some d=>rw[q]at e;cases e
 inj:=fun i j o p a e=>by
  rw[List.getElem?_map,List.getElem?_map]at e
  cases q:ds[i]? with
  |none=>rw[q]at e;cases e
  |some d=>rw[q]at e;cases o<;>cases e
 sub:=fun a h=>h.elim
 ex:=r.ex
 gr:=GR.nil r.gr.1 fun i d e=>by
  rw[List.getElem?_map,List.getElem?_map]at e
  cases q:ds[i]? with
  |none=>rw[q]at e;cases e
  |some d=>rw[q]at e;cases e
def dCall(G:List L->Option (PyData×List L))(a:DA)(τ:DS):Option (PyData×DS):=(a τ).bind fun p=>(allD p.1).bind fun ds=>(G (ds.map L.d)).map fun q=>(q.1,p.2)
theorem e_call{fr:Bool}{G:List L->Option (PyData×List L)}{t:TA}{a:DA}{X:XK}(ha:A K t a):E K (tCall (spD K G fr) [] X t) fr (dCall G a):=by
 refine⟨fun τ d τ' e=>?_,?_⟩
 ·unfold dCall at e
  obtain⟨⟨x,τ1⟩,e1,e⟩:=oB e
  obtain⟨ds,e2,e⟩:=oB e
  obtain⟨z,e3,e⟩:=oM e
  cases e;exact ha.like _ _ _ e1
 intro S M τ σ H Q d τ' rr e q
 unfold dCall at e
 obtain⟨⟨x,τ1⟩,e1,e⟩:=oB e
 obtain⟨ds,e2,e⟩:=oB e
 obtain⟨⟨z,ls'⟩,e3,e⟩:=oM e
 cases e
 refine ha.run S M τ σ H _ x _ rr e1 fun vs H1 r1 c1 i1=>?_
 have l:=allD_is i1 e2
 show spD K G fr (vs++[]) H1 Q X
 rw[List.append_nil]
 refine⟨S,fun _=>False,ds.map L.d,_,ls',r_args r1 l,e3,fun v H' _ c res=>?_⟩
 have s:Same H1 H':=fun b o e=>c b o (fun z=>z) e
 exact q v H' (r1.same s) (c1.trans (.of s)) (res.back r1 c1)
theorem owL_inj{a b:Ow}(h:some (some a.L)=some (some b.L)):a=b:=Ow.inj (Option.some.inj (Option.some.inj h))
theorem R.setO{S M:Addr->Prop}{τ:DS}{σ:St}{H H':Hp}(r:R K S M τ σ H){i:Nat}{a:Addr}{w w':Ow}{h:HO}(hi:τ[i]?=some (some w.L))(ha:σ[i]?=some (some (.ref a)))
  (c:Chg (fun b=>b=a) H H') (h':H' a=some h) (l:IsO K (hid S H') w' a h):R K S M (τ.set i (some w'.L)) σ H':=by
 have hlt:i<τ.length:=(List.getElem?_eq_some_iff.mp hi).1
 have Sa:S a:=by
  obtain⟨b,us,h1,h2,_⟩:=r.mt i w hi
  rw[ha]at h1;cases h1
  exact r.sub _ h2
 have k:Keep S H S H':=c.keep fun b e=>by subst e;exact Sa
 have ne:∀j,j≠i->(τ.set i (some w'.L))[j]?=τ[j]?:=fun j hj=>List.getElem?_set_ne (Ne.symm hj)
 have se:(τ.set i (some w'.L))[i]?=some (some w'.L):=List.getElem?_set_self hlt
 refine⟨by rw[List.length_set];exact r.len,fun j x e=>?_,fun j ys e=>?_,fun j x e=>?_,fun j1 j2 ys zs b e1 e2 f1 f2=>?_,r.sub,fun b hb=>?_,r.gr.to (fun j d e=>?_) (fun j o b e q=>?_) (fun b hb hn=>⟨hb,?_⟩) (tsS k.same)⟩
 ·by_cases hj:j=i
  ·subst hj;rw[se]at e;exact absurd (Option.some.inj (Option.some.inj e)) Ow.not_d
  ·rw[ne j hj]at e
   obtain⟨v,h1,h2⟩:=r.dat j x e
   exact⟨v,h1,h2.mono k.same⟩
 ·by_cases hj:j=i
  ·subst hj
   rw[se]at e
   obtain rfl:=Ow.inj (Option.some.inj (Option.some.inj e))
   obtain⟨b,us,h1,h2,_⟩:=r.mt j w hi
   rw[ha]at h1;cases h1
   exact⟨a,h,ha,h2,h',l⟩
  ·rw[ne j hj]at e
   obtain⟨b,us,h1,h2,h3,h4⟩:=r.mt j ys e
   refine⟨b,us,h1,h2,c b _ (fun z=>?_) h3,h4.mono k.same⟩
   subst z
   exact hj (r.inj j i ys w b e hi h1 ha)
 ·by_cases hj:j=i
  ·subst hj;rw[se]at e;exact absurd (Option.some.inj (Option.some.inj e)) Ow.not_c
  ·rw[ne j hj]at e
   obtain⟨b,us,h1,h2,h3⟩:=r.cst j x e
   exact⟨b,us,h1,k.same.seq h2,h3.mono k.same⟩
 ·have g:∀(j:Nat) (ys:Ow),(τ.set i (some w'.L))[j]?=some (some ys.L)->∃zs:Ow,τ[j]?=some (some zs.L):=fun j ys e=>by
   by_cases hj:j=i
   ·subst hj;exact⟨_,hi⟩
   ·rw[ne j hj]at e;exact⟨_,e⟩
  obtain⟨_,g1⟩:=g j1 ys e1
  obtain⟨_,g2⟩:=g j2 zs e2
  exact r.inj _ _ _ _ b g1 g2 f1 f2
 ·by_cases e:b=a
  ·subst e;exact⟨_,h'⟩
  ·obtain⟨o,q⟩:=r.ex b hb
   exact⟨o,c b o e q⟩
 ·by_cases hj:j=i
  ·subst hj;rw[se]at e;exact absurd (Option.some.inj (Option.some.inj e)) Ow.not_g
  ·rw[ne j hj]at e;exact⟨e,rfl⟩
 ·by_cases hj:j=i
  ·subst hj;exact .inl ⟨w,hi,q⟩
  ·rw[ne j hj]at e;exact .inl ⟨o,e,q⟩
 ·obtain⟨o,e⟩:=r.ex b (r.sub b hb)
  rw[e];exact c b o (fun z=>hn i w hi (by rw[z];exact ha)) e
theorem R.setM{S M:Addr->Prop}{τ:DS}{σ:St}{H H':Hp}(r:R K S M τ σ H){i:Nat}{a:Addr}{xs xs':List PyData}{vs:List V}(hi:τ[i]?=some (some (.m xs)))(ha:σ[i]?=some (some (.ref a)))
  (c:Chg (fun b=>b=a) H H') (h':H' a=some (.lst vs)) (l:IsL K (hid S H') xs' vs):R K S M (τ.set i (some (.m xs'))) σ H':=r.setO (w:=.l xs) (w':=.l xs') hi ha c h' ⟨vs,rfl,l⟩
theorem like_setO{τ:DS}{i:Nat}{w w':Ow}(hi:τ[i]?=some (some w.L))(hf:w.fl=w'.fl):Like τ (τ.set i (some w'.L)):=by
 have hlt:i<τ.length:=(List.getElem?_eq_some_iff.mp hi).1
 refine⟨by rw[List.length_set],fun j=>?_⟩
 by_cases hj:j=i
 ·subst hj
  rw[List.getElem?_set_self hlt,hi]
  exact⟨⟨fun x=>⟨fun z=>absurd (Option.some.inj (Option.some.inj z)) Ow.not_d,fun z=>absurd (Option.some.inj (Option.some.inj z)) Ow.not_d⟩,fun x=>⟨fun z=>absurd (Option.some.inj (Option.some.inj z)) Ow.not_c,fun z=>absurd (Option.some.inj (Option.some.inj z)) Ow.not_c⟩⟩,fun b=>⟨fun⟨o,h1,h2⟩=>⟨w,by rw[hf,owL_inj h2];exact h1,rfl⟩,fun⟨o,h1,h2⟩=>⟨w',by rw[<- hf,owL_inj h2];exact h1,rfl⟩⟩⟩
 ·rw[List.getElem?_set_ne (Ne.symm hj)]
  exact⟨⟨fun x=>Iff.rfl,fun x=>Iff.rfl⟩,fun b=>Iff.rfl⟩
theorem like_setM{τ:DS}{i:Nat}{xs xs':List PyData}(hi:τ[i]?=some (some (.m xs))):Like τ (τ.set i (some (.m xs'))):=like_setO (w:=.l xs) (w':=.l xs') hi rfl
def dCallM(i:Nat)(G:List L->Option (PyData×List L))(a:DA)(τ:DS):Option (PyData×DS):=(a τ).bind fun p=>(allD p.1).bind fun ds=>match p.2[i]? with
 |some (some (.m xs))=>(G (.m xs::ds.map L.d)).bind fun q=>match q.2 with
  |.m xs'::_=>some (q.1,p.2.set i (some (.m xs')))
  |_=>none
 |some (some (.k xs))=>(G (.k xs::ds.map L.d)).bind fun q=>match q.2 with
  |.k xs'::_=>some (q.1,p.2.set i (some (.k xs')))
  |_=>none
 |_=>none
theorem dCallM_some{i:Nat}{G:List L->Option (PyData×List L)}{a:DA}{τ:DS}{d:PyData}{τ':DS}(e:dCallM i G a τ=some (d,τ')) :
  ∃rs τ1 ds w w' r,a τ=some (rs,τ1)/\allD rs=some ds/\τ1[i]?=some (some (Ow.L w))/\G (w.L::ds.map L.d)=some (d,Ow.L w'::r)/\τ'=τ1.set i (some w'.L)/\w.fl=w'.fl:=by
 unfold dCallM at e
 obtain⟨⟨x,τ1⟩,e1,e⟩:=oB e
 obtain⟨ds,e2,e⟩:=oB e
 dsimp only at e
 split at e
 ·rename_i xs hx
  obtain⟨⟨z,ls'⟩,e3,e⟩:=oB e
  dsimp only at e
  split at e
  ·rename_i xs' rest
   cases e
   exact⟨x,τ1,ds,.l xs,.l xs',rest,e1,e2,hx,e3,rfl,rfl⟩
  ·cases e
 ·rename_i xs hx
  obtain⟨⟨z,ls'⟩,e3,e⟩:=oB e
  dsimp only at e
  split at e
  ·rename_i xs' rest
   cases e
   exact⟨x,τ1,ds,.t xs,.t xs',rest,e1,e2,hx,e3,rfl,rfl⟩
  ·cases e
 ·cases e
theorem e_callM{i:Nat}{fr:Bool}{G:List L->Option (PyData×List L)}{t:TA}{a:DA}{X:XK}(ha:A K t a):E K (tCall (spD K G fr) [] X (tCons (tVar i) t)) fr (dCallM i G a):=by
 refine⟨fun τ d τ' e=>?_,?_⟩
 ·obtain⟨rs,τ1,ds,xs,xs',r,e1,e2,e3,e4,rfl,e5⟩:=dCallM_some e
  exact(ha.like _ _ _ e1).trans (like_setO e3 e5)
 intro S M τ σ H Q d τ' rr e q
 obtain⟨rs,τ1,ds,xs,xs',r,e1,e2,e3,e4,rfl,_⟩:=dCallM_some e
 have lk:=ha.like _ _ _ e1
 obtain⟨zs,hz⟩:=(lk.own i).mp ⟨_,e3⟩
 obtain⟨p,us,hp,hM,_,_⟩:=rr.mt i zs hz
 refine⟨.ref p,hp,?_⟩
 refine ha.run S M τ σ H _ rs _ rr e1 fun vs H1 r1 c1 i1=>?_
 have l:=allD_is i1 e2
 obtain⟨p',us',hp',hM',hl,ll⟩:=r1.mt i xs e3
 rw[hp]at hp';cases hp'
 show spD K G fr ((.ref p::vs)++[]) H1 Q X
 rw[List.append_nil]
 have ra:=r_args r1 l
 refine ⟨S, fun b => b = p, xs.L :: ds.map L.d, _, xs'.L :: r, ⟨?_, ?_, ?_, ?_, ?_, ?_, r1.ex, GR.nil r1.gr.1 fun j x e => by
  cases j with
  |zero=>exact Ow.not_g (Option.some.inj (Option.some.inj e))
  |succ j =>
   rw[List.map_cons,List.getElem?_cons_succ,List.getElem?_map,List.getElem?_map]at e
   cases q:ds[j]? with
   |none=>rw[q]at e;cases e
   |some d=>rw[q]at e;cases e⟩,e4,fun v H' r' c res=>?_⟩
 ·have:=ra.len
  simp only[List.length_map,List.map_cons,List.length_cons]at this ⊢
  omega
 ·intro j x e
  cases j with
  |zero=>exact absurd (Option.some.inj (Option.some.inj e)) Ow.not_d
  |succ j=>exact ra.dat j x (by simpa using e)
 ·intro j ys e
  cases j with
  |zero=>obtain rfl:=owL_inj e;exact⟨p,us',rfl,rfl,hl,ll⟩
  |succ j=>obtain⟨_,_,_,h,_⟩:=ra.mt j ys (by simpa using e);exact h.elim
 ·intro j ys e
  cases j with
  |zero=>exact absurd (Option.some.inj (Option.some.inj e)) Ow.not_c
  |succ j=>exact ra.cst j ys (by simpa using e)
 ·intro j k ys ws b e1 e2 _ _
  cases j with
  |zero=>cases k with
   |zero=>rfl
   |succ k=>obtain⟨_,_,_,h,_⟩:=ra.mt k ws (by simpa using e2);exact h.elim
  |succ j=>obtain⟨_,_,_,h,_⟩:=ra.mt j ys (by simpa using e1);exact h.elim
 ·rintro b rfl
  exact r1.sub _ hM'
 ·obtain⟨p2,us2,h1,h2,h3,h4⟩:=r'.mt 0 xs' rfl
  cases h1
  exact q v H' (r1.setO e3 hp c h3 h4) (c1.trans fun b o hn e=>c b o (fun z=>hn (by subst z;exact hM')) e) (res.back r1 c1)
def okM:Option L->Bool
 |some (.m xs)=>fixDs xs
 |some (.k kvs)=>fixDs (kvs.map (·.2))
 |_=>true
theorem IsKV.monoT{H H':Hp}(s:TSm H H'):∀{kvs:List (List Int×PyData)} {ts:List (List Int×Addr×V)},fixDs (kvs.map (·.2))=true->IsKV K H (dctP kvs) ts->IsKV K H' (dctP kvs) ts
 |[],_,_,h=>h
 |(k,d)::kvs,_,f,⟨t,tr,e,ek,hk,h,l⟩=>by
  rw[List.map_cons,fixDs,Bool.and_eq_true]at f
  exact⟨t,tr,e,ek,s.tup hk,Is.monoT s f.1 h,IsKV.monoT s (kvs:=kvs) f.2 l⟩
theorem IsO.monoT{H H':Hp}(s:TSm H H'):∀{o:Ow} {a:Addr} {h:HO},okM (some o.L)=true->IsO K H o a h->IsO K H' o a h
 |.l _,_,_,f,⟨vs,e,l⟩=>⟨vs,e,l.monoT s f⟩
 |.t _,_,_,f,⟨ts,e,l⟩=>⟨ts,e,IsKV.monoT s f l⟩
def OwH(h:HO):Prop:=(∃vs,h = .lst vs)\/∃φ,h = .ext φ
theorem IsO.ho{H:Hp}:∀{o:Ow} {a:Addr} {h:HO},IsO K H o a h->OwH h
 |.l _,_,_,⟨vs,e,_⟩=>.inl ⟨vs,e⟩
 |.t _,_,_,⟨ts,⟨ep,e⟩,_⟩=>.inr ⟨_,e⟩
def dBor(i:Nat)(f:DX)(τ:DS):Option (PyData×DS):=match τ[i]? with
 |some (some (.m xs))=>(f (τ.set i (some (.d (.list xs))))).bind fun q=>if fixD q.1&&q.2.all okM then some (q.1,q.2.set i (some (.m xs))) else none
 |some (some (.k xs))=>(f (τ.set i (some (.d (.dict (dctP xs)))))).bind fun q=>if fixD q.1&&q.2.all okM then some (q.1,q.2.set i (some (.k xs))) else none
 |_=>none
theorem dBor_some{i:Nat}{f:DX}{τ:DS}{d:PyData}{τ':DS}(e:dBor i f τ=some (d,τ')):∃w τ1,τ[i]?=some (some (Ow.L w))/\f (τ.set i (some (.d w.D)))=some (d,τ1)/\fixD d=true/\τ1.all okM=true/\τ'=τ1.set i (some w.L):=by
 unfold dBor at e
 split at e
 ·rename_i xs hx
  obtain⟨⟨z,τ1⟩,e1,e⟩:=oB e
  dsimp only at e
  split at e
  ·rename_i h
   rw[Bool.and_eq_true]at h
   cases e
   exact⟨.l xs,τ1,hx,e1,h.1,h.2,rfl⟩
  ·cases e
 ·rename_i xs hx
  obtain⟨⟨z,τ1⟩,e1,e⟩:=oB e
  dsimp only at e
  split at e
  ·rename_i h
   rw[Bool.and_eq_true]at h
   cases e
   exact⟨.t xs,τ1,hx,e1,h.1,h.2,rfl⟩
  ·cases e
 ·cases e
theorem tsame_hid{S S':Addr->Prop}{H:Hp}(h:∀a,S' a->S a\/∃o,H a=some o/\OwH o):TSm (hid S H) (hid S' H):=fun b o e nl ne=>by
 obtain⟨e1,e2⟩:=hid_iff.mp e
 refine hid_iff.mpr ⟨fun z=>?_,e2⟩
 rcases h b z with z|⟨o',z,⟨vs,rfl⟩|⟨φ,rfl⟩⟩
 ·exact e1 z
 ·rw[e2]at z;cases z;exact nl _ rfl
 ·rw[e2]at z;cases z;exact ne _ rfl
theorem frz{S M:Addr->Prop}{τ:DS}{σ:St}{H:Hp}(r:R K S M τ σ H){i:Nat}{w:Ow}{p:Addr}(hi:τ[i]?=some (some w.L))(hp:σ[i]?=some (some (.ref p))) :
  R K (fun b=>S b/\b≠p) (fun b=>M b/\b≠p) (τ.set i (some (.d w.D))) σ H:=by
 have hlt:i<τ.length:=(List.getElem?_eq_some_iff.mp hi).1
 have ne:∀j,j≠i->(τ.set i (some (.d w.D)))[j]?=τ[j]?:=fun j hj=>List.getElem?_set_ne (Ne.symm hj)
 have se:(τ.set i (some (.d w.D)))[i]?=some (some (.d w.D)):=List.getElem?_set_self hlt
 have k:Same (hid S H) (hid (fun b=>S b/\b≠p) H):=hid_less fun a z=>z.1
 have mn:∀(j:Nat) (ys:Ow),(τ.set i (some (.d w.D)))[j]?=some (some ys.L)->j≠i/\τ[j]?=some (some ys.L):=fun j ys e=>by
  by_cases hj:j=i
  ·subst hj;rw[se]at e;exact absurd (Option.some.inj (Option.some.inj e)).symm Ow.not_d
  ·rw[ne j hj]at e;exact⟨hj,e⟩
 have cs:∀(j:Nat) (ys:List PyData),(τ.set i (some (.d w.D)))[j]?=some (some (.c ys))->τ[j]?=some (some (.c ys)):=fun j ys e=>by
  by_cases hj:j=i
  ·subst hj;rw[se]at e;cases e
  ·rw[ne j hj]at e;exact e
 refine⟨by rw[List.length_set];exact r.len,fun j x e=>?_,fun j ys e=>?_,fun j ys e=>let ⟨a,vs,h1,h2,h3⟩:=r.cst j ys (cs j ys e);⟨a,vs,h1,k.seq h2,h3.mono k⟩,fun j1 j2 ys zs b e1 e2 f1 f2=>?_,fun a h=>⟨r.sub a h.1,h.2⟩,fun a h=>r.ex a h.1,r.gr.to (fun j d e=>?_) (fun j o b e q=>.inl ⟨o,(mn j o e).2,q⟩) (fun b hb hn=>⟨⟨hb,fun z=>hn i w hi (by rw[z];exact hp)⟩,rfl⟩) (tsS k)⟩
 ·by_cases hj:j=i
  ·subst hj
   rw[se]at e
   cases e
   obtain⟨b,us,h1,h2,h3,h4⟩:=r.mt j w hi
   rw[hp]at h1;cases h1
   exact⟨_,hp,IsO.is (h4.mono k) (hid_iff.mpr ⟨fun z=>z.2 rfl,h3⟩)⟩
  ·rw[ne j hj]at e
   obtain⟨v,h1,h2⟩:=r.dat j x e
   exact⟨v,h1,h2.mono k⟩
 ·obtain⟨hj,e⟩:=mn j ys e
  obtain⟨b,us,h1,h2,h3,h4⟩:=r.mt j ys e
  refine⟨b,us,h1,⟨h2,fun z=>?_⟩,h3,h4.mono k⟩
  subst z
  exact hj (r.inj j i ys w b e hi h1 hp)
 ·exact r.inj j1 j2 ys zs b (mn _ _ e1).2 (mn _ _ e2).2 f1 f2
 ·by_cases hj:j=i
  ·subst hj;rw[se]at e;cases e
  ·rw[ne j hj]at e;exact⟨e,rfl⟩
theorem unfrz{S M:Addr->Prop}{τ τ1:DS}{σ:St}{H H':Hp}(r:R K S M τ σ H){i:Nat}{w:Ow}{p:Addr}(hi:τ[i]?=some (some w.L))(hp:σ[i]?=some (some (.ref p)))
  (r1:R K (fun b=>S b/\b≠p) (fun b=>M b/\b≠p) τ1 σ H') (lk:Like (τ.set i (some (.d w.D))) τ1) (c:Chg (fun b=>M b/\b≠p) H H') (ok:τ1.all okM=true):R K S M (τ1.set i (some w.L)) σ H':=by
 have hlt:i<τ.length:=(List.getElem?_eq_some_iff.mp hi).1
 have hl1:τ1.length=τ.length:=by have:=lk.1;rw[List.length_set]at this;exact this
 have hlt1:i<τ1.length:=by omega
 have ne:∀j,j≠i->(τ1.set i (some w.L))[j]?=τ1[j]?:=fun j hj=>List.getElem?_set_ne (Ne.symm hj)
 have se:(τ1.set i (some w.L))[i]?=some (some w.L):=List.getElem?_set_self hlt1
 have ne0:∀j,j≠i->(τ.set i (some (.d w.D)))[j]?=τ[j]?:=fun j hj=>List.getElem?_set_ne (Ne.symm hj)
 obtain⟨b0,us,hb0,h2,h3,h4⟩:=r.mt i w hi
 rw[hp]at hb0;cases hb0
 have h3':H' p=some us:=c p _ (fun z=>z.2 rfl) h3
 have c':Chg M H H':=fun b o hn e=>c b o (fun z=>hn z.1) e
 have k:Keep S H S H':=c'.keep r.sub
 have ts:TSm (hid (fun b=>S b/\b≠p) H') (hid S H'):=tsame_hid fun a z=>by
  by_cases e:a=p
  ·subst e;exact .inr ⟨_,h3',h4.ho⟩
  ·exact .inl ⟨z,e⟩
 have mm:∀(j:Nat) (ys:Ow),j≠i->τ1[j]?=some (some ys.L)->∃zs:Ow,τ[j]?=some (some zs.L):=fun j ys hj e=>by
  obtain⟨zs,q⟩:=(lk.own j).mp ⟨_,e⟩
  rw[ne0 j hj]at q
  exact⟨zs,q⟩
 have cs:∀(j:Nat) (ys:List PyData),(τ1.set i (some w.L))[j]?=some (some (.c ys))->τ[j]?=some (some (.c ys)):=fun j ys e=>by
  by_cases hj:j=i
  ·subst hj;rw[se]at e;exact absurd (Option.some.inj (Option.some.inj e)) Ow.not_c
  ·rw[ne j hj]at e
   have:=((lk.2 j).1.2 ys).mp e
   rw[ne0 j hj]at this
   exact this
 refine⟨by rw[List.length_set];exact r1.len,fun j x e=>?_,fun j ys e=>?_,fun j ys e=>let ⟨a,vs,h1,h2,h3⟩:=r.cst j ys (cs j ys e);⟨a,vs,h1,k.same.seq h2,h3.mono k.same⟩,fun j1 j2 ys zs b e1 e2 f1 f2=>?_,r.sub,fun a h=>?_,r1.gr.to (fun j d e=>?_) (fun j o b e q=>?_) (fun b hb hn=>⟨hb.1,rfl⟩) ts⟩
 ·by_cases hj:j=i
  ·subst hj;rw[se]at e;exact absurd (Option.some.inj (Option.some.inj e)) Ow.not_d
  ·rw[ne j hj]at e
   have:=((lk.2 j).1.1 x).mp e
   rw[ne0 j hj]at this
   obtain⟨v,h5,h6⟩:=r.dat j x this
   exact⟨v,h5,h6.mono k.same⟩
 ·by_cases hj:j=i
  ·subst hj
   rw[se]at e
   obtain rfl:=owL_inj e
   exact⟨p,us,hp,h2,h3',h4.mono k.same⟩
  ·rw[ne j hj]at e
   obtain⟨b,ws,h5,h6,h7,h8⟩:=r1.mt j ys e
   have fx:okM (some ys.L)=true:=List.all_eq_true.mp ok (some ys.L) (List.mem_of_getElem? e)
   exact⟨b,ws,h5,h6.1,h7,h8.monoT ts fx⟩
 ·have g:∀(j:Nat) (ys:Ow),(τ1.set i (some w.L))[j]?=some (some ys.L)->∃zs:Ow,τ[j]?=some (some zs.L):=fun j ys e=>by
   by_cases hj:j=i
   ·subst hj;exact⟨_,hi⟩
   ·rw[ne j hj]at e;exact mm j ys hj e
  obtain⟨_,g1⟩:=g j1 ys e1
  obtain⟨_,g2⟩:=g j2 zs e2
  exact r.inj _ _ _ _ b g1 g2 f1 f2
 ·by_cases e:a=p
  ·subst e;exact⟨_,h3'⟩
  ·exact r1.ex a ⟨h,e⟩
 ·by_cases hj:j=i
  ·subst hj;rw[se]at e;exact absurd (Option.some.inj (Option.some.inj e)) Ow.not_g
  ·rw[ne j hj]at e;exact⟨e,rfl⟩
 ·by_cases hj:j=i
  ·subst hj
   rw[hp]at q;cases q
   exact .inr fun z=>z.2 rfl
  ·rw[ne j hj]at e;exact .inl ⟨o,e,q⟩
theorem like_bor{τ τ1:DS}{i:Nat}{w:Ow}(hi:τ[i]?=some (some w.L))(lk:Like (τ.set i (some (.d w.D))) τ1):Like τ (τ1.set i (some w.L)):=by
 have hlt:i<τ.length:=(List.getElem?_eq_some_iff.mp hi).1
 have hl1:τ1.length=τ.length:=by have:=lk.1;rw[List.length_set]at this;exact this
 refine⟨by rw[List.length_set];exact hl1,fun j=>?_⟩
 by_cases hj:j=i
 ·subst hj
  rw[List.getElem?_set_self (by omega),hi]
  exact⟨⟨fun x=>Iff.rfl,fun x=>Iff.rfl⟩,fun b=>Iff.rfl⟩
 ·have:=lk.2 j
  rw[List.getElem?_set_ne (Ne.symm hj)]at this ⊢
  exact this
theorem e_bor{i:Nat}{fr:Bool}{t:TE}{f:DX}(h:E K t fr f):E K t false (dBor i f):=by
 refine⟨fun τ d τ' e=>?_,?_⟩
 ·obtain⟨xs,τ1,e1,e2,_,_,rfl⟩:=dBor_some e
  exact like_bor e1 (h.like _ _ _ e2)
 intro S M τ σ H Q d τ' r e q
 obtain⟨xs,τ1,e1,e2,fx,ok,rfl⟩:=dBor_some e
 obtain⟨p,us,hp,hM,hl,ll⟩:=r.mt i xs e1
 refine h.weak.run _ _ _ σ H _ d τ1 (frz r e1 hp) e2 fun v H' r' c res=>?_
 have r2:=unfrz r e1 hp r' (h.like _ _ _ e2) c ok
 refine q v H' r2 (fun b o hn e=>c b o (fun z=>hn z.1) e) ?_
 have h3':H' p=some us:=c p _ (fun z=>z.2 rfl) hl
 exact Is.monoT (tsame_hid fun a z => by
  by_cases e:a=p
  ·subst e;exact .inr ⟨_,h3',ll.ho⟩
  ·exact .inl ⟨z,e⟩) fx (show Is K (hid (fun b=>S b/\b≠p) H') d v from res)
def dBorF(i:Nat)(f:DX)(τ:DS):Option (PyData×DS):=match τ[i]? with
 |some (some (.m xs))=>(f (τ.set i (some (.d (.list xs))))).bind fun q=>match q.1 with
  |.list ys=>if fixDs ys&&q.2.all okM then some (q.1,q.2.set i (some (.m xs))) else none
  |_=>none
 |some (some (.k xs))=>(f (τ.set i (some (.d (.dict (dctP xs)))))).bind fun q=>match q.1 with
  |.list ys=>if fixDs ys&&q.2.all okM then some (q.1,q.2.set i (some (.k xs))) else none
  |_=>none
 |_=>none
theorem dBorF_some{i:Nat}{f:DX}{τ:DS}{d:PyData}{τ':DS}(e:dBorF i f τ=some (d,τ')):∃w τ1 ys,τ[i]?=some (some (Ow.L w))/\f (τ.set i (some (.d w.D)))=some (d,τ1)/\d = .list ys/\fixDs ys=true/\τ1.all okM=true/\τ'=τ1.set i (some w.L):=by
 unfold dBorF at e
 split at e
 ·rename_i xs hx
  obtain⟨⟨z,τ1⟩,e1,e⟩:=oB e
  dsimp only at e
  split at e
  ·split at e
   ·rename_i h
    rw[Bool.and_eq_true]at h
    cases e
    exact⟨.l xs,τ1,_,hx,e1,rfl,h.1,h.2,rfl⟩
   ·cases e
  ·cases e
 ·rename_i xs hx
  obtain⟨⟨z,τ1⟩,e1,e⟩:=oB e
  dsimp only at e
  split at e
  ·split at e
   ·rename_i h
    rw[Bool.and_eq_true]at h
    cases e
    exact⟨.t xs,τ1,_,hx,e1,rfl,h.1,h.2,rfl⟩
   ·cases e
  ·cases e
 ·cases e
theorem Ow.D_list{o:Ow}{ys:List PyData}(h:PyData.list ys=o.D):o = .l ys:=by
 cases o with
 |l xs=>cases h;rfl
 |t kvs=>cases h
theorem e_borF{i:Nat}{t:TE}{f:DX}(h:E K t true f):E K t true (dBorF i f):=by
 refine⟨fun τ d τ' e=>?_,?_⟩
 ·obtain⟨xs,τ1,ys,e1,e2,_,_,_,rfl⟩:=dBorF_some e
  exact like_bor e1 (h.like _ _ _ e2)
 intro S M τ σ H Q d τ' r e q
 obtain⟨xs,τ1,ys,e1,e2,rfl,fx,ok,rfl⟩:=dBorF_some e
 obtain⟨p,us,hp,hM,hl,ll⟩:=r.mt i xs e1
 refine h.run _ _ _ σ H _ _ τ1 (frz r e1 hp) e2 fun v H' r' c res=>?_
 have r2:=unfrz r e1 hp r' (h.like _ _ _ e2) c ok
 refine q v H' r2 (fun b o hn e=>c b o (fun z=>hn z.1) e) ?_
 have h3':H' p=some us:=c p _ (fun z=>z.2 rfl) hl
 obtain⟨o,a,vs,e3,rfl,h5,h6,h7⟩:=res
 obtain rfl:=Ow.D_list e3
 refine⟨.l ys,a,vs,rfl,rfl,h5,h6,IsO.monoT (tsame_hid fun b z=>?_) fx h7⟩
 rcases z with z|z
 ·by_cases e:b=p
  ·subst e;exact .inr ⟨_,h3',ll.ho⟩
  ·exact .inl (.inl ⟨z,e⟩)
 ·exact .inl (.inr z)
end DL
end
section
namespace DL
open PySem L2
variable {K:KW}
def ItIs(K:KW)(S:Addr->Prop)(J:It)(H:Hp)(ds:List PyData):Prop:=∀(S2:Addr->Prop) (H2:Hp),Keep S H S2 H2->(∀(i:Nat) (d:PyData),ds[i]?=some d->J.go i H2/\∀x H3,J.yld i H2 x H3->H3=H2/\Is K (hid S2 H2) d x)/\∀i,ds.length<=i->J.stop i H2
abbrev DI:=DS->Option (List PyData×DS)
structure IT(K:KW)(wi:TI)(f:DI):Prop where
 like:∀τ ds τ',f τ=some (ds,τ')->Like τ τ'
 run:∀S M τ σ H (Q:It->Hp->Prop) ds τ',R K S M τ σ H->f τ=some (ds,τ')->(∀J H',R K S M τ' σ H'->Chg M H H'->ItIs K S J H' ds->Q J H')->wi σ H Q
def dIL(f:DX)(τ:DS):Option (List PyData×DS):=(f τ).bind fun p=>match p.1 with
 |.list ds=>some (ds,p.2)
 |_=>none
def dIT(f:DX)(τ:DS):Option (List PyData×DS):=(f τ).bind fun p=>match p.1 with
 |.tuple ds=>some (ds,p.2)
 |_=>none
theorem it_list{fr:Bool}{t:TE}{f:DX}(h:E K t fr f):IT K (iList K t) (dIL f):=by
 refine⟨fun τ d τ' e=>?_,?_⟩
 ·unfold dIL at e
  obtain⟨⟨x,τ1⟩,e1,e⟩:=oB e
  dsimp only at e
  split at e
  ·cases e;exact h.like _ _ _ e1
  ·cases e
 intro S M τ σ H Q ds τ' r e q
 unfold dIL at e
 obtain⟨⟨x,τ1⟩,e1,e⟩:=oB e
 dsimp only at e
 split at e
 ·cases e
  refine h.weak.run S M τ σ H _ _ _ r e1 fun v H1 r1 c1 i1=>?_
  have i1':Is K (hid S H1) (.list ds) v:=i1
  obtain⟨a,vs,rfl,hl,ll⟩:=i1'
  refine⟨a,rfl,⟨vs,SqL.of (hid_iff.mp hl).2⟩,q _ H1 r1 c1 fun S2 H2 k=>?_⟩
  have hl2:=k.same _ _ hl
  have ll2:=ll.mono k.same
  refine⟨fun i d e=>?_,fun i hi=>⟨vs,SqL.of (hid_iff.mp hl2).2,by rw[ll.length];exact hi⟩⟩
  obtain⟨u,h1,h2⟩:=ll2.get e
  refine⟨⟨vs,u,SqL.of (hid_iff.mp hl2).2,h1⟩,fun x H3 y=>⟨y.1,?_⟩⟩
  have:=y.2 vs (SqL.of (hid_iff.mp hl2).2)
  rw[h1]at this;cases this
  exact h2
 ·cases e
theorem it_tup{fr:Bool}{t:TE}{f:DX}(h:E K t fr f):IT K (iTup K t) (dIT f):=by
 refine⟨fun τ d τ' e=>?_,?_⟩
 ·unfold dIT at e
  obtain⟨⟨x,τ1⟩,e1,e⟩:=oB e
  dsimp only at e
  split at e
  ·cases e;exact h.like _ _ _ e1
  ·cases e
 intro S M τ σ H Q ds τ' r e q
 unfold dIT at e
 obtain⟨⟨x,τ1⟩,e1,e⟩:=oB e
 dsimp only at e
 split at e
 ·cases e
  refine h.weak.run S M τ σ H _ _ _ r e1 fun v H1 r1 c1 i1=>?_
  have i1':Is K (hid S H1) (.tuple ds) v:=i1
  obtain⟨a,vs,rfl,hl,ll⟩:=i1'
  refine⟨a,rfl,⟨vs,Same.tup same_hid hl⟩,q _ H1 r1 c1 fun S2 H2 k=>?_⟩
  have hl2:=Same.tup same_hid (Same.tup k.same hl)
  have ll2:=ll.mono k.same
  refine⟨fun i d e=>?_,fun i hi=>⟨vs,hl2,by rw[ll.length];exact hi⟩⟩
  obtain⟨u,h1,h2⟩:=ll2.get e
  refine⟨⟨vs,u,hl2,h1⟩,fun x H3 y=>⟨y.1,?_⟩⟩
  have:=y.2 vs hl2
  rw[h1]at this;cases this
  exact h2
 ·cases e
def rangeD(lo:Int)(n:Nat):List PyData:=(List.range n).map fun(k:Nat)=>PyData.int (lo+(k:Int))
theorem range_is{S:Addr->Prop}{H:Hp}{lo:Int}{n:Nat}:ItIs K S (Itr lo n) H (rangeD lo n):=by
 intro S2 H2 k
 refine⟨fun i d e=>?_,fun i hi=>?_⟩
 ·unfold rangeD at e
  rw[List.getElem?_map]at e
  by_cases hi:i<n
  ·rw[List.getElem?_range hi]at e
   cases e
   exact⟨hi,fun x H3 y=>⟨y.1,y.2⟩⟩
  ·rw[List.getElem?_eq_none (by simpa using hi)]at e
   cases e
 ·unfold rangeD at hi
  rw[List.length_map,List.length_range]at hi
  exact hi
def dR1(a:DA)(τ:DS):Option (List PyData×DS):=(a τ).bind fun p=>(allD p.1).bind fun ds=>match ds with
 |[.int j]=>if -(2 ^ 62)<=j/\j<2 ^ 62 then some (rangeD 0 j.toNat,p.2) else none
 |_=>none
def dR2(a:DA)(τ:DS):Option (List PyData×DS):=(a τ).bind fun p=>(allD p.1).bind fun ds=>match ds with
 |[.int i,.int j]=>if -(2 ^ 62)<=i/\i<2 ^ 62/\-(2 ^ 62)<=j/\j<2 ^ 62 then some (rangeD i (j-i).toNat,p.2) else none
 |_=>none
theorem it_range1{t:TA}{a:DA}(ha:A K t a):IT K (iRng1 t) (dR1 a):=by
 refine⟨fun τ d τ' e=>?_,?_⟩
 ·unfold dR1 at e
  obtain⟨⟨x,τ1⟩,e1,e⟩:=oB e
  obtain⟨ds,e2,e⟩:=oB e
  split at e
  ·split at e
   ·cases e;exact ha.like _ _ _ e1
   ·cases e
  ·cases e
 intro S M τ σ H Q ds τ' r e q
 unfold dR1 at e
 obtain⟨⟨x,τ1⟩,e1,e⟩:=oB e
 obtain⟨ds',e2,e⟩:=oB e
 split at e
 ·split at e
  ·rename_i j hj
   cases e
   refine ha.run S M τ σ H _ x _ r e1 fun vs H1 r1 c1 i1=>?_
   obtain⟨v,us,rfl,iv,iu⟩:=allD_is i1 e2
   cases (show us=[] from iu)
   exact⟨j,by rw[show v = .int j from iv],hj.1,hj.2,q _ H1 r1 c1 range_is⟩
  ·cases e
 ·cases e
abbrev DG:=PyData->DS->Option DS
def MSame(τ τ':DS):Prop:=τ'.length=τ.length/\∀(j:Nat) (o:Ow),τ'[j]?=some (some o.L)↔τ[j]?=some (some o.L)
theorem MSame.refl{τ:DS}:MSame τ τ:=⟨rfl,fun _ _=>Iff.rfl⟩
theorem MSame.trans{τ τ1 τ2:DS}(a:MSame τ τ1)(b:MSame τ1 τ2):MSame τ τ2:=⟨b.1.trans a.1,fun j xs=>(b.2 j xs).trans (a.2 j xs)⟩
structure TG1 K (g:TG) (f:DG):Prop where
 ms:∀d τ τ',f d τ=some τ'->MSame τ τ'
 run:∀S M τ σ H v d τ' (Q:St->Hp->Prop),R K S M τ σ H->Is K (hid S H) d v->f d τ=some τ'->(∀σ',R K S M τ' σ' H->(∀(j:Nat) (o:Ow),τ[j]?=some (some o.L)->σ'[j]?=σ[j]?)->Q σ' H)->g v σ H Q
structure TG2 K (g:TGs) (f:List PyData->DS->Option DS):Prop where
 ms:∀d τ τ',f d τ=some τ'->MSame τ τ'
 run:∀S M τ σ H vs ds τ' (Q:St->Hp->Prop),R K S M τ σ H->IsL K (hid S H) ds vs->f ds τ=some τ'->(∀σ',R K S M τ' σ' H->(∀(j:Nat) (o:Ow),τ[j]?=some (some o.L)->σ'[j]?=σ[j]?)->Q σ' H)->g vs σ H Q
def dN(i:Nat)(d:PyData)(τ:DS):Option DS:=match τ[i]? with
 |some (some (.m _))=>none
 |some (some (.k _))=>none
 |some _=>some (τ.set i (some (.d d)))
 |none=>none
theorem dN_some{i:Nat}{d:PyData}{τ τ':DS}(e:dN i d τ=some τ'):i<τ.length/\(∀o:Ow,τ[i]?≠some (some o.L))/\τ'=τ.set i (some (.d d)):=by
 unfold dN at e
 split at e
 ·cases e
 ·cases e
 ·rename_i o hn hk ho
  cases e
  refine⟨(List.getElem?_eq_some_iff.mp ho).1,fun xs z=>?_,rfl⟩
  rw[ho]at z
  cases xs with
  |l xs=>exact hn xs (Option.some.inj z)
  |t xs=>exact hk xs (Option.some.inj z)
 ·cases e
theorem R.setD{S M:Addr->Prop}{τ:DS}{σ:St}{H:Hp}(r:R K S M τ σ H){i:Nat}{d:PyData}{v:V}(hi:i<τ.length)(hm:∀o:Ow,τ[i]?≠some (some o.L))(iv:Is K (hid S H) d v):R K S M (τ.set i (some (.d d))) (σ.set i (some v)) H:=by
 have hs:i<σ.length:=by rw[r.len];exact hi
 have ne:∀j,j≠i->(τ.set i (some (.d d)))[j]?=τ[j]?:=fun j hj=>List.getElem?_set_ne (Ne.symm hj)
 have ne':∀j,j≠i->(σ.set i (some v))[j]?=σ[j]?:=fun j hj=>List.getElem?_set_ne (Ne.symm hj)
 have mn:∀(j:Nat) (ys:Ow),(τ.set i (some (.d d)))[j]?=some (some ys.L)->j≠i/\τ[j]?=some (some ys.L):=fun j ys e=>by
  by_cases hj:j=i
  ·subst hj;rw[List.getElem?_set_self hi]at e;exact absurd (Option.some.inj (Option.some.inj e)).symm Ow.not_d
  ·rw[ne j hj]at e;exact⟨hj,e⟩
 refine⟨by rw[List.length_set,List.length_set];exact r.len,fun j x e=>?_,fun j xs e=>?_,fun j xs e=>?_,fun j1 j2 ys zs b e1 e2 f1 f2=>?_,r.sub,r.ex,r.gr.to (fun j x e=>?_) (fun j o b e q=>.inl ⟨o,(mn j o e).2,by rw[ne' j (mn j o e).1]at q;exact q⟩) (fun b hb hn=>⟨hb,rfl⟩) .refl⟩
 ·by_cases hj:j=i
  ·subst hj
   rw[List.getElem?_set_self hi]at e
   cases e
   exact⟨v,List.getElem?_set_self hs,iv⟩
  ·rw[ne j hj]at e
   rw[ne' j hj]
   exact r.dat j x e
 ·obtain⟨hj,e⟩:=mn j xs e
  rw[ne' j hj]
  exact r.mt j xs e
 ·by_cases hj:j=i
  ·subst hj;rw[List.getElem?_set_self hi]at e;cases e
  ·rw[ne j hj]at e
   rw[ne' j hj]
   exact r.cst j xs e
 ·obtain⟨h1,e1⟩:=mn j1 ys e1
  obtain⟨h2,e2⟩:=mn j2 zs e2
  rw[ne' _ h1]at f1
  rw[ne' _ h2]at f2
  exact r.inj _ _ _ _ b e1 e2 f1 f2
 ·by_cases hj:j=i
  ·subst hj;rw[List.getElem?_set_self hi]at e;cases e
  ·rw[ne j hj]at e;exact⟨e,ne' j hj⟩
theorem ms_setD{τ:DS}{i:Nat}{d:PyData}(hi:i<τ.length)(hm:∀o:Ow,τ[i]?≠some (some o.L)):MSame τ (τ.set i (some (.d d))):=by
 refine⟨by rw[List.length_set],fun j xs=>?_⟩
 by_cases hj:j=i
 ·subst hj
  rw[List.getElem?_set_self hi]
  exact⟨fun z=>absurd (Option.some.inj (Option.some.inj z)).symm Ow.not_d,fun z=>absurd z (hm xs)⟩
 ·rw[List.getElem?_set_ne (Ne.symm hj)]
theorem g_name{i:Nat}:TG1 K (gName i) (dN i):=by
 refine⟨fun d τ τ' e=>?_,?_⟩
 ·obtain⟨h1,h2,rfl⟩:=dN_some e
  exact ms_setD h1 h2
 intro S M τ σ H v d τ' Q r iv e q
 obtain⟨h1,h2,rfl⟩:=dN_some e
 refine q _ (r.setD h1 h2 iv) fun j xs ej=>?_
 have:j≠i:=fun z=>h2 xs (by rw[<- z];exact ej)
 exact List.getElem?_set_ne (Ne.symm this)
def dGNil:List PyData->DS->Option DS
 |[],τ=>some τ
 |_::_,_=>none
def dGCons(f:DG)(g:List PyData->DS->Option DS):List PyData->DS->Option DS
 |d::ds,τ=>(f d τ).bind fun τ1=>g ds τ1
 |[],_=>none
theorem gs_nil:TG2 K gNil dGNil:=by
 refine⟨fun d τ τ' e=>?_,?_⟩
 ·cases d with
  |nil=>cases e;exact .refl
  |cons _ _=>cases e
 intro S M τ σ H vs ds τ' Q r iv e q
 cases ds with
 |nil=>cases e;exact⟨iv,q σ r fun _ _ _=>rfl⟩
 |cons _ _=>cases e
theorem gs_cons{t:TG}{u:TGs}{f:DG}{g:List PyData->DS->Option DS}(h1:TG1 K t f)(h2:TG2 K u g):TG2 K (gCons t u) (dGCons f g):=by
 refine⟨fun d τ τ' e=>?_,?_⟩
 ·cases d with
  |nil=>cases e
  |cons d ds =>
   obtain⟨τ1,e1,e⟩:=oB e
   exact(h1.ms _ _ _ e1).trans (h2.ms _ _ _ e)
 intro S M τ σ H vs ds τ' Q r iv e q
 cases ds with
 |nil=>cases e
 |cons d ds =>
  obtain⟨τ1,e1,e⟩:=oB e
  obtain⟨v,us,rfl,iv,iu⟩:=iv
  refine⟨v,us,rfl,h1.run S M τ σ H v d τ1 _ r iv e1 fun σ1 r1 k1=>?_⟩
  refine h2.run S M τ1 σ1 H us ds τ' _ r1 iu e fun σ2 r2 k2=>?_
  refine q σ2 r2 fun j xs hj=>?_
  rw[k2 j xs (((h1.ms _ _ _ e1).2 j xs).mpr hj),k1 j xs hj]
def dGT(g:List PyData->DS->Option DS)(d:PyData)(τ:DS):Option DS:=match d with
 |.tuple ds=>g ds τ
 |_=>none
theorem g_tup{n:Nat}{u:TGs}{g:List PyData->DS->Option DS}(h:TG2 K u g)(hn:∀ds τ τ',g ds τ=some τ'->ds.length=n):TG1 K (gTup K n u) (dGT g):=by
 refine⟨fun d τ τ' e=>?_,?_⟩
 ·unfold dGT at e
  split at e
  ·exact h.ms _ _ _ e
  ·cases e
 intro S M τ σ H v d τ' Q r iv e q
 unfold dGT at e
 split at e
 ·obtain⟨a,vs,rfl,hl,ll⟩:=iv
  exact⟨a,vs,rfl,Same.tup same_hid hl,by rw[ll.length];exact hn _ _ _ e,h.run S M τ σ H vs _ τ' Q r ll e q⟩
 ·cases e
theorem len_nil:∀(ds:List PyData) (τ τ':DS),dGNil ds τ=some τ'->ds.length=0
 |[],_,_,_=>rfl
 |_::_,_,_,e=>by cases e
theorem len_cons{n:Nat}{f:DG}{g:List PyData->DS->Option DS}(h:∀ds τ τ',g ds τ=some τ'->ds.length=n):∀(ds:List PyData) (τ τ':DS),dGCons f g ds τ=some τ'->ds.length=n+1
 |[],_,_,e=>by cases e
 |d::ds,τ,τ',e=>by
  obtain⟨τ1,e1,e⟩:=oB e
  rw[List.length_cons,h _ _ _ e]
def lcLoop(g:DG)(c:DT)(e:DX):List PyData->List PyData->DS->Option (List PyData×DS)
 |[],acc,τ=>some (acc,τ)
 |d::ds,acc,τ=>(g d τ).bind fun τ1=>(c τ1).bind fun p=>if p.1=true then (e p.2).bind fun q=>lcLoop g c e ds (acc++[q.1]) q.2 else lcLoop g c e ds acc p.2
def noG:Option L->Option L
 |some (.g _)=>none
 |o=>o
def blkD(own:Nat)(fr:List Nat)(τ:DS):DS:=List.replicate own none++fr.map fun j=>noG (τ[j]?).join
theorem noG_some{o:Option L}{l:L}(h:noG o=some l):o=some l/\∀x,l≠.g x:=by
 unfold noG at h
 split at h
 ·cases h
 ·rename_i hn
  exact⟨h,fun x z=>hn x (by rw[h,z])⟩
def isM(τ:DS)(j:Nat):Bool:=match τ[j]? with
 |some (some (.m _))=>true
 |some (some (.k _))=>true
 |_=>false
theorem isM_iff{τ:DS}{j:Nat}:isM τ j=true↔∃o:Ow,τ[j]?=some (some o.L):=by
 unfold isM
 split
 ·rename_i xs h;exact⟨fun _=>⟨.l xs,h⟩,fun _=>rfl⟩
 ·rename_i xs h;exact⟨fun _=>⟨.t xs,h⟩,fun _=>rfl⟩
 ·rename_i h1 h2
  exact ⟨fun z => (nomatch z), fun ⟨o, z⟩ => by
   cases o with
   |l xs=>exact absurd z (h1 xs)
   |t xs=>exact absurd z (h2 xs)⟩
def dLC(own:Nat)(fr:List Nat)(it:DI)(g:DG)(c:DT)(e:DX)(τ:DS):Option (PyData×DS):=(it τ).bind fun p=>if p.1.length<=sizeLine/\(fr.all fun j=>!isM p.2 j)=true then (lcLoop g c e p.1 [] (blkD own fr p.2)).map fun q=>(.list q.1,p.2) else none
theorem blkD_get{own:Nat}{fr:List Nat}{τ:DS}{i:Nat}{l:L}(h:(blkD own fr τ)[i]?=some (some l)):∃k j,i=own+k/\fr[k]?=some j/\τ[j]?=some (some l):=by
 unfold blkD at h
 by_cases hi:i<own
 ·rw[List.getElem?_append_left (by simpa using hi),List.getElem?_replicate,if_pos hi]at h
  cases h
 ·rw[List.getElem?_append_right (by simpa using hi),List.length_replicate,List.getElem?_map]at h
  cases e:fr[i-own]? with
  |none=>rw[e]at h;cases h
  |some j =>
   rw[e]at h
   simp only[Option.map_some,Option.some.injEq]at h
   refine⟨i-own,j,by omega,e,?_⟩
   replace h:=(noG_some h).1
   cases q:τ[j]? with
   |none=>rw[q]at h;cases h
   |some o=>rw[q]at h;cases o with
    |none=>cases h
    |some u=>cases h;rfl
theorem blkD_g{own:Nat}{fr:List Nat}{τ:DS}(i:Nat)(d:PyData):(blkD own fr τ)[i]?≠some (some (.g d)):=fun h=>by
 unfold blkD at h
 by_cases hi:i<own
 ·rw[List.getElem?_append_left (by simpa using hi),List.getElem?_replicate,if_pos hi]at h
  cases h
 ·rw[List.getElem?_append_right (by simpa using hi),List.length_replicate,List.getElem?_map]at h
  cases e:fr[i-own]? with
  |none=>rw[e]at h;cases h
  |some j =>
   rw[e]at h
   simp only[Option.map_some,Option.some.injEq]at h
   exact(noG_some h).2 d rfl
theorem blk_at{own:Nat}{fr:List Nat}{σ:St}{k j:Nat}{v:V}(e:fr[k]?=some j)(h:σ[j]?=some (some v)):(blk own fr σ)[own+k]?=some (some v):=by
 unfold blk
 rw[List.getElem?_append_right (by simp),List.length_replicate,List.getElem?_map,show own+k-own=k by omega,e]
 show some (σ[j]?).join=_
 rw[h];rfl
theorem isl_snoc{H:Hp}{xs:List PyData}{vs:List V}{d:PyData}{v:V}(l:IsL K H xs vs)(i:Is K H d v):IsL K H (xs++[d]) (vs++[v]):=isl_append l ⟨v,[],rfl,i,rfl⟩
theorem e_lc{own:Nat}{fr:List Nat}{wi:TI}{it:DI}{tg:TG}{g:DG}{tc:TT}{c:DT}{te:TE}{e:DX}{fe:Bool}(hi:IT K wi it)(hg:TG1 K tg g)(hc:T K tc c)(he:E K te fe e):E K (tLC own fr wi tg tc te) true (dLC own fr it g c e):=by
 refine⟨fun τ d τ' e=>?_,?_⟩
 ·unfold dLC at e
  obtain⟨⟨x,τ1⟩,e1,e⟩:=oB e
  split at e
  ·obtain⟨z,e3,e⟩:=oM e
   cases e;exact hi.like _ _ _ e1
  ·cases e
 intro S M τ σ H Q d τ' r ee q
 unfold dLC at ee
 obtain⟨⟨ds,τ1⟩,e1,ee⟩:=oB ee
 split at ee
 ·rename_i hz
  obtain⟨hz,hnm⟩:=hz
  have hz:ds.length<=sizeLine:=hz
  obtain⟨⟨acc,τb⟩,e3,ee⟩:=oM ee
  obtain⟨rfl,rfl⟩:d = .list acc/\τ'=τ1:=by cases ee;exact⟨rfl,rfl⟩
  refine hi.run S M τ σ H _ ds _ r e1 fun J H1 r1 c1 iJ=>?_
  intro D hD
  -- nothing of the def may be changed in the block
  refine⟨fun i m ys σ' H'=>∃τb' acc',R K (fun b=>S b\/b=D) (fun _=>False) τb' σ' H'/\Keep S H1 (fun b=>S b\/b=D) H'/\Chg (fun b=>b=D) H1 H'/\IsL K (hid (fun b=>S b\/b=D) H') acc' ys/\H' D=some (.lst ys)/\ys.length<=i/\i<=ds.length/\m=ds.length-i/\lcLoop g c e (ds.drop i) acc' τb'=some (acc,τb),?_,?_⟩
  ·have s:=same_new hD (HO.lst [])
   have k:Keep S H1 (fun b=>S b\/b=D) (upd H1 D (.lst [])):=fun b o hn e=>by
    have:=ne_of_none e hD
    exact⟨fun z=>z.elim hn this,s b o e⟩
   refine⟨ds.length,blkD own fr τ',[],⟨?_,?_,?_,?_,?_,fun a h=>h.elim,?_,GR.nil (r1.gr.1.to (tsS k.same)) blkD_g⟩,k,.of s,rfl,upd_same,Nat.le_refl _,Nat.zero_le _,by simp,by simpa using e3⟩
   ·unfold blk blkD;simp
   ·intro i x e
    obtain⟨kk,j,rfl,ej,et⟩:=blkD_get e
    obtain⟨v,h1,h2⟩:=r1.dat j x et
    exact⟨v,blk_at ej h1,h2.mono k.same⟩
   ·intro i xs e
    obtain⟨kk,j,rfl,ej,et⟩:=blkD_get e
    have:=List.all_eq_true.mp hnm j (List.mem_of_getElem? ej)
    rw[isM_iff.mpr ⟨xs,et⟩]at this
    cases this
   ·intro i x e
    obtain⟨kk,j,rfl,ej,et⟩:=blkD_get e
    obtain⟨a,vs,h1,h2,h3⟩:=r1.cst j x et
    exact⟨a,vs,blk_at ej h1,k.same.seq h2,h3.mono k.same⟩
   ·intro i j xs ys a e
    obtain⟨kk,j',rfl,ej,et⟩:=blkD_get e
    have:=List.all_eq_true.mp hnm j' (List.mem_of_getElem? ej)
    rw[isM_iff.mpr ⟨xs,et⟩]at this
    cases this
   ·rintro a (h|rfl)
    ·obtain⟨o,e⟩:=r1.ex a h
     exact⟨o,s _ _ e⟩
    ·exact⟨_,upd_same⟩
  ·rintro i m ys σ' H' ⟨τb',acc',rb,k,ch,la,hHD,hyl,hil,rfl,hl⟩
   obtain⟨I1,I2⟩:=iJ _ _ k
   by_cases hlt:i<ds.length
   ·right
    have ed:ds[i]?=some ds[i]:=List.getElem?_eq_getElem hlt
    obtain⟨go,yl⟩:=I1 i _ ed
    refine⟨go,fun x H2 y=>?_⟩
    obtain⟨rfl,ix⟩:=yl x H2 y
    rw[List.drop_eq_getElem_cons hlt,lcLoop]at hl
    obtain⟨τ2,e2,hl⟩:=oB hl
    obtain⟨⟨b,τ3⟩,e4,hl⟩:=oB hl
    refine hg.run _ _ τb' σ' H2 x _ τ2 _ rb ix e2 fun σ3 r3 k3=>?_
    refine hc.run _ _ τ2 σ3 H2 _ b τ3 r3 e4 fun H4 r4 c4=>?_
    have s4:Same H2 H4:=fun b o e=>c4 b o (fun z=>z) e
    cases b with
    |false =>
     rw[if_neg Bool.false_ne_true]
     exact⟨ds.length-(i+1),by omega,τ3,acc',r4,k.trans (Same.keep s4),ch.trans (.of s4),la.mono (Same.keep s4).same,s4 _ _ hHD,by omega,hlt,rfl,hl⟩
    |true =>
     rw[if_pos rfl]
     rw[if_pos rfl]at hl
     obtain⟨⟨z,τ5⟩,e5,hl⟩:=oB hl
     refine he.weak.run _ _ τ3 σ3 H4 _ z τ5 r4 e5 fun v H5 r5 c5 i5=>?_
     have s5:Same H2 H5:=s4.trans fun b o e=>c5 b o (fun z=>z) e
     have hD5:=s5 _ _ hHD
     refine⟨hD5,by omega,ds.length-(i+1),by omega,τ5,acc'++[z],?_,?_,?_,?_,upd_same,by rw[List.length_append,List.length_singleton];omega,hlt,rfl,hl⟩
     ·have kk:Keep (fun b=>S b\/b=D) H5 (fun b=>S b\/b=D) (upd H5 D (.lst (ys++[v]))):=fun b o hn e=>⟨hn,by rw[upd_ne (fun z=>hn (.inr z))];exact e⟩
      refine⟨r5.len,fun j x e=>let ⟨u,a,b⟩:=r5.dat j x e;⟨u,a,b.mono kk.same⟩,fun j xs e=>let ⟨_,_,_,h,_⟩:=r5.mt j xs e;h.elim,fun j xs e=>let ⟨a,vs,h1,h2,h3⟩:=r5.cst j xs e;⟨a,vs,h1,kk.same.seq h2,h3.mono kk.same⟩,r5.inj,fun _ h=>h.elim,fun a h=>?_,r5.gr.to (fun i d e=>⟨e,rfl⟩) (fun j o a e q=>.inl ⟨o,e,q⟩) (fun a h _=>h.elim) (tsS kk.same)⟩
      by_cases e:a=D
      ·subst e;exact⟨_,upd_same⟩
      ·obtain⟨o,q⟩:=r5.ex a h
       exact⟨o,by rw[upd_ne e];exact q⟩
     ·refine k.trans fun b o hn e=>⟨hn,?_⟩
      rw[upd_ne (fun z=>hn (.inr z))]
      exact s5 _ _ e
     ·refine ch.trans fun b o hn e=>?_
      rw[upd_ne hn]
      exact s5 _ _ e
     ·refine(isl_snoc (la.mono (Same.keep s5).same) i5).mono (Keep.same fun b o hn e=>⟨hn,?_⟩)
      rw[upd_ne (fun z=>hn (.inr z))]
      exact e
   ·left
    have e:i=ds.length:=by omega
    subst e
    rw[List.drop_length,lcLoop]at hl
    cases hl
    refine⟨I2 _ (Nat.le_refl _),?_⟩
    have s:Same H1 H':=fun b o e=>ch b o (ne_of_none e hD) e
    refine q _ H' (r1.same s) (c1.trans (.of s)) ⟨.l acc,D,_,rfl,rfl,r1.none c1 hD,hHD,ys,rfl,la⟩
 ·cases ee
end DL
end
section
namespace DL
open PySem L2
variable {K:KW}
def dLCm(own:Nat)(f1:List Nat)(j0:Nat)(f2:List Nat)(it:DI)(g:DG)(c:DT)(e:DX)(τ:DS):Option (PyData×DS):=(it τ).bind fun p=>if p.1.length<=sizeLine/\isM p.2 j0=true/\((f1++f2).all fun j=>!isM p.2 j)=true then
  (lcLoop g c e p.1 [] (blkD own (f1++j0::f2) p.2)).bind fun q=>match q.2[own+f1.length]?,p.2[j0]? with
   |some (some (.m xs)),some (some (.m _))=>some (.list q.1,p.2.set j0 (some (.m xs)))
   |some (some (.k xs)),some (some (.k _))=>some (.list q.1,p.2.set j0 (some (.k xs)))
   |_,_=>none
 else none
theorem dLCm_some{own:Nat}{f1:List Nat}{j0:Nat}{f2:List Nat}{it:DI}{g:DG}{c:DT}{e:DX}{τ:DS}{d:PyData}{τ':DS}(h:dLCm own f1 j0 f2 it g c e τ=some (d,τ')) :
  ∃ds τ1 acc τb xs,it τ=some (ds,τ1)/\ds.length<=sizeLine/\isM τ1 j0=true/\((f1++f2).all fun j=>!isM τ1 j)=true/\lcLoop g c e ds [] (blkD own (f1++j0::f2) τ1)=some (acc,τb)/\τb[own+f1.length]?=some (some (Ow.L xs))/\d = .list acc/\τ'=τ1.set j0 (some xs.L)/\∃y0:Ow,τ1[j0]?=some (some y0.L)/\y0.fl=xs.fl:=by
 unfold dLCm at h
 obtain⟨⟨ds,τ1⟩,e1,h⟩:=oB h
 split at h
 ·rename_i hz
  obtain⟨⟨acc,τb⟩,e3,h⟩:=oB h
  dsimp only at h
  split at h
  ·rename_i xs ys hx hy
   cases h
   exact⟨ds,τ1,acc,τb,.l xs,e1,hz.1,hz.2.1,hz.2.2,e3,hx,rfl,rfl,.l _,hy,rfl⟩
  ·rename_i xs ys hx hy
   cases h
   exact⟨ds,τ1,acc,τb,.t xs,e1,hz.1,hz.2.1,hz.2.2,e3,hx,rfl,rfl,.t _,hy,rfl⟩
  ·cases h
 ·cases h
theorem at_mid{f1 f2:List Nat}{j0 k j:Nat}(h:(f1++j0::f2)[k]?=some j):(k=f1.length/\j=j0)\/j∈f1++f2:=by
 rcases Nat.lt_trichotomy k f1.length with q|q|q
 ·rw[List.getElem?_append_left q]at h
  exact .inr (List.mem_append_left _ (List.mem_of_getElem? h))
 ·subst q
  rw[List.getElem?_append_right (Nat.le_refl _),Nat.sub_self]at h
  cases h
  exact .inl ⟨rfl,rfl⟩
 ·rw[List.getElem?_append_right (by omega)]at h
  have e:k-f1.length=(k-f1.length-1)+1:=by omega
  rw[e,List.getElem?_cons_succ]at h
  exact .inr (List.mem_append_right _ (List.mem_of_getElem? h))
theorem e_lcm{own:Nat}{f1:List Nat}{j0:Nat}{f2:List Nat}{wi:TI}{it:DI}{tg:TG}{g:DG}{tc:TT}{c:DT}{te:TE}{e:DX}{fe:Bool}(hi:IT K wi it)(hg:TG1 K tg g)(hc:T K tc c)(he:E K te fe e):E K (tLC own (f1++j0::f2) wi tg tc te) true (dLCm own f1 j0 f2 it g c e):=by
 refine⟨fun τ d τ' h=>?_,?_⟩
 ·obtain⟨ds,τ1,acc,τb,xs,e1,_,hm,_,_,_,_,rfl,y0,hy,hf⟩:=dLCm_some h
  exact(hi.like _ _ _ e1).trans (like_setO hy hf)
 intro S M τ σ H Q d τ' r ee q
 obtain⟨ds,τ1,acc,τb,xs,e1,hz,hm,hnm,e3,hx,rfl,rfl,_⟩:=dLCm_some ee
 obtain⟨y0,hm⟩:=isM_iff.mp hm
 refine hi.run S M τ σ H _ ds _ r e1 fun J H1 r1 c1 iJ=>?_
 obtain⟨p,us,hp,hM,hHp,lp⟩:=r1.mt j0 y0 hm
 have Sp:S p:=r1.sub p hM
 have mid:(f1++j0::f2)[f1.length]?=some j0:=by rw[List.getElem?_append_right (Nat.le_refl _),Nat.sub_self];rfl
 have only:∀(i:Nat) (ys:Ow),(blkD own (f1++j0::f2) τ1)[i]?=some (some ys.L)->i=own+f1.length/\ys=y0:=fun i ys h=>by
  obtain⟨k,j,rfl,ej,et⟩:=blkD_get h
  rcases at_mid ej with ⟨rfl,rfl⟩|z
  ·rw[hm]at et;exact⟨rfl,(owL_inj et).symm⟩
  ·have:=List.all_eq_true.mp hnm j z
   rw[isM_iff.mpr ⟨ys,et⟩]at this
   cases this
 intro D hD
 have pD:p≠D:=ne_of_none hHp hD
 refine⟨fun i m ys σ' H'=>∃τb' acc',R K (fun b=>S b\/b=D) (fun b=>b=p) τb' σ' H'/\Keep S H1 (fun b=>S b\/b=D) H'/\Chg (fun b=>b=D\/b=p) H1 H'/\IsL K (hid (fun b=>S b\/b=D) H') acc' ys/\H' D=some (.lst ys)/\ys.length<=i/\i<=ds.length/\m=ds.length-i/\lcLoop g c e (ds.drop i) acc' τb'=some (acc,τb)/\isM τb' (own+f1.length)=true/\σ'[own+f1.length]?=some (some (.ref p)),?_,?_⟩
 ·have s:=same_new hD (HO.lst [])
  have k:Keep S H1 (fun b=>S b\/b=D) (upd H1 D (.lst [])):=fun b o hn e=>by
   have:=ne_of_none e hD
   exact⟨fun z=>z.elim hn this,s b o e⟩
  have mb:(blkD own (f1++j0::f2) τ1)[own+f1.length]?=some (some y0.L):=by
   unfold blkD
   rw[List.getElem?_append_right (by simp),List.length_replicate,List.getElem?_map,show own+f1.length-own=f1.length by omega,mid]
   show some (noG (τ1[j0]?).join)=_
   rw[hm];cases y0<;>rfl
  refine⟨ds.length,blkD own (f1++j0::f2) τ1,[],⟨?_,?_,?_,?_,?_,?_,?_,GR.nil (r1.gr.1.to (tsS k.same)) blkD_g⟩,k,.of s,rfl,upd_same,Nat.le_refl _,Nat.zero_le _,by simp,by simpa using e3,isM_iff.mpr ⟨_,mb⟩,blk_at mid hp⟩
  ·unfold blk blkD;simp
  ·intro i x e
   obtain⟨kk,j,rfl,ej,et⟩:=blkD_get e
   obtain⟨v,h1,h2⟩:=r1.dat j x et
   exact⟨v,blk_at ej h1,h2.mono k.same⟩
  ·intro i ys e
   obtain⟨rfl,rfl⟩:=only i ys e
   exact⟨p,us,blk_at mid hp,rfl,s _ _ hHp,lp.mono k.same⟩
  ·intro i x e
   obtain⟨kk,j,rfl,ej,et⟩:=blkD_get e
   obtain⟨a,vs,h1,h2,h3⟩:=r1.cst j x et
   exact⟨a,vs,blk_at ej h1,k.same.seq h2,h3.mono k.same⟩
  ·intro i j ys zs a e1 e2 _ _
   rw[(only i ys e1).1,(only j zs e2).1]
  ·rintro a rfl
   exact .inl Sp
  ·rintro a (h|rfl)
   ·obtain⟨o,e⟩:=r1.ex a h
    exact⟨o,s _ _ e⟩
   ·exact⟨_,upd_same⟩
 ·rintro i m ys σ' H' ⟨τb',acc',rb,k,ch,la,hHD,hyl,hil,rfl,hl,hmb,hpb⟩
  obtain⟨I1,I2⟩:=iJ _ _ k
  by_cases hlt:i<ds.length
  ·right
   have ed:ds[i]?=some ds[i]:=List.getElem?_eq_getElem hlt
   obtain⟨go,yl⟩:=I1 i _ ed
   refine⟨go,fun x H2 y=>?_⟩
   obtain⟨rfl,ix⟩:=yl x H2 y
   rw[List.drop_eq_getElem_cons hlt,lcLoop]at hl
   obtain⟨τ2,e2,hl⟩:=oB hl
   obtain⟨⟨b,τ3⟩,e4,hl⟩:=oB hl
   obtain⟨zb,hmb⟩:=isM_iff.mp hmb
   refine hg.run _ _ τb' σ' H2 x _ τ2 _ rb ix e2 fun σ3 r3 k3=>?_
   have hpb3:σ3[own+f1.length]?=some (some (.ref p)):=(k3 _ _ hmb).trans hpb
   have hm2:τ2[own+f1.length]?=some (some zb.L):=((hg.ms _ _ _ e2).2 _ _).mpr hmb
   refine hc.run _ _ τ2 σ3 H2 _ b τ3 r3 e4 fun H4 r4 c4=>?_
   have k4:Keep (fun b=>S b\/b=D) H2 (fun b=>S b\/b=D) H4:=c4.keep fun b z=>by subst z;exact .inl Sp
   have hm3:=((hc.like _ _ _ e4).own (own+f1.length)).mpr ⟨_,hm2⟩
   have hD4:H4 D=some (.lst ys):=c4 D _ (Ne.symm pD) hHD
   have ch4:Chg (fun b=>b=D\/b=p) H1 H4:=ch.trans fun b o hn e=>c4 b o (fun z=>hn (.inr z)) e
   cases b with
   |false =>
    rw[if_neg Bool.false_ne_true]
    exact⟨ds.length-(i+1),by omega,τ3,acc',r4,k.trans k4,ch4,la.mono k4.same,hD4,by omega,hlt,rfl,hl,isM_iff.mpr hm3,hpb3⟩
   |true =>
    rw[if_pos rfl]
    rw[if_pos rfl]at hl
    obtain⟨⟨z,τ5⟩,e5,hl⟩:=oB hl
    refine he.weak.run _ _ τ3 σ3 H4 _ z τ5 r4 e5 fun v H5 r5 c5 i5=>?_
    have k5:Keep (fun b=>S b\/b=D) H4 (fun b=>S b\/b=D) H5:=c5.keep fun b z=>by subst z;exact .inl Sp
    have hD5:H5 D=some (.lst ys):=c5 D _ (Ne.symm pD) hD4
    have hm5:=((he.like _ _ _ e5).own (own+f1.length)).mpr hm3
    have kk:Keep (fun b=>S b\/b=D) H5 (fun b=>S b\/b=D) (upd H5 D (.lst (ys++[v]))):=fun b o hn e=>⟨hn,by rw[upd_ne (fun z=>hn (.inr z))];exact e⟩
    refine⟨hD5,by omega,ds.length-(i+1),by omega,τ5,acc'++[z],?_,(k.trans (k4.trans k5)).trans kk,?_,?_,upd_same,by rw[List.length_append,List.length_singleton];omega,hlt,rfl,hl,isM_iff.mpr hm5,hpb3⟩
    ·refine⟨r5.len,fun j x e=>let ⟨u,a,b⟩:=r5.dat j x e;⟨u,a,b.mono kk.same⟩,fun j xs e=>?_,fun j xs e=>let ⟨a,vs,h1,h2,h3⟩:=r5.cst j xs e;⟨a,vs,h1,kk.same.seq h2,h3.mono kk.same⟩,r5.inj,r5.sub,fun a h=>?_,r5.gr.to (fun i d e=>⟨e,rfl⟩) (fun j o a e q=>.inl ⟨o,e,q⟩) (fun a h _=>⟨h,upd_ne (by rw[show a=p from h];exact pD)⟩) (tsS kk.same)⟩
     ·obtain⟨a,ws,h1,h2,h3,h4⟩:=r5.mt j xs e
      exact⟨a,ws,h1,h2,by rw[upd_ne (by rw[show a=p from h2];exact pD)];exact h3,h4.mono kk.same⟩
     ·by_cases e:a=D
      ·subst e;exact⟨_,upd_same⟩
      ·obtain⟨o,q⟩:=r5.ex a h
       exact⟨o,by rw[upd_ne e];exact q⟩
    ·refine ch4.trans fun b o hn e=>?_
     rw[upd_ne (fun z=>hn (.inl z))]
     exact c5 b o (fun z=>hn (.inr z)) e
    ·exact(isl_snoc (la.mono (k4.trans k5).same) i5).mono kk.same
  ·left
   have e:i=ds.length:=by omega
   subst e
   rw[List.drop_length,lcLoop]at hl
   cases hl
   refine⟨I2 _ (Nat.le_refl _),?_⟩
   have cp:Chg (fun b=>b=p) H1 H':=fun b o hn e=>ch b o (fun z=>z.elim (ne_of_none e hD) hn) e
   obtain⟨a,ws,h1,h2,h3,h4⟩:=rb.mt _ _ hx
   have ea:a=p:=h2
   subst ea
   exact q _ H' (r1.setO hm hp cp h3 (h4.mono (hid_less fun b z=>.inl z))) (c1.trans fun b o hn e=>cp b o (fun z=>hn (by subst z;exact hM)) e) ⟨.l acc,D,_,rfl,rfl,r1.none c1 hD,hHD,ys,rfl,la⟩
end DL
end
section
namespace DL
open PySem L2
variable {K:KW}
def dIxC(i:Nat)(f:DX)(τ:DS):Option (PyData×DS):=(f τ).bind fun p=>match p.2[i]?,p.1 with
 |some (some (.c xs)),.int k=>(atI xs k).map fun d=>(d,p.2)
 |_,_=>none
theorem e_ixC{i:Nat}{fr:Bool}{tb:TE}{f:DX}(h:E K tb fr f):E K (tOp (rIxL K) (tVar i) tb) false (dIxC i f):=by
 refine⟨fun τ d τ' e=>?_,?_⟩
 ·unfold dIxC at e
  obtain⟨⟨x,τ1⟩,e1,e⟩:=oB e
  dsimp only at e
  split at e
  ·obtain⟨z,e3,e⟩:=oM e
   cases e;exact h.like _ _ _ e1
  ·cases e
 intro S M τ σ H Q d τ' r e q
 unfold dIxC at e
 obtain⟨⟨x,τ1⟩,e1,e⟩:=oB e
 dsimp only at e
 split at e
 ·rename_i xs k hx
  obtain⟨z,e3,e⟩:=oM e
  cases e
  obtain⟨a,vs,ha,_⟩:=r.cst i xs ((((h.like _ _ _ e1).2 i).1.2 xs).mp hx)
  refine⟨.ref a,ha,h.weak.run S M τ σ H _ _ _ r e1 fun v H1 r1 c1 i1=>?_⟩
  obtain⟨a',vs',ha',h2,h3⟩:=r1.cst i xs hx
  rw[ha]at ha';cases ha'
  obtain⟨u,h4,h5⟩:=isl_at h3 e3
  exact⟨a,vs',k,u,rfl,i1,same_hid.seq h2,h4,q u H1 r1 c1 h5⟩
 ·cases e
def dLenC(i:Nat)(τ:DS):Option (PyData×DS):=match τ[i]? with
 |some (some (.c xs))=>some (.int xs.length,τ)
 |_=>none
theorem e_lenC{i:Nat}:E K (tCB (fun xs H Q=>∃x n,xs=[x]/\LenV K x H n/\Q (.int n) H) (tCons (tVar i) tNil)) false (dLenC i):=by
 refine⟨fun τ d τ' e=>?_,?_⟩
 ·unfold dLenC at e
  split at e
  ·cases e;exact .refl
  ·cases e
 intro S M τ σ H Q d τ' r e q
 unfold dLenC at e
 split at e
 ·rename_i xs hx
  cases e
  obtain⟨a,vs,ha,h2,h3⟩:=r.cst i xs hx
  refine⟨.ref a,ha,.ref a,vs.length,rfl,.inl ⟨vs,same_hid.seq h2,rfl⟩,?_⟩
  exact q _ H r .refl (by rw[h3.length];rfl)
 ·cases e
def dCallC(i:Nat)(G:List L->Option (PyData×List L))(a:DA)(τ:DS):Option (PyData×DS):=(a τ).bind fun p=>(allD p.1).bind fun ds=>match p.2[i]? with
 |some (some (.c xs))=>(G (.c xs::ds.map L.d)).map fun q=>(q.1,p.2)
 |_=>none
theorem e_callC{i:Nat}{fr:Bool}{G:List L->Option (PyData×List L)}{t:TA}{a:DA}{X:XK}(ha:A K t a):E K (tCall (spD K G fr) [] X (tCons (tVar i) t)) fr (dCallC i G a):=by
 refine⟨fun τ d τ' e=>?_,?_⟩
 ·unfold dCallC at e
  obtain⟨⟨x,τ1⟩,e1,e⟩:=oB e
  obtain⟨ds,e2,e⟩:=oB e
  dsimp only at e
  split at e
  ·obtain⟨z,e3,e⟩:=oM e
   cases e;exact ha.like _ _ _ e1
  ·cases e
 intro S M τ σ H Q d τ' rr e q
 unfold dCallC at e
 obtain⟨⟨x,τ1⟩,e1,e⟩:=oB e
 obtain⟨ds,e2,e⟩:=oB e
 dsimp only at e
 split at e
 ·rename_i xs hx
  obtain⟨⟨z,ls'⟩,e3,e⟩:=oM e
  cases e
  obtain⟨p,us,hp,_⟩:=rr.cst i xs ((((ha.like _ _ _ e1).2 i).1.2 xs).mp hx)
  refine⟨.ref p,hp,ha.run S M τ σ H _ x _ rr e1 fun vs H1 r1 c1 i1=>?_⟩
  have l:=allD_is i1 e2
  obtain⟨p',us',hp',h2,h3⟩:=r1.cst i xs hx
  rw[hp]at hp';cases hp'
  show spD K G fr ((.ref p::vs)++[]) H1 Q X
  rw[List.append_nil]
  have ra:=r_args r1 l
  refine⟨S,fun _=>False,.c xs::ds.map L.d,_,ls',⟨?_,?_,?_,?_,?_,fun _ h=>h.elim,r1.ex,GR.nil r1.gr.1 ?_⟩,e3,fun v H' _ c res=>?_⟩
  ·have:=ra.len
   simp only[List.length_map,List.map_cons,List.length_cons]at this ⊢
   omega
  ·intro j x e
   cases j with
   |zero=>cases e
   |succ j=>exact ra.dat j x (by simpa using e)
  ·intro j ys e
   cases j with
   |zero=>exact absurd (Option.some.inj (Option.some.inj e)).symm Ow.not_c
   |succ j=>obtain⟨_,_,_,h,_⟩:=ra.mt j ys (by simpa using e);exact h.elim
  ·intro j ys e
   cases j with
   |zero=>cases e;exact⟨p,us',rfl,h2,h3⟩
   |succ j=>exact ra.cst j ys (by simpa using e)
  ·intro j k ys ws b e1 e2 _ _
   cases j with
   |zero=>exact absurd (Option.some.inj (Option.some.inj e1)).symm Ow.not_c
   |succ j=>obtain⟨_,_,_,h,_⟩:=ra.mt j ys (by simpa using e1);exact h.elim
  ·intro j x e
   cases j with
   |zero=>cases e
   |succ j =>
    rw[List.map_cons,List.getElem?_cons_succ,List.getElem?_map,List.getElem?_map]at e
    cases q:ds[j]? with
    |none=>rw[q]at e;cases e
    |some d=>rw[q]at e;cases e
  ·have s:Same H1 H':=fun b o e=>c b o (fun z=>z) e
   exact q v H' (r1.same s) (c1.trans (.of s)) (res.back r1 c1)
 ·cases e
section
variable {F:Frm} {S M:Addr->Prop} {τ τ':DS} {σ:St} {H H':Hp}
theorem RF.step(f:RF K F S M τ σ H)(r':R K S M τ' σ H')(c:Chg M H H')(lk:Like τ τ'):RF K F S M τ' σ H' where
 r:=r'
 sS:=f.sS
 old:=fun b o e n=>c b o (fun z=>(f.new b z).elim n fun q=>by rw[q]at e;cases e) (f.old b o e n)
 new:=f.new
 fm:=f.fm
 fs:=f.fs
 fsub:=f.fsub
 snew:=f.snew
 par:=f.par
 pm:=fun i v e=>let ⟨xs,h⟩:=f.pm i v e;(lk.own i).mpr ⟨xs,h⟩
 fma:=f.fma
theorem RF.stay(f:RF K F S M τ σ H){σ':St}(r':R K S M τ' σ' H)(ms:MSame τ τ')(k:∀(j:Nat) (o:Ow),τ[j]?=some (some o.L)->σ'[j]?=σ[j]?):RF K F S M τ' σ' H where
 r:=r'
 sS:=f.sS
 old:=f.old
 new:=f.new
 fm:=f.fm
 fs:=f.fs
 fsub:=f.fsub
 snew:=f.snew
 par:=fun i v e=>by
  obtain⟨xs,h⟩:=f.pm i v e
  rw[k i xs h]
  exact f.par i v e
 pm:=fun i v e=>let ⟨xs,h⟩:=f.pm i v e;⟨xs,(ms.2 i xs).mpr h⟩
 fma:=f.fma
theorem RF.hnone(f:RF K F S M τ σ H){a:Addr}(h:H a=none):F.H a=none:=by
 cases e:F.H a with
 |none=>rfl
 |some o =>
  exfalso
  by_cases hm:F.M a
  ·obtain⟨o',e'⟩:=f.r.ex a (f.sS a (f.fsub a hm))
   rw[h]at e';cases e'
  ·have:=f.old a o e hm
   rw[h]at this;cases this
theorem RF.res(f:RF K F S M τ σ H){fr:Bool}{d:PyData}{v:V}(h:Res K fr S H H' d v):Res K fr F.S F.H H' d v:=by
 cases fr with
 |false=>exact Is.mono (hid_less f.sS) h
 |true =>
  obtain⟨xs,a,vs,e1,e2,h1,h2,h3⟩:=h
  exact⟨xs,a,vs,e1,e2,f.hnone h1,h2,h3.mono (hid_less fun b z=>z.elim (fun z=>.inl (f.sS b z)) .inr)⟩
end
variable {np:Nat}
def dAsg(e:DX)(g:DG)(τ:DS):Option Out:=(e τ).bind fun p=>(g p.1 p.2).map .nx
theorem b_asg{fr fe:Bool}{te:TE}{tg:TG}{e:DX}{g:DG}(he:E K te fe e)(hg:TG1 K tg g):B K np (tAsg te tg) fr (dAsg e g):=by
 intro F S M τ σ H D out hnp f ee q
 unfold dAsg at ee
 obtain⟨⟨x,τ1⟩,e1,ee⟩:=oB ee
 obtain⟨τ2,e2,ee⟩:=oM ee
 cases ee
 refine he.weak.run S M τ σ H _ x τ1 f.r e1 fun v H1 r1 c1 i1=>?_
 refine hg.run S M τ1 σ H1 v x τ2 _ r1 i1 e2 fun σ' r2 k=>?_
 exact q S M σ' H1 ((f.step r1 c1 (he.like _ _ _ e1)).stay r2 (hg.ms _ _ _ e2) k) (c1.keep f.r.sub)
def dNew(np i:Nat)(τ:DS):Option Out:=if np<=i/\i<τ.length then some (.nx (τ.set i (some (.m [])))) else none
def tkP:List (PyData×PyData)->Option (List (List Int×PyData))
 |[]=>some []
 |(.tuple ks,d)::r=>(tkI ks).bind fun k=>(tkP r).map ((k,d)::·)
 |_=>none
where tkI:List PyData->Option (List Int)
 |[]=>some []
 |.int i::r=>(tkI r).map (i::·)
 |_=>none
theorem tkI_map:∀(k:List Int),tkP.tkI (k.map PyData.int)=some k
 |[]=>rfl
 |i::k=>by rw[List.map_cons,tkP.tkI,tkI_map k];rfl
theorem tkP_dct:∀(m:List (List Int×PyData)),tkP (dctP m)=some m
 |[]=>rfl
 |(k,d)::m=>by
  have:=tkP_dct m
  show(tkP.tkI (k.map PyData.int)).bind _=_
  rw[tkI_map]
  show((tkP (dctP m)).map _)=_
  rw[this];rfl
theorem D_dict{o:Ow}{kvs:List (PyData×PyData)}{m:List (List Int×PyData)}(h:PyData.dict kvs=o.D)(e:tkP kvs=some m):o = .t m:=by
 cases o with
 |l xs=>cases h
 |t m'=>cases h;rw[tkP_dct]at e;cases e;rfl
def dSetM(np i:Nat)(e:DX)(τ:DS):Option Out:=(e τ).bind fun p=>match p.1 with
 |.list xs=>if np<=i/\i<p.2.length/\p.2.all okM=true then some (.nx (p.2.set i (some (.m xs)))) else none
 |.dict kvs=>(tkP kvs).bind fun m=>if np<=i/\i<p.2.length/\p.2.all okM=true then some (.nx (p.2.set i (some (.k m)))) else none
 |_=>none
theorem RF.newM{F:Frm}{S M:Addr->Prop}{τ:DS}{σ:St}{H:Hp}(f:RF K F S M τ σ H){a:Addr}{i:Nat}{xs:Ow}{vs:HO}(hi:i<τ.length)(hnp:F.ar.length<=i)(hS:S a)(hM:¬M a)(hF:F.H a=none)(h':H a=some vs)
  (l:IsO K (hid S H) xs a vs):RF K F S (fun b=>M b\/b=a) (τ.set i (some xs.L)) (σ.set i (some (.ref a))) H:=by
 have hs:i<σ.length:=by rw[f.r.len];exact hi
 have ne:∀j,j≠i->(τ.set i (some xs.L))[j]?=τ[j]?:=fun j hj=>List.getElem?_set_ne (Ne.symm hj)
 have ne':∀j,j≠i->(σ.set i (some (V.ref a)))[j]?=σ[j]?:=fun j hj=>List.getElem?_set_ne (Ne.symm hj)
 have se:(τ.set i (some xs.L))[i]?=some (some xs.L):=List.getElem?_set_self hi
 have se':(σ.set i (some (V.ref a)))[i]?=some (some (.ref a)):=List.getElem?_set_self hs
 have Ma:∀(j:Nat) (ys:Ow) (b:Addr),j≠i->τ[j]?=some (some ys.L)->σ[j]?=some (some (.ref b))->b≠a:=fun j ys b hj e e' z=>by
  obtain⟨b',us,h1,h2,_⟩:=f.r.mt j ys e
  rw[e']at h1;cases h1
  subst z
  exact hM h2
 refine⟨⟨by rw[List.length_set,List.length_set];exact f.r.len,fun j x e=>?_,fun j ys e=>?_,fun j ys e=>?_,fun j1 j2 ys zs b e1 e2 f1 f2=>?_,fun b h=>h.elim (f.r.sub b) fun z=>by rw[z];exact hS,f.r.ex,f.r.gr.to (fun j x e=>?_) (fun j o b e q=>?_) (fun b hb _=>⟨.inl hb,rfl⟩) .refl⟩,f.sS,f.old,fun b h=>h.elim (f.new b) fun z=>.inr (by rw[z];exact hF),fun b h=>.inl (f.fm b h),f.fs,f.fsub,f.snew,fun j v e=>?_,fun j v e=>?_,f.fma⟩
 ·by_cases hj:j=i
  ·subst hj;rw[se]at e;exact absurd (Option.some.inj (Option.some.inj e)) Ow.not_d
  ·rw[ne j hj]at e
   rw[ne' j hj]
   exact f.r.dat j x e
 ·by_cases hj:j=i
  ·subst hj
   rw[se]at e
   obtain rfl:=owL_inj e
   exact⟨a,vs,se',.inr rfl,h',l⟩
  ·rw[ne j hj]at e
   rw[ne' j hj]
   obtain⟨b,us,h1,h2,h3,h4⟩:=f.r.mt j ys e
   exact⟨b,us,h1,.inl h2,h3,h4⟩
 ·by_cases hj:j=i
  ·subst hj;rw[se]at e;exact absurd (Option.some.inj (Option.some.inj e)) Ow.not_c
  ·rw[ne j hj]at e
   rw[ne' j hj]
   exact f.r.cst j ys e
 ·by_cases h1:j1=i
  ·by_cases h2:j2=i
   ·rw[h1,h2]
   ·exfalso
    subst h1
    rw[se']at f1;cases f1
    rw[ne j2 h2]at e2
    rw[ne' j2 h2]at f2
    exact Ma j2 zs _ h2 e2 f2 rfl
  ·by_cases h2:j2=i
   ·exfalso
    subst h2
    rw[se']at f2;cases f2
    rw[ne j1 h1]at e1
    rw[ne' j1 h1]at f1
    exact Ma j1 ys _ h1 e1 f1 rfl
   ·rw[ne j1 h1]at e1
    rw[ne' j1 h1]at f1
    rw[ne j2 h2]at e2
    rw[ne' j2 h2]at f2
    exact f.r.inj _ _ _ _ b e1 e2 f1 f2
 ·by_cases hj:j=i
  ·subst hj;rw[se]at e;exact absurd (Option.some.inj (Option.some.inj e)) Ow.not_g
  ·rw[ne j hj]at e;exact⟨e,ne' j hj⟩
 ·by_cases hj:j=i
  ·subst hj;rw[se']at q;cases q;exact .inr hM
  ·rw[ne j hj]at e;rw[ne' j hj]at q;exact .inl ⟨o,e,q⟩
 ·have:j≠i:=fun z=>by
   subst z
   have:=(List.getElem?_eq_some_iff.mp e).1
   omega
  rw[ne' j this]
  exact f.par j v e
 ·have:j≠i:=fun z=>by
   subst z
   have:=(List.getElem?_eq_some_iff.mp e).1
   omega
  rw[ne j this]
  exact f.pm j v e
theorem RF.hide{F:Frm}{S M:Addr->Prop}{τ:DS}{σ:St}{H H':Hp}(f:RF K F S M τ σ H){a:Addr}(s:Same H H')(ha:H a=none)(h':∃o,H' a=some o):RF K F (fun b=>S b\/b=a) M τ σ H':=by
 have k:Keep S H (fun b=>S b\/b=a) H':=fun b o hn e=>⟨fun z=>z.elim hn (ne_of_none e ha),s b o e⟩
 refine ⟨⟨f.r.len, fun j x e => let ⟨v, h1, h2⟩ := f.r.dat j x e; ⟨v, h1, h2.mono k.same⟩, fun j x e => let ⟨b, vs, h1, h2, h3, h4⟩ := f.r.mt j x e; ⟨b, vs, h1, h2, s _ _ h3, h4.mono k.same⟩,
  fun j x e=>let ⟨b,vs,h1,h2,h3⟩:=f.r.cst j x e;⟨b,vs,h1,k.same.seq h2,h3.mono k.same⟩,f.r.inj,fun b h=>.inl (f.r.sub b h),fun b h=>?_,f.r.gr.to (fun i d e=>⟨e,rfl⟩) (fun j o a e q=>.inl ⟨o,e,q⟩) (fun a h _=>⟨h,by obtain⟨o,e⟩:=f.r.ex a (f.r.sub a h);rw[e];exact s _ _ e⟩) (tsS k.same)⟩,fun b h=>.inl (f.sS b h),fun b o e n=>s _ _ (f.old b o e n),f.new,f.fm,f.fs,f.fsub,fun b h=>h.elim (f.snew b) fun z=>.inr (by rw[z];exact f.hnone ha),f.par,f.pm,f.fma⟩
 rcases h with h|h
 ·obtain⟨o,e⟩:=f.r.ex b h
  exact⟨o,s _ _ e⟩
 ·rw[h];exact h'
theorem RF.hideE{F:Frm}{S M:Addr->Prop}{τ τ1:DS}{σ:St}{H H':Hp}(f:RF K F S M τ σ H){a:Addr}(r1:R K S M τ1 σ H')(c:Chg M H H')(lk:Like τ τ1)(ok:τ1.all okM=true)(ha:H a=none)(h':∃o,H' a=some o/\OwH o):RF K F (fun b=>S b\/b=a) M τ1 σ H':=by
 have f1:=f.step r1 c lk
 have k:Keep S H (fun b=>S b\/b=a) H':=fun b o hn e=>⟨fun z=>z.elim hn (ne_of_none e ha),c b o (fun z=>hn (f.r.sub b z)) e⟩
 have ts:TSm (hid S H') (hid (fun b=>S b\/b=a) H'):=tsame_hid fun b z=>z.elim .inl fun z=>by subst z;exact .inr h'
 refine⟨⟨r1.len,fun j x e=>?_,fun j x e=>?_,fun j x e=>?_,r1.inj,fun b h=>.inl (f.r.sub b h),fun b h=>?_,r1.gr.to (fun i d e=>⟨e,rfl⟩) (fun j o a e q=>.inl ⟨o,e,q⟩) (fun a h _=>⟨h,rfl⟩) ts⟩,fun b h=>.inl (f.sS b h),f1.old,f.new,f.fm,f.fs,f.fsub,fun b h=>h.elim (f.snew b) fun z=>.inr (by rw[z];exact f.hnone ha),f.par,f1.pm,f.fma⟩
 ·obtain⟨v,h1,h2⟩:=f.r.dat j x (((lk.2 j).1.1 x).mp e)
  exact⟨v,h1,h2.mono k.same⟩
 ·obtain⟨b,vs,h1,h2,h3,h4⟩:=r1.mt j x e
  exact⟨b,vs,h1,h2,h3,h4.monoT ts (List.all_eq_true.mp ok (some x.L) (List.mem_of_getElem? e))⟩
 ·obtain⟨b,vs,h1,h2,h3⟩:=f.r.cst j x (((lk.2 j).1.2 x).mp e)
  exact⟨b,vs,h1,k.same.seq h2,h3.mono k.same⟩
 ·rcases h with h|h
  ·exact r1.ex b h
  ·obtain⟨vs,e,_⟩:=h'
   rw[h];exact⟨_,e⟩
theorem b_new{fr:Bool}{i:Nat}:B K np (tAsg (tLst tNil) (gName i)) fr (dNew np i):=by
 intro F S M τ σ H D out hnp f ee q
 unfold dNew at ee
 split at ee
 ·rename_i hi
  cases ee
  refine⟨Nat.zero_le _,fun a ha=>?_⟩
  have s:=same_new ha (HO.lst [])
  have f1:=f.hide s ha ⟨_,upd_same⟩
  have hM:¬M a:=fun z=>f.r.fresh ha (f.r.sub a z)
  exact q _ _ _ _ (f1.newM (xs:=.l []) hi.2 (Nat.le_trans hnp hi.1) (.inr rfl) hM (f.hnone ha) upd_same ⟨[],rfl,rfl⟩) fun b o hn e=>⟨fun z=>z.elim hn (ne_of_none e ha),s b o e⟩
 ·cases ee
theorem b_setM{fr:Bool}{i:Nat}{te:TE}{e:DX}(he:E K te true e):B K np (tAsg te (gName i)) fr (dSetM np i e):=by
 intro F S M τ σ H D out hnp f ee q
 unfold dSetM at ee
 obtain⟨⟨x,τ1⟩,e1,ee⟩:=oB ee
 dsimp only at ee
 split at ee
 ·split at ee
  ·rename_i xs hi
   cases ee
   refine he.run S M τ σ H _ _ τ1 f.r e1 fun v H1 r1 c1 i1=>?_
   obtain⟨ys,a,vs,e2,rfl,h1,h2,h3⟩:=i1
   obtain rfl:=Ow.D_list e2
   have f1:=f.hideE r1 c1 (he.like _ _ _ e1) hi.2.2 h1 ⟨_,h2,h3.ho⟩
   have hM:¬M a:=fun z=>f.r.fresh h1 (f.r.sub a z)
   exact q _ _ _ _ (f1.newM (xs:=.l _) hi.2.1 (Nat.le_trans hnp hi.1) (.inr rfl) hM (f.hnone h1) h2 h3) fun b o hn e=>⟨fun z=>z.elim hn (ne_of_none e h1),c1 b o (fun z=>hn (f.r.sub b z)) e⟩
  ·cases ee
 ·obtain⟨m,em,ee⟩:=oB ee
  split at ee
  ·rename_i hi
   cases ee
   refine he.run S M τ σ H _ _ τ1 f.r e1 fun v H1 r1 c1 i1=>?_
   obtain⟨ys,a,vs,e2,rfl,h1,h2,h3⟩:=i1
   obtain rfl:=D_dict e2 em
   have f1:=f.hideE r1 c1 (he.like _ _ _ e1) hi.2.2 h1 ⟨_,h2,h3.ho⟩
   have hM:¬M a:=fun z=>f.r.fresh h1 (f.r.sub a z)
   exact q _ _ _ _ (f1.newM (xs:=.t _) hi.2.1 (Nat.le_trans hnp hi.1) (.inr rfl) hM (f.hnone h1) h2 h3) fun b o hn e=>⟨fun z=>z.elim hn (ne_of_none e h1),c1 b o (fun z=>hn (f.r.sub b z)) e⟩
  ·cases ee
 ·cases ee
def dRet(e:DX)(τ:DS):Option Out:=(e τ).map fun p=>.rt p.1 p.2
theorem b_ret{fr fe:Bool}{te:TE}{e:DX}(he:E K te fe e)(hf:fr=true->fe=true):B K np (tRet te) fr (dRet e):=by
 intro F S M τ σ H D out hnp f ee q
 unfold dRet at ee
 obtain⟨⟨x,τ1⟩,e1,ee⟩:=oM ee
 cases ee
 refine he.run S M τ σ H _ x τ1 f.r e1 fun v H1 r1 c1 i1=>?_
 exact q S M σ H1 v (f.step r1 c1 (he.like _ _ _ e1)) (f.res (i1.imp (fun _=>f.r.fresh) fr hf))
def dRetM(np i:Nat)(τ:DS):Option Out:=match τ[i]? with
 |some (some (.m xs))=>if np<=i then some (.rt (.list xs) τ) else none
 |some (some (.k xs))=>if np<=i then some (.rt (.dict (dctP xs)) τ) else none
 |_=>none
theorem dRetM_some{np i:Nat}{τ:DS}{out:Out}(e:dRetM np i τ=some out):∃w,τ[i]?=some (some (Ow.L w))/\np<=i/\out = .rt w.D τ:=by
 unfold dRetM at e
 split at e
 ·rename_i xs hx
  split at e
  ·rename_i h;cases e;exact⟨.l xs,hx,h,rfl⟩
  ·cases e
 ·rename_i xs hx
  split at e
  ·rename_i h;cases e;exact⟨.t xs,hx,h,rfl⟩
  ·cases e
 ·cases e
theorem b_retM{fr:Bool}{i:Nat}:B K np (tRet (tVar i)) fr (dRetM np i):=by
 intro F S M τ σ H D out hnp f ee q
 obtain⟨xs,hx,hi,rfl⟩:=dRetM_some ee
 obtain⟨a,vs,h1,h2,h3,h4⟩:=f.r.mt i xs hx
 refine⟨_,h1,q S M σ H _ f ?_⟩
 have hF:F.H a=none:=by
  rcases f.new a h2 with z|z
  ·exfalso
   obtain⟨j,hj⟩:=f.fma a z
   obtain⟨ys,hy⟩:=f.pm j _ hj
   have e:=f.r.inj j i ys xs a hy hx (f.par j _ hj) h1
   have:=(List.getElem?_eq_some_iff.mp hj).1
   omega
  ·exact z
 have res:Res K true F.S F.H H xs.D (.ref a):=⟨xs,a,vs,rfl,rfl,hF,h3,h4.mono (hid_less fun b z=>z.elim (f.sS b) fun z=>by rw[z];exact f.r.sub a h2)⟩
 refine res.imp (fun b hb=>?_) fr fun _=>rfl
 intro z
 obtain⟨o,e⟩:=f.fs b z
 rw[hb]at e;cases e
def dRetN(τ:DS):Option Out:=some (.rt .none τ)
def dExpr(e:DX)(τ:DS):Option Out:=(e τ).map fun p=>.nx p.2
theorem b_expr{fr fe:Bool}{te:TE}{e:DX}(he:E K te fe e):B K np (tDrop te) fr (dExpr e):=by
 intro F S M τ σ H D out hnp f ee q
 unfold dExpr at ee
 obtain⟨⟨x,τ1⟩,e1,ee⟩:=oM ee
 cases ee
 refine he.run S M τ σ H _ x τ1 f.r e1 fun v H1 r1 c1 i1=>?_
 exact q S M σ H1 (f.step r1 c1 (he.like _ _ _ e1)) (c1.keep f.r.sub)
def dMt(i:Nat)(G:List PyData->List PyData->Option (PyData×List PyData))(a:DA)(τ:DS):Option (PyData×DS):=(a τ).bind fun p=>(allD p.1).bind fun ds=>match p.2[i]? with
 |some (some (.m xs))=>(G xs ds).map fun q=>(q.1,p.2.set i (some (.m q.2)))
 |_=>none
def MR(K:KW)(r:V->List V->Hp->VK->Prop)(G:List PyData->List PyData->Option (PyData×List PyData)):Prop:=∀(S:Addr->Prop) H a vs us xs ds d xs' (Q:VK),S a->H a=some (.lst vs)->IsL K (hid S H) xs vs->IsL K (hid S H) ds us->G xs ds=some (d,xs') ->
 (∀v vs',Is K (hid S H) d v->IsL K (hid S H) xs' vs'->Q v (upd H a (.lst vs')))->r (.ref a) us H Q
theorem hid_upd{S:Addr->Prop}{H:Hp}{a:Addr}{o:HO}(h:S a):hid S (upd H a o)=hid S H:=by
 funext b
 unfold hid
 by_cases z:S b
 ·rw[if_pos z,if_pos z]
 ·rw[if_neg z,if_neg z,upd_ne (fun e=>z (by rw[e];exact h))]
theorem dMt_some{i:Nat}{G:List PyData->List PyData->Option (PyData×List PyData)}{a:DA}{τ τ':DS}{d:PyData}(e:dMt i G a τ=some (d,τ')):∃rs τ1 ds xs xs',a τ=some (rs,τ1)/\allD rs=some ds/\τ1[i]?=some (some (.m xs))/\G xs ds=some (d,xs')/\τ'=τ1.set i (some (.m xs')):=by
 unfold dMt at e
 obtain⟨⟨x,τ1⟩,e1,e⟩:=oB e
 obtain⟨ds,e2,e⟩:=oB e
 dsimp only at e
 split at e
 ·rename_i xs hx
  obtain⟨⟨z,zs⟩,e3,e⟩:=oM e
  cases e
  exact⟨x,τ1,ds,xs,zs,e1,e2,hx,e3,rfl⟩
 ·cases e
theorem e_mt{i:Nat}{r:V->List V->Hp->VK->Prop}{G:List PyData->List PyData->Option (PyData×List PyData)}{t:TA}{a:DA}(h:MR K r G)(ha:A K t a):E K (tBM K "list" r (tVar i) t) false (dMt i G a):=by
 refine⟨fun τ d τ' e=>?_,?_⟩
 ·obtain⟨rs,τ1,ds,xs,xs',e1,e2,e3,e4,rfl⟩:=dMt_some e
  exact(ha.like _ _ _ e1).trans (like_setM e3)
 intro S M τ σ H Q d τ' rr e q
 obtain⟨rs,τ1,ds,xs,xs',e1,e2,e3,e4,rfl⟩:=dMt_some e
 have lk:=ha.like _ _ _ e1
 obtain⟨zs,hz⟩:=lk.ml e3
 obtain⟨p,us,hp,hM,hl0,_⟩:=rr.ml i zs hz
 refine⟨.ref p,hp,.inl ⟨rfl,us,SqL.of hl0⟩,?_⟩
 refine ha.run S M τ σ H _ rs _ rr e1 fun vs H1 r1 c1 i1=>?_
 have l:=allD_is i1 e2
 obtain⟨p',us',hp',hM',hl,ll⟩:=r1.ml i xs e3
 rw[hp]at hp';cases hp'
 have Sp:=r1.sub p hM'
 refine h S H1 p us' vs xs ds d xs' _ Sp hl ll l e4 fun v vs' iv il=>?_
 have c:Chg (fun b=>b=p) H1 (upd H1 p (.lst vs')):=fun b o hn e=>by rw[upd_ne hn];exact e
 refine q v _ (r1.setM e3 hp c upd_same (by rw[hid_upd Sp];exact il)) (c1.trans fun b o hn e=>c b o (fun z=>hn (by subst z;exact hM')) e) ?_
 show Is K (hid S _) d v
 rw[hid_upd Sp];exact iv
def gAppend:List PyData->List PyData->Option (PyData×List PyData)
 |xs,[d]=>if xs.length<sizeLine then some (.none,xs++[d]) else none
 |_,_=>none
theorem m_append:MR K rAppend gAppend:=by
 intro S H a vs us xs ds d xs' Q Sa hl ll l e q
 unfold gAppend at e
 split at e
 ·split at e
  ·rename_i d0 hz
   cases e
   obtain⟨v,us',rfl,iv,iu⟩:=l
   cases (show us'=[] from iu)
   exact⟨a,vs,v,rfl,rfl,hl,by rw[ll.length];exact hz,q _ _ rfl (isl_snoc ll iv)⟩
  ·cases e
 ·cases e
def gExtend:List PyData->List PyData->Option (PyData×List PyData)
 |xs,[.list ys]=>if xs.length+ys.length<=sizeLine then some (.none,xs++ys) else none
 |_,_=>none
theorem m_extend:MR K rExtend gExtend:=by
 intro S H a vs us xs ds d xs' Q Sa hl ll l e q
 unfold gExtend at e
 split at e
 ·split at e
  ·rename_i ys hz
   cases e
   obtain⟨v,us',rfl,⟨b,ws,rfl,hb,lb⟩,iu⟩:=l
   cases (show us'=[] from iu)
   exact⟨a,b,vs,ws,rfl,rfl,hl,(hid_iff.mp hb).2,by rw[ll.length,lb.length];exact hz,q _ _ rfl (isl_append ll lb)⟩
  ·cases e
 ·cases e
def gClear:List PyData->List PyData->Option (PyData×List PyData)
 |_,[]=>some (.none,[])
 |_,_=>none
theorem isl_set{H:Hp}:∀{xs:List PyData} {vs:List V} {j:Nat} {d:PyData} {v:V},IsL K H xs vs->Is K H d v->IsL K H (xs.set j d) (vs.set j v)
 |[],_,_,_,_,h,_=>by rw[show _=[] from h];rfl
 |x::xs,_,0,d,v,⟨u,us,e,h,l⟩,i=>by subst e;exact⟨v,us,rfl,i,l⟩
 |x::xs,_,j+1,d,v,⟨u,us,e,h,l⟩,i=>by subst e;exact⟨u,us.set j v,rfl,h,isl_set l i⟩
def dSetI(i:Nat)(e k:DX)(τ:DS):Option Out:=(e τ).bind fun p=>(k p.2).bind fun q=>match q.2[i]?,q.1 with
 |some (some (.m xs)),.int n=>(ixN xs.length n).map fun j=>.nx (q.2.set i (some (.m (xs.set j p.1))))
 |_,_=>none
theorem b_setI{fr f1 f2:Bool}{i:Nat}{te tk:TE}{e k:DX}(he:E K te f1 e)(hk:E K tk f2 k):B K np (tAsg te (gSub (tVar i) tk rSetL)) fr (dSetI i e k):=by
 intro F S M τ σ H D out hnp f ee q
 unfold dSetI at ee
 obtain⟨⟨x,τ1⟩,e1,ee⟩:=oB ee
 obtain⟨⟨y,τ2⟩,e2,ee⟩:=oB ee
 dsimp only at ee
 split at ee
 ·rename_i xs n hx
  obtain⟨j,e3,ee⟩:=oM ee
  cases ee
  have lk1:=he.like _ _ _ e1
  have lk2:=hk.like _ _ _ e2
  refine he.weak.run S M τ σ H _ x τ1 f.r e1 fun v H1 r1 c1 i1=>?_
  obtain⟨zs,hz⟩:=lk2.ml hx
  obtain⟨p,us,hp,hM,_,_⟩:=r1.ml i zs hz
  refine⟨.ref p,hp,hk.weak.run S M τ1 σ H1 _ _ τ2 r1 e2 fun w H2 r2 c2 i2=>?_⟩
  obtain⟨p',us',hp',hM',hl,ll⟩:=r2.ml i xs hx
  rw[hp]at hp';cases hp'
  have Sp:=r2.sub p hM'
  refine⟨p,us',n,j,rfl,i2,hl,by rw[ll.length];exact e3,?_⟩
  have c:Chg (fun b=>b=p) H2 (upd H2 p (.lst (us'.set j v))):=fun b o hn e=>by rw[upd_ne hn];exact e
  have iv:Is K (hid S H2) x v:=Is.mono (c2.keep r1.sub).same i1
  have f2:=f.step r2 (c1.trans c2) (lk1.trans lk2)
  have r3:=r2.setM hx hp c upd_same (by rw[hid_upd Sp];exact isl_set (j:=j) ll iv)
  have c3:Chg M H2 (upd H2 p (.lst (us'.set j v))):=fun b o hn e=>c b o (fun z=>hn (by subst z;exact hM')) e
  exact q S M σ _ (f2.step r3 c3 (like_setM hx)) (((c1.trans c2).trans c3).keep f.r.sub)
 ·cases ee
theorem Gl.trans{F:Frm}{fr:Bool}{S S1:Addr->Prop}{H H1:Hp}{D:Ends}{o:Out}(k:Keep S H S1 H1)(h:Gl K F fr S H D o):Gl K F fr S1 H1 D o:=by
 cases o with
 |nx τ=>exact fun S' M' σ' H' r k'=>h S' M' σ' H' r (k.trans k')
 |bk τ=>exact fun S' M' σ' H' r k'=>h S' M' σ' H' r (k.trans k')
 |ct τ=>exact fun S' M' σ' H' r k'=>h S' M' σ' H' r (k.trans k')
 |rt d τ=>exact fun S' M' σ' H' v r k'=>h S' M' σ' H' v r k'
def dNil(τ:DS):Option Out:=some (.nx τ)
theorem b_nil{fr:Bool}:B K np tNext fr dNil:=by
 intro F S M τ σ H D out hnp f ee q
 cases ee
 exact q S M σ H f .refl
def dSeq(a b:DB)(τ:DS):Option Out:=(a τ).bind fun o=>match o with
 |.nx τ'=>b τ'
 |o=>some o
theorem b_seq{fr:Bool}{t u:TS}{a b:DB}(ha:B K np t fr a)(hb:B K np u fr b):B K np (tSeq t u) fr (dSeq a b):=by
 intro F S M τ σ H D out hnp f ee q
 unfold dSeq at ee
 obtain⟨o,e1,ee⟩:=oB ee
 refine ha F S M τ σ H _ o hnp f e1 ?_
 cases o with
 |nx τ1=>exact fun S' M' σ' H' r k=>hb F S' M' τ1 σ' H' D out hnp r ee (q.trans k)
 |bk τ1=>cases ee;exact q
 |ct τ1=>cases ee;exact q
 |rt d τ1=>cases ee;exact q
def dIfS(c:DT)(a b:DB)(τ:DS):Option Out:=(c τ).bind fun p=>if p.1=true then a p.2 else b p.2
theorem b_if{fr:Bool}{tc:TT}{t u:TS}{c:DT}{a b:DB}(hc:T K tc c)(ha:B K np t fr a)(hb:B K np u fr b):B K np (tIfS tc t u) fr (dIfS c a b):=by
 intro F S M τ σ H D out hnp f ee q
 unfold dIfS at ee
 obtain⟨⟨k,τ1⟩,e1,ee⟩:=oB ee
 refine hc.run S M τ σ H _ k τ1 f.r e1 fun H1 r1 c1=>?_
 have f1:=f.step r1 c1 (hc.like _ _ _ e1)
 cases k with
 |true=>exact ha F S M τ1 σ H1 D out hnp f1 ee (q.trans (c1.keep f.r.sub))
 |false=>exact hb F S M τ1 σ H1 D out hnp f1 ee (q.trans (c1.keep f.r.sub))
def dBrk(τ:DS):Option Out:=some (.bk τ)
def dCnt(τ:DS):Option Out:=some (.ct τ)
def dNever:DB:=fun _=>none
def dLoop(g:DG)(b:DB):List PyData->DS->Option Out
 |[],τ=>some (.nx τ)
 |d::ds,τ=>(g d τ).bind fun τ1=>(b τ1).bind fun o=>match o with
  |.nx τ2=>dLoop g b ds τ2
  |.ct τ2=>dLoop g b ds τ2
  |.bk τ2=>some (.nx τ2)
  |.rt d τ2=>some (.rt d τ2)
def dFor(it:DI)(g:DG)(b:DB)(τ:DS):Option Out:=(it τ).bind fun p=>dLoop g b p.1 p.2
theorem b_for{fr:Bool}{wi:TI}{tg:TG}{tb:TS}{it:DI}{g:DG}{b:DB}(hi:IT K wi it)(hg:TG1 K tg g)(hb:B K np tb fr b):B K np (tFor wi tg tb) fr (dFor it g b):=by
 intro F S M τ σ H D out hnp f ee q
 unfold dFor at ee
 obtain⟨⟨ds,τ1⟩,e1,ee⟩:=oB ee
 refine hi.run S M τ σ H _ ds τ1 f.r e1 fun J H1 r1 c1 iJ=>?_
 have f1:=f.step r1 c1 (hi.like _ _ _ e1)
 have q1:=q.trans (c1.keep f.r.sub)
 refine⟨fun i m σ' H'=>m=ds.length-i/\i<=ds.length/\∃S' M' τ',RF K F S' M' τ' σ' H'/\Keep S H1 S' H'/\dLoop g b (ds.drop i) τ'=some out,⟨ds.length,by simp,Nat.zero_le _,S,M,τ1,f1,.refl,by simpa using ee⟩,?_⟩
 rintro i m σ' H' ⟨rfl,hil,S',M',τ',f',k',hl⟩
 obtain⟨I1,I2⟩:=iJ _ _ k'
 by_cases hlt:i<ds.length
 ·right
  have ed:ds[i]?=some ds[i]:=List.getElem?_eq_getElem hlt
  obtain⟨go,yl⟩:=I1 i _ ed
  refine⟨go,fun σ2 H2=>∃S2 M2 τ2,RF K F S2 M2 τ2 σ2 H2/\Keep S H1 S2 H2/\dLoop g b (ds.drop (i+1)) τ2=some out,fun σ2 H2 h=>⟨ds.length-(i+1),by omega,rfl,hlt,h⟩,fun x H2 y=>?_⟩
  obtain⟨rfl,ix⟩:=yl x H2 y
  rw[List.drop_eq_getElem_cons hlt,dLoop]at hl
  obtain⟨τ2,e2,hl⟩:=oB hl
  obtain⟨o,e3,hl⟩:=oB hl
  refine hg.run S' M' τ' σ' H2 x _ τ2 _ f'.r ix e2 fun σ3 r3 k3=>?_
  have f3:=f'.stay r3 (hg.ms _ _ _ e2) k3
  refine hb F S' M' τ2 σ3 H2 _ o hnp f3 e3 ?_
  cases o with
  |nx τ4=>exact fun S4 M4 σ4 H4 f4 k4=>⟨S4,M4,τ4,f4,k'.trans k4,hl⟩
  |ct τ4=>exact fun S4 M4 σ4 H4 f4 k4=>⟨S4,M4,τ4,f4,k'.trans k4,hl⟩
  |bk τ4=>cases hl;exact fun S4 M4 σ4 H4 f4 k4=>q1 S4 M4 σ4 H4 f4 (k'.trans k4)
  |rt d τ4=>cases hl;exact fun S4 M4 σ4 H4 v f4 k4=>q1 S4 M4 σ4 H4 v f4 k4
 ·left
  have e:i=ds.length:=by omega
  subst e
  rw[List.drop_length,dLoop]at hl
  cases hl
  exact⟨I2 _ (Nat.le_refl _),q1 S' M' σ' H' f' k'⟩
def fin:List L->DS->Option (List L)
 |[],_=>some []
 |.d x::ls,_::τ=>(fin ls τ).map (.d x::·)
 |.c x::ls,_::τ=>(fin ls τ).map (.c x::·)
 |.m _::ls,some (.m xs)::τ=>(fin ls τ).map (.m xs::·)
 |.k _::ls,some (.k xs)::τ=>(fin ls τ).map (.k xs::·)
 |_,_=>none
def dFun(fr:Bool)(np nl:Nat)(b:DB)(ls:List L):Option (PyData×List L):=if ls.length=np then (b (ls.map some++List.replicate nl none)).bind fun o=>match o with
  |.nx τ=>if fr=true then none else (fin ls τ).map fun ls'=>(.none,ls')
  |.rt d τ=>(fin ls τ).map fun ls'=>(d,ls')
  |_=>none
 else none
theorem fin_get:∀{ls:List L} {τ:DS} {ls':List L} {i:Nat} {l:L},fin ls τ=some ls'->ls'[i]?=some l->match l with
  |.d x=>ls[i]?=some (.d x)
  |.c x=>ls[i]?=some (.c x)
  |.m xs=>(∃ys,ls[i]?=some (.m ys))/\τ[i]?=some (some (.m xs))
  |.k xs=>(∃ys,ls[i]?=some (.k ys))/\τ[i]?=some (some (.k xs))
  |.g _=>False
 |[],_,_,_,_,h,e=>by cases h;simp at e
 |.d x::ls,o::τ,_,i,l,h,e=>by
  obtain⟨zs,h1,h⟩:=oM h
  subst h
  cases i with
  |zero=>cases e;rfl
  |succ i =>
   have:=fin_get (i:=i) (l:=l) h1 (by simpa using e)
   cases l<;>simpa using this
 |.c x::ls,o::τ,_,i,l,h,e=>by
  obtain⟨zs,h1,h⟩:=oM h
  subst h
  cases i with
  |zero=>cases e;rfl
  |succ i =>
   have:=fin_get (i:=i) (l:=l) h1 (by simpa using e)
   cases l<;>simpa using this
 |.m x::ls,some (.m xs)::τ,_,i,l,h,e=>by
  obtain⟨zs,h1,h⟩:=oM h
  subst h
  cases i with
  |zero=>cases e;exact⟨⟨_,rfl⟩,rfl⟩
  |succ i =>
   have:=fin_get (i:=i) (l:=l) h1 (by simpa using e)
   cases l<;>simpa using this
 |.k x::ls,some (.k xs)::τ,_,i,l,h,e=>by
  obtain⟨zs,h1,h⟩:=oM h
  subst h
  cases i with
  |zero=>cases e;exact⟨⟨_,rfl⟩,rfl⟩
  |succ i =>
   have:=fin_get (i:=i) (l:=l) h1 (by simpa using e)
   cases l<;>simpa using this
theorem fin_len:∀{ls:List L} {τ:DS} {ls':List L},fin ls τ=some ls'->ls'.length=ls.length
 |[],_,_,h=>by cases h;rfl
 |.d x::ls,o::τ,_,h=>by
  obtain⟨zs,h1,h⟩:=oM h
  subst h
  rw[List.length_cons,List.length_cons,fin_len h1]
 |.c x::ls,o::τ,_,h=>by
  obtain⟨zs,h1,h⟩:=oM h
  subst h
  rw[List.length_cons,List.length_cons,fin_len h1]
 |.m x::ls,some (.m xs)::τ,_,h=>by
  obtain⟨zs,h1,h⟩:=oM h
  subst h
  rw[List.length_cons,List.length_cons,fin_len h1]
 |.k x::ls,some (.k xs)::τ,_,h=>by
  obtain⟨zs,h1,h⟩:=oM h
  subst h
  rw[List.length_cons,List.length_cons,fin_len h1]
theorem fin_g:∀{ls:List L} {τ:DS} {ls':List L},fin ls τ=some ls'->∀(i:Nat) (d:PyData),ls[i]?≠some (.g d)
 |[],_,_,_,i,d=>by simp
 |.d x::ls,o::τ,_,h,i,d=>by
  obtain⟨zs,h1,h⟩:=oM h
  cases i with
  |zero=>simp
  |succ i=>simpa using fin_g h1 i d
 |.c x::ls,o::τ,_,h,i,d=>by
  obtain⟨zs,h1,h⟩:=oM h
  cases i with
  |zero=>simp
  |succ i=>simpa using fin_g h1 i d
 |.m x::ls,some (.m xs)::τ,_,h,i,d=>by
  obtain⟨zs,h1,h⟩:=oM h
  cases i with
  |zero=>simp
  |succ i=>simpa using fin_g h1 i d
 |.k x::ls,some (.k xs)::τ,_,h,i,d=>by
  obtain⟨zs,h1,h⟩:=oM h
  cases i with
  |zero=>simp
  |succ i=>simpa using fin_g h1 i d
theorem fin_own{ls:List L}{τ:DS}{ls':List L}{i:Nat}{x:Ow}(h:fin ls τ=some ls')(e:ls'[i]?=some x.L):(∃ys:Ow,ls[i]?=some ys.L)/\τ[i]?=some (some x.L):=by
 cases x with
 |l xs=>obtain⟨⟨ys,h1⟩,h2⟩:=fin_get h e;exact⟨⟨.l ys,h1⟩,h2⟩
 |t xs=>obtain⟨⟨ys,h1⟩,h2⟩:=fin_get h e;exact⟨⟨.t ys,h1⟩,h2⟩
theorem at_map{α β:Type}{f:α->β}{xs:List α}{i:Nat}{y:β}(h:(xs.map f)[i]?=some y):∃x,xs[i]?=some x/\f x=y:=by
 rw[List.getElem?_map]at h
 cases e:xs[i]? with
 |none=>rw[e]at h;cases h
 |some x=>rw[e]at h;exact⟨x,rfl,Option.some.inj h⟩
theorem fn_len{G:List L->Option (PyData×List L)}{fr:Bool}{vs:List V}{H:Hp}{Q:VK}{X:XK}{np:Nat}(hG:∀ls r,G ls=some r->ls.length=np)(h:spD K G fr vs H Q X):vs.length=np:=by
 obtain⟨S,M,ls,r,ls',hR,e,_⟩:=h
 have:=hR.len
 rw[List.length_map,List.length_map]at this
 rw[this,hG _ _ e]
theorem dFun_len{fr:Bool}{np nl:Nat}{b:DB}:∀ls r,dFun fr np nl b ls=some r->ls.length=np:=fun ls r h=>by
 unfold dFun at h
 split at h
 ·assumption
 ·cases h
theorem fn_run{np nl:Nat}{t:TS}{fr:Bool}{b:DB}{N:List Str}{vs:List V}{H:Hp}{Q:VK}{X:XK}(hb:B K np t fr b)(hN:N.length=np+nl)(h:spD K (dFun fr np nl b) fr vs H Q X):t { nx:=fun _ H'=>Q .non H',rt:=Q } (L2.start N vs) H:=by
 obtain⟨S,M,ls,r,ls',hR,e,q⟩:=h
 have hlen:=dFun_len _ _ e
 have hvl:vs.length=ls.length:=by have:=hR.len;rw[List.length_map,List.length_map]at this;exact this
 unfold dFun at e
 rw[if_pos hlen]at e
 obtain⟨o,e1,e⟩:=oB e
 have est:L2.start N vs=vs.map some++List.replicate nl none:=by
  unfold L2.start
  rw[hN,hvl,hlen,Nat.add_sub_cancel_left]
 rw[est]
 -- the entry
 have lsm:∀(i:Nat) (l:L),(ls.map some++List.replicate nl none:DS)[i]?=some (some l)->ls[i]?=some l:=fun i l h=>by
  by_cases hi:i<ls.length
  ·rw[List.getElem?_append_left (by rw[List.length_map];exact hi)]at h
   obtain⟨x,h1,h2⟩:=at_map h
   cases h2;exact h1
  ·rw[List.getElem?_append_right (by rw[List.length_map];omega),List.getElem?_replicate]at h
   split at h<;>cases h
 have vsm:∀(i:Nat) (v:V),(vs.map some)[i]?=some (some v)->(vs.map some++List.replicate nl none:St)[i]?=some (some v):=fun i v h=>by
  rw[List.getElem?_append_left (List.getElem?_eq_some_iff.mp h).1];exact h
 have vsb:∀(i:Nat) (v:V),(vs.map some++List.replicate nl none:St)[i]?=some (some v)->(vs.map some)[i]?=some (some v):=fun i v h=>by
  by_cases hi:i<(vs.map some).length
  ·rw[List.getElem?_append_left hi]at h;exact h
  ·rw[List.getElem?_append_right (by omega),List.getElem?_replicate]at h
   split at h<;>cases h
 have lm:∀(i:Nat) (l:L),ls[i]?=some l->(ls.map some)[i]?=some (some l):=fun i l h=>by rw[List.getElem?_map,h];rfl
 let Mx:Addr->Prop:=fun a=>∃(i:Nat) (xs:Ow),ls[i]?=some xs.L/\vs[i]?=some (.ref a)
 let ar:List (Option V):=(ls.zip vs).map fun p=>match p.1 with
  |.m _=>some p.2
  |.k _=>some p.2
  |_=>none
 have arg:∀(i:Nat) (v:V),ar[i]?=some (some v)->∃xs:Ow,ls[i]?=some xs.L/\vs[i]?=some v:=fun i v h=>by
  obtain⟨⟨l,u⟩,h1,h2⟩:=at_map h
  rw[List.getElem?_zip_eq_some]at h1
  cases l with
  |d x=>cases h2
  |c x=>cases h2
  |m xs=>cases h2;exact⟨.l xs,h1.1,h1.2⟩
  |k xs=>cases h2;exact⟨.t xs,h1.1,h1.2⟩
  |g x=>cases h2
 have gar:∀(i:Nat) (xs:Ow) (v:V),ls[i]?=some xs.L->vs[i]?=some v->ar[i]?=some (some v):=fun i xs v h1 h2=>by
  show((ls.zip vs).map _)[i]?=_
  rw[List.getElem?_map,(List.getElem?_zip_eq_some (z:=(xs.L,v))).mpr ⟨h1,h2⟩]
  cases xs<;>rfl
 have Msub:∀a,Mx a->M a:=fun a ⟨i,xs,h1,h2⟩=>by
  obtain⟨b',us,h3,h4,_⟩:=hR.mt i xs (lm i _ h1)
  rw[List.getElem?_map,h2]at h3
  cases h3;exact h4
 have hng:∀(i:Nat) (d:PyData),ls[i]?≠some (.g d):=by
  cases o with
  |nx τ' =>
   cases fr with
   |false=>obtain⟨ls1,e2,_⟩:=oM e;exact fin_g e2
   |true=>cases e
  |bk τ'=>cases e
  |ct τ'=>cases e
  |rt d τ'=>obtain⟨ls1,e2,_⟩:=oM e;exact fin_g e2
 have f0:RF K ⟨S,Mx,H,ar⟩ S Mx (ls.map some++List.replicate nl none) (vs.map some++List.replicate nl none) H:=by
  refine ⟨⟨by simp [hvl], fun i x h => ?_, fun i x h => ?_, fun i x h => ?_, fun i j xs ys a h1 h2 h3 h4 => hR.inj i j xs ys a (lm _ _ (lsm _ _ h1)) (lm _ _ (lsm _ _ h2)) (vsb _ _ h3) (vsb _ _ h4), fun a h => hR.sub a (Msub a h), hR.ex, GR.nil hR.gr.1 fun i d h => hng i d (lsm i _ h)⟩,
   fun a h=>h,fun b o h _=>h,fun a h=>.inl h,fun a h=>h,hR.ex,fun a h=>hR.sub a (Msub a h),fun a h=>.inl h,fun i v h=>?_,fun i v h=>?_,fun a ⟨i,xs,h1,h2⟩=>⟨i,gar i xs _ h1 h2⟩⟩
  ·obtain⟨v,h1,h2⟩:=hR.dat i x (lm _ _ (lsm _ _ h))
   exact⟨v,vsm _ _ h1,h2⟩
  ·obtain⟨a,us,h1,h2,h3,h4⟩:=hR.mt i x (lm _ _ (lsm _ _ h))
   refine⟨a,us,vsm _ _ h1,⟨i,x,lsm _ _ h,?_⟩,h3,h4⟩
   obtain⟨v,h5,h6⟩:=at_map h1
   cases h6;exact h5
  ·obtain⟨a,us,h1,h2⟩:=hR.cst i x (lm _ _ (lsm _ _ h))
   exact⟨a,us,vsm _ _ h1,h2⟩
  ·obtain⟨xs,h1,h2⟩:=arg i v h
   exact vsm _ _ (by rw[List.getElem?_map,h2];rfl)
  ·obtain⟨xs,h1,h2⟩:=arg i v h
   refine⟨xs,?_⟩
   rw[List.getElem?_append_left (by rw[List.length_map];exact(List.getElem?_eq_some_iff.mp h1).1)]
   exact lm _ _ h1
 have hnp:ar.length<=np:=by
  show((ls.zip vs).map _).length<=np
  rw[List.length_map,List.length_zip]
  omega
 -- the end
 have done:∀{S' M' τ' σ' H' d v} {ls1:List L},RF K ⟨S,Mx,H,ar⟩ S' M' τ' σ' H'->fin ls τ'=some ls1->(r,ls')=(d,ls1)->Res K fr S H H' d v->Q v H':=fun {S' M' τ' σ' H' d v ls1} f hf er res=>by
  cases er
  have k:Keep S H S H':=fun b o hn e=>⟨hn,f.old b o e fun z=>hn (hR.sub b (Msub b z))⟩
  refine q v H' ⟨?_,fun i x h=>?_,fun i x h=>?_,fun i x h=>?_,fun i j xs ys a h1 h2 h3 h4=>?_,hR.sub,fun a h=>f.r.ex a (f.sS a h),GR.nil (hR.gr.1.to (tsS k.same)) fun i d h=>?_⟩ (fun b o hn e=>f.old b o e fun z=>hn (Msub b z)) res
  ·rw[List.length_map,List.length_map,fin_len hf,hvl]
  ·obtain⟨l,h1,h2⟩:=at_map h
   cases h2
   have:=fin_get hf h1
   obtain⟨v,h3,h4⟩:=hR.dat i x (lm _ _ this)
   exact⟨v,h3,h4.mono k.same⟩
  ·obtain⟨l,h1,h2⟩:=at_map h
   cases h2
   obtain⟨⟨ys,h3⟩,h4⟩:=fin_own hf h1
   obtain⟨a,us,h5,h6,h7,h8⟩:=f.r.mt i x h4
   obtain⟨b,ws,g1,g2,_⟩:=hR.mt i ys (lm _ _ h3)
   obtain⟨u,g3,g4⟩:=at_map g1
   cases g4
   have:=f.par i _ (gar i ys _ h3 g3)
   rw[h5]at this;cases this
   exact⟨a,us,g1,g2,h7,h8.mono (hid_less f.sS)⟩
  ·obtain⟨l,h1,h2⟩:=at_map h
   cases h2
   have:=fin_get hf h1
   obtain⟨a,us,h3,h4,h5⟩:=hR.cst i x (lm _ _ this)
   exact⟨a,us,h3,k.same.seq h4,h5.mono k.same⟩
  ·obtain⟨l1,g1,g2⟩:=at_map h1
   obtain⟨l2,g3,g4⟩:=at_map h2
   cases g2;cases g4
   obtain⟨⟨zs,h5⟩,_⟩:=fin_own hf g1
   obtain⟨⟨ws,h6⟩,_⟩:=fin_own hf g3
   exact hR.inj i j zs ws a (lm _ _ h5) (lm _ _ h6) h3 h4
  ·obtain⟨l,h1,h2⟩:=at_map h
   cases h2
   exact fin_get hf h1
 refine hb ⟨S,Mx,H,ar⟩ S Mx _ _ H _ o hnp f0 e1 ?_
 cases o with
 |nx τ' =>
  cases fr with
  |false =>
   obtain⟨ls1,e2,e⟩:=oM e
   intro S' M' σ' H' f k
   exact done f e2 e.symm rfl
  |true=>cases e
 |bk τ'=>cases e
 |ct τ'=>cases e
 |rt d τ' =>
  obtain⟨ls1,e2,e⟩:=oM e
  intro S' M' σ' H' v f res
  exact done f e2 e.symm res
end DL
end
section
namespace DL
open PySem L2 PyProof.Rows
variable {K:KW}
def fLen:List PyData->Option PyData
 |[.list xs]=>some (.int xs.length)
 |[.tuple xs]=>some (.int xs.length)
 |[.str x]=>if x.length<=sizeLine then some (.int x.length) else none
 |_=>none
theorem c_len:BR K false (fun xs H Q=>∃x n,xs=[x]/\LenV K x H n/\Q (.int n) H) fLen:=by
 intro S H vs ds d Q _ l e q
 unfold fLen at e
 split at e
 ·cases e
  obtain⟨v,us,rfl,⟨a,ws,rfl,h,lw⟩,iu⟩:=l
  cases (show us=[] from iu)
  exact⟨_,ws.length,rfl,.inl ⟨ws,SqL.of (hid_iff.mp h).2,rfl⟩,q _ H (fun _ _ e=>e) (by rw[lw.length];rfl)⟩
 ·cases e
  obtain⟨v,us,rfl,⟨a,ws,rfl,h,lw⟩,iu⟩:=l
  cases (show us=[] from iu)
  exact⟨_,ws.length,rfl,.inr ⟨ws,Same.tup same_hid h,rfl⟩,q _ H (fun _ _ e=>e) (by rw[lw.length];rfl)⟩
 ·split at e
  ·rename_i hz
   cases e
   obtain⟨v,us,rfl,iv,iu⟩:=l
   cases (show us=[] from iu)
   cases (show v = .str _ from iv)
   exact⟨_,_,rfl,⟨hz,rfl⟩,q _ H (fun _ _ e=>e) rfl⟩
  ·cases e
 ·cases e
def f1(g:Int->Int):List PyData->Option PyData
 |[.int i]=>some (.int (g i))
 |_=>none
def f2(g:Int->Int->Int):List PyData->Option PyData
 |[.int i,.int j]=>some (.int (g i j))
 |_=>none
def fAbs:=f1 fun i=>if i<0 then -i else i
def fMax2:=f2 fun i j=>if j>i then j else i
def fMin2:=f2 fun i j=>if j<i then j else i
def fInt1:List PyData->Option PyData
 |[.int i]=>some (.int i)
 |[.bool b]=>some (.int (if b then 1 else 0))
 |_=>none
def intsD:List PyData->Option (List Int)
 |[]=>some []
 |.int i::r=>(intsD r).map (i::·)
 |_::_=>none
theorem ints_is{H:Hp}:∀{ds:List PyData} {vs:List V} {ns:List Int},IsL K H ds vs->intsD ds=some ns->vs=ns.map V.int
 |[],_,_,h,e=>by cases e;exact h
 |.int i::r,_,_,⟨v,us,e1,iv,l⟩,e=>by
  obtain⟨ms,e2,e⟩:=oM e
  subst e
  cases (show v = .int i from iv)
  rw[e1,ints_is l e2]
  rfl
 |.none::_,_,_,_,e=>by cases e
 |.bool _::_,_,_,_,e=>by cases e
 |.str _::_,_,_,_,e=>by cases e
 |.list _::_,_,_,_,e=>by cases e
 |.tuple _::_,_,_,_,e=>by cases e
 |.dict _::_,_,_,_,e=>by cases e
def fListOf:List PyData->Option PyData
 |[.list xs]=>some (.list xs)
 |[.tuple xs]=>some (.list xs)
 |_=>none
theorem c_list:BR K true (fun xs H Q=>∃p ys,xs=[.ref p]/\(SqL K H p ys\/SqT K H p ys)/\∀l,H l=none->Q (.ref l) (upd H l (.lst ys))) fListOf:=by
 intro S H vs ds d Q _ l e q
 unfold fListOf at e
 split at e
 ·cases e
  obtain⟨v,us,rfl,⟨a,ws,rfl,h,lw⟩,iu⟩:=l
  cases (show us=[] from iu)
  exact⟨a,ws,rfl,.inl (SqL.of (hid_iff.mp h).2),fun p hp=>q _ _ (same_new hp _) (res_new hp lw)⟩
 ·cases e
  obtain⟨v,us,rfl,⟨a,ws,rfl,h,lw⟩,iu⟩:=l
  cases (show us=[] from iu)
  exact⟨a,ws,rfl,.inr (Same.tup same_hid h),fun p hp=>q _ _ (same_new hp _) (res_new hp lw)⟩
 ·cases e
def tyN:PyData->String
 |.none=>"NoneType"
 |.bool _=>"bool"
 |.int _=>"int"
 |.str _=>"str"
 |.list _=>"list"
 |.tuple _=>"tuple"
 |.dict _=>"dict"
def rIsi(K:KW):List V->Hp->VK->Prop:=fun xs H Q=>∃x T d b,xs=[x,.ty T]/\Is K H d x/\PySem.W.kitOne K (.type (tyN d)) (.type T)=some b/\Q (.bl b) H
theorem call_isiK{X:Cx}:CallR X (.builtin "isinstance") (rIsi (kwOf X)):=by
 intro pins s σ H xs us Q I r h
 obtain⟨x,T,d,b,rfl,ix,k,q⟩:=h
 obtain⟨u,w',rfl,rx,rT⟩:=vals2 r
 cases (show w'=Value.type T from rT)
 have fin:∀tk,EP X pins σ Q (.bool b) { s with toks:=tk }:=fun tk=>⟨.bl b,H,I.tok _,rfl,q⟩
 cases d with
 |none=>cases (show x = .non from ix);exact isinst_ok I rx .non k fin
 |bool y=>cases (show x = .bl y from ix);exact isinst_ok I rx (.bl y) k fin
 |int y=>cases (show x = .int y from ix);exact isinst_ok I rx (.int y) k fin
 |str y=>cases (show x = .str y from ix);exact isinst_ok I rx (.str y) k fin
 |list y=>obtain⟨a,vs,rfl,h,_⟩:=ix;exact isinst_ok I rx (.lst h) k fin
 |tuple y =>
  obtain⟨a,vs,rfl,h,_⟩:=ix
  cases (show u=Value.ref a from rx)
  obtain⟨its,_,⟨o,h1,h2,_⟩,_⟩:=I.tuple h
  exact PySem.W.kia_one PySem.W.kitx_tuple I.kIn ⟨o,h1,h2⟩ k (fun z=>nomatch z) fin
 |dict y =>
  obtain⟨a,ts,rfl,⟨ep,h⟩,_⟩:=ix
  cases (show u=Value.ref a from rx)
  obtain⟨⟨_,_,_,xs,pr,o,es,ho,he,hd,hes⟩,_,_⟩:=(show ObjOk X.prog X.w H s.heap a (.ext (phiD a ts ep)) from I.hok a _ h)
  exact PySem.W.kia_one PySem.W.kitx_dict I.kIn ⟨o,ho,he.1⟩ k (fun z=>nomatch z) fin
def isiT(T t:String):Bool:=t==T||(T=="int"&&t=="bool")
def isiD(T:String)(d:PyData):Bool:=isiT T (tyN d)
def tyOk(T:String):Bool:=["int","bool","str","list","tuple"].contains T
theorem kit_names{T t:String}(hT:T∈["int","bool","str","list","tuple"])(ht:t∈["NoneType","bool","int","str","list","tuple","dict"]):PySem.W.kitOne K (.type t) (.type T)=some (isiT T t):=by
 simp only[List.mem_cons,List.not_mem_nil,or_false]at hT ht
 rcases hT with rfl|rfl|rfl|rfl|rfl<;>rcases ht with rfl|rfl|rfl|rfl|rfl|rfl|rfl<;>first
  |exact kit_same _
  |exact kit_ty (by decide +kernel) (by decide +kernel) (by decide +kernel)
theorem kit_all{T:String}{d:PyData}(h:tyOk T=true):PySem.W.kitOne K (.type (tyN d)) (.type T)=some (isiD T d) :=
 kit_names (by simpa[tyOk] using h) (by cases d<;>simp[tyN])
def dIsi(T:String)(a:DX)(τ:DS):Option (PyData×DS):=(a τ).bind fun p=>if tyOk T then some (.bool (isiD T p.1),p.2) else none
theorem e_isi{T:String}{fr:Bool}{t:TE}{a:DX}(ha:E K t fr a):E K (tCB (rIsi K) (tCons t (tCons (tC (.ty T)) tNil))) false (dIsi T a):=by
 refine⟨fun τ d τ' e=>?_,?_⟩
 ·unfold dIsi at e
  obtain⟨⟨x,τ1⟩,e1,e⟩:=oB e
  split at e
  ·cases e;exact ha.like _ _ _ e1
  ·cases e
 intro S M τ σ H Q d τ' r e q
 unfold dIsi at e
 obtain⟨⟨x,τ1⟩,e1,e⟩:=oB e
 split at e
 ·rename_i hT
  cases e
  refine ha.weak.run S M τ σ H _ x _ r e1 fun v H1 r1 c1 i1=>?_
  exact⟨v,T,x,_,rfl,Is.mono same_hid i1,kit_all hT,q _ H1 r1 c1 rfl⟩
 ·cases e
def dPar(i j:Nat)(a:DA)(τ:DS):Option Out:=(a τ).bind fun p=>(allD p.1).bind fun ds=>match ds with
 |[x,y]=>(dN i x p.2).bind fun τ1=>(dN j y τ1).map .nx
 |_=>none
end DL
end
section
namespace DL
open PySem L2
variable {K:KW}
def dTBor(i:Nat)(f:DT)(τ:DS):Option (Bool×DS):=match τ[i]? with
 |some (some (.m xs))=>(f (τ.set i (some (.d (.list xs))))).bind fun q=>if q.2.all okM then some (q.1,q.2.set i (some (.m xs))) else none
 |some (some (.k xs))=>(f (τ.set i (some (.d (.dict (dctP xs)))))).bind fun q=>if q.2.all okM then some (q.1,q.2.set i (some (.k xs))) else none
 |_=>none
theorem dTBor_some{i:Nat}{f:DT}{τ:DS}{d:Bool}{τ':DS}(e:dTBor i f τ=some (d,τ')):∃w τ1,τ[i]?=some (some (Ow.L w))/\f (τ.set i (some (.d w.D)))=some (d,τ1)/\τ1.all okM=true/\τ'=τ1.set i (some w.L):=by
 unfold dTBor at e
 split at e
 ·rename_i xs hx
  obtain⟨⟨z,τ1⟩,e1,e⟩:=oB e
  dsimp only at e
  split at e
  ·rename_i h
   cases e
   exact⟨.l xs,τ1,hx,e1,h,rfl⟩
  ·cases e
 ·rename_i xs hx
  obtain⟨⟨z,τ1⟩,e1,e⟩:=oB e
  dsimp only at e
  split at e
  ·rename_i h
   cases e
   exact⟨.t xs,τ1,hx,e1,h,rfl⟩
  ·cases e
 ·cases e
theorem t_bor{i:Nat}{t:TT}{f:DT}(h:T K t f):T K t (dTBor i f):=by
 refine⟨fun τ d τ' e=>?_,?_⟩
 ·obtain⟨xs,τ1,e1,e2,_,rfl⟩:=dTBor_some e
  exact like_bor e1 (h.like _ _ _ e2)
 intro S M τ σ H Q d τ' r e q
 obtain⟨xs,τ1,e1,e2,ok,rfl⟩:=dTBor_some e
 obtain⟨p,us,hp,hM,hl,ll⟩:=r.mt i xs e1
 refine h.run _ _ _ σ H _ d τ1 (frz r e1 hp) e2 fun H' r' c=>?_
 exact q H' (unfrz r e1 hp r' (h.like _ _ _ e2) c ok) (fun b o hn e=>c b o (fun z=>hn z.1) e)
def dYes(τ:DS):Option (Bool×DS):=some (true,τ)
theorem t_yes:T K tYes dYes:=by
 refine⟨fun τ d τ' e=>?_,?_⟩
 ·cases e;exact .refl
 intro S M τ σ H Q d τ' r e q
 cases e
 exact q H r .refl
def lcChk(N':List Str)(own:Nat)(fr:List Nat)(scope:Scope)(N:List Str)(sc:Scope):Bool :=
 (scope.kind==.function)&&decide (N'.length=own+fr.length)&&(scope.names.all fun y=>y.2 != .cell)&&(scope.names.all fun y=>y.2 != .local||scope.names.lookup y.1==some .local) &&
 (scope.names.all fun y=>y.2 != .free||sc.names.lookup y.1==some .cell||sc.names.lookup y.1==some .free) &&
 (fr.zipIdx.all fun p=>match N'[own+p.2]?,N[p.1]? with|some x,some y=>decide (x=y)&&scope.names.lookup x==some .free|_,_=>false)
theorem lc_ok{X:Cx}{N':List Str}{own:Nat}{fr:List Nat}{scope:Scope}{N:List Str}{sc:Scope}(hN:X.N=N)(hs:X.env.scope=sc)(h:lcChk N' own fr scope N sc=true):LcOk X N' own fr scope:=by
 unfold lcChk at h
 simp only[Bool.and_eq_true]at h
 obtain⟨⟨⟨⟨⟨h1,h2⟩,h3⟩,h4⟩,h5⟩,h6⟩:=h
 subst hN hs
 refine⟨eq_of_beq h1,of_decide_eq_true h2,fun y hy=>?_,fun y hy e=>?_,fun x hx=>?_,fun k j e=>?_⟩
 ·have:=List.all_eq_true.mp h3 y hy
  intro z
  rw[z]at this
  simp at this
 ·have:=List.all_eq_true.mp h4 y hy
  rw[e]at this
  simpa using this
 ·have:=List.all_eq_true.mp h5 _ hx
  simpa using this
 ·have hm:(j,k)∈fr.zipIdx:=by
   rw[List.mem_zipIdx_iff_getElem?]
   exact e
  have:=List.all_eq_true.mp h6 _ hm
  dsimp only at this
  split at this
  ·rename_i x y hx hy
   rw[Bool.and_eq_true]at this
   have e1:x=y:=of_decide_eq_true this.1
   subst e1
   exact⟨x,hx,hy,eq_of_beq this.2⟩
  ·cases this
end DL
end
section
namespace DL
open PySem L2
theorem fin_nil{τ:DS}:fin [] τ=some []:=by cases τ<;>rfl
theorem fin_d{x:PyData}{ls:List L}{o:Option L}{τ:DS}:fin (.d x::ls) (o::τ)=(fin ls τ).map (.d x::·):=rfl
theorem fin_c{x:List PyData}{ls:List L}{o:Option L}{τ:DS}:fin (.c x::ls) (o::τ)=(fin ls τ).map (.c x::·):=rfl
theorem fin_m{x xs:List PyData}{ls:List L}{τ:DS}:fin (.m x::ls) (some (.m xs)::τ)=(fin ls τ).map (.m xs::·):=rfl
theorem fun_rt{fr:Bool}{np nl:Nat}{b:DB}{ls ls':List L}{d:PyData}{τ:DS}(h:b (ls.map some++List.replicate nl none)=some (.rt d τ))(hl:ls.length=np)(hf:fin ls τ=some ls'):dFun fr np nl b ls=some (d,ls'):=by
 unfold dFun
 rw[if_pos hl,h]
 show(fin ls τ).map _=_
 rw[hf]
 rfl
theorem seq_nx{a b:DB}{τ τ1:DS}(h:a τ=some (.nx τ1)):dSeq a b τ=b τ1:=by
 unfold dSeq
 rw[h]
 rfl
theorem seq_rt{a b:DB}{τ τ1:DS}{d:PyData}(h:a τ=some (.rt d τ1)):dSeq a b τ=some (.rt d τ1):=by
 unfold dSeq
 rw[h]
 rfl
theorem asg_nx{e:DX}{g:DG}{τ τ1 τ2:DS}{d:PyData}(h:e τ=some (d,τ1))(k:g d τ1=some τ2):dAsg e g τ=some (.nx τ2):=by
 unfold dAsg
 rw[h]
 show(g d τ1).map _=_
 rw[k]
 rfl
theorem ret_rt{e:DX}{τ τ1:DS}{d:PyData}(h:e τ=some (d,τ1)):dRet e τ=some (.rt d τ1):=by
 unfold dRet
 rw[h]
 rfl
theorem ifs_t{c:DT}{a b:DB}{τ τ1:DS}(h:c τ=some (true,τ1)):dIfS c a b τ=a τ1:=by
 unfold dIfS
 rw[h]
 rfl
theorem ifs_f{c:DT}{a b:DB}{τ τ1:DS}(h:c τ=some (false,τ1)):dIfS c a b τ=b τ1:=by
 unfold dIfS
 rw[h]
 rfl
theorem call_eq{G:List L->Option (PyData×List L)}{a:DA}{τ τ1:DS}{rs:List Ar}{ds:List PyData}{r:PyData}{ls:List L}(h:a τ=some (rs,τ1))(k:allD rs=some ds)(g:G (ds.map L.d)=some (r,ls)):dCall G a τ=some (r,τ1):=by
 unfold dCall
 rw[h]
 show(allD rs).bind _=_
 rw[k]
 show(G (ds.map L.d)).map _=_
 rw[g]
 rfl
theorem callM_eq{i:Nat}{G:List L->Option (PyData×List L)}{a:DA}{τ τ1:DS}{rs:List Ar}{ds:List PyData}{r:PyData}{ls:List L}{xs xs':List PyData}(h:a τ=some (rs,τ1))(k:allD rs=some ds)(m:τ1[i]?=some (some (.m xs)))(g:G (.m xs::ds.map L.d)=some (r,.m xs'::ls)):dCallM i G a τ=some (r,τ1.set i (some (.m xs'))):=by
 unfold dCallM
 rw[h]
 show(allD rs).bind _=_
 rw[k]
 dsimp only[Option.bind]
 rw[m]
 dsimp only
 rw[g]
theorem callC_eq{i:Nat}{G:List L->Option (PyData×List L)}{a:DA}{τ τ1:DS}{rs:List Ar}{ds:List PyData}{r:PyData}{ls:List L}{xs:List PyData}(h:a τ=some (rs,τ1))(k:allD rs=some ds)(m:τ1[i]?=some (some (.c xs)))(g:G (.c xs::ds.map L.d)=some (r,ls)):dCallC i G a τ=some (r,τ1):=by
 unfold dCallC
 rw[h]
 show(allD rs).bind _=_
 rw[k]
 show(match τ1[i]? with|some (some (.c xs))=>_|_=>_)=_
 rw[m]
 show(G (.c xs::ds.map L.d)).map _=_
 rw[g]
 rfl
theorem for_eq{it:DI}{g:DG}{b:DB}{τ τ1:DS}{ds:List PyData}(h:it τ=some (ds,τ1)):dFor it g b τ=dLoop g b ds τ1:=by
 unfold dFor
 rw[h]
 rfl
theorem loop_list{α:Type}{enc:α->PyData}{g:DG}{b:DB}(J:List α->DS->Prop):∀{xs pre:List α} {τ:DS},J pre τ->(∀x pre τ,x∈xs->J pre τ->∃τ1 τ2,g (enc x) τ=some τ1/\b τ1=some (.nx τ2)/\J (pre++[x]) τ2)->∃τ',dLoop g b (xs.map enc) τ=some (.nx τ')/\J (pre++xs) τ'
 |[],pre,τ,h0,_=>⟨τ,rfl,by rw[List.append_nil];exact h0⟩
 |x::xs,pre,τ,h0,h=>by
  obtain⟨τ1,τ2,e1,e2,h1⟩:=h x pre τ List.mem_cons_self h0
  obtain⟨τ',e3,h3⟩:=loop_list J (xs:=xs) (pre:=pre++[x]) (τ:=τ2) h1 (fun y p t hy hj=>h y p t (List.mem_cons_of_mem _ hy) hj)
  refine⟨τ',?_,by rw[List.append_assoc]at h3;exact h3⟩
  rw[List.map_cons,dLoop,e1]
  show(b τ1).bind _=_
  rw[e2]
  exact e3
theorem lc_list{α:Type}{enc:α->PyData}{g:DG}{c:DT}{e:DX}(J:DS->Prop)(p:α->Bool)(f:α->PyData):∀{xs:List α} {acc:List PyData} {τ:DS},J τ ->
  (∀x τ,x∈xs->J τ->∃τ1 τ2,g (enc x) τ=some τ1/\c τ1=some (p x,τ2)/\(p x=false->J τ2)/\(p x=true->∃τ3,e τ2=some (f x,τ3)/\J τ3))->∃τ',lcLoop g c e (xs.map enc) acc τ=some (acc++(xs.filter p).map f,τ')
 |[],acc,τ,h0,_=>⟨τ,by simp[lcLoop]⟩
 |x::xs,acc,τ,h0,h=>by
  obtain⟨τ1,τ2,e1,e2,hf,ht⟩:=h x τ List.mem_cons_self h0
  have hr:∀y t,y∈xs->J t->_:=fun y t hy hj=>h y t (List.mem_cons_of_mem _ hy) hj
  cases hp:p x with
  |false =>
   obtain⟨τ',e3⟩:=lc_list J p f (xs:=xs) (acc:=acc) (τ:=τ2) (hf hp) hr
   refine⟨τ',?_⟩
   rw[List.map_cons,lcLoop,e1]
   show(c τ1).bind _=_
   rw[e2,hp]
   show lcLoop g c e (xs.map enc) acc τ2=_
   rw[e3,List.filter_cons,hp]
   rfl
  |true =>
   obtain⟨τ3,e4,h4⟩:=ht hp
   obtain⟨τ',e3⟩:=lc_list J p f (xs:=xs) (acc:=acc++[f x]) (τ:=τ3) h4 hr
   refine⟨τ',?_⟩
   rw[List.map_cons,lcLoop,e1]
   show(c τ1).bind _=_
   rw[e2,hp]
   show(e τ2).bind _=_
   rw[e4]
   show lcLoop g c e (xs.map enc) (acc++[f x]) τ3=_
   rw[e3,List.filter_cons,hp,List.append_assoc]
   rfl
theorem dlc_eq{own:Nat}{fr:List Nat}{it:DI}{g:DG}{c:DT}{e:DX}{τ τ1 τb:DS}{ds acc:List PyData}(h:it τ=some (ds,τ1))(hz:ds.length<=sizeLine)(hm:(fr.all fun j=>!isM τ1 j)=true)(hl:lcLoop g c e ds [] (blkD own fr τ1)=some (acc,τb)):dLC own fr it g c e τ=some (.list acc,τ1):=by
 unfold dLC
 rw[h]
 show(if ds.length<=sizeLine/\(fr.all fun j=>!isM τ1 j)=true then _ else _)=_
 rw[if_pos ⟨hz,hm⟩,hl]
 rfl
theorem sz{n:Nat}(h:n<=1000):n<=sizeLine:=Nat.le_trans h (by decide)
theorem sz'{n:Nat}(h:n<=1000):(n<=sizeLine)=True:=eq_true (sz h)
theorem bd_small{m:Int}(h0:0<m)(h1:m<10 ^ 70):Bd 8000 m:=by
 have:Bd 240 m:=Bd.of (m:=10 ^ 70) (by omega) (by omega) (by decide)
 exact this.mono (by decide)
theorem cst_same{K:KW}{H:Hp}{a:Addr}{xs:List V}(h:SqL K H a xs):SqL K (hid (fun _=>False) H) a xs:=Same.seq (fun b o e=>hid_iff.mpr ⟨fun z=>z,e⟩) h
theorem isl_ints{K:KW}{H:Hp}:∀ns:List Int,IsL K H (ns.map PyData.int) (ns.map V.int)
 |[]=>rfl
 |_::ns=>⟨_,_,rfl,rfl,isl_ints ns⟩
structure Enc{α:Type}[DecidableEq α](enc:α->PyData):Prop where
 eqv:∀a b,PyData.eqv (enc a) (enc b)=decide (a=b)
 can:∀a,(enc a).canLay0=true
 dep:∀a,(enc a).depth<=20
 fix:∀a,fixD (enc a)=true
section
variable {α:Type} [DecidableEq α] {enc:α->PyData}
theorem Enc.ok(h:Enc enc)(a:α):okD (enc a)=true:=by
 unfold okD SeqAt.shaped
 rw[Bool.and_eq_true]
 exact⟨h.can a,decide_eq_true (Nat.le_trans (h.dep a) (by decide))⟩
theorem Enc.canL(h:Enc enc):∀xs:List α,PyData.canLayAll0 (xs.map enc)=true
 |[]=>rfl
 |x::xs=>by
  rw[List.map_cons,PyData.canLayAll0,h.can,Enc.canL h xs];rfl
theorem Enc.depL(h:Enc enc):∀xs:List α,PyData.depthAll (xs.map enc)<=20
 |[]=>Nat.zero_le _
 |x::xs=>by
  rw[List.map_cons,PyData.depthAll]
  have:=h.dep x
  have:=Enc.depL h xs
  omega
theorem Enc.okL(h:Enc enc)(xs:List α):okD (.list (xs.map enc))=true:=by
 unfold okD SeqAt.shaped
 rw[Bool.and_eq_true,PyData.canLay0,PyData.depth]
 exact⟨h.canL xs,decide_eq_true (by have:=h.depL xs;omega)⟩
theorem Enc.eqvL(h:Enc enc):∀xs ys:List α,PyData.eqvAll (xs.map enc) (ys.map enc)=decide (xs=ys)
 |[],[]=>rfl
 |[],_::_=>rfl
 |_::_,[]=>rfl
 |x::xs,y::ys=>by
  rw[List.map_cons,List.map_cons,PyData.eqvAll,h.eqv,Enc.eqvL h xs ys]
  by_cases e:x=y
  ·subst e
   by_cases e':xs=ys
   ·subst e';simp
   ·simp[e']
  ·simp[e]
theorem Enc.eqL(h:Enc enc)(xs ys:List α):PyData.eqv (.list (xs.map enc)) (.list (ys.map enc))=decide (xs=ys):=by
 rw[PyData.eqv];exact h.eqvL xs ys
theorem Enc.any(h:Enc enc)(x:α):∀xs:List α,((xs.map enc).any fun y=>PyData.eqv y (enc x))=decide (x∈xs)
 |[]=>by simp
 |y::ys=>by
  rw[List.map_cons,List.any_cons,h.eqv,Enc.any h x ys]
  by_cases e:y=x
  ·subst e;simp
  ·have:¬x=y:=fun z=>e z.symm
   simp[e,this]
theorem Enc.fixL(h:Enc enc):∀xs:List α,fixDs (xs.map enc)=true
 |[]=>rfl
 |x::xs=>by rw[List.map_cons,fixDs,h.fix,Enc.fixL h xs];rfl
theorem Enc.fEq(h:Enc enc)(a b:α):DL.fEq (enc a) (enc b)=some (.bool (decide (a=b))):=by
 unfold DL.fEq;rw[h.ok,h.ok,h.eqv];rfl
theorem Enc.fNe(h:Enc enc)(a b:α):DL.fNe (enc a) (enc b)=some (.bool (!decide (a=b))):=by
 unfold DL.fNe;rw[h.ok,h.ok,h.eqv];rfl
theorem Enc.fEqL(h:Enc enc)(a b:List α):DL.fEq (.list (a.map enc)) (.list (b.map enc))=some (.bool (decide (a=b))):=by
 unfold DL.fEq;rw[h.okL,h.okL,h.eqL];rfl
theorem Enc.fNeL(h:Enc enc)(a b:List α):DL.fNe (.list (a.map enc)) (.list (b.map enc))=some (.bool (!decide (a=b))):=by
 unfold DL.fNe;rw[h.okL,h.okL,h.eqL];rfl
theorem Enc.fIn(h:Enc enc)(a:α)(xs:List α):DL.fIn false (enc a) (.list (xs.map enc))=some (.bool (decide (a∈xs))):=by
 simp only[DL.fIn,h.ok,h.okL,h.any,Bool.and_self,if_true,Bool.false_eq_true,if_false]
theorem Enc.fNotIn(h:Enc enc)(a:α)(xs:List α):DL.fIn true (enc a) (.list (xs.map enc))=some (.bool (!decide (a∈xs))):=by
 simp only[DL.fIn,h.ok,h.okL,h.any,Bool.and_self,if_true]
end
theorem encI:Enc (α:=Int) PyData.int:=⟨fun a b=>by rw[PyData.eqv];by_cases h:a=b<;>simp[h],fun _=>rfl,fun _=>by rw[PyData.depth];decide,fun _=>rfl⟩
def ec(p:Int×Int):PyData:=.tuple [.int p.1,.int p.2]
theorem encC:Enc ec:=by
 refine⟨fun a b=>?_,fun _=>rfl,fun a=>?_,fun _=>rfl⟩
 ·unfold ec
  simp only[PyData.eqv,PyData.eqvAll,Bool.and_true]
  obtain⟨a1,a2⟩:=a
  obtain⟨b1,b2⟩:=b
  by_cases h1:a1=b1
  ·by_cases h2:a2=b2<;>simp[h1,h2]
  ·simp[h1]
 ·unfold ec;simp[PyData.depth,PyData.depthAll]
structure Bx where
 x:Int
 y:Int
 w:Int
 h:Int
 deriving DecidableEq
def eb(b:Bx):PyData:=.tuple [.int b.x,.int b.y,.int b.w,.int b.h]
theorem encB:Enc eb:=by
 refine⟨fun a b=>?_,fun _=>rfl,fun a=>?_,fun _=>rfl⟩
 ·unfold eb
  simp only[PyData.eqv,PyData.eqvAll,Bool.and_true]
  obtain⟨a1,a2,a3,a4⟩:=a
  obtain⟨b1,b2,b3,b4⟩:=b
  simp only[Bx.mk.injEq]
  by_cases h1:a1=b1<;>by_cases h2:a2=b2<;>by_cases h3:a3=b3<;>by_cases h4:a4=b4<;>simp[h1,h2,h3,h4]
 ·unfold eb;simp[PyData.depth,PyData.depthAll]
end DL
end
section
namespace DL
open PySem L2
def rng(lo:Int)(n:Nat):List Int:=(List.range n).map fun(k:Nat)=>lo+(k:Int)
theorem rangeD_eq(lo:Int)(n:Nat):rangeD lo n=(rng lo n).map PyData.int:=by
 unfold rangeD rng
 rw[List.map_map]
 rfl
theorem rng_len(lo:Int)(n:Nat):(rng lo n).length=n:=by unfold rng;simp
theorem mem_rng{lo v n:Int}:v∈rng lo n.toNat↔lo<=v/\v<lo+n:=by
 unfold rng
 rw[List.mem_map]
 constructor
 ·rintro⟨k,hk,rfl⟩
  rw[List.mem_range]at hk
  omega
 ·rintro⟨h1,h2⟩
  exact⟨(v-lo).toNat,by rw[List.mem_range];omega,by omega⟩
theorem sorted_ext{α:Type}{R:α->α->Prop}(as:∀a b,R a b->¬R b a):∀{l1 l2:List α},l1.Pairwise R->l2.Pairwise R->(∀x,x∈l1↔x∈l2)->l1=l2
 |[],[],_,_,_=>rfl
 |[],y::_,_,_,h=>by have:=(h y).mpr List.mem_cons_self;simp at this
 |x::_,[],_,_,h=>by have:=(h x).mp List.mem_cons_self;simp at this
 |x::xs,y::ys,h1,h2,h=>by
  rw[List.pairwise_cons]at h1 h2
  have ir:∀a,¬R a a:=fun a z=>as a a z z
  have e:x=y:=by
   rcases List.mem_cons.mp ((h x).mp List.mem_cons_self)with e|e
   ·exact e
   ·rcases List.mem_cons.mp ((h y).mpr List.mem_cons_self)with e'|e'
    ·exact e'.symm
    ·exact absurd (h1.1 y e') (as _ _ (h2.1 x e))
  subst e
  congr 1
  refine sorted_ext as h1.2 h2.2 fun z=>?_
  constructor
  ·intro hz
   rcases List.mem_cons.mp ((h z).mp (List.mem_cons_of_mem _ hz))with e|e
   ·subst e;exact absurd (h1.1 z hz) (ir z)
   ·exact e
  ·intro hz
   rcases List.mem_cons.mp ((h z).mpr (List.mem_cons_of_mem _ hz))with e|e
   ·subst e;exact absurd (h2.1 z hz) (ir z)
   ·exact e
abbrev Cl:=Int×Int
def lt2(p q:Cl):Prop:=p.2<q.2\/(p.2=q.2/\p.1<q.1)
theorem lt2_as(a b:Cl)(h:lt2 a b):¬lt2 b a:=by unfold lt2 at *;omega
def rowC(x v:Int)(w:Nat):List Cl:=(rng x w).map fun u=>(u,v)
def cells(b:Bx):List Cl:=(rng b.y b.h.toNat).flatMap fun v=>rowC b.x v b.w.toNat
def inB(b:Bx)(p:Cl):Prop:=b.x<=p.1/\p.1<b.x+b.w/\b.y<=p.2/\p.2<b.y+b.h
instance {b:Bx} {p:Cl}:Decidable (inB b p):=by unfold inB;infer_instance
theorem mem_row{x v w:Int}{p:Cl}:p∈rowC x v w.toNat↔x<=p.1/\p.1<x+w/\p.2=v:=by
 unfold rowC
 rw[List.mem_map]
 constructor
 ·rintro⟨u,hu,rfl⟩
  rw[mem_rng]at hu
  exact⟨hu.1,hu.2,rfl⟩
 ·rintro⟨h1,h2,h3⟩
  exact⟨p.1,mem_rng.mpr ⟨h1,h2⟩,by rw[<- h3]⟩
theorem cells_len(b:Bx):(cells b).length=b.h.toNat*b.w.toNat:=by
 unfold cells
 rw[List.length_flatMap]
 have:∀l:List Int,(l.map fun v=>(rowC b.x v b.w.toNat).length).sum=l.length*b.w.toNat:=by
  intro l
  induction l with
  |nil=>simp
  |cons v l ih =>
   rw[List.map_cons,List.sum_cons,ih,List.length_cons,Nat.succ_mul]
   unfold rowC
   rw[List.length_map,rng_len]
   omega
 rw[this,rng_len]
def nM(o:Option L):Prop:=(∀xs,o≠some (.m xs))/\∀xs,o≠some (.k xs)
theorem nM_none:nM none:=⟨fun xs z=>(nomatch z),fun xs z=>(nomatch z)⟩
theorem nM_d{x:PyData}:nM (some (.d x)):=⟨fun xs z=>(nomatch z),fun xs z=>(nomatch z)⟩
theorem dN_eq{i:Nat}{d:PyData}{τ:DS}{o:Option L}(h:τ[i]?=some o)(hn:nM o):dN i d τ=some (τ.set i (some (.d d))):=by
 unfold dN
 rw[h]
 cases o with
 |none=>rfl
 |some l=>cases l with
  |m xs=>exact absurd rfl (hn.1 xs)
  |k xs=>exact absurd rfl (hn.2 xs)
  |d x=>rfl
  |c x=>rfl
  |g x=>rfl
end DL
end
section
namespace DL
open PySem L2
variable {K:KW}
def isC(τ:DS)(j:Nat):Bool:=match τ[j]? with
 |some (some (.c _))=>true
 |_=>false
def dAS(i:Nat)(r:DA)(τ:DS):Option (List Ar×DS):=if (isM τ i||isC τ i)=true then (r τ).map fun q=>(.s i::q.1,q.2) else none
def mkL(τ:DS):List Ar->Option (List L)
 |[]=>some []
 |.d x::r=>(mkL τ r).map (.d x::·)
 |.s i::r=>match τ[i]? with
  |some (some (.m xs))=>(mkL τ r).map (.m xs::·)
  |some (some (.c xs))=>(mkL τ r).map (.c xs::·)
  |_=>none
def nMb:L->Bool
 |.m _=>false
 |.k _=>false
 |_=>true
def dCallP(k i:Nat)(G:List L->Option (PyData×List L))(a:DA)(τ:DS):Option (PyData×DS):=(a τ).bind fun p=>(mkL p.2 p.1).bind fun ls=>match p.1[k]?,ls[k]? with
 |some (.s j),some (.m _)=>if j=i/\(ls.set k (.d .none)).all nMb=true then (G ls).bind fun q=>match q.2[k]? with
   |some (.m xs)=>some (q.1,p.2.set i (some (.m xs)))
   |_=>none
  else none
 |_,_=>none
theorem tyOk_int:tyOk "int"=true:=rfl
theorem isi_int_none:isiD "int" .none=false:=rfl
theorem isi_int_bool{b:Bool}:isiD "int" (.bool b)=true:=rfl
theorem isi_int_int{b:Int}:isiD "int" (.int b)=true:=rfl
theorem isi_int_str{b:Str}:isiD "int" (.str b)=false:=rfl
theorem isi_int_list{b:List PyData}:isiD "int" (.list b)=false:=rfl
theorem isi_int_tuple{b:List PyData}:isiD "int" (.tuple b)=false:=rfl
theorem tyOk_bool:tyOk "bool"=true:=rfl
theorem isi_bool_none:isiD "bool" .none=false:=rfl
theorem isi_bool_bool{b:Bool}:isiD "bool" (.bool b)=true:=rfl
theorem isi_bool_int{b:Int}:isiD "bool" (.int b)=false:=rfl
theorem isi_bool_str{b:Str}:isiD "bool" (.str b)=false:=rfl
theorem isi_bool_list{b:List PyData}:isiD "bool" (.list b)=false:=rfl
theorem isi_bool_tuple{b:List PyData}:isiD "bool" (.tuple b)=false:=rfl
theorem tyOk_str:tyOk "str"=true:=rfl
theorem isi_str_none:isiD "str" .none=false:=rfl
theorem isi_str_bool{b:Bool}:isiD "str" (.bool b)=false:=rfl
theorem isi_str_int{b:Int}:isiD "str" (.int b)=false:=rfl
theorem isi_str_str{b:Str}:isiD "str" (.str b)=true:=rfl
theorem isi_str_list{b:List PyData}:isiD "str" (.list b)=false:=rfl
theorem isi_str_tuple{b:List PyData}:isiD "str" (.tuple b)=false:=rfl
theorem tyOk_list:tyOk "list"=true:=rfl
theorem isi_list_none:isiD "list" .none=false:=rfl
theorem isi_list_bool{b:Bool}:isiD "list" (.bool b)=false:=rfl
theorem isi_list_int{b:Int}:isiD "list" (.int b)=false:=rfl
theorem isi_list_str{b:Str}:isiD "list" (.str b)=false:=rfl
theorem isi_list_list{b:List PyData}:isiD "list" (.list b)=true:=rfl
theorem isi_list_tuple{b:List PyData}:isiD "list" (.tuple b)=false:=rfl
theorem tyOk_tuple:tyOk "tuple"=true:=rfl
theorem isi_tuple_none:isiD "tuple" .none=false:=rfl
theorem isi_tuple_bool{b:Bool}:isiD "tuple" (.bool b)=false:=rfl
theorem isi_tuple_int{b:Int}:isiD "tuple" (.int b)=false:=rfl
theorem isi_tuple_str{b:Str}:isiD "tuple" (.str b)=false:=rfl
theorem isi_tuple_list{b:List PyData}:isiD "tuple" (.list b)=false:=rfl
theorem isi_tuple_tuple{b:List PyData}:isiD "tuple" (.tuple b)=true:=rfl
theorem loop_pre_go{α:Type}{enc:α->PyData}{g:DG}{b:DB}{all:List α}(J:List α->DS->Prop)(h:∀pre x post τ,all=pre++x::post->J pre τ->∃τ1 τ2,g (enc x) τ=some τ1/\b τ1=some (.nx τ2)/\J (pre++[x]) τ2) :
  ∀{xs pre:List α} {τ:DS},all=pre++xs->J pre τ->∃τ',dLoop g b (xs.map enc) τ=some (.nx τ')/\J all τ'
 |[],pre,τ,e,h0=>⟨τ,rfl,by rw[e,List.append_nil];exact h0⟩
 |x::xs,pre,τ,e,h0=>by
  obtain⟨τ1,τ2,e1,e2,h1⟩:=h pre x xs τ e h0
  obtain⟨τ',e3,h3⟩:=loop_pre_go J h (xs:=xs) (pre:=pre++[x]) (τ:=τ2) (by rw[e,List.append_assoc];rfl) h1
  refine⟨τ',?_,h3⟩
  rw[List.map_cons,dLoop,e1]
  show(b τ1).bind _=_
  rw[e2]
  exact e3
theorem loop_pre{α:Type}{enc:α->PyData}{g:DG}{b:DB}{xs:List α}{τ:DS}(J:List α->DS->Prop)(h0:J [] τ)(h:∀pre x post τ,xs=pre++x::post->J pre τ->∃τ1 τ2,g (enc x) τ=some τ1/\b τ1=some (.nx τ2)/\J (pre++[x]) τ2) :
  ∃τ',dLoop g b (xs.map enc) τ=some (.nx τ')/\J xs τ':=loop_pre_go J h (pre:=[]) rfl h0
theorem r1_eq{n:Int}{τ τ1:DS}{a:DA}(h:a τ=some ([.d (.int n)],τ1))(h0:-100000<=n)(h1:n<=100000):dR1 a τ=some ((rng 0 n.toNat).map PyData.int,τ1):=by
 unfold dR1
 rw[h]
 show(if -(2 ^ 62)<=n/\n<2 ^ 62 then some (rangeD 0 n.toNat,τ1) else none)=_
 rw[if_pos (by omega),rangeD_eq]
theorem apnd{i:Nat}{a:DA}{τ τ1:DS}{rs:List Ar}{d:PyData}{xs:List PyData}(h:a τ=some (rs,τ1))(k:allD rs=some [d])(m:τ1[i]?=some (some (.m xs)))(hz:xs.length<900):dExpr (dMt i gAppend a) τ=some (.nx (τ1.set i (some (.m (xs++[d]))))):=by
 have hs:xs.length<sizeLine:=Nat.lt_of_lt_of_le (Nat.lt_trans hz (by decide:900<1000)) (by decide)
 unfold dExpr dMt
 rw[h]
 show(((allD rs).bind _)).map _=_
 rw[k]
 show((match τ1[i]? with|some (some (.m xs))=>_|_=>_):Option (PyData×DS)).map _=_
 rw[m]
 show((if xs.length<sizeLine then some (PyData.none,xs++[d]) else none).map _).map _=_
 rw[if_pos hs]
 rfl
theorem rng_shift(lo:Int)(n:Nat):rng lo n=(rng 0 n).map fun i=>lo+i:=by
 unfold rng
 rw[List.map_map]
 refine List.map_congr_left fun k _=>?_
 show lo+(k:Int)=lo+(0+(k:Int))
 omega
theorem split_len{α:Type}{xs pre post:List α}{x:α}(e:xs=pre++x::post):pre.length<xs.length:=by rw[e,List.length_append,List.length_cons];omega
theorem split_mem{α:Type}{xs pre post:List α}{x:α}(e:xs=pre++x::post):x∈xs:=by rw[e];exact List.mem_append_right _ List.mem_cons_self
end DL
end
section
namespace DL
open PySem PySem.Spec L2 PyProof.Rows
theorem nolen_lr:typeLookup (.type "list_reverseiterator") "__len__"=pure none:=by rw[typeLookup_type,builtinLookup_eq_fast];kernel_rfl
theorem hint_lr:typeLookup (.type "list_reverseiterator") "__length_hint__"=pure (some (.builtin "list_reverseiterator.__length_hint__")):=by rw[typeLookup_type,builtinLookup_eq_fast];kernel_rfl
section
variable {prog:Program} {w:World} {A:Around} {s:Shared} {R:Result->Shared->Prop}
variable {I:Addr} {fp wr:List Addr} {G:Array GenState->Array GenState->Prop} {n:Nat} {P:Nat->Value->Prop} {St:Nat->Shared->Prop}
theorem extend_rev(W:WalksS prog w A.in1 I fp wr G n P St)(hT:∀i s,St i s->s.TypeIs (.ref I) "list_reverseiterator")(S:Addr)(res:Value)(c₀:Nat)(hst:St 0 s)(hSf:S∉fp)(hI:I∈fp)
  (hS:s.heap.get? S=some { cls:=.type "list",data:=.seq #[] c₀ })
  (hR:∀s' acc' c',Moved (S::wr) G s s'->s'.heap.get? S=some { cls:=.type "list",dict:=none,data:=.seq acc' c',slots:=#[] }->ItemsOf P acc' n->R (.ok (.ret res)) s') (hn:n<=sizeLine) :
  wpAny (model prog w) A.in1 (Builtin.List.listExtendWith (.ref S) (.ref I) res)
   (fun fin s'=>match fin with|.done f=>R (.ok f) s'|.again c'=>c'.quiet=true/\codeAny (model prog w) A c' R s') (fun e s'=>R (.error e) s') s:=by
 have hSI:S≠I:=fun e=>hSf (e▸hI)
 have h1:Builtin.List.listSameRef (.ref S) (.ref I)=false:=by simp[Builtin.List.listSameRef,hSI]
 unfold Builtin.List.listExtendWith
 refine wpAny_bind (wpAny_typeOf (hT 0 _ hst) ?_)
 rw[if_neg (by rw[h1];decide)]
 refine wpAny_bind (W.self 0 _ _ _ hst ?_)
 refine wpAny_bind (wpAny_holding ?_)
 unfold Builtin.List.listLengthHint
 refine wpAny_bind (wpAny_specialOf (hT 0 _ hst) nolen_lr ?_)
 show wpAny _ A.in1 (specialOf (Value.ref I) (Str.ofString "__length_hint__") >>= _) _ _ _
 refine wpAny_bind (wpAny_specialOf (hT 0 _ hst) hint_lr ?_)
 (generalize hid:("list_reverseiterator.__length_hint__":String)=id0;(fail_if_success (clear hid id0));wp_delta;rw[show splitId id0=some ("list_reverseiterator","__length_hint__") from by subst hid;decide +kernel];subst hid)
 refine wpAny_bind (wpAny_isInstance (b:=true) (hT 0 _ hst) (by rw[isSubtype_type];kernel_rfl) ?_)
 refine wpAny_pure ?_
 rw[if_neg (by decide)]
 exact wpAny_pure ⟨plainId_quiet F.plain_extend_loop _,codeAny_extend_loopS W hn _ hSf _ n 0 _ _ _ rfl (Nat.zero_le _) hst hS (ItemsOf.nil P) fun s' acc' c' hm hS' hacc=>hR s' acc' c' hm hS' hacc⟩
theorem init_rev(W:WalksS prog w A.in1 I fp wr G n P St)(hT:∀i s,St i s->s.TypeIs (.ref I) "list_reverseiterator")(S:Addr)(hst:St 0 s)(hSf:S∉fp)(hI:I∈fp)
  (hS:s.heap.get? S=some { cls:=.type "list",data:=.seq #[] })
  (hR:∀s' acc' c',Moved (S::wr) G s s'->s'.heap.get? S=some { cls:=.type "list",dict:=none,data:=.seq acc' c',slots:=#[] }->ItemsOf P acc' n->R (.ok (.ret .none)) s') (hn:n<=sizeLine) :
  wpAny (model prog w) A.in1 (Builtin.«list.__init__» ⟨[.ref S,.ref I],[]⟩)
   (fun fin s'=>match fin with|.done f=>R (.ok f) s'|.again c'=>c'.quiet=true/\codeAny (model prog w) A c' R s') (fun e s'=>R (.error e) s') s:=by
 show wpAny _ A.in1 (do let old <- Builtin.List.listItems (.ref S);Builtin.List.listUpdate (.ref S) (fun _=>#[]);letGo old.toList.reverse;Builtin.List.listExtendWith (.ref S) (.ref I) .none) _ _ s
 refine wpAny_bind ?_
 unfold Builtin.List.listItems
 refine wpAny_bind (wpAny_seqItems hS rfl (wpAny_pure ?_))
 show wpAny _ A.in1 (updateSeq S (fun _=>#[]) >>= fun _=>letGo (#[]:Array Value).toList.reverse >>= fun _=>Builtin.List.listExtendWith (.ref S) (.ref I) .none) _ _ s
 refine wpAny_bind (wpAny_updateSeq hS rfl ?_)
 have hS₂:=Heap.get?_update_self (Obj.mapSeq (fun _=>(#[]:Array Value))) hS rfl
 have oth:∀b o,b≠S->s.heap.get? b=some o->(s.heap.update S (Obj.mapSeq (fun _=>(#[]:Array Value)))).get? b=some o :=
  fun b o hb e=>(Heap.get?_update_other _ _ (Ne.symm hb)).trans e
 refine wpAny_bind (wpAny_letGo ?_)
 refine extend_rev W hT S .none _ (W.frame 0 s _ s.toks hst (Nat.le_refl _) fun b hb o e=>oth b o (fun h=>hSf (h▸hb)) e) hSf hI hS₂ (fun s' acc' c' hm hS' hacc=>?_) hn
 exact hR s' acc' c' (Moved.trans W.gtrans ((Moved.refl W.grefl).then_heap (Nat.le_refl _) fun b o hb e=>oth b o (fun h=>hb (h▸List.mem_cons_self)) e) hm) hS' hacc
end
section
variable {prog:Program} {w:World} {A:Around} {E:Value->Shared->Prop} {s:Shared}
variable {I:Addr} {fp wr:List Addr} {G:Array GenState->Array GenState->Prop} {n:Nat} {P:Nat->Value->Prop} {St:Nat->Shared->Prop}
theorem call_list_rev{Q:Value->Shared->Prop}(W:WalksS prog w A.in1.in1 I fp wr G n P St)(hT:∀i s,St i s->s.TypeIs (.ref I) "list_reverseiterator")(hst:St 0 s)(hfp:∀b∈fp,b<s.heap.objs.size)(hI:I∈fp)
  (hQ : ∀ s' acc' c', Moved (s.heap.objs.size :: wr) G { s with heap := s.heap.push { cls := .type "list", data := .seq #[] } } s' ->
   s'.heap.get? s.heap.objs.size=some { cls:=.type "list",dict:=none,data:=.seq acc' c',slots:=#[] }->ItemsOf P acc' n->Q (.ref s.heap.objs.size) s') (hn:n<=sizeLine) :
  wpAny (model prog w) A (call (.type "list") [.ref I]) Q E s:=by
 have hSf:s.heap.objs.size∉fp:=fun hm=>Nat.lt_irrefl _ (hfp _ hm)
 refine callType_codes (Q₁:=fun obj s₁=>obj = .ref s.heap.objs.size/\s₁={ s with heap:=s.heap.push { cls:=.type "list",data:=.seq #[] } }) F.called_list (F.typeCall_list_1 _) F.entry_list_init
  (code_list_new _ ⟨rfl,rfl⟩) fun obj s₁ h₁=>?_
 obtain⟨rfl,rfl⟩:=h₁
 have hS:(s.heap.push { cls:=.type "list",data:=.seq #[] }).get? s.heap.objs.size=some { cls:=.type "list",data:=.seq #[] }:=Heap.get?_push_size _ rfl
 refine⟨⟨_,hS,rfl⟩,F.args_list_init_2 _ _,init_rev W hT _ (W.frame 0 s _ s.toks hst (Nat.le_refl _) fun b _ o e=>Heap.get?_push_of_some _ e) hSf hI hS (fun s' acc' c' hm hS' hacc=>?_) hn⟩
 exact⟨rfl,hQ s' acc' c' hm hS' hacc⟩
end
theorem boot_rev:bootBuiltins "reversed"=some (.type "reversed"):=by decide +kernel
def tRev(K:KW)(te:TE):TE:=fun σ H Q=>te σ H fun x H1=>∃a xs,x = .ref a/\SqL K H1 a xs/\∀p,H1 p=none->Q (.ref p) (upd H1 p (.lst xs.reverse))
theorem rev_items{items acc:Array Value}(h:ItemsOf (fun i v=>items[items.size-1-i]?=some v) acc items.size):acc=items.toList.reverse.toArray:=by
 obtain⟨h1,h2⟩:=h
 apply Array.ext
 ·simpa using h1
 ·intro i hi1 hi2
  have:items[items.size-1-i]?=some acc[i]:=h2 i acc[i] (Array.getElem?_eq_getElem hi1)
  have hlt:i<items.size:=by rw[<- h1];exact hi1
  rw[Array.getElem?_eq_getElem (by omega)]at this
  have:=Option.some.inj this
  rw[<- this]
  simp
theorem vals_rev{vs:List V}{us:List Value}(h:Vals vs us):Vals vs.reverse us.reverse:=by
 induction h with
 |nil=>exact .nil
 |cons a t ih=>rw[List.reverse_cons,List.reverse_cons];exact ih.append (.cons a .nil)
theorem pe_listrev{X:Cx}{e:Expr}{te:TE}{p1 p2 pos1 pos2:Pos}(hc:X.calm=true)(he:PE X e te)(hg1:L2.Gl X "list")(hm1:X.mg "list"=none)(hg2:L2.Gl X "reversed")(hm2:X.mg "reversed"=none)
  (hb2:bootBuiltins "reversed"=some (.type "reversed"))
  (hn1:("list":Str)≠"__name__") (hd1:(("list":Str)==("__debug__":Str))=false) (hn2:("reversed":Str)≠"__name__") (hd2:(("reversed":Str)==("__debug__":Str))=false)
  (hs:starEach [e] X.env=[(false,eval e X.env)]:=by rfl) :
  PE X (.Call (.Name "list" p1) [.Call (.Name "reversed" p2) [e] [] pos2] [] pos1) (tRev (kwOf X) te):=by
 intro pins s σ H Q I h
 refine wpAny_Call_Name_kw (ld_blt I hg1 hm1 PySem.Pv.boot_list ?_ hn1 hd1)
 refine PyProof.Rows.callWith_type1 ?_ rfl rfl
 show wpAny _ _ (spliced ((false,eval (.Call (.Name "reversed" p2) [e] [] pos2) X.env)::backTo pos1 (starEach [] X.env))) _ _ s
 refine Calls.spliced_cons ?_
 refine wpAny_Call_Name_kw (ld_blt I hg2 hm2 hb2 ?_ hn2 hd2)
 refine PyProof.Rows.callWith_type1 ?_ (by rw[hs];rfl) rfl
 rw[hs]
 show wpAny _ _ (spliced ((false,eval e X.env)::backTo pos2 [])) _ _ s
 refine Calls.spliced_cons (thn (he pins s σ H _ I h) fun u s1 ⟨x,H1,I1,r1,q1⟩=>?_)
 refine Calls.spliced_nil ?_
 obtain⟨a,xs,rfl,hq,q⟩:=q1
 cases r1
 obtain⟨its,rv,pl,hz⟩:=I1.list hq
 have hl:=pl.isList
 refine call_reversed_list hl ?_
 refine Calls.spliced_nil ?_
 have hlen:=rv.length
 generalize hs2:s1.heap.push (revObj a ((its.toArray.size:Int)-1))=h2
 have k2:∀b o,s1.heap.get? b=some o->h2.get? b=some o:=fun b o e=>by rw[<- hs2];exact Heap.get?_push_of_some _ e
 have hsz2:h2.objs.size=s1.heap.objs.size+1:=by rw[<- hs2,Heap.size_push]
 have hit:h2.IsRevIter s1.heap.objs.size a ((its.toArray.size:Int)-1):=⟨_,by rw[<- hs2];exact Heap.get?_push_size _ rfl,rfl,rfl⟩
 have hne:a≠s1.heap.objs.size:=fun z=>by
  obtain⟨o,ho,_⟩:=hl
  exact absurd (Heap.lt_size ho) (by rw[z];exact Nat.lt_irrefl _)
 have W:=(Walks.listRev (prog:=X.prog) (w:=X.w) (A:=X.A.in1.in1) (I.ok.hd hc) s1.heap.objs.size a hne its.toArray).toS
 refine call_list_rev (s:={ s1 with heap:=h2 }) W (fun i s st=>st.2.1.typeIs) ⟨Nat.zero_le _,by simpa using hit,hl.at fun o e=>k2 a o e⟩ ?_ (by simp) (fun s' acc' c' hm hS' hacc=>?_) (by rw[List.size_toArray];omega)
 ·intro b hb
  simp only[List.mem_cons,List.not_mem_nil,or_false]at hb
  rcases hb with rfl|rfl
  ·show _<h2.objs.size;omega
  ·obtain⟨o,ho,_⟩:=hl
   exact Heap.lt_size (k2 _ _ ho)
 ·have ea:=rev_items hacc
  subst ea
  obtain⟨hh,gg,dd,tt,oo⟩:=s'
  have hk:∀b o,s1.heap.get? b=some o->hh.get? b=some o:=fun b o e=>by
   have hlt:=Heap.lt_size e
   refine hm.heap b o ?_ (Heap.get?_push_of_some _ (k2 b o e))
   intro z
   simp only[List.mem_cons,List.not_mem_nil,or_false]at z
   rcases z with z|z
   ·have:(b:Nat)=h2.objs.size:=z
    exact absurd hlt (by rw[this,hsz2];exact Nat.not_lt_of_le (Nat.le_succ _))
   ·have:(b:Nat)=s1.heap.objs.size:=z
    exact absurd hlt (by rw[this];exact Nat.lt_irrefl _)
  have e1:gg=s1.gens:=hm.gens
  have e2:dd=s1.drawn:=hm.drawn
  have e3:oo=s1.os:=hm.os
  subst e1 e2 e3
  refine⟨.ref h2.objs.size,upd H1 h2.objs.size (.lst xs.reverse),I1.laid (t':=tt) hk (by omega) ?_,rfl,q _ (I1.hok.fresh (by omega))⟩
  exact⟨by rw[List.length_reverse];exact hz,its.reverse,c',vals_rev rv,by simpa using hS'⟩
variable {K:KW}
def dRev(f:DX)(τ:DS):Option (PyData×DS):=(f τ).bind fun p=>match p.1 with
 |.list xs=>some (.list xs.reverse,p.2)
 |_=>none
theorem isl_rev{H:Hp}:∀{xs:List PyData} {vs:List V},IsL K H xs vs->IsL K H xs.reverse vs.reverse
 |[],_,h=>by rw[show _=[] from h];rfl
 |x::xs,_,⟨v,us,e,h,l⟩=>by subst e;rw[List.reverse_cons,List.reverse_cons];exact isl_snoc (isl_rev l) h
theorem e_rev{fr:Bool}{t:TE}{f:DX}(h:E K t fr f):E K (tRev K t) true (dRev f):=by
 refine⟨fun τ d τ' e=>?_,?_⟩
 ·unfold dRev at e
  obtain⟨⟨x,τ1⟩,e1,e⟩:=oB e
  dsimp only at e
  split at e
  ·cases e;exact h.like _ _ _ e1
  ·cases e
 intro S M τ σ H Q d τ' r e q
 unfold dRev at e
 obtain⟨⟨x,τ1⟩,e1,e⟩:=oB e
 dsimp only at e
 split at e
 ·rename_i xs
  cases e
  refine h.weak.run S M τ σ H _ _ _ r e1 fun v H1 r1 c1 i1=>?_
  have i1':Is K (hid S H1) (.list xs) v:=i1
  obtain⟨a,vs,rfl,hl,ll⟩:=i1'
  refine⟨a,vs,rfl,SqL.of (hid_iff.mp hl).2,fun p hp=>?_⟩
  have s:=same_new hp (HO.lst vs.reverse)
  exact q _ _ (r1.same s) (c1.trans (.of s)) ((res_new hp (isl_rev ll)).back r1 c1)
 ·cases e
theorem okM_none:okM none=true:=rfl
theorem okM_d{x:PyData}:okM (some (.d x))=true:=rfl
theorem okM_c{x:List PyData}:okM (some (.c x))=true:=rfl
theorem okM_m{x:List PyData}:okM (some (.m x))=fixDs x:=rfl
theorem okM_n{o:Option L}(h:nM o):okM o=true:=by
 cases o with
 |none=>rfl
 |some l=>cases l with
  |m xs=>exact absurd rfl (h.1 xs)
  |k xs=>exact absurd rfl (h.2 xs)
  |d x=>rfl
  |c x=>rfl
  |g x=>rfl
end DL
end
section
namespace Srt
open PySem PySem.W PyProof.Rows
def Gd(n:Nat)(r:Nat->Nat->Bool){α:Type}:KasT α->(α->Prop)->Prop
 |.ret a,Q=>Q a
 |.ask i j k,Q=>i<n/\j<n/\Gd n r (k (r i j)) Q
variable {n:Nat} {r:Nat->Nat->Bool}
theorem gd_mono{α:Type}{Q Q':α->Prop}(h:∀a,Q a->Q' a):∀{t:KasT α},Gd n r t Q->Gd n r t Q'
 |.ret a,g=>h a g
 |.ask i j k,⟨a,b,g⟩=>⟨a,b,gd_mono h g⟩
theorem gd_bind{α β:Type}{f:α->KasT β}{Q:β->Prop}:∀{t:KasT α},Gd n r t (fun a=>Gd n r (f a) Q)->Gd n r (t.bind f) Q
 |.ret a,g=>g
 |.ask i j k,⟨a,b,g⟩=>⟨a,b,gd_bind g⟩
structure Ord(n:Nat)(r:Nat->Nat->Bool):Prop where
 irr:∀i,i<n->r i i=false
 tr:∀i j k,i<n->j<n->k<n->r i j=true->r j k=true->r i k=true
 tot:∀i j,i<n->j<n->i≠j->r i j=false->r j i=true
structure Arr(n:Nat)(p:Array Nat):Prop where
 sz:p.size=n
 lt:∀a,a<n->p.getD a 0<n
 inj:∀a b,a<n->b<n->p.getD a 0=p.getD b 0->a=b
 pm:p.Perm (List.toArray (List.range n))
def Up(r:Nat->Nat->Bool)(p:Array Nat)(k:Nat):Prop:=∀a b,a<b->b<k->r (p.getD a 0) (p.getD b 0)=true
def Dn(r:Nat->Nat->Bool)(p:Array Nat)(k:Nat):Prop:=∀a b,a<b->b<k->r (p.getD b 0) (p.getD a 0)=true
theorem up_succ(O:Ord n r){p:Array Nat}(A:Arr n p){k:Nat}(hk:1<=k)(hn:k<n)(u:Up r p k)(h:r (p.getD k 0) (p.getD (k-1) 0)=false):Up r p (k+1):=by
 have h1:r (p.getD (k-1) 0) (p.getD k 0)=true:=O.tot _ _ (A.lt _ hn) (A.lt _ (by omega)) (fun z=>by have:=A.inj _ _ hn (by omega) z;omega) h
 intro a b hab hb
 by_cases e:b=k
 ·subst e
  by_cases e2:a=b-1
  ·subst e2;exact h1
  ·exact O.tr _ _ _ (A.lt _ (by omega)) (A.lt _ (by omega)) (A.lt _ hn) (u a (b-1) (by omega) (by omega)) h1
 ·exact u a b hab (by omega)
theorem dn_succ(O:Ord n r){p:Array Nat}(A:Arr n p){k:Nat}(hk:1<=k)(hn:k<n)(u:Dn r p k)(h1:r (p.getD k 0) (p.getD (k-1) 0)=true):Dn r p (k+1):=by
 intro a b hab hb
 by_cases e:b=k
 ·subst e
  by_cases e2:a=b-1
  ·subst e2;exact h1
  ·exact O.tr _ _ _ (A.lt _ hn) (A.lt _ (by omega)) (A.lt _ (by omega)) h1 (u a (b-1) (by omega) (by omega))
 ·exact u a b hab (by omega)
theorem asc(O:Ord n r){p:Array Nat}(A:Arr n p):∀(f k:Nat),1<=k->k+f<=n->Up r p k->Gd n r (kas_asc p f k) fun m=>k<=m/\m<=k+f/\Up r p m/\(m<k+f->r (p.getD m 0) (p.getD (m-1) 0)=true)
 |0,k,h1,h2,u=>⟨Nat.le_refl _,by omega,u,by omega⟩
 |f+1,k,h1,h2,u=>by
  refine⟨A.lt _ (by omega),A.lt _ (by omega),?_⟩
  cases c:r (p.getD k 0) (p.getD (k-1) 0) with
  |true=>exact⟨Nat.le_refl _,by omega,u,fun _=>c⟩
  |false =>
   show Gd n r (kas_asc p f (k+1)) _
   refine gd_mono ?_ (asc O A f (k+1) (by omega) (by omega) (up_succ O A h1 (by omega) u c))
   rintro m ⟨h3,h4,h5,h6⟩
   exact⟨by omega,by omega,h5,fun z=>h6 (by omega)⟩
theorem desc(O:Ord n r){p:Array Nat}(A:Arr n p):∀(f k:Nat),1<=k->k+f<=n->Dn r p k->Gd n r (kas_desc f p k 0) fun x=>x.1=p/\x.2.2=0/\k<=x.2.1/\x.2.1<=k+f/\Dn r p x.2.1
 |0,k,h1,h2,u=>⟨rfl,rfl,Nat.le_refl _,by show k<=k+0;omega,u⟩
 |f+1,k,h1,h2,u=>by
  refine⟨A.lt _ (by omega),A.lt _ (by omega),?_⟩
  cases c:r (p.getD k 0) (p.getD (k-1) 0) with
  |true =>
   show Gd n r (kas_desc f p (k+1) 0) _
   refine gd_mono ?_ (desc O A f (k+1) (by omega) (by omega) (dn_succ O A h1 (by omega) u c))
   rintro m ⟨h3,h4,h5,h6,h7⟩
   exact⟨h3,h4,by omega,by omega,h7⟩
  |false =>
   refine⟨A.lt _ (by omega),A.lt _ (by omega),?_⟩
   have h3:r (p.getD (k-1) 0) (p.getD k 0)=true:=O.tot _ _ (A.lt _ (by omega)) (A.lt _ (by omega)) (fun z=>by have:=A.inj _ _ (by omega) (by omega) z;omega) c
   rw[h3]
   exact⟨rfl,rfl,Nat.le_refl _,by show k<=k+(f+1);omega,u⟩
theorem getD_of{p q:Array Nat}{a b:Nat}(h:q[a]?=p[b]?):q.getD a 0=p.getD b 0:=by
 rw[Array.getD_eq_getD_getElem?,Array.getD_eq_getD_getElem?,h]
theorem rev_get{p:Array Nat}{k:Nat}(hk:k<=p.size)(a:Nat):(kas_rev p 0 k).getD a 0=p.getD (if a<k then k-1-a else a) 0:=by
 have e:=getElem?_mirror_all (i:=0) hk a
 unfold kas_rev
 refine getD_of (e.trans ?_)
 by_cases h:a<k
 ·rw[if_pos ⟨Nat.zero_le _,h⟩,if_pos h];congr 1;omega
 ·rw[if_neg (fun z=>h z.2),if_neg h]
theorem arr_rev{p:Array Nat}(A:Arr n p){k:Nat}(hk:k<=n):Arr n (kas_rev p 0 k):=by
 have hz:=A.sz
 refine⟨by unfold kas_rev;rw[mirror_size,hz],fun a ha=>?_,fun a b ha hb e=>?_,?_⟩
 ·rw[rev_get (by omega)]
  refine A.lt _ ?_
  split<;>omega
 ·rw[rev_get (by omega),rev_get (by omega)]at e
  have:=A.inj _ _ (by split<;>omega) (by split<;>omega) e
  split at this<;>split at this<;>omega
 ·exact(mirror_perm _ _ _ _).trans A.pm
theorem up_rev{p:Array Nat}(A:Arr n p){k:Nat}(hk:k<=n)(d:Dn r p k):Up r (kas_rev p 0 k) k:=by
 have hz:=A.sz
 intro a b hab hb
 rw[rev_get (by omega),rev_get (by omega),if_pos (by omega),if_pos hb]
 exact d _ _ (by omega) (by omega)
def Res(n:Nat)(r:Nat->Nat->Bool)(x:Nat×Array Nat):Prop:=Arr n x.2/\1<=x.1/\x.1<=n/\Up r x.2 x.1
theorem tail3(O:Ord n r){p:Array Nat}(A:Arr n p){k:Nat}(h1:1<=k)(hk:k<=n)(d:Dn r p k):Gd n r (kas_tail3 k n p) (Res n r):=by
 unfold kas_tail3
 refine gd_bind (gd_mono ?_ (asc O (arr_rev A hk) (n-k) k h1 (by omega) (up_rev A hk d)))
 rintro m ⟨h3,h4,h5,_⟩
 exact⟨arr_rev A hk,by show 1<=m;omega,by show m<=n;omega,h5⟩
theorem count(O:Ord n r){p:Array Nat}(A:Arr n p)(h1:1<=n):Gd n r (kas_count n p) (Res n r):=by
 unfold kas_count
 refine gd_bind (gd_mono ?_ (asc O A (n-1) 1 (Nat.le_refl _) (by omega) (fun a b h h'=>by omega)))
 rintro m ⟨h3,h4,h5,h6⟩
 by_cases e:m=n
 ·rw[if_pos (by simpa using e)]
  exact⟨A,by show 1<=m;omega,by show m<=n;omega,h5⟩
 ·rw[if_neg (by simpa using e)]
  by_cases hm:m>1
  ·rw[if_pos hm]
   refine⟨A.lt _ (by omega),A.lt _ (by omega),?_⟩
   rw[h5 0 (m-1) (by omega) (by omega)]
   exact⟨A,by show 1<=m;omega,by show m<=n;omega,h5⟩
  ·rw[if_neg hm]
   have hm1:m=1:=by omega
   subst hm1
   have c:=h6 (by omega)
   unfold kas_descPart
   refine gd_bind (gd_mono ?_ (desc O A (n-2) 2 (by omega) (by omega) (dn_succ O A (k:=1) (by omega) (by omega) (fun a b h h'=>by omega) c)))
   rintro⟨q,k,z⟩ ⟨rfl,rfl,h7,h8,h9⟩
   dsimp only at *
   rw[if_neg (by omega)]
   exact tail3 O A (by omega) (by omega) h9
theorem place(O:Ord n r){p:Array Nat}(A:Arr n p){k:Nat}(hk:k<n)(u:Up r p k):∀(f a b:Nat),b-a<=f->a<=b->b<=k->(∀c,c<a->r (p.getD c 0) (p.getD k 0)=true)->(∀c,b<=c->c<k->r (p.getD k 0) (p.getD c 0)=true) ->
  Gd n r (kas_place p k f a b) fun l=>l<=k/\(∀c,c<l->r (p.getD c 0) (p.getD k 0)=true)/\(∀c,l<=c->c<k->r (p.getD k 0) (p.getD c 0)=true)
 |0,a,b,hf,hab,hb,h1,h2=>⟨by omega,h1,fun c hc hk=>h2 c (by omega) hk⟩
 |f+1,a,b,hf,hab,hb,h1,h2=>by
  unfold kas_place
  by_cases e:a≥b
  ·rw[if_pos e]
   exact⟨by omega,h1,fun c hc hk=>h2 c (by omega) hk⟩
  ·rw[if_neg e]
   refine⟨A.lt _ hk,A.lt _ (by omega),?_⟩
   have hm:(a+b) / 2<b:=by omega
   have hm2:a<=(a+b) / 2:=by omega
   generalize (a+b) / 2=m at *
   cases c:r (p.getD k 0) (p.getD m 0) with
   |true =>
    refine place O A hk u f a m (by omega) (by omega) (by omega) h1 fun d hd hdk=>?_
    by_cases e2:d=m
    ·subst e2;exact c
    ·exact O.tr _ _ _ (A.lt _ hk) (A.lt _ (by omega)) (A.lt _ (by omega)) c (u m d (by omega) hdk)
   |false =>
    have c':r (p.getD m 0) (p.getD k 0)=true:=O.tot _ _ (A.lt _ hk) (A.lt _ (by omega)) (fun z=>by have:=A.inj _ _ hk (by omega) z;omega) c
    refine place O A hk u f (m+1) b (by omega) (by omega) hb (fun d hd=>?_) h2
    by_cases e2:d=m
    ·subst e2;exact c'
    ·exact O.tr _ _ _ (A.lt _ (by omega)) (A.lt _ (by omega)) (A.lt _ hk) (u d m (by omega) (by omega)) c'
theorem bub_get{p:Array Nat}{k l:Nat}(hk:k<p.size)(hl:l<=k)(a:Nat):(bubble p k (k-l)).getD a 0=p.getD (if a=l then k else if l<a/\a<=k then a-1 else a) 0:=by
 have e:=getElem?_bubble hk (k-l) (by omega) a
 refine getD_of (e.trans ?_)
 rw[show k-(k-l)=l by omega]
 split
 ·rfl
 ·split<;>rfl
theorem bin(O:Ord n r):∀(f:Nat) {p:Array Nat} {k:Nat},Arr n p->k+f=n->Up r p k->Gd n r (kas_bin f p k) fun q=>Arr n q/\Up r q n
 |0,p,k,A,h,u=>⟨A,by rw[<- h];exact u⟩
 |f+1,p,k,A,h,u=>by
  unfold kas_bin
  refine gd_bind (gd_mono ?_ (place O A (by omega) u k 0 k (by omega) (by omega) (Nat.le_refl _) (fun c h=>by omega) (fun c h h'=>by omega)))
  rintro l ⟨h1,h2,h3⟩
  have hz:=A.sz
  have g:=fun a=>bub_get (p:=p) (k:=k) (l:=l) (by omega) h1 a
  have A':Arr n (bubble p k (k-l)):=by
   refine⟨by rw[bubble_size,hz],fun a ha=>?_,fun a b ha hb e=>?_,(bubble_perm _ _ _).trans A.pm⟩
   ·rw[g]
    refine A.lt _ ?_
    split
    ·omega
    ·split<;>omega
   ·rw[g,g]at e
    have:=A.inj _ _ (by split<;>first|omega|(split<;>omega)) (by split<;>first|omega|(split<;>omega)) e
    split at this<;>split at this<;>(try split at this)<;>(try split at this)<;>omega
  refine bin O f A' (by omega) fun a b hab hb=>?_
  rw[g,g]
  by_cases ea:a=l
  ·rw[if_pos ea,if_neg (by omega),if_pos (by omega)]
   exact h3 _ (by omega) (by omega)
  ·rw[if_neg ea]
   by_cases eb:b=l
   ·rw[if_pos eb,if_neg (by omega)]
    exact h2 _ (by omega)
   ·rw[if_neg eb]
    by_cases ca:l<a/\a<=k
    ·rw[if_pos ca,if_pos (by omega)]
     exact u _ _ (by omega) (by omega)
    ·rw[if_neg ca]
     by_cases cb:l<b/\b<=k
     ·rw[if_pos cb]
      exact u _ _ (by omega) (by omega)
     ·rw[if_neg cb]
      exact u _ _ (by omega) (by omega)
theorem arr_range:Arr n (List.toArray (List.range n)):=by
 have g:∀a,a<n->(List.toArray (List.range n)).getD a 0=a:=fun a ha=>by
  rw[Array.getD_eq_getD_getElem?]
  simp[ha]
 refine⟨by simp,fun a ha=>by rw[g a ha];exact ha,fun a b ha hb e=>by rw[g a ha,g b hb]at e;exact e,.refl _⟩
theorem sort(O:Ord n r)(h1:1<=n):Gd n r (kas_sort n) fun q=>Arr n q/\Up r q n:=by
 unfold kas_sort
 refine gd_bind (gd_mono ?_ (count O arr_range h1))
 rintro⟨m,p⟩ ⟨A,h2,h3,u⟩
 dsimp only at *
 by_cases e:m<n
 ·rw[if_pos e]
  exact bin O _ A (by omega) (by rw[show max m 1=m by omega];exact u)
 ·rw[if_neg e]
  exact⟨A,by rw[show n=m by omega];exact u⟩
end Srt
end
section
namespace Srt
open PySem PySem.W PyProof.Rows HT
theorem lex_irr:∀(x:List Int),lexLt x x=false
 |[]=>rfl
 |a::x=>by rw[lexLt_cons,if_pos rfl];exact lex_irr x
theorem lex_tr:∀{x y z:List Int},lexLt x y=true->lexLt y z=true->lexLt x z=true
 |[],[],_,h,_=>by cases h
 |[],_::_,[],_,h=>by cases h
 |[],_::_,_::_,_,_=>rfl
 |_::_,[],_,h,_=>by cases h
 |_::_,_::_,[],_,h=>by cases h
 |a::x,b::y,c::z,h,h'=>by
  rw[lexLt_cons]at *
  by_cases e:a=b
  ·rw[if_pos e]at h
   by_cases e2:b=c
   ·rw[if_pos e2]at h'
    rw[if_pos (e.trans e2)]
    exact lex_tr h h'
   ·rw[if_neg e2]at h'
    rw[if_neg (by omega)]
    simp only[decide_eq_true_eq]at *
    omega
  ·rw[if_neg e]at h
   simp only[decide_eq_true_eq]at h
   by_cases e2:b=c
   ·rw[if_neg (by omega)]
    simp only[decide_eq_true_eq]
    omega
   ·rw[if_neg e2]at h'
    simp only[decide_eq_true_eq]at h'
    rw[if_neg (by omega)]
    simp only[decide_eq_true_eq]
    omega
theorem lex_tot:∀{x y:List Int},x≠y->lexLt x y=false->lexLt y x=true
 |[],[],h,_=>absurd rfl h
 |[],_::_,_,h=>by cases h
 |_::_,[],_,_=>rfl
 |a::x,b::y,h,h'=>by
  rw[lexLt_cons]at *
  by_cases e:a=b
  ·rw[if_pos e]at h'
   rw[if_pos e.symm]
   exact lex_tot (fun z=>h (by rw[e,z])) h'
  ·rw[if_neg e]at h'
   rw[if_neg (fun z=>e z.symm)]
   simp only[decide_eq_true_eq,decide_eq_false_iff_not]at *
   omega
def lexr(ks:List (List Int))(i j:Nat):Bool:=lexLt (ks.getD i []) (ks.getD j [])
theorem nodup_getD{ks:List (List Int)}(h:ks.Nodup){i j:Nat}(hi:i<ks.length)(hj:j<ks.length)(e:ks.getD i []=ks.getD j []):i=j:=by
 rw[List.getD_eq_getElem?_getD,List.getD_eq_getElem?_getD,List.getElem?_eq_getElem hi,List.getElem?_eq_getElem hj]at e
 have e:ks[i]=ks[j]:=e
 have P:=List.pairwise_iff_getElem.mp h
 rcases Nat.lt_trichotomy i j with q|q|q
 ·exact absurd e (P i j hi hj q)
 ·exact q
 ·exact absurd e.symm (P j i hj hi q)
def Tp(h:Heap)(d:Nat):List Value->List (List Int)->Prop
 |[],[]=>True
 |v::vs,k::ks=>(∃a its,v = .ref a/\IsTup h a its/\IntsAre its.toList k/\k.length=d+1)/\Tp h d vs ks
 |_,_=>False
theorem Tp.len{h:Heap}{d:Nat}:∀{vs:List Value} {ks:List (List Int)},Tp h d vs ks->ks.length=vs.length
 |[],[],_=>rfl
 |_::_,_::_,t=>by rw[List.length_cons,List.length_cons,Tp.len t.2]
 |[],_::_,t=>t.elim
 |_::_,[],t=>t.elim
theorem Tp.get{h:Heap}{d:Nat}:∀{vs:List Value} {ks:List (List Int)} {i:Nat},Tp h d vs ks->i<vs.length->∃a its,vs.getD i Value.none = .ref a/\IsTup h a its/\IntsAre its.toList (ks.getD i [])/\(ks.getD i []).length=d+1
 |[],_,_,_,hi=>absurd hi (Nat.not_lt_zero _)
 |_::_,[],_,t,_=>t.elim
 |v::vs,k::ks,0,t,_=>t.1
 |v::vs,k::ks,i+1,t,hi=>by
  rw[List.getD_cons_succ,List.getD_cons_succ]
  exact Tp.get t.2 (by simpa using hi)
theorem Tp.mono{h h':Heap}{d:Nat}(k:∀b o,h.get? b=some o->h'.get? b=some o):∀{vs:List Value} {ks:List (List Int)},Tp h d vs ks->Tp h' d vs ks
 |[],[],_=>trivial
 |_::_,_::_,⟨⟨a,its,e,⟨o,ho,hc,n,hd⟩,hi,hl⟩,t⟩=>⟨⟨a,its,e,⟨o,k _ _ ho,hc,n,hd⟩,hi,hl⟩,t.mono k⟩
 |[],_::_,t=>t.elim
 |_::_,[],t=>t.elim
theorem Tp.kat{h:Heap}{d:Nat}:∀{vs:List Value} {ks:List (List Int)},Tp h d vs ks->∃fs,KatTups h vs fs/\fs.length=vs.length/\∀v∈fs,∃n t,v=Value.int n t
 |[],[],_=>⟨[],.nil,rfl,fun v h=>by simp at h⟩
 |v::vs,k::ks,⟨⟨a,its,e,⟨o,ho,hc,n,hd⟩,hi,hl⟩,t⟩=>by
  obtain⟨fs,h1,h2,h3⟩:=t.kat
  subst e
  obtain⟨f,hf,m,u,rfl⟩:∃f,its[0]?=some f/\∃m u,f=Value.int m u:=by
   obtain⟨l⟩:=its
   cases hi with
   |nil=>simp at hl
   |cons m u r=>exact⟨_,rfl,m,u,rfl⟩
  exact ⟨Value.int m u :: fs, .cons ho hc hd hf h1, by rw [List.length_cons, List.length_cons, h2], fun v hv => by
   rcases List.mem_cons.mp hv with rfl|hv
   ·exact⟨m,u,rfl⟩
   ·exact h3 v hv⟩
 |[],_::_,t=>t.elim
 |_::_,[],t=>t.elim
section
variable {prog:Program} {w:World} {A:Around} {E:Value->Shared->Prop} {s:Shared}
theorem lexK{Q:Bool->Shared->Prop}:∀{ns ms:List Int} {vs ws:List Value} (i:Nat),IntsAre vs ns->IntsAre ws ms->ns.length=ms.length->Q (lexLt ns ms) s->KatLex prog w A true false Q (vs.zip ws) i s
 |[],[],_,_,i,.nil,.nil,_,q=>kat_nil q
 |[],_::_,_,_,_,_,_,hl,_=>by simp at hl
 |_::_,[],_,_,_,_,_,hl,_=>by simp at hl
 |n::ns,m::ms,_,_,i,.cons _ t hi,.cons _ u hj,hl,q=>by
  rw[lexLt_cons]at q
  show KatLex prog w A true false Q ((Value.int n t,Value.int m u)::List.zip _ _) i s
  refine kat_cons (wpAny_eqBool_int ?_)
  by_cases e:n=m
  ·rw[if_pos e]at q
   rw[show(n==m)=true by simpa using e]
   exact kat_yes (lexK (i+1) hi hj (by simpa using hl) q)
  ·rw[if_neg e]at q
   rw[show(n==m)=false by simpa using e]
   refine kat_no ?_
   cases i with
   |zero=>exact oneLt_int q
   |succ i =>
    refine kat_one _ _ (PyProof.Rows.lt_int ?_)
    exact q
theorem ask_tup{d:Nat}{vs:List Value}{ks:List (List Int)}(t:Tp s.heap d vs ks)(i j:Nat)(C:Bool->Shared->Prop)(hi:i<vs.length)(hj:j<vs.length)(h:C (lexr ks i j) s):kas_ask prog w A (tuples' true) vs i j C s:=by
 obtain⟨a,its,e1,⟨o,ho,hc,n,hd⟩,i1,l1⟩:=t.get hi
 obtain⟨b,its2,e2,⟨o2,ho2,hc2,n2,hd2⟩,i2,l2⟩:=t.get hj
 unfold kas_ask
 rw[e1,e2]
 refine kat_lt ho hd ho2 hd2 ?_
 have z1:=i1.length
 have z2:=i2.length
 rw[Array.length_toList]at z1 z2
 rw[show decide (its.size<its2.size)=false by simp only[decide_eq_false_iff_not];omega]
 exact lexK 0 i1 i2 (by omega) h
theorem keptA{h:Heap}{a:Addr}{o1 o2:Obj}{f:Obj->Obj}{b:Addr}{o:Obj}(ha:h.get? b=some o)(hb:b≠a):(((h.update a f).push o1).push o2).get? b=some o:=by
 have hlt:=Heap.lt_size ha
 rw[Heap.get?_push_ne _ _ _ (by rw[size_push',Heap.size_update];exact Nat.ne_of_lt (Nat.lt_succ_of_lt hlt)),Heap.get?_push_ne _ _ _ (by rw[Heap.size_update];exact Nat.ne_of_lt hlt),Heap.get?_update_ne _ _ _ _ hb]
 exact ha
theorem out_small:∀{vs:List Value},vs.length<2->(vs.toArray.zip vs.toArray).map (·.2)=List.toArray ((List.toArray (List.range vs.length)).toList.map fun i=>vs.getD i Value.none)
 |[],_=>by simp
 |[x],_=>by simp
 |_::_::_,h=>by simp at h;omega
end
end Srt
end
section
namespace TS
open PySem PyProof.Rows
section
variable {prog:Program} {w:World} {A:Around} {E:Value->Shared->Prop} {s:Shared} {κ:SortKind} {rk:Keyed->Nat} {a₀:Array Keyed}
def Ans(prog:Program)(w:World)(A:Around)(s:Shared)(κ:SortKind)(rk:Keyed->Nat)(a₀:Array Keyed):Prop :=
 ∀x y,x∈a₀.toList->y∈a₀.toList->∀C:Bool->Shared->Prop,C (decide (rk x<rk y)) s->wpAny (model prog w) A (keyLt' κ x.1 y.1) C (fun _ _=>False) s
def R(rk:Keyed->Nat)(a:Array Keyed)(i:Nat):Nat:=match a[i]? with
 |some p=>rk p
 |none=>0
structure Bs(κ:SortKind)(a₀:Array Keyed)(st:SortSt):Prop where
 perm:(arrOf st).Perm a₀
 kind:kindOf st=κ
 failed:failedOf st=none
theorem Bs.size{st:SortSt}(h:Bs κ a₀ st):(arrOf st).size=a₀.size:=h.perm.size_eq
theorem Bs.setArr{st:SortSt}(h:Bs κ a₀ st){xs:Array Keyed}(hp:xs.Perm (arrOf st)):Bs κ a₀ (setArr st xs):=⟨hp.trans h.perm,h.kind,h.failed⟩
theorem Bs.setPending{st:SortSt}(h:Bs κ a₀ st)(p:Array (Nat×Nat×Nat)):Bs κ a₀ (setPending st p):=⟨h.perm,h.kind,h.failed⟩
theorem R_at{a:Array Keyed}{i:Nat}{x:Keyed}(h:a[i]?=some x):R rk a i=rk x:=by unfold R;rw[h]
theorem R_congr{a b:Array Keyed}{i j:Nat}(h:a[i]?=b[j]?):R rk a i=R rk b j:=by unfold R;rw[h]
theorem Bs.at{st:SortSt}(h:Bs κ a₀ st){i:Nat}(hi:i<a₀.size):∃x,(arrOf st)[i]?=some x/\x∈a₀.toList:=by
 have hi':i<(arrOf st).size:=by rw[h.size];exact hi
 exact⟨(arrOf st)[i],getElem?_pos _ i hi',(Array.perm_iff_toList_perm.mp h.perm).mem_iff.mp (by simp)⟩
theorem Bs.inj{st:SortSt}(h:Bs κ a₀ st)(hn:(a₀.toList.map rk).Nodup){i j:Nat}(hi:i<a₀.size)(hj:j<a₀.size)(ne:i≠j):R rk (arrOf st) i≠R rk (arrOf st) j:=by
 have hn':((arrOf st).toList.map rk).Nodup:=((Array.perm_iff_toList_perm.mp h.perm).map rk).nodup_iff.mpr hn
 have hi':i<(arrOf st).size:=by rw[h.size];exact hi
 have hj':j<(arrOf st).size:=by rw[h.size];exact hj
 rw[R_at (getElem?_pos (arrOf st) i hi'),R_at (getElem?_pos (arrOf st) j hj')]
 intro e
 have P:=List.pairwise_iff_getElem.mp hn'
 have li:i<((arrOf st).toList.map rk).length:=by rw[List.length_map];exact hi'
 have lj:j<((arrOf st).toList.map rk).length:=by rw[List.length_map];exact hj'
 have gi:((arrOf st).toList.map rk)[i]=rk (arrOf st)[i]:=by simp
 have gj:((arrOf st).toList.map rk)[j]=rk (arrOf st)[j]:=by simp
 rcases Nat.lt_or_gt_of_ne ne with q|q
 ·exact P i j li lj q (by rw[gi,gj];exact e)
 ·exact P j i lj li q (by rw[gi,gj];exact e.symm)
theorem lt_w{st:SortSt}{x y:Keyed}{Q:Option Bool->SortSt->Prop}(h0:Ans prog w A s κ rk a₀)(hB:kindOf st=κ)(hx:x∈a₀.toList)(hy:y∈a₀.toList)(h:Q (some (decide (rk x<rk y))) st) :
  wpS (model prog w) A E s (lt' x y) Q st:=by
 rw[lt'_eq]
 refine wpS_bind (wpS_get ?_)
 rw[hB]
 refine wpS_bind (wpS_lift (wpAny_attempt (wpAny_mono (h0 x y hx hy (fun c s'=>s'=s/\c=decide (rk x<rk y)) ⟨rfl,rfl⟩) (fun c s' hc=>?_) fun _ _ hF=>hF.elim)))
 obtain⟨rfl,rfl⟩:=hc
 exact⟨rfl,wpS_pure h⟩
theorem elem_w{st:SortSt}{arr:Array Keyed}{i:Nat}{x:Keyed}{Q:Keyed->SortSt->Prop}(h:arr[i]?=some x)(hq:Q x st):wpS (model prog w) A E s (elem' arr i) Q st:=by
 rw[elem'_eq,h]
 exact wpS_pure hq
theorem ltAt_w{st:SortSt}{i j:Nat}{Q:Option Bool->SortSt->Prop}(h0:Ans prog w A s κ rk a₀)(hB:Bs κ a₀ st)(hi:i<a₀.size)(hj:j<a₀.size)(h:Q (some (decide (R rk (arrOf st) i<R rk (arrOf st) j))) st) :
  wpS (model prog w) A E s (ltAt' i j) Q st:=by
 obtain⟨x,ex,mx⟩:=hB.at hi
 obtain⟨y,ey,my⟩:=hB.at hj
 rw[R_at ex,R_at ey]at h
 rw[ltAt'_eq]
 refine wpS_bind (wpS_get ?_)
 refine wpS_bind (elem_w ex (wpS_bind (elem_w ey ?_)))
 exact lt_w h0 hB.kind mx my h
def So(rk:Keyed->Nat)(a:Array Keyed)(i j:Nat):Prop:=∀x y,i<=x->x<y->y<j->R rk a x<R rk a y
def Dn(rk:Keyed->Nat)(a:Array Keyed)(i j:Nat):Prop:=∀x y,i<=x->x<y->y<j->R rk a y<R rk a x
theorem So.snoc{a:Array Keyed}{i j:Nat}(h:So rk a i j)(hij:i<j)(e:R rk a (j-1)<R rk a j):So rk a i (j+1):=by
 intro x y h1 h2 h3
 by_cases ey:y=j
 ·subst ey
  by_cases ex:x=y-1
  ·subst ex;exact e
  ·exact Nat.lt_trans (h x (y-1) h1 (by omega) (by omega)) e
 ·exact h x y h1 h2 (by omega)
theorem Dn.snoc{a:Array Keyed}{i j:Nat}(h:Dn rk a i j)(hij:i<j)(e:R rk a j<R rk a (j-1)):Dn rk a i (j+1):=by
 intro x y h1 h2 h3
 by_cases ey:y=j
 ·subst ey
  by_cases ex:x=y-1
  ·subst ex;exact e
  ·exact Nat.lt_trans e (h x (y-1) h1 (by omega) (by omega))
 ·exact h x y h1 h2 (by omega)
theorem So.one(a:Array Keyed)(i:Nat):So rk a i (i+1):=fun x y h1 h2 h3=>by omega
theorem Dn.one(a:Array Keyed)(i:Nat):Dn rk a i (i+1):=fun x y h1 h2 h3=>by omega
theorem R_mirror{a:Array Keyed}{i j:Nat}(hj:j<=a.size)(k:Nat):R rk (mirror a i j ((j-i) / 2)) k=if i<=k/\k<j then R rk a (i+j-1-k) else R rk a k:=by
 have e:=getElem?_mirror_all (i:=i) hj k
 by_cases h1:i<=k/\k<j
 ·rw[if_pos h1]at e ⊢;exact R_congr e
 ·rw[if_neg h1]at e ⊢;exact R_congr e
theorem Dn.turned{a:Array Keyed}{i j:Nat}(h:Dn rk a i j)(hj:j<=a.size):So rk (mirror a i j ((j-i) / 2)) i j:=by
 intro x y h1 h2 h3
 rw[R_mirror hj,R_mirror hj,if_pos ⟨h1,by omega⟩,if_pos ⟨by omega,h3⟩]
 exact h _ _ (by omega) (by omega) (by omega)
theorem R_bubble{a:Array Keyed}{src d:Nat}(hs:src<a.size)(hd:d<=src)(k:Nat):R rk (bubble a src d) k=if k=src-d then R rk a src else if src-d<k/\k<=src then R rk a (k-1) else R rk a k:=by
 have e:=getElem?_bubble hs d hd k
 by_cases h1:k=src-d
 ·rw[if_pos h1]at e ⊢;exact R_congr e
 ·rw[if_neg h1]at e ⊢
  by_cases h2:src-d<k/\k<=src
  ·rw[if_pos h2]at e ⊢;exact R_congr e
  ·rw[if_neg h2]at e ⊢;exact R_congr e
def Out(a b:Array Keyed)(i j:Nat):Prop:=∀k,(k<i\/j<=k)->b[k]?=a[k]?
end
end TS
end
section
namespace TS
open PySem PyProof.Rows
section
variable {prog:Program} {w:World} {A:Around} {E:Value->Shared->Prop} {s:Shared} {κ:SortKind} {rk:Keyed->Nat} {a₀:Array Keyed}
theorem Bs.ne{st:SortSt}(h:Bs κ a₀ st)(hn:(a₀.toList.map rk).Nodup){i j:Nat}(hi:i<a₀.size)(hj:j<a₀.size)(e:i≠j)(hc:¬R rk (arrOf st) i<R rk (arrOf st) j):R rk (arrOf st) j<R rk (arrOf st) i:=by
 have:=h.inj hn hi hj e
 omega
theorem count_w{st:SortSt}{lo nrem:Nat}{Q:Option Nat->SortSt->Prop}(h0:Ans prog w A s κ rk a₀)(hn:(a₀.toList.map rk).Nodup)(hB:Bs κ a₀ st)(h1:1<=nrem)(hz:lo+nrem<=a₀.size)
  (h:∀n b,1<=n->n<=nrem->b.Perm (arrOf st)->Out (arrOf st) b lo (lo+n)->So rk b lo (lo+n)->Q (some n) (setArr st b)):wpS (model prog w) A E s (countRun' lo nrem) Q st:=by
 rw[countRun'_eq]
 refine wpS_bind (wpS_mono (wpS_forRange (I := fun i c st' => st' = st /\ c = (none, i) /\ So rk (arrOf st) lo (lo + i))
  (Q:=fun c st'=>st'=st/\∃n,c=(none,n)/\1<=n/\n<=nrem/\So rk (arrOf st) lo (lo+n)/\(n<nrem->R rk (arrOf st) (lo+n)<R rk (arrOf st) (lo+n-1))) ?step ?fin ⟨rfl,rfl,So.one _ _⟩) ?post)
 case fin =>
  rintro c st' ⟨rfl,rfl,hs⟩
  rw[Nat.max_eq_right h1]at hs ⊢
  exact⟨rfl,nrem,rfl,h1,Nat.le_refl _,hs,fun z=>absurd z (Nat.lt_irrefl _)⟩
 case step =>
  rintro i c st' hi1 hi2 ⟨rfl,rfl,hs⟩
  dsimp only
  refine wpS_bind (ltAt_w h0 hB (by omega) (by omega) ?_)
  by_cases hc:R rk (arrOf st') (lo+i)<R rk (arrOf st') (lo+i-1)
  ·rw[decide_eq_true hc]
   dsimp only
   rw[if_pos rfl]
   exact wpS_pure ⟨rfl,i,rfl,hi1,by omega,hs,fun _=>hc⟩
  ·rw[decide_eq_false hc]
   dsimp only
   rw[if_neg Bool.false_ne_true]
   exact wpS_pure ⟨rfl,rfl,hs.snoc (by omega) (hB.ne hn (by omega) (by omega) (by omega) hc)⟩
 case post =>
  rintro c st' ⟨rfl,n,rfl,n1,n2,hs,hd⟩
  dsimp only
  have self:∀m,1<=m->m<=nrem->So rk (arrOf st') lo (lo+m)->Q (some m) st':=fun m m1 m2 hm=>h m (arrOf st') m1 m2 (Array.Perm.refl _) (fun _ _=>rfl) hm
  by_cases e:(n==nrem)=true
  ·rw[if_pos e]
   exact wpS_pure (self n n1 n2 hs)
  ·rw[if_neg e]
   have hlt:n<nrem:=by
    have:n≠nrem:=fun q=>e (by rw[q];exact beq_self_eq_true _)
    omega
   by_cases e2:n>1
   ·rw[if_pos e2]
    refine wpS_bind (ltAt_w h0 hB (by omega) (by omega) ?_)
    rw[decide_eq_true (hs lo (lo+n-1) (Nat.le_refl _) (by omega) (by omega))]
    dsimp only
    rw[if_pos rfl]
    exact wpS_pure (self n n1 n2 hs)
   ·rw[if_neg e2]
    have en:n=1:=by omega
    subst en
    have hd1:R rk (arrOf st') (lo+1)<R rk (arrOf st') lo:=hd hlt
    refine wpS_bind (wpS_lift (wpAny_rule ⟨rfl,?_⟩))
    refine wpS_bind (wpS_mono (wpS_forRange (I := fun i c st2 => st2 = st' /\ c = (none, i, 0) /\ Dn rk (arrOf st') lo (lo + i))
     (Q:=fun c st2=>st2=st'/\∃m,c=(none,m,0)/\2<=m/\m<=nrem/\Dn rk (arrOf st') lo (lo+m)) ?step2 ?fin2 ⟨rfl,rfl,(Dn.one _ _).snoc (by omega) hd1⟩) ?post2)
    case fin2 =>
     rintro c st2 ⟨rfl,rfl,hs2⟩
     rw[Nat.max_eq_right (by omega)]at hs2 ⊢
     exact⟨rfl,nrem,rfl,by omega,Nat.le_refl _,hs2⟩
    case step2 =>
     rintro i c st2 hi1 hi2 ⟨rfl,rfl,hs2⟩
     dsimp only
     refine wpS_bind (ltAt_w h0 hB (by omega) (by omega) ?_)
     by_cases hc:R rk (arrOf st2) (lo+i)<R rk (arrOf st2) (lo+i-1)
     ·rw[decide_eq_true hc]
      dsimp only
      rw[if_pos rfl,if_neg (Nat.lt_irrefl 0)]
      exact wpS_pure ⟨rfl,rfl,hs2.snoc (by omega) hc⟩
     ·rw[decide_eq_false hc]
      dsimp only
      rw[if_neg Bool.false_ne_true]
      refine wpS_bind (ltAt_w h0 hB (by omega) (by omega) ?_)
      rw[decide_eq_true (hB.ne hn (by omega) (by omega) (by omega) hc)]
      dsimp only
      rw[if_pos rfl]
      exact wpS_pure ⟨rfl,i,rfl,hi1,by omega,hs2⟩
    case post2 =>
     rintro c st2 ⟨rfl,m,rfl,m1,m2,hs2⟩
     dsimp only
     rw[if_neg (Nat.lt_irrefl 0)]
     have hsz:=hB.size
     let b:=mirror (arrOf st2) lo (lo+m) ((lo+m-lo) / 2)
     have hu:So rk b lo (lo+m):=hs2.turned (by omega)
     have hp:b.Perm (arrOf st2):=mirror_perm _ _ _ _
     have ho:Out (arrOf st2) b lo (lo+m):=fun k hk=>by
      have:=getElem?_mirror_all (xs:=arrOf st2) (i:=lo) (j:=lo+m) (by omega) k
      rw[if_neg (by omega)]at this
      exact this
     have hB2:Bs κ a₀ (setArr st2 b):=hB.setArr hp
     rw[reverseSlice'_eq]
     refine wpS_bind (wpS_modify ?_)
     show wpS _ _ _ _ _ _ (setArr st2 b)
     refine wpS_bind (wpS_mono (wpS_forRange (I := fun i c st3 => st3 = setArr st2 b /\ c = (none, i) /\ So rk b lo (lo + i))
      (Q:=fun c st3=>st3=setArr st2 b/\∃n,c=(none,n)/\m<=n/\n<=nrem/\So rk b lo (lo+n)) ?step3 ?fin3 ⟨rfl,rfl,hu⟩) ?post3)
     case fin3 =>
      rintro c st3 ⟨rfl,rfl,hs3⟩
      rw[Nat.max_eq_right (by omega)]at hs3 ⊢
      exact⟨rfl,nrem,rfl,by omega,Nat.le_refl _,hs3⟩
     case step3 =>
      rintro i c st3 hi1 hi2 ⟨rfl,rfl,hs3⟩
      dsimp only
      refine wpS_bind (ltAt_w h0 hB2 (by omega) (by omega) ?_)
      by_cases hc:R rk b (lo+i)<R rk b (lo+i-1)
      ·rw[decide_eq_true (show R rk (arrOf (setArr st2 b)) (lo+i)<R rk (arrOf (setArr st2 b)) (lo+i-1) from hc)]
       dsimp only
       rw[if_pos rfl]
       exact wpS_pure ⟨rfl,i,rfl,hi1,by omega,hs3⟩
      ·rw[decide_eq_false (show ¬R rk (arrOf (setArr st2 b)) (lo+i)<R rk (arrOf (setArr st2 b)) (lo+i-1) from hc)]
       dsimp only
       rw[if_neg Bool.false_ne_true]
       exact wpS_pure ⟨rfl,rfl,hs3.snoc (by omega) (hB2.ne hn (by omega) (by omega) (by omega) hc)⟩
     case post3 =>
      rintro c st3 ⟨rfl,n,rfl,n1',n2',hs3⟩
      dsimp only
      exact wpS_pure (h n b (by omega) n2' hp (fun k hk=>ho k (by omega)) hs3)
theorem bin_w{st:SortSt}{lo n ok:Nat}{Q:Bool->SortSt->Prop}(h0:Ans prog w A s κ rk a₀)(hn:(a₀.toList.map rk).Nodup)(hB:Bs κ a₀ st)(ho1:1<=ok)(hon:ok<=n)(hz:lo+n<=a₀.size)(hs:So rk (arrOf st) lo (lo+ok))
  (h:∀b,b.Perm (arrOf st)->Out (arrOf st) b lo (lo+n)->So rk b lo (lo+n)->Q true (setArr st b)):wpS (model prog w) A E s (binarySort' lo n ok) Q st:=by
 rw[binarySort'_eq,Nat.max_eq_left ho1]
 have hsz:=hB.size
 refine wpS_bind (wpS_mono (wpS_forRange (I := fun k c st' => c = (none, ()) /\ ∃ b, st' = setArr st b /\ b.Perm (arrOf st) /\ Out (arrOf st) b lo (lo + n) /\ So rk b lo (lo + k))
  (Q:=fun c st'=>c=(none,())/\∃b,st'=setArr st b/\b.Perm (arrOf st)/\Out (arrOf st) b lo (lo+n)/\So rk b lo (lo+n)) ?step ?fin ⟨rfl,arrOf st,rfl,Array.Perm.refl _,fun _ _=>rfl,hs⟩) ?post)
 case fin =>
  rintro c st' ⟨rfl,b,rfl,hp,ho,hb⟩
  rw[Nat.max_eq_right hon]at hb
  exact⟨rfl,b,rfl,hp,ho,hb⟩
 case post =>
  rintro c st' ⟨rfl,b,rfl,hp,ho,hb⟩
  exact wpS_pure (h b hp ho hb)
 case step =>
  rintro k c st' hk1 hk2 ⟨rfl,b,rfl,hp,ho,hb⟩
  have hB':Bs κ a₀ (setArr st b):=hB.setArr hp
  have hbs:b.size=a₀.size:=hB'.size
  dsimp only
  refine wpS_bind (wpS_mono (wpS_forRange (I := fun i c st' => st' = setArr st b /\ ∃ l r, c = (none, l, r) /\ l <= r /\ r <= k /\ r - l <= k - i /\ (∀ x, x < l -> R rk b (lo + x) < R rk b (lo + k)) /\ (∀ x, r <= x -> x < k -> R rk b (lo + k) < R rk b (lo + x)))
   (Q:=fun c st'=>st'=setArr st b/\∃l r,c=(none,l,r)/\l<=k/\(∀x,x<l->R rk b (lo+x)<R rk b (lo+k))/\(∀x,l<=x->x<k->R rk b (lo+k)<R rk b (lo+x))) ?step2 ?fin2 ⟨rfl,0,k,rfl,Nat.zero_le _,Nat.le_refl _,Nat.le_refl _,fun x hx=>absurd hx (Nat.not_lt_zero _),fun x h1 h2=>by omega⟩) ?post2)
  case fin2 =>
   rintro c st' ⟨rfl,l,r,rfl,a1,a2,a3,a4,a5⟩
   rw[Nat.max_eq_right (Nat.zero_le _)]at a3
   exact⟨rfl,l,r,rfl,by omega,a4,fun x h1 h2=>a5 x (by omega) h2⟩
  case step2 =>
   rintro i c st' _ hi ⟨rfl,l,r,rfl,a1,a2,a3,a4,a5⟩
   dsimp only
   by_cases hlr:l≥r
   ·rw[if_pos hlr]
    exact wpS_pure ⟨rfl,l,r,rfl,by omega,a4,fun x h1 h2=>a5 x (by omega) h2⟩
   ·rw[if_neg hlr]
    refine wpS_bind (ltAt_w h0 hB' (by omega) (by omega) ?_)
    by_cases hc:R rk b (lo+k)<R rk b (lo+(l+r) / 2)
    ·rw[decide_eq_true (show R rk (arrOf (setArr st b)) (lo+k)<R rk (arrOf (setArr st b)) (lo+(l+r) / 2) from hc)]
     dsimp only
     rw[if_pos rfl]
     refine wpS_pure ⟨rfl,l,(l+r) / 2,rfl,by omega,by omega,by omega,a4,fun x h1 h2=>?_⟩
     by_cases ex:x=(l+r) / 2
     ·rw[ex];exact hc
     ·exact Nat.lt_trans hc (hb _ _ (by omega) (by omega) (by omega))
    ·have hc':=hB'.ne hn (i:=lo+k) (j:=lo+(l+r) / 2) (by omega) (by omega) (by omega) hc
     rw[decide_eq_false (show ¬R rk (arrOf (setArr st b)) (lo+k)<R rk (arrOf (setArr st b)) (lo+(l+r) / 2) from hc)]
     dsimp only
     rw[if_neg Bool.false_ne_true]
     refine wpS_pure ⟨rfl,(l+r) / 2+1,r,rfl,by omega,a2,by omega,fun x h1=>?_,a5⟩
     by_cases ex:x=(l+r) / 2
     ·rw[ex];exact hc'
     ·exact Nat.lt_trans (hb _ _ (by omega) (by omega) (by omega)) hc'
  case post2 =>
   rintro c st' ⟨rfl,l,r,rfl,l1,a4,a5⟩
   dsimp only
   rw[moveDown'_eq]
   refine wpS_bind (wpS_modify (wpS_pure ⟨rfl,bubble b (lo+k) (lo+k-(lo+l)),rfl,(bubble_perm _ _ _).trans hp,fun j hj=>?_,?_⟩))
   ·have:=getElem?_bubble (xs:=b) (src:=lo+k) (by omega) (lo+k-(lo+l)) (by omega) j
    rw[if_neg (by omega),if_neg (by omega)]at this
    rw[this]
    exact ho j hj
   ·have rb:=fun j=>R_bubble (rk:=rk) (a:=b) (src:=lo+k) (d:=lo+k-(lo+l)) (by omega) (by omega) j
    rw[show lo+k-(lo+k-(lo+l))=lo+l by omega]at rb
    intro x y h1 h2 h3
    rw[rb,rb]
    have c4:=fun z hz=>a4 z hz
    by_cases ex:x=lo+l
    ·rw[if_pos ex]
     rw[if_neg (by omega),if_pos (by omega)]
     have:=a5 (y-1-lo) (by omega) (by omega)
     rw[show lo+(y-1-lo)=y-1 by omega]at this
     exact this
    ·rw[if_neg ex]
     by_cases ey:y=lo+l
     ·rw[if_pos ey,if_neg (by omega)]
      have:=a4 (x-lo) (by omega)
      rw[show lo+(x-lo)=x by omega]at this
      exact this
     ·rw[if_neg ey]
      by_cases fx:lo+l<x/\x<=lo+k
      ·rw[if_pos fx,if_pos (by omega)]
       exact hb _ _ (by omega) (by omega) (by omega)
      ·rw[if_neg fx]
       by_cases fy:lo+l<y/\y<=lo+k
       ·rw[if_pos fy]
        exact hb _ _ (by omega) (by omega) (by omega)
       ·rw[if_neg fy]
        exact hb _ _ (by omega) (by omega) (by omega)
end
end TS
end
section
namespace TS
open PySem PyProof.Rows
def gallop':Bool->Keyed->Array Keyed->Nat->Nat->Nat->StateT SortSt Sem (Option Nat):=sortPriv% PySem.Builtin.gallop
section
variable {prog:Program} {w:World} {A:Around} {E:Value->Shared->Prop} {s:Shared} {κ:SortKind} {rk:Keyed->Nat} {a₀:Array Keyed}
def Pp(rk:Keyed->Nat)(left:Bool)(key:Keyed)(arr:Array Keyed)(base i:Nat):Prop:=if left=true then R rk arr (base+i)<rk key else R rk arr (base+i)<=rk key
instance {left:Bool} {key:Keyed} {arr:Array Keyed} {base i:Nat}:Decidable (Pp rk left key arr base i):=by unfold Pp;exact inferInstance
theorem bey_w{st:SortSt}{left:Bool}{key:Keyed}{arr:Array Keyed}{base i:Nat}{Q:Option Bool->SortSt->Prop}(h0:Ans prog w A s κ rk a₀)(hB:kindOf st=κ)(hk:key∈a₀.toList)(ha:∃x,arr[base+i]?=some x/\x∈a₀.toList)
  (h : Q (some (decide (Pp rk left key arr base i))) st) : wpS (model prog w) A E s (do
   let x <- elem' arr (base+i)
   if left=true then lt' x key else do
    let y <- lt' key x
    pure (Option.map (fun b=>!b) y)) Q st:=by
 obtain⟨x,ex,mx⟩:=ha
 refine wpS_bind (elem_w ex ?_)
 cases left with
 |true =>
  have e:decide (Pp rk true key arr base i)=decide (rk x<rk key):=decide_eq_decide.mpr (by unfold Pp;rw[R_at ex,if_pos rfl])
  rw[e]at h
  rw[if_pos rfl]
  exact lt_w h0 hB mx hk h
 |false =>
  have e:decide (Pp rk false key arr base i)=!decide (rk key<rk x):=by
   have:decide (Pp rk false key arr base i)=decide (¬rk key<rk x):=decide_eq_decide.mpr (by unfold Pp;rw[R_at ex,if_neg Bool.false_ne_true];omega)
   rw[this,decide_not]
  rw[e]at h
  rw[if_neg Bool.false_ne_true]
  exact wpS_bind (lt_w h0 hB hk mx (wpS_pure h))
theorem gallop_w{st:SortSt}{left:Bool}{key:Keyed}{arr:Array Keyed}{base n hint:Nat}{Q:Option Nat->SortSt->Prop}(h0:Ans prog w A s κ rk a₀)(hB:kindOf st=κ)(hk:key∈a₀.toList)(ha:∀i,i<n->∃x,arr[base+i]?=some x/\x∈a₀.toList)
  (hh:hint<n) (hm:∀i j,i<=j->j<n->Pp rk left key arr base j->Pp rk left key arr base i)
  (h:∀k,k<=n->(∀i,i<k->Pp rk left key arr base i)->(∀i,k<=i->i<n->¬Pp rk left key arr base i)->Q (some k) st):wpS (model prog w) A E s (gallop' left key arr base n hint) Q st:=by
 refine wpS_bind (bey_w h0 hB hk (ha _ hh) ?_)
 by_cases hc:Pp rk left key arr base hint
 ·rw[decide_eq_true hc]
  dsimp only
  rw[if_pos rfl]
  refine wpS_bind (wpS_mono (wpS_forRange (I := fun i c st' => st' = st /\ ∃ l o, c = (none, l, o) /\ l < o /\ i < o /\ l < n - hint /\ Pp rk left key arr base (hint + l))
   (Q:=fun c st'=>st'=st/\∃l o,c=(none,l,o)/\l<o/\l<n-hint/\Pp rk left key arr base (hint+l)/\(o<n-hint->¬Pp rk left key arr base (hint+o))) ?step ?fin ⟨rfl,0,1,rfl,by omega,by omega,by omega,hc⟩) ?post)
  case fin =>
   rintro c st' ⟨rfl,l,o,rfl,a1,a2,a3,a4⟩
   rw[Nat.max_eq_right (Nat.zero_le _)]at a2
   exact⟨rfl,l,o,rfl,a1,a3,a4,fun z=>by omega⟩
  case step =>
   rintro i c st' _ hi ⟨rfl,l,o,rfl,a1,a2,a3,a4⟩
   dsimp only
   by_cases ho:o≥n-hint
   ·rw[if_pos ho]
    exact wpS_pure ⟨rfl,l,o,rfl,a1,a3,a4,fun z=>by omega⟩
   ·rw[if_neg ho]
    refine wpS_bind (bey_w h0 hB hk (ha _ (by omega)) ?_)
    by_cases hc2:Pp rk left key arr base (hint+o)
    ·rw[decide_eq_true hc2]
     dsimp only
     rw[if_neg (by decide)]
     exact wpS_pure ⟨rfl,o,2*o+1,rfl,by omega,by omega,by omega,hc2⟩
    ·rw[decide_eq_false hc2]
     dsimp only
     rw[if_pos (by decide)]
     exact wpS_pure ⟨rfl,l,o,rfl,a1,a3,a4,fun _=>hc2⟩
  case post =>
   rintro c st' ⟨rfl,l,o,rfl,a1,a2,a3,a4⟩
   dsimp only
   have f1:hint+l+1<=hint+min o (n-hint):=by omega
   have f2:hint+min o (n-hint)<=n:=by omega
   have f3:∀i,i<hint+l+1->Pp rk left key arr base i:=fun i hi=>hm i (hint+l) (by omega) (by omega) a3
   have f4:∀i,hint+min o (n-hint)<=i->i<n->¬Pp rk left key arr base i:=fun i h1 h2 z=>by
    by_cases e:o<n-hint
    ·exact a4 e (hm (hint+o) i (by omega) h2 z)
    ·omega
   revert f1 f2 f3 f4
   generalize hint+l+1=lo
   generalize hint+min o (n-hint)=hi
   intro h1 h2 h3 h4
   refine wpS_bind (wpS_mono (wpS_forRange (I := fun i c sx => sx = st' /\ ∃ l r, c = (none, l, r) /\ l <= r /\ r <= n /\ r - l <= n - i /\ (∀ x, x < l -> Pp rk left key arr base x) /\ (∀ x, r <= x -> x < n -> ¬ Pp rk left key arr base x))
    (Q:=fun c sx=>sx=st'/\∃l r,c=(none,l,r)/\r<=n/\(∀x,x<r->Pp rk left key arr base x)/\(∀x,r<=x->x<n->¬Pp rk left key arr base x)) ?stpA ?fnA ⟨rfl,lo,hi,rfl,h1,h2,by omega,h3,h4⟩) ?pstA)
   case fnA =>
    rintro c st' ⟨rfl,l,r,rfl,a1,a2,a3,a4,a5⟩
    rw[Nat.max_eq_right (Nat.zero_le _)]at a3
    exact⟨rfl,l,r,rfl,a2,fun x hx=>a4 x (by omega),a5⟩
   case pstA =>
    rintro c st' ⟨rfl,l,r,rfl,a2,a4,a5⟩
    exact wpS_pure (h r a2 a4 a5)
   case stpA =>
    rintro i c st' _ hi ⟨rfl,l,r,rfl,a1,a2,a3,a4,a5⟩
    dsimp only
    by_cases hlr:l≥r
    ·rw[if_pos hlr]
     exact wpS_pure ⟨rfl,l,r,rfl,a2,fun x hx=>a4 x (by omega),a5⟩
    ·rw[if_neg hlr]
     refine wpS_bind (bey_w h0 hB hk (ha _ (by omega)) ?_)
     by_cases hc:Pp rk left key arr base (l+(r-l) / 2)
     ·rw[decide_eq_true hc]
      dsimp only
      rw[if_pos rfl]
      exact wpS_pure ⟨rfl,_,r,rfl,by omega,a2,by omega,fun x hx=>hm x _ (by omega) (by omega) hc,a5⟩
     ·rw[decide_eq_false hc]
      dsimp only
      rw[if_neg Bool.false_ne_true]
      exact wpS_pure ⟨rfl,l,_,rfl,by omega,by omega,by omega,a4,fun x h1 h2 z=>hc (hm _ x h1 h2 z)⟩
 ·rw[decide_eq_false hc]
  dsimp only
  rw[if_neg Bool.false_ne_true]
  refine wpS_bind (wpS_mono (wpS_forRange (I := fun i c st' => st' = st /\ ∃ l o, c = (none, l, o) /\ l < o /\ i < o /\ l < hint + 1 /\ ¬ Pp rk left key arr base (hint - l))
   (Q:=fun c st'=>st'=st/\∃l o,c=(none,l,o)/\l<o/\l<hint+1/\¬Pp rk left key arr base (hint-l)/\(o<hint+1->Pp rk left key arr base (hint-o))) ?step ?fin ⟨rfl,0,1,rfl,by omega,by omega,by omega,hc⟩) ?post)
  case fin =>
   rintro c st' ⟨rfl,l,o,rfl,a1,a2,a3,a4⟩
   rw[Nat.max_eq_right (Nat.zero_le _)]at a2
   exact⟨rfl,l,o,rfl,a1,a3,a4,fun z=>by omega⟩
  case step =>
   rintro i c st' _ hi ⟨rfl,l,o,rfl,a1,a2,a3,a4⟩
   dsimp only
   by_cases ho:o≥hint+1
   ·rw[if_pos ho]
    exact wpS_pure ⟨rfl,l,o,rfl,a1,a3,a4,fun z=>by omega⟩
   ·rw[if_neg ho]
    refine wpS_bind (bey_w h0 hB hk (ha _ (by omega)) ?_)
    by_cases hc2:Pp rk left key arr base (hint-o)
    ·rw[decide_eq_true hc2]
     dsimp only
     rw[if_pos rfl]
     exact wpS_pure ⟨rfl,l,o,rfl,a1,a3,a4,fun _=>hc2⟩
    ·rw[decide_eq_false hc2]
     dsimp only
     rw[if_neg Bool.false_ne_true]
     exact wpS_pure ⟨rfl,o,2*o+1,rfl,by omega,by omega,by omega,hc2⟩
  case post =>
   rintro c st' ⟨rfl,l,o,rfl,a1,a2,a3,a4⟩
   dsimp only
   have f1:hint+1-min o (hint+1)<=hint-l:=by omega
   have f2:hint-l<=n:=by omega
   have f3:∀i,i<hint+1-min o (hint+1)->Pp rk left key arr base i:=fun i hi=>by
    by_cases e:o<hint+1
    ·exact hm i (hint-o) (by omega) (by omega) (a4 e)
    ·omega
   have f4:∀i,hint-l<=i->i<n->¬Pp rk left key arr base i:=fun i h1 h2 z=>a3 (hm (hint-l) i h1 h2 z)
   revert f1 f2 f3 f4
   generalize hint+1-min o (hint+1)=lo
   generalize hint-l=hi
   intro h1 h2 h3 h4
   refine wpS_bind (wpS_mono (wpS_forRange (I := fun i c sx => sx = st' /\ ∃ l r, c = (none, l, r) /\ l <= r /\ r <= n /\ r - l <= n - i /\ (∀ x, x < l -> Pp rk left key arr base x) /\ (∀ x, r <= x -> x < n -> ¬ Pp rk left key arr base x))
    (Q:=fun c sx=>sx=st'/\∃l r,c=(none,l,r)/\r<=n/\(∀x,x<r->Pp rk left key arr base x)/\(∀x,r<=x->x<n->¬Pp rk left key arr base x)) ?stpB ?fnB ⟨rfl,lo,hi,rfl,h1,h2,by omega,h3,h4⟩) ?pstB)
   case fnB =>
    rintro c st' ⟨rfl,l,r,rfl,a1,a2,a3,a4,a5⟩
    rw[Nat.max_eq_right (Nat.zero_le _)]at a3
    exact⟨rfl,l,r,rfl,a2,fun x hx=>a4 x (by omega),a5⟩
   case pstB =>
    rintro c st' ⟨rfl,l,r,rfl,a2,a4,a5⟩
    exact wpS_pure (h r a2 a4 a5)
   case stpB =>
    rintro i c st' _ hi ⟨rfl,l,r,rfl,a1,a2,a3,a4,a5⟩
    dsimp only
    by_cases hlr:l≥r
    ·rw[if_pos hlr]
     exact wpS_pure ⟨rfl,l,r,rfl,a2,fun x hx=>a4 x (by omega),a5⟩
    ·rw[if_neg hlr]
     refine wpS_bind (bey_w h0 hB hk (ha _ (by omega)) ?_)
     by_cases hc:Pp rk left key arr base (l+(r-l) / 2)
     ·rw[decide_eq_true hc]
      dsimp only
      rw[if_pos rfl]
      exact wpS_pure ⟨rfl,_,r,rfl,by omega,a2,by omega,fun x hx=>hm x _ (by omega) (by omega) hc,a5⟩
     ·rw[decide_eq_false hc]
      dsimp only
      rw[if_neg Bool.false_ne_true]
      exact wpS_pure ⟨rfl,l,_,rfl,by omega,by omega,by omega,a4,fun x h1 h2 z=>hc (hm _ x h1 h2 z)⟩
end
end TS
end
section
namespace TS
open PySem PyProof.Rows
section
variable {rk:Keyed->Nat}
def SL(rk:Keyed->Nat)(l:List Keyed):Prop:=l.Pairwise fun x y=>rk x<rk y
structure Mg(rk:Keyed->Nat)(ra rb out T:List Keyed):Prop where
 perm:(out++(ra++rb)).Perm T
 so:SL rk out
 sa:SL rk ra
 sb:SL rk rb
 lt:∀x∈out,∀y∈ra++rb,rk x<rk y
theorem Mg.takeA{u ra rb out T:List Keyed}(h:Mg rk (u++ra) rb out T)(hu:∀x∈u,∀y∈rb,rk x<rk y):Mg rk ra rb (out++u) T:=by
 obtain⟨s1,s2,s3⟩:=List.pairwise_append.mp h.sa
 refine⟨?_,?_,s2,h.sb,?_⟩
 ·have:=h.perm
  rw[List.append_assoc]at this ⊢
  exact this
 ·exact List.pairwise_append.mpr ⟨h.so,s1,fun x hx y hy=>h.lt x hx y (by simp[hy])⟩
 ·intro x hx y hy
  rcases List.mem_append.mp hx with hx|hx
  ·exact h.lt x hx y (by
    rcases List.mem_append.mp hy with hy|hy
    ·simp[hy]
    ·simp[hy])
  ·rcases List.mem_append.mp hy with hy|hy
   ·exact s3 x hx y hy
   ·exact hu x hx y hy
theorem Mg.takeB{u ra rb out T:List Keyed}(h:Mg rk ra (u++rb) out T)(hu:∀x∈u,∀y∈ra,rk x<rk y):Mg rk ra rb (out++u) T:=by
 obtain⟨s1,s2,s3⟩:=List.pairwise_append.mp h.sb
 refine⟨?_,?_,h.sa,s2,?_⟩
 ·refine List.Perm.trans ?_ h.perm
  rw[List.append_assoc]
  refine List.Perm.append_left out ?_
  rw[<- List.append_assoc,<- List.append_assoc]
  exact List.Perm.append_right rb List.perm_append_comm
 ·exact List.pairwise_append.mpr ⟨h.so,s1,fun x hx y hy=>h.lt x hx y (by simp[hy])⟩
 ·intro x hx y hy
  rcases List.mem_append.mp hx with hx|hx
  ·exact h.lt x hx y (by
    rcases List.mem_append.mp hy with hy|hy
    ·simp[hy]
    ·simp[hy])
  ·rcases List.mem_append.mp hy with hy|hy
   ·exact hu x hx y hy
   ·exact s3 x hx y hy
def Okr(rk:Keyed->Nat)(T:List Keyed)(r:Array Keyed):Prop:=r.toList.Perm T/\SL rk r.toList
theorem Mg.doneA{rb out T:List Keyed}{r:Array Keyed}(h:Mg rk [] rb out T)(e:r.toList=out++rb):Okr rk T r:=by
 refine⟨by rw[e];exact h.perm,?_⟩
 rw[e]
 exact List.pairwise_append.mpr ⟨h.so,h.sb,fun x hx y hy=>h.lt x hx y (by simp[hy])⟩
theorem Mg.doneB{ra out T:List Keyed}{r:Array Keyed}(h:Mg rk ra [] out T)(e:r.toList=out++ra):Okr rk T r:=by
 refine⟨by rw[e];have:=h.perm;rw[List.append_nil]at this;exact this,?_⟩
 rw[e]
 exact List.pairwise_append.mpr ⟨h.so,h.sa,fun x hx y hy=>h.lt x hx y (by simp[hy])⟩
theorem Mg.lastA{l:Keyed}{rb out T:List Keyed}{r:Array Keyed}(h:Mg rk [l] rb out T)(hl:∀y∈rb,rk y<rk l)(e:r.toList=out++rb++[l]):Okr rk T r:=by
 refine⟨?_,?_⟩
 ·rw[e,List.append_assoc]
  refine List.Perm.trans (List.Perm.append_left out ?_) h.perm
  exact List.perm_append_comm
 ·rw[e]
  refine List.pairwise_append.mpr ⟨List.pairwise_append.mpr ⟨h.so,h.sb,fun x hx y hy=>h.lt x hx y (by simp[hy])⟩,List.pairwise_singleton _ _,fun x hx y hy=>?_⟩
  rw[List.mem_singleton.mp hy]
  rcases List.mem_append.mp hx with hx|hx
  ·exact h.lt x hx l (by simp)
  ·exact hl x hx
theorem mem_dr{a:Array Keyed}{n:Nat}{y:Keyed}(h:y∈a.toList.drop n):∃i,n<=i/\i<a.size/\a[i]?=some y:=by
 obtain⟨i,hi,e⟩:=List.mem_iff_getElem.mp h
 rw[List.length_drop,Array.length_toList]at hi
 refine⟨n+i,by omega,by omega,?_⟩
 rw[List.getElem_drop]at e
 rw[<- e]
 simp[show n+i<a.size by omega]
theorem mem_tk{a:Array Keyed}{n k:Nat}{y:Keyed}(h:y∈(a.toList.drop n).take k):∃i,n<=i/\i<n+k/\i<a.size/\a[i]?=some y:=by
 obtain⟨i,hi,e⟩:=List.mem_iff_getElem.mp h
 rw[List.length_take,List.length_drop,Array.length_toList]at hi
 refine⟨n+i,by omega,by omega,by omega,?_⟩
 rw[List.getElem_take,List.getElem_drop]at e
 rw[<- e]
 simp[show n+i<a.size by omega]
theorem dr_cons{a:Array Keyed}{n:Nat}{x:Keyed}(h:a[n]?=some x):a.toList.drop n=x::a.toList.drop (n+1):=by
 have hn:n<a.size:=(Array.getElem?_eq_some_iff.mp h).1
 rw[List.drop_eq_getElem_cons (by rw[Array.length_toList];exact hn)]
 congr 1
 have:=(Array.getElem?_eq_some_iff.mp h).2
 rw[<- this]
 simp
theorem dr_split(a:Array Keyed)(n k:Nat):a.toList.drop n=(a.toList.drop n).take k++a.toList.drop (n+k):=by
 rw[<- List.drop_drop,List.take_append_drop]
theorem ext_list(a:Array Keyed)(n k:Nat):(a.extract n (n+k)).toList=(a.toList.drop n).take k:=by
 rw[Array.toList_extract,List.extract_eq_drop_take,Nat.add_sub_cancel_left]
theorem ext_all(a:Array Keyed)(n:Nat):(a.extract n a.size).toList=a.toList.drop n:=by
 rw[Array.toList_extract,List.extract_eq_drop_take,List.take_of_length_le (by rw[List.length_drop,Array.length_toList];omega)]
theorem SL.R{a:Array Keyed}(h:SL rk a.toList){i j:Nat}(hij:i<j)(hj:j<a.size):R rk a i<R rk a j:=by
 have:=List.pairwise_iff_getElem.mp h i j (by rw[Array.length_toList];omega) (by rw[Array.length_toList];omega) hij
 rw[R_at (getElem?_pos a i (by omega)),R_at (getElem?_pos a j hj)]
 simpa using this
theorem SL.le{a:Array Keyed}(h:SL rk a.toList){i j:Nat}(hij:i<=j)(hj:j<a.size):TS.R rk a i<=TS.R rk a j:=by
 rcases Nat.lt_or_eq_of_le hij with e|e
 ·exact Nat.le_of_lt (h.R e hj)
 ·rw[e];exact Nat.le_refl _
theorem nd_ne{a b:Array Keyed}(hn:((a.toList++b.toList).map rk).Nodup){i j:Nat}(hi:i<a.size)(hj:j<b.size):TS.R rk a i≠TS.R rk b j:=by
 rw[List.map_append]at hn
 have:=(List.nodup_append.mp hn).2.2
 rw[R_at (getElem?_pos a i hi),R_at (getElem?_pos b j hj)]
 exact this _ (List.mem_map.mpr ⟨a[i],by simp,rfl⟩) _ (List.mem_map.mpr ⟨b[j],by simp,rfl⟩)
end
end TS
end
section
namespace TS
open PySem PyProof.Rows
def mergeLo':Array Keyed->Array Keyed->StateT SortSt Sem (Array Keyed):=sortPriv% PySem.Builtin.mergeLo
def setMin':Nat->StateT SortSt Sem Unit:=sortPriv% PySem.Builtin.setMinGallop
section
variable {prog:Program} {w:World} {A:Around} {E:Value->Shared->Prop} {s:Shared} {κ:SortKind} {rk:Keyed->Nat} {a₀:Array Keyed}
structure Sm(κ:SortKind)(st st':SortSt):Prop where
 kind:kindOf st'=κ
 arr:arrOf st'=arrOf st
 pend:pendingOf st'=pendingOf st
 failed:failedOf st'=failedOf st
theorem Sm.refl{st:SortSt}(h:kindOf st=κ):Sm κ st st:=⟨h,rfl,rfl,rfl⟩
abbrev setG(st:SortSt)(g:Nat):SortSt:=SortSt.mk' (kindOf st) (arrOf st) (pendingOf st) g (failedOf st)
theorem Sm.gallop{st st':SortSt}(h:Sm κ st st')(g:Nat):Sm κ st (setG st' g):=⟨h.kind,h.arr,h.pend,h.failed⟩
theorem setMin_w{st:SortSt}{g:Nat}{Q:Unit->SortSt->Prop}(h:Q () (setG st g)):wpS (model prog w) A E s (setMin' g) Q st:=wpS_modify h
theorem nb{x y:Nat}(h:¬(x==y)=true):x≠y:=fun z=>h (beq_of_eq z)
structure Lo(rk:Keyed->Nat)(a b out:Array Keyed)(ia ib:Nat):Prop where
 mg:Mg rk (a.toList.drop ia) (b.toList.drop ib) out.toList (a.toList++b.toList)
 ia:ia+1<a.size
 ib:ib<b.size
theorem lo_w{st:SortSt}{a b:Array Keyed}{Q:Array Keyed->SortSt->Prop}(h0:Ans prog w A s κ rk a₀)(hkd:kindOf st=κ)(ma:∀x∈a.toList,x∈a₀.toList)(mb:∀x∈b.toList,x∈a₀.toList)(hn:((a.toList++b.toList).map rk).Nodup)(sa:SL rk a.toList)(sb:SL rk b.toList)(ha:0<a.size)(hb:0<b.size)(hba:R rk b 0<R rk a 0)(hla:R rk b (b.size-1)<R rk a (a.size-1))
  (h:∀r st',Sm κ st st'->Okr rk (a.toList++b.toList) r->Q r st'):wpS (model prog w) A E s (mergeLo' a b) Q st:=by
 have atA:∀i,i<a.size->∃x,a[i]?=some x/\x∈a₀.toList:=fun i hi=>⟨a[i],getElem?_pos a i hi,ma _ (by simp)⟩
 have atB:∀i,i<b.size->∃x,b[i]?=some x/\x∈a₀.toList:=fun i hi=>⟨b[i],getElem?_pos b i hi,mb _ (by simp)⟩
 have doneB:∀(out:Array Keyed) (ia ib:Nat),Mg rk (a.toList.drop ia) (b.toList.drop ib) out.toList (a.toList++b.toList)->ib=b.size->Okr rk (a.toList++b.toList) (out++a.extract ia a.size++b.extract ib b.size):=fun out ia ib m e=>by
  have e0:b.toList.drop ib=[]:=List.drop_eq_nil_of_le (by rw[Array.length_toList];omega)
  have ee:(out++a.extract ia a.size++b.extract ib b.size).toList=out.toList++a.toList.drop ia:=by
   rw[Array.toList_append,Array.toList_append,ext_all,ext_all,e0,List.append_nil]
  rw[e0]at m
  exact m.doneB ee
 have doneA:∀(out:Array Keyed) (ia ib:Nat),Mg rk (a.toList.drop ia) (b.toList.drop ib) out.toList (a.toList++b.toList)->ia=a.size->Okr rk (a.toList++b.toList) (out++a.extract ia a.size++b.extract ib b.size):=fun out ia ib m e=>by
  have e0:a.toList.drop ia=[]:=List.drop_eq_nil_of_le (by rw[Array.length_toList];omega)
  have ee:(out++a.extract ia a.size++b.extract ib b.size).toList=out.toList++b.toList.drop ib:=by
   rw[Array.toList_append,Array.toList_append,ext_all,ext_all,e0,List.append_nil]
  rw[e0]at m
  exact m.doneA ee
 have lastA:∀(out:Array Keyed) (ia ib:Nat),Mg rk (a.toList.drop ia) (b.toList.drop ib) out.toList (a.toList++b.toList)->ia+1=a.size->Okr rk (a.toList++b.toList) (out++b.extract ib b.size++a.extract ia a.size):=fun out ia ib m e=>by
  obtain⟨x,ex,_⟩:=atA ia (by omega)
  have e0:a.toList.drop ia=[x]:=by
   rw[dr_cons ex,List.drop_eq_nil_of_le (by rw[Array.length_toList];omega)]
  have ee:(out++b.extract ib b.size++a.extract ia a.size).toList=out.toList++b.toList.drop ib++[x]:=by
   rw[Array.toList_append,Array.toList_append,ext_all,ext_all,e0]
  rw[e0]at m
  refine m.lastA (fun y hy=>?_) ee
  obtain⟨i,h1,h2,h3⟩:=mem_dr hy
  have l1:=sb.le (i:=i) (j:=b.size-1) (by omega) (by omega)
  rw[R_at h3]at l1
  have l2:R rk a (a.size-1)=rk x:=by rw[show a.size-1=ia by omega];exact R_at ex
  omega
 have pushB:∀(out:Array Keyed) (ia ib:Nat) (x:Keyed),Mg rk (a.toList.drop ia) (b.toList.drop ib) out.toList (a.toList++b.toList)->b[ib]?=some x->(∀i,ia<=i->i<a.size->rk x<R rk a i)->Mg rk (a.toList.drop ia) (b.toList.drop (ib+1)) (out.push x).toList (a.toList++b.toList):=fun out ia ib x m e hx=>by
  rw[dr_cons e]at m
  rw[Array.toList_push]
  refine Mg.takeB (u:=[x]) m fun z hz y hy=>?_
  rw[List.mem_singleton.mp hz]
  obtain⟨i,h1,h2,h3⟩:=mem_dr hy
  have:=hx i h1 h2
  rw[R_at h3]at this
  exact this
 have pushA:∀(out:Array Keyed) (ia ib:Nat) (x:Keyed),Mg rk (a.toList.drop ia) (b.toList.drop ib) out.toList (a.toList++b.toList)->a[ia]?=some x->(∀i,ib<=i->i<b.size->rk x<R rk b i)->Mg rk (a.toList.drop (ia+1)) (b.toList.drop ib) (out.push x).toList (a.toList++b.toList):=fun out ia ib x m e hx=>by
  rw[dr_cons e]at m
  rw[Array.toList_push]
  refine Mg.takeA (u:=[x]) m fun z hz y hy=>?_
  rw[List.mem_singleton.mp hz]
  obtain⟨i,h1,h2,h3⟩:=mem_dr hy
  have:=hx i h1 h2
  rw[R_at h3]at this
  exact this
 have extA:∀(out:Array Keyed) (ia ib k:Nat),Mg rk (a.toList.drop ia) (b.toList.drop ib) out.toList (a.toList++b.toList)->(∀i j,ia<=i->i<ia+k->i<a.size->ib<=j->j<b.size->R rk a i<R rk b j)->Mg rk (a.toList.drop (ia+k)) (b.toList.drop ib) (out++a.extract ia (ia+k)).toList (a.toList++b.toList):=fun out ia ib k m hx=>by
  rw[dr_split a ia k]at m
  rw[Array.toList_append,ext_list]
  refine Mg.takeA m fun z hz y hy=>?_
  obtain⟨i,h1,h2,h3,h4⟩:=mem_tk hz
  obtain⟨j,g1,g2,g3⟩:=mem_dr hy
  have:=hx i j h1 h2 h3 g1 g2
  rw[R_at h4,R_at g3]at this
  exact this
 have extB:∀(out:Array Keyed) (ia ib k:Nat),Mg rk (a.toList.drop ia) (b.toList.drop ib) out.toList (a.toList++b.toList)->(∀i j,ib<=i->i<ib+k->i<b.size->ia<=j->j<a.size->R rk b i<R rk a j)->Mg rk (a.toList.drop ia) (b.toList.drop (ib+k)) (out++b.extract ib (ib+k)).toList (a.toList++b.toList):=fun out ia ib k m hx=>by
  rw[dr_split b ib k]at m
  rw[Array.toList_append,ext_list]
  refine Mg.takeB m fun z hz y hy=>?_
  obtain⟨i,h1,h2,h3,h4⟩:=mem_tk hz
  obtain⟨j,g1,g2,g3⟩:=mem_dr hy
  have:=hx i j h1 h2 h3 g1 g2
  rw[R_at h4,R_at g3]at this
  exact this
 obtain⟨x0,ex0,mx0⟩:=atB 0 hb
 have m0:Mg rk (a.toList.drop 0) (b.toList.drop 0) (#[]:Array Keyed).toList (a.toList++b.toList):=⟨List.Perm.refl _,List.Pairwise.nil,sa,sb,fun x hx=>by cases hx⟩
 have m1:Mg rk (a.toList.drop 0) (b.toList.drop 1) (#[x0]:Array Keyed).toList (a.toList++b.toList):=pushB #[] 0 0 x0 m0 ex0 fun i _ hi=>by
  have:=sa.le (Nat.zero_le i) hi
  rw[R_at ex0]at hba
  omega
 refine wpS_bind (wpS_lift (wpAny_rule ⟨rfl,?_⟩))
 refine wpS_bind (elem_w ex0 ?_)
 dsimp only
 by_cases e1:(1==b.size)=true
 ·rw[if_pos e1]
  exact wpS_pure (h _ _ (Sm.refl hkd) (doneB _ _ _ m1 (eq_of_beq e1)))
 rw[if_neg e1]
 have ne1:=nb e1
 by_cases e2:(0+1==a.size)=true
 ·rw[if_pos e2]
  exact wpS_pure (h _ _ (Sm.refl hkd) (lastA _ _ _ m1 (eq_of_beq e2)))
 rw[if_neg e2]
 have ne2:=nb e2
 refine wpS_bind (wpS_get ?_)
 refine wpS_bind (wpS_mono (wpS_forRange (I := fun i c st' => ∃ out ia ib mg, c = (none, out, ia, ib, mg) /\ Lo rk a b out ia ib /\ i <= ia + ib /\ Sm κ st st')
  (Q:=fun c st'=>∃r rest,c=(some r,rest)/\Okr rk (a.toList++b.toList) r/\Sm κ st st') ?stepO ?finO ⟨_,_,_,_,rfl,⟨m1,by omega,by omega⟩,Nat.zero_le _,Sm.refl hkd⟩) ?postO)
 case finO =>
  rintro c st' ⟨out,ia,ib,mg,rfl,hL,hi,hs⟩
  have:=hL.ia
  have:=hL.ib
  rw[Nat.max_eq_right (Nat.zero_le _)]at hi
  omega
 case postO =>
  rintro c st' ⟨r,rest,rfl,ok,hs⟩
  exact wpS_pure (h r st' hs ok)
 case stepO =>
  rintro i c st' _ hi ⟨out,ia,ib,mg,rfl,hL,hii,hs⟩
  dsimp only
  refine wpS_bind (wpS_mono (wpS_forRange (I := fun j c st2 => ∃ out ia ib ac bc, c = (none, out, ia, ib, ac, bc) /\ Lo rk a b out ia ib /\ i + j <= ia + ib /\ Sm κ st st2)
   (Q:=fun c st2=>(∃r rest,c=(some r,rest)/\Okr rk (a.toList++b.toList) r/\Sm κ st st2)\/∃out ia ib ac bc,c=(none,out,ia,ib,ac,bc)/\Lo rk a b out ia ib/\i+1<=ia+ib/\Sm κ st st2) ?stepI ?finI ⟨_,_,_,_,_,rfl,hL,hii,hs⟩) ?postI)
  case finI =>
   rintro c st2 ⟨out,ia,ib,ac,bc,rfl,hL,hj,hs⟩
   rw[Nat.max_eq_right (Nat.zero_le _)]at hj
   exact .inr ⟨_,_,_,_,_,rfl,hL,by omega,hs⟩
  case stepI =>
   rintro j c st2 _ hj ⟨out,ia,ib,ac,bc,rfl,hL,hjj,hs⟩
   have hia:=hL.ia
   have hib:=hL.ib
   obtain⟨x,ex,mx⟩:=atB ib hib
   obtain⟨y,ey,my⟩:=atA ia (by omega)
   have rx:R rk b ib=rk x:=R_at ex
   have ry:R rk a ia=rk y:=R_at ey
   dsimp only
   refine wpS_bind (elem_w ex ?_)
   refine wpS_bind (elem_w ey ?_)
   refine wpS_bind (lt_w h0 hs.kind mx my ?_)
   by_cases hc:rk x<rk y
   ·rw[decide_eq_true hc]
    dsimp only
    rw[if_pos rfl]
    refine wpS_bind (elem_w ex ?_)
    have m2:=pushB out ia ib x hL.mg ex fun t h1 h2=>by
     have:=sa.le h1 h2
     omega
    by_cases e:(ib+1==b.size)=true
    ·rw[if_pos e]
     exact wpS_pure (.inl ⟨_,_,rfl,doneB _ _ _ m2 (eq_of_beq e),hs⟩)
    ·rw[if_neg e]
     have ne:=nb e
     by_cases g:bc+1≥mg
     ·rw[if_pos g]
      exact wpS_pure (.inr ⟨_,_,_,_,_,rfl,⟨m2,by omega,by omega⟩,by omega,hs⟩)
     ·rw[if_neg g]
      exact wpS_pure ⟨_,_,_,_,_,rfl,⟨m2,by omega,by omega⟩,by omega,hs⟩
   ·rw[decide_eq_false hc]
    dsimp only
    rw[if_neg Bool.false_ne_true]
    refine wpS_bind (elem_w ey ?_)
    have nn:=nd_ne hn (i:=ia) (j:=ib) (by omega) hib
    have m2:=pushA out ia ib y hL.mg ey fun t h1 h2=>by
     have:=sb.le h1 h2
     omega
    by_cases e:(ia+1+1==a.size)=true
    ·rw[if_pos e]
     exact wpS_pure (.inl ⟨_,_,rfl,lastA _ _ _ m2 (eq_of_beq e),hs⟩)
    ·rw[if_neg e]
     have ne:=nb e
     by_cases g:ac+1≥mg
     ·rw[if_pos g]
      exact wpS_pure (.inr ⟨_,_,_,_,_,rfl,⟨m2,by omega,by omega⟩,by omega,hs⟩)
     ·rw[if_neg g]
      exact wpS_pure ⟨_,_,_,_,_,rfl,⟨m2,by omega,by omega⟩,by omega,hs⟩
  case postI =>
   rintro c st2 (⟨r,rest,rfl,ok,hs⟩|⟨out,ia,ib,ac,bc,rfl,hL,hj,hs⟩)
   ·exact wpS_pure ⟨r,_,rfl,ok,hs⟩
   dsimp only
   refine wpS_bind (wpS_lift (wpAny_rule ⟨rfl,?_⟩))
   refine wpS_bind (wpS_mono (wpS_forRange (I := fun j c st3 => ∃ out ia ib mg ac bc, c = (none, out, ia, ib, mg, ac, bc) /\ Lo rk a b out ia ib /\ i + 1 <= ia + ib /\ Sm κ st st3)
    (Q:=fun c st3=>(∃r rest,c=(some r,rest)/\Okr rk (a.toList++b.toList) r/\Sm κ st st3)\/∃out ia ib mg ac bc,c=(none,out,ia,ib,mg,ac,bc)/\Lo rk a b out ia ib/\i+1<=ia+ib/\Sm κ st st3) ?stepG ?finG ⟨_,_,_,_,_,_,rfl,hL,hj,hs⟩) ?postG)
   case finG =>
    rintro c st3 ⟨out,ia,ib,mg,ac,bc,rfl,hL,hj,hs⟩
    exact .inr ⟨_,_,_,_,_,_,rfl,hL,hj,hs⟩
   case postG =>
    rintro c st3 (⟨r,rest,rfl,ok,hs⟩|⟨out,ia,ib,mg,ac,bc,rfl,hL,hj,hs⟩)
    ·exact wpS_pure ⟨r,_,rfl,ok,hs⟩
    dsimp only
    refine wpS_bind (setMin_w (wpS_pure ⟨_,_,_,_,rfl,hL,hj,hs.gallop _⟩))
   case stepG =>
    rintro j c st3 _ hjt ⟨out,ia,ib,mg,ac,bc,rfl,hL,hj,hs⟩
    have hia:=hL.ia
    have hib:=hL.ib
    obtain⟨x,ex,mx⟩:=atB ib hib
    have rx:R rk b ib=rk x:=R_at ex
    dsimp only
    by_cases hmg:mg>1
    all_goals first|rw[if_pos hmg]|rw[if_neg hmg]
    all_goals
     refine wpS_bind (setMin_w ?_)
     have hs1:=fun g=>hs.gallop g
     refine wpS_bind (elem_w ex ?_)
     refine wpS_bind (gallop_w (left:=false) h0 (hs1 _).kind mx (fun i hi=>atA (ia+i) (by omega)) (by omega) (fun i j hij hj hp=>?monoA) fun k k1 k2 k3=>?_)
     case monoA =>
      unfold Pp at hp ⊢
      rw[if_neg Bool.false_ne_true]at hp ⊢
      exact Nat.le_trans (sa.le (by omega) (by omega)) hp
     have k2:∀i,i<k->R rk a (ia+i)<rk x:=fun i hi=>by
      have:=k2 i hi
      unfold Pp at this
      rw[if_neg Bool.false_ne_true]at this
      have ne:=nd_ne hn (i:=ia+i) (j:=ib) (by omega) (by omega)
      rw[rx]at ne
      omega
     have k3:∀i,k<=i->i<a.size-ia->rk x<R rk a (ia+i):=fun i h1 h2=>by
      have:=k3 i h1 h2
      unfold Pp at this
      rw[if_neg Bool.false_ne_true]at this
      omega
     dsimp only
     by_cases hk:k>0
     ·rw[if_pos hk]
      have m1 := extA out ia ib k hL.mg (fun i j h1 h2 h3 h4 h5 => by
       have:=k2 (i-ia) (by omega)
       rw[show ia+(i-ia)=i by omega]at this
       have:=sb.le h4 h5
       omega)
      by_cases e1:(ia+k+1==a.size)=true
      ·rw[if_pos e1]
       exact wpS_pure (.inl ⟨_,_,rfl,lastA _ _ _ m1 (eq_of_beq e1),hs1 _⟩)
      ·rw[if_neg e1]
       have ne1:=nb e1
       by_cases e2:(ia+k==a.size)=true
       ·rw[if_pos e2]
        exact wpS_pure (.inl ⟨_,_,rfl,doneA _ _ _ m1 (eq_of_beq e2),hs1 _⟩)
       ·rw[if_neg e2]
        have ne2:=nb e2
        have F2:∀i,ia+k<=i->i<a.size->rk x<R rk a i:=fun i h1 h2=>by
            have:=k3 (i-ia) (by omega) (by omega)
            rw[show ia+(i-ia)=i by omega]at this
            exact this
        refine wpS_bind (elem_w ex ?_)
        have m2:=pushB ((out++a.extract ia (ia+k))) (ia+k) ib x m1 ex F2
        by_cases e3:(ib+1==b.size)=true
        ·rw[if_pos e3]
         exact wpS_pure (.inl ⟨_,_,rfl,doneB _ _ _ m2 (eq_of_beq e3),hs1 _⟩)
        ·rw[if_neg e3]
         have ne3:=nb e3
         obtain⟨y1,ey1,my1⟩:=atA (ia+k) (by omega)
         have ry1:R rk a (ia+k)=rk y1:=R_at ey1
         refine wpS_bind (elem_w ey1 ?_)
         refine wpS_bind (gallop_w (left:=true) h0 (hs1 _).kind my1 (fun i hi=>atB (ib+1+i) (by omega)) (by omega) (fun i j hij hj hp=>?mono) fun k' k1' k2' k3'=>?_)
         case mono =>
          unfold Pp at hp ⊢
          rw[if_pos rfl]at hp ⊢
          exact Nat.lt_of_le_of_lt (sb.le (by omega) (by omega)) hp
         have k2':∀i,i<k'->R rk b (ib+1+i)<rk y1:=fun i hi=>by have:=k2' i hi;unfold Pp at this;rw[if_pos rfl]at this;exact this
         have k3':∀i,k'<=i->i<b.size-(ib+1)->rk y1<R rk b (ib+1+i):=fun i h1 h2=>by
          have:=k3' i h1 h2
          unfold Pp at this
          rw[if_pos rfl]at this
          have ne:=nd_ne hn (i:=ia+k) (j:=ib+1+i) (by omega) (by omega)
          rw[ry1]at ne
          omega
         dsimp only
         by_cases hk':k'>0
         ·rw[if_pos hk']
          have m3 := extB ((out ++ a.extract ia (ia + k)).push x) (ia + k) (ib + 1) k' m2 (fun i j h1 h2 h3 h4 h5 => by
           have:=k2' (i-(ib+1)) (by omega)
           rw[show ib+1+(i-(ib+1))=i by omega]at this
           have:=sa.le h4 h5
           omega)
          by_cases e4:(ib+1+k'==b.size)=true
          ·rw[if_pos e4]
           exact wpS_pure (.inl ⟨_,_,rfl,doneB _ _ _ m3 (eq_of_beq e4),hs1 _⟩)
          ·rw[if_neg e4]
           have ne4:=nb e4
           have F4:∀j,ib+1+k'<=j->j<b.size->rk y1<R rk b j:=fun j h1 h2=>by
               have:=k3' (j-(ib+1)) (by omega) (by omega)
               rw[show ib+1+(j-(ib+1))=j by omega]at this
               exact this
           refine wpS_bind (elem_w ey1 ?_)
           have m4:=pushA ((out++a.extract ia (ia+k)).push x++b.extract (ib+1) (ib+1+k')) (ia+k) (ib+1+k') y1 m3 ey1 F4
           by_cases e5:(ia+k+1+1==a.size)=true
           ·rw[if_pos e5]
            exact wpS_pure (.inl ⟨_,_,rfl,lastA _ _ _ m4 (eq_of_beq e5),hs1 _⟩)
           ·rw[if_neg e5]
            have ne5:=nb e5
            by_cases e6:(decide (k<7)&&decide (k'<7))=true
            ·rw[if_pos e6]
             exact wpS_pure (.inr ⟨_,_,_,_,_,_,rfl,⟨m4,by omega,by omega⟩,by omega,hs1 _⟩)
            ·rw[if_neg e6]
             exact wpS_pure ⟨_,_,_,_,_,_,rfl,⟨m4,by omega,by omega⟩,by omega,hs1 _⟩
         ·rw[if_neg hk']
          have m3:=m2
          have F4:∀j,ib+1<=j->j<b.size->rk y1<R rk b j:=fun j h1 h2=>by
              have:=k3' (j-(ib+1)) (by omega) (by omega)
              rw[show ib+1+(j-(ib+1))=j by omega]at this
              exact this
          refine wpS_bind (elem_w ey1 ?_)
          have m4:=pushA ((out++a.extract ia (ia+k)).push x) (ia+k) (ib+1) y1 m3 ey1 F4
          by_cases e5:(ia+k+1+1==a.size)=true
          ·rw[if_pos e5]
           exact wpS_pure (.inl ⟨_,_,rfl,lastA _ _ _ m4 (eq_of_beq e5),hs1 _⟩)
          ·rw[if_neg e5]
           have ne5:=nb e5
           by_cases e6:(decide (k<7)&&decide (k'<7))=true
           ·rw[if_pos e6]
            exact wpS_pure (.inr ⟨_,_,_,_,_,_,rfl,⟨m4,by omega,by omega⟩,by omega,hs1 _⟩)
           ·rw[if_neg e6]
            exact wpS_pure ⟨_,_,_,_,_,_,rfl,⟨m4,by omega,by omega⟩,by omega,hs1 _⟩
     ·rw[if_neg hk]
      have m1:=hL.mg
      have F2:∀i,ia<=i->i<a.size->rk x<R rk a i:=fun i h1 h2=>by
          have:=k3 (i-ia) (by omega) (by omega)
          rw[show ia+(i-ia)=i by omega]at this
          exact this
      refine wpS_bind (elem_w ex ?_)
      have m2:=pushB (out) (ia) ib x m1 ex F2
      by_cases e3:(ib+1==b.size)=true
      ·rw[if_pos e3]
       exact wpS_pure (.inl ⟨_,_,rfl,doneB _ _ _ m2 (eq_of_beq e3),hs1 _⟩)
      ·rw[if_neg e3]
       have ne3:=nb e3
       obtain⟨y1,ey1,my1⟩:=atA (ia) (by omega)
       have ry1:R rk a (ia)=rk y1:=R_at ey1
       refine wpS_bind (elem_w ey1 ?_)
       refine wpS_bind (gallop_w (left:=true) h0 (hs1 _).kind my1 (fun i hi=>atB (ib+1+i) (by omega)) (by omega) (fun i j hij hj hp=>?mono) fun k' k1' k2' k3'=>?_)
       case mono =>
        unfold Pp at hp ⊢
        rw[if_pos rfl]at hp ⊢
        exact Nat.lt_of_le_of_lt (sb.le (by omega) (by omega)) hp
       have k2':∀i,i<k'->R rk b (ib+1+i)<rk y1:=fun i hi=>by have:=k2' i hi;unfold Pp at this;rw[if_pos rfl]at this;exact this
       have k3':∀i,k'<=i->i<b.size-(ib+1)->rk y1<R rk b (ib+1+i):=fun i h1 h2=>by
        have:=k3' i h1 h2
        unfold Pp at this
        rw[if_pos rfl]at this
        have ne:=nd_ne hn (i:=ia) (j:=ib+1+i) (by omega) (by omega)
        rw[ry1]at ne
        omega
       dsimp only
       by_cases hk':k'>0
       ·rw[if_pos hk']
        have m3 := extB (out.push x) (ia) (ib + 1) k' m2 (fun i j h1 h2 h3 h4 h5 => by
         have:=k2' (i-(ib+1)) (by omega)
         rw[show ib+1+(i-(ib+1))=i by omega]at this
         have:=sa.le h4 h5
         omega)
        by_cases e4:(ib+1+k'==b.size)=true
        ·rw[if_pos e4]
         exact wpS_pure (.inl ⟨_,_,rfl,doneB _ _ _ m3 (eq_of_beq e4),hs1 _⟩)
        ·rw[if_neg e4]
         have ne4:=nb e4
         have F4:∀j,ib+1+k'<=j->j<b.size->rk y1<R rk b j:=fun j h1 h2=>by
             have:=k3' (j-(ib+1)) (by omega) (by omega)
             rw[show ib+1+(j-(ib+1))=j by omega]at this
             exact this
         refine wpS_bind (elem_w ey1 ?_)
         have m4:=pushA (out.push x++b.extract (ib+1) (ib+1+k')) (ia) (ib+1+k') y1 m3 ey1 F4
         by_cases e5:(ia+1+1==a.size)=true
         ·rw[if_pos e5]
          exact wpS_pure (.inl ⟨_,_,rfl,lastA _ _ _ m4 (eq_of_beq e5),hs1 _⟩)
         ·rw[if_neg e5]
          have ne5:=nb e5
          by_cases e6:(decide (k<7)&&decide (k'<7))=true
          ·rw[if_pos e6]
           exact wpS_pure (.inr ⟨_,_,_,_,_,_,rfl,⟨m4,by omega,by omega⟩,by omega,hs1 _⟩)
          ·rw[if_neg e6]
           exact wpS_pure ⟨_,_,_,_,_,_,rfl,⟨m4,by omega,by omega⟩,by omega,hs1 _⟩
       ·rw[if_neg hk']
        have m3:=m2
        have F4:∀j,ib+1<=j->j<b.size->rk y1<R rk b j:=fun j h1 h2=>by
            have:=k3' (j-(ib+1)) (by omega) (by omega)
            rw[show ib+1+(j-(ib+1))=j by omega]at this
            exact this
        refine wpS_bind (elem_w ey1 ?_)
        have m4:=pushA (out.push x) (ia) (ib+1) y1 m3 ey1 F4
        by_cases e5:(ia+1+1==a.size)=true
        ·rw[if_pos e5]
         exact wpS_pure (.inl ⟨_,_,rfl,lastA _ _ _ m4 (eq_of_beq e5),hs1 _⟩)
        ·rw[if_neg e5]
         have ne5:=nb e5
         by_cases e6:(decide (k<7)&&decide (k'<7))=true
         ·rw[if_pos e6]
          exact wpS_pure (.inr ⟨_,_,_,_,_,_,rfl,⟨m4,by omega,by omega⟩,by omega,hs1 _⟩)
         ·rw[if_neg e6]
          exact wpS_pure ⟨_,_,_,_,_,_,rfl,⟨m4,by omega,by omega⟩,by omega,hs1 _⟩
end
end TS
end
section
namespace TS
open PySem PyProof.Rows
def mergeHi':Array Keyed->Array Keyed->StateT SortSt Sem (Array Keyed):=sortPriv% PySem.Builtin.mergeHi
theorem nb'{x y:Nat}(h:¬(x==y)=true):x≠y:=nb h
structure Mh(rk:Keyed->Nat)(ra rb o T:List Keyed):Prop where
 perm:((ra++rb)++o).Perm T
 so:SL rk o
 sa:SL rk ra
 sb:SL rk rb
 lt:∀x∈ra++rb,∀y∈o,rk x<rk y
section
variable {rk:Keyed->Nat}
theorem Mh.takeA{u ra rb o T:List Keyed}(h:Mh rk (ra++u) rb o T)(hu:∀x∈rb,∀y∈u,rk x<rk y):Mh rk ra rb (u++o) T:=by
 obtain⟨s1,s2,s3⟩:=List.pairwise_append.mp h.sa
 refine⟨?_,?_,s1,h.sb,?_⟩
 ·refine List.Perm.trans ?_ h.perm
  rw[<- List.append_assoc]
  refine List.Perm.append_right o ?_
  rw[List.append_assoc,List.append_assoc]
  exact List.Perm.append_left ra List.perm_append_comm
 ·exact List.pairwise_append.mpr ⟨s2,h.so,fun x hx y hy=>h.lt x (by simp[hx]) y hy⟩
 ·intro x hx y hy
  rcases List.mem_append.mp hy with hy|hy
  ·rcases List.mem_append.mp hx with hx|hx
   ·exact s3 x hx y hy
   ·exact hu x hx y hy
  ·exact h.lt x (by
    rcases List.mem_append.mp hx with hx|hx
    ·simp[hx]
    ·simp[hx]) y hy
theorem Mh.takeB{u ra rb o T:List Keyed}(h:Mh rk ra (rb++u) o T)(hu:∀x∈ra,∀y∈u,rk x<rk y):Mh rk ra rb (u++o) T:=by
 obtain⟨s1,s2,s3⟩:=List.pairwise_append.mp h.sb
 refine⟨?_,?_,h.sa,s1,?_⟩
 ·have:=h.perm
  rw[List.append_assoc,List.append_assoc]at this
  rw[List.append_assoc]
  exact this
 ·exact List.pairwise_append.mpr ⟨s2,h.so,fun x hx y hy=>h.lt x (by simp[hx]) y hy⟩
 ·intro x hx y hy
  rcases List.mem_append.mp hy with hy|hy
  ·rcases List.mem_append.mp hx with hx|hx
   ·exact hu x hx y hy
   ·exact s3 x hx y hy
  ·exact h.lt x (by
    rcases List.mem_append.mp hx with hx|hx
    ·simp[hx]
    ·simp[hx]) y hy
theorem Mh.doneA{rb o T:List Keyed}{r:Array Keyed}(h:Mh rk [] rb o T)(e:r.toList=rb++o):Okr rk T r:=by
 refine⟨by rw[e];exact h.perm,?_⟩
 rw[e]
 exact List.pairwise_append.mpr ⟨h.sb,h.so,fun x hx y hy=>h.lt x (by simp[hx]) y hy⟩
theorem Mh.doneB{ra o T:List Keyed}{r:Array Keyed}(h:Mh rk ra [] o T)(e:r.toList=ra++o):Okr rk T r:=by
 refine⟨by rw[e];have:=h.perm;rw[List.append_nil]at this;exact this,?_⟩
 rw[e]
 exact List.pairwise_append.mpr ⟨h.sa,h.so,fun x hx y hy=>h.lt x (by simp[hx]) y hy⟩
theorem Mh.firstB{f:Keyed}{ra o T:List Keyed}{r:Array Keyed}(h:Mh rk ra [f] o T)(hl:∀y∈ra,rk f<rk y)(e:r.toList=[f]++ra++o):Okr rk T r:=by
 refine⟨?_,?_⟩
 ·rw[e]
  exact List.Perm.trans (List.Perm.append_right o List.perm_append_comm) h.perm
 ·rw[e,List.append_assoc]
  refine List.pairwise_append.mpr ⟨List.pairwise_singleton _ _,List.pairwise_append.mpr ⟨h.sa,h.so,fun x hx y hy=>h.lt x (by simp[hx]) y hy⟩,fun x hx y hy=>?_⟩
  rw[List.mem_singleton.mp hx]
  rcases List.mem_append.mp hy with hy|hy
  ·exact hl y hy
  ·exact h.lt f (by simp) y hy
theorem tk_list(a:Array Keyed)(n:Nat):(a.extract 0 n).toList=a.toList.take n:=by
 rw[Array.toList_extract,List.extract_eq_drop_take,List.drop_zero,Nat.sub_zero]
theorem tk_snoc{a:Array Keyed}{n:Nat}{x:Keyed}(h1:1<=n)(h:a[n-1]?=some x):a.toList.take n=a.toList.take (n-1)++[x]:=by
 have hn:n-1<a.size:=(Array.getElem?_eq_some_iff.mp h).1
 obtain⟨m,rfl⟩:∃m,n=m+1:=⟨n-1,by omega⟩
 rw[Nat.add_sub_cancel]at h hn ⊢
 rw[List.take_add_one]
 congr 1
 have:a.toList[m]?=some x:=by simpa using h
 rw[this];rfl
theorem tk_split(a:Array Keyed){n k:Nat}(h:k<=n):a.toList.take n=a.toList.take k++(a.extract k n).toList:=by
 rw[Array.toList_extract,List.extract_eq_drop_take]
 have:=List.take_append_drop k (a.toList.take n)
 rw[List.take_take,Nat.min_eq_left h,List.drop_take]at this
 exact this.symm
theorem mem_t{a:Array Keyed}{n:Nat}{y:Keyed}(h:y∈a.toList.take n):∃i,i<n/\i<a.size/\a[i]?=some y:=by
 obtain⟨i,hi,e⟩:=List.mem_iff_getElem.mp h
 rw[List.length_take,Array.length_toList]at hi
 refine⟨i,by omega,by omega,?_⟩
 rw[List.getElem_take]at e
 rw[<- e]
 simp[show i<a.size by omega]
theorem mem_x{a:Array Keyed}{k n:Nat}{y:Keyed}(h:y∈(a.extract k n).toList):∃i,k<=i/\i<n/\a[i]?=some y:=by
 rw[Array.toList_extract,List.extract_eq_drop_take]at h
 obtain⟨i,h1,h2,h3,h4⟩:=mem_tk h
 exact⟨i,h1,by omega,h4⟩
end
section
variable {prog:Program} {w:World} {A:Around} {E:Value->Shared->Prop} {s:Shared} {κ:SortKind} {rk:Keyed->Nat} {a₀:Array Keyed}
structure Hi(rk:Keyed->Nat)(a b out:Array Keyed)(na nb:Nat):Prop where
 mg:Mh rk (a.toList.take na) (b.toList.take nb) out.toList.reverse (a.toList++b.toList)
 n1:1<=na
 n2:2<=nb
 n3:na<=a.size
 n4:nb<=b.size
theorem hi_w{st:SortSt}{a b:Array Keyed}{Q:Array Keyed->SortSt->Prop}(h0:Ans prog w A s κ rk a₀)(hkd:kindOf st=κ)(ma:∀x∈a.toList,x∈a₀.toList)(mb:∀x∈b.toList,x∈a₀.toList)(hn:((a.toList++b.toList).map rk).Nodup)(sa:SL rk a.toList)(sb:SL rk b.toList)(ha:0<a.size)(hb:0<b.size)(hba:R rk b 0<R rk a 0)(hla:R rk b (b.size-1)<R rk a (a.size-1))
  (h:∀r st',Sm κ st st'->Okr rk (a.toList++b.toList) r->Q r st'):wpS (model prog w) A E s (mergeHi' a b) Q st:=by
 have atA:∀i,i<a.size->∃x,a[i]?=some x/\x∈a₀.toList:=fun i hi=>⟨a[i],getElem?_pos a i hi,ma _ (by simp)⟩
 have atB:∀i,i<b.size->∃x,b[i]?=some x/\x∈a₀.toList:=fun i hi=>⟨b[i],getElem?_pos b i hi,mb _ (by simp)⟩
 have doneA:∀(out:Array Keyed) (na nb:Nat),Mh rk (a.toList.take na) (b.toList.take nb) out.toList.reverse (a.toList++b.toList)->na=0->Okr rk (a.toList++b.toList) (a.extract 0 na++b.extract 0 nb++out.reverse):=fun out na nb m e=>by
  subst e
  have ee:(a.extract 0 0++b.extract 0 nb++out.reverse).toList=b.toList.take nb++out.toList.reverse:=by
   rw[Array.toList_append,Array.toList_append,tk_list,tk_list,Array.toList_reverse,List.take_zero,List.nil_append]
  rw[List.take_zero]at m
  exact m.doneA ee
 have doneB:∀(out:Array Keyed) (na nb:Nat),Mh rk (a.toList.take na) (b.toList.take nb) out.toList.reverse (a.toList++b.toList)->nb=0->Okr rk (a.toList++b.toList) (a.extract 0 na++b.extract 0 nb++out.reverse):=fun out na nb m e=>by
  subst e
  have ee:(a.extract 0 na++b.extract 0 0++out.reverse).toList=a.toList.take na++out.toList.reverse:=by
   rw[Array.toList_append,Array.toList_append,tk_list,tk_list,Array.toList_reverse,List.take_zero,List.append_nil]
  rw[List.take_zero]at m
  exact m.doneB ee
 have firstB:∀(out:Array Keyed) (na nb:Nat),Mh rk (a.toList.take na) (b.toList.take nb) out.toList.reverse (a.toList++b.toList)->nb=1->Okr rk (a.toList++b.toList) (b.extract 0 nb++a.extract 0 na++out.reverse):=fun out na nb m e=>by
  subst e
  obtain⟨x,ex,_⟩:=atB 0 hb
  have e0:b.toList.take 1=[x]:=by
   have:=tk_snoc (a:=b) (n:=1) (by omega) ex
   rw[this];rfl
  have ee:(b.extract 0 1++a.extract 0 na++out.reverse).toList=[x]++a.toList.take na++out.toList.reverse:=by
   rw[Array.toList_append,Array.toList_append,tk_list,tk_list,Array.toList_reverse,e0]
  rw[e0]at m
  refine m.firstB (fun y hy=>?_) ee
  obtain⟨i,h1,h2,h3⟩:=mem_t hy
  have l1:=sa.le (Nat.zero_le i) h2
  rw[R_at h3]at l1
  rw[R_at ex]at hba
  omega
 have pushA:∀(out:Array Keyed) (na nb:Nat) (x:Keyed),1<=na->Mh rk (a.toList.take na) (b.toList.take nb) out.toList.reverse (a.toList++b.toList)->a[na-1]?=some x->(∀i,i<nb->R rk b i<rk x)->Mh rk (a.toList.take (na-1)) (b.toList.take nb) (out.push x).toList.reverse (a.toList++b.toList):=fun out na nb x h1 m e hx=>by
  rw[tk_snoc h1 e]at m
  rw[Array.toList_push,List.reverse_append]
  refine Mh.takeA (u:=[x]) m fun y hy z hz=>?_
  rw[List.mem_singleton.mp hz]
  obtain⟨i,h1,h2,h3⟩:=mem_t hy
  have:=hx i h1
  rw[R_at h3]at this
  exact this
 have pushB:∀(out:Array Keyed) (na nb:Nat) (x:Keyed),1<=nb->Mh rk (a.toList.take na) (b.toList.take nb) out.toList.reverse (a.toList++b.toList)->b[nb-1]?=some x->(∀i,i<na->R rk a i<rk x)->Mh rk (a.toList.take na) (b.toList.take (nb-1)) (out.push x).toList.reverse (a.toList++b.toList):=fun out na nb x h1 m e hx=>by
  rw[tk_snoc h1 e]at m
  rw[Array.toList_push,List.reverse_append]
  refine Mh.takeB (u:=[x]) m fun y hy z hz=>?_
  rw[List.mem_singleton.mp hz]
  obtain⟨i,h1,h2,h3⟩:=mem_t hy
  have:=hx i h1
  rw[R_at h3]at this
  exact this
 have extA:∀(out:Array Keyed) (na nb k:Nat),k<=na->na<=a.size->Mh rk (a.toList.take na) (b.toList.take nb) out.toList.reverse (a.toList++b.toList)->(∀i j,k<=i->i<na->j<nb/\j<b.size->R rk b j<R rk a i)->Mh rk (a.toList.take k) (b.toList.take nb) (out++(a.extract k na).reverse).toList.reverse (a.toList++b.toList):=fun out na nb k h1 h2 m hx=>by
  rw[tk_split a h1]at m
  rw[Array.toList_append,Array.toList_reverse,List.reverse_append,List.reverse_reverse]
  refine Mh.takeA m fun y hy z hz=>?_
  obtain⟨j,g1,g2,g3⟩:=mem_t hy
  obtain⟨i,f1,f2,f3⟩:=mem_x hz
  have:=hx i j f1 f2 ⟨g1,g2⟩
  rw[R_at g3,R_at f3]at this
  exact this
 have extB:∀(out:Array Keyed) (na nb k:Nat),k<=nb->nb<=b.size->Mh rk (a.toList.take na) (b.toList.take nb) out.toList.reverse (a.toList++b.toList)->(∀i j,k<=i->i<nb->j<na/\j<a.size->R rk a j<R rk b i)->Mh rk (a.toList.take na) (b.toList.take k) (out++(b.extract k nb).reverse).toList.reverse (a.toList++b.toList):=fun out na nb k h1 h2 m hx=>by
  rw[tk_split b h1]at m
  rw[Array.toList_append,Array.toList_reverse,List.reverse_append,List.reverse_reverse]
  refine Mh.takeB m fun y hy z hz=>?_
  obtain⟨j,g1,g2,g3⟩:=mem_t hy
  obtain⟨i,f1,f2,f3⟩:=mem_x hz
  have:=hx i j f1 f2 ⟨g1,g2⟩
  rw[R_at g3,R_at f3]at this
  exact this
 obtain⟨x0,ex0,mx0⟩:=atA (a.size-1) (by omega)
 have m0:Mh rk (a.toList.take a.size) (b.toList.take b.size) (#[]:Array Keyed).toList.reverse (a.toList++b.toList):=by
  rw[List.take_of_length_le (by rw[Array.length_toList];exact Nat.le_refl _),List.take_of_length_le (by rw[Array.length_toList];exact Nat.le_refl _)]
  exact⟨by rw[show(#[]:Array Keyed).toList.reverse=[] from rfl,List.append_nil],List.Pairwise.nil,sa,sb,fun x _ y hy=>by cases hy⟩
 have m1:Mh rk (a.toList.take (a.size-1)) (b.toList.take b.size) (#[x0]:Array Keyed).toList.reverse (a.toList++b.toList):=pushA #[] a.size b.size x0 ha m0 ex0 fun i hi=>by
  have:=sb.le (i:=i) (j:=b.size-1) (by omega) (by omega)
  rw[R_at ex0]at hla
  omega
 refine wpS_bind (wpS_lift (wpAny_rule ⟨rfl,?_⟩))
 refine wpS_bind (elem_w ex0 ?_)
 dsimp only
 by_cases e1:(a.size-1==0)=true
 ·rw[if_pos e1]
  exact wpS_pure (h _ _ (Sm.refl hkd) (doneA _ _ _ m1 (eq_of_beq e1)))
 rw[if_neg e1]
 have ne1:=nb' e1
 by_cases e2:(b.size==1)=true
 ·rw[if_pos e2]
  exact wpS_pure (h _ _ (Sm.refl hkd) (firstB _ _ _ m1 (eq_of_beq e2)))
 rw[if_neg e2]
 have ne2:=nb' e2
 refine wpS_bind (wpS_get ?_)
 refine wpS_bind (wpS_mono (wpS_forRange (I := fun i c st' => ∃ na nb out mg, c = (none, na, nb, out, mg) /\ Hi rk a b out na nb /\ i + (na + nb) <= a.size + b.size /\ Sm κ st st')
  (Q:=fun c st'=>∃r rest,c=(some r,rest)/\Okr rk (a.toList++b.toList) r/\Sm κ st st') ?stepO ?finO ⟨_,_,_,_,rfl,⟨m1,by omega,by omega,by omega,by omega⟩,by omega,Sm.refl hkd⟩) ?postO)
 case finO =>
  rintro c st' ⟨na,nb,out,mg,rfl,hL,hi,hs⟩
  have:=hL.n1
  have:=hL.n2
  rw[Nat.max_eq_right (Nat.zero_le _)]at hi
  omega
 case postO =>
  rintro c st' ⟨r,rest,rfl,ok,hs⟩
  exact wpS_pure (h r st' hs ok)
 case stepO =>
  rintro i c st' _ hi ⟨na,nb,out,mg,rfl,hL,hii,hs⟩
  dsimp only
  refine wpS_bind (wpS_mono (wpS_forRange (I := fun j c st2 => ∃ na nb out ac bc, c = (none, na, nb, out, ac, bc) /\ Hi rk a b out na nb /\ i + j + (na + nb) <= a.size + b.size /\ Sm κ st st2)
   (Q:=fun c st2=>(∃r rest,c=(some r,rest)/\Okr rk (a.toList++b.toList) r/\Sm κ st st2)\/∃na nb out ac bc,c=(none,na,nb,out,ac,bc)/\Hi rk a b out na nb/\i+1+(na+nb)<=a.size+b.size/\Sm κ st st2) ?stepI ?finI ⟨_,_,_,_,_,rfl,hL,hii,hs⟩) ?postI)
  case finI =>
   rintro c st2 ⟨na,nb,out,ac,bc,rfl,hL,hj,hs⟩
   rw[Nat.max_eq_right (Nat.zero_le _)]at hj
   exact .inr ⟨_,_,_,_,_,rfl,hL,by omega,hs⟩
  case stepI =>
   rintro j c st2 _ hj ⟨na,nb,out,ac,bc,rfl,hL,hjj,hs⟩
   have hna:=hL.n1
   have hnb:=hL.n2
   have hna':=hL.n3
   have hnb':=hL.n4
   obtain⟨x,ex,mx⟩:=atB (nb-1) (by omega)
   obtain⟨y,ey,my⟩:=atA (na-1) (by omega)
   have rx:R rk b (nb-1)=rk x:=R_at ex
   have ry:R rk a (na-1)=rk y:=R_at ey
   dsimp only
   refine wpS_bind (elem_w ex ?_)
   refine wpS_bind (elem_w ey ?_)
   refine wpS_bind (lt_w h0 hs.kind mx my ?_)
   by_cases hc:rk x<rk y
   ·rw[decide_eq_true hc]
    dsimp only
    rw[if_pos rfl]
    refine wpS_bind (elem_w ey ?_)
    have m2:=pushA out na nb y hna hL.mg ey fun t h1=>by
     have:=sb.le (i:=t) (j:=nb-1) (by omega) (by omega)
     omega
    by_cases e:(na-1==0)=true
    ·rw[if_pos e]
     exact wpS_pure (.inl ⟨_,_,rfl,doneA _ _ _ m2 (eq_of_beq e),hs⟩)
    ·rw[if_neg e]
     have ne:=nb' e
     by_cases g:ac+1≥mg
     ·rw[if_pos g]
      exact wpS_pure (.inr ⟨_,_,_,_,_,rfl,⟨m2,by omega,by omega,by omega,by omega⟩,by omega,hs⟩)
     ·rw[if_neg g]
      exact wpS_pure ⟨_,_,_,_,_,rfl,⟨m2,by omega,by omega,by omega,by omega⟩,by omega,hs⟩
   ·rw[decide_eq_false hc]
    dsimp only
    rw[if_neg Bool.false_ne_true]
    refine wpS_bind (elem_w ex ?_)
    have nn:=nd_ne hn (i:=na-1) (j:=nb-1) (by omega) (by omega)
    have m2:=pushB out na nb x (by omega) hL.mg ex fun t h1=>by
     have:=sa.le (i:=t) (j:=na-1) (by omega) (by omega)
     omega
    by_cases e:(nb-1==1)=true
    ·rw[if_pos e]
     exact wpS_pure (.inl ⟨_,_,rfl,firstB _ _ _ m2 (eq_of_beq e),hs⟩)
    ·rw[if_neg e]
     have ne:=nb' e
     by_cases g:bc+1≥mg
     ·rw[if_pos g]
      exact wpS_pure (.inr ⟨_,_,_,_,_,rfl,⟨m2,by omega,by omega,by omega,by omega⟩,by omega,hs⟩)
     ·rw[if_neg g]
      exact wpS_pure ⟨_,_,_,_,_,rfl,⟨m2,by omega,by omega,by omega,by omega⟩,by omega,hs⟩
  case postI =>
   rintro c st2 (⟨r,rest,rfl,ok,hs⟩|⟨na,nb,out,ac,bc,rfl,hL,hj,hs⟩)
   ·exact wpS_pure ⟨r,_,rfl,ok,hs⟩
   dsimp only
   refine wpS_bind (wpS_lift (wpAny_rule ⟨rfl,?_⟩))
   refine wpS_bind (wpS_mono (wpS_forRange (I := fun j c st3 => ∃ na nb out mg ac bc, c = (none, na, nb, out, mg, ac, bc) /\ Hi rk a b out na nb /\ i + 1 + (na + nb) <= a.size + b.size /\ Sm κ st st3)
    (Q:=fun c st3=>(∃r rest,c=(some r,rest)/\Okr rk (a.toList++b.toList) r/\Sm κ st st3)\/∃na nb out mg ac bc,c=(none,na,nb,out,mg,ac,bc)/\Hi rk a b out na nb/\i+1+(na+nb)<=a.size+b.size/\Sm κ st st3) ?stepG ?finG ⟨_,_,_,_,_,_,rfl,hL,hj,hs⟩) ?postG)
   case finG =>
    rintro c st3 ⟨na,nb,out,mg,ac,bc,rfl,hL,hj,hs⟩
    exact .inr ⟨_,_,_,_,_,_,rfl,hL,hj,hs⟩
   case postG =>
    rintro c st3 (⟨r,rest,rfl,ok,hs⟩|⟨na,nb,out,mg,ac,bc,rfl,hL,hj,hs⟩)
    ·exact wpS_pure ⟨r,_,rfl,ok,hs⟩
    dsimp only
    refine wpS_bind (setMin_w (wpS_pure ⟨_,_,_,_,rfl,hL,by omega,hs.gallop _⟩))
   case stepG =>
    rintro j c st3 _ hjt ⟨na,nb,out,mg,ac,bc,rfl,hL,hj,hs⟩
    have hna:=hL.n1
    have hnb:=hL.n2
    have hna':=hL.n3
    have hnb':=hL.n4
    obtain⟨x,ex,mx⟩:=atB (nb-1) (by omega)
    have rx:R rk b (nb-1)=rk x:=R_at ex
    dsimp only
    by_cases hmg:mg>1
    all_goals first|rw[if_pos hmg]|rw[if_neg hmg]
    all_goals
     refine wpS_bind (setMin_w ?_)
     have hs1:=fun g=>hs.gallop g
     refine wpS_bind (elem_w ex ?_)
     refine wpS_bind (gallop_w (left:=false) h0 (hs1 _).kind mx (fun i hi=>atA (0+i) (by omega)) (by omega) (fun i j hij hj hp=>?monoA) fun k k1 k2 k3=>?_)
     case monoA =>
      unfold Pp at hp ⊢
      rw[if_neg Bool.false_ne_true]at hp ⊢
      exact Nat.le_trans (sa.le (by omega) (by omega)) hp
     have k2:∀i,i<k->R rk a i<rk x:=fun i hi=>by
      have:=k2 i hi
      unfold Pp at this
      rw[if_neg Bool.false_ne_true,Nat.zero_add]at this
      have ne:=nd_ne hn (i:=i) (j:=nb-1) (by omega) (by omega)
      rw[rx]at ne
      omega
     have k3:∀i,k<=i->i<na->rk x<R rk a i:=fun i h1 h2=>by
      have:=k3 i h1 h2
      unfold Pp at this
      rw[if_neg Bool.false_ne_true,Nat.zero_add]at this
      omega
     dsimp only
     by_cases hk:na-k>0
     ·rw[if_pos hk]
      have m1 := extA out na nb k (by omega) (by omega) hL.mg (fun i j h1 h2 h3 => by
       have:=k3 i h1 h2
       have:=sb.le (i:=j) (j:=nb-1) (by omega) (by omega)
       omega)
      by_cases e1:(k==0)=true
      ·rw[if_pos e1]
       exact wpS_pure (.inl ⟨_,_,rfl,doneA _ _ _ m1 (eq_of_beq e1),hs1 _⟩)
      ·rw[if_neg e1]
       have ne1:=nb' e1
       have F2:∀i,i<k->R rk a i<rk x:=fun i h1=>k2 i h1
       refine wpS_bind (elem_w ex ?_)
       have m2:=pushB ((out++(a.extract k na).reverse)) (k) nb x (by omega) m1 ex F2
       by_cases e3:(nb-1==1)=true
       ·rw[if_pos e3]
        exact wpS_pure (.inl ⟨_,_,rfl,firstB _ _ _ m2 (eq_of_beq e3),hs1 _⟩)
       ·rw[if_neg e3]
        have ne3:=nb' e3
        obtain⟨y1,ey1,my1⟩:=atA (k-1) (by omega)
        have ry1:R rk a (k-1)=rk y1:=R_at ey1
        refine wpS_bind (elem_w ey1 ?_)
        refine wpS_bind (gallop_w (left:=true) h0 (hs1 _).kind my1 (fun i hi=>atB (0+i) (by omega)) (by omega) (fun i j hij hj hp=>?mono) fun k' k1' k2' k3'=>?_)
        case mono =>
         unfold Pp at hp ⊢
         rw[if_pos rfl]at hp ⊢
         exact Nat.lt_of_le_of_lt (sb.le (by omega) (by omega)) hp
        have k2':∀i,i<k'->R rk b i<rk y1:=fun i hi=>by have:=k2' i hi;unfold Pp at this;rw[if_pos rfl,Nat.zero_add]at this;exact this
        have k3':∀i,k'<=i->i<nb-1->rk y1<R rk b i:=fun i h1 h2=>by
         have:=k3' i h1 h2
         unfold Pp at this
         rw[if_pos rfl,Nat.zero_add]at this
         have ne:=nd_ne hn (i:=k-1) (j:=i) (by omega) (by omega)
         rw[ry1]at ne
         omega
        dsimp only
        by_cases hk':nb-1-k'>0
        ·rw[if_pos hk']
         have m3 := extB ((out ++ (a.extract k na).reverse).push x) (k) (nb - 1) k' (by omega) (by omega) m2 (fun i j h1 h2 h3 => by
          have:=k3' i h1 h2
          have:=sa.le (i:=j) (j:=k-1) (by omega) (by omega)
          omega)
         by_cases e4:(k'==1)=true
         ·rw[if_pos e4]
          exact wpS_pure (.inl ⟨_,_,rfl,firstB _ _ _ m3 (eq_of_beq e4),hs1 _⟩)
         ·rw[if_neg e4]
          have ne4:=nb' e4
          by_cases e7:(k'==0)=true
          ·rw[if_pos e7]
           exact wpS_pure (.inl ⟨_,_,rfl,doneB _ _ _ m3 (eq_of_beq e7),hs1 _⟩)
          ·rw[if_neg e7]
           have ne7:=nb' e7
           have F4:∀j,j<k'->R rk b j<rk y1:=fun j h1=>k2' j h1
           refine wpS_bind (elem_w ey1 ?_)
           have m4:=pushA ((out++(a.extract k na).reverse).push x++(b.extract k' (nb-1)).reverse) (k) (k') y1 (by omega) m3 ey1 F4
           by_cases e5:(k-1==0)=true
           ·rw[if_pos e5]
            exact wpS_pure (.inl ⟨_,_,rfl,doneA _ _ _ m4 (eq_of_beq e5),hs1 _⟩)
           ·rw[if_neg e5]
            have ne5:=nb' e5
            by_cases e6:(decide (na-k<7)&&decide (nb-1-k'<7))=true
            ·rw[if_pos e6]
             exact wpS_pure (.inr ⟨_,_,_,_,_,_,rfl,⟨m4,by omega,by omega,by omega,by omega⟩,by omega,hs1 _⟩)
            ·rw[if_neg e6]
             exact wpS_pure ⟨_,_,_,_,_,_,rfl,⟨m4,by omega,by omega,by omega,by omega⟩,by omega,hs1 _⟩
        ·rw[if_neg hk']
         have m3:=m2
         have F4:∀j,j<nb-1->R rk b j<rk y1:=fun j h1=>k2' j (by omega)
         refine wpS_bind (elem_w ey1 ?_)
         have m4:=pushA ((out++(a.extract k na).reverse).push x) (k) (nb-1) y1 (by omega) m3 ey1 F4
         by_cases e5:(k-1==0)=true
         ·rw[if_pos e5]
          exact wpS_pure (.inl ⟨_,_,rfl,doneA _ _ _ m4 (eq_of_beq e5),hs1 _⟩)
         ·rw[if_neg e5]
          have ne5:=nb' e5
          by_cases e6:(decide (na-k<7)&&decide (nb-1-k'<7))=true
          ·rw[if_pos e6]
           exact wpS_pure (.inr ⟨_,_,_,_,_,_,rfl,⟨m4,by omega,by omega,by omega,by omega⟩,by omega,hs1 _⟩)
          ·rw[if_neg e6]
           exact wpS_pure ⟨_,_,_,_,_,_,rfl,⟨m4,by omega,by omega,by omega,by omega⟩,by omega,hs1 _⟩
     ·rw[if_neg hk]
      have m1:=hL.mg
      have F2:∀i,i<na->R rk a i<rk x:=fun i h1=>k2 i (by omega)
      refine wpS_bind (elem_w ex ?_)
      have m2:=pushB (out) (na) nb x (by omega) m1 ex F2
      by_cases e3:(nb-1==1)=true
      ·rw[if_pos e3]
       exact wpS_pure (.inl ⟨_,_,rfl,firstB _ _ _ m2 (eq_of_beq e3),hs1 _⟩)
      ·rw[if_neg e3]
       have ne3:=nb' e3
       obtain⟨y1,ey1,my1⟩:=atA (na-1) (by omega)
       have ry1:R rk a (na-1)=rk y1:=R_at ey1
       refine wpS_bind (elem_w ey1 ?_)
       refine wpS_bind (gallop_w (left:=true) h0 (hs1 _).kind my1 (fun i hi=>atB (0+i) (by omega)) (by omega) (fun i j hij hj hp=>?mono) fun k' k1' k2' k3'=>?_)
       case mono =>
        unfold Pp at hp ⊢
        rw[if_pos rfl]at hp ⊢
        exact Nat.lt_of_le_of_lt (sb.le (by omega) (by omega)) hp
       have k2':∀i,i<k'->R rk b i<rk y1:=fun i hi=>by have:=k2' i hi;unfold Pp at this;rw[if_pos rfl,Nat.zero_add]at this;exact this
       have k3':∀i,k'<=i->i<nb-1->rk y1<R rk b i:=fun i h1 h2=>by
        have:=k3' i h1 h2
        unfold Pp at this
        rw[if_pos rfl,Nat.zero_add]at this
        have ne:=nd_ne hn (i:=na-1) (j:=i) (by omega) (by omega)
        rw[ry1]at ne
        omega
       dsimp only
       by_cases hk':nb-1-k'>0
       ·rw[if_pos hk']
        have m3 := extB (out.push x) (na) (nb - 1) k' (by omega) (by omega) m2 (fun i j h1 h2 h3 => by
         have:=k3' i h1 h2
         have:=sa.le (i:=j) (j:=na-1) (by omega) (by omega)
         omega)
        by_cases e4:(k'==1)=true
        ·rw[if_pos e4]
         exact wpS_pure (.inl ⟨_,_,rfl,firstB _ _ _ m3 (eq_of_beq e4),hs1 _⟩)
        ·rw[if_neg e4]
         have ne4:=nb' e4
         by_cases e7:(k'==0)=true
         ·rw[if_pos e7]
          exact wpS_pure (.inl ⟨_,_,rfl,doneB _ _ _ m3 (eq_of_beq e7),hs1 _⟩)
         ·rw[if_neg e7]
          have ne7:=nb' e7
          have F4:∀j,j<k'->R rk b j<rk y1:=fun j h1=>k2' j h1
          refine wpS_bind (elem_w ey1 ?_)
          have m4:=pushA (out.push x++(b.extract k' (nb-1)).reverse) (na) (k') y1 (by omega) m3 ey1 F4
          by_cases e5:(na-1==0)=true
          ·rw[if_pos e5]
           exact wpS_pure (.inl ⟨_,_,rfl,doneA _ _ _ m4 (eq_of_beq e5),hs1 _⟩)
          ·rw[if_neg e5]
           have ne5:=nb' e5
           by_cases e6:(decide (na-k<7)&&decide (nb-1-k'<7))=true
           ·rw[if_pos e6]
            exact wpS_pure (.inr ⟨_,_,_,_,_,_,rfl,⟨m4,by omega,by omega,by omega,by omega⟩,by omega,hs1 _⟩)
           ·rw[if_neg e6]
            exact wpS_pure ⟨_,_,_,_,_,_,rfl,⟨m4,by omega,by omega,by omega,by omega⟩,by omega,hs1 _⟩
       ·rw[if_neg hk']
        have m3:=m2
        have F4:∀j,j<nb-1->R rk b j<rk y1:=fun j h1=>k2' j (by omega)
        refine wpS_bind (elem_w ey1 ?_)
        have m4:=pushA (out.push x) (na) (nb-1) y1 (by omega) m3 ey1 F4
        by_cases e5:(na-1==0)=true
        ·rw[if_pos e5]
         exact wpS_pure (.inl ⟨_,_,rfl,doneA _ _ _ m4 (eq_of_beq e5),hs1 _⟩)
        ·rw[if_neg e5]
         have ne5:=nb' e5
         by_cases e6:(decide (na-k<7)&&decide (nb-1-k'<7))=true
         ·rw[if_pos e6]
          exact wpS_pure (.inr ⟨_,_,_,_,_,_,rfl,⟨m4,by omega,by omega,by omega,by omega⟩,by omega,hs1 _⟩)
         ·rw[if_neg e6]
          exact wpS_pure ⟨_,_,_,_,_,_,rfl,⟨m4,by omega,by omega,by omega,by omega⟩,by omega,hs1 _⟩
end
end TS
end
section
namespace TS
open PySem PyProof.Rows
section
variable {rk:Keyed->Nat}
def wb(sa:Nat)(l:List Keyed)(k:Nat)(a:Array Keyed):Array Keyed:=(l.zipIdx k).foldl (fun a x=>match x with|(p,j)=>a.setIfInBounds (sa+j) p) a
theorem wb_get{sa:Nat}:∀{l:List Keyed} {k:Nat} {a:Array Keyed},sa+k+l.length<=a.size->∀t,(wb sa l k a)[t]?=if sa+k<=t/\t<sa+k+l.length then l[t-sa-k]? else a[t]?
 |[],k,a,_,t=>by
  rw[if_neg (by rw[List.length_nil];omega)];rfl
 |x::l,k,a,hz,t=>by
  rw[List.length_cons]at hz ⊢
  show(wb sa l (k+1) (a.setIfInBounds (sa+k) x))[t]?=_
  rw[wb_get (by rw[Array.size_setIfInBounds];omega)]
  by_cases e:t=sa+k
  ·subst e
   rw[if_neg (by omega),if_pos (by omega),Array.getElem?_setIfInBounds,if_pos rfl,if_pos (by omega)]
   rw[show sa+k-sa-k=0 by omega];rfl
  ·by_cases h:sa+(k+1)<=t/\t<sa+(k+1)+l.length
   ·rw[if_pos h,if_pos (by omega)]
    obtain⟨m,hm⟩:∃m,t-sa-k=m+1:=⟨t-sa-k-1,by omega⟩
    rw[hm,show t-sa-(k+1)=m by omega];rfl
   ·rw[if_neg h,if_neg (by omega),Array.getElem?_setIfInBounds,if_neg (by omega)]
theorem wb_list{sa:Nat}{l:List Keyed}{a:Array Keyed}(hz:sa+l.length<=a.size):(wb sa l 0 a).toList=a.toList.take sa++(l++a.toList.drop (sa+l.length)):=by
 refine List.ext_getElem? fun t=>?_
 have:=wb_get (sa:=sa) (l:=l) (k:=0) (a:=a) (by omega) t
 rw[Array.getElem?_toList,this]
 rw[List.getElem?_append]
 have h1:(a.toList.take sa).length=sa:=by rw[List.length_take,Array.length_toList];omega
 rw[h1]
 by_cases e:t<sa
 ·rw[if_pos e,if_neg (by omega),List.getElem?_take,if_pos e,Array.getElem?_toList]
 ·rw[if_neg e,List.getElem?_append]
  by_cases e2:t-sa<l.length
  ·rw[if_pos e2,if_pos (by omega)];rfl
  ·rw[if_neg e2,if_neg (by omega),List.getElem?_drop,Array.getElem?_toList]
   congr 1;omega
theorem wb_perm{sa:Nat}{l:List Keyed}{a:Array Keyed}(hz:sa+l.length<=a.size)(hp:l.Perm ((a.toList.drop sa).take l.length)):(wb sa l 0 a).Perm a:=by
 rw[Array.perm_iff_toList_perm,wb_list hz]
 have e:a.toList=a.toList.take sa++((a.toList.drop sa).take l.length++a.toList.drop (sa+l.length)):=by
  rw[<- dr_split,List.take_append_drop]
 refine List.Perm.trans (List.Perm.append_left _ (List.Perm.append_right _ hp)) ?_
 rw[<- e]
theorem R_ext{a:Array Keyed}{i j p:Nat}(h:i+p<j)(hj:j<=a.size):R rk (a.extract i j) p=R rk a (i+p):=by
 refine R_congr ?_
 rw[Array.getElem?_extract,if_pos (by omega)]
theorem So.ext{a:Array Keyed}{i j:Nat}(h:So rk a i j)(hj:j<=a.size):SL rk (a.extract i j).toList:=by
 refine List.pairwise_iff_getElem.mpr fun p q hp hq hpq=>?_
 rw[Array.length_toList,Array.size_extract]at hp hq
 have e:=h (i+p) (i+q) (by omega) (by omega) (by omega)
 rw[R_at (getElem?_pos a (i+p) (by omega)),R_at (getElem?_pos a (i+q) (by omega))]at e
 simpa using e
end
section
variable {prog:Program} {w:World} {A:Around} {E:Value->Shared->Prop} {s:Shared} {κ:SortKind} {rk:Keyed->Nat} {a₀:Array Keyed}
theorem wpS_set{σ:Type}{M:Model}{st st':σ}{Q:PUnit->σ->Prop}(h:Q ⟨⟩ st'):wpS M A E s (set st':StateT σ Sem PUnit) Q st:=by
 unfold wpS;rw[StateT.run_set];exact wpAny_pure ⟨rfl,h⟩
theorem at_w{st:SortSt}{i sa na pw sb nb pw2:Nat}{Q:Bool->SortSt->Prop}(h0:Ans prog w A s κ rk a₀)(hn:(a₀.toList.map rk).Nodup)(hB:Bs κ a₀ st)(e1:(pendingOf st)[i]?=some (sa,na,pw))(e2:(pendingOf st)[i+1]?=some (sb,nb,pw2))(hsb:sb=sa+na)(h1:1<=na)(h2:1<=nb)(hz:sb+nb<=a₀.size)
  (s1:So rk (arrOf st) sa sb) (s2:So rk (arrOf st) sb (sb+nb))
  (h:∀b g,b.Perm (arrOf st)->Out (arrOf st) b sa (sb+nb)->So rk b sa (sb+nb)->Q true (SortSt.mk' κ b (((pendingOf st).setIfInBounds i (sa,na+nb,pw)).eraseIdxIfInBounds (i+1)) g none)):wpS (model prog w) A E s (mergeAt' i) Q st:=by
 have hsz:=hB.size
 obtain⟨x,ex,mx⟩:=hB.at (i:=sb) (by omega)
 have rx:R rk (arrOf st) sb=rk x:=R_at ex
 refine wpS_bind (wpS_get ?_)
 show wpS _ _ _ _ (match ((pendingOf st)[i]?,(pendingOf st)[i+1]?) with|(some (sa,na,power),some (sb,nb,_))=>_|_=>_) _ _
 rw[e1,e2]
 dsimp only
 refine wpS_bind (wpS_set ?_)
 refine wpS_bind (elem_w ex ?_)
 refine wpS_bind (gallop_w (left:=false) h0 hB.kind mx (fun i hi=>hB.at (i:=sa+i) (by omega)) (by omega) (fun i j hij hj hp=>?mono) fun k k1 k2 k3=>?_)
 case mono =>
  unfold Pp at hp ⊢
  rw[if_neg Bool.false_ne_true]at hp ⊢
  rcases Nat.lt_or_eq_of_le hij with q|q
  ·exact Nat.le_trans (Nat.le_of_lt (s1 (sa+i) (sa+j) (by omega) (by omega) (by omega))) hp
  ·rw[q];exact hp
 have k2:∀p,sa<=p->p<sa+k->R rk (arrOf st) p<R rk (arrOf st) sb:=fun p g1 g2=>by
  have:=k2 (p-sa) (by omega)
  unfold Pp at this
  rw[if_neg Bool.false_ne_true,show sa+(p-sa)=p by omega]at this
  have this:R rk (arrOf st) p<=rk x:=this
  have ne:=hB.inj hn (i:=p) (j:=sb) (by omega) (by omega) (by omega)
  omega
 have k3:∀p,sa+k<=p->p<sb->R rk (arrOf st) sb<R rk (arrOf st) p:=fun p g1 g2=>by
  have:=k3 (p-sa) (by omega) (by omega)
  unfold Pp at this
  rw[if_neg Bool.false_ne_true,show sa+(p-sa)=p by omega]at this
  have this:¬R rk (arrOf st) p<=rk x:=this
  omega
 dsimp only
 by_cases e3:(na-k==0)=true
 ·rw[if_pos e3]
  have e3':=eq_of_beq e3
  refine wpS_pure ?_
  have hh := h (arrOf st) (gallopOf st) (Array.Perm.refl _) (fun _ _ => rfl) (fun p q g1 g2 g3 => by
   by_cases c1:q<sb
   ·exact s1 p q g1 g2 c1
   ·by_cases c2:p<sb
    ·have l1:=k2 p g1 (by omega)
     by_cases c3:q=sb
     ·rw[c3];exact l1
     ·exact Nat.lt_trans l1 (s2 sb q (Nat.le_refl _) (by omega) g3)
    ·exact s2 p q (by omega) g2 g3)
  rw[<- hB.kind,<- hB.failed]at hh
  exact hh
 rw[if_neg e3]
 have ne3:=nb' e3
 obtain⟨y,ey,my⟩:=hB.at (i:=sa+k+(na-k)-1) (by omega)
 have eyb:sa+k+(na-k)-1=sb-1:=by omega
 have ry:R rk (arrOf st) (sb-1)=rk y:=by rw[<- eyb];exact R_at ey
 refine wpS_bind (elem_w ey ?_)
 refine wpS_bind (gallop_w (left:=true) h0 hB.kind my (fun i hi=>hB.at (i:=sb+i) (by omega)) (by omega) (fun i j hij hj hp=>?mono2) fun m m1 m2 m3=>?_)
 case mono2 =>
  unfold Pp at hp ⊢
  rw[if_pos rfl]at hp ⊢
  rcases Nat.lt_or_eq_of_le hij with q|q
  ·exact Nat.lt_trans (s2 (sb+i) (sb+j) (by omega) (by omega) (by omega)) hp
  ·rw[q];exact hp
 have m2:∀p,sb<=p->p<sb+m->R rk (arrOf st) p<R rk (arrOf st) (sb-1):=fun p g1 g2=>by
  have:=m2 (p-sb) (by omega)
  unfold Pp at this
  rw[if_pos rfl,show sb+(p-sb)=p by omega]at this
  have this:R rk (arrOf st) p<rk y:=this
  omega
 have m3:∀p,sb+m<=p->p<sb+nb->R rk (arrOf st) (sb-1)<R rk (arrOf st) p:=fun p g1 g2=>by
  have:=m3 (p-sb) (by omega) (by omega)
  unfold Pp at this
  rw[if_pos rfl,show sb+(p-sb)=p by omega]at this
  have this:¬R rk (arrOf st) p<rk y:=this
  have ne:=hB.inj hn (i:=p) (j:=sb-1) (by omega) (by omega) (by omega)
  omega
 dsimp only
 by_cases e4:(m==0)=true
 ·rw[if_pos e4]
  have e4':=eq_of_beq e4
  have l0:=m3 sb (by omega) (by omega)
  have l1:=k3 (sb-1) (by omega) (by omega)
  omega
 rw[if_neg e4]
 have ne4:=nb' e4
 let X:=(arrOf st).extract (sa+k) sb
 let Y:=(arrOf st).extract sb (sb+m)
 have hX:X.size=sb-(sa+k):=by show((arrOf st).extract (sa+k) sb).size=_;rw[Array.size_extract];omega
 have hY:Y.size=m:=by show((arrOf st).extract sb (sb+m)).size=_;rw[Array.size_extract];omega
 have lX:X.toList++Y.toList=((arrOf st).toList.drop (sa+k)).take (sb+m-(sa+k)):=by
  have e:=ext_list (arrOf st) (sa+k) (sb+m-(sa+k))
  rw[<- e,show sa+k+(sb+m-(sa+k))=sb+m by omega,<- Array.toList_append]
  congr 1
  show(arrOf st).extract (sa+k) sb++(arrOf st).extract sb (sb+m)=_
  rw[Array.extract_append_extract,Nat.min_eq_left (by omega),Nat.max_eq_right (by omega)]
 have mA:∀z∈(arrOf st).toList,z∈a₀.toList:=fun z hz=>(Array.perm_iff_toList_perm.mp hB.perm).mem_iff.mp hz
 have mX:∀z∈X.toList,z∈a₀.toList:=fun z hz=>by
  obtain⟨t,g1,g2,g3⟩:=mem_x hz
  obtain⟨z',g4,g5⟩:=hB.at (i:=t) (by omega)
  rw[g3]at g4
  rw[Option.some.inj g4];exact g5
 have mY:∀z∈Y.toList,z∈a₀.toList:=fun z hz=>by
  obtain⟨t,g1,g2,g3⟩:=mem_x hz
  obtain⟨z',g4,g5⟩:=hB.at (i:=t) (by omega)
  rw[g3]at g4
  rw[Option.some.inj g4];exact g5
 have nd:((X.toList++Y.toList).map rk).Nodup:=by
  have hn':((arrOf st).toList.map rk).Nodup:=((Array.perm_iff_toList_perm.mp hB.perm).map rk).nodup_iff.mpr hn
  rw[lX]
  exact List.Nodup.sublist (List.Sublist.map rk ((List.take_sublist _ _).trans (List.drop_sublist _ _))) hn'
 have sX:SL rk X.toList:=So.ext (fun p q g1 g2 g3=>s1 p q (by omega) g2 g3) (by omega)
 have sY:SL rk Y.toList:=So.ext (fun p q g1 g2 g3=>s2 p q g1 g2 (by omega)) (by omega)
 have c0:R rk Y 0<R rk X 0:=by
  rw[R_ext (by omega) (by omega),R_ext (by omega) (by omega),Nat.add_zero,Nat.add_zero]
  exact k3 (sa+k) (Nat.le_refl _) (by omega)
 have c1:R rk Y (Y.size-1)<R rk X (X.size-1):=by
  rw[R_ext (by omega) (by omega),R_ext (by omega) (by omega),hX,hY,show sa+k+(sb-(sa+k)-1)=sb-1 by omega]
  exact m2 _ (by omega) (by omega)
 have fin:∀(r:Array Keyed) (st':SortSt) (stp:SortSt),Sm κ stp st'->Okr rk (X.toList++Y.toList) r->arrOf stp=arrOf st->pendingOf stp=((pendingOf st).setIfInBounds i (sa,na+nb,pw)).eraseIdxIfInBounds (i+1) ->
   Q true (SortSt.mk' κ (wb (sa+k) r.toList 0 (arrOf st')) (pendingOf st') (gallopOf st') none):=by
  intro r st' stp hs ok q2 q3
  rw[hs.arr,q2,hs.pend,q3]
  have hr:r.toList.length=sb+m-(sa+k):=by rw[ok.1.length_eq,List.length_append,Array.length_toList,Array.length_toList,hX,hY];omega
  have rm:∀z∈r.toList,∃t,sa+k<=t/\t<sb+m/\(arrOf st)[t]?=some z:=fun z hz=>by
   have:=ok.1.mem_iff.mp hz
   rw[lX]at this
   obtain⟨t,g1,g2,g3,g4⟩:=mem_tk this
   exact⟨t,g1,by omega,g4⟩
  have wg:=wb_get (sa:=sa+k) (l:=r.toList) (k:=0) (a:=arrOf st) (by omega)
  have rM:∀p,sa+k<=p->p<sb+m->∃t,sa+k<=t/\t<sb+m/\R rk (wb (sa+k) r.toList 0 (arrOf st)) p=R rk (arrOf st) t:=fun p g1 g2=>by
   have e:=wg p
   rw[if_pos (by omega),List.getElem?_eq_getElem (by omega)]at e
   obtain⟨t,f1,f2,f3⟩:=rm _ (List.getElem_mem (by omega:p-(sa+k)-0<r.toList.length))
   exact⟨t,f1,f2,by rw[R_at e,R_at f3]⟩
  have rO:∀p,(p<sa+k\/sb+m<=p)->R rk (wb (sa+k) r.toList 0 (arrOf st)) p=R rk (arrOf st) p:=fun p g=>by
   refine R_congr ?_
   rw[wg p,if_neg (by omega)]
  refine h _ _ (wb_perm (by omega) (by rw[hr,<- lX];exact ok.1)) (fun t ht=>by rw[wg t,if_neg (by omega)]) fun p q g1 g2 g3=>?_
  have up:∀t,sb<=t->t<sb+nb->R rk (arrOf st) sb<=R rk (arrOf st) t:=fun t f1 f2=>by
   rcases Nat.lt_or_eq_of_le f1 with z|z
   ·exact Nat.le_of_lt (s2 sb t (Nat.le_refl _) z f2)
   ·rw[z];exact Nat.le_refl _
  have dn:∀t,sa<=t->t<sb->R rk (arrOf st) t<=R rk (arrOf st) (sb-1):=fun t f1 f2=>by
   rcases Nat.lt_or_eq_of_le (show t<=sb-1 by omega)with z|z
   ·exact Nat.le_of_lt (s1 t (sb-1) f1 z (by omega))
   ·rw[z];exact Nat.le_refl _
  by_cases pU:p<sa+k
  ·rw[rO p (.inl pU)]
   by_cases qU:q<sa+k
   ·rw[rO q (.inl qU)];exact s1 p q g1 g2 (by omega)
   ·by_cases qV:sb+m<=q
    ·rw[rO q (.inr qV)]
     exact Nat.lt_of_lt_of_le (k2 p g1 pU) (up q (by omega) g3)
    ·obtain⟨t,f1,f2,f3⟩:=rM q (by omega) (by omega)
     rw[f3]
     by_cases c:t<sb
     ·exact s1 p t g1 (by omega) c
     ·exact Nat.lt_of_lt_of_le (k2 p g1 pU) (up t (by omega) (by omega))
  ·by_cases pV:sb+m<=p
   ·rw[rO p (.inr pV),rO q (.inr (by omega))]
    exact s2 p q (by omega) g2 g3
   ·by_cases qV:sb+m<=q
    ·rw[rO q (.inr qV)]
     obtain⟨t,f1,f2,f3⟩:=rM p (by omega) (by omega)
     rw[f3]
     by_cases c:t<sb
     ·exact Nat.lt_of_le_of_lt (dn t (by omega) c) (m3 q qV g3)
     ·exact s2 t q (by omega) (by omega) g3
    ·have e:=wg p
     have e':=wg q
     rw[if_pos (by omega),List.getElem?_eq_getElem (by omega)]at e e'
     rw[R_at e,R_at e']
     exact List.pairwise_iff_getElem.mp ok.2 _ _ (by omega) (by omega) (by omega)
 by_cases e5:na-k<=m
 ·rw[if_pos e5]
  refine wpS_bind (lo_w (a:=X) (b:=Y) h0 hB.kind mX mY nd sX sY (by omega) (by omega) c0 c1 fun r st' hs ok=>?_)
  refine wpS_bind (wpS_modify ?_)
  refine wpS_bind (wpS_get (wpS_pure ?_))
  have fr:=fin r st' _ hs ok rfl rfl
  have f1:failedOf st'=none:=hs.failed.trans hB.failed
  rw[<- f1,<- hs.kind]at fr
  show Q (Option.isNone (failedOf st')) _
  rw[show Option.isNone (failedOf st')=true by rw[f1];rfl]
  exact fr
 ·rw[if_neg e5]
  refine wpS_bind (hi_w (a:=X) (b:=Y) h0 hB.kind mX mY nd sX sY (by omega) (by omega) c0 c1 fun r st' hs ok=>?_)
  refine wpS_bind (wpS_modify ?_)
  refine wpS_bind (wpS_get (wpS_pure ?_))
  have fr:=fin r st' _ hs ok rfl rfl
  have f1:failedOf st'=none:=hs.failed.trans hB.failed
  rw[<- f1,<- hs.kind]at fr
  show Q (Option.isNone (failedOf st')) _
  rw[show Option.isNone (failedOf st')=true by rw[f1];rfl]
  exact fr
end
end TS
end
section
namespace TS
open PySem PyProof.Rows
section
variable {rk:Keyed->Nat}
def Rn(rk:Keyed->Nat)(a:Array Keyed):List (Nat×Nat×Nat)->Nat->Nat->Prop
 |[],x,y=>x=y
 |e::r,x,y=>e.1=x/\1<=e.2.1/\So rk a x (x+e.2.1)/\Rn rk a r (x+e.2.1) y
theorem Rn.app{a:Array Keyed}:∀{l m:List (Nat×Nat×Nat)} {x y:Nat},Rn rk a (l++m) x y↔∃z,Rn rk a l x z/\Rn rk a m z y
 |[],m,x,y=>⟨fun h=>⟨x,rfl,h⟩,fun⟨z,h1,h2⟩=>by rw[show x=z from h1];exact h2⟩
 |e::l,m,x,y=>by
  show _/\_/\_/\Rn rk a (l++m) _ y↔_
  rw[Rn.app]
  exact⟨fun⟨h1,h2,h3,z,h4,h5⟩=>⟨z,⟨h1,h2,h3,h4⟩,h5⟩,fun⟨z,⟨h1,h2,h3,h4⟩,h5⟩=>⟨h1,h2,h3,z,h4,h5⟩⟩
theorem Rn.len{a:Array Keyed}:∀{l:List (Nat×Nat×Nat)} {x y:Nat},Rn rk a l x y->x+l.length<=y
 |[],x,y,h=>by rw[show x=y from h];exact Nat.le_refl _
 |e::l,x,y,⟨_,h2,_,h4⟩=>by
  have:=Rn.len h4
  rw[List.length_cons]
  omega
theorem So.congr{a b:Array Keyed}{x y:Nat}(h:So rk a x y)(hc:∀k,x<=k->k<y->R rk b k=R rk a k):So rk b x y:=fun p q h1 h2 h3=>by
 rw[hc p h1 (by omega),hc q (by omega) h3]
 exact h p q h1 h2 h3
theorem Rn.congr{a b:Array Keyed}:∀{l:List (Nat×Nat×Nat)} {x y:Nat},Rn rk a l x y->(∀k,x<=k->k<y->R rk b k=R rk a k)->Rn rk b l x y
 |[],x,y,h,_=>h
 |e::l,x,y,⟨h1,h2,h3,h4⟩,hc=>by
  have:=h4.len
  exact⟨h1,h2,h3.congr fun k k1 k2=>hc k k1 (by omega),h4.congr fun k k1 k2=>hc k (by omega) k2⟩
theorem Rn.modify{a:Array Keyed}{f:Nat×Nat×Nat->Nat×Nat×Nat}(hf:∀e,(f e).1=e.1/\(f e).2.1=e.2.1):∀{l:List (Nat×Nat×Nat)} {j x y:Nat},Rn rk a l x y->Rn rk a (l.modify j f) x y
 |[],j,x,y,h=>by rw[List.modify_nil];exact h
 |e::l,0,x,y,⟨h1,h2,h3,h4⟩=>by
  rw[List.modify_zero_cons]
  obtain⟨f1,f2⟩:=hf e
  exact⟨f1.trans h1,by rw[f2];exact h2,by rw[f2];exact h3,by rw[f2];exact h4⟩
 |e::l,j+1,x,y,⟨h1,h2,h3,h4⟩=>by
  rw[List.modify_succ_cons]
  exact⟨h1,h2,h3,Rn.modify hf h4⟩
end
section
variable {prog:Program} {w:World} {A:Around} {E:Value->Shared->Prop} {s:Shared} {κ:SortKind} {rk:Keyed->Nat} {a₀:Array Keyed}
theorem mrg_w{st:SortSt}{i y:Nat}{Q:Bool->SortSt->Prop}(h0:Ans prog w A s κ rk a₀)(hn:(a₀.toList.map rk).Nodup)(hB:Bs κ a₀ st)(hR:Rn rk (arrOf st) (pendingOf st).toList 0 y)(hy:y<=a₀.size)(hi:i+1<(pendingOf st).size)
  (h:∀st',Bs κ a₀ st'->Rn rk (arrOf st') (pendingOf st').toList 0 y->(pendingOf st').size+1=(pendingOf st).size->(∀k,y<=k->R rk (arrOf st') k=R rk (arrOf st) k)->Q true st'):wpS (model prog w) A E s (mergeAt' i) Q st:=by
 have hl:i+1<(pendingOf st).toList.length:=by rw[Array.length_toList];exact hi
 have spl:(pendingOf st).toList=(pendingOf st).toList.take i++(pendingOf st)[i]::(pendingOf st)[i+1]::(pendingOf st).toList.drop (i+2):=by
  have e1:(pendingOf st).toList.drop i=(pendingOf st)[i]::(pendingOf st).toList.drop (i+1):=by
   rw[List.drop_eq_getElem_cons (by omega)];congr 1
  have e2:(pendingOf st).toList.drop (i+1)=(pendingOf st)[i+1]::(pendingOf st).toList.drop (i+2):=by
   rw[List.drop_eq_getElem_cons hl];congr 1
  rw[<- e2,<- e1,List.take_append_drop]
 rw[spl]at hR
 obtain⟨z,hR1,h1,h2,h3,h4,h5,h6,hR2⟩:=Rn.app.mp hR
 generalize g1:(pendingOf st)[i]=u at h1 h2 h3 h4 h5 h6 hR2
 generalize g2:(pendingOf st)[i+1]=v at h4 h5 h6 hR2
 obtain⟨sa,na,pw⟩:=u
 obtain⟨sb,nb,pw2⟩:=v
 dsimp only at h1 h2 h3 h4 h5 h6 hR2
 subst h1
 subst h4
 have q1:(pendingOf st)[i]?=some (sa,na,pw):=by rw[getElem?_pos _ i (by omega),g1]
 have q2:(pendingOf st)[i+1]?=some (sa+na,nb,pw2):=by rw[getElem?_pos _ (i+1) hi,g2]
 have l2:=hR2.len
 refine at_w h0 hn hB q1 q2 rfl h2 h5 (by omega) h3 h6 fun b g hp ho hs=>?_
 have hc:∀k,(k<sa\/sa+na+nb<=k)->R rk b k=R rk (arrOf st) k:=fun k hk=>R_congr (ho k hk)
 have tl:(((pendingOf st).setIfInBounds i (sa,na+nb,pw)).eraseIdxIfInBounds (i+1)).toList=(pendingOf st).toList.take i++(sa,na+nb,pw)::(pendingOf st).toList.drop (i+2):=by
  rw[Array.toList_eraseIdxIfInBounds,Array.toList_setIfInBounds]
  conv=>lhs;rw[spl]
  have hlt:((pendingOf st).toList.take i).length=i:=by rw[List.length_take];omega
  rw[List.set_append_right _ _ (by omega),hlt,Nat.sub_self,List.set_cons_zero,List.eraseIdx_append_of_length_le (by omega),hlt,Nat.add_sub_cancel_left]
  rfl
 have q5:(((pendingOf st).setIfInBounds i (sa,na+nb,pw)).eraseIdxIfInBounds (i+1)).size+1=(pendingOf st).size:=by
  have:=congrArg List.length tl
  rw[Array.length_toList,List.length_append,List.length_cons,List.length_take,List.length_drop,Array.length_toList]at this
  omega
 refine h _ ⟨hp.trans hB.perm,rfl,rfl⟩ ?_ q5 fun k hk=>hc k (by omega)
 show Rn rk b (((pendingOf st).setIfInBounds i (sa,na+nb,pw)).eraseIdxIfInBounds (i+1)).toList 0 y
 rw[tl]
 refine Rn.app.mpr ⟨sa,hR1.congr fun k k1 k2=>hc k (.inl k2),rfl,by show 1<=na+nb;omega,?_,?_⟩
 ·show So rk b sa (sa+(na+nb))
  rw[<- Nat.add_assoc];exact hs
 ·show Rn rk b _ (sa+(na+nb)) y
  rw[<- Nat.add_assoc]
  exact hR2.congr fun k k1 k2=>hc k (.inr k1)
theorem iteB{c:Prop}[Decidable c]{n:Nat}(h:¬n<=1):(if c then n-2-1 else n-2)+1<n:=by split<;>omega
theorem runs_w{st:SortSt}{Q:Unit->SortSt->Prop}(h0:Ans prog w A s κ rk a₀)(hn:(a₀.toList.map rk).Nodup)(hB:Bs κ a₀ st)(hp:pendingOf st=#[])(h2:2<=a₀.size)
  (h:∀st',Bs κ a₀ st'->So rk (arrOf st') 0 a₀.size->Q () st'):wpS (model prog w) A E s sortRuns' Q st:=by
 rw[sortRuns'_eq]
 refine wpS_bind (wpS_get ?_)
 dsimp only
 simp only[hB.size]
 refine wpS_bind (wpS_mono (wpS_forRange (I := fun i c st' => ∃ lo, c = (none, lo) /\ i <= lo /\ lo <= a₀.size /\ Bs κ a₀ st' /\ Rn rk (arrOf st') (pendingOf st').toList 0 lo)
  (Q:=fun c st'=>c=(none,a₀.size)/\Bs κ a₀ st'/\Rn rk (arrOf st') (pendingOf st').toList 0 a₀.size) ?step ?fin ⟨0,rfl,Nat.le_refl _,Nat.zero_le _,hB,by rw[hp];rfl⟩) ?post)
 case fin =>
  rintro c st' ⟨lo,rfl,h1,h3,hB',hR⟩
  rw[Nat.max_eq_right (Nat.zero_le _)]at h1
  have:lo=a₀.size:=by omega
  subst this
  exact⟨rfl,hB',hR⟩
 case step =>
  rintro i c st' _ hi ⟨lo,rfl,h1,h3,hB',hR⟩
  dsimp only
  by_cases hlo:lo≥a₀.size
  ·rw[if_pos hlo]
   have:lo=a₀.size:=by omega
   subst this
   exact wpS_pure ⟨rfl,hB',hR⟩
  rw[if_neg hlo]
  refine wpS_bind (count_w h0 hn hB' (by omega) (by omega) fun n b n1 n2 hp1 ho1 hs1=>?_)
  have hB1:Bs κ a₀ (setArr st' b):=hB'.setArr hp1
  have hR1:Rn rk b (pendingOf st').toList 0 lo:=hR.congr fun k k1 k2=>R_congr (ho1 k (.inl k2))
  dsimp only
  by_cases hmr:n<minRun' a₀.size a₀.size 0
  ·rw[if_pos hmr]
   refine wpS_bind (wpS_lift (wpAny_rule ⟨rfl,?_⟩))
   have N1:1<=min (a₀.size-lo) (minRun' a₀.size a₀.size 0):=by omega
   have N2:lo+min (a₀.size-lo) (minRun' a₀.size a₀.size 0)<=a₀.size:=by omega
   refine wpS_bind (bin_w h0 hn hB1 n1 (by omega) N2 hs1 fun b2 hp2 ho2 hs2=>?_)
   rw[if_neg (by decide)]
   have hBc:Bs κ a₀ (setArr (setArr st' b) b2):=hB1.setArr hp2
   have hRc:Rn rk b2 (pendingOf st').toList 0 lo:=hR1.congr fun k k1 k2=>R_congr (ho2 k (.inl k2))
   have hsc:So rk b2 lo (lo+min (a₀.size-lo) (minRun' a₀.size a₀.size 0)):=hs2
   revert N1 N2 hBc hRc hsc
   generalize min (a₀.size-lo) (minRun' a₀.size a₀.size 0)=N
   intro N1 N2 hBc hRc hsc
   have hRc:Rn rk (arrOf (setArr (setArr st' b) b2)) (pendingOf (setArr (setArr st' b) b2)).toList 0 lo:=hRc
   have hsc:So rk (arrOf (setArr (setArr st' b) b2)) lo (lo+N):=hsc
   revert hBc hRc hsc
   generalize setArr (setArr st' b) b2=stc
   intro hBc hRc hsc
   refine wpS_bind (wpS_get ?_)
   cases hb:(pendingOf stc).back? with
   |none =>
    dsimp only
    refine wpS_bind (wpS_modify (wpS_pure ⟨lo+N,rfl,by omega,by omega,hBc.setPending _,?_⟩))
    show Rn rk (arrOf stc) ((pendingOf stc).push (lo,N,0)).toList 0 (lo+N)
    rw[Array.toList_push]
    exact Rn.app.mpr ⟨lo,hRc,rfl,N1,hsc,rfl⟩
   |some e =>
    obtain⟨s1,m1,p1⟩:=e
    dsimp only
    refine wpS_bind (wpS_mono (wpS_forRange (I := fun _ c st2 => c = (none, ()) /\ Bs κ a₀ st2 /\ Rn rk (arrOf st2) (pendingOf st2).toList 0 lo /\ So rk (arrOf st2) lo (lo + N))
     (Q:=fun c st2=>c=(none,())/\Bs κ a₀ st2/\Rn rk (arrOf st2) (pendingOf st2).toList 0 lo/\So rk (arrOf st2) lo (lo+N)) ?stepC (fun _ _ hh=>hh) ⟨rfl,hBc,hRc,hsc⟩) ?postC)
    case stepC =>
     rintro j c st2 _ _ ⟨rfl,hB2,hR2,hs2⟩
     refine wpS_bind (wpS_get ?_)
     by_cases e:(pendingOf st2).size>1
     ·rw[if_pos e,getElem?_pos _ ((pendingOf st2).size-2) (by omega)]
      generalize (pendingOf st2)[(pendingOf st2).size-2]'(by omega)=u
      obtain⟨u1,u2,older⟩:=u
      dsimp only
      by_cases e2:older<=power' a₀.size (2*s1+m1) (2*s1+m1+m1+N) a₀.size
      ·rw[if_pos e2]
       exact wpS_pure ⟨rfl,hB2,hR2,hs2⟩
      ·rw[if_neg e2]
       refine wpS_bind (mrg_w h0 hn hB2 hR2 h3 (by omega) fun st3 hB3 hR3 hl3 hk3=>?_)
       rw[if_neg (by decide)]
       exact wpS_pure ⟨rfl,hB3,hR3,hs2.congr fun k k1 k2=>hk3 k k1⟩
     ·rw[if_neg e]
      exact wpS_pure ⟨rfl,hB2,hR2,hs2⟩
    case postC =>
     rintro c st2 ⟨rfl,hB2,hR2,hs2⟩
     dsimp only
     refine wpS_bind (wpS_modify (wpS_bind (wpS_modify (wpS_pure ⟨lo+N,rfl,by omega,by omega,(hB2.setPending _).setPending _,?_⟩))))
     show Rn rk (arrOf st2) (((pendingOf st2).modify ((pendingOf st2).size-1) fun x=>(x.fst,x.2.fst,power' a₀.size (2*s1+m1) (2*s1+m1+m1+N) a₀.size)).push (lo,N,0)).toList 0 (lo+N)
     rw[Array.toList_push,Array.toList_modify]
     exact Rn.app.mpr ⟨lo,Rn.modify (f:=fun x=>(x.fst,x.snd.fst,power' a₀.size (2*s1+m1) (2*s1+m1+m1+N) a₀.size)) (fun _=>⟨rfl,rfl⟩) hR2,rfl,N1,hs2,rfl⟩
  ·rw[if_neg hmr]
   have N1:=n1
   have N2:lo+n<=a₀.size:=by omega
   have hBc:=hB1
   have hRc:Rn rk (arrOf (setArr st' b)) (pendingOf (setArr st' b)).toList 0 lo:=hR1
   have hsc:So rk (arrOf (setArr st' b)) lo (lo+n):=hs1
   revert hBc hRc hsc
   generalize setArr st' b=stc
   intro hBc hRc hsc
   refine wpS_bind (wpS_get ?_)
   cases hb:(pendingOf stc).back? with
   |none =>
    dsimp only
    refine wpS_bind (wpS_modify (wpS_pure ⟨lo+n,rfl,by omega,by omega,hBc.setPending _,?_⟩))
    show Rn rk (arrOf stc) ((pendingOf stc).push (lo,n,0)).toList 0 (lo+n)
    rw[Array.toList_push]
    exact Rn.app.mpr ⟨lo,hRc,rfl,N1,hsc,rfl⟩
   |some e =>
    obtain⟨s1,m1,p1⟩:=e
    dsimp only
    refine wpS_bind (wpS_mono (wpS_forRange (I := fun _ c st2 => c = (none, ()) /\ Bs κ a₀ st2 /\ Rn rk (arrOf st2) (pendingOf st2).toList 0 lo /\ So rk (arrOf st2) lo (lo + n))
     (Q:=fun c st2=>c=(none,())/\Bs κ a₀ st2/\Rn rk (arrOf st2) (pendingOf st2).toList 0 lo/\So rk (arrOf st2) lo (lo+n)) ?stepC (fun _ _ hh=>hh) ⟨rfl,hBc,hRc,hsc⟩) ?postC)
    case stepC =>
     rintro j c st2 _ _ ⟨rfl,hB2,hR2,hs2⟩
     refine wpS_bind (wpS_get ?_)
     by_cases e:(pendingOf st2).size>1
     ·rw[if_pos e,getElem?_pos _ ((pendingOf st2).size-2) (by omega)]
      generalize (pendingOf st2)[(pendingOf st2).size-2]'(by omega)=u
      obtain⟨u1,u2,older⟩:=u
      dsimp only
      by_cases e2:older<=power' a₀.size (2*s1+m1) (2*s1+m1+m1+n) a₀.size
      ·rw[if_pos e2]
       exact wpS_pure ⟨rfl,hB2,hR2,hs2⟩
      ·rw[if_neg e2]
       refine wpS_bind (mrg_w h0 hn hB2 hR2 h3 (by omega) fun st3 hB3 hR3 hl3 hk3=>?_)
       rw[if_neg (by decide)]
       exact wpS_pure ⟨rfl,hB3,hR3,hs2.congr fun k k1 k2=>hk3 k k1⟩
     ·rw[if_neg e]
      exact wpS_pure ⟨rfl,hB2,hR2,hs2⟩
    case postC =>
     rintro c st2 ⟨rfl,hB2,hR2,hs2⟩
     dsimp only
     refine wpS_bind (wpS_modify (wpS_bind (wpS_modify (wpS_pure ⟨lo+n,rfl,by omega,by omega,(hB2.setPending _).setPending _,?_⟩))))
     show Rn rk (arrOf st2) (((pendingOf st2).modify ((pendingOf st2).size-1) fun x=>(x.fst,x.2.fst,power' a₀.size (2*s1+m1) (2*s1+m1+m1+n) a₀.size)).push (lo,n,0)).toList 0 (lo+n)
     rw[Array.toList_push,Array.toList_modify]
     exact Rn.app.mpr ⟨lo,Rn.modify (f:=fun x=>(x.fst,x.snd.fst,power' a₀.size (2*s1+m1) (2*s1+m1+m1+n) a₀.size)) (fun _=>⟨rfl,rfl⟩) hR2,rfl,N1,hs2,rfl⟩
 case post =>
  rintro c st' ⟨rfl,hB',hR⟩
  dsimp only
  refine wpS_bind (wpS_mono (wpS_forRange (I := fun j c st2 => c = (none, ()) /\ Bs κ a₀ st2 /\ Rn rk (arrOf st2) (pendingOf st2).toList 0 a₀.size /\ (pendingOf st2).size <= max 1 (a₀.size - j))
   (Q:=fun c st2=>c=(none,())/\Bs κ a₀ st2/\Rn rk (arrOf st2) (pendingOf st2).toList 0 a₀.size/\(pendingOf st2).size<=1) ?stepF ?finF ⟨rfl,hB',hR,by have:=hR.len;rw[Array.length_toList]at this;omega⟩) ?postF)
  case finF =>
   rintro c st2 ⟨rfl,hB2,hR2,hl⟩
   exact⟨rfl,hB2,hR2,by omega⟩
  case postF =>
   rintro c st2 ⟨rfl,hB2,hR2,hl⟩
   dsimp only
   refine wpS_pure (h st2 hB2 ?_)
   have hl':(pendingOf st2).toList.length<=1:=by rw[Array.length_toList];exact hl
   revert hR2 hl'
   generalize (pendingOf st2).toList=l
   intro hR2 hl'
   match l,hR2,hl' with
   |[],hR2,_ =>
    have:0=a₀.size:=hR2
    omega
   |[e],⟨e1,e2,e3,e4⟩,_ =>
    rw[show 0+e.2.1=a₀.size from e4]at e3
    exact e3
  case stepF =>
   rintro j c st2 _ hj ⟨rfl,hB2,hR2,hl⟩
   refine wpS_bind (wpS_get ?_)
   by_cases e:(pendingOf st2).size<=1
   ·rw[if_pos e]
    exact wpS_pure ⟨rfl,hB2,hR2,e⟩
   ·rw[if_neg e]
    refine wpS_bind (mrg_w h0 hn hB2 hR2 (Nat.le_refl _) (iteB e) fun st3 hB3 hR3 hl3 _=>?_)
    rw[if_neg (by decide)]
    exact wpS_pure ⟨rfl,hB3,hR3,by omega⟩
end
end TS
end
section
namespace TS
open PySem PySem.W PyProof.Rows HT Srt
theorem fil_le{α:Type}{p q:α->Bool}:∀{l:List α},(∀x∈l,p x=true->q x=true)->(l.filter p).length<=(l.filter q).length
 |[],_=>Nat.le_refl _
 |x::l,h=>by
  have ih:=fil_le (l:=l) fun y hy=>h y (List.mem_cons_of_mem _ hy)
  have hx:=h x List.mem_cons_self
  rw[List.filter_cons,List.filter_cons]
  cases e1:p x<;>cases e2:q x
  ·simpa using ih
  ·simp only[Bool.false_eq_true,if_false,if_true,List.length_cons];omega
  ·rw[hx e1]at e2;cases e2
  ·simp only[if_true,List.length_cons];omega
theorem fil_lt{α:Type}{p q:α->Bool}{z:α}:∀{l:List α},(∀x∈l,p x=true->q x=true)->z∈l->p z=false->q z=true->(l.filter p).length<(l.filter q).length
 |[],_,hz,_,_=>by cases hz
 |x::l,h,hz,h1,h2=>by
  have hr:∀y∈l,p y=true->q y=true:=fun y hy=>h y (List.mem_cons_of_mem _ hy)
  have hx:=h x List.mem_cons_self
  rw[List.filter_cons,List.filter_cons]
  rcases List.mem_cons.mp hz with rfl|hz
  ·rw[h1,h2]
   have:=fil_le hr
   simp only[Bool.false_eq_true,if_false,if_true,List.length_cons];omega
  ·have ih:=fil_lt hr hz h1 h2
   cases e1:p x<;>cases e2:q x
   ·simpa using ih
   ·simp only[Bool.false_eq_true,if_false,if_true,List.length_cons];omega
   ·rw[hx e1]at e2;cases e2
   ·simp only[if_true,List.length_cons];omega
def rkK(ks:List (List Int))(k:List Int):Nat:=(ks.filter fun x=>lexLt x k).length
theorem rk_lt{ks:List (List Int)}{k m:List Int}(hk:k∈ks)(h:lexLt k m=true):rkK ks k<rkK ks m :=
 fil_lt (z:=k) (fun _ _ h1=>lex_tr h1 h) hk (lex_irr k) h
theorem rk_iff{ks:List (List Int)}{k m:List Int}(hk:k∈ks)(hm:m∈ks):lexLt k m=decide (rkK ks k<rkK ks m):=by
 cases e:lexLt k m with
 |true=>rw[decide_eq_true (rk_lt hk e)]
 |false =>
  rw[decide_eq_false]
  intro z
  by_cases q:k=m
  ·subst q;omega
  ·have:=rk_lt hm (lex_tot q e)
   omega
section
variable {prog:Program} {w:World} {A:Around} {E:Value->Shared->Prop} {s:Shared} {vs:List Value} {ks:List (List Int)} {d:Nat}
theorem tp_inj(t:Tp s.heap d vs ks)(hn:ks.Nodup){i j:Nat}(hi:i<vs.length)(hj:j<vs.length)(e:vs.getD i Value.none=vs.getD j Value.none):i=j:=by
 obtain⟨a,its,e1,⟨o,ho,hc,n,hd⟩,i1,l1⟩:=t.get hi
 obtain⟨b,its2,e2,⟨o2,ho2,hc2,n2,hd2⟩,i2,l2⟩:=t.get hj
 rw[e1,e2]at e
 cases e
 rw[ho]at ho2
 cases ho2
 rw[hd]at hd2
 cases hd2
 have k1:=i1.nums
 have k2:=i2.nums
 have hl:=t.len
 exact nodup_getD hn (by omega) (by omega) (k1.symm.trans k2)
open Classical in
noncomputable def ixV(vs:List Value)(x:Keyed):Nat:=if h:∃i,i<vs.length/\vs.getD i Value.none=x.1 then Classical.choose h else 0
theorem ix_at(t:Tp s.heap d vs ks)(hn:ks.Nodup){i:Nat}(hi:i<vs.length)(v:Value):ixV vs (vs.getD i Value.none,v)=i:=by
 have hx:∃j,j<vs.length/\vs.getD j Value.none=(vs.getD i Value.none,v).1:=⟨i,hi,rfl⟩
 unfold ixV
 rw[dif_pos hx]
 have:=Classical.choose_spec hx
 exact tp_inj t hn this.1 hi this.2
theorem zip_mem{x:Keyed}(h:x∈(vs.toArray.zip vs.toArray).toList):∃i,i<vs.length/\x=(vs.getD i Value.none,vs.getD i Value.none):=by
 have h:x∈vs.zip vs:=by simpa using h
 obtain⟨i,hi,e⟩:=List.mem_iff_getElem.mp h
 rw[List.length_zip]at hi
 refine⟨i,by omega,?_⟩
 rw[<- e]
 have:i<vs.length:=by omega
 simp[List.getD_eq_getElem?_getD,this]
theorem zip_list:(vs.toArray.zip vs.toArray).toList=(List.range vs.length).map fun i=>(vs.getD i Value.none,vs.getD i Value.none):=by
 refine List.ext_getElem (by simp) fun i h1 h2=>?_
 have h3:i<vs.length:=by simpa using h2
 simp[List.getD_eq_getElem?_getD,h3]
theorem run_any(hn:ks.Nodup)(t:Tp s.heap d vs ks)(h2:2<=vs.length) :
  wpAny (model prog w) A ((sortRuns').run (SortSt.mk' (tuples' true) (vs.toArray.zip vs.toArray) #[] 7 none)) (fun r s'=>∃p:Array Nat,p.size=vs.length/\arrOf r.2=p.map (kas_item (vs.toArray.zip vs.toArray))/\failedOf r.2=none/\Arr vs.length p/\Up (lexr ks) p vs.length/\s'=s) E s:=by
 let a₀:Array Keyed:=vs.toArray.zip vs.toArray
 let rk:Keyed->Nat:=fun x=>rkK ks (ks.getD (ixV vs x) [])
 have hl:=t.len
 have mk:∀i,i<vs.length->ks.getD i []∈ks:=fun i hi=>by
  rw[List.getD_eq_getElem?_getD,List.getElem?_eq_getElem (by omega)]
  exact List.getElem_mem _
 have rki:∀i,i<vs.length->∀v,rk (vs.getD i Value.none,v)=rkK ks (ks.getD i []):=fun i hi v=>by
  show rkK ks (ks.getD (ixV vs (vs.getD i Value.none,v)) [])=_
  rw[ix_at t hn hi]
 have lx:∀i j,i<vs.length->j<vs.length->lexr ks i j=decide (rkK ks (ks.getD i [])<rkK ks (ks.getD j [])):=fun i j hi hj=>rk_iff (mk i hi) (mk j hj)
 have ans:Ans prog w A s (tuples' true) rk a₀:=by
  intro x y hx hy C hC
  obtain⟨i,hi,rfl⟩:=zip_mem hx
  obtain⟨j,hj,rfl⟩:=zip_mem hy
  rw[rki i hi,rki j hj,<- lx i j hi hj]at hC
  exact ask_tup t i j C hi hj hC
 have nd:(a₀.toList.map rk).Nodup:=by
  show((vs.toArray.zip vs.toArray).toList.map rk).Nodup
  rw[zip_list,List.map_map]
  refine List.pairwise_map.mpr (List.Pairwise.imp_of_mem ?_ (List.nodup_range (n:=vs.length)))
  intro i j hi hj ne z
  have hi:=List.mem_range.mp hi
  have hj:=List.mem_range.mp hj
  have z:rk (vs.getD i Value.none,vs.getD i Value.none)=rk (vs.getD j Value.none,vs.getD j Value.none):=z
  rw[rki i hi,rki j hj]at z
  have e1:=lx i j hi hj
  have e2:=lx j i hj hi
  rw[decide_eq_false (by omega)]at e1 e2
  have:=lex_tot (x:=ks.getD i []) (y:=ks.getD j []) (fun q=>ne (nodup_getD hn (by omega) (by omega) q)) e1
  rw[show lexLt (ks.getD j []) (ks.getD i [])=false from e2]at this
  cases this
 have hz:a₀.size=vs.length:=by show(vs.toArray.zip vs.toArray).size=_;simp
 have run:=runs_w (E:=E) (A:=A) (st:=SortSt.mk' (tuples' true) a₀ #[] 7 none) (Q:=fun _ st'=>Bs (tuples' true) a₀ st'/\So rk (arrOf st') 0 a₀.size) ans nd ⟨Array.Perm.refl _,rfl,rfl⟩ rfl (by omega) fun st' h1 h2=>⟨h1,h2⟩
 refine wpAny_mono run ?_ fun _ _ e=>e
 rintro⟨_,st'⟩ s' ⟨rfl,hB,hS⟩
 dsimp only at hB hS ⊢
 have pl:(arrOf st').toList.Perm a₀.toList:=Array.perm_iff_toList_perm.mp hB.perm
 have sz:(arrOf st').size=vs.length:=hB.size.trans hz
 have pp:((arrOf st').map (ixV vs)).toList.Perm (List.range vs.length):=by
  rw[Array.toList_map]
  refine(pl.map _).trans ?_
  rw[show a₀.toList=(List.range vs.length).map fun i=>(vs.getD i Value.none,vs.getD i Value.none) from zip_list,List.map_map]
  have:(List.range vs.length).map (ixV vs∘fun i=>(vs.getD i Value.none,vs.getD i Value.none))=List.range vs.length:=by
   conv=>rhs;rw[<- List.map_id (List.range vs.length)]
   exact List.map_congr_left fun i hi=>ix_at t hn (List.mem_range.mp hi) _
  rw[this]
 have at_:∀i,i<vs.length->∃j,j<vs.length/\(arrOf st')[i]?=some (vs.getD j Value.none,vs.getD j Value.none)/\((arrOf st').map (ixV vs)).getD i 0=j:=fun i hi=>by
  obtain⟨x,ex,mx⟩:=hB.at (i:=i) (by omega)
  obtain⟨j,hj,rfl⟩:=zip_mem mx
  refine⟨j,hj,ex,?_⟩
  have hi':i<(arrOf st').size:=by omega
  have e2:(arrOf st')[i]=(vs.getD j Value.none,vs.getD j Value.none):=by
   rw[getElem?_pos _ i hi']at ex
   exact Option.some.inj ex
  have:((arrOf st').map (ixV vs)).getD i 0=ixV vs (arrOf st')[i]:=by simp[Array.getD,hi']
  rw[this,e2]
  exact ix_at t hn hj _
 refine⟨(arrOf st').map (ixV vs),by rw[Array.size_map];exact sz,?_,hB.failed,⟨by rw[Array.size_map];exact sz,?_,?_,?_⟩,?_,rfl⟩
 ·rw[Array.map_map]
  refine Array.ext (by simp) fun i h1 h2=>?_
  obtain⟨j,hj,ex,ej⟩:=at_ i (by omega)
  rw[Array.getElem_map]
  have e2:(arrOf st')[i]=(vs.getD j Value.none,vs.getD j Value.none):=by
   rw[getElem?_pos _ i h1]at ex
   exact Option.some.inj ex
  rw[e2]
  show _=kas_item (vs.toArray.zip vs.toArray) (ixV vs _)
  rw[ix_at t hn hj,kat_item rfl]
 ·intro i hi
  obtain⟨j,hj,_,ej⟩:=at_ i hi
  rw[ej];exact hj
 ·intro i j hi hj e
  have ndp:((arrOf st').map (ixV vs)).toList.Nodup:=pp.nodup_iff.mpr List.nodup_range
  have li:i<((arrOf st').map (ixV vs)).toList.length:=by simpa[sz] using hi
  have lj:j<((arrOf st').map (ixV vs)).toList.length:=by simpa[sz] using hj
  have P:=List.pairwise_iff_getElem.mp ndp
  have gi:((arrOf st').map (ixV vs)).toList[i]=((arrOf st').map (ixV vs)).getD i 0:=by simp[Array.getD,show i<(arrOf st').size by omega]
  have gj:((arrOf st').map (ixV vs)).toList[j]=((arrOf st').map (ixV vs)).getD j 0:=by simp[Array.getD,show j<(arrOf st').size by omega]
  rcases Nat.lt_trichotomy i j with q|q|q
  ·exact absurd (by rw[gi,gj];exact e) (P i j li lj q)
  ·exact q
  ·exact absurd (by rw[gi,gj];exact e.symm) (P j i lj li q)
 ·rw[Array.perm_iff_toList_perm]
  simpa using pp
 ·intro i j hij hj
  obtain⟨p,hp,ep,gp⟩:=at_ i (by omega)
  obtain⟨q,hq,eq,gq⟩:=at_ j hj
  have:=hS i j (Nat.zero_le _) hij (by omega)
  rw[R_at ep,R_at eq,rki p hp,rki q hq]at this
  rw[gp,gq,lx p q hp hq,decide_eq_true this]
end
end TS
end
section
namespace Srt
open PySem PySem.W PyProof.Rows HT
section
variable {prog:Program} {w:World} {A:Around} {E:Value->Shared->Prop} {s:Shared}
theorem list_sortT{a:Addr}{d:Nat}{vs:List Value}{ks:List (List Int)}{n:Nat}{P:PySem.Fin->Shared->Prop}(ho:s.heap.get? a=some (seqObj "list" vs.toArray n))(h64:vs.length<4000)(hn:ks.Nodup)(hkl:ks.length=vs.length)
  (t:Tp (((s.heap.update a (Obj.mapSeq fun _=>(#[]:Array Value))).push (seqObj "tuple" vs.toArray 0)).push (seqObj "list" #[] 0)) d vs ks)
  (h:∀q:Array Nat,Arr vs.length q->Up (lexr ks) q vs.length->P (.done (.ret .none)) { s with heap:=sortedHeap s.heap a vs (List.toArray (q.toList.map fun i=>vs.getD i Value.none)) }) :
  wpAny (model prog w) A (Builtin.«list.sort» ⟨[.ref a],[]⟩) P E s:=by
 have ha:a<s.heap.objs.size:=Heap.lt_size ho
 rw[list_sort_plain]
 refine wpAny_bind (listItems_at ho rfl ?_)
 refine wpAny_bind (listUpdate_at ho rfl ?_ (by rw[List.size_toArray,sizeLine_eq];omega) (Nat.zero_le _))
 obtain⟨e1,ho1⟩:∃e1,(s.heap.update a (Obj.mapSeq fun _=>(#[]:Array Value))).get? a=some (seqObj "list" #[] e1):=⟨_,get?_update_seq ho (fun _=>#[])⟩
 refine wpAny_bind (seqEpoch_at ho1 rfl ?_)
 refine wpAny_bind (wpAny_newTuple ?_ (by show vs.length<=_;rw[sizeLine_eq];omega))
 refine wpAny_bind (wpAny_newList ?_ (Nat.zero_le _))
 refine wpAny_holding ?_
 have ho6:(((s.heap.update a (Obj.mapSeq fun _=>(#[]:Array Value))).push (seqObj "tuple" vs.toArray 0)).push (seqObj "list" #[] 0)).get? a=some (seqObj "list" #[] e1):=by
  rw[Heap.get?_push_ne _ _ _ (by rw[size_push',Heap.size_update];exact Nat.ne_of_lt (Nat.lt_succ_of_lt ha)),Heap.get?_push_ne _ _ _ (by rw[Heap.size_update];exact Nat.ne_of_lt ha)]
  exact ho1
 show wpAny (model prog w) A _ P E { s with heap:=((s.heap.update a (Obj.mapSeq fun _=>(#[]:Array Value))).push (seqObj "tuple" vs.toArray 0)).push (seqObj "list" #[] 0) }
 dsimp only
 have hsz:vs.toArray.size=vs.length:=by simp
 by_cases h2:vs.toArray.size<2
 ·rw[if_pos h2,if_pos h2]
  refine wpAny_bind (wpAny_pure ?_)
  rw[StateT.run_pure]
  refine wpAny_bind (wpAny_pure ?_)
  dsimp only
  refine wpAny_bind (seqEpoch_at ho6 rfl ?_)
  have hout:(arrOf (SortSt.mk' general' (vs.toArray.zip vs.toArray) #[] 7 none)).map (·.2)=List.toArray ((List.toArray (List.range vs.length)).toList.map fun i=>vs.getD i Value.none):=by
   exact out_small (by omega)
  rw[hout]
  refine wpAny_bind (listUpdate_at ho6 rfl ?_ (Nat.zero_le _) (by rw[List.size_toArray,List.length_map,sizeLine_eq];simp;omega))
  simp only[bne_self_eq_false,Bool.false_eq_true,if_false]
  refine wpAny_pure (h _ arr_range fun x y hxy hy=>?_)
  omega
 ·rw[if_neg h2,if_neg h2]
  obtain⟨fs,k1,k2,k3⟩:=t.kat
  refine wpAny_bind (kat_kind (s:={ s with heap:=((s.heap.update a (Obj.mapSeq fun _=>(#[]:Array Value))).push (seqObj "tuple" vs.toArray 0)).push (seqObj "list" #[] 0) }) (T:=.type "int") k1 (by omega) (fun v hv=>by obtain⟨n,u,rfl⟩:=k3 v hv;exact Looks.of_pure rfl) (by decide) ?_)
  have hT:(Value.type "int" != Value.type "tuple")=true:=by decide
  rw[hT]
  refine wpAny_bind (wpAny_mono (TS.run_any (E:=E) hn t (by omega)) ?_ fun _ _ e=>e)
  rintro⟨⟨⟩,st'⟩ s' ⟨p,hp,har,hf,hA,hU,rfl⟩
  dsimp only
  have hout:=kat_snds rfl har
  rw[hout]
  refine wpAny_bind (seqEpoch_at ho6 rfl ?_)
  refine wpAny_bind (listUpdate_at ho6 rfl ?_ (Nat.zero_le _) (by rw[List.size_toArray,List.length_map,Array.length_toList,hp,sizeLine_eq];omega))
  rw[hf]
  simp only[bne_self_eq_false,Bool.false_eq_true,if_false]
  exact wpAny_pure (h p hA hU)
theorem sortedT{l:Addr}{d:Nat}{vs:List Value}{ks:List (List Int)}{Q:Value->Shared->Prop}(hl:s.heap.IsList l vs.toArray)(h64:vs.length<4000)(hn:ks.Nodup)(t:Tp s.heap d vs ks)
  (h:∀q:Array Nat,Arr vs.length q->Up (lexr ks) q vs.length->Q (.ref (s.heap.objs.size+1)) { s with heap:=sortedAll s.heap vs (List.toArray (q.toList.map fun i=>vs.getD i Value.none)) }) :
  wpAny (model prog w) A (call (.builtin "sorted") [.ref l]) Q E s:=by
 refine Calls.call_function_entry kind_sorted plain_sorted entry_sorted (args_sorted1 _) ?_
 unfold Builtin.«sorted»
 refine wpAny_bind (m:=checkCount "sorted" 1 1 _) (wpAny_pure ?_)
 refine wpAny_bind (collect_list hl ?_ (by rw[sizeLine_eq];omega))
 refine wpAny_bind (wpAny_newList ?_ (by rw[sizeLine_eq];omega))
 have hsz:((s.heap.push (seqObj "list" #[] 0)).update s.heap.objs.size (Obj.mapSeq (·++vs.toArray))).objs.size=s.heap.objs.size+1:=by
  rw[Heap.size_update,size_push']
 have hoL:(((s.heap.push (seqObj "list" #[] 0)).update s.heap.objs.size (Obj.mapSeq (·++vs.toArray))).push (seqObj "list" vs.toArray 0)).get? (s.heap.objs.size+1)=some (seqObj "list" vs.toArray 0):=by
  rw[<- hsz];exact Heap.get?_push_size _ rfl
 have keep:∀b o,s.heap.get? b=some o->(((s.heap.push (seqObj "list" #[] 0)).update s.heap.objs.size (Obj.mapSeq (·++vs.toArray))).push (seqObj "list" vs.toArray 0)).get? b=some o:=fun b o q=>by
  have hlt:b<s.heap.objs.size:=Heap.lt_size q
  rw[Heap.get?_push_ne _ _ _ (by rw[hsz];exact Nat.ne_of_lt (Nat.lt_succ_of_lt hlt)),Heap.get?_update_ne _ _ _ _ (Nat.ne_of_lt hlt),Heap.get?_push_ne _ _ _ (Nat.ne_of_lt hlt)]
  exact q
 show wpAny _ _ _ _ _ { s with heap:=((s.heap.push (seqObj "list" #[] 0)).update s.heap.objs.size (Obj.mapSeq (·++vs.toArray))).push (seqObj "list" vs.toArray 0) }
 rw[hsz]
 have t2:Tp ((((((s.heap.push (seqObj "list" #[] 0)).update s.heap.objs.size (Obj.mapSeq (·++vs.toArray))).push (seqObj "list" vs.toArray 0)).update (s.heap.objs.size+1) (Obj.mapSeq fun _=>(#[]:Array Value))).push (seqObj "tuple" vs.toArray 0)).push (seqObj "list" #[] 0)) d vs ks :=
  t.mono fun b o e=>keptA (keep b o e) (Nat.ne_of_lt (Nat.lt_succ_of_lt (Heap.lt_size e)))
 refine wpAny_bind (wpAny_holding (wpAny_call_entry slot_list_sort ⟨_,hoL,rfl⟩ entry_list_sort (list_sortT (d:=d) (ks:=ks) (s:={ s with heap:=((s.heap.push (seqObj "list" #[] 0)).update s.heap.objs.size (Obj.mapSeq (·++vs.toArray))).push (seqObj "list" vs.toArray 0) }) hoL h64 hn t.len t2 fun q a1 a2=>⟨_,rfl,?_⟩) (args_list_sort _)))
 exact wpAny_pure ⟨_,rfl,h q a1 a2⟩
end
end Srt
end
section
namespace DL
open PySem L2 PyProof.Rows
variable {K:KW}
def rSortT(K:KW):List V->Hp->VK->Prop:=fun xs H Q=>∃(a:Addr) (zs:List (Addr×List Int)) (d:Nat),xs=[.ref a]/\SqL K H a (zs.map fun z=>V.ref z.1)/\(∀z∈zs,SqT K H z.1 (z.2.map V.int)/\z.2.length=d+1)/\(zs.map (·.2)).Nodup/\zs.length<4000 /\
 ∀(p:Addr) (zs':List (Addr×List Int)),H p=none->zs'.Perm zs->(zs'.map (·.2)).Pairwise (fun x y=>HT.lexLt x y=true)->Q (.ref p) (upd H p (.lst (zs'.map fun z=>V.ref z.1)))
theorem vals_refs:∀{zs:List (Addr×List Int)} {us:List Value},Vals (zs.map fun z=>V.ref z.1) us->us=zs.map fun z=>Value.ref z.1
 |[],_,h=>by cases h;rfl
 |z::zs,_,h=>by
  cases h with
  |cons r t=>rw[vals_refs t,show _=Value.ref z.1 from r];rfl
theorem vals_of_refs:∀(zs:List (Addr×List Int)),Vals (zs.map fun z=>V.ref z.1) (zs.map fun z=>Value.ref z.1)
 |[]=>.nil
 |z::zs=>.cons rfl (vals_of_refs zs)
theorem tp_of{X:Cx}{pins:List (Addr×Obj)}{σ:L2.St}{H:Hp}{s:Shared}(I:Inv X pins σ H s){d:Nat}:∀{zs:List (Addr×List Int)},(∀z∈zs,SqT X.K H z.1 (z.2.map V.int)/\z.2.length=d+1)->Srt.Tp s.heap d (zs.map fun z=>Value.ref z.1) (zs.map (·.2))
 |[],_=>trivial
 |z::zs,h=>by
  obtain⟨h1,h2⟩:=h z List.mem_cons_self
  obtain⟨its,r1,p1,_⟩:=I.tuple h1
  exact⟨⟨z.1,its.toArray,rfl,p1,intsAre_of r1,h2⟩,tp_of I fun y hy=>h y (List.mem_cons_of_mem _ hy)⟩
theorem map_getD{α β:Type}(f:α->β)(l:List α)(i:Nat)(a:α):(l.map f).getD i (f a)=f (l.getD i a):=by
 rw[List.getD_eq_getElem?_getD,List.getD_eq_getElem?_getD,List.getElem?_map]
 cases l[i]?<;>rfl
theorem range_getD{α:Type}(l:List α)(a:α):(List.range l.length).map (fun i=>l.getD i a)=l:=by
 apply List.ext_getElem
 ·simp
 ·intro i h1 h2
  simp[List.getD_eq_getElem?_getD,h2]
theorem call_sortT{X:Cx}:CallR X (.builtin "sorted") (rSortT (kwOf X)):=by
 intro pins s σ H xs us Q I r h
 obtain⟨a,zs,d,rfl,hq,ht,hn,hz,q⟩:=h
 obtain⟨u,rfl,ru⟩:=vals1 r
 cases ru
 obtain⟨its,rv,pl,_⟩:=I.list hq
 have e:=vals_refs rv
 subst e
 have hlen:(zs.map fun z=>Value.ref z.1).length=zs.length:=by simp
 refine Srt.sortedT (d:=d) (ks:=zs.map (·.2)) pl.isList (by rw[hlen];exact hz) hn (tp_of I ht) fun p hA hU=>?_
 rw[hlen]at hA hU
 have pm:p.toList.Perm (List.range zs.length):=by
  have:=hA.pm.toList
  simpa using this
 have mem:∀i∈p.toList,i<zs.length:=fun i hi=>List.mem_range.mp (pm.mem_iff.mp hi)
 have eo:(p.toList.map fun i=>(zs.map fun z=>Value.ref z.1).getD i Value.none)=(p.toList.map fun i=>zs.getD i (0,[])).map fun z=>Value.ref z.1:=by
  rw[List.map_map]
  refine List.map_congr_left fun i hi=>?_
  have:=mem i hi
  simp[List.getD_eq_getElem?_getD,this]
 rw[eo]
 obtain⟨c,hc⟩:=sortedAll_at s.heap (zs.map fun z=>Value.ref z.1) (List.toArray ((p.toList.map fun i=>zs.getD i (0,[])).map fun z=>Value.ref z.1))
 have perm:(p.toList.map fun i=>zs.getD i (0,[])).Perm zs:=by
  have:=pm.map fun i=>zs.getD i (0,[])
  rw[range_getD]at this
  exact this
 have hl2:=perm.length_eq
 refine⟨.ref (s.heap.objs.size+1),_,I.laid (o:=.lst ((p.toList.map fun i=>zs.getD i (0,[])).map fun z=>V.ref z.1)) (fun _ _ e=>sortedAll_old e) (Nat.le_succ _) ?_,rfl,q (s.heap.objs.size+1) (p.toList.map fun i=>zs.getD i (0,[])) (I.hok.fresh (Nat.le_succ _)) perm ?_⟩
 ·exact⟨by rw[List.length_map,hl2];exact Nat.le_trans (Nat.le_of_lt hz) (by decide),_,c,vals_of_refs _,hc⟩
 ·rw[List.pairwise_iff_getElem]
  intro i j hi hj hij
  simp only[List.length_map,Array.length_toList]at hi hj
  have sz:=hA.sz
  have:=hU i j hij (by omega)
  unfold Srt.lexr at this
  have g:∀(k:Nat) (hk:k<p.size),(zs.map (·.2)).getD (p.getD k 0) []=(zs.getD (p.toList[k]'(by rw[Array.length_toList];exact hk)) (0,[])).2:=fun k hk=>by
   have e1:p.getD k 0=p.toList[k]'(by rw[Array.length_toList];exact hk):=by simp[Array.getD,hk]
   rw[e1]
   exact map_getD (·.2) zs _ (0,[])
  rw[g i hi,g j hj]at this
  simpa using this
def keysD:List PyData->Option (List (List Int))
 |[]=>some []
 |.tuple ds::r=>(intsD ds).bind fun k=>(keysD r).map (k::·)
 |_::_=>none
def tupK(k:List Int):PyData:=.tuple (k.map .int)
def insK(k:List Int):List (List Int)->List (List Int)
 |[]=>[k]
 |x::r=>if HT.lexLt k x=true then k::x::r else x::insK k r
def srtK:List (List Int)->List (List Int)
 |[]=>[]
 |k::r=>insK k (srtK r)
theorem insK_perm(k:List Int):∀(l:List (List Int)),(insK k l).Perm (k::l)
 |[]=>.refl _
 |x::r=>by
  unfold insK
  split
  ·exact .refl _
  ·exact((insK_perm k r).cons x).trans (.swap k x r)
theorem srtK_perm:∀(l:List (List Int)),(srtK l).Perm l
 |[]=>.refl _
 |k::r=>(insK_perm k (srtK r)).trans ((srtK_perm r).cons k)
theorem insK_sorted{k:List Int}:∀{l:List (List Int)},l.Pairwise (fun x y=>HT.lexLt x y=true)->k∉l->(insK k l).Pairwise (fun x y=>HT.lexLt x y=true)
 |[],_,_=>List.pairwise_singleton _ _
 |x::r,h,hn=>by
  obtain⟨h1,h2⟩:=List.pairwise_cons.mp h
  unfold insK
  split
  ·rename_i c
   refine List.pairwise_cons.mpr ⟨fun y hy=>?_,h⟩
   rcases List.mem_cons.mp hy with rfl|hy
   ·exact c
   ·exact Srt.lex_tr c (h1 y hy)
  ·rename_i c
   have c':HT.lexLt x k=true:=Srt.lex_tot (fun z=>hn (by rw[z];exact List.mem_cons_self)) (by simpa using c)
   refine List.pairwise_cons.mpr ⟨fun y hy=>?_,insK_sorted h2 fun z=>hn (List.mem_cons_of_mem _ z)⟩
   rcases List.mem_cons.mp ((insK_perm k r).mem_iff.mp hy)with rfl|hy
   ·exact c'
   ·exact h1 y hy
theorem srtK_sorted:∀{l:List (List Int)},l.Nodup->(srtK l).Pairwise (fun x y=>HT.lexLt x y=true)
 |[],_=>.nil
 |k::r,h=>by
  obtain⟨h1,h2⟩:=List.nodup_cons.mp h
  exact insK_sorted (srtK_sorted h2) fun z=>h1 ((srtK_perm r).mem_iff.mp z)
theorem srtK_eq{l m:List (List Int)}(hn:l.Nodup)(h:m.Pairwise (fun x y=>HT.lexLt x y=true))(hm:∀x,x∈m↔x∈l):srtK l=m :=
 sorted_ext (R:=fun x y=>HT.lexLt x y=true) (fun a b h1 h2=>by have:=Srt.lex_tr h1 h2;rw[Srt.lex_irr]at this;cases this) (srtK_sorted hn) h fun x=>((srtK_perm l).mem_iff).trans (hm x).symm
def fSortT:List PyData->Option PyData
 |[.list xs]=>(keysD xs).bind fun ks=>if ks.Nodup/\ks.length<4000/\(∀k∈ks,k.length=((ks.headD [])).length)/\1<=(ks.headD [0]).length then some (.list ((srtK ks).map tupK)) else none
 |_=>none
theorem keys_is{H:Hp}:∀{ds:List PyData} {vs:List V} {ks:List (List Int)},IsL K H ds vs->keysD ds=some ks->∃zs:List (Addr×List Int),vs=zs.map (fun z=>V.ref z.1)/\ks=zs.map (·.2)/\∀z∈zs,SqT K H z.1 (z.2.map V.int)
 |[],_,_,h,e=>by cases e;exact⟨[],h,rfl,fun z hz=>by simp at hz⟩
 |.tuple ds::r,_,_,⟨v,us,e1,⟨a,ws,e2,hs,lw⟩,l⟩,e=>by
  obtain⟨k,ek,e⟩:=oB e
  obtain⟨ms,em,e⟩:=oM e
  subst e e1 e2
  obtain⟨zs,h1,h2,h3⟩:=keys_is l em
  subst h1 h2
  rw[ints_is lw ek]at hs
  exact ⟨(a, k) :: zs, rfl, rfl, fun z hz => by
   rcases List.mem_cons.mp hz with rfl|hz
   ·exact hs
   ·exact h3 z hz⟩
 |.none::_,_,_,_,e=>by cases e
 |.bool _::_,_,_,_,e=>by cases e
 |.int _::_,_,_,_,e=>by cases e
 |.str _::_,_,_,_,e=>by cases e
 |.list _::_,_,_,_,e=>by cases e
 |.dict _::_,_,_,_,e=>by cases e
theorem is_ints{H:Hp}:∀(k:List Int),IsL K H (k.map .int) (k.map V.int)
 |[]=>rfl
 |i::k=>⟨_,_,rfl,rfl,is_ints k⟩
theorem is_keys{H:Hp}:∀{zs:List (Addr×List Int)},(∀z∈zs,SqT K H z.1 (z.2.map V.int))->IsL K H ((zs.map (·.2)).map tupK) (zs.map fun z=>V.ref z.1)
 |[],_=>rfl
 |z::zs,h=>⟨_,_,rfl,⟨z.1,_,rfl,h z List.mem_cons_self,is_ints _⟩,is_keys fun y hy=>h y (List.mem_cons_of_mem _ hy)⟩
theorem c_sortT:BR K true (rSortT K) fSortT:=by
 intro S H vs ds d Q _ l e q
 unfold fSortT at e
 split at e
 ·obtain⟨ks,e1,e⟩:=oB e
  split at e
  ·rename_i hc
   obtain⟨hn,h64,hl,hp⟩:=hc
   cases e
   obtain⟨v,us,rfl,⟨a,ws,rfl,h,lw⟩,iu⟩:=l
   cases (show us=[] from iu)
   obtain⟨zs,rfl,rfl,hz⟩:=keys_is lw e1
   rw[List.length_map]at h64
   refine⟨a,zs,((zs.map (·.2)).headD [0]).length-1,rfl,SqL.of (hid_iff.mp h).2,fun z hz'=>⟨Same.tup same_hid (hz z hz'),?_⟩,hn,h64,fun p zs' hp' pm sr=>?_⟩
   ·have:=hl z.2 (List.mem_map.mpr ⟨z,hz',rfl⟩)
    cases zs with
    |nil=>simp at hz'
    |cons y ys =>
     simp only[List.map_cons,List.headD_cons]at *
     omega
   ·have e2:srtK (zs.map (·.2))=zs'.map (·.2):=srtK_eq hn sr fun x=>(pm.map (·.2)).mem_iff
    rw[e2]at q
    exact q _ _ (same_new hp' _) (res_new hp' (is_keys fun z hz'=>hz z (pm.mem_iff.mp hz')))
  ·cases e
 ·cases e
end DL
end
section
namespace DL
open PySem L2
variable {K:KW}
end DL
end
section
namespace L2
open PySem PySem.Spec PyProof.Rows
section
variable {X:Cx} {pins:List (Addr×Obj)} {σ:L2.St} {H:Hp} {s:Shared}
end
section
variable {X:Cx} {elts:List Expr} {tp:Pos}
end
end L2
end
section
namespace DL
open PySem L2
variable {K:KW}
end DL
end
section
namespace DL
open PySem L2 PyProof.Rows
variable {K:KW}
end DL
end
section
namespace DL
open PySem L2
variable {K:KW}
end DL
end
section
namespace Stb
open PySem
def F:Nat->Nat->Nat
 |0,x=>x
 |n+1,x=>F n (5*x+1)
theorem F_add:∀(a b x:Nat),F (a+b) x=F b (F a x)
 |0,b,x=>by rw[Nat.zero_add];rfl
 |a+1,b,x=>by rw[show a+1+b=(a+b)+1 by omega];exact F_add a b _
theorem F4:∀(n x:Nat),4*F n x+1=5 ^ n*(4*x+1)
 |0,x=>by simp[F]
 |n+1,x=>by
  rw[F,F4 n,Nat.pow_succ,Nat.mul_assoc]
  congr 1
  omega
theorem five:∀k:Nat,∃q,5 ^ (2 ^ k)=1+2 ^ k*(4*(2*q+1))
 |0=>⟨0,by decide⟩
 |k+1=>by
  obtain⟨q,e⟩:=five k
  refine⟨q+2 ^ k*((2*q+1)*(2*q+1)),?_⟩
  rw[Nat.pow_succ 2 k,Nat.pow_mul,e]
  generalize 2 ^ k=P
  grind
theorem F2k(k z:Nat):∃r,F (2 ^ k) z=z+2 ^ k*(2*r+1):=by
 obtain⟨q,e⟩:=five k
 have h:=F4 (2 ^ k) z
 rw[e]at h
 refine⟨4*q*z+q+2*z,?_⟩
 generalize 2 ^ k=P at *
 generalize F P z=f at *
 grind
theorem hit:∀(k x y:Nat),∃n,n<2 ^ k/\F n x % 2 ^ k=y % 2 ^ k
 |0,x,y=>⟨0,by decide,by simp[Nat.mod_one]⟩
 |k+1,x,y=>by
  obtain⟨n,hn,e⟩:=hit k x y
  have hp:2 ^ (k+1)=2 ^ k+2 ^ k:=by rw[Nat.pow_succ];omega
  by_cases c:F n x % 2 ^ (k+1)=y % 2 ^ (k+1)
  ·exact⟨n,by omega,c⟩
  ·refine⟨n+2 ^ k,by omega,?_⟩
   rw[F_add]
   obtain⟨r,er⟩:=F2k k (F n x)
   rw[er]
   have h1:F n x % 2 ^ (k+1) % 2 ^ k=y % 2 ^ (k+1) % 2 ^ k:=by
    rw[Nat.mod_mod_of_dvd _ ⟨2,by rw[Nat.pow_succ]⟩,Nat.mod_mod_of_dvd _ ⟨2,by rw[Nat.pow_succ]⟩];exact e
   have e2:F n x+2 ^ k*(2*r+1)=F n x+2 ^ k+2 ^ (k+1)*r:=by
    rw[hp];generalize 2 ^ k=P;grind
   rw[e2,Nat.add_mul_mod_self_left,Nat.add_mod]
   have hP:0<2 ^ k:=Nat.pow_pos (by decide)
   rw[hp]at *
   generalize 2 ^ k=P at *
   have l1:=Nat.mod_lt (F n x) (show P+P>0 by omega)
   have l2:=Nat.mod_lt y (show P+P>0 by omega)
   generalize F n x % (P+P)=a at *
   generalize y % (P+P)=b at *
   rw[Nat.mod_eq_of_lt (show P<P+P by omega)]
   have m1:=Nat.div_add_mod a P
   have m2:=Nat.div_add_mod b P
   rw[h1]at m1
   have d1:a / P<2:=Nat.div_lt_of_lt_mul (show a<P*2 by rw[Nat.mul_two];exact l1)
   have d2:b / P<2:=Nat.div_lt_of_lt_mul (show b<P*2 by rw[Nat.mul_two];exact l2)
   generalize a / P=u at *
   generalize b / P=v at *
   generalize b % P=w at *
   have c1:u=0\/u=1:=by omega
   have c2:v=0\/v=1:=by omega
   rcases c1 with c1|c1<;>rcases c2 with c2|c2<;>rw[c1]at m1<;>rw[c2]at m2<;>simp only[Nat.mul_zero,Nat.mul_one,Nat.zero_add]at m1 m2
   ·exact absurd (m1.symm.trans m2) c
   ·rw[Nat.mod_eq_of_lt (by omega)];omega
   ·rw[show a+P=b+(P+P) by omega,Nat.add_mod_right,Nat.mod_eq_of_lt (by omega)]
   ·exact absurd (m1.symm.trans m2) c
end Stb
end
section
namespace Stb
open PySem SetTable
def st(m:Nat)(h:Int):Probe:={ j:=bits h % (m+1),more:=runEnd m (bits h % (m+1))-bits h % (m+1),i:=bits h % (m+1),perturb:=bits h,dummy:=none }
def ad(m:Nat)(p:Probe):Probe :=
 if p.more>0 then { p with j:=p.j+1,more:=p.more-1 } else
 { p with j:=(leap m p.i p.perturb).1,more:=runEnd m (leap m p.i p.perturb).1-(leap m p.i p.perturb).1,i:=(leap m p.i p.perturb).1,perturb:=(leap m p.i p.perturb).2 }
def it(m:Nat)(h:Int):Nat->Probe
 |0=>st m h
 |n+1=>ad m (it m h n)
def pt(m:Nat)(h:Int)(n:Nat):Nat:=(it m h n).j
theorem runEnd_le{m i:Nat}(h:i<=m):runEnd m i<=m:=by unfold runEnd;split<;>omega
theorem le_runEnd{m i:Nat}:i<=runEnd m i:=by unfold runEnd;split<;>omega
theorem runEnd_9{m i:Nat}:runEnd m i<=i+9:=by unfold runEnd;split<;>omega
theorem leap_le(m i p:Nat):(leap m i p).1<=m:=Nat.le_of_lt_succ (Nat.mod_lt _ (Nat.succ_pos m))
structure Okp(m:Nat)(p:Probe):Prop where
 i:p.i<=m
 j:p.j+p.more=runEnd m p.i
 d:p.dummy=none
theorem okp_st(m:Nat)(h:Int):Okp m (st m h):=by
 have e:bits h % (m+1)<=m:=Nat.le_of_lt_succ (Nat.mod_lt _ (Nat.succ_pos m))
 refine⟨e,?_,rfl⟩
 have:=@le_runEnd m (bits h % (m+1))
 show bits h % (m+1)+(runEnd m (bits h % (m+1))-bits h % (m+1))=_
 show _=runEnd m (bits h % (m+1))
 omega
theorem okp_ad{m:Nat}{p:Probe}(o:Okp m p):Okp m (ad m p):=by
 unfold ad
 by_cases c:p.more>0
 ·rw[if_pos c]
  refine⟨o.i,?_,o.d⟩
  have:=o.j
  show p.j+1+(p.more-1)=runEnd m p.i
  omega
 ·rw[if_neg c]
  refine⟨leap_le _ _ _,?_,o.d⟩
  have:=@le_runEnd m (leap m p.i p.perturb).1
  show(leap m p.i p.perturb).1+(runEnd m (leap m p.i p.perturb).1-(leap m p.i p.perturb).1)=runEnd m (leap m p.i p.perturb).1
  omega
theorem okp_it(m:Nat)(h:Int):∀n,Okp m (it m h n)
 |0=>okp_st m h
 |n+1=>okp_ad (okp_it m h n)
theorem pt_le(m:Nat)(h:Int)(n:Nat):pt m h n<=m:=by
 have o:=okp_it m h n
 have:=runEnd_le o.i
 have:=o.j
 unfold pt;omega
def R(m:Nat)(h:Int):Nat->Nat×Nat
 |0=>(bits h % (m+1),bits h)
 |r+1=>leap m (R m h r).1 (R m h r).2
def rd(m:Nat)(x:Nat×Nat)(k:Nat):Probe:={ j:=x.1+k,more:=runEnd m x.1-x.1-k,i:=x.1,perturb:=x.2,dummy:=none }
def N(m:Nat)(h:Int):Nat->Nat
 |0=>0
 |r+1=>N m h r+(runEnd m (R m h r).1-(R m h r).1)+1
theorem R_le(m:Nat)(h:Int):∀r,(R m h r).1<=m
 |0=>Nat.le_of_lt_succ (Nat.mod_lt _ (Nat.succ_pos m))
 |r+1=>leap_le _ _ _
theorem in_round{m:Nat}{h:Int}{n:Nat}{x:Nat×Nat}(e:it m h n=rd m x 0):∀k,k<=runEnd m x.1-x.1->it m h (n+k)=rd m x k
 |0,_=>e
 |k+1,hk=>by
  show ad m (it m h (n+k))=_
  rw[in_round e k (by omega)]
  unfold ad rd
  rw[if_pos (by show runEnd m x.1-x.1-k>0;omega)]
  show Probe.mk (x.1+k+1) (runEnd m x.1-x.1-k-1) x.1 x.2 none=Probe.mk (x.1+(k+1)) (runEnd m x.1-x.1-(k+1)) x.1 x.2 none
  rw[Nat.sub_sub,Nat.add_assoc]
theorem it_N(m:Nat)(h:Int):∀r,it m h (N m h r)=rd m (R m h r) 0
 |0=>rfl
 |r+1=>by
  show ad m (it m h (N m h r+(runEnd m (R m h r).1-(R m h r).1)))=_
  rw[in_round (it_N m h r) _ (Nat.le_refl _)]
  unfold ad rd
  rw[if_neg (by show ¬(runEnd m (R m h r).1-(R m h r).1-(runEnd m (R m h r).1-(R m h r).1)>0);omega)]
  rfl
theorem pt_N(m:Nat)(h:Int)(r:Nat):pt m h (N m h r)=(R m h r).1:=by unfold pt;rw[it_N];rfl
theorem pt_round{m:Nat}{h:Int}{r k:Nat}(hk:k<=runEnd m (R m h r).1-(R m h r).1):pt m h (N m h r+k)=(R m h r).1+k:=by
 unfold pt;rw[in_round (it_N m h r) k hk];rfl
theorem N_le(m:Nat)(h:Int):∀r,N m h r<=10*r
 |0=>Nat.le_refl _
 |r+1=>by
  have a:=N_le m h r
  have b:=@runEnd_9 m (R m h r).1
  have c:=@le_runEnd m (R m h r).1
  show N m h r+(runEnd m (R m h r).1-(R m h r).1)+1<=_
  omega
theorem R_two(m:Nat)(h:Int):∀r,(R m h r).2=bits h / 32 ^ r
 |0=>by show bits h=_;simp
 |r+1=>by
  show(R m h r).2 / 32=_
  rw[R_two m h r,Nat.div_div_eq_div_mul,Nat.pow_succ]
theorem bits_lt(h:Int):bits h<2 ^ 64:=by
 unfold bits
 have a:=Int.emod_nonneg h (show(2 ^ 64:Int)≠0 by decide)
 have b:=Int.emod_lt_of_pos h (show(0:Int)<2 ^ 64 by decide)
 have:(2:Int) ^ 64=18446744073709551616:=by decide
 have:(2:Nat) ^ 64=18446744073709551616:=by decide
 omega
theorem R_zero(m:Nat)(h:Int)(n:Nat):(R m h (13+n)).2=0:=by
 rw[R_two]
 refine Nat.div_eq_of_lt (Nat.lt_of_lt_of_le (bits_lt h) ?_)
 rw[Nat.pow_add]
 exact Nat.le_trans (by decide) (Nat.le_mul_of_pos_right _ (Nat.pow_pos (by decide)))
theorem F_succ(n x:Nat):F (n+1) x=5*F n x+1:=by rw[F_add n 1];rfl
theorem R_tail(m:Nat)(h:Int):∀n,(R m h (12+n)).1=F n (R m h 12).1 % (m+1)
 |0=>by
  show(R m h 12).1=(R m h 12).1 % (m+1)
  rw[Nat.mod_eq_of_lt (Nat.lt_succ_of_le (R_le m h 12))]
 |n+1=>by
  have z:=R_zero m h n
  rw[show 13+n=(12+n)+1 by omega]at z
  have z:(R m h (12+n)).2 / 32=0:=z
  show((R m h (12+n)).1*5+1+(R m h (12+n)).2 / 32) % (m+1)=_
  rw[z,R_tail m h n,F_succ,Nat.add_zero,Nat.mul_comm 5,Nat.add_mod,Nat.mul_mod,Nat.mod_mod,<- Nat.mul_mod,<- Nat.add_mod]
theorem round_hit{m k:Nat}(hm:m+1=2 ^ k)(h:Int){y:Nat}(hy:y<=m):∃r,r<=12+m/\(R m h r).1=y:=by
 obtain⟨n,hn,e⟩:=hit k (R m h 12).1 y
 refine⟨12+n,by omega,?_⟩
 rw[R_tail,hm,e]
 exact Nat.mod_eq_of_lt (by omega)
theorem pt_hit{m k:Nat}(hm:m+1=2 ^ k)(h:Int){y:Nat}(hy:y<=m):∃n,n<=10*(m+12)/\pt m h n=y:=by
 obtain⟨r,hr,e⟩:=round_hit hm h hy
 refine⟨N m h r,?_,(pt_N m h r).trans e⟩
 have:=N_le m h r
 omega
end Stb
end
section
namespace Stb
open PySem SetTable
def Rising(xs:Array Nat):Prop:=xs.toList.Pairwise (·<·)
theorem Rising.lt{xs:Array Nat}(r:Rising xs){a b:Nat}(hab:a<b)(hb:b<xs.size):xs.getD a 0<xs.getD b 0:=by
 have P:=List.pairwise_iff_getElem.mp r a b (by simpa using Nat.lt_trans hab hb) (by simpa using hb) hab
 have ha:=Nat.lt_trans hab hb
 simpa[Array.getD,ha,hb] using P
theorem below_go{xs:Array Nat}(r:Rising xs)(j:Nat):∀(f lo hi:Nat),lo<=hi->hi<=xs.size->hi-lo<=f->(∀a,a<lo->xs.getD a 0<j)->(∀a,hi<=a->a<xs.size->j<=xs.getD a 0) ->
  below.go xs j f lo hi<=xs.size/\(∀a,a<below.go xs j f lo hi->xs.getD a 0<j)/\(∀a,below.go xs j f lo hi<=a->a<xs.size->j<=xs.getD a 0)
 |0,lo,hi,h1,h2,h3,h4,h5=>by
  have:lo=hi:=by omega
  subst this
  exact⟨h2,h4,h5⟩
 |f+1,lo,hi,h1,h2,h3,h4,h5=>by
  unfold below.go
  by_cases c:lo<hi
  ·rw[if_pos c]
   show(if xs.getD ((lo+hi) / 2) j<j then below.go xs j f ((lo+hi) / 2+1) hi else below.go xs j f lo ((lo+hi) / 2))<=_/\(∀a,a<(if xs.getD ((lo+hi) / 2) j<j then below.go xs j f ((lo+hi) / 2+1) hi else below.go xs j f lo ((lo+hi) / 2))->_)/\(∀a,(if xs.getD ((lo+hi) / 2) j<j then below.go xs j f ((lo+hi) / 2+1) hi else below.go xs j f lo ((lo+hi) / 2))<=a->_)
   have hm:(lo+hi) / 2<xs.size:=by omega
   have e:xs.getD ((lo+hi) / 2) j=xs.getD ((lo+hi) / 2) 0:=by simp[Array.getD,hm]
   rw[e]
   by_cases d:xs.getD ((lo+hi) / 2) 0<j
   ·rw[if_pos d]
    refine below_go r j f _ hi (by omega) h2 (by omega) (fun a ha=>?_) h5
    rcases Nat.lt_or_ge a ((lo+hi) / 2)with q|q
    ·exact Nat.lt_trans (r.lt q hm) d
    ·rw[show a=(lo+hi) / 2 by omega];exact d
   ·rw[if_neg d]
    refine below_go r j f lo _ (by omega) (by omega) (by omega) h4 (fun a ha hs=>?_)
    rcases Nat.lt_or_ge ((lo+hi) / 2) a with q|q
    ·have:=r.lt q hs;omega
    ·rw[show a=(lo+hi) / 2 by omega];omega
  ·rw[if_neg c]
   have:lo=hi:=by omega
   subst this
   exact⟨h2,h4,h5⟩
theorem below_spec{xs:Array Nat}(r:Rising xs)(j:Nat):below xs j<=xs.size/\(∀a,a<below xs j->xs.getD a 0<j)/\(∀a,below xs j<=a->a<xs.size->j<=xs.getD a 0) :=
 below_go r j xs.size 0 xs.size (Nat.zero_le _) (Nat.le_refl _) (by omega) (fun a h=>absurd h (Nat.not_lt_zero a)) (fun a h h'=>absurd h (by omega))
theorem getD_get{xs:Array Nat}{a:Nat}(h:a<xs.size):xs[a]?=some (xs.getD a 0):=by simp[Array.getD,h]
theorem below_mem{xs:Array Nat}(r:Rising xs){j:Nat}(h:j∈xs.toList):xs[below xs j]?=some j:=by
 obtain⟨a,ha,e⟩:=List.getElem_of_mem h
 have ha':a<xs.size:=by simpa using ha
 have ea:xs.getD a 0=j:=by simpa[Array.getD,ha'] using e
 obtain⟨b1,b2,b3⟩:=below_spec r j
 have h1:¬a<below xs j:=fun c=>by have:=b2 a c;omega
 have h2:¬below xs j<a:=fun c=>by
  have:=b3 _ (Nat.le_refl _) (Nat.lt_trans c ha')
  have:=r.lt c ha'
  omega
 have:below xs j=a:=by omega
 rw[this,getD_get ha',ea]
theorem not_mem_below{xs:Array Nat}{j:Nat}(h:j∉xs.toList):xs[below xs j]?≠some j:=by
 intro e
 exact h (by rw[Array.mem_toList_iff];exact Array.mem_of_getElem? e)
theorem slot_mem{t:SetTable}(r:Rising t.place){j:Nat}(h:j∈t.place.toList):t.slot j = .live (below t.place j):=by
 unfold SetTable.slot
 have:=below_mem r h
 simp[this]
theorem slot_not{t:SetTable}(hd:t.dummies=#[]){j:Nat}(h:j∉t.place.toList):t.slot j = .empty:=by
 unfold SetTable.slot
 have:=not_mem_below h
 simp[this,hd,SetTable.has]
theorem insertAt_list{α:Type}(xs:Array α)(p:Nat)(x:α):(insertAt xs p x).toList=xs.toList.take p++x::xs.toList.drop p:=by
 unfold insertAt
 simp[Array.toList_extract,List.extract]
 exact List.take_of_length_le (by simp)
theorem mem_insertAt{α:Type}(xs:Array α)(p:Nat)(x y:α):y∈(insertAt xs p x).toList↔y=x\/y∈xs.toList:=by
 rw[insertAt_list]
 have:xs.toList=xs.toList.take p++xs.toList.drop p:=(List.take_append_drop p _).symm
 constructor
 ·intro h
  rcases List.mem_append.mp h with h|h
  ·exact .inr (List.mem_of_mem_take h)
  ·rcases List.mem_cons.mp h with h|h
   ·exact .inl h
   ·exact .inr (List.mem_of_mem_drop h)
 ·rintro(h|h)
  ·subst h;exact List.mem_append_right _ List.mem_cons_self
  ·rw[this]at h
   rcases List.mem_append.mp h with h|h
   ·exact List.mem_append_left _ h
   ·exact List.mem_append_right _ (List.mem_cons_of_mem _ h)
theorem size_insertAt{α:Type}(xs:Array α)(p:Nat)(x:α):(insertAt xs p x).size=xs.size+1:=by
 have:(insertAt xs p x).toList.length=xs.toList.length+1:=by
  rw[insertAt_list,List.length_append,List.length_cons]
  have:=congrArg List.length (List.take_append_drop p xs.toList)
  rw[List.length_append]at this
  omega
 simpa using this
theorem perm_insertAt{α:Type}(xs:Array α)(p:Nat)(x:α):(insertAt xs p x).toList.Perm (x::xs.toList):=by
 rw[insertAt_list]
 refine List.perm_middle.trans ?_
 rw[List.take_append_drop]
theorem rising_insert{xs:Array Nat}(r:Rising xs){j:Nat}(h:j∉xs.toList):Rising (insertAt xs (below xs j) j):=by
  unfold Rising
  rw[insertAt_list]
  obtain⟨b1,b2,b3⟩:=below_spec r j
  have r':(xs.toList.take (below xs j)++xs.toList.drop (below xs j)).Pairwise (·<·):=by rw[List.take_append_drop];exact r
  obtain⟨p1,p2,p3⟩:=List.pairwise_append.mp r'
  have lo:∀a∈xs.toList.take (below xs j),a<j:=by
    intro a ha
    obtain⟨i,hi,e⟩:=List.getElem_of_mem ha
    rw[List.length_take]at hi
    have hi' : i < xs.size := by have : i < xs.toList.length := by omega
                                 simpa using this
    have:=b2 i (by omega)
    rw[List.getElem_take]at e
    have e':xs.getD i 0=a:=by simpa[Array.getD,hi'] using e
    omega
  have hi:∀a∈xs.toList.drop (below xs j),j<a:=by
    intro a ha
    obtain⟨i,hi,e⟩:=List.getElem_of_mem ha
    rw[List.length_drop]at hi
    rw[List.getElem_drop]at e
    have hl:xs.toList.length=xs.size:=by simp
    have hi':below xs j+i<xs.size:=by omega
    have:=b3 (below xs j+i) (by omega) hi'
    have e':xs.getD (below xs j+i) 0=a:=by simpa[Array.getD,hi'] using e
    have:a≠j:=fun z=>h (by rw[<- z];exact List.mem_of_mem_drop ha)
    omega
  refine List.pairwise_append.mpr ⟨p1,List.pairwise_cons.mpr ⟨hi,p2⟩,fun a ha b hb=>?_⟩
  rcases List.mem_cons.mp hb with rfl|hb
  · exact lo a ha
  · exact p3 a ha b hb
theorem len_of_subset:∀{xs ys:List Nat},xs.Nodup->(∀x∈xs,x∈ys)->xs.length<=ys.length
 |[],ys,_,_=>Nat.zero_le _
 |x::xs,ys,n,s=>by
  have hx:=s x List.mem_cons_self
  obtain⟨n1,n2⟩:=List.nodup_cons.mp n
  have := len_of_subset (ys := ys.erase x) n2 (fun y hy => by
   have:y≠x:=fun e=>n1 (e▸hy)
   exact(List.mem_erase_of_ne this).mpr (s y (List.mem_cons_of_mem _ hy)))
  rw[List.length_erase_of_mem hx]at this
  have:0<ys.length:=List.length_pos_of_mem hx
  simp only[List.length_cons]
  omega
theorem spare{m:Nat}{ps:List Nat}(h:ps.length<=m):∃y,y<=m/\y∉ps:=by
 by_cases c:∃y,y<=m/\y∉ps
 ·exact c
 ·have : (List.range (m + 1)).length <= ps.length := len_of_subset List.nodup_range (fun x hx => by
   by_cases d:x∈ps
   ·exact d
   ·exact absurd ⟨x,Nat.le_of_lt_succ (List.mem_range.mp hx),d⟩ c)
  rw[List.length_range]at this
  omega
def Fst(m:Nat)(ps:List Nat)(h:Int)(n:Nat):Prop:=pt m h n∉ps/\∀k,k<n->pt m h k∈ps
theorem least{P:Nat->Prop}(h:∃n,P n):∃n,P n/\∀k,k<n->¬P k:=by
 obtain⟨n,hn⟩:=h
 induction n using Nat.strongRecOn with
 |_ n ih =>
  by_cases c:∃k,k<n/\P k
  ·obtain⟨k,h1,h2⟩:=c;exact ih k h1 h2
  ·exact⟨n,hn,fun k hk hp=>c ⟨k,hk,hp⟩⟩
theorem fst_ex{m k:Nat}(hm:m+1=2 ^ k){ps:List Nat}(hl:ps.length<=m)(h:Int):∃n,n<=10*(m+12)/\Fst m ps h n:=by
 obtain⟨y,hy,hn⟩:=spare hl
 obtain⟨n,h1,h2⟩:=pt_hit hm h hy
 obtain⟨n',h3,h4⟩:=least (P:=fun n=>pt m h n∉ps) ⟨n,by rw[h2];exact hn⟩
 refine⟨n',?_,h3,fun k hk=>Classical.byContradiction (h4 k hk)⟩
 rcases Nat.lt_or_ge n n' with q|q
 ·exact absurd (by rw[h2];exact hn) (h4 n q)
 ·omega
end Stb
end
section
namespace Stb
open PySem SetTable
def Way(m:Nat)(ps:List Nat)(h:Int)(j:Nat):Prop:=∃n,pt m h n=j/\∀k,k<n->pt m h k∈ps
theorem Way.mono{m:Nat}{ps qs:List Nat}{h:Int}{j:Nat}(w:Way m ps h j)(s:∀x∈ps,x∈qs):Way m qs h j:=by
 obtain⟨n,e,a⟩:=w
 exact⟨n,e,fun k hk=>s _ (a k hk)⟩
def Msk(m:Nat):Prop:=m=7\/m=31\/m=127\/m=511\/m=2047\/m=8191
theorem Msk.pow{m:Nat}(h:Msk m):∃k,m+1=2 ^ k:=by
 rcases h with h|h|h|h|h|h<;>subst h
 ·exact⟨3,by decide⟩
 ·exact⟨5,by decide⟩
 ·exact⟨7,by decide⟩
 ·exact⟨9,by decide⟩
 ·exact⟨11,by decide⟩
 ·exact⟨13,by decide⟩
theorem Msk.le{m:Nat}(h:Msk m):m<=8191:=by
 rcases h with h|h|h|h|h|h<;>subst h<;>decide
theorem Msk.odd{m:Nat}(h:Msk m):m % 2=1:=by
 rcases h with h|h|h|h|h|h<;>subst h<;>decide
structure Inv0(t:SetTable)(es:Array (Int×Value)):Prop where
 msk:Msk t.mask
 dum:t.dummies=#[]
 rise:Rising t.place
 le:∀j∈t.place.toList,j<=t.mask
 size:t.place.size=es.size
 room:t.place.size<=t.mask
 way:∀q∈t.place.toList.zip es.toList,Way t.mask t.place.toList q.2.1 q.1
structure Inv(t:SetTable)(es:Array (Int×Value)):Prop extends Inv0 t es where
 full:t.place.size*5<t.mask*3
theorem inv_fresh(fi mo:Nat)(led:Bool):Inv (SetTable.fresh fi mo led) #[] :=
 ⟨⟨.inl rfl,rfl,List.Pairwise.nil,fun j h=>(List.not_mem_nil h).elim,rfl,Nat.zero_le _,fun q h=>(List.not_mem_nil h).elim⟩,by show 0*5<7*3;decide⟩
theorem Inv0.fill{t:SetTable}{es:Array (Int×Value)}(I:Inv0 t es):t.fill=es.size:=by
 unfold SetTable.fill;rw[I.dum,I.size];rfl
theorem probe_go{t:SetTable}(rs:Rising t.place)(hd:t.dummies=#[])(hash:Nat->Int){h:Int}{e:Nat}(hF:Fst t.mask t.place.toList h e) :
  ∀(f n:Nat),n<=e->e-n<f ->
   (probe.go t hash h f (it t.mask h n)=some (.empty (pt t.mask h e) none)/\∀k,n<=k->k<e->hash (below t.place (pt t.mask h k))≠h) \/
   ∃k,n<=k/\k<e/\hash (below t.place (pt t.mask h k))=h/\probe.go t hash h f (it t.mask h n)=some (.candidate (pt t.mask h k) (below t.place (pt t.mask h k)) (it t.mask h (k+1)))/\∀k',n<=k'->k'<k->hash (below t.place (pt t.mask h k'))≠h
 |0,n,h1,h2=>absurd h2 (Nat.not_lt_zero _)
 |f+1,n,h1,h2=>by
  unfold probe.go
  have hdn:(it t.mask h n).dummy=none:=(okp_it t.mask h n).d
  rcases Nat.lt_or_ge n e with q|q
  ·have hm:=hF.2 n q
   have es:t.slot (it t.mask h n).j = .live (below t.place (pt t.mask h n)):=slot_mem rs hm
   rw[es]
   by_cases c:hash (below t.place (pt t.mask h n))=h
   ·refine .inr ⟨n,Nat.le_refl _,q,c,?_,fun k' a b=>absurd a (by omega)⟩
    show(if (hash (below t.place (pt t.mask h n))==h)=true then _ else _)=_
    rw[if_pos (by rw[c];exact beq_self_eq_true _)]
    rfl
   ·have e2:(if (hash (below t.place (pt t.mask h n))==h)=true then some (Met.candidate (it t.mask h n).j (below t.place (pt t.mask h n)) (t.advance (it t.mask h n))) else probe.go t hash h f (t.advance (it t.mask h n)))=probe.go t hash h f (it t.mask h (n+1)):=by
     rw[if_neg (by simpa using c)];rfl
    rcases probe_go rs hd hash hF f (n+1) q (by omega)with ⟨a,b⟩|⟨k,a,b,c',d,e'⟩
    ·refine .inl ⟨e2.trans a,fun k hk hk'=>?_⟩
     rcases Nat.lt_or_ge n k with z|z
     ·exact b k z hk'
     ·rw[show k=n by omega];exact c
    ·refine .inr ⟨k,by omega,b,c',e2.trans d,fun k' hk hk'=>?_⟩
     rcases Nat.lt_or_ge n k' with z|z
     ·exact e' k' z hk'
     ·rw[show k'=n by omega];exact c
  ·have:n=e:=by omega
   subst this
   have es:t.slot (it t.mask h n).j = .empty:=slot_not hd hF.1
   rw[es]
   refine .inl ⟨?_,fun k a b=>absurd a (by omega)⟩
   show some (Met.empty (it t.mask h n).j (it t.mask h n).dummy)=_
   rw[hdn];rfl
theorem zip_insert{α β:Type}(xs:Array α)(ys:Array β)(e:xs.size=ys.size)(p:Nat)(x:α)(y:β)(q:α×β)(h:q∈(insertAt xs p x).toList.zip (insertAt ys p y).toList):q=(x,y)\/q∈xs.toList.zip ys.toList:=by
 rw[insertAt_list,insertAt_list]at h
 have el:(xs.toList.take p).length=(ys.toList.take p).length:=by
  rw[List.length_take,List.length_take];simp[e]
 rw[List.zip_append el,List.zip_cons_cons]at h
 have w:xs.toList.zip ys.toList=(xs.toList.take p).zip (ys.toList.take p)++(xs.toList.drop p).zip (ys.toList.drop p):=by
  rw[<- List.zip_append el,List.take_append_drop,List.take_append_drop]
 rw[w]
 rcases List.mem_append.mp h with h|h
 ·exact .inr (List.mem_append_left _ h)
 ·rcases List.mem_cons.mp h with h|h
  ·exact .inl h
  ·exact .inr (List.mem_append_right _ h)
theorem put_eq{t:SetTable}(hd:t.dummies=#[])(j:Nat):t.put j=({ t with place:=insertAt t.place (below t.place j) j },below t.place j):=by
 unfold SetTable.put
 have:has t.dummies j=false:=by rw[hd];simp[SetTable.has]
 simp[this]
theorem inv_put{t:SetTable}{es:Array (Int×Value)}(I:Inv t es){h:Int}{x:Value}{n:Nat}(hF:Fst t.mask t.place.toList h n) :
  Inv0 { t with place:=insertAt t.place (below t.place (pt t.mask h n)) (pt t.mask h n) } (insertAt es (below t.place (pt t.mask h n)) (h,x)):=by
 have f:=I.full
 refine⟨I.msk,I.dum,rising_insert I.rise hF.1,fun j hj=>?_,?_,?_,fun q hq=>?_⟩
 ·rcases(mem_insertAt _ _ _ _).mp hj with e|e
  ·rw[e];exact pt_le _ _ _
  ·exact I.le j e
 ·rw[size_insertAt,size_insertAt,I.size]
 ·show(insertAt t.place _ _).size<=t.mask
  rw[size_insertAt];omega
 ·have sub:∀z∈t.place.toList,z∈(insertAt t.place (below t.place (pt t.mask h n)) (pt t.mask h n)).toList:=fun z hz=>(mem_insertAt _ _ _ _).mpr (.inr hz)
  rcases zip_insert _ _ I.size _ _ _ q hq with e|e
  ·subst e
   exact⟨n,rfl,fun k hk=>sub _ (hF.2 k hk)⟩
  ·exact(I.way q e).mono sub
theorem met_all{t:SetTable}{es:Array (Int×Value)}(I:Inv0 t es){h:Int}{e:Nat}(hF:Fst t.mask t.place.toList h e){i:Nat}{x:Value}(hi:es[i]?=some (h,x)):∃k,k<e/\below t.place (pt t.mask h k)=i:=by
 have hs:i<es.size:=(Array.getElem?_eq_some_iff.mp hi).1
 have hp:i<t.place.size:=by rw[I.size];exact hs
 have hm:(t.place[i],(h,x))∈t.place.toList.zip es.toList:=by
  refine List.mem_iff_getElem?.mpr ⟨i,?_⟩
  rw[List.getElem?_zip_eq_some]
  refine⟨by simp[hp],by rw[Array.getElem?_toList];exact hi⟩
 obtain⟨n,e1,e2⟩:=I.way _ hm
 have e1:pt t.mask h n=t.place[i]:=e1
 have hj:pt t.mask h n∈t.place.toList:=by rw[e1];simp
 have hne:n<e:=by
  rcases Nat.lt_or_ge n e with q|q
  ·exact q
  ·rcases Nat.lt_or_ge e n with q'|q'
   ·exact absurd (e2 e q') hF.1
   ·rw[show n=e by omega]at hj;exact absurd hj hF.1
 refine⟨n,hne,?_⟩
 have b:=below_mem I.rise hj
 rw[e1]at b ⊢
 have b1:=(Array.getElem?_eq_some_iff.mp b)
 obtain⟨b2,b3⟩:=b1
 rcases Nat.lt_trichotomy (below t.place t.place[i]) i with q|q|q
 ·have:=I.rise.lt q hp
  simp[Array.getD,hp,b2]at this
  omega
 ·exact q
 ·have:=I.rise.lt q b2
  simp[Array.getD,hp,b2]at this
  omega
end Stb
end
section
namespace Stb
open PySem SetTable
structure Own(m:Nat)(ps:List Nat)(ow:Array (Option Nat)):Prop where
 sz:ow.size=m+1
 nd:ps.Nodup
 le:∀j∈ps,j<=m
 yes:∀(i j:Nat),ps[i]?=some j->ow[j]?=some (some i)
 no:∀(j:Nat),j<=m->j∉ps->ow[j]?=some none
theorem Own.none_iff{m:Nat}{ps:List Nat}{ow:Array (Option Nat)}(O:Own m ps ow){j:Nat}(h:j<=m):(ow.getD j (some 0)).isNone=true↔j∉ps:=by
 by_cases c:j∈ps
 ·obtain⟨i,hi⟩:=List.mem_iff_getElem?.mp c
  have:=O.yes i j hi
  rw[Array.getD_eq_getD_getElem?,this]
  simp[c]
 ·have:=O.no j h c
  rw[Array.getD_eq_getD_getElem?,this]
  simp[c]
theorem free_spec{m:Nat}{ps:List Nat}{ow:Array (Option Nat)}(O:Own m ps ow)(h:Int):∀(f r:Nat),(∀k,k<N m h r->pt m h k∈ps)->(∃r',r<=r'/\r'<r+f/\(R m h r').1∉ps) ->
  ∃n,layClean.free m ow f (R m h r).1 (R m h r).2=some (pt m h n)/\Fst m ps h n
 |0,r,_,⟨r',a,b,_⟩=>absurd b (by omega)
 |f+1,r,hb,⟨r',a,b,c⟩=>by
  unfold layClean.free
  have hR:=R_le m h r
  have hl:=@le_runEnd m (R m h r).1
  have hu:=runEnd_le hR
  cases e:(List.range (runEnd m (R m h r).1+1-(R m h r).1)).find? fun k=>(ow.getD ((R m h r).1+k) (some 0)).isNone with
  |some k =>
   obtain⟨e1,e2,e3⟩:=List.find?_range_eq_some.mp e
   have e2:=List.mem_range.mp e2
   have hk:k<=runEnd m (R m h r).1-(R m h r).1:=by omega
   refine⟨N m h r+k,?_,?_,fun k' hk'=>?_⟩
   ·show some ((R m h r).1+k)=_
    rw[pt_round hk]
   ·rw[pt_round hk];exact(O.none_iff (by omega)).mp e1
   ·rcases Nat.lt_or_ge k' (N m h r)with q|q
    ·exact hb k' q
    ·have e4:=e3 (k'-N m h r) (by omega)
     have hk2:k'-N m h r<=runEnd m (R m h r).1-(R m h r).1:=by omega
     have e5:=pt_round (h:=h) (r:=r) hk2
     rw[show N m h r+(k'-N m h r)=k' by omega]at e5
     rw[e5]
     refine Classical.byContradiction fun z=>?_
     have:=(O.none_iff (j:=(R m h r).1+(k'-N m h r)) (by omega)).mpr z
     rw[this]at e4;cases e4
  |none =>
   have e3:=List.find?_eq_none.mp e
   have all:∀k,k<=runEnd m (R m h r).1-(R m h r).1->(R m h r).1+k∈ps:=fun k hk=>by
    refine Classical.byContradiction fun z=>?_
    exact e3 k (List.mem_range.mpr (by omega)) ((O.none_iff (j:=(R m h r).1+k) (by omega)).mpr z)
   have hb':∀k,k<N m h (r+1)->pt m h k∈ps:=fun k hk=>by
    rcases Nat.lt_or_ge k (N m h r)with q|q
    ·exact hb k q
    ·have hk:k<N m h r+(runEnd m (R m h r).1-(R m h r).1)+1:=hk
     have e5:=pt_round (m:=m) (h:=h) (r:=r) (k:=k-N m h r) (by omega)
     rw[show N m h r+(k-N m h r)=k by omega]at e5
     rw[e5]
     exact all _ (by omega)
   have hr':r≠r':=fun z=>by subst z;exact c (by simpa using all 0 (Nat.zero_le _))
   exact free_spec O h f (r+1) hb' ⟨r',by omega,by omega,c⟩
theorem own_set{m:Nat}{ps:List Nat}{ow:Array (Option Nat)}(O:Own m ps ow){j:Nat}(hj:j<=m)(hn:j∉ps):Own m (ps++[j]) (ow.setIfInBounds j (some ps.length)):=by
 refine⟨by simp[O.sz],?_,?_,?_,?_⟩
 ·refine List.nodup_append.mpr ⟨O.nd,by simp,fun a ha b hb=>?_⟩
  simp at hb
  rw[hb];exact fun z=>hn (z▸ha)
 ·intro x hx
  rcases List.mem_append.mp hx with hx|hx
  ·exact O.le x hx
  ·simp at hx;rw[hx];exact hj
 ·intro i x hx
  rcases Nat.lt_trichotomy i ps.length with q|q|q
  ·rw[List.getElem?_append_left q]at hx
   have:x≠j:=fun z=>hn (z▸List.mem_of_getElem? hx)
   rw[Array.getElem?_setIfInBounds_ne (fun z=>this z.symm)]
   exact O.yes i x hx
  ·subst q
   rw[List.getElem?_append_right (Nat.le_refl _)]at hx
   simp at hx
   rw[<- hx,Array.getElem?_setIfInBounds_self_of_lt (by rw[O.sz];omega)]
  ·rw[List.getElem?_append_right (by omega)]at hx
   have:[j][i-ps.length]?=none:=List.getElem?_eq_none (by simp;omega)
   rw[this]at hx;cases hx
 ·intro x hx hxn
  have h1:x∉ps:=fun z=>hxn (List.mem_append_left _ z)
  have h2:x≠j:=fun z=>hxn (List.mem_append_right _ (by simp[z]))
  rw[Array.getElem?_setIfInBounds_ne (fun z=>h2 z.symm)]
  exact O.no x hx h1
theorem own_nil(m:Nat):Own m [] (Array.replicate (m+1) none) :=
 ⟨by simp,List.nodup_nil,fun j h=>(List.not_mem_nil h).elim,fun i j h=>(by cases h),fun j h _=>by rw[Array.getElem?_replicate,if_pos (by omega)]⟩
abbrev layStep(m:Nat)(acc:Option (Array (Option Nat)×Nat))(h:Int):Option (Array (Option Nat)×Nat):=do
  let (owner,k) <- acc
  let j <- layClean.free m owner (turns m) (bits h % (m+1)) (bits h)
  pure (owner.setIfInBounds j (some k),k+1)
theorem lay_fold{m kk:Nat}(hm:m+1=2 ^ kk):∀(hs done:List Int) (ps:List Nat) (ow:Array (Option Nat)),Own m ps ow->ps.length=done.length->done.length+hs.length<=m ->
  (∀(i:Nat) h (j:Nat),done[i]?=some h->ps[i]?=some j->Way m ps h j) ->
  ∃ps' ow',hs.foldl (layStep m) (some (ow,ps.length))=some (ow',ps'.length)/\Own m ps' ow'/\ps'.length=done.length+hs.length/\(∀(i:Nat) h (j:Nat),(done++hs)[i]?=some h->ps'[i]?=some j->Way m ps' h j)
 |[],done,ps,ow,O,hl,hb,hw=>⟨ps,ow,rfl,O,hl,by rw[List.append_nil];exact hw⟩
 |h::hs,done,ps,ow,O,hl,hb,hw=>by
  simp only[List.length_cons]at hb
  obtain⟨y,hy,hyn⟩:=spare (m:=m) (ps:=ps) (by omega)
  obtain⟨r,hr,e⟩:=round_hit hm h hy
  obtain⟨n,ef,hF⟩:=free_spec O h (turns m) 0 (fun k hk=>absurd hk (Nat.not_lt_zero k)) ⟨r,Nat.zero_le _,by unfold turns;omega,by rw[e];exact hyn⟩
  have ef:layClean.free m ow (turns m) (bits h % (m+1)) (bits h)=some (pt m h n):=ef
  have es:layStep m (some (ow,ps.length)) h=some (ow.setIfInBounds (pt m h n) (some ps.length),(ps++[pt m h n]).length):=by
   show(layClean.free m ow (turns m) (bits h % (m+1)) (bits h)).bind _=_
   rw[ef];simp
  have O':=own_set O (pt_le m h n) hF.1
  obtain ⟨ps', ow', a, b, c, d⟩ := lay_fold hm hs (done ++ [h]) (ps ++ [pt m h n]) _ O' (by simp [hl]) (by simp; omega) (fun i h' j h1 h2 => by
   have sub:∀z∈ps,z∈ps++[pt m h n]:=fun z hz=>List.mem_append_left _ hz
   rcases Nat.lt_trichotomy i done.length with q|q|q
   ·rw[List.getElem?_append_left q]at h1
    rw[List.getElem?_append_left (by omega)]at h2
    exact(hw i h' j h1 h2).mono sub
   ·subst q
    rw[List.getElem?_append_right (Nat.le_refl _)]at h1
    rw[List.getElem?_append_right (by omega),hl]at h2
    simp at h1 h2
    subst h1;subst h2
    exact⟨n,rfl,fun k hk=>sub _ (hF.2 k hk)⟩
   ·rw[List.getElem?_append_right (by omega)]at h1
    have:[h][i-done.length]?=none:=List.getElem?_eq_none (by simp;omega)
    rw[this]at h1;cases h1)
  refine⟨ps',ow',?_,b,by rw[c];simp;omega,by rw[List.append_assoc]at d;exact d⟩
  rw[List.foldl_cons,es];exact a
theorem layClean_eq(m:Nat)(hs:Array Int):layClean m hs=(hs.toList.foldl (layStep m) (some (Array.replicate (m+1) none,0))).map (·.1):=by
 unfold layClean
 rw[Array.foldl_toList]
theorem range_get{α:Type}(xs:List α):(List.range xs.length).filterMap (fun i=>xs[i]?)=xs:=by
 induction xs with
 |nil=>rfl
 |cons x xs ih =>
  rw[List.length_cons,List.range_succ_eq_map,List.filterMap_cons]
  simp only[List.getElem?_cons_zero]
  rw[List.filterMap_map]
  exact congrArg (x::·) ih
theorem laid_spec{m kk:Nat}(hm:m+1=2 ^ kk)(hk:Msk m)(fi mo:Nat)(led plain:Bool)(es:Array (Int×Value))(hl:es.size<=m) :
  ∃t' order,laid m fi mo led plain (es.map (·.1))=some (t',order)/\t'.led=led/\t'.mask=m/\t'.plain=plain/\Inv0 t' (order.filterMap (es[·]?))/\(order.filterMap (es[·]?)).toList.Perm es.toList:=by
 obtain⟨ps,ow,a,O,c,d⟩:=lay_fold hm (es.map (·.1)).toList [] [] _ (own_nil m) rfl (by simpa using hl) (fun i h j h1=>by cases h1)
 have hc:layClean m (es.map (·.1))=some ow:=by
  rw[layClean_eq]
  have a:List.foldl (layStep m) (some (Array.replicate (m+1) none,0)) (es.map (·.1)).toList=some (ow,ps.length):=a
  rw[a];rfl
 have hpl:ps.length=es.size:=by rw[c];simp
 let live:=(List.range (m+1)).filterMap fun j=>(ow.getD j none).map (j,·)
 have hlive:∀j i,(j,i)∈live↔ps[i]?=some j:=by
  intro j i
  constructor
  ·intro h
   obtain⟨j',h1,h2⟩:=List.mem_filterMap.mp h
   have h1:=List.mem_range.mp h1
   obtain⟨i',h3,h4⟩:=oM h2
   obtain⟨rfl,rfl⟩:=Prod.mk.inj h4
   by_cases q:j'∈ps
   ·obtain⟨i2,q2⟩:=List.mem_iff_getElem?.mp q
    have:=O.yes i2 j' q2
    rw[Array.getD_eq_getD_getElem?,this]at h3
    simp at h3
    rw[<- h3];exact q2
   ·have:=O.no j' (by omega) q
    rw[Array.getD_eq_getD_getElem?,this]at h3
    simp at h3
  ·intro h
   refine List.mem_filterMap.mpr ⟨j,List.mem_range.mpr (Nat.lt_succ_of_le (O.le j (List.mem_of_getElem? h))),?_⟩
   rw[Array.getD_eq_getD_getElem?,O.yes i j h];rfl
 have hr1:(live.map (·.1)).Pairwise (·<·):=by
  rw[List.pairwise_map]
  refine List.pairwise_filterMap.mpr ((List.pairwise_lt_range).imp ?_)
  intro a b hab x hx y hy
  obtain⟨_,_,rfl⟩:=oM hx
  obtain⟨_,_,rfl⟩:=oM hy
  exact hab
 have hnd:(live.map (·.2)).Nodup:=by
  show(live.map (·.2)).Pairwise (·≠·)
  rw[List.pairwise_map]
  have:live.Pairwise (fun x y=>x.1<y.1):=List.pairwise_map.mp hr1
  refine(List.Pairwise.and_mem.mp this).imp ?_
  rintro⟨x1,x2⟩ ⟨y1,y2⟩ ⟨hx,hy,hlt⟩ e
  have e:x2=y2:=e
  have hx:=(hlive _ _).mp hx
  have hy:=(hlive _ _).mp hy
  rw[e,hy]at hx
  have:y1=x1:=Option.some.inj hx
  have hlt:x1<y1:=hlt
  omega
 have hperm:(live.map (·.2)).Perm (List.range es.size):=by
  refine(List.perm_ext_iff_of_nodup hnd List.nodup_range).mpr fun i=>?_
  constructor
  ·intro h
   obtain⟨⟨j,i'⟩,h1,rfl⟩:=List.mem_map.mp h
   have:=(hlive _ _).mp h1
   rw[<- hpl]
   exact List.mem_range.mpr (List.getElem?_eq_some_iff.mp this).1
  ·intro h
   have h:=List.mem_range.mp h
   rw[<- hpl]at h
   exact List.mem_map.mpr ⟨(ps[i],i),(hlive _ _).mpr (List.getElem?_eq_getElem h),rfl⟩
 have hes:(((live.map (·.2)).toArray).filterMap (es[·]?)).toList=(live.map (·.2)).filterMap (fun i=>es.toList[i]?):=by
  simp
 have hp2:(((live.map (·.2)).toArray).filterMap (es[·]?)).toList.Perm es.toList:=by
  rw[hes]
  refine(hperm.filterMap _).trans ?_
  have:=range_get es.toList
  rw[show es.toList.length=es.size by simp]at this
  rw[this]
 have hzip:∀(l:List (Nat×Nat)),(∀x∈l,x.2<es.size)->∀q∈(l.map (·.1)).zip ((l.map (·.2)).filterMap (fun i=>es.toList[i]?)),∃i,(q.1,i)∈l/\es.toList[i]?=some q.2:=by
  intro l
  induction l with
  |nil=>intro _ q hq;simp at hq
  |cons x l ih =>
   intro hx q hq
   have h1:=hx x List.mem_cons_self
   have e:es.toList[x.2]?=some es.toList[x.2]:=List.getElem?_eq_getElem (by simpa using h1)
   rw[List.map_cons,List.map_cons,List.filterMap_cons,e]at hq
   rcases List.mem_cons.mp hq with rfl|hq
   ·exact⟨x.2,List.mem_cons_self,e⟩
   ·obtain⟨i,a1,a2⟩:=ih (fun y hy=>hx y (List.mem_cons_of_mem _ hy)) q hq
    exact⟨i,List.mem_cons_of_mem _ a1,a2⟩
 have hmem:∀j,j∈live.map (·.1)↔j∈ps:=fun j=>by
  constructor
  ·intro h
   obtain⟨⟨j',i⟩,h1,rfl⟩:=List.mem_map.mp h
   exact List.mem_of_getElem? ((hlive _ _).mp h1)
  ·intro h
   obtain⟨i,hi⟩:=List.mem_iff_getElem?.mp h
   exact List.mem_map.mpr ⟨(j,i),(hlive _ _).mpr hi,rfl⟩
 have hlen:live.length=es.size:=by
  have:=hperm.length_eq
  simpa using this
 refine⟨{ mask:=m,place:=(live.map (·.1)).toArray,dummies:=#[],finger:=fi,led,moves:=mo,plain },(live.map (·.2)).toArray,?_,rfl,rfl,rfl,⟨hk,rfl,hr1,?_,?_,?_,?_⟩,hp2⟩
 ·unfold laid;rw[hc];rfl
 ·intro j hj;exact O.le j ((hmem j).mp hj)
 ·have:=hp2.length_eq
  simp only[Array.length_toList]at this
  rw[this]
  show(live.map (·.1)).toArray.size=_
  simp[hlen]
 ·show(live.map (·.1)).toArray.size<=m
  simp[hlen,hl]
 ·intro q hq
  rw[hes]at hq
  obtain ⟨i, a1, a2⟩ := hzip live (fun x hx => by
   have:=(List.getElem?_eq_some_iff.mp ((hlive x.1 x.2).mp hx)).1
   omega) q hq
  have h1:=(hlive _ _).mp a1
  have w:=d i q.2.1 q.1 (by simp at a2 ⊢;rw[a2];exact⟨_,rfl⟩) h1
  exact w.mono fun z hz=>(hmem z).mpr hz
theorem relaid_spec{t:SetTable}{es:Array (Int×Value)}(I:Inv0 t es)(hb:es.size<=4914)(hf:t.tooFull=true)(hpre:(es.size-1)*5<t.mask*3) :
  sizeAbove (grown es.size)<=8192/\∃t' order,t.relaid (es.map (·.1)) (grown es.size)=some (t',order)/\t'.led=t.led/\t'.plain=t.plain/\Inv t' (order.filterMap (es[·]?))/\(order.filterMap (es[·]?)).toList.Perm es.toList:=by
 have hfull:es.size*5≥t.mask*3:=by
  unfold SetTable.tooFull at hf
  rw[I.fill]at hf
  exact of_decide_eq_true hf
 have key:∃m',sizeAbove (grown es.size)-1=m'/\Msk m'/\es.size*5<m'*3/\sizeAbove (grown es.size)<=8192:=by
  rcases I.msk with q|q|q|q|q|q<;>rw[q]at hfull hpre
  ·rw[show es.size=5 by omega];exact⟨31,by decide,.inr (.inl rfl),by decide,by decide⟩
  ·rw[show es.size=19 by omega];exact⟨127,by decide,.inr (.inr (.inl rfl)),by decide,by decide⟩
  ·rw[show es.size=77 by omega];exact⟨511,by decide,.inr (.inr (.inr (.inl rfl))),by decide,by decide⟩
  ·rw[show es.size=307 by omega];exact⟨2047,by decide,.inr (.inr (.inr (.inr (.inl rfl)))),by decide,by decide⟩
  ·rw[show es.size=1229 by omega];exact⟨8191,by decide,.inr (.inr (.inr (.inr (.inr rfl)))),by decide,by decide⟩
  ·omega
 obtain⟨m',e,hk,hr,hs⟩:=key
 refine⟨hs,?_⟩
 obtain⟨kk,hm⟩:=hk.pow
 unfold SetTable.relaid
 rw[e]
 obtain⟨t',order,a1,a2,a3,a4,a5,a6⟩:=laid_spec hm hk t.finger (t.movedTo m') t.led t.plain es (by omega)
 refine⟨t',order,a1,a2,a4,⟨a5,?_⟩,a6⟩
 have h1:=a5.size
 have h2:=a6.length_eq
 simp only[Array.length_toList]at h2
 rw[a3];omega
end Stb
end
section
namespace Stb
open PySem PyProof.Rows SetTable
section
variable {prog:Program} {w:World} {A:Around} {E:Value->Shared->Prop} {s:Shared}
abbrev TK(prog:Program)(w:World)(h:Heap)(ks:List Int)(b:Addr):Prop:=IsTupleKey (intKind prog w) h ks b
abbrev hsh(prog:Program)(w:World)(ks:List Int):Int:=tupleKeyHash (intKind prog w) ks
theorem items_int{ks:List Int}{vs:List Value}(h:ItemsAre (intKind prog w) ks vs):∀v∈vs,∃n t,v = .int n t:=by
 induction h with
 |nil=>intro v hv;simp at hv
 |@cons k v' ks vs h1 _ ih =>
  intro v hv
  rcases List.mem_cons.mp hv with rfl|hv
  ·cases v with
   |int n t=>exact⟨n,t,rfl⟩
   |_=>exact absurd h1 (by simp[intKind,Value.isInt])
  ·exact ih v hv
theorem ofClass_int(d:Nat)(n:Int)(t:Tok):ofAClassStatement d (.int n t)=pure false:=by
 unfold ofAClassStatement;rfl
theorem ofClass_tuple{ks:List Int}{a:Addr}{Q:Bool->Shared->Prop}(hk:TK prog w s.heap ks a)(h:Q false s):wpAny (model prog w) A (ofAClassStatement 8 (.ref a)) Q E s:=by
 have hT:=hk.typeIs
 obtain⟨o,items,n,ho,hc,hd,hi⟩:=hk
 unfold ofAClassStatement
 refine wpAny_bind (wpAny_typeOf hT ?_)
 dsimp only
 have e:("tuple"=="tuple")=true:=by decide
 rw[if_pos e]
 refine wpAny_bind (wpAny_pure ?_)
 simp only[Bool.not_true,Bool.false_eq_true,if_false]
 refine wpAny_bind (wpAny_seqItems ho hd ?_)
 dsimp only
 refine wpAny_bind ?_
 rw[<- Array.forIn_toList]
 refine wpAny_forIn_list _ (fun rest r s'=>r.1=none/\s'=s/\∀v∈rest,∃n t,v=Value.int n t) _ ?_ ?_ _ _ ⟨rfl,rfl,items_int hi⟩
 ·rintro v rest r s' ⟨hr,rfl,hall⟩
  obtain⟨n,t,rfl⟩:=hall v List.mem_cons_self
  rw[ofClass_int]
  refine wpAny_bind (wpAny_pure ?_)
  simp only[Bool.false_eq_true,if_false]
  exact wpAny_pure ⟨rfl,rfl,fun u hu'=>hall u (List.mem_cons_of_mem _ hu')⟩
 ·rintro⟨r1,r2⟩ s' ⟨hr,rfl,_⟩
  simp only at hr
  subst hr
  exact wpAny_pure h
theorem seen_tuple{ks:List Int}{a:Addr}{ys:List Value}{Q:Bool->Shared->Prop}(hk:TK prog w s.heap ks a)(hy:∀y∈ys,∃b ks',y = .ref b/\TK prog w s.heap ks' b)(h:Q false s):wpAny (model prog w) A (searchCouldBeSeen (.ref a) ys) Q E s:=by
 unfold searchCouldBeSeen
 refine wpAny_bind ?_
 refine wpAny_forIn_list _ (fun rest r s'=>r.1=none/\s'=s/\∀y∈rest,∃b ks',y = .ref b/\TK prog w s.heap ks' b) _ ?_ ?_ _ _ ⟨rfl,rfl,hy⟩
 ·rintro v rest r s' ⟨hr,rfl,hall⟩
  obtain⟨b,ks',rfl,hb⟩:=hall v List.mem_cons_self
  dsimp only
  split
  ·exact wpAny_pure ⟨rfl,rfl,fun u hu'=>hall u (List.mem_cons_of_mem _ hu')⟩
  ·refine wpAny_bind (wpAny_eqIsQuiet_tuple hk ?_)
   simp only[Bool.not_true,Bool.false_eq_true,if_false]
   refine wpAny_bind (wpAny_eqIsQuiet_tuple hb ?_)
   simp only[Bool.not_true,Bool.false_eq_true,if_false]
   refine wpAny_bind (ofClass_tuple hk ?_)
   simp only[Bool.false_eq_true,if_false]
   refine wpAny_bind (ofClass_tuple hb ?_)
   simp only[Bool.false_eq_true,if_false]
   exact wpAny_pure ⟨rfl,rfl,fun u hu'=>hall u (List.mem_cons_of_mem _ hu')⟩
 ·rintro⟨r1,r2⟩ s' ⟨hr,rfl,_⟩
  simp only at hr
  subst hr
  exact wpAny_pure h
theorem byValue_tuple{ks:List Int}{a:Addr}{Q:Bool->Shared->Prop}(hk:TK prog w s.heap ks a)(h:Q true s):wpAny (model prog w) A (hashByValue 8 (.ref a)) Q E s:=by
 have hT:=hk.typeIs
 obtain⟨o,items,n,ho,hc,hd,hi⟩:=hk
 unfold hashByValue
 refine wpAny_bind (wpAny_specialOf hT F.slot_tuple_hash.lookup ?_)
 dsimp only
 refine wpAny_bind (wpAny_seqItems ho hd ?_)
 show wpAny _ _ (forIn items _ _ >>= _) _ _ s
 refine wpAny_bind ?_
 rw[<- Array.forIn_toList]
 refine wpAny_forIn_list _ (fun rest r s'=>r.1=none/\s'=s/\∀v∈rest,∃n t,v=Value.int n t) _ ?_ ?_ _ _ ⟨rfl,rfl,items_int hi⟩
 ·rintro v rest r s' ⟨hr,rfl,hall⟩
  obtain⟨n,t,rfl⟩:=hall v List.mem_cons_self
  have e:hashByValue 7 (.int n t)=pure true:=by unfold hashByValue;rfl
  rw[e]
  refine wpAny_bind (wpAny_pure ?_)
  simp only[Bool.not_true,Bool.false_eq_true,if_false]
  exact wpAny_pure ⟨rfl,rfl,fun u hu'=>hall u (List.mem_cons_of_mem _ hu')⟩
 ·rintro⟨r1,r2⟩ s' ⟨hr,rfl,_⟩
  simp only at hr
  subst hr
  exact wpAny_pure h
end
end Stb
end
section
namespace Stb
open PySem PyProof.Rows SetTable
def iv:Value->Int
 |.int n _=>n
 |_=>0
def tk(h:Heap):Value->List Int
 |.ref b=>match h.get? b with
  |some o=>match o.data with
   |.seq items _=>items.toList.map iv
   |_=>[]
  |none=>[]
 |_=>[]
section
variable {prog:Program} {w:World} {A:Around} {E:Value->Shared->Prop} {s:Shared}
theorem items_iv{ks:List Int}{vs:List Value}(h:ItemsAre (intKind prog w) ks vs):vs.map iv=ks:=by
 induction h with
 |nil=>rfl
 |@cons k v' ks vs h1 h2 ih =>
  rw[List.map_cons,ih]
  obtain⟨n,t,rfl⟩:=items_int (.cons h1 h2) v' List.mem_cons_self
  have:n=k:=by simpa[intKind,Value.isInt] using h1
  rw[this.symm];rfl
theorem tk_eq{h:Heap}{ks:List Int}{b:Addr}(k:TK prog w h ks b):tk h (.ref b)=ks:=by
 obtain⟨o,items,n,ho,hc,hd,hi⟩:=k
 show (match h.get? b with
  |some o=>match o.data with
   |.seq items _=>items.toList.map iv
   |_=>[]
  |none=>[])=ks
 rw[ho]
 dsimp only
 rw[hd]
 exact items_iv hi
structure TSet(prog:Program)(w:World)(B:Addr->Prop)(h:Heap)(t:SetTable)(es:Array (Int×Value))(S:List (List Int)):Prop where
 inv:Inv t es
 ent:∀e∈es.toList,∃b ks,e=(hsh prog w ks,Value.ref b)/\TK prog w h ks b/\B b
 nd:S.Nodup
 perm:(es.toList.map fun e=>tk h e.2).Perm S
theorem Inv.fits{t:SetTable}{es:Array (Int×Value)}(I:Inv0 t es):t.fits es.size=true:=by
 unfold SetTable.fits
 rw[I.fill,I.size]
 have:=I.room
 have:=I.size
 simp
 omega
theorem Inv0.even{t:SetTable}{es:Array (Int×Value)}(I:Inv0 t es):t.gaveWay=false:=by
 unfold SetTable.gaveWay
 rw[I.msk.odd];rfl
theorem getHash{es:Array (Int×Value)}{i:Nat}{e:Int×Value}(h:es[i]?=some e):((es[i]?.map (·.1)).getD 0)=e.1:=by rw[h];rfl
theorem same_moves(t:SetTable):t.sameMemory t.moves t.mask=some true:=by unfold SetTable.sameMemory;simp
theorem search{B:Addr->Prop}{a b:Addr}{o:Obj}{es:Array (Int×Value)}{ep:Nat}{t:SetTable}{ks:List Int}{S:List (List Int)}{Q:SetFound->Shared->Prop}
  (ho:s.heap.get? a=some o) (hd:o.data = .set es ep t) (T:TSet prog w B s.heap t es S) (hk:TK prog w s.heap ks b) (hu:A.units<cLine) {e:Nat}
  (hF:Fst t.mask t.place.toList (hsh prog w ks) e) (he:e<=10*(t.mask+12)) (q1:ks∈S->Q (.there none) s) (q2:ks∉S->Q (.free (pt t.mask (hsh prog w ks) e) false) s) :
  ∀(f n:Nat) (stand:Option Probe),n<=e->e-n<f->stand.getD (t.probeStart (hsh prog w ks))=it t.mask (hsh prog w ks) n ->
   (∀k,k<n->∀x,es[below t.place (pt t.mask (hsh prog w ks) k)]?=some x->x.1=hsh prog w ks->tk s.heap x.2≠ks) ->
   wpAny (model prog w) A (setSearchFrom a (.ref b) (hsh prog w ks) true f stand) Q E s
 |0,n,stand,h1,h2,_,_=>absurd h2 (Nat.not_lt_zero _)
 |f+1,n,stand,h1,h2,h3,h4=>by
  have I:=T.inv.toInv0
  have hf:=Inv.fits I
  unfold setSearchFrom
  refine wpAny_bind (wpAny_setState_of ho hd hf ?_)
  dsimp only
  rw[I.even,h3]
  simp only[Bool.false_eq_true,if_false]
  have slotEnt:∀k,k<e->∃x,es[below t.place (pt t.mask (hsh prog w ks) k)]?=some x:=fun k hk=>by
   have hm:=below_mem I.rise (hF.2 k hk)
   have:=(Array.getElem?_eq_some_iff.mp hm).1
   rw[I.size]at this
   exact⟨_,Array.getElem?_eq_getElem this⟩
  rcases probe_go I.rise I.dum (fun i=>((es[i]?.map (·.1)).getD 0)) hF (10*turns t.mask) n h1 (by unfold turns;omega)with ⟨e1,e2⟩|⟨k,k1,k2,k3,k4,k5⟩
  ·have e1:t.probe (fun i=>((es[i]?.map (·.1)).getD 0)) (hsh prog w ks) (it t.mask (hsh prog w ks) n)=_:=e1
   show wpAny _ _ (match t.probe (fun i=>((es[i]?.map (·.1)).getD 0)) (hsh prog w ks) (it t.mask (hsh prog w ks) n) with|some met=>_|_=>_) _ _ _
   rw[e1]
   refine wpAny_pure (q2 fun hS=>?_)
   have hm:=T.perm.mem_iff.mpr hS
   obtain⟨x,hx,ex⟩:=List.mem_map.mp hm
   obtain⟨b',ks',rfl,hb',_⟩:=T.ent x hx
   have ek:ks'=ks:=by rw[<- ex];exact(tk_eq hb').symm
   subst ek
   obtain⟨i,hi⟩:=List.mem_iff_getElem?.mp hx
   rw[Array.getElem?_toList]at hi
   obtain⟨k,hke,ei⟩:=met_all I hF hi
   rcases Nat.lt_or_ge k n with q|q
   ·exact h4 k q _ (by rw[ei];exact hi) rfl (tk_eq hb')
   ·exact e2 k q hke (by rw[ei];exact getHash hi)
  ·have k4:t.probe (fun i=>((es[i]?.map (·.1)).getD 0)) (hsh prog w ks) (it t.mask (hsh prog w ks) n)=_:=k4
   show wpAny _ _ (match t.probe (fun i=>((es[i]?.map (·.1)).getD 0)) (hsh prog w ks) (it t.mask (hsh prog w ks) n) with|some met=>_|_=>_) _ _ _
   rw[k4]
   dsimp only
   obtain⟨x,hx⟩:=slotEnt k k2
   have hxm:x∈es.toList:=by rw[Array.mem_toList_iff];exact Array.mem_of_getElem? hx
   obtain⟨b',ks',rfl,hb',_⟩:=T.ent x hxm
   have hh:hsh prog w ks'=hsh prog w ks:=by have:=getHash hx;rw[<- k3];exact this.symm
   cases hl:t.led with
   |true =>
    simp only[Bool.not_true,Bool.false_eq_true,if_false]
    rw[hx]
    dsimp only
    refine wpAny_bind (wpAny_holding (wpAny_eqBool_tuple hu hb' hk ?_))
    refine wpAny_bind (wpAny_setState_of ho hd hf ?_)
    dsimp only
    by_cases c:ks'=ks
    ·subst c
     rw[decide_eq_true rfl]
     simp only[Bool.and_self,if_true]
     refine wpAny_pure (q1 ?_)
     exact T.perm.mem_iff.mp (List.mem_map.mpr ⟨_,hxm,tk_eq hb'⟩)
    ·rw[decide_eq_false c]
     simp only[Bool.and_false,Bool.false_eq_true,if_false]
     rw[same_moves]
     dsimp only
     simp only[if_true]
     rw[slot_mem I.rise (hF.2 k k2)]
     dsimp only
     rw[hx]
     dsimp only
     refine wpAny_bind (wpAny_isSame_ref_self ?_)
     refine wpAny_bind (wpAny_pure ?_)
     simp only[if_true]
     refine search ho hd T hk hu hF he q1 q2 f (k+1) _ k2 (by omega) rfl fun k' hk' y hy1 hy2=>?_
     rcases Nat.lt_or_ge k' n with q|q
     ·exact h4 k' q y hy1 hy2
     ·rcases Nat.lt_or_ge k' k with q'|q'
      ·exact absurd ((getHash hy1).trans hy2) (k5 k' q q')
      ·have:k'=k:=by omega
       subst this
       rw[hx]at hy1
       obtain rfl:=Option.some.inj hy1
       rw[show tk s.heap (hsh prog w ks',Value.ref b').2=ks' from tk_eq hb']
       exact c
   |false =>
    simp only[Bool.not_false,if_true]
    refine wpAny_bind (seen_tuple hk ?_ ?_)
    ·intro y hy
     obtain⟨z,hz,rfl⟩:=List.mem_map.mp hy
     have hz':z∈es.toList:=by
      have:=(Array.mem_toList_iff).mp hz
      rw[Array.mem_toList_iff]
      exact(Array.mem_filter.mp this).1
     obtain⟨b2,ks2,rfl,h2,_⟩:=T.ent z hz'
     exact⟨b2,ks2,rfl,h2⟩
    ·simp only[Bool.false_eq_true,if_false]
     rw[hx]
     dsimp only
     refine wpAny_bind (wpAny_holding (wpAny_eqBool_tuple hu hb' hk ?_))
     refine wpAny_bind (wpAny_setState_of ho hd hf ?_)
     dsimp only
     by_cases c:ks'=ks
     ·subst c
      rw[decide_eq_true rfl]
      simp only[Bool.and_self,if_true]
      refine wpAny_pure (q1 ?_)
      exact T.perm.mem_iff.mp (List.mem_map.mpr ⟨_,hxm,tk_eq hb'⟩)
     ·rw[decide_eq_false c]
      simp only[Bool.and_false,Bool.false_eq_true,if_false]
      rw[same_moves]
      dsimp only
      simp only[if_true]
      rw[slot_mem I.rise (hF.2 k k2)]
      dsimp only
      rw[hx]
      dsimp only
      refine wpAny_bind (wpAny_isSame_ref_self ?_)
      refine wpAny_bind (wpAny_pure ?_)
      simp only[if_true]
      refine search ho hd T hk hu hF he q1 q2 f (k+1) _ k2 (by omega) rfl fun k' hk' y hy1 hy2=>?_
      rcases Nat.lt_or_ge k' n with q|q
      ·exact h4 k' q y hy1 hy2
      ·rcases Nat.lt_or_ge k' k with q'|q'
       ·exact absurd ((getHash hy1).trans hy2) (k5 k' q q')
       ·have:k'=k:=by omega
        subst this
        rw[hx]at hy1
        obtain rfl:=Option.some.inj hy1
        rw[show tk s.heap (hsh prog w ks',Value.ref b').2=ks' from tk_eq hb']
        exact c
end
end Stb
end
section
namespace Stb
open PySem PyProof.Rows SetTable
section
variable {prog:Program} {w:World} {A:Around} {E:Value->Shared->Prop} {s:Shared}
def ins(S:List (List Int))(k:List Int):List (List Int):=if k∈S then S else S++[k]
theorem TSet.keep{B:Addr->Prop}{h h':Heap}{t:SetTable}{es:Array (Int×Value)}{S:List (List Int)}(T:TSet prog w B h t es S)(k:∀b ks,TK prog w h ks b->TK prog w h' ks b):TSet prog w B h' t es S:=by
 refine⟨T.inv,fun e he=>?_,T.nd,?_⟩
 ·obtain⟨b,ks,e1,e2,e3⟩:=T.ent e he
  exact⟨b,ks,e1,k b ks e2,e3⟩
 ·have:es.toList.map (fun e=>tk h' e.2)=es.toList.map (fun e=>tk h e.2):=List.map_congr_left fun e he=>by
   obtain⟨b,ks,rfl,e2,_⟩:=T.ent e he
   rw[tk_eq e2,tk_eq (k b ks e2)]
  rw[this];exact T.perm
theorem size_8192:(8192:Nat)<=sizeLine:=by rw[sizeLine_eq];decide
theorem add{B:Addr->Prop}{a b:Addr}{o:Obj}{es:Array (Int×Value)}{ep:Nat}{t:SetTable}{ks:List Int}{S:List (List Int)}{Q:Bool->Shared->Prop}
  {h0:Heap} (ext:∀b ks,TK prog w h0 ks b->TK prog w s.heap ks b) (ho:s.heap.get? a=some o) (hd:o.data = .set es ep t) (T:TSet prog w B h0 t es S) (hk:TK prog w h0 ks b) (hB:B b) (hu:A.units<cLine) (hb:S.length<4914)
  (h:∀r h' es' ep' t',Heap.SameBut a s.heap h'->h'.get? a=some { o with data:=.set es' ep' t' }->TSet prog w B h0 t' es' (ins S ks)->t'.led=t.led->t'.plain=t.plain->Q r { s with heap:=h' }) :
  wpAny (model prog w) A (setAddHashed a (.ref b) (hsh prog w ks)) Q E s:=by
 have I:=T.inv.toInv0
 have hf:=Inv.fits I
 have hsz:es.size=S.length:=by have:=T.perm.length_eq;simpa using this
 unfold setAddHashed setAddHashedIn
 refine wpAny_holding (wpAny_bind (wpAny_setState_of ho hd hf ?_))
 dsimp only
 have hsc:byScan (.ref b) es=false:=by unfold byScan;simp[Value.scannable]
 rw[hsc]
 simp only[Bool.false_eq_true,if_false]
 obtain⟨kk,hm⟩:=I.msk.pow
 obtain⟨e,he,hF⟩:=fst_ex hm (ps:=t.place.toList) (by simpa using I.room) (hsh prog w ks)
 have hle:=I.msk.le
 refine wpAny_bind (m:=setSearch a (.ref b) (hsh prog w ks) true) (search ho hd (T.keep ext) (ext _ _ hk) hu hF he (fun hS=>?_) (fun hS=>?_) 100000 0 none (Nat.zero_le _) (by omega) rfl (fun k hk=>absurd hk (Nat.not_lt_zero k)))
 ·dsimp only
  refine wpAny_pure ?_
  have:=h false s.heap es ep t (Heap.SameBut.refl a s.heap) (by rw[ho,<- hd]) (by unfold ins;rw[if_pos hS];exact T) rfl rfl
  exact this
 ·dsimp only
  refine wpAny_bind (wpAny_setState_of ho hd hf ?_)
  dsimp only
  rw[put_eq I.dum]
  dsimp only
  have I1:=inv_put T.inv (x:=Value.ref b) hF
  generalize hp:below t.place (pt t.mask (hsh prog w ks) e)=p at I1 ⊢
  have hs1:(insertAt es p (hsh prog w ks,Value.ref b)).size=es.size+1:=size_insertAt _ _ _
  have step : ∀ t1, ({ t with place := insertAt t.place p (pt t.mask (hsh prog w ks) e) } : SetTable) = t1 -> wpAny (model prog w) A (do
    storeSet a (insertAt es p (hsh prog w ks,Value.ref b)) t1
    if (!false&&t1.tooFull)=true then do
      setRelay a (grown (es.size+1))
      pure true
     else pure true) Q E s:=by
   intro t1 ht
   have I1:=ht▸I1
   have hled:t1.led=t.led:=by rw[<- ht]
   have hpl:t1.plain=t.plain:=by rw[<- ht]
   have hmk:t1.mask=t.mask:=by rw[<- ht]
   have hperm1:((insertAt es p (hsh prog w ks,Value.ref b)).toList.map fun e=>tk h0 e.2).Perm (ins S ks):=by
    refine((perm_insertAt es p (hsh prog w ks,Value.ref b)).map _).trans ?_
    rw[List.map_cons,show tk h0 (hsh prog w ks,Value.ref b).2=ks from tk_eq hk]
    unfold ins;rw[if_neg hS]
    exact(T.perm.cons ks).trans (List.perm_append_singleton ks S).symm
   have hent1:∀x∈(insertAt es p (hsh prog w ks,Value.ref b)).toList,∃b' ks',x=(hsh prog w ks',Value.ref b')/\TK prog w h0 ks' b'/\B b':=fun x hx=>by
    rcases(mem_insertAt _ _ _ _).mp hx with rfl|hx
    ·exact⟨b,ks,rfl,hk,hB⟩
    ·exact T.ent x hx
   have hnd1:(ins S ks).Nodup:=by
    unfold ins;rw[if_neg hS]
    exact(List.perm_append_singleton ks S).nodup_iff.mpr (List.nodup_cons.mpr ⟨hS,T.nd⟩)
   refine wpAny_bind (wpAny_storeSet_of ho hd ?_ (by rw[hs1];have:=size_8192;omega))
   have hg:(s.heap.update a (Obj.putSet (insertAt es p (hsh prog w ks,Value.ref b)) t1)).get? a=some { o with data:=.set (insertAt es p (hsh prog w ks,Value.ref b)) (ep+1) t1 }:=by
    have:=Heap.get?_update_self (Obj.putSet (insertAt es p (hsh prog w ks,Value.ref b)) t1) ho (by rw[putSet_of _ t1 hd];rfl)
    rw[putSet_of _ t1 hd]at this;exact this
   have hsb:=Heap.SameBut.update s.heap a (Obj.putSet (insertAt es p (hsh prog w ks,Value.ref b)) t1)
   cases hfull:t1.tooFull with
   |false =>
    simp only[Bool.not_false,Bool.and_false,Bool.false_eq_true,if_false]
    refine wpAny_pure (h true _ _ (ep+1) t1 hsb hg ?_ hled hpl)
    have T1:TSet prog w B h0 t1 (insertAt es p (hsh prog w ks,Value.ref b)) (ins S ks):=by
     refine⟨⟨I1,?_⟩,hent1,hnd1,hperm1⟩
     have hfl:=I1.fill
     unfold SetTable.tooFull at hfull
     rw[hfl]at hfull
     have:=of_decide_eq_false hfull
     rw[I1.size];omega
    exact T1
   |true =>
    simp only[Bool.not_false,Bool.and_self,if_true]
    have hpre:((insertAt es p (hsh prog w ks,Value.ref b)).size-1)*5<t1.mask*3:=by
     rw[hs1,hmk];have:=T.inv.full;rw[I.size]at this;simpa using this
    obtain⟨r0,t2,order,r1,r2,r3,r4,r5⟩:=relaid_spec I1 (by rw[hs1];omega) hfull hpre
    unfold setRelay
    refine wpAny_bind (wpAny_bind (wpAny_setState_of hg rfl (Inv.fits I1) ?_))
    dsimp only
    rw[<- hs1]
    rw[if_neg (by have:=size_8192;omega)]
    rw[r1]
    have hz2:=r5.length_eq
    simp only[Array.length_toList]at hz2
    refine wpAny_bind ?_
    show wpAny _ _ (if ((order.filterMap ((insertAt es p (hsh prog w ks,Value.ref b))[·]?)).size != (insertAt es p (hsh prog w ks,Value.ref b)).size)=true then _ else _) _ _ _
    rw[if_neg (by rw[hz2];simp)]
    refine wpAny_pure ?_
    dsimp only
    refine wpAny_storeSet_of hg rfl ?_ (by rw[hz2,hs1];have:=size_8192;omega)
    refine wpAny_pure ?_
    have hg2:((s.heap.update a (Obj.putSet (insertAt es p (hsh prog w ks,Value.ref b)) t1)).update a (Obj.putSet (order.filterMap ((insertAt es p (hsh prog w ks,Value.ref b))[·]?)) t2)).get? a=some { o with data:=.set (order.filterMap ((insertAt es p (hsh prog w ks,Value.ref b))[·]?)) (ep+1+1) t2 }:=by
     have:=Heap.get?_update_self (Obj.putSet (order.filterMap ((insertAt es p (hsh prog w ks,Value.ref b))[·]?)) t2) hg (by rw[putSet_of _ t2 rfl];rfl)
     rw[putSet_of _ t2 rfl]at this;exact this
    have hsb2:=hsb.trans (Heap.SameBut.update (s.heap.update a (Obj.putSet (insertAt es p (hsh prog w ks,Value.ref b)) t1)) a (Obj.putSet (order.filterMap ((insertAt es p (hsh prog w ks,Value.ref b))[·]?)) t2))
    refine h true _ _ (ep+1+1) t2 hsb2 hg2 ?_ (r2.trans hled) (r3.trans hpl)
    have T2:TSet prog w B h0 t2 (order.filterMap ((insertAt es p (hsh prog w ks,Value.ref b))[·]?)) (ins S ks) :=
     ⟨r4,fun x hx=>hent1 x (r5.mem_iff.mp hx),hnd1,(r5.map _).trans hperm1⟩
    exact T2
  cases hpv:t.plain with
  |true =>
   simp only[if_true]
   refine wpAny_bind (byValue_tuple (ext _ _ hk) ?_)
   simp only[if_true]
   exact step _ (by rw[hpv])
  |false =>
   simp only[Bool.false_eq_true,if_false]
   refine wpAny_bind (wpAny_pure ?_)
   simp only[if_true]
   exact step _ (by rw[hpv])
end
end Stb
end
section
namespace Stb
open PySem PyProof.Rows SetTable
def dd(val:Nat->List Int):Nat->List (List Int)
 |0=>[]
 |i+1=>ins (dd val i) (val i)
theorem dd_len(val:Nat->List Int):∀i,(dd val i).length<=i
 |0=>Nat.le_refl _
 |i+1=>by
  have:=dd_len val i
  show(ins (dd val i) (val i)).length<=_
  unfold ins
  split
  ·omega
  ·rw[List.length_append];simp;omega
section
variable {prog:Program} {w:World} {A:Around} {R:Result->Shared->Prop} {I:Addr} {fp wr:List Addr} {G:Array GenState->Array GenState->Prop} {n:Nat} {P:Nat->Value->Prop} {St:Nat->Shared->Prop}
def SetIs(prog:Program)(w:World)(B:Addr->Prop)(h0 h:Heap)(S:Addr)(o:Obj)(led:Bool)(X:List (List Int)):Prop:=∃es ep t,h.get? S=some { o with data:=.set es ep t }/\TSet prog w B h0 t es X/\t.led=led/\t.plain=true
theorem TK.at{h0 h:Heap}(k:∀b o,h0.get? b=some o->h.get? b=some o){ks:List Int}{b:Addr}(x:TK prog w h0 ks b):TK prog w h ks b:=by
 obtain⟨o',items,n,ho',hc,hd',hi⟩:=x
 exact⟨o',items,n,k _ _ ho',hc,hd',hi⟩
theorem loopT{B:Addr->Prop}(W:WalksS prog w A.in1 I fp wr G n P St)(S:Addr)(hSf:S∉fp)(h0:Heap)(o:Obj)(led:Bool)(hS0:h0.get? S=none)(hw0:∀b∈wr,h0.get? b=none)
  (val:Nat->List Int) (hval:∀i v,P i v->∃b,v = .ref b/\TK prog w h0 (val i) b/\B b) (hb:n<4914) (hu:A.in1.units<cLine) :
  ∀(k i:Nat) (s:Shared),n-i=k->i<=n->St i s->(∀b o,h0.get? b=some o->s.heap.get? b=some o) ->
   SetIs prog w B h0 s.heap S o led (dd val i) ->
   (∀s',Moved (S::wr) G s s'->SetIs prog w B h0 s'.heap S o led (dd val n)->R (.ok (.ret .none)) s') ->
   codeAny (model prog w) A (.builtin "set.update.loop" ⟨[.ref S,.ref I],[]⟩) R s:=by
 have hSw:S∉wr:=fun h=>hSf (W.sub _ h)
 have hsub:∀b∈wr,b∈S::wr:=fun b hb=>List.mem_cons_of_mem _ hb
 have notW:∀{b o},h0.get? b=some o->b∉wr:=fun e z=>by rw[hw0 _ z]at e;cases e
 have notS:∀{b o},h0.get? b=some o->b≠S:=fun e z=>by rw[z,hS0]at e;cases e
 intro k
 induction k with
 |zero =>
  intro i s hk hi hst h0s hS hR
  have hin:i=n:=by omega
  subst hin
  refine codeAny_builtin F.entry_set_update_loop ?_
  rw[Around.under_plainId F.plain_set_update_loop _]
  show wpAny _ A.in1 (pyNext (.ref I) >>= _) _ _ s
  refine wpAny_bind (W.done s _ _ hst fun s' hm=>?_)
  show wpAny _ A.in1 (ret Value.none) _ _ s'
  obtain⟨es,ep,t,e1,e2,e3,e4⟩:=hS
  exact wpAny_pure (hR s' (hm.mono hsub) ⟨es,ep,t,hm.heap S _ hSw e1,e2,e3,e4⟩)
 |succ k ih =>
  intro i s hk hi hst h0s hS hR
  have hlt:i<n:=by omega
  refine codeAny_builtin F.entry_set_update_loop ?_
  rw[Around.under_plainId F.plain_set_update_loop _]
  show wpAny _ A.in1 (pyNext (.ref I) >>= _) _ _ s
  refine wpAny_bind (W.item i s _ _ hlt hst fun v s' hP hst' hm=>?_)
  obtain⟨b,rfl,hkb,hBb⟩:=hval i v hP
  obtain⟨es,ep,t,e1,e2,e3,e4⟩:=hS
  have e1':=hm.heap S _ hSw e1
  have h0s':∀b o,h0.get? b=some o->s'.heap.get? b=some o:=fun b o e=>hm.heap b _ (notW e) (h0s b o e)
  show wpAny _ A.in1 (holding [Value.ref b] (setAdd S (.ref b)) >>= _) _ _ s'
  refine wpAny_bind (wpAny_holding ?_)
  unfold setAdd
  refine wpAny_holding ?_
  refine wpAny_bind (wpAny_pyHash_tuple hu (TK.at h0s' hkb) ?_)
  refine add (s:={ s' with toks:=s'.toks+((val i).length+1) }) (h0:=h0) (fun b ks z=>TK.at h0s' z) e1' rfl e2 hkb hBb hu (by have:=dd_len val i;omega) fun r h' es' ep' t' hsb hg T' hl hp=>?_
  have h0h:∀b o,h0.get? b=some o->h'.get? b=some o:=fun b o e=>by rw[hsb.2 b (notS e)];exact h0s' b o e
  refine wpAny_pure ⟨plainId_quiet F.plain_set_update_loop _,ih (i+1) _ (by omega) hlt (W.frame _ s' _ _ hst' (Nat.le_add_right _ _) fun b hb o e=>?_) h0h ⟨es',ep',t',hg,T',hl.trans e3,hp.trans e4⟩ fun s'' hm'' hS''=>?_⟩
  ·rw[hsb.2 b (fun h:b=S=>hSf (by rw[<- h];exact hb))];exact e
  ·refine hR s'' (Moved.trans W.gtrans ((hm.mono hsub).then_heap (Nat.le_add_right _ _) fun b o hb e=>?_) hm'') hS''
   rw[hsb.2 b (fun h:b=S=>hb (by rw[h];exact List.mem_cons_self))];exact e
end
end Stb
end
section
namespace Stb
open PySem PyProof.Rows SetTable
section
variable {prog:Program} {w:World} {A:Around} {E:Value->Shared->Prop} {s:Shared}
abbrev led0(w:World):Bool:=!(w.params.followText "set-order")
abbrev setO(led:Bool):Obj:={ cls:=.type "set",dict:=none,data:=.set #[] 0 (.fresh 0 0 led) }
theorem code_new(a:Value){Q₁:Value->Shared->Prop}(h:Q₁ (.ref s.heap.objs.size) { s with heap:=s.heap.push (setO (led0 w)) }) :
  codeAny (model prog w) A (.call (.builtin "set.__new__") ⟨[.type "set",a],[]⟩) (wants Q₁ E) s:=by
 refine codeAny_of_tree ?_
 show wpAny _ A.in1 (do checkBuiltinCall "set.__new__" ⟨[.type "set",a],[]⟩;again (.builtin "set.__new__" ⟨[.type "set",a],[]⟩)) _ _ s
 refine wpAny_bind (wpAny_of_eq (F.newCall_set_1 a) (wpAny_pure ⟨plainId_quiet F.plain_set_new _,codeAny_builtin F.entry_set_new ?_⟩))
 rw[Around.under_plainId F.plain_set_new _]
 unfold Builtin.«set.__new__» Builtin.Frozenset.newClass
 have hsub:=sub_set_self
 obtain⟨hp,g,d,tk,os⟩:=s
 dsimp only
 wp_walk
 refine wpAny_askSetting (wpAny_pure ?_)
 dsimp only
 simp only[newObj]
 refine wpAny_bind (wpAny_alloc (wpAny_pure ?_))
 exact wpAny_pure h
set_option maxHeartbeats 3200000 in
theorem call_set{B:Addr->Prop}{l:Addr}{items:Array Value}{val:Nat->List Int}{Q:Value->Shared->Prop}
  (hh:A.handled=none) (hu:A.units+8<cLine) (hl:s.heap.IsList l items) (hv:∀i v,items[i]?=some v->∃b,v = .ref b/\TK prog w s.heap (val i) b/\B b) (hb:items.size<4914)
  (h : ∀ (h' : Heap) (tk : Nat) (o : Obj), o.cls = .type "set" -> SetIs prog w B s.heap h' s.heap.objs.size o (led0 w) (dd val items.size) ->
   (∀b o,s.heap.get? b=some o->h'.get? b=some o)->Q (.ref s.heap.objs.size) { s with heap:=h',toks:=tk }) :
  wpAny (model prog w) A (call (.type "set") [.ref l]) Q E s:=by
 obtain⟨c,tl,hmro⟩:=F.called_set.mro
 have hmade:=F.called_set.made
 have hsub:=F.called_set.sub
 refine wpAny_call (codeAny_of_tree ?_)
 show wpAny _ _ (callAny (.type "set") _) _ _ _
 refine wpAny_pure ⟨Code.quiet_builtin _ (by decide +kernel),codeAny_builtin F.entry_type_call ?_⟩
 rw[Around.under_plain (weight_type_call_type "set" [.ref l] []) rfl]
 have h1:=F.called_set.notType
 have h2:=F.called_set.canCreate
 have hct:=F.typeCall_set_1 (.ref l)
 repeat (any_goals (first|assumption|wp_step))
 refine codeAny_mono (code_new (.ref l) (E:=E) (Q₁:=fun obj s₁=>obj = .ref s.heap.objs.size/\s₁={ s with heap:=s.heap.push (setO (led0 w)) }) ⟨rfl,rfl⟩) fun r s₁ hr=>?_
 cases r with
 |error e=>exact hr
 |ok fl =>
  cases fl with
  |ret obj =>
   obtain⟨rfl,rfl⟩:=hr
   have hS:(s.heap.push (setO (led0 w))).get? s.heap.objs.size=some (setO (led0 w)):=Heap.get?_push_size _ rfl
   have hT:Shared.TypeIs { s with heap:=s.heap.push (setO (led0 w)) } (.ref s.heap.objs.size) "set":=⟨_,hS,rfl⟩
   have hli:=F.called_set.init.lookup
   have hbi:=F.called_set.init.bind (.ref s.heap.objs.size)
   repeat (any_goals (first|assumption|wp_step))
   refine codeAny_mono (codeAny_call_builtin (R := wants (fun r s₂ => r = .none /\ ∃ h' tk, s₂ = { s with heap := h', toks := tk } /\
     SetIs prog w B s.heap h' s.heap.objs.size (setO (led0 w)) (led0 w) (dd val items.size) /\
     (∀b o,s.heap.get? b=some o->h'.get? b=some o)) E) F.called_set.init.plain F.entry_set_init (check_set_init_1 hT ?_)) fun r₂ s₂ hr₂=>?_
   ·obtain⟨ol,hol,hcl,nl,hdl⟩:=hl
    obtain⟨ocls,odict,odata,oslots⟩:=ol
    simp only at hcl hdl
    subst hcl;subst hdl
    have hol':(s.heap.push (setO (led0 w))).get? l=some { cls:=.type "list",dict:=odict,data:=.seq items nl,slots:=oslots }:=Heap.get?_push_of_some _ hol
    have hsls:=F.sub_list_set
    have hslf:=F.sub_list_frozenset
    have hne:(Value.type "list"==Value.type "dict")=false:=by decide
    have hl1:(s.heap.push (setO (led0 w))).IsList l items:=⟨_,hol',rfl,nl,rfl⟩
    unfold Builtin.«set.__init__» noKeywords Builtin.Frozenset.updateFrom
    generalize hPI:pyIter=PI
    wp_walk
    subst hPI
    refine wpAny_pyIter_list hl1 ?_
    refine wpAny_bind (wpAny_runValue ?_)
    have hlS:l<s.heap.objs.size:=Heap.lt_size hol
    have hh3:A.in1.in1.in1.handled=none:=by simp[hh]
    have hneI:l≠(s.heap.push (setO (led0 w))).objs.size:=by
     rw[Heap.size_push];exact Nat.ne_of_lt (Nat.lt_succ_of_lt hlS)
    have hSf:s.heap.objs.size∉[(s.heap.push (setO (led0 w))).objs.size,l]:=by
     rw[Heap.size_push];simp only[List.mem_cons,List.mem_singleton,List.not_mem_nil,or_false,not_or]
     exact⟨Nat.ne_of_lt (Nat.lt_succ_self _),Nat.ne_of_gt hlS⟩
    have hnone:∀{a:Addr},s.heap.objs.size<=a->s.heap.get? a=none:=fun {a} ha=>by
     cases q:s.heap.get? a with
     |none=>rfl
     |some o'=>exact absurd (Heap.lt_size q) (Nat.not_lt.mpr ha)
    have W:=(Walks.list hh3 _ l hneI items).toS (prog:=prog) (w:=w)
    refine loopT W s.heap.objs.size hSf s.heap (setO (led0 w)) (led0 w) (hnone (Nat.le_refl _)) ?hw val hv hb ?hu (items.size-0) 0 _ (by omega) (Nat.zero_le _)
     ⟨⟨_,Heap.get?_push_size _ rfl,rfl,rfl⟩,(hl1.push _)⟩ ?hk ?hS0 ?hR
    case hw =>
     intro b hb
     rw[List.mem_singleton.mp hb,Heap.size_push]
     exact hnone (Nat.le_succ _)
    case hu=>simp only[Around.in1_units];omega
    case hk=>exact fun b o e=>Heap.get?_push_of_some _ (Heap.get?_push_of_some _ e)
    case hS0 =>
     refine⟨#[],0,.fresh 0 0 (led0 w),Heap.get?_push_of_some _ hS,⟨inv_fresh 0 0 (led0 w),fun e he=>(List.not_mem_nil he).elim,List.nodup_nil,List.Perm.nil⟩,rfl,rfl⟩
    case hR =>
     intro s' hm hS'
     obtain⟨h',g',d',tk',os'⟩:=s'
     have eg:g'=s.gens:=hm.gens
     have ed:d'=s.drawn:=hm.drawn
     have eo:os'=s.os:=hm.os
     subst eg;subst ed;subst eo
     show wpAny _ _ _ _ _ _
     refine wpAny_pure ?_
     show wpAny _ _ (ret Value.none) _ _ _
     refine wpAny_pure ⟨rfl,h',tk',rfl,hS',fun b o e=>?_⟩
     refine hm.heap b o ?_ (Heap.get?_push_of_some _ (Heap.get?_push_of_some _ e))
     have hb:=Heap.lt_size e
     simp only[List.mem_cons,List.mem_singleton,List.not_mem_nil,or_false,not_or,Heap.size_push]
     exact⟨Nat.ne_of_lt hb,Nat.ne_of_lt (Nat.lt_succ_of_lt hb)⟩
   ·cases r₂ with
    |error e=>exact hr₂
    |ok fl₂ =>
     cases fl₂ with
     |ret r =>
      obtain⟨rfl,h',tk,rfl,hS',hk'⟩:=hr₂
      repeat (any_goals (first|assumption|wp_step))
      exact h _ _ _ rfl hS' hk'
     |_=>exact hr₂.elim
  |_=>exact hr.elim
end
end Stb
end
section
namespace Stb
open PySem PyProof.Rows SetTable
theorem owner_seti:Manifest.owners.lookup (String.ofList ['r','o','t','a','r','e','t','i','_','t','e','s'].reverse)=some Manifest.sig_set_iterator:=by kernel_rfl
theorem slot_seti_next:Slot "set_iterator" "__next__" "set_iterator.__next__" :=
 .of (owner:="set_iterator") (n:="__next__") (by rw[typeLookup_type,builtinLookup_eq_fast];kernel_rfl) (by decide +kernel) (by decide +kernel) (by decide +kernel)
  (by first|exact .inl (by decide +kernel)|exact .inr (by decide +kernel)) (by rw[isSubtype_type];kernel_rfl)
theorem entry_seti_next:entryFor table "set_iterator.__next__"=some Builtin.«set_iterator.__next__»:=entryFor_of_tree (by kernel_rfl)
theorem args_seti_next(a:Value):argsOk "set_iterator.__next__" ⟨[a],[]⟩:=by
 unfold argsOk;rw[signature?_of (id:="set_iterator.__next__") (n:=['_','_','t','x','e','n','_','_']) (o:=['r','o','t','a','r','e','t','i','_','t','e','s']) (by kernel_rfl) owner_seti];kernel_rfl
theorem slot_seti_iter:Slot "set_iterator" "__iter__" "set_iterator.__iter__" :=
 .of (owner:="set_iterator") (n:="__iter__") (by rw[typeLookup_type,builtinLookup_eq_fast];kernel_rfl) (by decide +kernel) (by decide +kernel) (by decide +kernel)
  (by first|exact .inl (by decide +kernel)|exact .inr (by decide +kernel)) (by rw[isSubtype_type];kernel_rfl)
theorem entry_seti_iter:entryFor table "set_iterator.__iter__"=some Builtin.«dict_keyiterator.__iter__»:=entryFor_alias (id':="dict_keyiterator.__iter__") (by kernel_rfl) rfl (by decide +kernel) (by kernel_rfl)
theorem args_seti_iter(a:Value):argsOk "set_iterator.__iter__" ⟨[a],[]⟩:=by
 unfold argsOk;rw[signature?_of (id:="set_iterator.__iter__") (n:=['_','_','r','e','t','i','_','_']) (o:=['r','o','t','a','r','e','t','i','_','t','e','s']) (by kernel_rfl) owner_seti];kernel_rfl
theorem entry_set_iter:entryFor table "set.__iter__"=some Builtin.«frozenset.__iter__»:=entryFor_alias (id':="frozenset.__iter__") (by kernel_rfl) rfl (by decide +kernel) (by kernel_rfl)
section
variable {prog:Program} {w:World} {A:Around} {E:Value->Shared->Prop} {s:Shared}
abbrev byT(w:World):Bool:=w.params.followText "set-order"
theorem wp_byText{M:Model}{Q:Bool->Shared->Prop}(h:Q (M.w.params.followText "set-order") s):wpAny M A setsByText Q E s:=by
 unfold setsByText
 exact wpAny_bind (wpAny_askSetting (wpAny_pure h))
abbrev itO(sl k n ep:Nat)(S:Addr):Obj:={ cls:=.type "set_iterator",data:=.fields #[.int (sl:Int) 0,.int (k:Int) 0,.ref S,.int (n:Int) 0,.int (ep:Int) 0] }
theorem iter_set{S:Addr}{o:Obj}{es:Array (Int×Value)}{ep:Nat}{t:SetTable}{Q:Value->Shared->Prop}(hc:o.cls = .type "set")(hS:s.heap.get? S=some { o with data:=.set es ep t })(I:Inv0 t es)(hp:t.plain=true)
  (h:Q (.ref s.heap.objs.size) { s with heap:=s.heap.push (itO 0 0 es.size ep S) }):wpAny (model prog w) A (pyIter (.ref S)) Q E s:=by
 have hT:s.TypeIs (.ref S) "set":=⟨_,hS,hc⟩
 have hf:=Inv.fits I
 refine wpAny_pyIter_slot hT F.slot_set_iter (wpAny_call_entry F.slot_set_iter hT entry_set_iter ?_ (F.args_set_iter_1 _))
 unfold Builtin.«frozenset.__iter__»
 refine wpAny_bind (m:=Builtin.Frozenset.slot0 "__iter__" ⟨[.ref S],[]⟩) (wpAny_pure ?_)
 unfold Builtin.Frozenset.sizeOf setEntries
 refine wpAny_bind (wpAny_bind (wpAny_bind (wpAny_setState_of hS rfl hf (wpAny_pure (wpAny_pure ?_)))))
 unfold setDrawn
 refine wpAny_bind (wpAny_bind (wpAny_setState_of hS rfl hf ?_))
 refine wpAny_bind (wp_byText (wpAny_pure ?_))
 have hdr:(!(model prog w).w.params.followText "set-order"&&(!t.plain&&decide (es.size>1)))=false:=by rw[hp];simp
 show wpAny _ _ (if (!(model prog w).w.params.followText "set-order"&&(!t.plain&&decide (es.size>1)))=true then _ else _) _ _ _
 rw[hdr]
 simp only[Bool.false_eq_true,if_false]
 refine wpAny_bind (wpAny_pure ?_)
 unfold setEpoch
 refine wpAny_bind (wpAny_bind (wpAny_setState_of hS rfl hf (wpAny_pure ?_)))
 refine wpAny_bind (wpAny_newObj_type (wpAny_pure ⟨_,rfl,"set_iterator",_,⟨_,Heap.get?_push_size _ rfl,rfl⟩,slot_seti_next.lookup,?_⟩))
 exact h
end
end Stb
end
section
namespace Stb
open PySem PyProof.Rows SetTable
theorem erase_perm{α:Type}{xs:List α}{i:Nat}(h:i<xs.length):(xs[i]::xs.eraseIdx i).Perm xs:=by
 rw[List.eraseIdx_eq_take_drop_succ]
 refine List.perm_middle.symm.trans ?_
 rw[<- List.drop_eq_getElem_cons h,List.take_append_drop]
theorem pick_go{α:Type}(next:Nat->Nat):∀(f k:Nat) (left:List α) (out:Array α),left.length=f->∃l',(pickOrder.go next f k left out).toList=out.toList++l'/\l'.Perm left
 |0,k,left,out,h=>⟨[],by simp[pickOrder.go],by rw[List.eq_nil_of_length_eq_zero h]⟩
 |f+1,k,left,out,h=>by
  unfold pickOrder.go
  have hlt:next k % left.length<left.length:=Nat.mod_lt _ (by omega)
  rw[List.getElem?_eq_getElem hlt]
  dsimp only
  obtain⟨l',e1,e2⟩:=pick_go next f (k+1) (left.eraseIdx (next k % left.length)) (out.push left[next k % left.length]) (by rw[List.length_eraseIdx,if_pos hlt];omega)
  refine⟨left[next k % left.length]::l',by rw[e1];simp,?_⟩
  exact(e2.cons _).trans (erase_perm hlt)
theorem pick_perm{α:Type}(next:Nat->Nat)(xs:Array α):(pickOrder next xs).toList.Perm xs.toList:=by
 obtain⟨l',e1,e2⟩:=pick_go next xs.size 0 xs.toList #[] (by simp)
 unfold pickOrder
 rw[e1];simpa using e2
section
variable {prog:Program} {w:World} {A:Around} {E:Value->Shared->Prop} {s:Shared}
def eord(w:World)(S:Addr)(ep:Nat)(es:Array (Int×Value)):Array (Int×Value):=if byT w=true then pickOrder (w.params.setOrder S ep) es else es
def slt(w:World)(t:SetTable)(k:Nat):Nat:=if byT w=true then 0 else if k=0 then 0 else t.place.getD (k-1) 0+1
theorem eord_perm(S:Addr)(ep:Nat)(es:Array (Int×Value)):(eord w S ep es).toList.Perm es.toList:=by
 unfold eord;split
 ·exact pick_perm _ _
 ·exact List.Perm.refl _
theorem eord_size(S:Addr)(ep:Nat)(es:Array (Int×Value)):(eord w S ep es).size=es.size:=by
 have:=(eord_perm (w:=w) S ep es).length_eq
 simpa using this
theorem below_slt{t:SetTable}(r:Rising t.place)(hb:byT w=false){k:Nat}(hk:k<=t.place.size):below t.place (slt w t k)=k:=by
 obtain⟨b1,b2,b3⟩:=below_spec r (slt w t k)
 have e:slt w t k=if k=0 then 0 else t.place.getD (k-1) 0+1:=by unfold slt;rw[hb];simp
 generalize below t.place (slt w t k)=b at *
 rw[e]at b2 b3
 by_cases h0:k=0
 ·subst h0
  rcases Nat.eq_zero_or_pos b with q|q
  ·exact q
  ·have:=b2 0 q;simp at this
 ·rw[if_neg h0]at b2 b3
  have g1:¬b<=k-1:=fun z=>by have:=b3 (k-1) z (by omega);omega
  have g2:¬k<b:=fun z=>by
   have:=b2 k z
   have:=r.lt (a:=k-1) (b:=k) (by omega) (by omega)
   omega
  omega
theorem set_next{S:Addr}{o:Obj}{es:Array (Int×Value)}{ep:Nat}{t:SetTable}{Q:Option (Value×Nat)->Shared->Prop}(hS:s.heap.get? S=some { o with data:=.set es ep t })(I:Inv0 t es)(hp:t.plain=true)(hl:t.led=led0 w)
  {k:Nat} (hk:k<=es.size) (h:Q ((eord w S ep es)[k]?.map fun e=>(e.2,slt w t (k+1))) s):wpAny (model prog w) A (setNext S (slt w t k) k ep) Q E s:=by
 have hf:=Inv.fits I
 unfold setNext
 refine wpAny_bind (wpAny_setState_of hS rfl hf ?_)
 dsimp only
 refine wpAny_bind (wp_byText ?_)
 show wpAny _ _ (if byT w=true then _ else _) _ _ _
 cases hb:byT w with
 |true =>
  simp only[if_true,bne_self_eq_false,Bool.false_eq_true,if_false]
  unfold setWalk
  refine wpAny_bind (wpAny_bind (wpAny_setState_of hS rfl hf ?_))
  dsimp only
  refine wpAny_bind (wp_byText ?_)
  show wpAny _ _ (if byT w=true then _ else _) _ _ _
  rw[hb]
  simp only[if_true]
  refine wpAny_bind (wpAny_askSetting (wpAny_pure (wpAny_pure ?_)))
  have e1:slt w t k=0:=by unfold slt;rw[hb];rfl
  have e2:slt w t (k+1)=0:=by unfold slt;rw[hb];rfl
  have e3:eord w S ep es=pickOrder (w.params.setOrder S ep) es:=by unfold eord;rw[hb];rfl
  rw[e2,e3]at h
  rw[e1]
  exact h
 |false =>
  simp only[Bool.false_eq_true,if_false]
  have hdr:(!t.plain&&decide (es.size>1))=false:=by rw[hp];rfl
  show wpAny _ _ (if (!t.plain&&decide (es.size>1))=true then _ else _) _ _ _
  rw[hdr]
  simp only[Bool.false_eq_true,if_false]
  have hled:(!t.led&&!es.isEmpty)=false:=by rw[hl];simp only[led0];rw[show w.params.followText "set-order"=false from hb];rfl
  refine wpAny_bind (m:=if (!t.led&&!es.isEmpty)=true then unsupported "set:maker-not-led" else pure ()) ?_
  rw[hled]
  simp only[Bool.false_eq_true,if_false]
  refine wpAny_pure ?_
  rw[below_slt I.rise hb (by rw[I.size];exact hk)]
  have e3:eord w S ep es=es:=by unfold eord;rw[hb];rfl
  rw[e3]at h
  rcases Nat.lt_or_ge k es.size with q|q
  ·have q':k<t.place.size:=by rw[I.size];exact q
   rw[Array.getElem?_eq_getElem q]at h ⊢
   rw[Array.getElem?_eq_getElem q']
   have e2:slt w t (k+1)=t.place[k]+1:=by unfold slt;rw[hb];simp[Array.getD,q']
   rw[e2]at h
   exact wpAny_pure h
  ·have q':t.place.size<=k:=by rw[I.size];exact q
   rw[Array.getElem?_eq_none q]at h ⊢
   exact wpAny_pure h
end
end Stb
end
section
namespace Stb
open PySem PyProof.Rows SetTable
section
variable {prog:Program} {w:World} {A:Around} {E:Value->Shared->Prop} {s:Shared}
def ItAt(w:World)(h:Heap)(J S:Addr)(o:Obj)(es:Array (Int×Value))(ep:Nat)(t:SetTable)(k:Nat):Prop :=
 (∃oj,h.get? J=some oj/\oj.cls = .type "set_iterator"/\oj.data = .fields #[.int (slt w t k:Int) 0,.int (k:Int) 0,.ref S,.int (es.size:Int) 0,.int (ep:Int) 0])/\h.get? S=some { o with data:=.set es ep t }
theorem next_item{J S:Addr}{o:Obj}{es:Array (Int×Value)}{ep:Nat}{t:SetTable}{k:Nat}{Q:Option Value->Shared->Prop}(hne:S≠J)(st:ItAt w s.heap J S o es ep t k)(I:Inv0 t es)(hp:t.plain=true)(hl:t.led=led0 w)
  (hk:k<es.size) (h:∀e h',(eord w S ep es)[k]?=some e->ItAt w h' J S o es ep t (k+1)->Heap.SameBut J s.heap h'->Q (some e.2) { s with heap:=h' }):wpAny (model prog w) A (pyNext (.ref J)) Q E s:=by
 obtain⟨⟨oj,hoj,hc,hd⟩,hS⟩:=st
 have hT:s.TypeIs (.ref J) "set_iterator":=⟨_,hoj,hc⟩
 have hf:=Inv.fits I
 unfold pyNext
 refine wpAny_bind (wpAny_attempt (wpAny_callSpecial?_slot (name := Str.ofString "__next__") hT slot_seti_next
  (wpAny_call_entry slot_seti_next hT entry_seti_next ?_ (args_seti_next _))))
 unfold Builtin.«set_iterator.__next__»
 refine wpAny_bind (m:=slotArgs "__next__" 0 ⟨[.ref J],[]⟩) (wpAny_pure ?_)
 dsimp only
 refine wpAny_bind (wpAny_fieldsOf hoj hd ?_)
 dsimp only
 unfold setEntries
 refine wpAny_bind (wpAny_bind (wpAny_setState_of hS rfl hf (wpAny_pure ?_)))
 simp only[bne_self_eq_false,Bool.false_eq_true,if_false,Int.toNat_natCast]
 obtain⟨e,he⟩:∃e,(eord w S ep es)[k]?=some e:=⟨_,Array.getElem?_eq_getElem (by rw[eord_size];exact hk)⟩
 refine wpAny_bind (set_next hS I hp hl (Nat.le_of_lt hk) ?_)
 rw[he]
 dsimp only[Option.map]
 refine wpAny_bind (wpAny_setField hoj hd (by simp) ?_)
 have ho1:=Heap.get?_update_self (Obj.mapFields (·.setIfInBounds 0 (rawInt (slt w t (k+1):Int)))) hoj (Obj.isFreed_of_fields (Obj.data_mapFields hd _))
 have hd1:=Obj.data_mapFields hd (·.setIfInBounds 0 (rawInt (slt w t (k+1):Int)))
 refine wpAny_bind (wpAny_setField ho1 hd1 (by simp) ?_)
 have ho2:=Heap.get?_update_self (Obj.mapFields (·.setIfInBounds 1 (rawInt ((k:Int)+1)))) ho1 (Obj.isFreed_of_fields (Obj.data_mapFields hd1 _))
 have hd2:=Obj.data_mapFields hd1 (·.setIfInBounds 1 (rawInt ((k:Int)+1)))
 have hs1:=Heap.SameBut.update s.heap J (Obj.mapFields (·.setIfInBounds 0 (rawInt (slt w t (k+1):Int))))
 have hs2:=hs1.trans (Heap.SameBut.update (s.heap.update J (Obj.mapFields (·.setIfInBounds 0 (rawInt (slt w t (k+1):Int))))) J (Obj.mapFields (·.setIfInBounds 1 (rawInt ((k:Int)+1)))))
 refine wpAny_pure ⟨_,rfl,wpAny_pure (h e _ he ⟨⟨_,ho2,?_,?_⟩,?_⟩ hs2)⟩
 ·rw[Obj.cls_mapFields,Obj.cls_mapFields];exact hc
 ·rw[hd2];simp[rawInt]
 ·rw[hs2.2 S hne];exact hS
theorem next_end{J S:Addr}{o:Obj}{es:Array (Int×Value)}{ep:Nat}{t:SetTable}{Q:Option Value->Shared->Prop}(hh:A.handled=none)(st:ItAt w s.heap J S o es ep t es.size)(I:Inv0 t es)(hp:t.plain=true)(hl:t.led=led0 w)
  (h:∀h',Heap.ExtBut J s.heap h'->Q none { s with heap:=h' }):wpAny (model prog w) A (pyNext (.ref J)) Q E s:=by
 obtain⟨⟨oj,hoj,hc,hd⟩,hS⟩:=st
 have hT:s.TypeIs (.ref J) "set_iterator":=⟨_,hoj,hc⟩
 have hf:=Inv.fits I
 unfold pyNext
 refine wpAny_bind (wpAny_attempt (wpAny_callSpecial?_slot (name := Str.ofString "__next__") hT slot_seti_next
  (wpAny_call_entry slot_seti_next hT entry_seti_next ?_ (args_seti_next _))))
 unfold Builtin.«set_iterator.__next__»
 refine wpAny_bind (m:=slotArgs "__next__" 0 ⟨[.ref J],[]⟩) (wpAny_pure ?_)
 dsimp only
 refine wpAny_bind (wpAny_fieldsOf hoj hd ?_)
 dsimp only
 unfold setEntries
 refine wpAny_bind (wpAny_bind (wpAny_setState_of hS rfl hf (wpAny_pure ?_)))
 simp only[bne_self_eq_false,Bool.false_eq_true,if_false,Int.toNat_natCast]
 refine wpAny_bind (set_next hS I hp hl (Nat.le_refl _) ?_)
 rw[Array.getElem?_eq_none (by rw[eord_size];exact Nat.le_refl _)]
 dsimp only[Option.map]
 refine wpAny_bind (wpAny_setField hoj hd (by simp) ?_)
 refine wpAny_bind (m:=newExc (.type "StopIteration") []) ?_
 simp only[newExc,newTuple]
 refine wpAny_bind (wpAny_newObj_type ?_ (by size_fits))
 refine wpAny_bind (m:=firstArgMember _ _) (wpAny_of_eq (a:=Value.none) (by first|rfl|(simp only[firstArgMember];rfl)) ?_)
 refine wpAny_newObj_type ?_ (by size_fits)
 simp only[raiseNew]
 refine wpAny_bind (wpAny_handled ?_)
 rw[show A.in1.handled=none from hh]
 refine wpAny_bind (wpAny_pure (wpAny_throw ?_))
 refine wpAny_bind (wpAny_isInstance (T:="StopIteration") (b:=true) ⟨_,Heap.get?_push_size _ rfl,rfl⟩ isSubtype_stop ?_)
 exact wpAny_pure (h _ (((Heap.SameBut.update ..).extBut.push _).push _))
theorem walks_set(hh:A.handled=none)(J S:Addr)(hne:S≠J)(o:Obj)(es:Array (Int×Value))(ep:Nat)(t:SetTable)(I:Inv0 t es)(hp:t.plain=true)(hl:t.led=led0 w) :
  Walks prog w A J [J,S] [J] es.size (fun i v=>∃e,(eord w S ep es)[i]?=some e/\v=e.2) (fun i h=>ItAt w h J S o es ep t i) where
 sub:=fun b hb=>by simp at hb;simp[hb]
 frame:=fun i h h' st hk=>by
  obtain⟨⟨oj,hoj,hc,hd⟩,hS⟩:=st
  exact⟨⟨oj,hk J (by simp) _ hoj,hc,hd⟩,hk S (by simp) _ hS⟩
 item:=fun i s Q E hi st hQ=>next_item hne st I hp hl hi fun e h' he st' hs'=>hQ _ h' s.toks ⟨e,he,rfl⟩ st' fun b ob hb eb=>hs'.extBut b ob (fun z=>hb (by simp[z])) eb
 done:=fun s Q E st hQ=>next_end hh st I hp hl fun h' he'=>hQ h' s.toks fun b ob hb eb=>he' b ob (fun z=>hb (by simp[z])) eb
 self:=fun i s Q E st hQ=>by
  obtain⟨⟨oj,hoj,hc,hd⟩,hS⟩:=st
  have hT:s.TypeIs (.ref J) "set_iterator":=⟨_,hoj,hc⟩
  refine wpAny_pyIter_slot hT slot_seti_iter (wpAny_call_entry slot_seti_iter hT entry_seti_iter ?_ (args_seti_iter _))
  show wpAny _ _ (ret (.ref J)) _ _ s
  exact wpAny_pure ⟨_,rfl,"set_iterator",_,hT,slot_seti_next.lookup,hQ⟩
end
end Stb
end
section
namespace Stb
open PySem PyProof.Rows SetTable
theorem set_len_look:typeLookup (.type "set") "__len__"=pure (some (.builtin "set.__len__")):=by rw[typeLookup_type,builtinLookup_eq_fast];kernel_rfl
section
variable {prog:Program} {w:World} {A:Around} {E:Value->Shared->Prop} {s:Shared}
abbrev lo0:Obj:={ cls:=.type "list",data:=.seq ([]:List Value).toArray }
set_option maxHeartbeats 2000000 in
theorem collect_set{S:Addr}{o:Obj}{es:Array (Int×Value)}{ep:Nat}{t:SetTable}{Q:List Value->Shared->Prop}(hh:A.handled=none)(hc:o.cls = .type "set")(hS:s.heap.get? S=some { o with data:=.set es ep t })(I:Inv0 t es)(hp:t.plain=true)(hl:t.led=led0 w)(hn:es.size<=sizeLine)
  (h:∀(h':Heap) tk,s.heap.objs.size<h'.objs.size->(∀b ob,s.heap.get? b=some ob->h'.get? b=some ob)->Q ((eord w S ep es).toList.map (·.2)) { s with heap:=h',toks:=tk }):wpAny (model prog w) A (collect (.ref S)) Q E s:=by
 have hSlt:=Heap.lt_size hS
 unfold collect
 refine wpAny_bind (wpAny_runValue (codeAny_builtin F.entry_proto_collect ?_))
 rw[Around.under_plainId F.plain_proto_collect _]
 show wpAny _ A.in1 (newList [] >>= fun l=>again (.builtin "list.__iadd__" ⟨[l,.ref S],[]⟩)) _ _ s
 refine wpAny_bind (wpAny_newObj_type ?_)
 refine wpAny_pure ⟨plainId_quiet F.plain_list_iadd _,codeAny_builtin F.entry_list_iadd ?_⟩
 rw[Around.under_plainId F.plain_list_iadd _]
 have hS1:(s.heap.push lo0).get? S=some { o with data:=.set es ep t }:=Heap.get?_push_of_some _ hS
 have hT1:Shared.TypeIs { s with heap:=s.heap.push lo0 } (.ref S) "set":=⟨_,hS1,hc⟩
 show wpAny _ A.in1 (Builtin.List.listExtendWith (.ref s.heap.objs.size) (.ref S) (.ref s.heap.objs.size)) _ _ _
 unfold Builtin.List.listExtendWith
 refine wpAny_bind (wpAny_typeOf hT1 ?_)
 have h1:Builtin.List.listSameRef (.ref s.heap.objs.size) (.ref S)=false:=by simp[Builtin.List.listSameRef];exact Nat.ne_of_gt hSlt
 have h2:(Value.type "set"==Value.type "list")=false:=by decide
 have h3:(Value.type "set"==Value.type "tuple")=false:=by decide
 simp only[h1,h2,h3,Bool.or_false,Bool.false_eq_true,if_false]
 refine wpAny_bind (iter_set hc hS1 I hp ?_)
 have hS2:((s.heap.push lo0).push (itO 0 0 es.size ep S)).get? S=some { o with data:=.set es ep t }:=Heap.get?_push_of_some _ hS1
 have hT2:Shared.TypeIs { s with heap:=(s.heap.push lo0).push (itO 0 0 es.size ep S) } (.ref S) "set":=⟨_,hS2,hc⟩
 have hL2:((s.heap.push lo0).push (itO 0 0 es.size ep S)).get? s.heap.objs.size=some lo0:=Heap.get?_push_of_some _ (Heap.get?_push_size _ rfl)
 have hJ2:((s.heap.push lo0).push (itO 0 0 es.size ep S)).get? (s.heap.push lo0).objs.size=some (itO 0 0 es.size ep S):=Heap.get?_push_size _ rfl
 have hJn:(s.heap.push lo0).objs.size=s.heap.objs.size+1:=Heap.size_push ..
 refine wpAny_bind (wpAny_holding ?_)
 unfold Builtin.List.listLengthHint
 refine wpAny_bind (wpAny_specialOf hT2 set_len_look ?_)
 dsimp only
 rw[show splitId "set.__len__"=some ("set","__len__") by decide +kernel]
 dsimp only
 refine wpAny_bind (wpAny_isInstance (b:=true) hT2 sub_set_self ?_)
 simp only[Bool.not_true,Bool.false_eq_true,if_false]
 rw[if_pos (by decide +kernel)]
 refine wpAny_bind (wpAny_typeOf hT2 (wpAny_pure ?_))
 rw[if_pos (by decide +kernel)]
 show wpAny _ A.in1 (rule "list.extend.makes-room" >>= fun _ => Builtin.List.listTouch (.ref s.heap.objs.size) >>= fun _ =>
  again (.builtin "list.extend.loop" ⟨[.ref s.heap.objs.size,.ref (s.heap.push lo0).objs.size,.ref s.heap.objs.size],[]⟩)) _ _ _
 refine wpAny_bind (wpAny_rule ?_)
 refine wpAny_bind ?_
 show wpAny _ A.in1 (updateSeq s.heap.objs.size (·.push .none) >>= fun _=>updateSeq s.heap.objs.size (·.pop)) _ _ _
 refine wpAny_bind (wpAny_updateSeq hL2 rfl ?_)
 have hL3:=Heap.get?_update_self (Obj.mapSeq (·.push Value.none)) hL2 rfl
 refine wpAny_updateSeq hL3 rfl ?_
 have hL4:=Heap.get?_update_self (Obj.mapSeq (·.pop)) hL3 rfl
 have oth:∀b ob,b≠s.heap.objs.size->((s.heap.push lo0).push (itO 0 0 es.size ep S)).get? b=some ob ->
   ((((s.heap.push lo0).push (itO 0 0 es.size ep S)).update s.heap.objs.size (Obj.mapSeq (·.push Value.none))).update s.heap.objs.size (Obj.mapSeq (·.pop))).get? b=some ob :=
  fun b ob hb e=>(Heap.get?_update_other _ _ (Ne.symm hb)).trans ((Heap.get?_update_other _ _ (Ne.symm hb)).trans e)
 have hne:S≠(s.heap.push lo0).objs.size:=by rw[hJn];exact Nat.ne_of_lt (Nat.lt_succ_of_lt hSlt)
 have hJne:(s.heap.push lo0).objs.size≠s.heap.objs.size:=by rw[hJn];exact Nat.ne_of_gt (Nat.lt_succ_self _)
 have hSf:s.heap.objs.size∉[(s.heap.push lo0).objs.size,S]:=by
  simp only[List.mem_cons,List.mem_singleton,List.not_mem_nil,or_false,not_or]
  exact⟨Ne.symm hJne,Nat.ne_of_gt hSlt⟩
 have W:=(walks_set (prog:=prog) (w:=w) (A:=A.in1) (by simpa using hh) (s.heap.push lo0).objs.size S hne o es ep t I hp hl).toS
 have z0:slt w t 0=0:=by unfold slt;split<;>rfl
 refine wpAny_pure ⟨plainId_quiet F.plain_extend_loop _, codeAny_extend_loopS W hn _ hSf _ es.size 0 _ _ _ rfl (Nat.zero_le _)
  ⟨⟨_,oth _ _ hJne hJ2,rfl,by rw[z0]⟩,oth _ _ (Nat.ne_of_lt hSlt) hS2⟩ hL4 (ItemsOf.nil _) fun s' acc' c' hm hS' hacc=>?_⟩
 show wpAny _ A (load s.heap.objs.size >>= _) _ _ s'
 refine wpAny_bind (wpAny_load hS' ?_)
 have el:acc'.toList=(eord w S ep es).toList.map (·.2):=by
  refine List.ext_getElem? fun i=>?_
  rcases Nat.lt_or_ge i es.size with q|q
  ·have q1:i<acc'.size:=by rw[hacc.1];exact q
   obtain⟨e,e1,e2⟩:=hacc.2 i acc'[i] (Array.getElem?_eq_getElem q1)
   rw[Array.getElem?_toList,Array.getElem?_eq_getElem q1,List.getElem?_map,Array.getElem?_toList,e1,e2];rfl
  ·rw[Array.getElem?_toList,Array.getElem?_eq_none (by rw[hacc.1];exact q),List.getElem?_eq_none (by simp[eord_size];exact q)]
 show wpAny _ _ (pure acc'.toList) _ _ _
 rw[el]
 obtain⟨h',g',d',tk',os'⟩:=s'
 have eg:g'=s.gens:=hm.gens
 have ed:d'=s.drawn:=hm.drawn
 have eo:os'=s.os:=hm.os
 subst eg;subst ed;subst eo
 refine wpAny_pure (h h' tk' (Heap.lt_size hS') fun b ob e=>?_)
 have hb:=Heap.lt_size e
 refine hm.heap b ob ?_ (oth b ob (Nat.ne_of_lt hb) (Heap.get?_push_of_some _ (Heap.get?_push_of_some _ e)))
 rw[hJn]
 simp only[List.mem_cons,List.mem_singleton,List.not_mem_nil,or_false,not_or]
 exact⟨Nat.ne_of_lt hb,Nat.ne_of_lt (Nat.lt_succ_of_lt hb)⟩
end
end Stb
end
section
namespace DL
open PySem L2 PyProof.Rows
variable {K:PySem.W.Frag}
theorem items_of{prog:Program}{w:World}:∀{vs:List Value} {ns:List Int},IntsAre vs ns->ItemsAre (intKind prog w) ns vs
 |_,_,.nil=>.nil
 |_,_,.cons _ _ h=>.cons (by simp[intKind,Value.isInt]) (items_of h)
theorem key_at{X:Cx}{pins:List (Addr×Obj)}{σ:L2.St}{H:Hp}{s:Shared}(I:Inv X pins σ H s){b:Addr}{k:List Int}(h:SqT X.K H b (k.map V.int)):Stb.TK X.prog X.w s.heap k b:=by
 obtain⟨its,r1,⟨o,e,c,n,q⟩,_⟩:=I.tuple h
 exact⟨o,its.toArray,n,e,c,q,by simpa using items_of (intsAre_of r1)⟩
def phiS(w:World)(p:Addr)(bs:List Addr):Heap->Prop:=fun h=>∃(o:Obj) (es:Array (Int×Value)) (ep:Nat) (t:SetTable),o.cls = .type "set"/\h.get? p=some { o with data:=.set es ep t }/\Stb.Inv0 t es/\t.plain=true/\t.led=Stb.led0 w/\(es.toList.map (·.2)).Perm (bs.map Value.ref)
def rSetN(K:PySem.W.Frag)(w:World):List V->Hp->VK->Prop:=fun xs H Q=>∃(a:Addr) (zs:List (Addr×List Int)),xs=[.ref a]/\SqL K H a (zs.map fun z=>V.ref z.1)/\(∀z∈zs,SqT K H z.1 (z.2.map V.int))/\zs.length<4914 /\
 ∀(p:Addr) (zs':List (Addr×List Int)),H p=none->(∀z∈zs',z∈zs)->(zs'.map (·.2)).Nodup->(∀k,k∈zs'.map (·.2)↔k∈zs.map (·.2))->Q (.ref p) (upd H p (.ext (phiS w p (zs'.map (·.1)))))
theorem dd_mem{val:Nat->List Int}{k:List Int}:∀{n:Nat},k∈Stb.dd val n↔∃i,i<n/\val i=k
 |0=>⟨fun h=>(List.not_mem_nil h).elim,fun⟨i,h,_⟩=>absurd h (Nat.not_lt_zero i)⟩
 |n+1=>by
  show k∈Stb.ins (Stb.dd val n) (val n)↔_
  have ih:=dd_mem (val:=val) (k:=k) (n:=n)
  have e:k∈Stb.ins (Stb.dd val n) (val n)↔k∈Stb.dd val n\/k=val n:=by
   unfold Stb.ins
   split
   ·rename_i c
    exact⟨.inl,fun z=>z.elim id fun q=>q▸c⟩
   ·simp
  rw[e,ih]
  constructor
  ·rintro(⟨i,h1,h2⟩|h)
   ·exact⟨i,by omega,h2⟩
   ·exact⟨n,by omega,h.symm⟩
  ·rintro⟨i,h1,h2⟩
   rcases Nat.lt_or_ge i n with q|q
   ·exact .inl ⟨i,q,h2⟩
   ·rw[show i=n by omega]at h2;exact .inr h2.symm
theorem pick_zs{h:Heap}{P:Program}{w:World}{zs:List (Addr×List Int)}(hk:∀z∈zs,Stb.TK P w h z.2 z.1):∀{l:List (Int×Value)},(∀e∈l,∃b ks,e=(Stb.hsh P w ks,Value.ref b)/\Stb.TK P w h ks b/\∃z∈zs,z.1=b) ->
  ∃zs':List (Addr×List Int),(∀z∈zs',z∈zs)/\l.map (·.2)=(zs'.map (·.1)).map Value.ref/\zs'.map (·.2)=l.map fun e=>Stb.tk h e.2
 |[],_=>⟨[],fun z hz=>(List.not_mem_nil hz).elim,rfl,rfl⟩
 |e::l,hl=>by
  obtain⟨zs',a1,a2,a3⟩:=pick_zs hk (l:=l) fun x hx=>hl x (List.mem_cons_of_mem _ hx)
  obtain⟨b,ks,rfl,h2,z,hz,rfl⟩:=hl e List.mem_cons_self
  have ek:ks=z.2:=h2.inj (hk z hz)
  subst ek
  refine⟨z::zs',fun y hy=>?_,?_,?_⟩
  ·rcases List.mem_cons.mp hy with rfl|hy
   ·exact hz
   ·exact a1 y hy
  ·rw[List.map_cons,a2];rfl
  ·rw[List.map_cons,List.map_cons,a3,show Stb.tk h (Stb.hsh P w z.2,Value.ref z.1).2=z.2 from Stb.tk_eq h2]
theorem call_setN{X:Cx}(hc:X.calm=true)(hu:X.A.units+64<cLine):CallR X (.type "set") (rSetN X.K X.w):=by
 intro pins s σ H xs us Q I r h
 obtain⟨a,zs,rfl,hq,ht,hz,q⟩:=h
 obtain⟨u,rfl,ru⟩:=vals1 r
 cases ru
 obtain⟨its,rv,pl,_⟩:=I.list hq
 have e:=vals_refs rv
 subst e
 have hsz:(zs.map fun z=>Value.ref z.1).toArray.size=zs.length:=by simp
 refine Stb.call_set (B:=fun b=>∃z∈zs,z.1=b) (val:=fun i=>(zs.getD i (0,[])).2) (I.ok.hd hc) (by omega) pl.isList (fun i v hv=>?_) (by rw[hsz];exact hz) fun h' tk o ho hS keep=>?_
 ·have hi:i<zs.length:=by
   have:=(Array.getElem?_eq_some_iff.mp hv).1
   rwa [hsz]at this
  have ev:v=Value.ref zs[i].1:=by
   simp[hi]at hv
   exact hv.symm
  refine⟨zs[i].1,ev,?_,zs[i],List.getElem_mem hi,rfl⟩
  have:=key_at I (ht zs[i] (List.getElem_mem hi))
  simpa[List.getD_eq_getElem?_getD,hi] using this
 ·rw[hsz]at hS
  obtain⟨es,ep,t,e1,e2,e3,e4⟩:=hS
  obtain⟨zs',hz1,hz2,hz3⟩:=pick_zs (fun z hz=>key_at I (ht z hz)) e2.ent
  have pm:(zs'.map (·.2)).Perm (Stb.dd (fun i=>(zs.getD i (0,[])).2) zs.length):=by rw[hz3];exact e2.perm
  have hp:h'.get? s.heap.objs.size=some { o with data:=.set es ep t }:=e1
  refine⟨.ref s.heap.objs.size,_,I.laid (a:=s.heap.objs.size) (o:=.ext (phiS X.w s.heap.objs.size (zs'.map (·.1)))) (t':=tk) keep (Nat.le_refl _) ?_,rfl,q s.heap.objs.size zs' (I.hok.fresh (Nat.le_refl _)) hz1 (pm.nodup_iff.mpr e2.nd) fun k=>?_⟩
  ·refine⟨⟨o,es,ep,t,ho,hp,e2.inv.toInv0,e4,e3,by rw[hz2]⟩,⟨_,hp⟩,fun h1 h2 f k=>?_⟩
   obtain⟨o',es',ep',t',f1,f2,f3⟩:=f
   exact⟨o',es',ep',t',f1,k _ f2,f3⟩
  ·rw[pm.mem_iff,dd_mem]
   constructor
   ·rintro⟨i,hi,rfl⟩
    refine List.mem_map.mpr ⟨zs[i],List.getElem_mem hi,?_⟩
    simp[List.getD_eq_getElem?_getD,hi]
   ·intro hk
    obtain⟨z,hz',rfl⟩:=List.mem_map.mp hk
    obtain⟨i,hi,rfl⟩:=List.getElem_of_mem hz'
    exact⟨i,hi,by simp[List.getD_eq_getElem?_getD,hi]⟩
def rSortS(K:PySem.W.Frag)(w:World):List V->Hp->VK->Prop:=fun xs H Q=>∃(p:Addr) (zs:List (Addr×List Int)) (d:Nat),xs=[.ref p]/\H p=some (.ext (phiS w p (zs.map (·.1))))/\(∀z∈zs,SqT K H z.1 (z.2.map V.int)/\z.2.length=d+1)/\(zs.map (·.2)).Nodup/\zs.length<4000 /\
 ∀(q:Addr) (zs':List (Addr×List Int)),H q=none->zs'.Perm zs->(zs'.map (·.2)).Pairwise (fun x y=>HT.lexLt x y=true)->Q (.ref q) (upd H q (.lst (zs'.map fun z=>V.ref z.1)))
theorem perm_map_inv{α β:Type}{f:α->β}:∀{l:List β} {m:List α},l.Perm (m.map f)->∃m':List α,m'.Perm m/\l=m'.map f
 | [], m, h => ⟨[], by
   have:=h.length_eq
   rw[List.length_map]at this
   rw[List.eq_nil_of_length_eq_zero this.symm],rfl⟩
 |y::l,m,h=>by
  have hy:y∈m.map f:=h.mem_iff.mp List.mem_cons_self
  obtain⟨x,hx,rfl⟩:=List.mem_map.mp hy
  obtain⟨s,t,rfl⟩:=List.append_of_mem hx
  have p:(s++x::t).Perm (x::(s++t)):=List.perm_middle
  have h2:l.Perm ((s++t).map f):=(h.trans (p.map f)).cons_inv
  obtain⟨m',a1,a2⟩:=perm_map_inv h2
  exact⟨x::m',(a1.cons x).trans p.symm,by rw[a2];rfl⟩
theorem call_sortS{X:Cx}(hc:X.calm=true):CallR X (.builtin "sorted") (rSortS X.K X.w):=by
 intro pins s σ H xs us Q I r h
 obtain⟨p,zs,d,rfl,hp,ht,hn,hz,q⟩:=h
 obtain⟨u,rfl,ru⟩:=vals1 r
 cases ru
 obtain⟨⟨o,es,ep,t,ho,hS,iv,hpl,hled,pm⟩,_,_⟩:=(show ObjOk X.prog X.w H s.heap p (.ext (phiS X.w p (zs.map (·.1)))) from I.hok p _ hp)
 have hsz:es.size=zs.length:=by have:=pm.length_eq;simpa using this
 have pm2:((Stb.eord X.w p ep es).toList.map (·.2)).Perm (zs.map fun z=>Value.ref z.1):=by
  refine((Stb.eord_perm p ep es).map _).trans (pm.trans ?_)
  rw[List.map_map];exact List.Perm.refl _
 obtain⟨ys,py,ey⟩:=perm_map_inv pm2
 have hy64:ys.length<4000:=by rw[py.length_eq];exact hz
 refine Calls.call_function_entry kind_sorted plain_sorted entry_sorted (args_sorted1 _) ?_
 unfold Builtin.«sorted»
 refine wpAny_bind (m:=checkCount "sorted" 1 1 _) (wpAny_pure ?_)
 refine wpAny_bind (Stb.collect_set (by simpa using I.ok.hd hc) ho hS iv hpl hled (by rw[hsz,sizeLine_eq];omega) fun h1 tk hlt keep=>?_)
 rw[ey]
 refine wpAny_bind (wpAny_newList ?_ (by rw[List.length_map,sizeLine_eq];omega))
 generalize hh2:h1.push (seqObj "list" (ys.map fun z=>Value.ref z.1).toArray 0)=h2
 have hoL:h2.get? h1.objs.size=some (seqObj "list" (ys.map fun z=>Value.ref z.1).toArray 0):=by rw[<- hh2];exact Heap.get?_push_size _ rfl
 have keep2:∀b ob,s.heap.get? b=some ob->h2.get? b=some ob/\b≠h1.objs.size:=fun b ob e=>by
  have e1:=keep b ob e
  refine⟨by rw[<- hh2];exact Heap.get?_push_of_some _ e1,Nat.ne_of_lt (Heap.lt_size e1)⟩
 have tp:Srt.Tp s.heap d (ys.map fun z=>Value.ref z.1) (ys.map (·.2)):=tp_of I fun z hz'=>ht z (py.mem_iff.mp hz')
 have nd:(ys.map (·.2)).Nodup:=((py.map (·.2)).nodup_iff).mpr hn
 show wpAny _ _ _ _ _ { s with heap:=h2,toks:=tk }
 have t2:Srt.Tp (((h2.update h1.objs.size (Obj.mapSeq fun _=>(#[]:Array Value))).push (seqObj "tuple" (ys.map fun z=>Value.ref z.1).toArray 0)).push (seqObj "list" #[] 0)) d (ys.map fun z=>Value.ref z.1) (ys.map (·.2)) :=
  tp.mono fun b ob e=>Srt.keptA (keep2 b ob e).1 (keep2 b ob e).2
 refine wpAny_bind (wpAny_holding (wpAny_call_entry slot_list_sort ⟨_,hoL,rfl⟩ entry_list_sort (Srt.list_sortT (d:=d) (ks:=ys.map (·.2)) (s:={ s with heap:=h2,toks:=tk }) hoL (by rw[List.length_map];exact hy64) nd (by rw[List.length_map,List.length_map]) t2 fun pq hA hU=>⟨_,rfl,?_⟩) (args_list_sort _)))
 refine wpAny_pure ⟨_,rfl,?_⟩
 have hlen:(ys.map fun z=>Value.ref z.1).length=ys.length:=by simp
 rw[hlen]at hA hU
 have pmq:pq.toList.Perm (List.range ys.length):=by
  have:=hA.pm.toList
  simpa using this
 have mem:∀i∈pq.toList,i<ys.length:=fun i hi=>List.mem_range.mp (pmq.mem_iff.mp hi)
 have eo:(pq.toList.map fun i=>(ys.map fun z=>Value.ref z.1).getD i Value.none)=(pq.toList.map fun i=>ys.getD i (0,[])).map fun z=>Value.ref z.1:=by
  rw[List.map_map]
  refine List.map_congr_left fun i hi=>?_
  have:=mem i hi
  simp[List.getD_eq_getElem?_getD,this]
 rw[eo]
 obtain⟨c,hcc⟩:=sortedHeap_at (out:=List.toArray ((pq.toList.map fun i=>ys.getD i (0,[])).map fun z=>Value.ref z.1)) hoL
 have perm:(pq.toList.map fun i=>ys.getD i (0,[])).Perm ys:=by
  have:=pmq.map fun i=>ys.getD i (0,[])
  rw[range_getD]at this
  exact this
 have hl2:=perm.length_eq
 have fresh:s.heap.objs.size<=h1.objs.size:=Nat.le_of_lt hlt
 refine⟨.ref h1.objs.size,_,I.laid (t':=tk) (o:=.lst ((pq.toList.map fun i=>ys.getD i (0,[])).map fun z=>V.ref z.1)) (fun b ob e=>?_) fresh ?_,rfl,q h1.objs.size (pq.toList.map fun i=>ys.getD i (0,[])) (I.hok.fresh fresh) (perm.trans py) ?_⟩
 ·rw[sortedHeap_old (keep2 b ob e).2 (Heap.lt_size (keep2 b ob e).1)];exact(keep2 b ob e).1
 ·exact⟨by rw[List.length_map,hl2];exact Nat.le_trans (Nat.le_of_lt hy64) (by decide),_,c,vals_of_refs _,hcc⟩
 ·rw[List.pairwise_iff_getElem]
  intro i j hi hj hij
  simp only[List.length_map,Array.length_toList]at hi hj
  have sz:=hA.sz
  have:=hU i j hij (by omega)
  unfold Srt.lexr at this
  have g:∀(k:Nat) (hk:k<pq.size),(ys.map (·.2)).getD (pq.getD k 0) []=(ys.getD (pq.toList[k]'(by rw[Array.length_toList];exact hk)) (0,[])).2:=fun k hk=>by
   have e1:pq.getD k 0=pq.toList[k]'(by rw[Array.length_toList];exact hk):=by simp[Array.getD,hk]
   rw[e1]
   exact map_getD (·.2) ys _ (0,[])
  rw[g i hi,g j hj]at this
  simpa using this
end DL
end
section
namespace DL
open PySem L2 PyProof.Rows
variable {K:KW}
def onceK:List (List Int)->List (List Int)
 |[]=>[]
 |k::r=>if k∈r then onceK r else k::onceK r
theorem mem_once{k:List Int}:∀{l:List (List Int)},k∈onceK l↔k∈l
 |[]=>Iff.rfl
 |x::r=>by
  have ih:=mem_once (k:=k) (l:=r)
  unfold onceK
  split
  ·rename_i c
   rw[ih]
   exact⟨List.mem_cons_of_mem _,fun z=>(List.mem_cons.mp z).elim (fun e=>e▸c) id⟩
  ·rw[List.mem_cons,List.mem_cons,ih]
theorem once_nodup:∀(l:List (List Int)),(onceK l).Nodup
 |[]=>List.nodup_nil
 |x::r=>by
  unfold onceK
  split
  ·exact once_nodup r
  ·rename_i c
   exact List.nodup_cons.mpr ⟨fun z=>c (mem_once.mp z),once_nodup r⟩
def dSS(f:DX)(τ:DS):Option (PyData×DS):=(f τ).bind fun p=>match p.1 with
 |.list xs=>(keysD xs).bind fun ks=>if ks.length<4000/\(onceK ks).length<4000/\(∀k∈ks,k.length=((ks.headD [])).length)/\1<=(ks.headD [0]).length then some (.list ((srtK (onceK ks)).map tupK),p.2) else none
 |_=>none
theorem dSS_some{f:DX}{τ τ':DS}{d:PyData}(e:dSS f τ=some (d,τ')):∃xs ks,f τ=some (.list xs,τ')/\keysD xs=some ks/\ks.length<4000/\(onceK ks).length<4000/\(∀k∈ks,k.length=((ks.headD [])).length)/\1<=(ks.headD [0]).length/\d = .list ((srtK (onceK ks)).map tupK):=by
 unfold dSS at e
 obtain⟨⟨x,τ1⟩,e1,e⟩:=oB e
 dsimp only at e
 split at e
 ·rename_i xs
  obtain⟨ks,e2,e⟩:=oB e
  split at e
  ·rename_i hc
   cases e
   exact⟨xs,ks,e1,e2,hc.1,hc.2.1,hc.2.2.1,hc.2.2.2,rfl⟩
  ·cases e
 ·cases e
theorem e_ss{w:World}{fr:Bool}{te:TE}{f:DX}(h:E K te fr f):E K (tCB (rSortS K w) (tCons (tCB (rSetN K w) (tCons te tNil)) tNil)) true (dSS f):=by
 refine⟨fun τ d τ' e=>?_,?_⟩
 ·obtain⟨xs,ks,e1,_⟩:=dSS_some e
  exact h.like _ _ _ e1
 intro S M τ σ H Q d τ' r e q
 obtain⟨xs,ks,e1,e2,l1,l2,l3,l4,rfl⟩:=dSS_some e
 refine h.run S M τ σ H _ _ _ r e1 fun v H1 r1 c1 res=>?_
 obtain⟨a,vs,rfl,hv,lv⟩:=r.isr res
 obtain⟨zs,rfl,rfl,hz⟩:=keys_is lv e2
 rw[List.length_map]at l1
 refine⟨a,zs,rfl,SqL.of (hid_iff.mp hv).2,fun z hz'=>Same.tup same_hid (hz z hz'),by omega,fun p zs' hp hsub hnd hmem=>?_⟩
 have s1:Same H1 (upd H1 p (.ext (phiS w p (zs'.map (·.1))))):=same_new hp _
 have pm:(zs'.map (·.2)).Perm (onceK (zs.map (·.2))):=(List.perm_ext_iff_of_nodup hnd (once_nodup _)).mpr fun k=>(hmem k).trans mem_once.symm
 have hl:=pm.length_eq
 rw[List.length_map]at hl
 refine⟨p,zs',((zs.map (·.2)).headD [0]).length-1,rfl,(by unfold upd;rw[if_pos rfl]),fun z hz'=>⟨Same.tup s1 (Same.tup same_hid (hz z (hsub z hz'))),?_⟩,hnd,by omega,fun p2 zs2 hp2 pm2 sr=>?_⟩
 ·have:=l3 z.2 (List.mem_map.mpr ⟨z,hsub z hz',rfl⟩)
  cases zs with
  |nil=>exact absurd (hsub z hz') (by simp)
  |cons y ys =>
   simp only[List.map_cons,List.headD_cons]at *
   omega
 ·have e3:srtK (onceK (zs.map (·.2)))=zs2.map (·.2):=srtK_eq (once_nodup _) sr fun x=>((pm2.map (·.2)).mem_iff).trans pm.mem_iff
  rw[e3]at q
  have r1':=r1.same s1
  have c1':Chg M H (upd H1 p (.ext (phiS w p (zs'.map (·.1))))):=c1.trans (.of s1)
  have s2:Same (upd H1 p (.ext (phiS w p (zs'.map (·.1))))) (upd (upd H1 p (.ext (phiS w p (zs'.map (·.1))))) p2 (.lst (zs2.map fun z=>V.ref z.1))):=same_new hp2 _
  refine q _ _ (r1'.same s2) (c1'.trans (.of s2)) ((res_new hp2 (is_keys fun z hz'=>?_)).back r1' c1')
  exact Same.tup (Same.keep s1).same (hz z (hsub z (pm2.mem_iff.mp hz')))
end DL
end
section
namespace DL
open PySem L2
end DL
end
section
namespace Dwk
open PySem
variable {prog:Program} {w:World} {A:Around} {E:Value->Shared->Prop} {s:Shared}
end Dwk
end
section
namespace DL
open PySem L2 PyProof.Rows
variable {K:PySem.W.Frag}
abbrev TsV:=List (List Int×Addr×V)
abbrev Rt:List Int×Addr×V->List Int×Addr×Value->Prop:=fun t x=>t.1=x.1/\t.2.1=x.2.1/\RelV t.2.2 x.2.2
def getT:TsV->List Int->Option V
 |[],_=>none
 |t::r,k=>if t.1=k then some t.2.2 else getT r k
def putT:TsV->List Int->Addr->V->TsV
 |[],k,b,v=>[(k,b,v)]
 |t::r,k,b,v=>if t.1=k then (t.1,t.2.1,v)::r else t::putT r k b v
def KsOk(K:PySem.W.Frag)(H:Hp)(ts:TsV):Prop:=∀t∈ts,SqT K H t.2.1 (t.1.map V.int)
theorem getT_rel{k:List Int}:∀{ts:TsV} {xs:List (List Int×Addr×Value)},Paired Rt ts xs->(match getT ts k with
  |some v=>∃p,atKey xs k=some p/\RelV v p.2
  |none=>atKey xs k=none)
 |_,_,.nil=>rfl
 |_,_,.cons (a:=t) (b:=x) (l₁:=ts) (l₂:=xs) h r=>by
  obtain⟨h1,h2,h3⟩:=h
  have ih:=getT_rel (k:=k) r
  unfold getT
  by_cases e:t.1=k
  ·rw[if_pos e]
   exact⟨x.2,by simp[atKey,List.find?_cons,h1▸e],h3⟩
  ·rw[if_neg e]
   have:atKey (x::xs) k=atKey xs k:=by simp[atKey,List.find?_cons,h1▸e]
   rw[this];exact ih
theorem put_id{k:List Int}{u:Value}:∀{xs:List (List Int×Addr×Value)},k∉xs.map (·.1)->xs.map (putAt k u)=xs
 |[],_=>rfl
 |x::xs,h=>by
  rw[List.map_cons,List.mem_cons,not_or]at h
  rw[List.map_cons,put_id h.2]
  unfold putAt
  rw[if_neg (Ne.symm h.1)]
theorem pair_keys:∀{ts:TsV} {xs:List (List Int×Addr×Value)},Paired Rt ts xs->ts.map (·.1)=xs.map (·.1)
 |_,_,.nil=>rfl
 |_,_,.cons h r=>by rw[List.map_cons,List.map_cons,h.1,pair_keys r]
theorem put_rel{k:List Int}{b:Addr}{v:V}{u:Value}(hv:RelV v u):∀{ts:TsV} {xs:List (List Int×Addr×Value)},Paired Rt ts xs->(ts.map (·.1)).Nodup->Paired Rt (putT ts k b v) (storedH xs k b u)
 |_,_,.nil,_=>.cons ⟨rfl,rfl,hv⟩ .nil
 |_,_,.cons (a:=t) (b:=x) (l₁:=ts) (l₂:=xs) h r,hn=>by
  obtain⟨h1,h2,h3⟩:=h
  rw[List.map_cons,List.nodup_cons]at hn
  have ih:=put_rel (k:=k) (b:=b) hv r hn.2
  unfold putT
  by_cases e:t.1=k
  ·rw[if_pos e]
   have ex:x.1=k:=h1▸e
   have a:atKey (x::xs) k=some x.2:=by simp[atKey,List.find?_cons,ex]
   rw[storedH_old a,List.map_cons,put_id (by rw[<- pair_keys r,<- e];exact hn.1)]
   refine .cons ?_ r
   unfold putAt
   rw[if_pos ex]
   exact⟨h1,h2,hv⟩
  ·rw[if_neg e]
   have ex:¬x.1=k:=h1▸e
   have a:atKey (x::xs) k=atKey xs k:=by simp[atKey,List.find?_cons,ex]
   cases q:atKey xs k with
   |none =>
    rw[storedH_new (a.trans q)]
    rw[storedH_new q]at ih
    exact .cons ⟨h1,h2,h3⟩ ih
   |some p =>
    rw[storedH_old (a.trans q),List.map_cons]
    rw[storedH_old q]at ih
    refine .cons ?_ ih
    unfold putAt
    rw[if_neg ex]
    exact⟨h1,h2,h3⟩
theorem putT_len(ts:TsV)(k:List Int)(b:Addr)(v:V):(putT ts k b v).length<=ts.length+1:=by
 induction ts with
 |nil=>exact Nat.le_refl _
 |cons t r ih =>
  unfold putT
  split
  ·simp
  ·simp only[List.length_cons];omega
theorem putT_keys(ts:TsV)(k:List Int)(b:Addr)(v:V):(putT ts k b v).map (·.1)=if k∈ts.map (·.1) then ts.map (·.1) else ts.map (·.1)++[k]:=by
 induction ts with
 |nil=>rfl
 |cons t r ih =>
  unfold putT
  by_cases e:t.1=k
  ·rw[if_pos e,if_pos (by simp[e])];rfl
  ·rw[if_neg e,List.map_cons,ih,List.map_cons]
   by_cases m:k∈r.map (·.1)
   ·rw[if_pos m,if_pos (List.mem_cons_of_mem _ m)]
   ·rw[if_neg m,if_neg (fun z=>(List.mem_cons.mp z).elim (fun q=>e q.symm) m)];rfl
theorem putT_nodup{ts:TsV}{k:List Int}{b:Addr}{v:V}(h:(ts.map (·.1)).Nodup):((putT ts k b v).map (·.1)).Nodup:=by
 rw[putT_keys]
 split
 ·exact h
 ·rename_i m
  refine List.nodup_append.mpr ⟨h,List.nodup_cons.mpr ⟨by simp,List.nodup_nil⟩,fun a ha c hc=>?_⟩
  rw[List.mem_singleton]at hc
  exact fun z=>m (by rw[<- hc,<- z];exact ha)
section
variable {X:Cx} {pins:List (Addr×Obj)} {σ:L2.St} {H:Hp} {s:Shared}
theorem ts_at(I:Inv X pins σ H s){a:Addr}{ts:TsV}(h:HD H a ts)(hk:KsOk X.K H ts):(a==sysModules)=false/\ts.length<=sizeLine/\(ts.map (·.1)).Nodup/\∃xs,Paired Rt ts xs/\s.heap.DictOfH (tupleKind (intKind X.prog X.w)) a xs:=by
 obtain⟨ep,h⟩:=h
 obtain⟨⟨h1,h2,h3,xs,pr,o,es,ho,he,hd,hes⟩,_,_⟩:=(show ObjOk X.prog X.w H s.heap a (.ext (phiD a ts ep)) from I.hok a _ h)
 refine⟨h1,h2,h3,xs,pr,o,es,ep,ho,he,hd,hes,?_,by rw[<- pair_keys pr];exact h3⟩
 have all:∀{ts:TsV} {xs:List (List Int×Addr×Value)},Paired Rt ts xs->KsOk X.K H ts->∀x∈xs,(tupleKind (intKind X.prog X.w)).is s.heap x.1 x.2.1:=by
  intro ts xs q
  induction q with
  |nil=>intro _ x hx;exact nomatch hx
  |@cons t x ts xs hq _ ih =>
   intro hk y hy
   rcases List.mem_cons.mp hy with e|hy
   ·subst e
    have:=key_at I (hk t List.mem_cons_self)
    rw[hq.1,hq.2.1]at this
    exact this
   ·exact ih (fun t ht=>hk t (List.mem_cons_of_mem _ ht)) y hy
 exact all pr hk
theorem ts_type(I:Inv X pins σ H s){a:Addr}{ts:TsV}(h:HD H a ts):s.TypeIs (.ref a) "dict"/\∀b,Value.ref a = .ref b->∃ob,s.heap.get? b=some ob/\ob.dict=none:=by
 obtain⟨ep,h⟩:=h
 obtain⟨⟨h1,h2,h3,xs,pr,o,es,ho,he,hd,hes⟩,_,_⟩:=(show ObjOk X.prog X.w H s.heap a (.ext (phiD a ts ep)) from I.hok a _ h)
 exact⟨⟨o,ho,he.1⟩,fun b e=>by cases e;exact⟨o,ho,he.2.1⟩⟩
end
def tGetD(K:PySem.W.Frag)(to t:TE):TE:=fun σ H Q=>to σ H fun x H1=>(∃a ts,x = .ref a/\HD H1 a ts)/\t σ H1 fun y H2=>∃a b ts k,x = .ref a/\y = .ref b/\HD H2 a ts/\KsOk K H2 ts/\SqT K H2 b (k.map V.int)/\Q ((getT ts k).getD .non) H2
theorem pe_getD{X:Cx}{o e:Expr}{to t:TE}{apos cpos:Pos}(hu:X.A.units+64<cLine)(ho:PE X o to)(ha:PE X e t)
  (hbase:attributeBase o "get" X.env (eval o X.env)=eval o X.env:=by rfl)
  (hfew : ((backTo cpos (starEach [e] X.env)).all (fun x => !x.1) && (backToKw cpos (keywordEach [] X.env)).all (fun x => x.1.isSome)
   && decide (([e]:List Expr).length+([]:List Keyword).length+(if ([]:List Keyword).isEmpty then 0 else 1)<30))=true:=by rfl)
  (hline:(apos.endLine==cpos.line)=true:=by rfl) (htr:backTo cpos (starEach [e] X.env)=[(false,eval e X.env)]:=by rfl):PE X (.Call (.Attribute o "get" apos) [e] [] cpos) (tGetD X.K to t):=by
 intro pins s σ H Q I h
 refine wpAny_Call_method hbase hfew hline PySem.F.plainAttrs_dict PySem.F.slot_dict_get PySem.F.type_dict_get (thn (ho pins s σ H _ I h) fun u s1 ⟨x,H1,I1,rx,⟨a,ts0,ex,d⟩,q1⟩=>?_)
 subst ex
 obtain rfl:u=Value.ref a:=rx
 obtain⟨t1,t2⟩:=ts_type I1 d
 refine⟨t1,t2,?_⟩
 rw[htr]
 refine Calls.callWith_builtin rfl (Calls.evalArgs_plain (Calls.spliced_cons (thn (ha pins s1 σ H1 _ I1 q1) fun iv s2 ⟨y,H2,I2,ry,a',b,ts,k,ea,eb,hq,hk,hb,q2⟩=>Calls.spliced_nil ?_)))
 cases ea;subst eb
 obtain rfl:iv=Value.ref b:=ry
 obtain⟨h1,h2,h3,xs,pr,dd⟩:=ts_at I2 hq hk
 refine call_meetsIn PySem.F.slot_dict_get dd.typeIs PySem.F.entry_dict_get (PySem.F.args_dict_get_2 _ _) (meetsH_dict_get (tupleKind (intKind X.prog X.w)) a b h1) ⟨tupleKind_room_in1 (by omega),k,xs,key_at I2 hb,dd,_,H2,I2.tok _,?_,q2⟩
 have g:=getT_rel (k:=k) pr
 cases e:getT ts k with
 |none=>rw[e]at g;rw[show atKey xs k=none from g];rfl
 |some v=>rw[e]at g;obtain⟨p,hp,rp⟩:=g;rw[hp];exact rp
def rSetD(K:PySem.W.Frag):V->V->V->Hp->(Hp->Prop)->Prop:=fun o i v H Q=>∃a b ts k,o = .ref a/\i = .ref b/\HD H a ts/\KsOk K H ts/\SqT K H b (k.map V.int)/\ts.length<sizeLine/\∀ep,Q (upd H a (.ext (phiD a (putT ts k b v) ep)))
theorem set_dict{X:Cx}(hu:X.A.units+64<cLine):PSet X (rSetD X.K):=by
 intro pins s σ H o i v ov iv u Q I ro ri rv h
 obtain⟨a,b,ts,k,rfl,rfl,hq,hk,hb,hl,q⟩:=h
 cases ro;cases ri
 obtain⟨h1,h2,h3,xs,pr,dd⟩:=ts_at I hq hk
 have hz:xs.length<=sizeLine:=by have:=congrArg List.length (pair_keys pr);simp at this;omega
 refine wpAny_setItem_heap (hsz:=hz) (tupleKind_room_in1 (by omega)) (key_at I hb) dd fun h' dd' hs=>?_
 obtain⟨o',es,ep,hq',g2,g3,g4,_,g5⟩:=dd'
 refine⟨_,?_,q ep⟩
 obtain⟨ep0,hq⟩:=hq
 refine I.write (x:=a) (e:=a) (by rw[hq];exact True.intro) (.inl rfl) (fun c z hc e=>(hs.2 c hc).trans e) ⟨o',hq'⟩ ?_
 have hp:=put_rel (k:=k) (b:=b) rv pr h3
 have hl2:=putT_len ts k b v
 refine⟨⟨h1,by omega,putT_nodup h3,_,hp,o',es,hq',g2,g3,g4⟩,⟨o',hq'⟩,fun m1 m2 f kk=>?_⟩
 obtain⟨f1,f2,f3,xs',f4,o',es',f5,f6⟩:=f
 exact⟨f1,f2,f3,xs',f4,o',es',kk _ f5,f6⟩
def tNewD:TE:=fun _ H Q=>∀p,H p=none->Q (.ref p) (upd H p (.ext (phiD p [] 0)))
theorem pe_newD{X:Cx}{pos:Pos}:PE X (.Dict [] [] pos) tNewD:=fun pins s σ H Q I h=>by
 have hb:sysModules<s.heap.objs.size:=Nat.lt_trans (by decide) (show mainGlobals<s.heap.objs.size from(I.mod.glob.keeps I.bk).lt)
 have e:(s.heap.push { cls:=.type "dict",data:=.dict #[] }).get? s.heap.objs.size=some { cls:=.type "dict",data:=.dict #[] }:=Heap.get?_push_size _ rfl
 refine wpAny_Dict_empty ⟨.ref s.heap.objs.size,_,I.laid (a:=s.heap.objs.size) (o:=.ext (phiD s.heap.objs.size [] 0)) (t':=s.toks) (fun _ _ q=>Heap.get?_push_of_some _ q) (Nat.le_refl _) ?_,rfl,h _ (I.hok.fresh (Nat.le_refl _))⟩
 refine⟨⟨beq_eq_false_iff_ne.mpr (Ne.symm (Nat.ne_of_lt hb)),Nat.zero_le _,List.nodup_nil,[],.nil,_,#[],e,⟨rfl,rfl,rfl⟩,rfl,rfl⟩,⟨_,e⟩,fun m1 m2 f kk=>?_⟩
 obtain⟨f1,f2,f3,xs',f4,o',es',f5,f6⟩:=f
 exact⟨f1,f2,f3,xs',f4,o',es',kk _ f5,f6⟩
end DL
end
section
namespace DL
open PySem L2 PyProof.Rows
variable {K:KW}
def getP:List (List Int×PyData)->List Int->Option PyData
 |[],_=>none
 |t::r,k=>if t.1=k then some t.2 else getP r k
def putP:List (List Int×PyData)->List Int->PyData->List (List Int×PyData)
 |[],k,d=>[(k,d)]
 |t::r,k,d=>if t.1=k then (t.1,d)::r else t::putP r k d
theorem putP_len(m:List (List Int×PyData))(k:List Int)(d:PyData):(putP m k d).length<=m.length+1:=by
 induction m with
 |nil=>exact Nat.le_refl _
 |cons t r ih =>
  unfold putP
  split
  ·simp
  ·simp only[List.length_cons];omega
theorem tkI_is{H:Hp}:∀{ks:List PyData} {k:List Int} {vs:List V},tkP.tkI ks=some k->IsL K H ks vs->vs=k.map V.int
 |[],_,_,e,l=>by cases e;exact l
 |.int i::ks,k,vs,e,⟨x,xs,ev,h,l⟩=>by
  unfold tkP.tkI at e
  obtain⟨k',e1,rfl⟩:=oM e
  rw[ev,tkI_is e1 l,show x=V.int i from h];rfl
 |.none::_,_,_,e,_=>by cases e
 |.bool _::_,_,_,e,_=>by cases e
 |.str _::_,_,_,e,_=>by cases e
 |.list _::_,_,_,e,_=>by cases e
 |.tuple _::_,_,_,e,_=>by cases e
 |.dict _::_,_,_,e,_=>by cases e
theorem kv_ok{H:Hp}:∀{l:List (PyData×PyData)} {ts:TsV},IsKV K H l ts->KsOk K H ts
 |[],_,h=>by rw[show _=[] from h];exact fun t ht=>nomatch ht
 |(k,d)::l,_,⟨t,tr,e,_,hk,_,r⟩=>by
  subst e
  intro y hy
  rcases List.mem_cons.mp hy with rfl|hy
  ·exact hk
  ·exact kv_ok r y hy
theorem int_inj:∀{a b:List Int},a.map PyData.int=b.map PyData.int->a=b
 |[],[],_=>rfl
 |[],_::_,h=>by cases h
 |_::_,[],h=>by cases h
 |x::a,y::b,h=>by
  rw[List.map_cons,List.map_cons]at h
  injection h with h1 h2
  injection h1 with h1
  rw[h1,int_inj h2]
theorem tkP_is{H:Hp}:∀{l:List (PyData×PyData)} {ts:TsV} {m:List (List Int×PyData)},IsKV K H l ts->tkP l=some m->m.map (·.1)=ts.map (·.1)/\l=dctP m
 |[],_,_,h,e=>by cases e;rw[show _=[] from h];exact⟨rfl,rfl⟩
 |(k,d)::l,_,m,⟨t,tr,ev,ek,hk,h,r⟩,e=>by
  subst ev ek
  unfold tkP at e
  obtain⟨k',e1,e⟩:=oB e
  obtain⟨m',e2,rfl⟩:=oM e
  rw[tkI_map]at e1
  cases e1
  obtain⟨a,b⟩:=tkP_is r e2
  exact⟨by rw[List.map_cons,List.map_cons,a],by rw[b];rfl⟩
theorem get_is{H:Hp}{k:List Int}:∀{m:List (List Int×PyData)} {ts:TsV},IsKV K H (dctP m) ts->(match getP m k with
  |some d=>∃v,getT ts k=some v/\Is K H d v
  |none=>getT ts k=none)
 |[],_,h=>by rw[show _=[] from h];rfl
 |(k',d)::m,_,⟨t,tr,ev,ek,hk,h,r⟩=>by
  subst ev
  have e1:k'=t.1:=by
   injection ek with ek
   exact int_inj ek
  have ih:=get_is (k:=k) r
  unfold getP getT
  by_cases e:t.1=k
  ·rw[if_pos e,if_pos (show((k',d):List Int×PyData).1=k from e1.trans e)]
   exact⟨_,rfl,h⟩
  ·rw[if_neg e,if_neg (show ¬((k',d):List Int×PyData).1=k from fun z=>e (e1.symm.trans z))]
   exact ih
theorem put_is{H:Hp}{k:List Int}{b:Addr}{d:PyData}{v:V}(hb:SqT K H b (k.map V.int))(hd:Is K H d v):∀{m:List (List Int×PyData)} {ts:TsV},IsKV K H (dctP m) ts->IsKV K H (dctP (putP m k d)) (putT ts k b v)
 |[],_,h=>by rw[show _=[] from h];exact⟨_,[],rfl,rfl,hb,hd,rfl⟩
 |(k',d')::m,_,⟨t,tr,ev,ek,hk,h,r⟩=>by
  subst ev
  have e1:k'=t.1:=by
   injection ek with ek
   exact int_inj ek
  unfold putP putT
  by_cases e:t.1=k
  ·rw[if_pos e,if_pos (show((k',d'):List Int×PyData).1=k from e1.trans e)]
   exact⟨_,tr,rfl,ek,hk,hd,r⟩
  ·rw[if_neg e,if_neg (show ¬((k',d'):List Int×PyData).1=k from fun z=>e (e1.symm.trans z))]
   exact⟨t,_,rfl,ek,hk,h,put_is hb hd r⟩
def fGetD:PyData->PyData->Option PyData
 |.dict l,.tuple ks=>(tkP l).bind fun m=>(tkP.tkI ks).map fun k=>(getP m k).getD .none
 |_,_=>none
theorem e_getD{fa fb:Bool}{ta tb:TE}{a b:DX}(ha:E K ta fa a)(hb:E K tb fb b):E K (tGetD K ta tb) false (dOp fGetD a b):=by
 refine⟨fun τ d τ' e=>?_,?_⟩
 ·unfold dOp at e;obtain⟨⟨x,τ1⟩,e1,e⟩:=oB e;obtain⟨⟨y,τ2⟩,e2,e⟩:=oB e;obtain⟨z,e3,e⟩:=oM e;cases e;exact(ha.like _ _ _ e1).trans (hb.like _ _ _ e2)
 intro S M τ σ H Q d τ' rr e q
 unfold dOp at e
 obtain⟨⟨x,τ1⟩,e1,e⟩:=oB e
 obtain⟨⟨y,τ2⟩,e2,e⟩:=oB e
 obtain⟨z,e3,e⟩:=oM e
 cases e
 unfold fGetD at e3
 split at e3
 ·rename_i l ks ex ey
  dsimp only at ex ey
  subst ex ey
  obtain⟨m,e4,e3⟩:=oB e3
  obtain⟨k,e5,rfl⟩:=oM e3
  refine ha.run S M τ σ H _ _ τ1 rr e1 fun v1 H1 r1 c1 i1=>?_
  have j1:=rr.isr i1
  obtain⟨p,ts,rfl,hp,lv⟩:=id j1
  refine⟨⟨p,ts,rfl,hp.unhid⟩,hb.run S M τ1 σ H1 _ _ τ2 r1 e2 fun v2 H2 r2 c2 i2=>?_⟩
  have j2:=j1.mono (c2.keep r1.sub).same
  obtain⟨p',ts',ep,hp',lv'⟩:=j2
  cases ep
  obtain⟨b',vs,rfl,hb',lb⟩:=r1.isr i2
  obtain rfl:=tkI_is e5 lb
  obtain⟨_,rfl⟩:=tkP_is lv' e4
  refine⟨p,b',ts',k,rfl,rfl,hp'.unhid,fun t ht=>Same.tup same_hid (kv_ok lv' t ht),Same.tup same_hid hb',?_⟩
  refine q _ H2 r2 (c1.trans c2) ?_
  have g:=get_is (k:=k) lv'
  cases ee:getP m k with
  |none=>rw[ee]at g;rw[show getT ts' k=none from g];exact(rfl:(V.non:V)=V.non)
  |some dd=>rw[ee]at g;obtain⟨v,g1,g2⟩:=g;rw[g1];exact g2
 ·cases e3
def dNewK(np i:Nat)(τ:DS):Option Out:=if np<=i/\i<τ.length then some (.nx (τ.set i (some (.k [])))) else none
theorem b_newK{np:Nat}{fr:Bool}{i:Nat}:B K np (tAsg tNewD (gName i)) fr (dNewK np i):=by
 intro F S M τ σ H D out hnp f ee q
 unfold dNewK at ee
 split at ee
 ·rename_i hi
  cases ee
  intro a ha
  have s:=same_new ha (HO.ext (phiD a [] 0))
  have f1:=f.hide s ha ⟨_,upd_same⟩
  have hM:¬M a:=fun z=>f.r.fresh ha (f.r.sub a z)
  exact q _ _ _ _ (f1.newM (xs:=.t []) hi.2 (Nat.le_trans hnp hi.1) (.inr rfl) hM (f.hnone ha) upd_same ⟨[],⟨0,rfl⟩,rfl⟩) fun b o hn e=>⟨fun z=>z.elim hn (ne_of_none e ha),s b o e⟩
 ·cases ee
def dPutK(i:Nat)(e k:DX)(τ:DS):Option Out:=(e τ).bind fun p=>(k p.2).bind fun q=>match q.2[i]?,q.1 with
 |some (some (.k m)),.tuple ks=>(tkP.tkI ks).bind fun c=>if m.length<sizeLine then some (.nx (q.2.set i (some (.k (putP m c p.1))))) else none
 |_,_=>none
theorem kv_len{H:Hp}:∀{l:List (PyData×PyData)} {ts:TsV},IsKV K H l ts->ts.length=l.length
 |[],_,h=>by rw[show _=[] from h];rfl
 |(k,d)::l,_,⟨t,tr,e,_,_,_,r⟩=>by subst e;rw[List.length_cons,List.length_cons,kv_len r]
theorem b_putK{np:Nat}{fr f1 f2:Bool}{i:Nat}{te tk:TE}{e k:DX}(he:E K te f1 e)(hk:E K tk f2 k):B K np (tAsg te (gSub (tVar i) tk (rSetD K))) fr (dPutK i e k):=by
 intro F S M τ σ H D out hnp f ee q
 unfold dPutK at ee
 obtain⟨⟨x,τ1⟩,e1,ee⟩:=oB ee
 obtain⟨⟨y,τ2⟩,e2,ee⟩:=oB ee
 dsimp only at ee
 split at ee
 ·rename_i m ks hx
  obtain⟨c,e3,ee⟩:=oB ee
  split at ee
  ·rename_i hml
   cases ee
   have lk1:=he.like _ _ _ e1
   have lk2:=hk.like _ _ _ e2
   refine he.weak.run S M τ σ H _ x τ1 f.r e1 fun v H1 r1 c1 i1=>?_
   obtain⟨zs,hz⟩:=lk2.kl hx
   obtain⟨p,ho,hp,hM,_,_⟩:=r1.mt i (.t zs) hz
   refine⟨.ref p,hp,hk.weak.run S M τ1 σ H1 _ _ τ2 r1 e2 fun w H2 r2 c2 i2=>?_⟩
   obtain⟨p',ho',hp',hM',hl,ts,⟨ep0,rfl⟩,lv⟩:=r2.mt i (.t m) hx
   rw[hp]at hp';cases hp'
   have Sp:=r2.sub p hM'
   obtain⟨b,vs,rfl,hb,lb⟩:=i2
   obtain rfl:=tkI_is e3 lb
   have lt:ts.length<sizeLine:=by rw[kv_len lv];unfold dctP;rw[List.length_map];exact hml
   refine⟨p,b,ts,c,rfl,rfl,⟨ep0,hl⟩,fun t ht=>Same.tup same_hid (kv_ok lv t ht),Same.tup same_hid hb,lt,fun ep=>?_⟩
   have cc:Chg (fun b=>b=p) H2 (upd H2 p (.ext (phiD p (putT ts c b v) ep))):=fun b o hn e=>by rw[upd_ne hn];exact e
   have iv:Is K (hid S H2) x v:=Is.mono (c2.keep r1.sub).same i1
   have f2:=f.step r2 (c1.trans c2) (lk1.trans lk2)
   have r3:=r2.setO (w:=.t m) (w':=.t (putP m c x)) hx hp cc upd_same (by rw[hid_upd Sp];exact⟨_,⟨ep,rfl⟩,put_is hb iv lv⟩)
   have c3:Chg M H2 (upd H2 p (.ext (phiD p (putT ts c b v) ep))):=fun b o hn e=>cc b o (fun z=>hn (by subst z;exact hM')) e
   exact q S M σ _ (f2.step r3 c3 (like_setO (w:=.t m) (w':=.t (putP m c x)) hx rfl)) (((c1.trans c2).trans c3).keep f.r.sub)
  ·cases ee
 ·cases ee
end DL
end
section
namespace DL
open PySem L2
variable {K:KW}
end DL
end
section
namespace L2
open PySem
end L2
namespace DL
open PySem L2
variable {K:KW}
end DL
end
section
namespace L2
open PySem PySem.Spec PyProof.Rows
def DF(K:PySem.W.Frag)(x:Str)(st:Stmt)(f:Addr)(fd:FuncData):Prop:=PySem.W.nsIn K mainGlobals x=some (some (.ref f))/\Fun K x x st f fd
section
variable {K:PySem.W.Frag} {x:Str} {st:Stmt} {f:Addr} {fd:FuncData} {h:Heap} {mg:Str->Option Value}
theorem DF.mk{oc:Value}{od an:Option Addr}{osl:Array (Option Value)}{kV doc pm cdv ct:Value}(a:PySem.W.nsIn K mainGlobals x=some (some (.ref f)))(l:K.lookup f=some ⟨oc,od,.func (PySem.W.fnOf x x (defArgs st) (defBody st) (defScope st) .none kV doc pm an cdv ct),osl⟩)(c:PySem.W.codeIn K cdv x=true)(k:PySem.W.keepIn K (.ref f)=true):DF K x st f (PySem.W.fnOf x x (defArgs st) (defBody st) (defScope st) .none kV doc pm an cdv ct):=⟨a,fun_mk l c k⟩
theorem DF.m(d:DF K x st f fd)(X:K.In h)(G:h.Ns mainGlobals mg):mg x=some (.ref f):=PySem.W.mg_of X G d.1
theorem DF.b{ps:List Str}(d:DF K x st f fd)(h:∀(kV doc pm:Value) (an:Option Addr) (cdv ct:Value) (us:List Value),us.length=ps.length->bindArgs (PySem.W.fnOf x x (defArgs st) (defBody st) (defScope st) .none kV doc pm an cdv ct) ⟨us,[]⟩=pure (ps.zip us)):Binds K fd ps []:=d.2.binds h
theorem DF.cal{P:Program}{w:World}{base:Heap}{k:Nat}{ps:List Str}{sp:Sp}(d:DF K x st f fd)(X:K.In h)(G:h.Ns mainGlobals mg)(o:FnOk P w K mg base CX0 k f fd ps sp)(b:∀(kV doc pm:Value) (an:Option Addr) (cdv ct:Value) (us:List Value),us.length=ps.length->bindArgs (PySem.W.fnOf x x (defArgs st) (defBody st) (defScope st) .none kV doc pm an cdv ct) ⟨us,[]⟩=pure (ps.zip us)):Cal P w K mg base k x ps sp:=Cal.of d.2 o (d.b b) (d.m X G)
end
instance {sc:Scope} {x:Str}:Decidable (Loc sc x):=by unfold Loc;infer_instance
theorem viL{sc:Scope}{x:Str}(h:Loc sc x):Vis sc x:=h.elim Or.inl fun h=>Or.inr (Or.inl h)
theorem pvL{X:Cx}(i:Nat){x:Str}{pos:Pos}(hN:X.N[i]?=some x)(hl:Loc X.env.scope x)(hd:(x==("__debug__":Str))=false/\(x==("__classdict__":Str))=false):PE X (.Name x pos) (tVar i):=pe_var hN (viL hl) hd.1 hd.2
end L2
end
section
namespace TS
open PySem PySem.W PyProof.Rows HT Srt
section
variable {prog:Program} {w:World} {A:Around} {E:Value->Shared->Prop} {s:Shared} {kv vs:List Value} {ks:List (List Int)} {d:Nat}
theorem zip_mem2(hl:vs.length=kv.length){x:Keyed}(h:x∈(kv.toArray.zip vs.toArray).toList):∃i,i<kv.length/\x=(kv.getD i Value.none,vs.getD i Value.none):=by
 have h:x∈kv.zip vs:=by simpa using h
 obtain⟨i,hi,e⟩:=List.mem_iff_getElem.mp h
 rw[List.length_zip]at hi
 refine⟨i,by omega,?_⟩
 rw[<- e]
 have h1:i<kv.length:=by omega
 have h2:i<vs.length:=by omega
 simp[List.getD_eq_getElem?_getD,h1,h2]
theorem zip_list2(hl:vs.length=kv.length):(kv.toArray.zip vs.toArray).toList=(List.range kv.length).map fun i=>(kv.getD i Value.none,vs.getD i Value.none):=by
 refine List.ext_getElem (by simp[hl]) fun i h1 h2=>?_
 have h3:i<kv.length:=by simpa using h2
 have h4:i<vs.length:=by omega
 simp[List.getD_eq_getElem?_getD,h3,h4]
theorem run_key(hp:ks.Pairwise (fun x y=>HT.lexLt x y=true))(t:Tp s.heap d kv ks)(hl:vs.length=kv.length)(h2:2<=kv.length) :
  wpAny (model prog w) A ((sortRuns').run (SortSt.mk' (tuples' true) (kv.toArray.zip vs.toArray) #[] 7 none)) (fun r s'=>arrOf r.2=kv.toArray.zip vs.toArray/\failedOf r.2=none/\s'=s) E s:=by
 have hn:ks.Nodup:=hp.imp fun {x y} h z=>by rw[z,lex_irr]at h;cases h
 let a₀:Array Keyed:=kv.toArray.zip vs.toArray
 let rk:Keyed->Nat:=fun x=>rkK ks (ks.getD (ixV kv x) [])
 have hlk:=t.len
 have mk:∀i,i<kv.length->ks.getD i []∈ks:=fun i hi=>by
  rw[List.getD_eq_getElem?_getD,List.getElem?_eq_getElem (by omega)]
  exact List.getElem_mem _
 have rki:∀i,i<kv.length->∀v,rk (kv.getD i Value.none,v)=rkK ks (ks.getD i []):=fun i hi v=>by
  show rkK ks (ks.getD (ixV kv (kv.getD i Value.none,v)) [])=_
  rw[ix_at t hn hi]
 have up:∀i j,i<j->j<kv.length->rkK ks (ks.getD i [])<rkK ks (ks.getD j []):=fun i j hij hj=>by
  refine rk_lt (mk i (by omega)) ?_
  have:=List.pairwise_iff_getElem.mp hp i j (by omega) (by omega) hij
  rw[List.getD_eq_getElem?_getD,List.getD_eq_getElem?_getD,List.getElem?_eq_getElem (by omega),List.getElem?_eq_getElem (by omega)]
  exact this
 have ans:Ans prog w A s (tuples' true) rk a₀:=by
  intro x y hx hy C hC
  obtain⟨i,hi,rfl⟩:=zip_mem2 hl hx
  obtain⟨j,hj,rfl⟩:=zip_mem2 hl hy
  rw[rki i hi,rki j hj,<- rk_iff (mk i hi) (mk j hj)]at hC
  exact ask_tup t i j C hi hj hC
 have pw:a₀.toList.Pairwise (fun x y=>rk x<rk y):=by
  show((kv.toArray.zip vs.toArray).toList).Pairwise _
  rw[zip_list2 hl]
  refine List.pairwise_map.mpr (List.Pairwise.imp_of_mem ?_ List.pairwise_lt_range)
  intro i j hi hj hij
  rw[rki i (List.mem_range.mp hi),rki j (List.mem_range.mp hj)]
  exact up i j hij (List.mem_range.mp hj)
 have nd:(a₀.toList.map rk).Nodup:=List.pairwise_map.mpr (pw.imp fun {x y} h z=>by omega)
 have hz:a₀.size=kv.length:=by show(kv.toArray.zip vs.toArray).size=_;simp[hl]
 have run:=runs_w (E:=E) (A:=A) (st:=SortSt.mk' (tuples' true) a₀ #[] 7 none) (Q:=fun _ st'=>Bs (tuples' true) a₀ st'/\So rk (arrOf st') 0 a₀.size) ans nd ⟨Array.Perm.refl _,rfl,rfl⟩ rfl (by omega) fun st' h1 h2=>⟨h1,h2⟩
 refine wpAny_mono run ?_ fun _ _ e=>e
 rintro⟨_,st'⟩ s' ⟨rfl,hB,hS⟩
 dsimp only at hB hS ⊢
 have pl:(arrOf st').toList.Perm a₀.toList:=Array.perm_iff_toList_perm.mp hB.perm
 refine⟨Array.toList_inj.mp ?_,hB.failed,rfl⟩
 refine DL.sorted_ext (R:=fun x y=>rk x<rk y) (fun a b h1 h2=>by omega) ?_ pw fun x=>pl.mem_iff
 rw[List.pairwise_iff_getElem]
 intro i j hi hj hij
 have hi':i<(arrOf st').size:=by simpa using hi
 have hj':j<(arrOf st').size:=by simpa using hj
 have:=hS i j (Nat.zero_le _) hij (by rw[<- hB.size];exact hj')
 rw[R_at (getElem?_pos _ i hi'),R_at (getElem?_pos _ j hj')]at this
 simpa using this
end
end TS
end
section
namespace L2
open PySem PySem.Spec PyProof.Rows
open DL (lmA lmPos lmQ lmPhi)
section
variable {X:Cx} {pins:List (Addr×Obj)} {σ:St} {H:Hp} {s:Shared}
theorem lam_call{A:Around}{k:Nat}{f c:Addr}{nm qual:Str}{params:Arguments}{body:Expr}{scope:Scope}{pm ctv:Value}{N ps:List Str}{us:List Value}{vs:List V}{t:TE}{Q:VK}{E:Value->Shared->Prop}
  (I:Inv X pins σ H s) (e0:Env0 X.prog X.w X.K X.mg X.base A X.stack s H) (hr:Room k A)
  (ho:s.heap.get? f=some (PySem.W.kla_obj nm qual params body scope [] pm c ctv)) (hcd:s.heap.CodeRec (.ref c) qual) (S:FnScope N ps scope)
  (hb:bindArgs (PySem.W.kla_fn nm qual params body scope [] pm (.ref c) ctv) ⟨us,[]⟩=pure (ps.zip us)) (hl:vs.length=ps.length) (r:Vals vs us)
  (ht:PE (cxOf CX0 X.prog X.w X.K X.mg X.base N qual scope f (.ref c) A X.stack s H E0) body t) (h:t (start N vs) H Q) :
  wpAny (model X.prog X.w) A (call (.ref f) us) (EP X pins σ Q) E s:=by
 have hkind:∀y∈ps.zip us,scope.names.lookup y.1=some .local\/(scope.names.lookup y.1=some .cell/\((cellsFrom (s.heap.objs.size+1) scope.names []).lookup y.1).isSome=true):=fun⟨n,v⟩ hy=>by
  rcases S.par n (List.of_mem_zip hy).1 with q|q
  ·exact .inl q
  ·exact .inr ⟨q,PySem.W.cellsFrom_some _ _ _ (.inl q)⟩
 refine wpAny_call (codeAny_mono (PySem.W.kla_callFunE (R:=CR CX0 X.stack X.prog X.w H s Q E0) hr.depth ho rfl S.co S.gen rfl hcd ?_) fun r s' hq=>?_)
 ·rw[hb]
  refine wpAny_pure (wpAny_newFunctionEnv_cells S.kind hkind fun env he s1 x=>?_)
  subst he
  refine⟨I.nolimit.keeps x.toInCall.keep,PySem.W.kla_codeExpr ?_⟩
  have J:Inv (cxOf CX0 X.prog X.w X.K X.mg X.base N qual scope f (.ref c) A X.stack s H E0) [] (start N vs) H s1:=inv_start S hr.hd e0 hl r x
  exact wpAny_mono (ht [] s1 (start N vs) H Q J h) (fun u s' ⟨v,H',J',rv,q⟩=>⟨v,H',J'.os,J'.bare,J'.base,J'.hok,rv,q⟩) fun e s' he=>he
 ·cases r with
  |error e=>exact False.elim hq
  |ok fl =>
   cases fl with
   |ret u=>exact I.after hq
   |next=>exact False.elim hq
   |brk=>exact False.elim hq
   |cont=>exact False.elim hq
def LmK(K:PySem.W.Frag)(cd:Value):Prop:=∃c,cd = .ref c/\PySem.W.codeHdIn K c lmA=true
theorem Inv.apart(I:Inv X pins σ H s){a:Addr}(h:s.heap.objs.size<=a):X.s₀.heap.objs.size<=a/\a≠X.env.locals/\(∀x c,X.env.cells.lookup x=some c->c≠a)/\(∀p∈X.pn++pins,p.1≠a)/\a∉X.fs :=
 ⟨Nat.le_trans I.sz h,Nat.ne_of_gt (Nat.lt_of_lt_of_le I.lt h),fun x c e=>by obtain⟨v,o,ho,_⟩:=I.cell x c e;exact Nat.ne_of_lt (Nat.lt_of_lt_of_le (Heap.lt_size ho) h),fun p hp=>Nat.ne_of_lt (Nat.lt_of_lt_of_le (Heap.lt_size (I.pin p hp).1) h),I.nofs h⟩
theorem lam_make{params:Arguments}{body:Expr}{scope:Scope}{Q:Value->Shared->Prop}(I:Inv X pins σ H s)(hC:LmK X.K X.env.code)(hp:H lmA=some (.exo lmPhi))(hcl:closureFor scope X.env=pure [])(hq:X.env.qual++"<lambda>"=lmQ)(hdef:defaultsOf params X.env=([],[]))
  (h:∀(f c:Addr) (ctv pm:Value) (oc:Obj) (vs:Array Value) (t:Tok) (s':Shared) (H':Hp),Inv X ((f,PySem.W.kla_obj "<lambda>" lmQ params body scope [] pm c ctv)::pins) σ H' s'->Same H H'->H' c=some (.frz oc (.own lmA))->oc.data = .fields vs->vs[1]?=some (.str lmQ t)->Q (.ref f) s') :
  wpAny (model X.prog X.w) X.A (eval (.Lambda params body scope lmPos) X.env) Q X.xe s:=by
 obtain⟨c0,hc0,hcd⟩:=hC
 obtain⟨bm,ob,b1,b2,b3,b4,b5,b6⟩:=I.mod.bm
 have C:PySem.W.CodeHd s.heap c0 lmA:=PySem.W.codeHd_of_K I.kIn hcd
 have hg:s.heap.Ns mainGlobals X.mg:=I.mod.glob.keeps I.bk
 obtain⟨⟨ps,hP,hps⟩,_,_⟩:=(show ObjOk X.prog X.w H s.heap lmA (.exo lmPhi) from I.hok _ _ hp)
 have hgP:mainGlobals≠lmA:=fun z=>by
  obtain⟨o,es,ep,e,hd,_⟩:=hg
  rw[z,hP]at e;cases e;cases hd
 have hB:s.heap.BuiltinsAt X.mg lmA:=by
  refine⟨bm,ob,b1,b2,fun z=>?_,fun z=>?_,I.bk _ _ b3,b4,b5,b6⟩
  ·obtain⟨o,es,ep,e,hd,_⟩:=I.mod.glob
   rw[z,e]at b3;cases b3;rw[hd]at b6;cases b6
  ·have e:=I.bk _ _ b3
   rw[z,hP]at e;cases e;cases b6
 have fin:∀(s1:Shared) (H1:Hp) (f c:Addr) (ctv pm:Value) (oc:Obj) (vs:Array Value) (t:Tok),Inv X pins σ H1 s1->Same H H1->f=s1.heap.objs.size->H1 c=some (.frz oc (.own lmA))->oc.data = .fields vs->vs[1]?=some (.str lmQ t) ->
   Q (.ref f) { s1 with heap:=s1.heap.push (PySem.W.kla_obj "<lambda>" lmQ params body scope [] pm c ctv) }:=fun s1 H1 f c ctv pm oc vs t I1 sm hf hc h1 h2=>by
  subst hf
  obtain⟨a1,a2,a3,a4,a5⟩:=I1.apart (Nat.le_refl _)
  have J:=I1.kept (h':=s1.heap.push (PySem.W.kla_obj "<lambda>" lmQ params body scope [] pm c ctv)) (t':=s1.toks) fun b u e=>Heap.get?_push_of_some _ e
  refine h _ c ctv pm oc vs t _ H1 (J.pins_of fun p hp=>?_) sm hc h1 h2
  rcases List.mem_cons.mp hp with rfl|hp
  ·exact⟨Heap.get?_push_size _ rfl,I1.hok.fresh (Nat.le_refl _),a2,a5,fun v z=>nomatch z⟩
  ·exact J.pin p (List.mem_append_right _ hp)
 refine PySem.W.kla_eval hdef ?_
 rw[hq]
 rcases hps with rfl|⟨c,oc,vs,t,rfl,hO,h1,h2⟩
 ·refine PySem.W.kla_makeFunction (mg:=X.mg) hcl I.ok.glob hg hc0 C hP trivial rfl hgP hB fun c' ctv h' tk hx hge hlt hrec htb=>?_
  obtain⟨c2,oc,vs,t,e2,hoc,hd,hv⟩:=hrec
  cases e2
  have hn:H c'=none:=I.hok.fresh hge
  have neP:c'≠lmA:=fun z=>by rw[z,hp]at hn;cases hn
  have nP:∀b,H b=none->b≠lmA:=fun b n z=>by rw[z,hp]at n;cases n
  have lt':∀b o,s.heap.get? b=some o->b≠c':=fun b o e=>Nat.ne_of_lt (Nat.lt_of_lt_of_le (Heap.lt_size e) hge)
  have un:Un X.fs [] H (upd H c' (.frz oc (.own lmA))) s.heap h' :=
   ⟨fun b o e n _ _ => hx b o (nP b n) e, fun b o e n _ _ => ⟨o.slots, hx b o (nP b n) e⟩, fun b o e n _ => by rw [upd_ne (lt' b o e)]; exact n, fun b o e _ => by
    by_cases z:b=lmA
    ·exact⟨_,by rw[z];exact htb⟩
    ·exact⟨o,hx b o z e⟩,
   fun b xs e=>by rw[upd_ne (ne_of_none e hn)];exact e,fun b o u e=>by rw[upd_ne (ne_of_none e hn)];exact e,fun b p e=>⟨#[],by rw[upd_ne (ne_of_none e hn),e];simp⟩⟩
  have sm:Same H (upd H c' (.frz oc (.own lmA))):=fun b o e=>by rw[upd_ne (ne_of_none e hn)];exact e
  have ok:HOk X.prog X.w (upd H c' (.frz oc (.own lmA))) h':=fun b o e=>by
   by_cases z:b=c'
   ·subst z
    rw[upd_same]at e
    cases e
    exact⟨hoc,oc,hoc⟩
   ·rw[upd_ne z]at e
    by_cases z2:b=lmA
    ·subst z2
     rw[hp]at e
     cases e
     obtain⟨_,_,st⟩:=(show ObjOk X.prog X.w H s.heap lmA (.exo lmPhi) from I.hok _ _ hp)
     exact⟨⟨_,htb,.inr ⟨c',oc,vs,t,rfl,upd_same,hd,hv⟩⟩,⟨_,htb⟩,st⟩
    ·refine(I.hok b o e).stay (fun b' u hb q=>hx b' u ?_ q) (fun b' q=>sm _ _ q) (fun b' xs q=>sm _ _ q) fun b' o' u q=>sm _ _ q
     rcases hb with rfl|hb
     ·exact z2
     ·intro z3
      rw[z3,hp]at hb
      cases hb
  exact fin { s with heap:=h',toks:=tk } _ _ c' ctv _ oc vs t (I.un un ok) sm rfl upd_same hd hv
 ·refine PySem.W.kla_makeFunctionHit (mg:=X.mg) hcl I.ok.glob hg hc0 C hP ?_ (cv:=.ref c) ?_ hB fun ctv h' tk hk hsz=>?_
  ·exact trivial
  ·rfl
  ·exact fin { s with heap:=h',toks:=tk } H _ c ctv _ oc vs t (I.kept hk) (Same.refl H) rfl hO h1 h2
end
end L2
end
section
namespace L2
open PySem PySem.Spec PyProof.Rows
open DL (lmA lmPos lmQ lmPhi)
def kyL(k:List Int):List Int:=[k.getD 1 0,k.getD 0 0]
section
variable {X:Cx} {pins:List (Addr×Obj)} {σ:St} {H:Hp} {s:Shared}
theorem Inv.adopt{a:Addr}{o:HO}{h':Heap}{t':Nat}(I:Inv X pins σ H s)(hn:H a=none)(h1:X.s₀.heap.objs.size<=a)(hL:a≠X.env.locals)(h2:∀x c,X.env.cells.lookup x=some c->c≠a)(h3:∀p∈X.pn++pins,p.1≠a)
  (k:∀b u,b≠a->s.heap.get? b=some u->h'.get? b=some u) (new:ObjOk X.prog X.w (upd H a o) h' a o):Inv X pins σ (upd H a o) { s with heap:=h',toks:=t' }:=by
 have ne:∀b u,H b=some u->b≠a:=fun b u e z=>by rw[z,hn]at e;cases e
 refine I.step (g':=s.gens) (d':=s.drawn) (ch:=[a]) (fun b hb=>?_) (fun b u _ _ hc e _=>k b u (fun z=>hc (by simp[z])) e) (fun b u _ _ hc e _=>⟨u.slots,k b u (fun z=>hc (by simp[z])) e⟩) (fun b u hc _ n=>by rw[upd_ne (fun z=>hc (by simp[z]))];exact n)
  (fun b u hc e=>⟨u,k b u (fun z=>hc (by simp[z])) e⟩) (fun b xs e=>by rw[upd_ne (ne b _ e)];exact e) (fun b u xs e=>by rw[upd_ne (ne b _ e)];exact e) (fun b ps e=>⟨#[],by rw[upd_ne (ne b _ e),e];simp⟩) (fun m hm=>?_) (fun b u e=>?_) I.bare
 ·have e:b=a:=by simpa using hb
  subst e
  exact⟨.inr h1,hL,h2,h3⟩
 ·obtain⟨o',es,ep,ho,r⟩:=hm
  exact⟨o',es,ep,k _ o' (Ne.symm hL) ho,r⟩
 ·by_cases z:b=a
  ·subst z
   rw[upd_same]at e
   cases e
   exact new
  ·rw[upd_ne z]at e
   refine(I.hok b u e).stay (fun c v hc q=>k c v ?_ q) (fun c q=>by rw[upd_ne (ne c _ q)];exact q) (fun c xs q=>by rw[upd_ne (ne c _ q)];exact q) fun c o' xs q=>by rw[upd_ne (ne c _ q)];exact q
   rcases hc with z2|z2
   ·rw[z2];exact z
   ·exact ne c _ z2
theorem same_upd{H0 H1:Hp}{a:Addr}{o:HO}(sm:Same H0 H1)(hn:H0 a=none):Same H0 (upd H1 a o):=fun b u e=>by rw[upd_ne (ne_of_none e hn)];exact sm b u e
theorem none_of{H0 H1:Hp}{a:Addr}(sm:Same H0 H1)(hn:H1 a=none):H0 a=none:=by
 cases e:H0 a with
 |none=>rfl
 |some u=>rw[sm a u e]at hn;cases hn
theorem lam_key{A:Around}{k:Nat}{f c a:Addr}{params:Arguments}{scope:Scope}{pm ctv:Value}{bx:Str}{q1 q2 q3 q4 q5 q6 q7:Pos}{j1 j2 j3}{oc:Obj}{vs:Array Value}{t:Tok}{ks:List Int}{Q:Value->Shared->Prop}{E:Value->Shared->Prop}
  (I:Inv X pins σ H s) (e0:Env0 X.prog X.w X.K X.mg X.base A X.stack s H) (hr:Room k A)
  (ho:s.heap.get? f=some (PySem.W.kla_obj "<lambda>" lmQ params (.Tuple [.Subscript (.Name bx q1) (.Constant (.int 1) j1 q2) q3,.Subscript (.Name bx q4) (.Constant (.int 0) j2 q5) q6] j3 q7) scope [] pm c ctv))
  (hc:H c=some (.frz oc (.own lmA))) (hd:oc.data = .fields vs) (hv:vs[1]?=some (.str lmQ t)) (S:FnScope [bx] [bx] scope) (hn:Loc scope bx) (hdb:(bx==("__debug__":Str))=false/\(bx==("__classdict__":Str))=false)
  (hb:∀u:Value,bindArgs (PySem.W.kla_fn "<lambda>" lmQ params (.Tuple [.Subscript (.Name bx q1) (.Constant (.int 1) j1 q2) q3,.Subscript (.Name bx q4) (.Constant (.int 0) j2 q5) q6] j3 q7) scope [] pm (.ref c) ctv) ⟨[u],[]⟩=pure [(bx,u)])
  (ha:SqT X.K H a (ks.map V.int)) (hk:2<=ks.length)
  (h:∀(p:Addr) (s':Shared),H p=none->Inv X pins σ (upd H p (.tup ((kyL ks).map V.int))) s'->Q (.ref p) s') :
  wpAny (model X.prog X.w) A (call (.ref f) [.ref a]) Q E s:=by
 obtain⟨hoc,_⟩:=(show ObjOk X.prog X.w H s.heap c (.frz oc (.own lmA)) from I.hok _ _ hc)
 obtain⟨i0,i1,r,rfl⟩:∃i0 i1 r,ks=i0::i1::r:=by
  cases ks with
  |nil=>exact absurd hk (by simp)
  |cons i0 ks =>
   cases ks with
   |nil=>exact absurd hk (by simp)
   |cons i1 r=>exact⟨i0,i1,r,rfl⟩
 have ht:∀Y:Cx,Y.env.scope=scope->Y.N=[bx]->PE Y (.Tuple [.Subscript (.Name bx q1) (.Constant (.int 1) j1 q2) q3,.Subscript (.Name bx q4) (.Constant (.int 0) j2 q5) q6] j3 q7) (tTup (tCons (tOp (rIxT Y.K) (tVar 0) (tC (.int 1))) (tCons (tOp (rIxT Y.K) (tVar 0) (tC (.int 0))) tNil))):=fun Y h1 h2 =>
  pe_tup (pa_cons (pe_ix ix_tup (pvL 0 (by rw[h2];rfl) (by rw[h1];exact hn) hdb) pe_int (fun _ _=>rfl)) (pa_cons (pe_ix ix_tup (pvL 0 (by rw[h2];rfl) (by rw[h1];exact hn) hdb) pe_int (fun _ _=>rfl)) pa_nil rfl) rfl)
 have hcr:s.heap.CodeRec (.ref c) lmQ:=⟨c,oc,vs,t,rfl,hoc,hd,hv⟩
 have z2:2<=sizeLine:=by rw[sizeLine_eq];omega
 refine thn (lam_call (Q:=fun v H'=>∃p,v = .ref p/\H p=none/\H'=upd H p (.tup ((kyL (i0::i1::r)).map V.int))) (vs:=[.ref a]) (ps:=[bx]) I e0 hr ho hcr S (hb _) rfl (.cons rfl .nil) (ht _ rfl rfl) ?_) fun u s' ⟨v,H',J,rv,p,e1,e2,e3⟩=>?_
 ·exact⟨.ref a,rfl,a,_,1,.int i1,rfl,rfl,ha,by unfold atI ixN;rw[if_pos (by omega),if_pos (by simp;omega)];rfl,.ref a,rfl,a,_,0,.int i0,rfl,rfl,ha,by unfold atI ixN;rw[if_pos (by omega),if_pos (by simp;omega)];rfl,z2,fun p hp=>⟨p,rfl,hp,rfl⟩⟩
 ·subst e1 e3
  cases rv
  exact h p s' e2 J
end
end L2
end
section
namespace L2
open PySem PySem.Spec PyProof.Rows
open DL (lmA lmPos lmQ lmPhi vals_refs vals_of_refs tp_of)
section
variable {X:Cx} {pins:List (Addr×Obj)} {σ:St} {H:Hp} {s:Shared}
abbrev rfs(zs:List (Addr×List Int)):List V:=zs.map fun z=>V.ref z.1
abbrev rfv(zs:List (Addr×List Int)):List Value:=zs.map fun z=>Value.ref z.1
theorem lam_tail{A:Around}{D kS:Addr}{e1:Nat}{zs zk:List (Addr×List Int)}{H0:Hp}{st:SortSt}{E:Value->Shared->Prop}{P:PySem.Fin->Shared->Prop}(I:Inv X ((D,seqObj "list" #[] e1)::pins) σ H s)
  (sm:Same H0 H) (hD0:H0 D=none) (hkS0:H0 kS=none) (hK:H kS=some (.lst (rfs zk))) (hz:zs.length<4000) (hkz:zk.length=zs.length) (aD:X.s₀.heap.objs.size<=D/\D≠X.env.locals/\(∀x c,X.env.cells.lookup x=some c->c≠D)/\∀p∈X.pn++pins,p.1≠D)
  (harr:arrOf st=(rfv zk).toArray.zip (rfv zs).toArray) (hf:failedOf st=none)
  (h:∀(s':Shared) (H':Hp),Inv X pins σ H' s'->Same H0 H'->H' D=some (.lst (rfs zs))->P (.done (.ret .none)) s') :
  wpAny (model X.prog X.w) A (ksk_tail D false e1 (.ref kS) st) P E s:=by
 obtain⟨_,its,n,rv,hk⟩:=(show ObjOk X.prog X.w H s.heap kS (.lst (rfs zk)) from I.hok _ _ hK)
 have ei:=vals_refs rv
 subst ei
 obtain⟨pD,nD,_⟩:=I.pin (D,seqObj "list" #[] e1) (List.mem_append_right _ (.head _))
 have neK:D≠kS:=fun z=>by rw[z,hK]at nD;cases nD
 have s1:=Heap.SameBut.update s.heap kS (Obj.mapSeq fun _=>(#[]:Array Value))
 have g1:=get?_update_seq hk fun _=>(#[]:Array Value)
 have I1:=I.write (x:=kS) (e:=kS) (o:=.lst []) (h':=s.heap.update kS (Obj.mapSeq fun _=>(#[]:Array Value))) (t':=s.toks) (by rw[hK];trivial) (.inl rfl) (fun b u hb e=>(s1.2 b hb).trans e) ⟨_,g1⟩ ⟨Nat.zero_le _,[],_,.nil,g1⟩
 obtain⟨pD1,nD1,_⟩:=I1.pin (D,seqObj "list" #[] e1) (List.mem_append_right _ (.head _))
 have esn:(arrOf st).map (·.2)=(rfv zs).toArray:=by
  rw[harr]
  refine Array.toList_inj.mp ?_
  rw[Array.toList_map]
  have:((rfv zk).toArray.zip (rfv zs).toArray).toList=(rfv zk).zip (rfv zs):=by simp
  rw[this,List.map_snd_zip (by simp[hkz])]
 unfold ksk_tail
 dsimp only
 refine wpAny_bind (listUpdate_at hk rfl ?_ (by rw[List.size_toArray,List.length_map,sizeLine_eq];omega) (Nat.zero_le _))
 refine wpAny_bind (wpAny_letGo ?_)
 refine wpAny_bind (seqEpoch_at pD1 rfl ?_)
 rw[hf]
 simp only[bne_self_eq_false,Bool.false_eq_true,if_false]
 refine wpAny_bind (listUpdate_at pD1 rfl ?_ (Nat.zero_le _) (by rw[esn,List.size_toArray,List.length_map,sizeLine_eq];omega))
 refine wpAny_pure ?_
 rw[esn]
 have s2:=Heap.SameBut.update (s.heap.update kS (Obj.mapSeq fun _=>(#[]:Array Value))) D (Obj.mapSeq fun _=>(rfv zs).toArray)
 have g2:=get?_update_seq pD1 fun _=>(rfv zs).toArray
 have I2:Inv X pins σ (upd H kS (.lst [])) { s with heap:=s.heap.update kS (Obj.mapSeq fun _=>(#[]:Array Value)) }:=I1.pins_of fun p hp=>I1.pin p (List.mem_append_right _ (.tail _ hp))
 refine h _ _ (I2.adopt (a:=D) (o:=.lst (rfs zs)) (t':=s.toks) nD1 aD.1 aD.2.1 aD.2.2.1 aD.2.2.2 (fun b u hb e=>(s2.2 b hb).trans e) ⟨by rw[List.length_map,sizeLine_eq];omega,_,_,vals_of_refs zs,g2⟩) (same_upd (same_upd sm hkS0) hD0) upd_same
theorem lam_end{A:Around}{D kS:Addr}{e1:Nat}{zs zk:List (Addr×List Int)}{H0:Hp}{E:Value->Shared->Prop}{P:PySem.Fin->Shared->Prop}(I:Inv X ((D,seqObj "list" #[] e1)::pins) σ H s)
  (sm:Same H0 H) (hD0:H0 D=none) (hkS0:H0 kS=none) (hK:H kS=some (.lst (rfs zk))) (hz:zs.length<4000) (hkz:zk.length=zs.length) (aD:X.s₀.heap.objs.size<=D/\D≠X.env.locals/\(∀x c,X.env.cells.lookup x=some c->c≠D)/\∀p∈X.pn++pins,p.1≠D)
  (hzk:∀z∈zk,SqT X.K H z.1 (z.2.map V.int)/\z.2.length=1+1) (hp:(zk.map (·.2)).Pairwise fun x y=>HT.lexLt x y=true)
  (h:∀(s':Shared) (H':Hp),Inv X pins σ H' s'->Same H0 H'->H' D=some (.lst (rfs zs))->P (.done (.ret .none)) s') :
  wpAny (model X.prog X.w) A (ksk_end D false (rfv zs).toArray e1 (.ref kS) (rfv zk).toArray) P E s:=by
 unfold ksk_end
 dsimp only
 rw[if_neg Bool.false_ne_true,if_neg Bool.false_ne_true]
 have hs:(rfv zs).toArray.size=zs.length:=by simp
 by_cases h2:(rfv zs).toArray.size<2
 ·rw[if_pos h2,if_pos h2]
  refine wpAny_bind (wpAny_pure ?_)
  rw[StateT.run_pure]
  refine wpAny_bind (wpAny_pure ?_)
  exact lam_tail I sm hD0 hkS0 hK hz hkz aD rfl rfl h
 ·rw[if_neg h2,if_neg h2]
  have t:=tp_of I hzk
  obtain⟨fs,k1,k2,k3⟩:=t.kat
  have hl:(rfv zk).length=zk.length:=by simp
  refine wpAny_bind (PySem.W.kat_kind (T:=.type "int") k1 (by rw[k2,hl];omega) (fun v hv=>by obtain⟨n,u,rfl⟩:=k3 v hv;exact PySem.W.Looks.of_pure rfl) (by decide) ?_)
  have hT:(Value.type "int" != Value.type "tuple")=true:=by decide
  rw[hT]
  refine wpAny_bind (wpAny_mono (TS.run_key (E:=E) hp t (vs:=rfv zs) (by simp[hkz]) (by rw[hl];omega)) ?_ fun _ _ e=>e)
  rintro⟨⟨⟩,st'⟩ s' ⟨har,hf,rfl⟩
  exact lam_tail I sm hD0 hkS0 hK hz hkz aD har hf h
end
end L2
end
section
namespace L2
open PySem PySem.Spec PyProof.Rows
open DL (lmA lmPos lmQ lmPhi vals_refs vals_of_refs tp_of)
section
variable {X:Cx} {pins:List (Addr×Obj)} {σ:St} {H:Hp} {s:Shared}
structure Lam(X:Cx)(params:Arguments)(body:Expr)(scope:Scope)(bx:Str):Prop where
 bd:∃(q1 q2 q3 q4 q5 q6 q7:Pos) (j1 j2 j3:Nat),body = .Tuple [.Subscript (.Name bx q1) (.Constant (.int 1) j1 q2) q3,.Subscript (.Name bx q4) (.Constant (.int 0) j2 q5) q6] j3 q7
 sc:FnScope [bx] [bx] scope
 lo:Loc scope bx
 db:(bx==("__debug__":Str))=false/\(bx==("__classdict__":Str))=false
 bi:∀pm c ctv (u:Value),bindArgs (PySem.W.kla_fn "<lambda>" lmQ params body scope [] pm c ctv) ⟨[u],[]⟩=pure [(bx,u)]
 cl:closureFor scope X.env=pure []
 qu:X.env.qual++"<lambda>"=lmQ
 df:defaultsOf params X.env=([],[])
theorem lam_rest{k:Nat}{D kS f c:Addr}{e1:Nat}{zs:List (Addr×List Int)}{H0:Hp}{params:Arguments}{body:Expr}{scope:Scope}{bx:Str}{pm ctv:Value}{oc:Obj}{vs:Array Value}{t:Tok}{E:Value->Shared->Prop}{P:PySem.Fin->Shared->Prop}(L:Lam X params body scope bx)
  (I:Inv X ((D,seqObj "list" #[] e1)::(f,PySem.W.kla_obj "<lambda>" lmQ params body scope [] pm c ctv)::pins) σ H s) (hr:Room (k+2) X.A)
  (sm:Same H0 H) (hD0:H0 D=none) (hkS0:H0 kS=none) (hK:H kS=some (.lst [])) (hz:zs.length<4000) (aD:X.s₀.heap.objs.size<=D/\D≠X.env.locals/\(∀x c,X.env.cells.lookup x=some c->c≠D)/\∀p∈X.pn++((f,PySem.W.kla_obj "<lambda>" lmQ params body scope [] pm c ctv)::pins),p.1≠D)
  (hc:H0 c=some (.frz oc (.own lmA))) (hd:oc.data = .fields vs) (hv:vs[1]?=some (.str lmQ t))
  (hzs:∀z∈zs,SqT X.K H0 z.1 (z.2.map V.int)/\2<=z.2.length) (hp:(zs.map fun z=>kyL z.2).Pairwise fun x y=>HT.lexLt x y=true)
  (h:∀(s':Shared) (H':Hp),Inv X ((f,PySem.W.kla_obj "<lambda>" lmQ params body scope [] pm c ctv)::pins) σ H' s'->Same H0 H'->H' D=some (.lst (rfs zs))->P (.done (.ret .none)) s') :
  wpAny (model X.prog X.w) X.A.in1.in1 (ksk_rest D (.ref f) false (rfv zs).toArray e1 (.ref kS)) P E s:=by
 unfold ksk_rest
 refine wpAny_bind (wpAny_rule ?_)
 rw[List.forIn_toArray]
 refine wpAny_bind (ksk_fold (fun i s' => ∃ (H' : Hp) (zk : List (Addr × List Int)), Inv X ((D, seqObj "list" #[] e1) :: (f, PySem.W.kla_obj "<lambda>" lmQ params body scope [] pm c ctv) :: pins) σ H' s' /\ Same H0 H' /\ H' kS = some (.lst (rfs zk)) /\ (∀ z ∈ zk, SqT X.K H' z.1 (z.2.map V.int) /\ z.2.length = 1 + 1) /\ zk.map (·.2) = (zs.take i).map fun z => kyL z.2) (rfv zs) 0 s
  ⟨H,[],I,sm,hK,fun z hz=>by simp at hz,by simp⟩ ?step ?done)
 case step =>
  rintro j x s' hx ⟨H',zk,I',sm',hK',hk',ek⟩
  simp only[Nat.zero_add]at ek ⊢
  obtain⟨z,hzj,rfl⟩:∃z,zs[j]?=some z/\x=Value.ref z.1:=by
   rw[List.getElem?_map]at hx
   cases q:zs[j]? with
   |none=>rw[q]at hx;cases hx
   |some z=>rw[q]at hx;cases hx;exact⟨z,rfl,rfl⟩
  obtain⟨hz1,hz2⟩:=hzs z (List.mem_of_getElem? hzj)
  obtain⟨q1,q2,q3,q4,q5,q6,q7,j1,j2,j3,eb⟩:=L.bd
  obtain⟨pf,_⟩:=I'.pin (f,PySem.W.kla_obj "<lambda>" lmQ params body scope [] pm c ctv) (List.mem_append_right _ (.tail _ (.head _)))
  have hb:=L.bi pm (.ref c) ctv
  rw[eb]at hb
  have pf':=pf
  rw[eb]at pf'
  refine wpAny_bind (wpAny_attempt (lam_key I' I'.env0.in1.in1 (hr.in1.in1) pf' (sm' _ _ hc) hd hv L.sc L.lo L.db hb (DL.Same.tup (K:=⟨X.K,X.w⟩) sm' hz1) hz2 fun p s2 hn2 I2=>?_))
  try dsimp only
  have hzl:zk.length<=zs.length:=by
   have:=congrArg List.length ek
   simp at this
   omega
  have neK:p≠kS:=fun q=>by rw[q,hK']at hn2;cases hn2
  have hK2:upd H' p (.tup ((kyL z.2).map V.int)) kS=some (.lst (rfs zk)):=by rw[upd_ne (Ne.symm neK)];exact hK'
  obtain⟨_,its,n,rv,hk⟩:=(show ObjOk X.prog X.w _ s2.heap kS (.lst (rfs zk)) from I2.hok _ _ hK2)
  have ei:=vals_refs rv
  subst ei
  have s1:=Heap.SameBut.update s2.heap kS (Obj.mapSeq (·.push (Value.ref p)))
  have g1:=get?_update_seq hk (·.push (Value.ref p))
  refine wpAny_bind (listUpdate_at hk rfl ?_ (by rw[List.size_toArray,List.length_map,sizeLine_eq];omega) (by rw[Array.size_push,List.size_toArray,List.length_map,sizeLine_eq];omega))
  have eA:((zk.map fun z=>Value.ref z.1).toArray.push (Value.ref p))=((zk++[(p,kyL z.2)]).map fun z=>Value.ref z.1).toArray:=by simp
  have I3:=I2.write (x:=kS) (e:=kS) (o:=.lst (rfs (zk++[(p,kyL z.2)]))) (t':=s2.toks) (by rw[hK2];trivial) (.inl rfl) (fun b u hb e=>(s1.2 b hb).trans e) ⟨_,g1⟩ ⟨by rw[List.length_map,List.length_append,sizeLine_eq];simp;omega,_,_,vals_of_refs _,by rw[g1,eA]⟩
  have sm3:Same H' (upd H' p (.tup ((kyL z.2).map V.int))):=same_upd (Same.refl _) hn2
  have sq:∀(a:Addr) (ys:List V),SqT X.K (upd H' p (.tup ((kyL z.2).map V.int))) a ys->SqT X.K (upd (upd H' p (.tup ((kyL z.2).map V.int))) kS (.lst (rfs (zk++[(p,kyL z.2)])))) a ys:=fun a ys h=>by
   rcases h with (h|⟨o,h⟩)|h
   ·exact .inl (.inl (by rw[upd_ne (ne_of h hK2 (fun z=>nomatch z))];exact h))
   ·exact .inl (.inr ⟨o,by rw[upd_ne (ne_of h hK2 (fun z=>nomatch z))];exact h⟩)
   ·exact .inr h
  refine wpAny_pure ⟨rfl,_,zk++[(p,kyL z.2)],I3,same_upd (fun b o e=>sm3 b o (sm' b o e)) hkS0,upd_same,fun y hy=>?_,?_⟩
  ·rcases List.mem_append.mp hy with hy|hy
   ·exact⟨sq _ _ (DL.Same.tup (K:=⟨X.K,X.w⟩) sm3 (hk' y hy).1),(hk' y hy).2⟩
   ·rw[List.mem_singleton.mp hy]
    exact⟨sq _ _ (.inl (.inl upd_same)),rfl⟩
  ·rw[List.map_append,ek,List.take_add_one,hzj]
   simp
 case done =>
  rintro s' ⟨H',zk,I',sm',hK',hk',ek⟩
  obtain⟨_,its,n,rv,hk⟩:=(show ObjOk X.prog X.w _ s'.heap kS (.lst (rfs zk)) from I'.hok _ _ hK')
  have ei:=vals_refs rv
  subst ei
  have ek:zk.map (·.2)=zs.map fun z=>kyL z.2:=by rw[ek,List.take_of_length_le (by simp)]
  have hl:zk.length=zs.length:=by simpa using congrArg List.length ek
  refine wpAny_bind (listItems_at hk rfl ?_)
  exact lam_end I' sm' hD0 hkS0 hK' hz hl aD hk' (by rw[ek];exact hp) h
theorem lam_tree{k:Nat}{D f c:Addr}{n:Nat}{zs:List (Addr×List Int)}{params:Arguments}{body:Expr}{scope:Scope}{bx:Str}{pm ctv:Value}{oc:Obj}{vs:Array Value}{t:Tok}{E:Value->Shared->Prop}{P:PySem.Fin->Shared->Prop}(L:Lam X params body scope bx)
  (I:Inv X ((f,PySem.W.kla_obj "<lambda>" lmQ params body scope [] pm c ctv)::pins) σ H s) (hr:Room (k+2) X.A) (ho:s.heap.get? D=some (seqObj "list" (rfv zs).toArray n))
  (hD0:H D=none) (hz:zs.length<4000) (aD:X.s₀.heap.objs.size<=D/\D≠X.env.locals/\(∀x c,X.env.cells.lookup x=some c->c≠D)/\(∀p∈X.pn++((f,PySem.W.kla_obj "<lambda>" lmQ params body scope [] pm c ctv)::pins),p.1≠D)/\D∉X.fs)
  (hc:H c=some (.frz oc (.own lmA))) (hd:oc.data = .fields vs) (hv:vs[1]?=some (.str lmQ t))
  (hzs:∀z∈zs,SqT X.K H z.1 (z.2.map V.int)/\2<=z.2.length) (hp:(zs.map fun z=>kyL z.2).Pairwise fun x y=>HT.lexLt x y=true)
  (h:∀(s':Shared) (H':Hp),Inv X ((f,PySem.W.kla_obj "<lambda>" lmQ params body scope [] pm c ctv)::pins) σ H' s'->Same H H'->H' D=some (.lst (rfs zs))->P (.done (.ret .none)) s') :
  wpAny (model X.prog X.w) X.A.in1.in1 (ksk_tree D (.ref f) false) P E s:=by
 have s1:=Heap.SameBut.update s.heap D (Obj.mapSeq fun _=>(#[]:Array Value))
 obtain⟨e1,ho1⟩:∃e1,(s.heap.update D (Obj.mapSeq fun _=>(#[]:Array Value))).get? D=some (seqObj "list" #[] e1):=⟨_,get?_update_seq ho fun _=>#[]⟩
 have I1:=I.turned (it:=D) (h':=s.heap.update D (Obj.mapSeq fun _=>(#[]:Array Value))) (t':=s.toks) (fun b o hb e=>(s1.2 b hb).trans e) hD0 aD.2.1 (.inr aD.1) aD.2.2.1 aD.2.2.2.1
 have I2:=I1.kept (h':=(s.heap.update D (Obj.mapSeq fun _=>(#[]:Array Value))).push (seqObj "tuple" (rfv zs).toArray 0)) (t':=s.toks) fun b u e=>Heap.get?_push_of_some _ e
 have nK:H ((s.heap.update D (Obj.mapSeq fun _=>(#[]:Array Value))).push (seqObj "tuple" (rfv zs).toArray 0)).objs.size=none:=I2.hok.fresh (Nat.le_refl _)
 have I3:=I2.laid (a:=((s.heap.update D (Obj.mapSeq fun _=>(#[]:Array Value))).push (seqObj "tuple" (rfv zs).toArray 0)).objs.size) (o:=.lst []) (h':=((s.heap.update D (Obj.mapSeq fun _=>(#[]:Array Value))).push (seqObj "tuple" (rfv zs).toArray 0)).push (seqObj "list" #[] 0)) (t':=s.toks) (fun b u e=>Heap.get?_push_of_some _ e) (Nat.le_refl _) ⟨Nat.zero_le _,[],0,.nil,Heap.get?_push_size _ rfl⟩
 have hDs:D<(s.heap.update D (Obj.mapSeq fun _=>(#[]:Array Value))).objs.size:=Heap.lt_size ho1
 unfold ksk_tree
 refine wpAny_bind (listItems_at ho rfl ?_)
 refine wpAny_bind (listUpdate_at ho rfl ?_ (by rw[List.size_toArray,List.length_map,sizeLine_eq];omega) (Nat.zero_le _))
 refine wpAny_bind (seqEpoch_at ho1 rfl ?_)
 refine wpAny_bind (wpAny_newTuple ?_ (by show(rfv zs).length<=_;rw[List.length_map,sizeLine_eq];omega))
 refine wpAny_bind (wpAny_newList ?_ (Nat.zero_le _))
 refine wpAny_holding ?_
 refine lam_rest L (k:=k) (H0:=H) (I3.pins_of fun p hp=>?_) hr (same_upd (Same.refl _) nK) hD0 nK upd_same hz ⟨aD.1,aD.2.1,aD.2.2.1,aD.2.2.2.1⟩ hc hd hv hzs hp h
 rcases List.mem_cons.mp hp with rfl|hp
 ·exact⟨Heap.get?_push_of_some _ (Heap.get?_push_of_some _ ho1),by rw[upd_ne (Nat.ne_of_lt (Nat.lt_of_lt_of_le hDs (by rw[Heap.size_push];omega)))];exact hD0,aD.2.1,aD.2.2.2.2,fun v z=>nomatch z⟩
 ·exact I3.pin p (List.mem_append_right _ hp)
end
end L2
end
section
namespace L2
open PySem PySem.Spec PyProof.Rows
open DL (lmA lmPos lmQ lmPhi vals_refs vals_of_refs tp_of)
section
variable {X:Cx}
def tSK(K:PySem.W.Frag)(te:TE):TE:=fun σ H Q=>te σ H fun x H1=>H1 lmA=some (.exo lmPhi)/\∃(a:Addr) (zs:List (Addr×List Int)),x = .ref a/\SqL K H1 a (rfs zs)/\(∀z∈zs,SqT K H1 z.1 (z.2.map V.int)/\2<=z.2.length)/\zs.length<4000 /\
 ((zs.map fun z=>kyL z.2).Pairwise fun x y=>HT.lexLt x y=true)/\∀(p:Addr) (H2:Hp),H1 p=none->Same H1 H2->H2 p=some (.lst (rfs zs))->Q (.ref p) H2
theorem pe_sortL{k:Nat}{e:Expr}{te:TE}{p pos kp:Pos}{params:Arguments}{body:Expr}{scope:Scope}{bx:Str}(L:Lam X params body scope bx)(hr:Room (k+2) X.A)(hC:LmK X.K X.env.code)(hg:Gl X "sorted")(hm:X.mg "sorted"=none)(ha:PE X e te)
  (he:starEach [e] X.env=[(false,eval e X.env)]:=by rfl):PE X (.Call (.Name "sorted" p) [e] [⟨some "key",.Lambda params body scope lmPos,kp⟩] pos) (tSK X.K te):=by
 intro pins s σ H Q I h
 refine wpAny_Call_Name_kw (ld_blt I hg hm boot_sorted ?_)
 refine callWith_kw (thn (pa_cons ha pa_nil he pos pins s σ H (fun vs H1 => match vs with
  |[x]=>H1 lmA=some (.exo lmPhi)/\∃(a:Addr) (zs:List (Addr×List Int)),x = .ref a/\SqL X.K H1 a (rfs zs)/\(∀z∈zs,SqT X.K H1 z.1 (z.2.map V.int)/\2<=z.2.length)/\zs.length<4000 /\
   ((zs.map fun z=>kyL z.2).Pairwise fun x y=>HT.lexLt x y=true)/\∀(p:Addr) (H2:Hp),H1 p=none->Same H1 H2->H2 p=some (.lst (rfs zs))->Q (.ref p) H2
  |_=>False) I h) fun us s1 ⟨vs,H1,I1,r1,q1⟩=>?_) (by rw[he];rfl) (by rw[he];rfl) rfl rfl
 rcases vs with _|⟨x,_|⟨y,r⟩⟩
 ·exact False.elim q1
 rotate_left
 ·exact False.elim q1
 obtain⟨hp,a,zs,ex,hq,hzs,hz,hpw,q⟩:=(show _/\_ from q1)
 subst ex
 obtain⟨u,rfl,ru⟩:=vals1 r1
 cases ru
 refine kws_cons (lam_make I1 hC hp L.cl L.qu L.df fun f c ctv pm oc vs t s2 H2 I2 sm hc hd hv=>kws_nil ?_)
 show wpAny _ _ (call (.builtin "sorted") [.ref a] [(Str.ofString "key",.ref f)]) _ _ _
 obtain⟨its,rv,pl,_⟩:=I2.list (sm.seq hq)
 have ei:=vals_refs rv
 subst ei
 refine call_function_entry_kw kind_sorted plain_sorted entry_sorted (ksk_s1 _ _) ?_
 unfold Builtin.«sorted»
 refine wpAny_bind (m:=checkCount "sorted" 1 1 _) (wpAny_pure ?_)
 refine wpAny_bind (collect_list pl.isList ?_ (by rw[List.length_map,sizeLine_eq];omega))
 refine wpAny_bind (wpAny_newList ?_ (by rw[List.length_map,sizeLine_eq];omega))
 have hsz:((s2.heap.push (seqObj "list" #[] 0)).update s2.heap.objs.size (Obj.mapSeq (·++(rfv zs).toArray))).objs.size=s2.heap.objs.size+1:=by
  rw[Heap.size_update,size_push']
 have hoL:(((s2.heap.push (seqObj "list" #[] 0)).update s2.heap.objs.size (Obj.mapSeq (·++(rfv zs).toArray))).push (seqObj "list" (rfv zs).toArray 0)).get? (s2.heap.objs.size+1)=some (seqObj "list" (rfv zs).toArray 0):=by
  rw[<- hsz];exact Heap.get?_push_size _ rfl
 have keep:∀b o,s2.heap.get? b=some o->(((s2.heap.push (seqObj "list" #[] 0)).update s2.heap.objs.size (Obj.mapSeq (·++(rfv zs).toArray))).push (seqObj "list" (rfv zs).toArray 0)).get? b=some o:=fun b o q=>by
  have hlt:b<s2.heap.objs.size:=Heap.lt_size q
  rw[Heap.get?_push_ne _ _ _ (by rw[hsz];exact Nat.ne_of_lt (Nat.lt_succ_of_lt hlt)),Heap.get?_update_ne _ _ _ _ (Nat.ne_of_lt hlt),Heap.get?_push_ne _ _ _ (Nat.ne_of_lt hlt)]
  exact q
 show wpAny _ _ _ _ _ { s2 with heap:=((s2.heap.push (seqObj "list" #[] 0)).update s2.heap.objs.size (Obj.mapSeq (·++(rfv zs).toArray))).push (seqObj "list" (rfv zs).toArray 0) }
 rw[hsz]
 have I4:=I2.kept (t':=s2.toks) keep
 have hD:H2 (s2.heap.objs.size+1)=none:=I2.hok.fresh (Nat.le_succ _)
 refine wpAny_bind (wpAny_holding (wpAny_call_entry_kw slot_list_sort ⟨_,hoL,rfl⟩ entry_list_sort ?_ (ksk_l1 _ _)))
 show wpAny (model X.prog X.w) X.A.in1.in1 (Builtin.«list.sort» ⟨[.ref (s2.heap.objs.size+1)],[(Str.ofString "key",.ref f)]⟩) _ _ _
 rw[ksk_t1]
 refine lam_tree L I4 hr hoL hD hz (I2.apart (Nat.le_succ _)) hc hd hv (fun z hz'=>⟨DL.Same.tup (K:=⟨X.K,X.w⟩) sm (hzs z hz').1,(hzs z hz').2⟩) hpw fun s' H' I' sm' hD'=>⟨_,rfl,wpAny_pure ⟨_,rfl,.ref (s2.heap.objs.size+1),H',I'.pins_of fun p hp=>I'.pin p (List.mem_append_right _ (.tail _ hp)),rfl,q _ H' (none_of sm hD) (sm.trans sm') hD'⟩⟩
end
end L2
namespace DL
open PySem L2
variable {K:KW}
def fSK:PyData->Option PyData
 |.list xs=>(keysD xs).bind fun ks=>if ks.length<4000/\(∀k∈ks,2<=k.length)/\(ks.map kyL).Pairwise (fun x y=>HT.lexLt x y=true) then some (.list xs) else none
 |_=>none
theorem e_SK{te:TE}{fa:Bool}{a:DX}(ha:E K te fa a):E K (tSK K te) true (dUn fSK a):=by
 refine⟨fun τ d τ' e=>?_,?_⟩
 ·unfold dUn at e;obtain⟨⟨x,τ1⟩,e1,e⟩:=oB e;obtain⟨z,e3,e⟩:=oM e;cases e;exact ha.like _ _ _ e1
 intro S M τ σ H Q d τ' rr e q
 unfold dUn at e
 obtain⟨⟨x,τ1⟩,e1,e⟩:=oB e
 obtain⟨z,e3,e⟩:=oM e
 cases e
 refine ha.run S M τ σ H _ x _ rr e1 fun v1 H1 r1 c1 i1=>?_
 have i1:=rr.isr i1
 refine⟨(hid_iff.mp r1.gr.1).2,?_⟩
 obtain⟨xs,rfl⟩:∃xs,x = .list xs:=by cases x<;>first|exact⟨_,rfl⟩|cases e3
 obtain⟨ks,ek,e3⟩:=oB e3
 split at e3
 ·rename_i hc
  obtain⟨hz,hl,hp⟩:=hc
  cases e3
  obtain⟨p,ws,rfl,h,lw⟩:=i1
  obtain⟨zs,rfl,rfl,hzs⟩:=keys_is lw ek
  rw[List.length_map]at hz
  refine⟨p,zs,rfl,SqL.of (hid_iff.mp h).2,fun z hz'=>⟨Same.tup same_hid (hzs z hz'),hl _ (List.mem_map.mpr ⟨z,hz',rfl⟩)⟩,hz,by rw[List.map_map]at hp;exact hp,fun b H2 hb sm hb2=>?_⟩
  refine q _ H2 (r1.same sm) (c1.trans (.of sm)) ((show Res K true S H1 H2 (.list xs) (.ref b) from ?_).back r1 c1)
  exact⟨.l xs,b,_,rfl,rfl,hb,hb2,_,rfl,lw.mono (Keep.same fun b' o hn e=>⟨fun z=>z.elim hn (ne_of_none e hb),sm _ _ e⟩)⟩
 ·cases e3
end DL
end
section
namespace L2
open PySem PySem.Spec PyProof.Rows
open DL (lmA lmPos lmQ lmPhi)
theorem Fun.okC{P:Program}{w:World}{K:PySem.W.Frag}{mg:Str->Option Value}{base:Heap}{x qual:Str}{st:Stmt}{f:Addr}{fd:FuncData}{N ps:List Str}{k:Nat}{sp:Sp}(F:Fun K x qual st f fd)(hC:LmK K fd.code)(S:FnScope N ps (defScope st))(len:∀vs H Q E,sp vs H Q E->vs.length=ps.length)
  (hbody : ∀ (cdv : Value), LmK K cdv -> ∀ (A : Around) (outer : List Env) (s : Shared) (H : Hp) (vs : List V) (Q : VK) (E : XK), Room k (A.deeper (envOfC qual (defScope st) s.heap.objs.size f cdv)) -> sp vs H Q E ->
   ∃t,PSs (cxOf CX0 P w K mg base N qual (defScope st) f cdv A outer s H E).nox (defBody st) t/\t { nx:=fun _ H'=>Q .non H',rt:=Q } (start N vs) H):FnOk P w K mg base CX0 (k+1) f fd ps sp:=by
 obtain⟨oc,od,kV,doc,pm,an,cdv,ct,osl,rfl,lk,hcd⟩:=F.ex
 refine fn_of lk hcd S len fun A outer s H vs Q E hr hsp=>?_
 obtain⟨t,h,q⟩:=hbody cdv hC A outer s H vs Q E hr hsp
 exact⟨t,h.nox,q⟩
theorem lm_st:∀(O1 O2:Addr->Obj->Prop) (h1 h2:Heap),lmPhi O1 h1->(∀b o,O1 b o->O2 b o)->(∀o,h1.get? lmA=some o->h2.get? lmA=some o)->lmPhi O2 h2:=fun O1 O2 h1 h2 ⟨ps,e,h⟩ ho hg =>
 ⟨ps,hg _ e,h.imp id fun⟨c,o,vs,t,a1,a2,a3⟩=>⟨c,o,vs,t,a1,ho _ _ a2,a3⟩⟩
def OnlyT(H:Hp):Prop:=H lmA=some (.exo lmPhi)/\∀b,b≠lmA->H b=none\/∃o xs,H b=some (.frz o (.lst xs))
theorem law_callT{P:Program}{w:World}{K:PySem.W.Frag}{mg mb:Str->Option Value}{CX:CXT}{k:Nat}{fa a c:Addr}{fd:FuncData}{x:Str}{sp:Sp}{s₁:Shared}{vs:List Value}{ns:List Int}
  (KX:K.In s₁.heap) (hns:s₁.heap.Ns mainGlobals mg) (hb:s₁.heap.Ns builtinsNs mb) (hbb:∀x:Str,x≠"__name__"->mb x=bootBuiltins x) (hlim:s₁.heap.NoLimit) (hbm:∃bm ob,mg "__builtins__"=some (.ref bm)/\bm≠builtinsNs/\s₁.heap.get? bm=some ob/\ob.cls = .type "module"/\ob.dict=some builtinsNs/\ob.data = .plain) (hg:s₁.gens=#[])
  (ha:s₁.heap.get? a=some { cls:=.type "list",data:=.seq vs.toArray }) (hi:IntsAre vs ns) (hl:ns.length<=sizeLine) (hr:Room k callerA)
  (hC:PySem.W.CodeHd s₁.heap c lmA) (hP:s₁.heap.get? lmA=some (PySem.W.tabObj #[])) (hPK:K.lookup lmA=none)
  (F:∀base:Heap,K.In base->base.Ns mainGlobals mg->FnOk P w K mg base CX k fa fd [x] sp) (hbind:∀(s:Shared) (u:Value),BindsTo s fd ⟨[u],[]⟩ [(x,u)])
  (hsp:∀H:Hp,OnlyT H->SqL K H a (ns.map V.int)->sp [.ref a] H (fun v H'=>v = .bl true/\H' lmA=some (.exo lmPhi)) fun _ _ _=>False)
  (hCX:∀H e s',CX [] H s₁ (fun _ _ _=>False) e s'->False) :
  codeAny (model P w) callerA (.call (.ref fa) ⟨[.ref a],[]⟩) (fun r s'=>r = .ok (.ret (.bool true))/\OldK s₁.heap s'.heap/\s'.os=s₁.os/\AllBare s'.gens) s₁:=by
 have rv:=vals_ints hi
 have lenV:=hi.length
 have aP:a≠lmA:=fun z=>by rw[z,hP]at ha;cases ha
 have core:∀H:Hp,OnlyT H->SqL K H a (ns.map V.int)->HOk P w H s₁.heap->(∀b,H b≠none->b=a\/b=lmA)->(H a≠none->K.lookup a=none) ->
   codeAny (model P w) callerA (.call (.ref fa) ⟨[.ref a],[]⟩) (fun r s'=>r = .ok (.ret (.bool true))/\OldK s₁.heap s'.heap/\s'.os=s₁.os/\AllBare s'.gens) s₁:=by
  intro H hO hS hok hA hK
  have noA:∀{b:Addr} {o:Obj} {es:Array DictEntry} {ep:Nat},s₁.heap.get? b=some o->o.data = .dict es ep->H b=none:=fun {b o es ep} e d=>by
   cases q:H b with
   |none=>rfl
   |some u =>
    rcases hA b (by rw[q];simp)with e'|e'
    ·subst e'
     rw[ha]at e;cases e
     have d':Data.seq vs.toArray _=Data.dict es ep:=d
     cases d'
    ·subst e'
     rw[hP]at e;cases e
     have d':Data.fields #[]=Data.dict es ep:=d
     cases d'
  have nsK:∀{b:Addr} {m:Str->Option Value},s₁.heap.Ns b m->(hidT s₁.heap H).Ns b m:=fun {b m} ⟨o,es,ep,e,d,r⟩=>⟨o,es,ep,hidT_get e (noA e d),d,r⟩
  have hKb : K.In (hidT s₁.heap H) := fun b o e => hidT_get (KX b o e) (by
   cases q:H b with
   |none=>rfl
   |some u =>
    rcases hA b (by rw[q];simp)with e'|e'
    ·subst e'
     rw[hK (by rw[q];simp)]at e;cases e
    ·subst e'
     rw[hPK]at e;cases e)
  have hM : Mod K mg (hidT s₁.heap H) := ⟨hKb, nsK hns, ⟨mb, nsK hb, hbb⟩, let ⟨mc, h1, h2⟩ := hlim; ⟨mc, nsK h1, h2⟩, by
   obtain⟨bm,ob,b1,b2,b3,b4,b5,b6⟩:=hbm
   refine⟨bm,ob,b1,b2,hidT_get b3 ?_,b4,b5,b6⟩
   cases q:H bm with
   |none=>rfl
   |some u =>
    rcases hA bm (by rw[q];simp)with e|e
    ·subst e
     rw[ha]at b3
     cases b3
     cases b6
    ·subst e
     rw[hP]at b3
     cases b3
     cases b6⟩
  have e0:Env0 P w K mg (hidT s₁.heap H) callerA [] s₁ H:=⟨rfl,hM,fun b o e=>of_hidT e,Nat.le_of_eq (hidT_size _ _),trivial,fun b hb=>absurd (show b∈([]:List Addr) from hb) (by simp),hok,.of_eq hg⟩
  refine codeAny_mono ((F _ hKb (nsK hns)).run callerA [] s₁ H ⟨[.ref a],[]⟩ [.ref a] [.ref a] _ _ hr e0 (hbind s₁ (.ref a)) (.cons rfl .nil) (hsp H hO hS)) fun r s' h=>?_
  cases r with
  |error e=>exact(hCX H e s' h).elim
  |ok fl =>
   cases fl with
   |next=>exact False.elim h
   |brk=>exact False.elim h
   |cont=>exact False.elim h
   |ret u =>
    obtain⟨v,H',os,bare,un,hok',r',q⟩:=h
    obtain⟨q',q2⟩:=(show v = .bl true/\H' lmA=some (.exo lmPhi) from q)
    subst q'
    obtain rfl:u=Value.bool true:=r'
    refine⟨rfl,⟨fun b o e=>?_,fun b o e=>un.there b o e (by simp)⟩,os,bare⟩
    by_cases hb:b=lmA
    ·subst hb
     obtain⟨⟨more,e2,_⟩,_,_⟩:=(show ObjOk P w H' s'.heap lmA (.exo lmPhi) from hok' _ _ q2)
     have e2:s'.heap.get? lmA=some { cls:=.none,data:=.fields (#[]++more) }:=by rw[e2];simp
     rw[hP]at e;cases e
     exact .inr (.inl ⟨(hC.tab hP).isCodeTable,rfl,#[],more,rfl,e2⟩)
    cases q:H b with
    |none=>exact .inl (un.keep b o e q (by intro z;exact absurd (show b∈([]:List Addr) from z) (by simp)) (by simp))
    |some u =>
     rcases hO.2 b hb with z|⟨ob,xs,z⟩
     ·rw[q]at z;cases z
     ·have z2:=un.frzs b ob _ z
      obtain⟨e1,_⟩:=hok b _ z
      obtain⟨e2,_⟩:=hok' b _ z2
      rw[e]at e1;cases e1
      exact .inl e2
 cases hk:K.lookup a with
 |some o =>
  have e:=KX a o hk
  rw[ha]at e
  cases e
  refine core (fun b=>if b=lmA then some (.exo lmPhi) else none) ⟨if_pos rfl,fun b hb=>.inl (if_neg hb)⟩ (.inr ⟨_,vs.toArray,_,hk,rfl,rfl,rfl,by rw[List.size_toArray,lenV];exact hl,by simpa using rv⟩) (fun b u z=>?_) (fun b z=>?_) fun z=>absurd (if_neg aP) z
  ·by_cases hb:b=lmA
   ·have z':=(if_pos hb).symm.trans z
    cases z'
    subst hb
    exact⟨⟨#[],hP,.inl rfl⟩,⟨_,hP⟩,lm_st⟩
   ·have z':=(if_neg hb).symm.trans z
    cases z'
  ·by_cases hb:b=lmA
   ·exact .inr hb
   ·exact absurd (if_neg hb) z
 |none =>
  refine core (fun b=>if b=lmA then some (.exo lmPhi) else if b=a then some (.frz { cls:=.type "list",data:=.seq vs.toArray } (.lst (ns.map V.int))) else none) ⟨if_pos rfl,fun b hb=>?_⟩ (.inl (.inr ⟨{ cls:=.type "list",data:=.seq vs.toArray },(if_neg aP).trans (if_pos rfl)⟩)) (fun b u z=>?_) (fun b z=>?_) fun _=>hk
  ·by_cases hb':b=a
   ·exact .inr ⟨_,_,(if_neg hb).trans (if_pos hb')⟩
   ·exact .inl ((if_neg hb).trans (if_neg hb'))
  ·by_cases hb:b=lmA
   ·have z':=(if_pos hb).symm.trans z
    cases z'
    subst hb
    exact⟨⟨#[],hP,.inl rfl⟩,⟨_,hP⟩,lm_st⟩
   by_cases hb':b=a
   ·have z':=((if_neg hb).trans (if_pos hb')).symm.trans z
    cases z'
    subst hb'
    exact⟨ha,by rw[List.length_map];exact hl,vs,_,rv,ha⟩
   ·have z':=((if_neg hb).trans (if_neg hb')).symm.trans z
    cases z'
  ·by_cases hb:b=lmA
   ·exact .inr hb
   by_cases hb':b=a
   ·exact .inl hb'
   ·exact absurd ((if_neg hb).trans (if_neg hb')) z
theorem walk_ofT{l:PySem.W.OpenLaw}{n k:Nat}{q:Program}{loose:List Str}{XP:(Str->Option Value)->Heap->Prop}{YP:World->Heap->Prop}{d:DefRec}{K:Params->PySem.W.Frag}{CX:World->CXT}{sp:World->Sp}{x:Str}{c:Addr}
  (hn:l.most=some n) (hn2:n<=sizeLine) (hdf:d.params.defaults=[]) (hr:Room k callerA)
  (hY:∀(w:World) (h:Heap),YP w h->(K w.params).In h/\PySem.W.CodeHd h c lmA/\h.get? lmA=some (PySem.W.tabObj #[])) (hPK:∀w:World,(K w.params).lookup lmA=none)
  (F : ∀ (w : World) (mg : Str -> Option Value) (fa : Addr) (h : Heap), (K w.params).In h -> h.Ns mainGlobals mg -> mg d.name = some (.ref fa) ->
   ∃fd:FuncData,(∀(s:Shared) (u:Value),BindsTo s fd ⟨[u],[]⟩ [(x,u)]) /\
    ∀base:Heap,(K w.params).In base->base.Ns mainGlobals mg->FnOk l.prog w (K w.params) mg base (CX w) k fa fd [x] (sp w))
  (hsp:∀(w:World) (H:Hp) (a:Addr) (ns:List Int),ns.length<=n->OnlyT H->SqL (K w.params) H a (ns.map V.int)->sp w [.ref a] H (fun v H'=>v = .bl true/\H' lmA=some (.exo lmPhi)) fun _ _ _=>False)
  (hCX:∀(w:World) (H:Hp) (s:Shared) (e:Value) (s':Shared),CX w [] H s (fun _ _ _=>False) e s'->False) :
  PySem.W.WalkO q loose XP YP l.row.toRowW d [] (fun f vs=>PySem.call f vs):=by
 refine Att.attach_call hn hdf fun w s₀ s₁ mg mb fa o pm cd doc a vs ns G Y ho hd hcd hmg hobj hints hlen hg=>?_
 obtain⟨KX,hC,hP⟩:=hY w _ Y
 obtain⟨fd,hb,hF⟩:=F w mg fa _ KX G.T.g hmg
 exact law_callT KX G.T.g G.T.b G.T.builtins G.T.nolimit G.T.bmain hg hobj hints (Nat.le_trans hlen hn2) hr hC hP (hPK w) hF hb (fun H hO hS=>hsp w H a ns hlen hO hS) fun H e s'=>hCX w H s₁ e s'
end L2
end
set_option maxHeartbeats 2000000
namespace My
open PySem L2 DL
local macro_rules|`(tactic| trivial)=>`(tactic| first|rfl|(intro _;rfl)|exact .inl rfl|exact .inr rfl|with_unfolding_all rfl|decide|assumption|(intro _ _ _ _ _ _ us hl;first|(match us,hl with|[_],_=>rfl)|(match us,hl with|[_,_],_=>rfl)|(match us,hl with|[_,_,_],_=>rfl)|(match us,hl with|[_,_,_,_],_=>rfl)|(match us,hl with|[_,_,_,_,_],_=>rfl)|(match us,hl with|[],_=>rfl)))
local macro_rules|`(tactic| walk_at "dk")=>`(tactic| decide +kernel)
local macro_rules|`(tactic| walk_at "lm")=>`(tactic| exact⟨⟨_,_,_,_,_,_,_,_,_,_,rfl⟩,⟨rfl,rfl,rfl,by decide +kernel,rfl,by decide +kernel,by decide +kernel⟩,by decide +kernel,by decide +kernel,fun _ _ _ _=>rfl,rfl,(by show(("_law_right":Str)++".<locals>.")++"<lambda>"=lmQ;decide +kernel),rfl⟩)
abbrev dbP(x:Str):Prop:=(x==("__debug__":Str))=false
abbrev clP(x:Str):Prop:=(x==("__classdict__":Str))=false
abbrev glP(s:Stmt)(x:Str):Prop:=(defScope s).names.lookup x=some NameKind.globalImplicit
abbrev dcP(x:Str):Prop:=dbP x/\clP x
abbrev lcP(s:Stmt)(x:Str):Prop:=L2.Loc (defScope s) x
def top(i:Nat):Stmt:=PySem.Challenge.pw_scenemend_k06_blocks.main.body.getD i (.Pass ⟨0,0,0,0⟩)
theorem dc__law_at:dcP "_law_at":=by decide +kernel
theorem dc__law_big:dcP "_law_big":=by decide +kernel
theorem dc__law_big_here:dcP "_law_big_here":=by decide +kernel
theorem dc__law_box:dcP "_law_box":=by decide +kernel
theorem dc__law_box_of:dcP "_law_box_of":=by decide +kernel
theorem dc__law_by:dcP "_law_by":=by decide +kernel
theorem dc__law_cell:dcP "_law_cell":=by decide +kernel
theorem dc__law_cell_at:dcP "_law_cell_at":=by decide +kernel
theorem dc__law_cells:dcP "_law_cells":=by decide +kernel
theorem dc__law_cells_by:dcP "_law_cells_by":=by decide +kernel
theorem dc__law_cells_here:dcP "_law_cells_here":=by decide +kernel
theorem dc__law_digit:dcP "_law_digit":=by decide +kernel
theorem dc__law_digit_here:dcP "_law_digit_here":=by decide +kernel
theorem dc__law_drawn:dcP "_law_drawn":=by decide +kernel
theorem dc__law_found:dcP "_law_found":=by decide +kernel
theorem dc__law_h:dcP "_law_h":=by decide +kernel
theorem dc__law_handed:dcP "_law_handed":=by decide +kernel
theorem dc__law_i:dcP "_law_i":=by decide +kernel
theorem dc__law_is_stretch:dcP "_law_is_stretch":=by decide +kernel
theorem dc__law_j:dcP "_law_j":=by decide +kernel
theorem dc__law_k:dcP "_law_k":=by decide +kernel
theorem dc__law_kept:dcP "_law_kept":=by decide +kernel
theorem dc__law_many:dcP "_law_many":=by decide +kernel
theorem dc__law_one:dcP "_law_one":=by decide +kernel
theorem dc__law_others:dcP "_law_others":=by decide +kernel
theorem dc__law_part:dcP "_law_part":=by decide +kernel
theorem dc__law_prime:dcP "_law_prime":=by decide +kernel
theorem dc__law_rest:dcP "_law_rest":=by decide +kernel
theorem dc__law_right:dcP "_law_right":=by decide +kernel
theorem dc__law_road:dcP "_law_road":=by decide +kernel
theorem dc__law_script:dcP "_law_script":=by decide +kernel
theorem dc__law_size:dcP "_law_size":=by decide +kernel
theorem dc__law_told:dcP "_law_told":=by decide +kernel
theorem dc__law_tuples:dcP "_law_tuples":=by decide +kernel
theorem dc__law_w:dcP "_law_w":=by decide +kernel
theorem dc__law_wide:dcP "_law_wide":=by decide +kernel
theorem dc__law_x:dcP "_law_x":=by decide +kernel
theorem dc__law_y:dcP "_law_y":=by decide +kernel
theorem dc_block:dcP "block":=by decide +kernel
theorem dc_blocks:dcP "blocks":=by decide +kernel
theorem dc_blocks_of:dcP "blocks_of":=by decide +kernel
theorem dc_bool:dcP "bool":=by decide +kernel
theorem nam_bool:("bool":Str)≠"__name__":=by decide +kernel
theorem dc_cell:dcP "cell":=by decide +kernel
theorem dc_cells:dcP "cells":=by decide +kernel
theorem dc_int:dcP "int":=by decide +kernel
theorem nam_int:("int":Str)≠"__name__":=by decide +kernel
theorem dc_is_next:dcP "is_next":=by decide +kernel
theorem dc_isinstance:dcP "isinstance":=by decide +kernel
theorem nam_isinstance:("isinstance":Str)≠"__name__":=by decide +kernel
theorem dc_last:dcP "last":=by decide +kernel
theorem dc_latest:dcP "latest":=by decide +kernel
theorem dc_len:dcP "len":=by decide +kernel
theorem nam_len:("len":Str)≠"__name__":=by decide +kernel
theorem dc_list:dcP "list":=by decide +kernel
theorem nam_list:("list":Str)≠"__name__":=by decide +kernel
theorem dc_many:dcP "many":=by decide +kernel
theorem dc_place:dcP "place":=by decide +kernel
theorem dc_reversed:dcP "reversed":=by decide +kernel
theorem nam_reversed:("reversed":Str)≠"__name__":=by decide +kernel
theorem dc_row_by_row:dcP "row_by_row":=by decide +kernel
theorem dc_set:dcP "set":=by decide +kernel
theorem nam_set:("set":Str)≠"__name__":=by decide +kernel
theorem dc_sorted:dcP "sorted":=by decide +kernel
theorem nam_sorted:("sorted":Str)≠"__name__":=by decide +kernel
theorem dc_stretch:dcP "stretch":=by decide +kernel
theorem dc_stretches:dcP "stretches":=by decide +kernel
theorem dc_stretches_of:dcP "stretches_of":=by decide +kernel
theorem dc_tuple:dcP "tuple":=by decide +kernel
theorem nam_tuple:("tuple":Str)≠"__name__":=by decide +kernel
theorem dc_turned:dcP "turned":=by decide +kernel
theorem dc_x:dcP "x":=by decide +kernel
theorem dc_y:dcP "y":=by decide +kernel
abbrev s_L_digit:Stmt:=top 8
theorem sc_L_digit:FnScope ["_law_rest","_law_many","_law_digit_here"] ["_law_rest","_law_many"] (defScope s_L_digit):=⟨rfl,rfl,rfl,by decide +kernel,rfl,by decide +kernel,by decide +kernel⟩
theorem n_L_digit_0:lcP s_L_digit "_law_rest":=by decide +kernel
theorem n_L_digit_1:lcP s_L_digit "_law_many":=by decide +kernel
theorem n_L_digit_2:lcP s_L_digit "_law_digit_here":=by decide +kernel
abbrev s_L_cells_by:Stmt:=top 10
theorem sc_L_cells_by:FnScope ["_law_rest","_law_road","_law_wide","_law_many","_law_x","_law_y"] ["_law_rest"] (defScope s_L_cells_by):=⟨rfl,rfl,rfl,by decide +kernel,rfl,by decide +kernel,by decide +kernel⟩
theorem n_L_cells_by_0:lcP s_L_cells_by "_law_rest":=by decide +kernel
theorem n_L_cells_by_1:lcP s_L_cells_by "_law_road":=by decide +kernel
theorem n_L_cells_by_2:lcP s_L_cells_by "_law_wide":=by decide +kernel
theorem n_L_cells_by_3:lcP s_L_cells_by "_law_many":=by decide +kernel
theorem n_L_cells_by_4:lcP s_L_cells_by "_law_x":=by decide +kernel
theorem n_L_cells_by_5:lcP s_L_cells_by "_law_y":=by decide +kernel
theorem g_L_cells_by__law_digit:glP s_L_cells_by "_law_digit":=by decide +kernel
theorem g_L_cells_by_range:glP s_L_cells_by "range":=by decide +kernel
theorem nd0_L_cells_by:List.Nodup (["_law_k","_law_x","_law_y","_law_rest","_law_wide"]:List Str):=by decide +kernel
abbrev s_L_cells:Stmt:=top 12
theorem sc_L_cells:FnScope ["_law_box","_law_found","_law_j","_law_i"] ["_law_box"] (defScope s_L_cells):=⟨rfl,rfl,rfl,by decide +kernel,rfl,by decide +kernel,by decide +kernel⟩
theorem n_L_cells_0:lcP s_L_cells "_law_box":=by decide +kernel
theorem n_L_cells_1:lcP s_L_cells "_law_found":=by decide +kernel
theorem n_L_cells_2:lcP s_L_cells "_law_j":=by decide +kernel
theorem n_L_cells_3:lcP s_L_cells "_law_i":=by decide +kernel
theorem g_L_cells_range:glP s_L_cells "range":=by decide +kernel
abbrev s_L_box_of:Stmt:=top 11
theorem sc_L_box_of:FnScope ["_law_rest","_law_x","_law_y"] ["_law_rest"] (defScope s_L_box_of):=⟨rfl,rfl,rfl,by decide +kernel,rfl,by decide +kernel,by decide +kernel⟩
theorem n_L_box_of_0:lcP s_L_box_of "_law_rest":=by decide +kernel
theorem n_L_box_of_1:lcP s_L_box_of "_law_x":=by decide +kernel
theorem n_L_box_of_2:lcP s_L_box_of "_law_y":=by decide +kernel
theorem g_L_box_of__law_digit:glP s_L_box_of "_law_digit":=by decide +kernel
abbrev s_L_drawn:Stmt:=top 15
theorem sc_L_drawn:FnScope ["_law_rest","_law_cells_here","_law_k"] ["_law_rest"] (defScope s_L_drawn):=⟨rfl,rfl,rfl,by decide +kernel,rfl,by decide +kernel,by decide +kernel⟩
theorem n_L_drawn_0:lcP s_L_drawn "_law_rest":=by decide +kernel
theorem n_L_drawn_1:lcP s_L_drawn "_law_cells_here":=by decide +kernel
theorem n_L_drawn_2:lcP s_L_drawn "_law_k":=by decide +kernel
theorem g_L_drawn__law_digit:glP s_L_drawn "_law_digit":=by decide +kernel
theorem g_L_drawn__law_cells_by:glP s_L_drawn "_law_cells_by":=by decide +kernel
theorem g_L_drawn_range:glP s_L_drawn "range":=by decide +kernel
theorem g_L_drawn__law_box_of:glP s_L_drawn "_law_box_of":=by decide +kernel
theorem g_L_drawn__law_cells:glP s_L_drawn "_law_cells":=by decide +kernel
abbrev s_row_by_row:Stmt:=top 1
theorem sc_row_by_row:FnScope ["cells","turned"] ["cells"] (defScope s_row_by_row):=⟨rfl,rfl,rfl,by decide +kernel,rfl,by decide +kernel,by decide +kernel⟩
theorem n_row_by_row_0:lcP s_row_by_row "cells":=by decide +kernel
theorem n_row_by_row_1:lcP s_row_by_row "turned":=by decide +kernel
theorem g_row_by_row_set:glP s_row_by_row "set":=by decide +kernel
theorem g_row_by_row_sorted:glP s_row_by_row "sorted":=by decide +kernel
theorem nd0_row_by_row:List.Nodup (["x","y"]:List Str):=by decide +kernel
theorem nd1_row_by_row:List.Nodup (["y","x"]:List Str):=by decide +kernel
abbrev s_is_next:Stmt:=top 2
theorem sc_is_next:FnScope ["stretch","cell"] ["stretch","cell"] (defScope s_is_next):=⟨rfl,rfl,rfl,by decide +kernel,rfl,by decide +kernel,by decide +kernel⟩
theorem n_is_next_0:lcP s_is_next "stretch":=by decide +kernel
theorem n_is_next_1:lcP s_is_next "cell":=by decide +kernel
abbrev s_stretches_of:Stmt:=top 3
theorem sc_stretches_of:FnScope ["cells","stretches","cell","last"] ["cells"] (defScope s_stretches_of):=⟨rfl,rfl,rfl,by decide +kernel,rfl,by decide +kernel,by decide +kernel⟩
theorem n_stretches_of_0:lcP s_stretches_of "cells":=by decide +kernel
theorem n_stretches_of_1:lcP s_stretches_of "stretches":=by decide +kernel
theorem n_stretches_of_2:lcP s_stretches_of "cell":=by decide +kernel
theorem n_stretches_of_3:lcP s_stretches_of "last":=by decide +kernel
theorem g_stretches_of_row_by_row:glP s_stretches_of "row_by_row":=by decide +kernel
theorem g_stretches_of_is_next:glP s_stretches_of "is_next":=by decide +kernel
theorem g_stretches_of_len:glP s_stretches_of "len":=by decide +kernel
abbrev s_blocks_of:Stmt:=top 4
theorem sc_blocks_of:FnScope ["cells","blocks","latest","x","y","many","place","block"] ["cells"] (defScope s_blocks_of):=⟨rfl,rfl,rfl,by decide +kernel,rfl,by decide +kernel,by decide +kernel⟩
theorem n_blocks_of_0:lcP s_blocks_of "cells":=by decide +kernel
theorem n_blocks_of_1:lcP s_blocks_of "blocks":=by decide +kernel
theorem n_blocks_of_2:lcP s_blocks_of "latest":=by decide +kernel
theorem n_blocks_of_3:lcP s_blocks_of "x":=by decide +kernel
theorem n_blocks_of_4:lcP s_blocks_of "y":=by decide +kernel
theorem n_blocks_of_5:lcP s_blocks_of "many":=by decide +kernel
theorem n_blocks_of_6:lcP s_blocks_of "place":=by decide +kernel
theorem n_blocks_of_7:lcP s_blocks_of "block":=by decide +kernel
theorem g_blocks_of_stretches_of:glP s_blocks_of "stretches_of":=by decide +kernel
theorem g_blocks_of_len:glP s_blocks_of "len":=by decide +kernel
abbrev s_L_cell_at:Stmt:=top 6
theorem sc_L_cell_at:FnScope ["_law_script","_law_k"] ["_law_script","_law_k"] (defScope s_L_cell_at):=⟨rfl,rfl,rfl,by decide +kernel,rfl,by decide +kernel,by decide +kernel⟩
theorem n_L_cell_at_0:lcP s_L_cell_at "_law_script":=by decide +kernel
theorem n_L_cell_at_1:lcP s_L_cell_at "_law_k":=by decide +kernel
theorem g_L_cell_at_len:glP s_L_cell_at "len":=by decide +kernel
abbrev s_L_big:Stmt:=top 7
theorem sc_L_big:FnScope ["_law_script","_law_at","_law_by","_law_prime","_law_cell","_law_big_here","_law_k","_law_one"] ["_law_script","_law_at"] (defScope s_L_big):=⟨rfl,rfl,rfl,by decide +kernel,rfl,by decide +kernel,by decide +kernel⟩
theorem n_L_big_0:lcP s_L_big "_law_script":=by decide +kernel
theorem n_L_big_1:lcP s_L_big "_law_at":=by decide +kernel
theorem n_L_big_2:lcP s_L_big "_law_by":=by decide +kernel
theorem n_L_big_3:lcP s_L_big "_law_prime":=by decide +kernel
theorem n_L_big_4:lcP s_L_big "_law_cell":=by decide +kernel
theorem n_L_big_5:lcP s_L_big "_law_big_here":=by decide +kernel
theorem n_L_big_6:lcP s_L_big "_law_k":=by decide +kernel
theorem n_L_big_7:lcP s_L_big "_law_one":=by decide +kernel
theorem g_L_big__law_cell_at:glP s_L_big "_law_cell_at":=by decide +kernel
theorem g_L_big_range:glP s_L_big "range":=by decide +kernel
abbrev s_L_tuples:Stmt:=top 9
theorem sc_L_tuples:FnScope ["_law_found","_law_size","_law_one","_law_part"] ["_law_found","_law_size"] (defScope s_L_tuples):=⟨rfl,rfl,rfl,by decide +kernel,rfl,by decide +kernel,by decide +kernel⟩
theorem n_L_tuples_0:lcP s_L_tuples "_law_found":=by decide +kernel
theorem n_L_tuples_1:lcP s_L_tuples "_law_size":=by decide +kernel
theorem n_L_tuples_2:lcP s_L_tuples "_law_one":=by decide +kernel
theorem n_L_tuples_3:lcP s_L_tuples "_law_part":=by decide +kernel
theorem g_L_tuples_list:glP s_L_tuples "list":=by decide +kernel
theorem g_L_tuples_isinstance:glP s_L_tuples "isinstance":=by decide +kernel
theorem g_L_tuples_len:glP s_L_tuples "len":=by decide +kernel
theorem g_L_tuples_tuple:glP s_L_tuples "tuple":=by decide +kernel
theorem g_L_tuples_bool:glP s_L_tuples "bool":=by decide +kernel
theorem g_L_tuples_int:glP s_L_tuples "int":=by decide +kernel
abbrev s_L_is_stretch:Stmt:=top 13
theorem sc_L_is_stretch:FnScope ["_law_cells_here","_law_x","_law_y","_law_many","_law_k"] ["_law_cells_here","_law_x","_law_y","_law_many"] (defScope s_L_is_stretch):=⟨rfl,rfl,rfl,by decide +kernel,rfl,by decide +kernel,by decide +kernel⟩
theorem n_L_is_stretch_0:lcP s_L_is_stretch "_law_cells_here":=by decide +kernel
theorem n_L_is_stretch_1:lcP s_L_is_stretch "_law_x":=by decide +kernel
theorem n_L_is_stretch_2:lcP s_L_is_stretch "_law_y":=by decide +kernel
theorem n_L_is_stretch_3:lcP s_L_is_stretch "_law_many":=by decide +kernel
theorem n_L_is_stretch_4:lcP s_L_is_stretch "_law_k":=by decide +kernel
theorem g_L_is_stretch_range:glP s_L_is_stretch "range":=by decide +kernel
abbrev s_L_right:Stmt:=top 14
theorem sc_L_right:FnScope ["_law_cells_here","_law_told","_law_found","_law_x","_law_y","_law_w","_law_h","_law_j"] ["_law_cells_here","_law_told"] (defScope s_L_right):=⟨rfl,rfl,rfl,by decide +kernel,rfl,by decide +kernel,by decide +kernel⟩
theorem n_L_right_0:lcP s_L_right "_law_cells_here":=by decide +kernel
theorem n_L_right_1:lcP s_L_right "_law_told":=by decide +kernel
theorem n_L_right_2:lcP s_L_right "_law_found":=by decide +kernel
theorem n_L_right_3:lcP s_L_right "_law_x":=by decide +kernel
theorem n_L_right_4:lcP s_L_right "_law_y":=by decide +kernel
theorem n_L_right_5:lcP s_L_right "_law_w":=by decide +kernel
theorem n_L_right_6:lcP s_L_right "_law_h":=by decide +kernel
theorem n_L_right_7:lcP s_L_right "_law_j":=by decide +kernel
theorem g_L_right_sorted:glP s_L_right "sorted":=by decide +kernel
theorem g_L_right__law_tuples:glP s_L_right "_law_tuples":=by decide +kernel
theorem g_L_right__law_is_stretch:glP s_L_right "_law_is_stretch":=by decide +kernel
theorem g_L_right_range:glP s_L_right "range":=by decide +kernel
theorem g_L_right_set:glP s_L_right "set":=by decide +kernel
theorem nd0_L_right:List.Nodup (["_law_k","_law_x","_law_y","_law_j"]:List Str):=by decide +kernel
abbrev s_law:Stmt:=top 16
theorem sc_law:FnScope ["_law_script","_law_rest","_law_cells_here","_law_others","_law_handed","_law_told","_law_kept"] ["_law_script"] (defScope s_law):=⟨rfl,rfl,rfl,by decide +kernel,rfl,by decide +kernel,by decide +kernel⟩
theorem n_law_0:lcP s_law "_law_script":=by decide +kernel
theorem n_law_1:lcP s_law "_law_rest":=by decide +kernel
theorem n_law_2:lcP s_law "_law_cells_here":=by decide +kernel
theorem n_law_3:lcP s_law "_law_others":=by decide +kernel
theorem n_law_4:lcP s_law "_law_handed":=by decide +kernel
theorem n_law_5:lcP s_law "_law_told":=by decide +kernel
theorem n_law_6:lcP s_law "_law_kept":=by decide +kernel
theorem g_law__law_big:glP s_law "_law_big":=by decide +kernel
theorem g_law__law_drawn:glP s_law "_law_drawn":=by decide +kernel
theorem g_law_list:glP s_law "list":=by decide +kernel
theorem g_law_blocks_of:glP s_law "blocks_of":=by decide +kernel
theorem g_law__law_right:glP s_law "_law_right":=by decide +kernel
theorem g_law_reversed:glP s_law "reversed":=by decide +kernel
def m_L_digit:List L->Option (PyData×List L):=dFun false 2 1 (dSeq (dAsg (dBor 0 (dOp fMod (dOp fIxL (dVar 0) (dC (.int 0))) (dVar 1))) (dN 2)) (dSeq (dSetI 0 (dBor 0 (dOp fDiv (dOp fIxL (dVar 0) (dC (.int 0))) (dVar 1))) (dC (.int 0))) (dRet (dVar 2))))
def m_L_cells_by:List L->Option (PyData×List L):=dFun true 1 5 (dSeq (dAsg (dCallM 0 m_L_digit (dACons (dC (.int 3)) dANil)) (dN 1)) (dSeq (dAsg (dOp fAdd (dC (.int 1)) (dCallM 0 m_L_digit (dACons (dC (.int 9)) dANil))) (dN 2)) (dSeq (dAsg (dCallM 0 m_L_digit (dACons (dC (.int 40)) dANil)) (dN 3)) (dSeq (dAsg (dOp fSub (dCallM 0 m_L_digit (dACons (dC (.int 1801)) dANil)) (dC (.int 900))) (dN 4)) (dSeq (dAsg (dOp fSub (dCallM 0 m_L_digit (dACons (dC (.int 1801)) dANil)) (dC (.int 900))) (dN 5)) (dSeq (dIfS (dTest (dOp fGt (dVar 1) (dC (.int 0)))) (dAsg (dTup (dACons (dOp fMod (dVar 4) (dC (.int 5))) (dACons (dOp fMod (dVar 5) (dC (.int 5))) dANil))) (dGT (dGCons (dN 4) (dGCons (dN 5) dGNil)))) dNil) (dRet (dLCm 1 [4,5] 0 [2] (dR1 (dACons (dVar 3) dANil)) (dN 0) dYes (dTup (dACons (dOp fAdd (dVar 1) (dCallM 3 m_L_digit (dACons (dVar 4) dANil))) (dACons (dOp fAdd (dVar 2) (dCallM 3 m_L_digit (dACons (dC (.int 6)) dANil))) dANil)))))))))))
def m_L_cells:List L->Option (PyData×List L):=dFun true 1 3 (dSeq (dNew 1 1) (dSeq (dFor (dR1 (dACons (dOp fIxT (dVar 0) (dC (.int 3))) dANil)) (dN 2) (dFor (dR1 (dACons (dOp fIxT (dVar 0) (dC (.int 2))) dANil)) (dN 3) (dExpr (dMt 1 gAppend (dACons (dTup (dACons (dOp fAdd (dOp fIxT (dVar 0) (dC (.int 0))) (dVar 3)) (dACons (dOp fAdd (dOp fIxT (dVar 0) (dC (.int 1))) (dVar 2)) dANil))) dANil))))) (dRetM 1 1)))
def m_L_box_of:List L->Option (PyData×List L):=dFun false 1 2 (dSeq (dAsg (dOp fSub (dCallM 0 m_L_digit (dACons (dC (.int 15)) dANil)) (dC (.int 5))) (dN 1)) (dSeq (dAsg (dOp fSub (dCallM 0 m_L_digit (dACons (dC (.int 11)) dANil)) (dC (.int 4))) (dN 2)) (dRet (dTup (dACons (dVar 1) (dACons (dVar 2) (dACons (dOp fAdd (dC (.int 1)) (dCallM 0 m_L_digit (dACons (dC (.int 7)) dANil))) (dACons (dOp fAdd (dC (.int 1)) (dCallM 0 m_L_digit (dACons (dC (.int 6)) dANil))) dANil))))))))
def m_L_drawn:List L->Option (PyData×List L):=dFun true 1 2 (dSeq (dIfS (dTest (dOp fEq (dCallM 0 m_L_digit (dACons (dC (.int 2)) dANil)) (dC (.int 0)))) (dRet (dCallM 0 m_L_cells_by dANil)) dNil) (dSeq (dNew 1 1) (dSeq (dFor (dR1 (dACons (dOp fAdd (dC (.int 1)) (dCallM 0 m_L_digit (dACons (dC (.int 3)) dANil))) dANil)) (dN 2) (dExpr (dMt 1 gExtend (dACons (dCall m_L_cells (dACons (dCallM 0 m_L_box_of dANil) dANil)) dANil)))) (dRetM 1 1))))
def m_row_by_row:List L->Option (PyData×List L):=dFun true 1 1 (dSeq (dAsg (dSS (dLC 2 [] (dIL (dVar 0)) (dGT (dGCons (dN 0) (dGCons (dN 1) dGNil))) dYes (dTup (dACons (dVar 1) (dACons (dVar 0) dANil))))) (dN 1)) (dRet (dLC 2 [] (dIL (dVar 1)) (dGT (dGCons (dN 0) (dGCons (dN 1) dGNil))) dYes (dTup (dACons (dVar 1) (dACons (dVar 0) dANil))))))
def m_is_next:List L->Option (PyData×List L):=dFun false 2 0 (dRet (dOp fEq (dVar 1) (dTup (dACons (dOp fAdd (dOp fIxT (dVar 0) (dC (.int 0))) (dOp fIxT (dVar 0) (dC (.int 2)))) (dACons (dOp fIxT (dVar 0) (dC (.int 1))) dANil)))))
def m_stretches_of:List L->Option (PyData×List L):=dFun true 1 3 (dSeq (dNew 1 1) (dSeq (dFor (dIL (dCall m_row_by_row (dACons (dVar 0) dANil))) (dN 2) (dIfS (dTBor 1 (dTAnd (dTest (dOp fGt (dApp fLen (dACons (dVar 1) dANil)) (dC (.int 0)))) (dTest (dCall m_is_next (dACons (dOp fIxL (dVar 1) (dUn fNeg (dC (.int 1)))) (dACons (dVar 2) dANil)))))) (dSeq (dAsg (dBor 1 (dOp fIxL (dVar 1) (dUn fNeg (dC (.int 1))))) (dN 3)) (dSetI 1 (dTup (dACons (dOp fIxT (dVar 3) (dC (.int 0))) (dACons (dOp fIxT (dVar 3) (dC (.int 1))) (dACons (dOp fAdd (dOp fIxT (dVar 3) (dC (.int 2))) (dC (.int 1))) dANil)))) (dUn fNeg (dC (.int 1))))) (dExpr (dMt 1 gAppend (dACons (dTup (dACons (dOp fIxT (dVar 2) (dC (.int 0))) (dACons (dOp fIxT (dVar 2) (dC (.int 1))) (dACons (dC (.int 1)) dANil)))) dANil))))) (dRetM 1 1)))
def m_blocks_of:List L->Option (PyData×List L):=dFun true 1 7 (dSeq (dNew 1 1) (dSeq (dNewK 1 2) (dSeq (dFor (dIL (dCall m_stretches_of (dACons (dVar 0) dANil))) (dGT (dGCons (dN 3) (dGCons (dN 4) (dGCons (dN 5) dGNil)))) (dSeq (dAsg (dBor 2 (dOp fGetD (dVar 2) (dTup (dACons (dVar 3) (dACons (dVar 5) dANil))))) (dN 6)) (dIfS (dTBor 1 (dTAnd (dTest (dOp fNotN (dVar 6) (dC .none))) (dTest (dOp fEq (dOp fAdd (dOp fIxT (dOp fIxL (dVar 1) (dVar 6)) (dC (.int 1))) (dOp fIxT (dOp fIxL (dVar 1) (dVar 6)) (dC (.int 3)))) (dVar 4))))) (dSeq (dAsg (dBor 1 (dOp fIxL (dVar 1) (dVar 6))) (dN 7)) (dSetI 1 (dTup (dACons (dVar 3) (dACons (dOp fIxT (dVar 7) (dC (.int 1))) (dACons (dVar 5) (dACons (dOp fAdd (dOp fIxT (dVar 7) (dC (.int 3))) (dC (.int 1))) dANil))))) (dVar 6))) (dSeq (dPutK 2 (dBor 1 (dApp fLen (dACons (dVar 1) dANil))) (dTup (dACons (dVar 3) (dACons (dVar 5) dANil)))) (dExpr (dMt 1 gAppend (dACons (dTup (dACons (dVar 3) (dACons (dVar 4) (dACons (dVar 5) (dACons (dC (.int 1)) dANil))))) dANil))))))) (dRetM 1 1))))
def m_L_cell_at:List L->Option (PyData×List L):=dFun false 2 0 (dSeq (dIfS (dTest (dOp fLt (dVar 1) (dLenC 0))) (dRet (dIxC 0 (dVar 1))) dNil) (dRet (dC (.int 0))))
def m_L_big:List L->Option (PyData×List L):=dFun false 2 6 (dSeq (dAsg (dTup (dACons (dC (.int 48271)) (dACons (dC (.int 69621)) (dACons (dC (.int 16807)) (dACons (dC (.int 39373)) (dACons (dC (.int 21401)) (dACons (dC (.int 60493)) (dACons (dC (.int 87721)) (dACons (dC (.int 31337)) dANil))))))))) (dN 2)) (dSeq (dAsg (dTup (dACons (dC (.int 99991)) (dACons (dC (.int 99989)) (dACons (dC (.int 99971)) (dACons (dC (.int 99961)) (dACons (dC (.int 99929)) (dACons (dC (.int 99923)) (dACons (dC (.int 99907)) (dACons (dC (.int 99901)) dANil))))))))) (dN 3)) (dSeq (dAsg (dCallC 0 m_L_cell_at (dACons (dVar 1) dANil)) (dN 4)) (dSeq (dIfS (dTest (dOp fGe (dVar 4) (dOp fPow (dC (.int 10)) (dC (.int 18))))) (dRet (dVar 4)) dNil) (dSeq (dAsg (dC (.int 0)) (dN 5)) (dSeq (dFor (dR1 (dACons (dC (.int 60)) dANil)) (dN 6) (dSeq (dAsg (dOp fAdd (dOp fAdd (dOp fMod (dCallC 0 m_L_cell_at (dACons (dOp fAdd (dVar 1) (dOp fMod (dVar 6) (dC (.int 9)))) dANil)) (dOp fPow (dC (.int 10)) (dC (.int 18)))) (dC (.int 1))) (dOp fMul (dVar 6) (dVar 6))) (dN 7)) (dAsg (dOp fAdd (dOp fMul (dVar 5) (dC (.int 7919))) (dOp fMod (dOp fMod (dOp fMul (dVar 7) (dOp fIxT (dVar 2) (dOp fMod (dVar 6) (dC (.int 8))))) (dOp fIxT (dVar 3) (dOp fMod (dVar 6) (dC (.int 8))))) (dC (.int 7919)))) (dN 5)))) (dRet (dVar 5))))))))
def m_L_tuples:List L->Option (PyData×List L):=dFun false 2 2 (dSeq (dIfS (dTNot (dTest (dIsi "list" (dVar 0)))) (dRet (dC (.bool false))) dNil) (dSeq (dFor (dIL (dVar 0)) (dN 2) (dSeq (dIfS (dTOr (dTNot (dTest (dIsi "tuple" (dVar 2)))) (dTest (dOp fNe (dApp fLen (dACons (dVar 2) dANil)) (dVar 1)))) (dRet (dC (.bool false))) dNil) (dFor (dIT (dVar 2)) (dN 3) (dIfS (dTOr (dTNot (dTest (dIsi "int" (dVar 3)))) (dTest (dIsi "bool" (dVar 3)))) (dRet (dC (.bool false))) dNil)))) (dRet (dC (.bool true)))))
def m_L_is_stretch:List L->Option (PyData×List L):=dFun false 4 1 (dSeq (dIfS (dTOr (dTest (dOp (fIn false) (dTup (dACons (dOp fSub (dVar 1) (dC (.int 1))) (dACons (dVar 2) dANil))) (dVar 0))) (dTest (dOp (fIn false) (dTup (dACons (dOp fAdd (dVar 1) (dVar 3)) (dACons (dVar 2) dANil))) (dVar 0)))) (dRet (dC (.bool false))) dNil) (dSeq (dFor (dR1 (dACons (dVar 3) dANil)) (dN 4) (dIfS (dTest (dOp (fIn true) (dTup (dACons (dOp fAdd (dVar 1) (dVar 4)) (dACons (dVar 2) dANil))) (dVar 0))) (dRet (dC (.bool false))) dNil)) (dRet (dC (.bool true)))))
def m_L_right:List L->Option (PyData×List L):=dFun false 2 6 (dSeq (dIfS (dTOr (dTNot (dTest (dCall m_L_tuples (dACons (dVar 1) (dACons (dC (.int 4)) dANil))))) (dTest (dOp fNe (dVar 1) (dUn fSK (dVar 1))))) (dRet (dC (.bool false))) dNil) (dSeq (dNew 2 2) (dSeq (dFor (dIL (dVar 1)) (dGT (dGCons (dN 3) (dGCons (dN 4) (dGCons (dN 5) (dGCons (dN 6) dGNil))))) (dSeq (dIfS (dTOr (dTest (dOp fLt (dVar 5) (dC (.int 1)))) (dTOr (dTest (dOp fLt (dVar 6) (dC (.int 1)))) (dTOr (dTest (dCall m_L_is_stretch (dACons (dVar 0) (dACons (dVar 3) (dACons (dOp fSub (dVar 4) (dC (.int 1))) (dACons (dVar 5) dANil)))))) (dTest (dCall m_L_is_stretch (dACons (dVar 0) (dACons (dVar 3) (dACons (dOp fAdd (dVar 4) (dVar 6)) (dACons (dVar 5) dANil))))))))) (dRet (dC (.bool false))) dNil) (dFor (dR1 (dACons (dVar 6) dANil)) (dN 7) (dSeq (dIfS (dTNot (dTest (dCall m_L_is_stretch (dACons (dVar 0) (dACons (dVar 3) (dACons (dOp fAdd (dVar 4) (dVar 7)) (dACons (dVar 5) dANil))))))) (dRet (dC (.bool false))) dNil) (dExpr (dMt 2 gExtend (dACons (dLC 1 [3,4,7] (dR1 (dACons (dVar 5) dANil)) (dN 0) dYes (dTup (dACons (dOp fAdd (dVar 1) (dVar 0)) (dACons (dOp fAdd (dVar 2) (dVar 3)) dANil)))) dANil))))))) (dRet (dBor 2 (dOp fEq (dApp fSortT (dACons (dVar 2) dANil)) (dSS (dVar 0))))))))
def m_law:List L->Option (PyData×List L):=dFun false 1 6 (dSeq (dSetM 1 1 (dLst (dACons (dCallC 0 m_L_big (dACons (dC (.int 0)) dANil)) dANil))) (dSeq (dAsg (dCallM 1 m_L_drawn dANil) (dN 2)) (dSeq (dAsg (dCallM 1 m_L_drawn dANil) (dN 3)) (dSeq (dAsg (dApp fListOf (dACons (dVar 2) dANil)) (dN 4)) (dSeq (dSetM 1 5 (dCall m_blocks_of (dACons (dVar 4) dANil))) (dSeq (dIfS (dTBor 5 (dTOr (dTNot (dTest (dCall m_L_right (dACons (dVar 2) (dACons (dVar 5) dANil))))) (dTest (dOp fNe (dVar 4) (dVar 2))))) (dRet (dC (.bool false))) dNil) (dSeq (dAsg (dBorF 5 (dApp fListOf (dACons (dVar 5) dANil))) (dN 6)) (dSeq (dIfS (dTBor 5 (dTOr (dTNot (dTest (dCall m_L_right (dACons (dVar 3) (dACons (dCall m_blocks_of (dACons (dApp fListOf (dACons (dVar 3) dANil)) dANil)) dANil))))) (dTest (dOp fNe (dVar 5) (dVar 6))))) (dRet (dC (.bool false))) dNil) (dSeq (dExpr (dMt 5 gAppend (dACons (dTup (dACons (dC (.int 0)) (dACons (dC (.int 0)) (dACons (dC (.int 1)) (dACons (dC (.int 1)) dANil))))) dANil))) (dRet (dOp fEq (dCall m_blocks_of (dACons (dRev (dVar 2)) dANil)) (dVar 6))))))))))))
theorem hu64{k:Nat}{A:Around}(hr:Room k A):A.units+64<cLine:=hr.units
theorem hu65{k:Nat}{A:Around}(hr:Room k A):A.units+65<cLine:=by have:=hr.un;omega
section
variable {P:Program} {w:World} {K:PySem.W.Frag} {mg:Str->Option Value} {base:Heap} {f:Addr} {fd:FuncData}
theorem ok_L_digit(F:Fun K "_law_digit" "_law_digit" s_L_digit f fd):FnOk P w K mg base CX0 1 f fd ["_law_rest","_law_many"] (spD ⟨K,w⟩ m_L_digit false):=by
 have nd:=sc_L_digit.nd
 refine F.ok sc_L_digit (fun vs H Q E h=>fn_len dFun_len h) (fun cdv A outer s H vs Q E hr h=>?_)
 exact⟨_,(@pss_cons _ _ _ _ _ (@ps_set _ _ 2 _ _ _ _ nd rfl n_L_digit_2 (@pe_op _ _ _ _ _ _ _ _ op_mod (@pe_ix _ _ _ _ _ _ _ ix_list (pvL 0 rfl n_L_digit_0 dc__law_rest) pe_int (fun _ _=>rfl)) (pvL 1 rfl n_L_digit_1 dc__law_many)) (by trivial) (by trivial)) (@pss_cons _ _ _ _ _ (@ps_asg _ _ _ _ _ _ (@pe_op _ _ _ _ _ _ _ _ op_fdivB (@pe_ix _ _ _ _ _ _ _ ix_list (pvL 0 rfl n_L_digit_0 dc__law_rest) pe_int (fun _ _=>rfl)) (pvL 1 rfl n_L_digit_1 dc__law_many)) (@pg_sub _ _ _ _ _ _ _ (pvL 0 rfl n_L_digit_0 dc__law_rest) pe_int set_list (by trivial)) (by trivial) (by trivial) (by trivial)) (@pss_one _ _ _ (@ps_ret _ _ _ _ (pvL 2 rfl n_L_digit_2 dc__law_digit_here))))),fn_run (N:=["_law_rest","_law_many","_law_digit_here"]) (np:=2) (nl:=1) (b_seq (b_asg (e_bor (i:=0) (e_op o_mod (e_op o_ixL e_var e_int) e_var)) g_name) (b_seq (b_setI (i:=0) (e_bor (i:=0) (e_op o_div (e_op o_ixL e_var e_int) e_var)) e_int) (b_ret e_var (by decide)))) rfl h⟩
theorem ok_L_cells_by(F:Fun K "_law_cells_by" "_law_cells_by" s_L_cells_by f fd)(C_L_digit:Cal P w K mg base 1 "_law_digit" ["_law_rest","_law_many"] (spD ⟨K,w⟩ m_L_digit false))(z_range:mg "range"=none):FnOk P w K mg base CX0 2 f fd ["_law_rest"] (spD ⟨K,w⟩ m_L_cells_by true):=by
 have nd:=sc_L_cells_by.nd
 refine F.ok sc_L_cells_by (fun vs H Q E h=>fn_len dFun_len h) (fun cdv A outer s H vs Q E hr h=>?_)
 exact⟨_,(@pss_cons _ _ _ _ _ (@ps_set _ _ 1 _ _ _ _ nd rfl n_L_cells_by_1 (@pe_callC _ _ _ _ _ _ _ _ _ _ C_L_digit hr g_L_cells_by__law_digit (@pa_cons _ _ _ _ _ (pvL 0 rfl n_L_cells_by_0 dc__law_rest) (@pa_cons _ _ _ _ _ pe_int pa_nil (by trivial)) (by trivial)) dc__law_digit.1 (by trivial) (by trivial)) (by trivial) (by trivial)) (@pss_cons _ _ _ _ _ (@ps_set _ _ 2 _ _ _ _ nd rfl n_L_cells_by_2 (@pe_op _ _ _ _ _ _ _ _ op_add pe_int (@pe_callC _ _ _ _ _ _ _ _ _ _ C_L_digit hr g_L_cells_by__law_digit (@pa_cons _ _ _ _ _ (pvL 0 rfl n_L_cells_by_0 dc__law_rest) (@pa_cons _ _ _ _ _ pe_int pa_nil (by trivial)) (by trivial)) dc__law_digit.1 (by trivial) (by trivial))) (by trivial) (by trivial)) (@pss_cons _ _ _ _ _ (@ps_set _ _ 3 _ _ _ _ nd rfl n_L_cells_by_3 (@pe_callC _ _ _ _ _ _ _ _ _ _ C_L_digit hr g_L_cells_by__law_digit (@pa_cons _ _ _ _ _ (pvL 0 rfl n_L_cells_by_0 dc__law_rest) (@pa_cons _ _ _ _ _ pe_int pa_nil (by trivial)) (by trivial)) dc__law_digit.1 (by trivial) (by trivial)) (by trivial) (by trivial)) (@pss_cons _ _ _ _ _ (@ps_set _ _ 4 _ _ _ _ nd rfl n_L_cells_by_4 (@pe_op _ _ _ _ _ _ _ _ op_sub (@pe_callC _ _ _ _ _ _ _ _ _ _ C_L_digit hr g_L_cells_by__law_digit (@pa_cons _ _ _ _ _ (pvL 0 rfl n_L_cells_by_0 dc__law_rest) (@pa_cons _ _ _ _ _ pe_int pa_nil (by trivial)) (by trivial)) dc__law_digit.1 (by trivial) (by trivial)) pe_int) (by trivial) (by trivial)) (@pss_cons _ _ _ _ _ (@ps_set _ _ 5 _ _ _ _ nd rfl n_L_cells_by_5 (@pe_op _ _ _ _ _ _ _ _ op_sub (@pe_callC _ _ _ _ _ _ _ _ _ _ C_L_digit hr g_L_cells_by__law_digit (@pa_cons _ _ _ _ _ (pvL 0 rfl n_L_cells_by_0 dc__law_rest) (@pa_cons _ _ _ _ _ pe_int pa_nil (by trivial)) (by trivial)) dc__law_digit.1 (by trivial) (by trivial)) pe_int) (by trivial) (by trivial)) (@pss_cons _ _ _ _ _ (@ps_if _ _ _ _ _ _ _ _ (@pt_cmpR _ _ _ _ _ _ _ _ op_gt (pvL 1 rfl n_L_cells_by_1 dc__law_road) pe_int (nomark _)) (@pss_one _ _ _ (@ps_asg _ _ _ _ _ _ (@pe_tup _ _ _ _ _ (@pa_cons _ _ _ _ _ (@pe_op _ _ _ _ _ _ _ _ op_mod (pvL 4 rfl n_L_cells_by_4 dc__law_x) pe_int) (@pa_cons _ _ _ _ _ (@pe_op _ _ _ _ _ _ _ _ op_mod (pvL 5 rfl n_L_cells_by_5 dc__law_y) pe_int) pa_nil (by trivial)) (by trivial))) (@pg_tup _ _ _ _ _ _ rfl (@pgs_cons _ _ _ _ _ (@pg_name _ _ 4 _ nd rfl n_L_cells_by_4 (by trivial)) (@pgs_cons _ _ _ _ _ (@pg_name _ _ 5 _ nd rfl n_L_cells_by_5 (by trivial)) pgs_nil (by trivial)) (by trivial)) (by trivial) (by trivial)) (by trivial) (by trivial) (by trivial))) pss_nil) (@pss_one _ _ _ (@ps_ret _ _ _ _ (@pe_lc _ ["_law_k","_law_x","_law_y","_law_rest","_law_wide"] 1 [4,5,0,2] _ _ _ _ _ _ _ _ _ _ rfl (@lc_ok _ ["_law_k","_law_x","_law_y","_law_rest","_law_wide"] 1 [4,5,0,2] _ ["_law_rest","_law_road","_law_wide","_law_many","_law_x","_law_y"] (defScope s_L_cells_by) rfl rfl (by walk_at "dk")) (@pi_range1 _ _ _ _ _ _ g_L_cells_by_range z_range (@pa_cons _ _ _ _ _ (pvL 3 rfl n_L_cells_by_3 dc__law_many) pa_nil (by trivial)) (by trivial)) (fun cl fp s3 H3=>(@pg_name _ _ 0 _ nd0_L_cells_by rfl (loc_local (by walk_at "dk")) (Or.inr (rl_local (by walk_at "dk"))))) (fun cl fp s3 H3=>pts_nil) (fun cl fp s3 H3=>(@pe_tup _ _ _ _ _ (@pa_cons _ _ _ _ _ (@pe_op _ _ _ _ _ _ _ _ op_add (@pv _ 1 _ _ rfl (vis_free (by walk_at "dk")) dc__law_x.1 dc__law_x.2) (@pe_callC _ _ _ _ _ _ _ _ _ _ C_L_digit hr (rl_glob (by walk_at "dk")) (@pa_cons _ _ _ _ _ (@pv _ 3 _ _ rfl (vis_free (by walk_at "dk")) dc__law_rest.1 dc__law_rest.2) (@pa_cons _ _ _ _ _ (@pv _ 4 _ _ rfl (vis_free (by walk_at "dk")) dc__law_wide.1 dc__law_wide.2) pa_nil (by trivial)) (by trivial)) dc__law_digit.1 (by trivial) (by trivial))) (@pa_cons _ _ _ _ _ (@pe_op _ _ _ _ _ _ _ _ op_add (@pv _ 2 _ _ rfl (vis_free (by walk_at "dk")) dc__law_y.1 dc__law_y.2) (@pe_callC _ _ _ _ _ _ _ _ _ _ C_L_digit hr (rl_glob (by walk_at "dk")) (@pa_cons _ _ _ _ _ (@pv _ 3 _ _ rfl (vis_free (by walk_at "dk")) dc__law_rest.1 dc__law_rest.2) (@pa_cons _ _ _ _ _ pe_int pa_nil (by trivial)) (by trivial)) dc__law_digit.1 (by trivial) (by trivial))) pa_nil (by trivial)) (by trivial)))) (by trivial)))))))))),fn_run (N:=["_law_rest","_law_road","_law_wide","_law_many","_law_x","_law_y"]) (np:=1) (nl:=5) (b_seq (b_asg (e_callM (i:=0) (a_cons e_int a_nil)) g_name) (b_seq (b_asg (e_op o_add e_int (e_callM (i:=0) (a_cons e_int a_nil))) g_name) (b_seq (b_asg (e_callM (i:=0) (a_cons e_int a_nil)) g_name) (b_seq (b_asg (e_op o_sub (e_callM (i:=0) (a_cons e_int a_nil)) e_int) g_name) (b_seq (b_asg (e_op o_sub (e_callM (i:=0) (a_cons e_int a_nil)) e_int) g_name) (b_seq (b_if (t_test (e_op o_gt e_var e_int)) (b_asg (e_tup (a_cons (e_op o_mod e_var e_int) (a_cons (e_op o_mod e_var e_int) a_nil))) (g_tup (gs_cons g_name (gs_cons g_name gs_nil)) (len_cons (len_cons len_nil)))) b_nil) (b_ret (e_lcm (f1:=[4,5]) (j0:=0) (f2:=[2]) (it_range1 (a_cons e_var a_nil)) g_name t_yes (e_tup (a_cons (e_op o_add e_var (e_callM (i:=3) (a_cons e_var a_nil))) (a_cons (e_op o_add e_var (e_callM (i:=3) (a_cons e_int a_nil))) a_nil)))) (by decide)))))))) rfl h⟩
theorem ok_L_cells(F:Fun K "_law_cells" "_law_cells" s_L_cells f fd)(z_range:mg "range"=none):FnOk P w K mg base CX0 1 f fd ["_law_box"] (spD ⟨K,w⟩ m_L_cells true):=by
 have nd:=sc_L_cells.nd
 refine F.ok sc_L_cells (fun vs H Q E h=>fn_len dFun_len h) (fun cdv A outer s H vs Q E hr h=>?_)
 exact⟨_,(@pss_cons _ _ _ _ _ (@ps_set _ _ 1 _ _ _ _ nd rfl n_L_cells_1 (@pe_lst _ _ _ _ pa_nil) (by trivial) (by trivial)) (@pss_cons _ _ _ _ _ (@ps_for _ _ _ _ _ _ _ _ PassesOwn.never rfl (@pi_range1 _ _ _ _ _ _ g_L_cells_range z_range (@pa_cons _ _ _ _ _ (@pe_ix _ _ _ _ _ _ _ ix_tup (pvL 0 rfl n_L_cells_0 dc__law_box) pe_int (fun _ _=>rfl)) pa_nil (by trivial)) (by trivial)) (@pg_name _ _ 2 _ nd rfl n_L_cells_2 (by trivial)) (@pss_one _ _ _ (@ps_for _ _ _ _ _ _ _ _ PassesOwn.never rfl (@pi_range1 _ _ _ _ _ _ g_L_cells_range z_range (@pa_cons _ _ _ _ _ (@pe_ix _ _ _ _ _ _ _ ix_tup (pvL 0 rfl n_L_cells_0 dc__law_box) pe_int (fun _ _=>rfl)) pa_nil (by trivial)) (by trivial)) (@pg_name _ _ 3 _ nd rfl n_L_cells_3 (by trivial)) (@pss_one _ _ _ (@ps_expr _ _ _ _ (@pe_bm _ _ _ _ _ _ _ _ _ _ _ _ PySem.F.plainAttrs_list PySem.F.slot_list_append PySem.F.type_list_append mt_append (pvL 1 rfl n_L_cells_1 dc__law_found) (@pa_cons _ _ _ _ _ (@pe_tup _ _ _ _ _ (@pa_cons _ _ _ _ _ (@pe_op _ _ _ _ _ _ _ _ op_add (@pe_ix _ _ _ _ _ _ _ ix_tup (pvL 0 rfl n_L_cells_0 dc__law_box) pe_int (fun _ _=>rfl)) (pvL 3 rfl n_L_cells_3 dc__law_i)) (@pa_cons _ _ _ _ _ (@pe_op _ _ _ _ _ _ _ _ op_add (@pe_ix _ _ _ _ _ _ _ ix_tup (pvL 0 rfl n_L_cells_0 dc__law_box) pe_int (fun _ _=>rfl)) (pvL 2 rfl n_L_cells_2 dc__law_j)) pa_nil (by trivial)) (by trivial))) pa_nil (by trivial)) (by trivial) (by trivial) (by trivial) (by trivial) (by trivial)) (by trivial))) (by trivial))) (by trivial)) (@pss_one _ _ _ (@ps_ret _ _ _ _ (pvL 1 rfl n_L_cells_1 dc__law_found))))),fn_run (N:=["_law_box","_law_found","_law_j","_law_i"]) (np:=1) (nl:=3) (b_seq b_new (b_seq (b_for (it_range1 (a_cons (e_op o_ixT e_var e_int) a_nil)) g_name (b_for (it_range1 (a_cons (e_op o_ixT e_var e_int) a_nil)) g_name (b_expr (e_mt (i:=1) m_append (a_cons (e_tup (a_cons (e_op o_add (e_op o_ixT e_var e_int) e_var) (a_cons (e_op o_add (e_op o_ixT e_var e_int) e_var) a_nil))) a_nil))))) (b_retM (i:=1)))) rfl h⟩
theorem ok_L_box_of(F:Fun K "_law_box_of" "_law_box_of" s_L_box_of f fd)(C_L_digit:Cal P w K mg base 1 "_law_digit" ["_law_rest","_law_many"] (spD ⟨K,w⟩ m_L_digit false)):FnOk P w K mg base CX0 2 f fd ["_law_rest"] (spD ⟨K,w⟩ m_L_box_of false):=by
 have nd:=sc_L_box_of.nd
 refine F.ok sc_L_box_of (fun vs H Q E h=>fn_len dFun_len h) (fun cdv A outer s H vs Q E hr h=>?_)
 exact⟨_,(@pss_cons _ _ _ _ _ (@ps_set _ _ 1 _ _ _ _ nd rfl n_L_box_of_1 (@pe_op _ _ _ _ _ _ _ _ op_sub (@pe_callC _ _ _ _ _ _ _ _ _ _ C_L_digit hr g_L_box_of__law_digit (@pa_cons _ _ _ _ _ (pvL 0 rfl n_L_box_of_0 dc__law_rest) (@pa_cons _ _ _ _ _ pe_int pa_nil (by trivial)) (by trivial)) dc__law_digit.1 (by trivial) (by trivial)) pe_int) (by trivial) (by trivial)) (@pss_cons _ _ _ _ _ (@ps_set _ _ 2 _ _ _ _ nd rfl n_L_box_of_2 (@pe_op _ _ _ _ _ _ _ _ op_sub (@pe_callC _ _ _ _ _ _ _ _ _ _ C_L_digit hr g_L_box_of__law_digit (@pa_cons _ _ _ _ _ (pvL 0 rfl n_L_box_of_0 dc__law_rest) (@pa_cons _ _ _ _ _ pe_int pa_nil (by trivial)) (by trivial)) dc__law_digit.1 (by trivial) (by trivial)) pe_int) (by trivial) (by trivial)) (@pss_one _ _ _ (@ps_ret _ _ _ _ (@pe_tup _ _ _ _ _ (@pa_cons _ _ _ _ _ (pvL 1 rfl n_L_box_of_1 dc__law_x) (@pa_cons _ _ _ _ _ (pvL 2 rfl n_L_box_of_2 dc__law_y) (@pa_cons _ _ _ _ _ (@pe_op _ _ _ _ _ _ _ _ op_add pe_int (@pe_callC _ _ _ _ _ _ _ _ _ _ C_L_digit hr g_L_box_of__law_digit (@pa_cons _ _ _ _ _ (pvL 0 rfl n_L_box_of_0 dc__law_rest) (@pa_cons _ _ _ _ _ pe_int pa_nil (by trivial)) (by trivial)) dc__law_digit.1 (by trivial) (by trivial))) (@pa_cons _ _ _ _ _ (@pe_op _ _ _ _ _ _ _ _ op_add pe_int (@pe_callC _ _ _ _ _ _ _ _ _ _ C_L_digit hr g_L_box_of__law_digit (@pa_cons _ _ _ _ _ (pvL 0 rfl n_L_box_of_0 dc__law_rest) (@pa_cons _ _ _ _ _ pe_int pa_nil (by trivial)) (by trivial)) dc__law_digit.1 (by trivial) (by trivial))) pa_nil (by trivial)) (by trivial)) (by trivial)) (by trivial))))))),fn_run (N:=["_law_rest","_law_x","_law_y"]) (np:=1) (nl:=2) (b_seq (b_asg (e_op o_sub (e_callM (i:=0) (a_cons e_int a_nil)) e_int) g_name) (b_seq (b_asg (e_op o_sub (e_callM (i:=0) (a_cons e_int a_nil)) e_int) g_name) (b_ret (e_tup (a_cons e_var (a_cons e_var (a_cons (e_op o_add e_int (e_callM (i:=0) (a_cons e_int a_nil))) (a_cons (e_op o_add e_int (e_callM (i:=0) (a_cons e_int a_nil))) a_nil))))) (by decide)))) rfl h⟩
theorem ok_L_drawn(F:Fun K "_law_drawn" "_law_drawn" s_L_drawn f fd)(C_L_digit:Cal P w K mg base 2 "_law_digit" ["_law_rest","_law_many"] (spD ⟨K,w⟩ m_L_digit false))(C_L_cells_by:Cal P w K mg base 2 "_law_cells_by" ["_law_rest"] (spD ⟨K,w⟩ m_L_cells_by true))(C_L_cells:Cal P w K mg base 2 "_law_cells" ["_law_box"] (spD ⟨K,w⟩ m_L_cells true))(C_L_box_of:Cal P w K mg base 2 "_law_box_of" ["_law_rest"] (spD ⟨K,w⟩ m_L_box_of false))(z_range:mg "range"=none):FnOk P w K mg base CX0 3 f fd ["_law_rest"] (spD ⟨K,w⟩ m_L_drawn true):=by
 have nd:=sc_L_drawn.nd
 refine F.ok sc_L_drawn (fun vs H Q E h=>fn_len dFun_len h) (fun cdv A outer s H vs Q E hr h=>?_)
 exact⟨_,(@pss_cons _ _ _ _ _ (@ps_if _ _ _ _ _ _ _ _ (@pt_cmpR _ _ _ _ _ _ _ _ (@op_eqK _ (hu64 hr)) (@pe_callC _ _ _ _ _ _ _ _ _ _ C_L_digit hr g_L_drawn__law_digit (@pa_cons _ _ _ _ _ (pvL 0 rfl n_L_drawn_0 dc__law_rest) (@pa_cons _ _ _ _ _ pe_int pa_nil (by trivial)) (by trivial)) dc__law_digit.1 (by trivial) (by trivial)) pe_int (nomark _)) (@pss_one _ _ _ (@ps_ret _ _ _ _ (@pe_callC _ _ _ _ _ _ _ _ _ _ C_L_cells_by hr g_L_drawn__law_cells_by (@pa_cons _ _ _ _ _ (pvL 0 rfl n_L_drawn_0 dc__law_rest) pa_nil (by trivial)) dc__law_cells_by.1 (by trivial) (by trivial)))) pss_nil) (@pss_cons _ _ _ _ _ (@ps_set _ _ 1 _ _ _ _ nd rfl n_L_drawn_1 (@pe_lst _ _ _ _ pa_nil) (by trivial) (by trivial)) (@pss_cons _ _ _ _ _ (@ps_for _ _ _ _ _ _ _ _ PassesOwn.never rfl (@pi_range1 _ _ _ _ _ _ g_L_drawn_range z_range (@pa_cons _ _ _ _ _ (@pe_op _ _ _ _ _ _ _ _ op_add pe_int (@pe_callC _ _ _ _ _ _ _ _ _ _ C_L_digit hr g_L_drawn__law_digit (@pa_cons _ _ _ _ _ (pvL 0 rfl n_L_drawn_0 dc__law_rest) (@pa_cons _ _ _ _ _ pe_int pa_nil (by trivial)) (by trivial)) dc__law_digit.1 (by trivial) (by trivial))) pa_nil (by trivial)) (by trivial)) (@pg_name _ _ 2 _ nd rfl n_L_drawn_2 (by trivial)) (@pss_one _ _ _ (@ps_expr _ _ _ _ (@pe_bm _ _ _ _ _ _ _ _ _ _ _ _ PySem.F.plainAttrs_list PySem.F.slot_list_extend PySem.F.type_list_extend mt_extend (pvL 1 rfl n_L_drawn_1 dc__law_cells_here) (@pa_cons _ _ _ _ _ (@pe_callC _ _ _ _ _ _ _ _ _ _ C_L_cells hr g_L_drawn__law_cells (@pa_cons _ _ _ _ _ (@pe_callC _ _ _ _ _ _ _ _ _ _ C_L_box_of hr g_L_drawn__law_box_of (@pa_cons _ _ _ _ _ (pvL 0 rfl n_L_drawn_0 dc__law_rest) pa_nil (by trivial)) dc__law_box_of.1 (by trivial) (by trivial)) pa_nil (by trivial)) dc__law_cells.1 (by trivial) (by trivial)) pa_nil (by trivial)) (by trivial) (by trivial) (by trivial) (by trivial) (by trivial)) (by trivial))) (by trivial)) (@pss_one _ _ _ (@ps_ret _ _ _ _ (pvL 1 rfl n_L_drawn_1 dc__law_cells_here)))))),fn_run (N:=["_law_rest","_law_cells_here","_law_k"]) (np:=1) (nl:=2) (b_seq (b_if (t_test (e_op o_eq (e_callM (i:=0) (a_cons e_int a_nil)) e_int)) (b_ret (e_callM (i:=0) a_nil) (by decide)) b_nil) (b_seq b_new (b_seq (b_for (it_range1 (a_cons (e_op o_add e_int (e_callM (i:=0) (a_cons e_int a_nil))) a_nil)) g_name (b_expr (e_mt (i:=1) m_extend (a_cons (e_call (a_cons (e_callM (i:=0) a_nil) a_nil)) a_nil)))) (b_retM (i:=1))))) rfl h⟩
theorem ok_row_by_row(F:Fun K "row_by_row" "row_by_row" s_row_by_row f fd)(z_set:mg "set"=none)(z_sorted:mg "sorted"=none):FnOk P w K mg base CX0 1 f fd ["cells"] (spD ⟨K,w⟩ m_row_by_row true):=by
 have nd:=sc_row_by_row.nd
 refine F.ok sc_row_by_row (fun vs H Q E h=>fn_len dFun_len h) (fun cdv A outer s H vs Q E hr h=>?_)
 exact⟨_,(@pss_cons _ _ _ _ _ (@ps_set _ _ 1 _ _ _ _ nd rfl n_row_by_row_1 (@pe_callB _ _ _ _ _ _ _ _ _ (@call_sortS _ rfl) g_row_by_row_sorted z_sorted PyProof.Rows.boot_sorted (@pa_cons _ _ _ _ _ (@pe_callTy _ _ _ _ _ _ _ _ _ (@call_setN _ rfl (hu64 hr)) g_row_by_row_set z_set PySem.Pv.boot_set (@pa_cons _ _ _ _ _ (@pe_lc _ ["x","y"] 2 [] _ _ _ _ _ _ _ _ _ _ rfl (@lc_ok _ ["x","y"] 2 [] _ ["cells","turned"] (defScope s_row_by_row) rfl rfl (by walk_at "dk")) (@pi_list _ _ _ _ (pvL 0 rfl n_row_by_row_0 dc_cells)) (fun cl fp s3 H3=>(@pg_tup _ _ _ _ _ _ rfl (@pgs_cons _ _ _ _ _ (@pg_name _ _ 0 _ nd0_row_by_row rfl (loc_local (by walk_at "dk")) (Or.inr (rl_local (by walk_at "dk")))) (@pgs_cons _ _ _ _ _ (@pg_name _ _ 1 _ nd0_row_by_row rfl (loc_local (by walk_at "dk")) (Or.inr (rl_local (by walk_at "dk")))) pgs_nil (by trivial)) (by trivial)) (by trivial) (by trivial))) (fun cl fp s3 H3=>pts_nil) (fun cl fp s3 H3=>(@pe_tup _ _ _ _ _ (@pa_cons _ _ _ _ _ (@pv _ 1 _ _ rfl (vis_local (by walk_at "dk")) dc_y.1 dc_y.2) (@pa_cons _ _ _ _ _ (@pv _ 0 _ _ rfl (vis_local (by walk_at "dk")) dc_x.1 dc_x.2) pa_nil (by trivial)) (by trivial)))) (by trivial)) pa_nil (by trivial)) nam_set dc_set.1 (by trivial) (by trivial)) pa_nil (by trivial)) nam_sorted dc_sorted.1 (by trivial) (by trivial)) (by trivial) (by trivial)) (@pss_one _ _ _ (@ps_ret _ _ _ _ (@pe_lc _ ["y","x"] 2 [] _ _ _ _ _ _ _ _ _ _ rfl (@lc_ok _ ["y","x"] 2 [] _ ["cells","turned"] (defScope s_row_by_row) rfl rfl (by walk_at "dk")) (@pi_list _ _ _ _ (pvL 1 rfl n_row_by_row_1 dc_turned)) (fun cl fp s3 H3=>(@pg_tup _ _ _ _ _ _ rfl (@pgs_cons _ _ _ _ _ (@pg_name _ _ 0 _ nd1_row_by_row rfl (loc_local (by walk_at "dk")) (Or.inr (rl_local (by walk_at "dk")))) (@pgs_cons _ _ _ _ _ (@pg_name _ _ 1 _ nd1_row_by_row rfl (loc_local (by walk_at "dk")) (Or.inr (rl_local (by walk_at "dk")))) pgs_nil (by trivial)) (by trivial)) (by trivial) (by trivial))) (fun cl fp s3 H3=>pts_nil) (fun cl fp s3 H3=>(@pe_tup _ _ _ _ _ (@pa_cons _ _ _ _ _ (@pv _ 1 _ _ rfl (vis_local (by walk_at "dk")) dc_x.1 dc_x.2) (@pa_cons _ _ _ _ _ (@pv _ 0 _ _ rfl (vis_local (by walk_at "dk")) dc_y.1 dc_y.2) pa_nil (by trivial)) (by trivial)))) (by trivial))))),fn_run (N:=["cells","turned"]) (np:=1) (nl:=1) (b_seq (b_asg (e_ss (e_lc (it_list e_var) (g_tup (gs_cons g_name (gs_cons g_name gs_nil)) (len_cons (len_cons len_nil))) t_yes (e_tup (a_cons e_var (a_cons e_var a_nil))))) g_name) (b_ret (e_lc (it_list e_var) (g_tup (gs_cons g_name (gs_cons g_name gs_nil)) (len_cons (len_cons len_nil))) t_yes (e_tup (a_cons e_var (a_cons e_var a_nil)))) (by decide))) rfl h⟩
theorem ok_is_next(F:Fun K "is_next" "is_next" s_is_next f fd):FnOk P w K mg base CX0 1 f fd ["stretch","cell"] (spD ⟨K,w⟩ m_is_next false):=by
 have nd:=sc_is_next.nd
 refine F.ok sc_is_next (fun vs H Q E h=>fn_len dFun_len h) (fun cdv A outer s H vs Q E hr h=>?_)
 exact⟨_,(@pss_one _ _ _ (@ps_ret _ _ _ _ (@pe_cmpR _ _ _ _ _ _ _ _ (@op_eqK _ (hu64 hr)) (pvL 1 rfl n_is_next_1 dc_cell) (@pe_tup _ _ _ _ _ (@pa_cons _ _ _ _ _ (@pe_op _ _ _ _ _ _ _ _ op_add (@pe_ix _ _ _ _ _ _ _ ix_tup (pvL 0 rfl n_is_next_0 dc_stretch) pe_int (fun _ _=>rfl)) (@pe_ix _ _ _ _ _ _ _ ix_tup (pvL 0 rfl n_is_next_0 dc_stretch) pe_int (fun _ _=>rfl))) (@pa_cons _ _ _ _ _ (@pe_ix _ _ _ _ _ _ _ ix_tup (pvL 0 rfl n_is_next_0 dc_stretch) pe_int (fun _ _=>rfl)) pa_nil (by trivial)) (by trivial))) (nomark _)))),fn_run (N:=["stretch","cell"]) (np:=2) (nl:=0) (b_ret (e_op o_eq e_var (e_tup (a_cons (e_op o_add (e_op o_ixT e_var e_int) (e_op o_ixT e_var e_int)) (a_cons (e_op o_ixT e_var e_int) a_nil)))) (by decide)) rfl h⟩
theorem ok_stretches_of(F:Fun K "stretches_of" "stretches_of" s_stretches_of f fd)(C_row_by_row:Cal P w K mg base 1 "row_by_row" ["cells"] (spD ⟨K,w⟩ m_row_by_row true))(C_is_next:Cal P w K mg base 1 "is_next" ["stretch","cell"] (spD ⟨K,w⟩ m_is_next false))(z_len:mg "len"=none):FnOk P w K mg base CX0 2 f fd ["cells"] (spD ⟨K,w⟩ m_stretches_of true):=by
 have nd:=sc_stretches_of.nd
 refine F.ok sc_stretches_of (fun vs H Q E h=>fn_len dFun_len h) (fun cdv A outer s H vs Q E hr h=>?_)
 exact⟨_,(@pss_cons _ _ _ _ _ (@ps_set _ _ 1 _ _ _ _ nd rfl n_stretches_of_1 (@pe_lst _ _ _ _ pa_nil) (by trivial) (by trivial)) (@pss_cons _ _ _ _ _ (@ps_for _ _ _ _ _ _ _ _ PassesOwn.never rfl (@pi_list _ _ _ _ (@pe_callC _ _ _ _ _ _ _ _ _ _ C_row_by_row hr g_stretches_of_row_by_row (@pa_cons _ _ _ _ _ (pvL 0 rfl n_stretches_of_0 dc_cells) pa_nil (by trivial)) dc_row_by_row.1 (by trivial) (by trivial))) (@pg_name _ _ 2 _ nd rfl n_stretches_of_2 (by trivial)) (@pss_one _ _ _ (@ps_if _ _ _ _ _ _ _ _ (@PW.pt _ _ _ (@pw_and _ _ _ _ _ _ _ (@pt_cmpR _ _ _ _ _ _ _ _ op_gt (@pe_callB _ _ _ _ _ _ _ _ _ call_len g_stretches_of_len z_len PySem.boot_len (@pa_cons _ _ _ _ _ (pvL 1 rfl n_stretches_of_1 dc_stretches) pa_nil (by trivial)) nam_len dc_len.1 (by trivial) (by trivial)) pe_int (nomark _)) (@pw_and1 _ _ _ _ (@pt_val _ _ _ (@pe_callC _ _ _ _ _ _ _ _ _ _ C_is_next hr g_stretches_of_is_next (@pa_cons _ _ _ _ _ (@pe_ix _ _ _ _ _ _ _ ix_list (pvL 1 rfl n_stretches_of_1 dc_stretches) (@pe_un _ _ _ _ _ _ un_neg pe_int) (fun _ _=>rfl)) (@pa_cons _ _ _ _ _ (pvL 2 rfl n_stretches_of_2 dc_cell) pa_nil (by trivial)) (by trivial)) dc_is_next.1 (by trivial) (by trivial)) (by trivial))))) (@pss_cons _ _ _ _ _ (@ps_set _ _ 3 _ _ _ _ nd rfl n_stretches_of_3 (@pe_ix _ _ _ _ _ _ _ ix_list (pvL 1 rfl n_stretches_of_1 dc_stretches) (@pe_un _ _ _ _ _ _ un_neg pe_int) (fun _ _=>rfl)) (by trivial) (by trivial)) (@pss_one _ _ _ (@ps_asg _ _ _ _ _ _ (@pe_tup _ _ _ _ _ (@pa_cons _ _ _ _ _ (@pe_ix _ _ _ _ _ _ _ ix_tup (pvL 3 rfl n_stretches_of_3 dc_last) pe_int (fun _ _=>rfl)) (@pa_cons _ _ _ _ _ (@pe_ix _ _ _ _ _ _ _ ix_tup (pvL 3 rfl n_stretches_of_3 dc_last) pe_int (fun _ _=>rfl)) (@pa_cons _ _ _ _ _ (@pe_op _ _ _ _ _ _ _ _ op_add (@pe_ix _ _ _ _ _ _ _ ix_tup (pvL 3 rfl n_stretches_of_3 dc_last) pe_int (fun _ _=>rfl)) pe_int) pa_nil (by trivial)) (by trivial)) (by trivial))) (@pg_sub _ _ _ _ _ _ _ (pvL 1 rfl n_stretches_of_1 dc_stretches) (@pe_un _ _ _ _ _ _ un_neg pe_int) set_list (by trivial)) (by trivial) (by trivial) (by trivial)))) (@pss_one _ _ _ (@ps_expr _ _ _ _ (@pe_bm _ _ _ _ _ _ _ _ _ _ _ _ PySem.F.plainAttrs_list PySem.F.slot_list_append PySem.F.type_list_append mt_append (pvL 1 rfl n_stretches_of_1 dc_stretches) (@pa_cons _ _ _ _ _ (@pe_tup _ _ _ _ _ (@pa_cons _ _ _ _ _ (@pe_ix _ _ _ _ _ _ _ ix_tup (pvL 2 rfl n_stretches_of_2 dc_cell) pe_int (fun _ _=>rfl)) (@pa_cons _ _ _ _ _ (@pe_ix _ _ _ _ _ _ _ ix_tup (pvL 2 rfl n_stretches_of_2 dc_cell) pe_int (fun _ _=>rfl)) (@pa_cons _ _ _ _ _ pe_int pa_nil (by trivial)) (by trivial)) (by trivial))) pa_nil (by trivial)) (by trivial) (by trivial) (by trivial) (by trivial) (by trivial)) (by trivial))))) (by trivial)) (@pss_one _ _ _ (@ps_ret _ _ _ _ (pvL 1 rfl n_stretches_of_1 dc_stretches))))),fn_run (N:=["cells","stretches","cell","last"]) (np:=1) (nl:=3) (b_seq b_new (b_seq (b_for (it_list (e_call (a_cons e_var a_nil))) g_name (b_if (t_bor (i:=1) (t_and (t_test (e_op o_gt (e_app c_len (a_cons e_var a_nil)) e_int)) (t_val (e_call (a_cons (e_op o_ixL e_var (e_un u_neg e_int)) (a_cons e_var a_nil)))))) (b_seq (b_asg (e_bor (i:=1) (e_op o_ixL e_var (e_un u_neg e_int))) g_name) (b_setI (i:=1) (e_tup (a_cons (e_op o_ixT e_var e_int) (a_cons (e_op o_ixT e_var e_int) (a_cons (e_op o_add (e_op o_ixT e_var e_int) e_int) a_nil)))) (e_un u_neg e_int))) (b_expr (e_mt (i:=1) m_append (a_cons (e_tup (a_cons (e_op o_ixT e_var e_int) (a_cons (e_op o_ixT e_var e_int) (a_cons e_int a_nil)))) a_nil))))) (b_retM (i:=1)))) rfl h⟩
theorem ok_blocks_of(F:Fun K "blocks_of" "blocks_of" s_blocks_of f fd)(C_stretches_of:Cal P w K mg base 2 "stretches_of" ["cells"] (spD ⟨K,w⟩ m_stretches_of true))(z_len:mg "len"=none):FnOk P w K mg base CX0 3 f fd ["cells"] (spD ⟨K,w⟩ m_blocks_of true):=by
 have nd:=sc_blocks_of.nd
 refine F.ok sc_blocks_of (fun vs H Q E h=>fn_len dFun_len h) (fun cdv A outer s H vs Q E hr h=>?_)
 exact⟨_,(@pss_cons _ _ _ _ _ (@ps_set _ _ 1 _ _ _ _ nd rfl n_blocks_of_1 (@pe_lst _ _ _ _ pa_nil) (by trivial) (by trivial)) (@pss_cons _ _ _ _ _ (@ps_set _ _ 2 _ _ _ _ nd rfl n_blocks_of_2 pe_newD (by trivial) (by trivial)) (@pss_cons _ _ _ _ _ (@ps_for _ _ _ _ _ _ _ _ PassesOwn.never rfl (@pi_list _ _ _ _ (@pe_callC _ _ _ _ _ _ _ _ _ _ C_stretches_of hr g_blocks_of_stretches_of (@pa_cons _ _ _ _ _ (pvL 0 rfl n_blocks_of_0 dc_cells) pa_nil (by trivial)) dc_stretches_of.1 (by trivial) (by trivial))) (@pg_tup _ _ _ _ _ _ rfl (@pgs_cons _ _ _ _ _ (@pg_name _ _ 3 _ nd rfl n_blocks_of_3 (by trivial)) (@pgs_cons _ _ _ _ _ (@pg_name _ _ 4 _ nd rfl n_blocks_of_4 (by trivial)) (@pgs_cons _ _ _ _ _ (@pg_name _ _ 5 _ nd rfl n_blocks_of_5 (by trivial)) pgs_nil (by trivial)) (by trivial)) (by trivial)) (by trivial) (by trivial)) (@pss_cons _ _ _ _ _ (@ps_set _ _ 6 _ _ _ _ nd rfl n_blocks_of_6 (@pe_getD _ _ _ _ _ _ _ (hu64 hr) (pvL 2 rfl n_blocks_of_2 dc_latest) (@pe_tup _ _ _ _ _ (@pa_cons _ _ _ _ _ (pvL 3 rfl n_blocks_of_3 dc_x) (@pa_cons _ _ _ _ _ (pvL 5 rfl n_blocks_of_5 dc_many) pa_nil (by trivial)) (by trivial))) (by trivial) (by trivial) (by trivial) (by trivial)) (by trivial) (by trivial)) (@pss_one _ _ _ (@ps_if _ _ _ _ _ _ _ _ (@PW.pt _ _ _ (@pw_and _ _ _ _ _ _ _ (@pt_cmpR _ _ _ _ _ _ _ _ op_notN (pvL 6 rfl n_blocks_of_6 dc_place) pe_non (nomark _)) (@pw_and1 _ _ _ _ (@pt_cmpR _ _ _ _ _ _ _ _ (@op_eqK _ (hu64 hr)) (@pe_op _ _ _ _ _ _ _ _ op_add (@pe_ix _ _ _ _ _ _ _ ix_tup (@pe_ix _ _ _ _ _ _ _ ix_list (pvL 1 rfl n_blocks_of_1 dc_blocks) (pvL 6 rfl n_blocks_of_6 dc_place) (fun _ _=>rfl)) pe_int (fun _ _=>rfl)) (@pe_ix _ _ _ _ _ _ _ ix_tup (@pe_ix _ _ _ _ _ _ _ ix_list (pvL 1 rfl n_blocks_of_1 dc_blocks) (pvL 6 rfl n_blocks_of_6 dc_place) (fun _ _=>rfl)) pe_int (fun _ _=>rfl))) (pvL 4 rfl n_blocks_of_4 dc_y) (nomark _))))) (@pss_cons _ _ _ _ _ (@ps_set _ _ 7 _ _ _ _ nd rfl n_blocks_of_7 (@pe_ix _ _ _ _ _ _ _ ix_list (pvL 1 rfl n_blocks_of_1 dc_blocks) (pvL 6 rfl n_blocks_of_6 dc_place) (fun _ _=>rfl)) (by trivial) (by trivial)) (@pss_one _ _ _ (@ps_asg _ _ _ _ _ _ (@pe_tup _ _ _ _ _ (@pa_cons _ _ _ _ _ (pvL 3 rfl n_blocks_of_3 dc_x) (@pa_cons _ _ _ _ _ (@pe_ix _ _ _ _ _ _ _ ix_tup (pvL 7 rfl n_blocks_of_7 dc_block) pe_int (fun _ _=>rfl)) (@pa_cons _ _ _ _ _ (pvL 5 rfl n_blocks_of_5 dc_many) (@pa_cons _ _ _ _ _ (@pe_op _ _ _ _ _ _ _ _ op_add (@pe_ix _ _ _ _ _ _ _ ix_tup (pvL 7 rfl n_blocks_of_7 dc_block) pe_int (fun _ _=>rfl)) pe_int) pa_nil (by trivial)) (by trivial)) (by trivial)) (by trivial))) (@pg_sub _ _ _ _ _ _ _ (pvL 1 rfl n_blocks_of_1 dc_blocks) (pvL 6 rfl n_blocks_of_6 dc_place) set_list (by trivial)) (by trivial) (by trivial) (by trivial)))) (@pss_cons _ _ _ _ _ (@ps_asg _ _ _ _ _ _ (@pe_callB _ _ _ _ _ _ _ _ _ call_len g_blocks_of_len z_len PySem.boot_len (@pa_cons _ _ _ _ _ (pvL 1 rfl n_blocks_of_1 dc_blocks) pa_nil (by trivial)) nam_len dc_len.1 (by trivial) (by trivial)) (@pg_sub _ _ _ _ _ _ _ (pvL 2 rfl n_blocks_of_2 dc_latest) (@pe_tup _ _ _ _ _ (@pa_cons _ _ _ _ _ (pvL 3 rfl n_blocks_of_3 dc_x) (@pa_cons _ _ _ _ _ (pvL 5 rfl n_blocks_of_5 dc_many) pa_nil (by trivial)) (by trivial))) (@set_dict _ (hu64 hr)) (by trivial)) (by trivial) (by trivial) (by trivial)) (@pss_one _ _ _ (@ps_expr _ _ _ _ (@pe_bm _ _ _ _ _ _ _ _ _ _ _ _ PySem.F.plainAttrs_list PySem.F.slot_list_append PySem.F.type_list_append mt_append (pvL 1 rfl n_blocks_of_1 dc_blocks) (@pa_cons _ _ _ _ _ (@pe_tup _ _ _ _ _ (@pa_cons _ _ _ _ _ (pvL 3 rfl n_blocks_of_3 dc_x) (@pa_cons _ _ _ _ _ (pvL 4 rfl n_blocks_of_4 dc_y) (@pa_cons _ _ _ _ _ (pvL 5 rfl n_blocks_of_5 dc_many) (@pa_cons _ _ _ _ _ pe_int pa_nil (by trivial)) (by trivial)) (by trivial)) (by trivial))) pa_nil (by trivial)) (by trivial) (by trivial) (by trivial) (by trivial) (by trivial)) (by trivial))))))) (by trivial)) (@pss_one _ _ _ (@ps_ret _ _ _ _ (pvL 1 rfl n_blocks_of_1 dc_blocks)))))),fn_run (N:=["cells","blocks","latest","x","y","many","place","block"]) (np:=1) (nl:=7) (b_seq b_new (b_seq b_newK (b_seq (b_for (it_list (e_call (a_cons e_var a_nil))) (g_tup (gs_cons g_name (gs_cons g_name (gs_cons g_name gs_nil))) (len_cons (len_cons (len_cons len_nil)))) (b_seq (b_asg (e_bor (i:=2) (e_getD e_var (e_tup (a_cons e_var (a_cons e_var a_nil))))) g_name) (b_if (t_bor (i:=1) (t_and (t_test (e_op o_notN e_var e_non)) (t_test (e_op o_eq (e_op o_add (e_op o_ixT (e_op o_ixL e_var e_var) e_int) (e_op o_ixT (e_op o_ixL e_var e_var) e_int)) e_var)))) (b_seq (b_asg (e_bor (i:=1) (e_op o_ixL e_var e_var)) g_name) (b_setI (i:=1) (e_tup (a_cons e_var (a_cons (e_op o_ixT e_var e_int) (a_cons e_var (a_cons (e_op o_add (e_op o_ixT e_var e_int) e_int) a_nil))))) e_var)) (b_seq (b_putK (i:=2) (e_bor (i:=1) (e_app c_len (a_cons e_var a_nil))) (e_tup (a_cons e_var (a_cons e_var a_nil)))) (b_expr (e_mt (i:=1) m_append (a_cons (e_tup (a_cons e_var (a_cons e_var (a_cons e_var (a_cons e_int a_nil))))) a_nil))))))) (b_retM (i:=1))))) rfl h⟩
theorem ok_L_cell_at(F:Fun K "_law_cell_at" "_law_cell_at" s_L_cell_at f fd)(z_len:mg "len"=none):FnOk P w K mg base CX0 1 f fd ["_law_script","_law_k"] (spD ⟨K,w⟩ m_L_cell_at false):=by
 have nd:=sc_L_cell_at.nd
 refine F.ok sc_L_cell_at (fun vs H Q E h=>fn_len dFun_len h) (fun cdv A outer s H vs Q E hr h=>?_)
 exact⟨_,(@pss_cons _ _ _ _ _ (@ps_if _ _ _ _ _ _ _ _ (@pt_cmpR _ _ _ _ _ _ _ _ op_lt (pvL 1 rfl n_L_cell_at_1 dc__law_k) (@pe_callB _ _ _ _ _ _ _ _ _ call_len g_L_cell_at_len z_len PySem.boot_len (@pa_cons _ _ _ _ _ (pvL 0 rfl n_L_cell_at_0 dc__law_script) pa_nil (by trivial)) nam_len dc_len.1 (by trivial) (by trivial)) (nomark _)) (@pss_one _ _ _ (@ps_ret _ _ _ _ (@pe_ix _ _ _ _ _ _ _ ix_list (pvL 0 rfl n_L_cell_at_0 dc__law_script) (pvL 1 rfl n_L_cell_at_1 dc__law_k) (fun _ _=>rfl)))) pss_nil) (@pss_one _ _ _ (@ps_ret _ _ _ _ pe_int))),fn_run (N:=["_law_script","_law_k"]) (np:=2) (nl:=0) (b_seq (b_if (t_test (e_op o_lt e_var (e_lenC (i:=0)))) (b_ret (e_ixC (i:=0) e_var) (by decide)) b_nil) (b_ret e_int (by decide))) rfl h⟩
theorem ok_L_big(F:Fun K "_law_big" "_law_big" s_L_big f fd)(C_L_cell_at:Cal P w K mg base 1 "_law_cell_at" ["_law_script","_law_k"] (spD ⟨K,w⟩ m_L_cell_at false))(z_range:mg "range"=none):FnOk P w K mg base CX0 2 f fd ["_law_script","_law_at"] (spD ⟨K,w⟩ m_L_big false):=by
 have nd:=sc_L_big.nd
 refine F.ok sc_L_big (fun vs H Q E h=>fn_len dFun_len h) (fun cdv A outer s H vs Q E hr h=>?_)
 exact⟨_,(@pss_cons _ _ _ _ _ (@ps_set _ _ 2 _ _ _ _ nd rfl n_L_big_2 (@pe_tup _ _ _ _ _ (@pa_cons _ _ _ _ _ pe_int (@pa_cons _ _ _ _ _ pe_int (@pa_cons _ _ _ _ _ pe_int (@pa_cons _ _ _ _ _ pe_int (@pa_cons _ _ _ _ _ pe_int (@pa_cons _ _ _ _ _ pe_int (@pa_cons _ _ _ _ _ pe_int (@pa_cons _ _ _ _ _ pe_int pa_nil (by trivial)) (by trivial)) (by trivial)) (by trivial)) (by trivial)) (by trivial)) (by trivial)) (by trivial))) (by trivial) (by trivial)) (@pss_cons _ _ _ _ _ (@ps_set _ _ 3 _ _ _ _ nd rfl n_L_big_3 (@pe_tup _ _ _ _ _ (@pa_cons _ _ _ _ _ pe_int (@pa_cons _ _ _ _ _ pe_int (@pa_cons _ _ _ _ _ pe_int (@pa_cons _ _ _ _ _ pe_int (@pa_cons _ _ _ _ _ pe_int (@pa_cons _ _ _ _ _ pe_int (@pa_cons _ _ _ _ _ pe_int (@pa_cons _ _ _ _ _ pe_int pa_nil (by trivial)) (by trivial)) (by trivial)) (by trivial)) (by trivial)) (by trivial)) (by trivial)) (by trivial))) (by trivial) (by trivial)) (@pss_cons _ _ _ _ _ (@ps_set _ _ 4 _ _ _ _ nd rfl n_L_big_4 (@pe_callC _ _ _ _ _ _ _ _ _ _ C_L_cell_at hr g_L_big__law_cell_at (@pa_cons _ _ _ _ _ (pvL 0 rfl n_L_big_0 dc__law_script) (@pa_cons _ _ _ _ _ (pvL 1 rfl n_L_big_1 dc__law_at) pa_nil (by trivial)) (by trivial)) dc__law_cell_at.1 (by trivial) (by trivial)) (by trivial) (by trivial)) (@pss_cons _ _ _ _ _ (@ps_if _ _ _ _ _ _ _ _ (@pt_cmpR _ _ _ _ _ _ _ _ op_ge (pvL 4 rfl n_L_big_4 dc__law_cell) (@pe_op _ _ _ _ _ _ _ _ op_pow pe_int pe_int) (nomark _)) (@pss_one _ _ _ (@ps_ret _ _ _ _ (pvL 4 rfl n_L_big_4 dc__law_cell))) pss_nil) (@pss_cons _ _ _ _ _ (@ps_set _ _ 5 _ _ _ _ nd rfl n_L_big_5 pe_int (by trivial) (by trivial)) (@pss_cons _ _ _ _ _ (@ps_for _ _ _ _ _ _ _ _ PassesOwn.never rfl (@pi_range1 _ _ _ _ _ _ g_L_big_range z_range (@pa_cons _ _ _ _ _ pe_int pa_nil (by trivial)) (by trivial)) (@pg_name _ _ 6 _ nd rfl n_L_big_6 (by trivial)) (@pss_cons _ _ _ _ _ (@ps_set _ _ 7 _ _ _ _ nd rfl n_L_big_7 (@pe_op _ _ _ _ _ _ _ _ op_add (@pe_op _ _ _ _ _ _ _ _ op_add (@pe_op _ _ _ _ _ _ _ _ op_mod (@pe_callC _ _ _ _ _ _ _ _ _ _ C_L_cell_at hr g_L_big__law_cell_at (@pa_cons _ _ _ _ _ (pvL 0 rfl n_L_big_0 dc__law_script) (@pa_cons _ _ _ _ _ (@pe_op _ _ _ _ _ _ _ _ op_add (pvL 1 rfl n_L_big_1 dc__law_at) (@pe_op _ _ _ _ _ _ _ _ op_mod (pvL 6 rfl n_L_big_6 dc__law_k) pe_int)) pa_nil (by trivial)) (by trivial)) dc__law_cell_at.1 (by trivial) (by trivial)) (@pe_op _ _ _ _ _ _ _ _ op_pow pe_int pe_int)) pe_int) (@pe_op _ _ _ _ _ _ _ _ op_mulB (pvL 6 rfl n_L_big_6 dc__law_k) (pvL 6 rfl n_L_big_6 dc__law_k))) (by trivial) (by trivial)) (@pss_one _ _ _ (@ps_set _ _ 5 _ _ _ _ nd rfl n_L_big_5 (@pe_op _ _ _ _ _ _ _ _ op_add (@pe_op _ _ _ _ _ _ _ _ op_mulB (pvL 5 rfl n_L_big_5 dc__law_big_here) pe_int) (@pe_op _ _ _ _ _ _ _ _ op_mod (@pe_op _ _ _ _ _ _ _ _ op_mod (@pe_op _ _ _ _ _ _ _ _ op_mulB (pvL 7 rfl n_L_big_7 dc__law_one) (@pe_ix _ _ _ _ _ _ _ ix_tup (pvL 2 rfl n_L_big_2 dc__law_by) (@pe_op _ _ _ _ _ _ _ _ op_mod (pvL 6 rfl n_L_big_6 dc__law_k) pe_int) (fun _ _=>rfl))) (@pe_ix _ _ _ _ _ _ _ ix_tup (pvL 3 rfl n_L_big_3 dc__law_prime) (@pe_op _ _ _ _ _ _ _ _ op_mod (pvL 6 rfl n_L_big_6 dc__law_k) pe_int) (fun _ _=>rfl))) pe_int)) (by trivial) (by trivial)))) (by trivial)) (@pss_one _ _ _ (@ps_ret _ _ _ _ (pvL 5 rfl n_L_big_5 dc__law_big_here))))))))),fn_run (N:=["_law_script","_law_at","_law_by","_law_prime","_law_cell","_law_big_here","_law_k","_law_one"]) (np:=2) (nl:=6) (b_seq (b_asg (e_tup (a_cons e_int (a_cons e_int (a_cons e_int (a_cons e_int (a_cons e_int (a_cons e_int (a_cons e_int (a_cons e_int a_nil))))))))) g_name) (b_seq (b_asg (e_tup (a_cons e_int (a_cons e_int (a_cons e_int (a_cons e_int (a_cons e_int (a_cons e_int (a_cons e_int (a_cons e_int a_nil))))))))) g_name) (b_seq (b_asg (e_callC (i:=0) (a_cons e_var a_nil)) g_name) (b_seq (b_if (t_test (e_op o_ge e_var (e_op o_pow e_int e_int))) (b_ret e_var (by decide)) b_nil) (b_seq (b_asg e_int g_name) (b_seq (b_for (it_range1 (a_cons e_int a_nil)) g_name (b_seq (b_asg (e_op o_add (e_op o_add (e_op o_mod (e_callC (i:=0) (a_cons (e_op o_add e_var (e_op o_mod e_var e_int)) a_nil)) (e_op o_pow e_int e_int)) e_int) (e_op o_mul e_var e_var)) g_name) (b_asg (e_op o_add (e_op o_mul e_var e_int) (e_op o_mod (e_op o_mod (e_op o_mul e_var (e_op o_ixT e_var (e_op o_mod e_var e_int))) (e_op o_ixT e_var (e_op o_mod e_var e_int))) e_int)) g_name))) (b_ret e_var (by decide)))))))) rfl h⟩
theorem ok_L_tuples(F:Fun K "_law_tuples" "_law_tuples" s_L_tuples f fd)(z_list:mg "list"=none)(z_isinstance:mg "isinstance"=none)(z_len:mg "len"=none)(z_tuple:mg "tuple"=none)(z_bool:mg "bool"=none)(z_int:mg "int"=none):FnOk P w K mg base CX0 1 f fd ["_law_found","_law_size"] (spD ⟨K,w⟩ m_L_tuples false):=by
 have nd:=sc_L_tuples.nd
 refine F.ok sc_L_tuples (fun vs H Q E h=>fn_len dFun_len h) (fun cdv A outer s H vs Q E hr h=>?_)
 exact⟨_,(@pss_cons _ _ _ _ _ (@ps_if _ _ _ _ _ _ _ _ (@pt_not _ _ _ _ (@pt_val _ _ _ (@pe_callB _ _ _ _ _ _ _ _ _ call_isiK g_L_tuples_isinstance z_isinstance PyProof.Rows.boot_isinstance (@pa_cons _ _ _ _ _ (pvL 0 rfl n_L_tuples_0 dc__law_found) (@pa_cons _ _ _ _ _ (pe_ty g_L_tuples_list z_list PySem.Pv.boot_list nam_list dc_list.1) pa_nil (by trivial)) (by trivial)) nam_isinstance dc_isinstance.1 (by trivial) (by trivial)) (by trivial))) (@pss_one _ _ _ (@ps_ret _ _ _ _ pe_bl)) pss_nil) (@pss_cons _ _ _ _ _ (@ps_for _ _ _ _ _ _ _ _ PassesOwn.never rfl (@pi_list _ _ _ _ (pvL 0 rfl n_L_tuples_0 dc__law_found)) (@pg_name _ _ 2 _ nd rfl n_L_tuples_2 (by trivial)) (@pss_cons _ _ _ _ _ (@ps_if _ _ _ _ _ _ _ _ (@PW.pt _ _ _ (@pw_or _ _ _ _ _ _ _ (@pt_not _ _ _ _ (@pt_val _ _ _ (@pe_callB _ _ _ _ _ _ _ _ _ call_isiK g_L_tuples_isinstance z_isinstance PyProof.Rows.boot_isinstance (@pa_cons _ _ _ _ _ (pvL 2 rfl n_L_tuples_2 dc__law_one) (@pa_cons _ _ _ _ _ (pe_ty g_L_tuples_tuple z_tuple PySem.Pv.boot_tuple nam_tuple dc_tuple.1) pa_nil (by trivial)) (by trivial)) nam_isinstance dc_isinstance.1 (by trivial) (by trivial)) (by trivial))) (@pw_or1 _ _ _ _ (@pt_cmpR _ _ _ _ _ _ _ _ (@op_neK _ (hu64 hr)) (@pe_callB _ _ _ _ _ _ _ _ _ call_len g_L_tuples_len z_len PySem.boot_len (@pa_cons _ _ _ _ _ (pvL 2 rfl n_L_tuples_2 dc__law_one) pa_nil (by trivial)) nam_len dc_len.1 (by trivial) (by trivial)) (pvL 1 rfl n_L_tuples_1 dc__law_size) (nomark _))))) (@pss_one _ _ _ (@ps_ret _ _ _ _ pe_bl)) pss_nil) (@pss_one _ _ _ (@ps_for _ _ _ _ _ _ _ _ PassesOwn.never rfl (@pi_tup _ _ _ _ (pvL 2 rfl n_L_tuples_2 dc__law_one)) (@pg_name _ _ 3 _ nd rfl n_L_tuples_3 (by trivial)) (@pss_one _ _ _ (@ps_if _ _ _ _ _ _ _ _ (@PW.pt _ _ _ (@pw_or _ _ _ _ _ _ _ (@pt_not _ _ _ _ (@pt_val _ _ _ (@pe_callB _ _ _ _ _ _ _ _ _ call_isiK g_L_tuples_isinstance z_isinstance PyProof.Rows.boot_isinstance (@pa_cons _ _ _ _ _ (pvL 3 rfl n_L_tuples_3 dc__law_part) (@pa_cons _ _ _ _ _ (pe_ty g_L_tuples_int z_int PySem.Pv.boot_int nam_int dc_int.1) pa_nil (by trivial)) (by trivial)) nam_isinstance dc_isinstance.1 (by trivial) (by trivial)) (by trivial))) (@pw_or1 _ _ _ _ (@pt_val _ _ _ (@pe_callB _ _ _ _ _ _ _ _ _ call_isiK g_L_tuples_isinstance z_isinstance PyProof.Rows.boot_isinstance (@pa_cons _ _ _ _ _ (pvL 3 rfl n_L_tuples_3 dc__law_part) (@pa_cons _ _ _ _ _ (pe_ty g_L_tuples_bool z_bool PySem.Pv.boot_bool nam_bool dc_bool.1) pa_nil (by trivial)) (by trivial)) nam_isinstance dc_isinstance.1 (by trivial) (by trivial)) (by trivial))))) (@pss_one _ _ _ (@ps_ret _ _ _ _ pe_bl)) pss_nil)) (by trivial)))) (by trivial)) (@pss_one _ _ _ (@ps_ret _ _ _ _ pe_bl)))),fn_run (N:=["_law_found","_law_size","_law_one","_law_part"]) (np:=2) (nl:=2) (b_seq (b_if (t_not (t_val (e_isi (T:="list") e_var))) (b_ret e_bl (by decide)) b_nil) (b_seq (b_for (it_list e_var) g_name (b_seq (b_if (t_or (t_not (t_val (e_isi (T:="tuple") e_var))) (t_test (e_op o_ne (e_app c_len (a_cons e_var a_nil)) e_var))) (b_ret e_bl (by decide)) b_nil) (b_for (it_tup e_var) g_name (b_if (t_or (t_not (t_val (e_isi (T:="int") e_var))) (t_val (e_isi (T:="bool") e_var))) (b_ret e_bl (by decide)) b_nil)))) (b_ret e_bl (by decide)))) rfl h⟩
theorem ok_L_is_stretch(F:Fun K "_law_is_stretch" "_law_is_stretch" s_L_is_stretch f fd)(z_range:mg "range"=none):FnOk P w K mg base CX0 1 f fd ["_law_cells_here","_law_x","_law_y","_law_many"] (spD ⟨K,w⟩ m_L_is_stretch false):=by
 have nd:=sc_L_is_stretch.nd
 refine F.ok sc_L_is_stretch (fun vs H Q E h=>fn_len dFun_len h) (fun cdv A outer s H vs Q E hr h=>?_)
 exact⟨_,(@pss_cons _ _ _ _ _ (@ps_if _ _ _ _ _ _ _ _ (@PW.pt _ _ _ (@pw_or _ _ _ _ _ _ _ (@pt_cmpR _ _ _ _ _ _ _ _ (@op_inK _ (hu65 hr)) (@pe_tup _ _ _ _ _ (@pa_cons _ _ _ _ _ (@pe_op _ _ _ _ _ _ _ _ op_sub (pvL 1 rfl n_L_is_stretch_1 dc__law_x) pe_int) (@pa_cons _ _ _ _ _ (pvL 2 rfl n_L_is_stretch_2 dc__law_y) pa_nil (by trivial)) (by trivial))) (pvL 0 rfl n_L_is_stretch_0 dc__law_cells_here) (by with_unfolding_all rfl)) (@pw_or1 _ _ _ _ (@pt_cmpR _ _ _ _ _ _ _ _ (@op_inK _ (hu65 hr)) (@pe_tup _ _ _ _ _ (@pa_cons _ _ _ _ _ (@pe_op _ _ _ _ _ _ _ _ op_add (pvL 1 rfl n_L_is_stretch_1 dc__law_x) (pvL 3 rfl n_L_is_stretch_3 dc__law_many)) (@pa_cons _ _ _ _ _ (pvL 2 rfl n_L_is_stretch_2 dc__law_y) pa_nil (by trivial)) (by trivial))) (pvL 0 rfl n_L_is_stretch_0 dc__law_cells_here) (by with_unfolding_all rfl))))) (@pss_one _ _ _ (@ps_ret _ _ _ _ pe_bl)) pss_nil) (@pss_cons _ _ _ _ _ (@ps_for _ _ _ _ _ _ _ _ PassesOwn.never rfl (@pi_range1 _ _ _ _ _ _ g_L_is_stretch_range z_range (@pa_cons _ _ _ _ _ (pvL 3 rfl n_L_is_stretch_3 dc__law_many) pa_nil (by trivial)) (by trivial)) (@pg_name _ _ 4 _ nd rfl n_L_is_stretch_4 (by trivial)) (@pss_one _ _ _ (@ps_if _ _ _ _ _ _ _ _ (@pt_cmpR _ _ _ _ _ _ _ _ (@op_notInK _ (hu65 hr)) (@pe_tup _ _ _ _ _ (@pa_cons _ _ _ _ _ (@pe_op _ _ _ _ _ _ _ _ op_add (pvL 1 rfl n_L_is_stretch_1 dc__law_x) (pvL 4 rfl n_L_is_stretch_4 dc__law_k)) (@pa_cons _ _ _ _ _ (pvL 2 rfl n_L_is_stretch_2 dc__law_y) pa_nil (by trivial)) (by trivial))) (pvL 0 rfl n_L_is_stretch_0 dc__law_cells_here) (by with_unfolding_all rfl)) (@pss_one _ _ _ (@ps_ret _ _ _ _ pe_bl)) pss_nil)) (by trivial)) (@pss_one _ _ _ (@ps_ret _ _ _ _ pe_bl)))),fn_run (N:=["_law_cells_here","_law_x","_law_y","_law_many","_law_k"]) (np:=4) (nl:=1) (b_seq (b_if (t_or (t_test (e_op o_in (e_tup (a_cons (e_op o_sub e_var e_int) (a_cons e_var a_nil))) e_var)) (t_test (e_op o_in (e_tup (a_cons (e_op o_add e_var e_var) (a_cons e_var a_nil))) e_var))) (b_ret e_bl (by decide)) b_nil) (b_seq (b_for (it_range1 (a_cons e_var a_nil)) g_name (b_if (t_test (e_op o_in (e_tup (a_cons (e_op o_add e_var e_var) (a_cons e_var a_nil))) e_var)) (b_ret e_bl (by decide)) b_nil)) (b_ret e_bl (by decide)))) rfl h⟩
theorem ok_L_right(F:Fun K "_law_right" "_law_right" s_L_right f fd)(C_L_tuples:Cal P w K mg base 3 "_law_tuples" ["_law_found","_law_size"] (spD ⟨K,w⟩ m_L_tuples false))(C_L_is_stretch:Cal P w K mg base 3 "_law_is_stretch" ["_law_cells_here","_law_x","_law_y","_law_many"] (spD ⟨K,w⟩ m_L_is_stretch false))(z_sorted:mg "sorted"=none)(z_range:mg "range"=none)(z_set:mg "set"=none)(hlm:LmK K fd.code):FnOk P w K mg base CX0 4 f fd ["_law_cells_here","_law_told"] (spD ⟨K,w⟩ m_L_right false):=by
 have nd:=sc_L_right.nd
 refine F.okC hlm sc_L_right (fun vs H Q E h=>fn_len dFun_len h) (fun cdv hlm A outer s H vs Q E hr h=>?_)
 exact⟨_,(@pss_cons _ _ _ _ _ (@ps_if _ _ _ _ _ _ _ _ (@PW.pt _ _ _ (@pw_or _ _ _ _ _ _ _ (@pt_not _ _ _ _ (@pt_val _ _ _ (@pe_callC _ _ _ _ _ _ _ _ _ _ C_L_tuples hr g_L_right__law_tuples (@pa_cons _ _ _ _ _ (pvL 1 rfl n_L_right_1 dc__law_told) (@pa_cons _ _ _ _ _ pe_int pa_nil (by trivial)) (by trivial)) dc__law_tuples.1 (by trivial) (by trivial)) (by trivial))) (@pw_or1 _ _ _ _ (@pt_cmpR _ _ _ _ _ _ _ _ (@op_neK _ (hu64 hr)) (pvL 1 rfl n_L_right_1 dc__law_told) (@pe_sortL _ 1 _ _ _ _ _ _ _ _ "_law_box" (by walk_at "lm") hr hlm g_L_right_sorted z_sorted (pvL 1 rfl n_L_right_1 dc__law_told) rfl) (nomark _))))) (@pss_one _ _ _ (@ps_ret _ _ _ _ pe_bl)) pss_nil) (@pss_cons _ _ _ _ _ (@ps_set _ _ 2 _ _ _ _ nd rfl n_L_right_2 (@pe_lst _ _ _ _ pa_nil) (by trivial) (by trivial)) (@pss_cons _ _ _ _ _ (@ps_for _ _ _ _ _ _ _ _ PassesOwn.never rfl (@pi_list _ _ _ _ (pvL 1 rfl n_L_right_1 dc__law_told)) (@pg_tup _ _ _ _ _ _ rfl (@pgs_cons _ _ _ _ _ (@pg_name _ _ 3 _ nd rfl n_L_right_3 (by trivial)) (@pgs_cons _ _ _ _ _ (@pg_name _ _ 4 _ nd rfl n_L_right_4 (by trivial)) (@pgs_cons _ _ _ _ _ (@pg_name _ _ 5 _ nd rfl n_L_right_5 (by trivial)) (@pgs_cons _ _ _ _ _ (@pg_name _ _ 6 _ nd rfl n_L_right_6 (by trivial)) pgs_nil (by trivial)) (by trivial)) (by trivial)) (by trivial)) (by trivial) (by trivial)) (@pss_cons _ _ _ _ _ (@ps_if _ _ _ _ _ _ _ _ (@PW.pt _ _ _ (@pw_or _ _ _ _ _ _ _ (@pt_cmpR _ _ _ _ _ _ _ _ op_lt (pvL 5 rfl n_L_right_5 dc__law_w) pe_int (nomark _)) (@pw_or _ _ _ _ _ _ _ (@pt_cmpR _ _ _ _ _ _ _ _ op_lt (pvL 6 rfl n_L_right_6 dc__law_h) pe_int (nomark _)) (@pw_or _ _ _ _ _ _ _ (@pt_val _ _ _ (@pe_callC _ _ _ _ _ _ _ _ _ _ C_L_is_stretch hr g_L_right__law_is_stretch (@pa_cons _ _ _ _ _ (pvL 0 rfl n_L_right_0 dc__law_cells_here) (@pa_cons _ _ _ _ _ (pvL 3 rfl n_L_right_3 dc__law_x) (@pa_cons _ _ _ _ _ (@pe_op _ _ _ _ _ _ _ _ op_sub (pvL 4 rfl n_L_right_4 dc__law_y) pe_int) (@pa_cons _ _ _ _ _ (pvL 5 rfl n_L_right_5 dc__law_w) pa_nil (by trivial)) (by trivial)) (by trivial)) (by trivial)) dc__law_is_stretch.1 (by trivial) (by trivial)) (by trivial)) (@pw_or1 _ _ _ _ (@pt_val _ _ _ (@pe_callC _ _ _ _ _ _ _ _ _ _ C_L_is_stretch hr g_L_right__law_is_stretch (@pa_cons _ _ _ _ _ (pvL 0 rfl n_L_right_0 dc__law_cells_here) (@pa_cons _ _ _ _ _ (pvL 3 rfl n_L_right_3 dc__law_x) (@pa_cons _ _ _ _ _ (@pe_op _ _ _ _ _ _ _ _ op_add (pvL 4 rfl n_L_right_4 dc__law_y) (pvL 6 rfl n_L_right_6 dc__law_h)) (@pa_cons _ _ _ _ _ (pvL 5 rfl n_L_right_5 dc__law_w) pa_nil (by trivial)) (by trivial)) (by trivial)) (by trivial)) dc__law_is_stretch.1 (by trivial) (by trivial)) (by trivial))))))) (@pss_one _ _ _ (@ps_ret _ _ _ _ pe_bl)) pss_nil) (@pss_one _ _ _ (@ps_for _ _ _ _ _ _ _ _ PassesOwn.never rfl (@pi_range1 _ _ _ _ _ _ g_L_right_range z_range (@pa_cons _ _ _ _ _ (pvL 6 rfl n_L_right_6 dc__law_h) pa_nil (by trivial)) (by trivial)) (@pg_name _ _ 7 _ nd rfl n_L_right_7 (by trivial)) (@pss_cons _ _ _ _ _ (@ps_if _ _ _ _ _ _ _ _ (@pt_not _ _ _ _ (@pt_val _ _ _ (@pe_callC _ _ _ _ _ _ _ _ _ _ C_L_is_stretch hr g_L_right__law_is_stretch (@pa_cons _ _ _ _ _ (pvL 0 rfl n_L_right_0 dc__law_cells_here) (@pa_cons _ _ _ _ _ (pvL 3 rfl n_L_right_3 dc__law_x) (@pa_cons _ _ _ _ _ (@pe_op _ _ _ _ _ _ _ _ op_add (pvL 4 rfl n_L_right_4 dc__law_y) (pvL 7 rfl n_L_right_7 dc__law_j)) (@pa_cons _ _ _ _ _ (pvL 5 rfl n_L_right_5 dc__law_w) pa_nil (by trivial)) (by trivial)) (by trivial)) (by trivial)) dc__law_is_stretch.1 (by trivial) (by trivial)) (by trivial))) (@pss_one _ _ _ (@ps_ret _ _ _ _ pe_bl)) pss_nil) (@pss_one _ _ _ (@ps_expr _ _ _ _ (@pe_bm _ _ _ _ _ _ _ _ _ _ _ _ PySem.F.plainAttrs_list PySem.F.slot_list_extend PySem.F.type_list_extend mt_extend (pvL 2 rfl n_L_right_2 dc__law_found) (@pa_cons _ _ _ _ _ (@pe_lc _ ["_law_k","_law_x","_law_y","_law_j"] 1 [3,4,7] _ _ _ _ _ _ _ _ _ _ rfl (@lc_ok _ ["_law_k","_law_x","_law_y","_law_j"] 1 [3,4,7] _ ["_law_cells_here","_law_told","_law_found","_law_x","_law_y","_law_w","_law_h","_law_j"] (defScope s_L_right) rfl rfl (by walk_at "dk")) (@pi_range1 _ _ _ _ _ _ g_L_right_range z_range (@pa_cons _ _ _ _ _ (pvL 5 rfl n_L_right_5 dc__law_w) pa_nil (by trivial)) (by trivial)) (fun cl fp s3 H3=>(@pg_name _ _ 0 _ nd0_L_right rfl (loc_local (by walk_at "dk")) (Or.inr (rl_local (by walk_at "dk"))))) (fun cl fp s3 H3=>pts_nil) (fun cl fp s3 H3=>(@pe_tup _ _ _ _ _ (@pa_cons _ _ _ _ _ (@pe_op _ _ _ _ _ _ _ _ op_add (@pv _ 1 _ _ rfl (vis_free (by walk_at "dk")) dc__law_x.1 dc__law_x.2) (@pv _ 0 _ _ rfl (vis_local (by walk_at "dk")) dc__law_k.1 dc__law_k.2)) (@pa_cons _ _ _ _ _ (@pe_op _ _ _ _ _ _ _ _ op_add (@pv _ 2 _ _ rfl (vis_free (by walk_at "dk")) dc__law_y.1 dc__law_y.2) (@pv _ 3 _ _ rfl (vis_free (by walk_at "dk")) dc__law_j.1 dc__law_j.2)) pa_nil (by trivial)) (by trivial)))) (by trivial)) pa_nil (by trivial)) (by trivial) (by trivial) (by trivial) (by trivial) (by trivial)) (by trivial)))) (by trivial)))) (by trivial)) (@pss_one _ _ _ (@ps_ret _ _ _ _ (@pe_cmpR _ _ _ _ _ _ _ _ (@op_eqK _ (hu64 hr)) (@pe_callB _ _ _ _ _ _ _ _ _ call_sortT g_L_right_sorted z_sorted PyProof.Rows.boot_sorted (@pa_cons _ _ _ _ _ (pvL 2 rfl n_L_right_2 dc__law_found) pa_nil (by trivial)) nam_sorted dc_sorted.1 (by trivial) (by trivial)) (@pe_callB _ _ _ _ _ _ _ _ _ (@call_sortS _ rfl) g_L_right_sorted z_sorted PyProof.Rows.boot_sorted (@pa_cons _ _ _ _ _ (@pe_callTy _ _ _ _ _ _ _ _ _ (@call_setN _ rfl (hu64 hr)) g_L_right_set z_set PySem.Pv.boot_set (@pa_cons _ _ _ _ _ (pvL 0 rfl n_L_right_0 dc__law_cells_here) pa_nil (by trivial)) nam_set dc_set.1 (by trivial) (by trivial)) pa_nil (by trivial)) nam_sorted dc_sorted.1 (by trivial) (by trivial)) (nomark _))))))),fn_run (N:=["_law_cells_here","_law_told","_law_found","_law_x","_law_y","_law_w","_law_h","_law_j"]) (np:=2) (nl:=6) (b_seq (b_if (t_or (t_not (t_val (e_call (a_cons e_var (a_cons e_int a_nil))))) (t_test (e_op o_ne e_var (e_SK e_var)))) (b_ret e_bl (by decide)) b_nil) (b_seq b_new (b_seq (b_for (it_list e_var) (g_tup (gs_cons g_name (gs_cons g_name (gs_cons g_name (gs_cons g_name gs_nil)))) (len_cons (len_cons (len_cons (len_cons len_nil))))) (b_seq (b_if (t_or (t_test (e_op o_lt e_var e_int)) (t_or (t_test (e_op o_lt e_var e_int)) (t_or (t_val (e_call (a_cons e_var (a_cons e_var (a_cons (e_op o_sub e_var e_int) (a_cons e_var a_nil)))))) (t_val (e_call (a_cons e_var (a_cons e_var (a_cons (e_op o_add e_var e_var) (a_cons e_var a_nil))))))))) (b_ret e_bl (by decide)) b_nil) (b_for (it_range1 (a_cons e_var a_nil)) g_name (b_seq (b_if (t_not (t_val (e_call (a_cons e_var (a_cons e_var (a_cons (e_op o_add e_var e_var) (a_cons e_var a_nil))))))) (b_ret e_bl (by decide)) b_nil) (b_expr (e_mt (i:=2) m_extend (a_cons (e_lc (it_range1 (a_cons e_var a_nil)) g_name t_yes (e_tup (a_cons (e_op o_add e_var e_var) (a_cons (e_op o_add e_var e_var) a_nil)))) a_nil))))))) (b_ret (e_bor (i:=2) (e_op o_eq (e_app c_sortT (a_cons e_var a_nil)) (e_ss e_var))) (by decide))))) rfl h⟩
theorem ok_law(F:Fun K "law" "law" s_law f fd)(C_L_big:Cal P w K mg base 4 "_law_big" ["_law_script","_law_at"] (spD ⟨K,w⟩ m_L_big false))(C_L_drawn:Cal P w K mg base 4 "_law_drawn" ["_law_rest"] (spD ⟨K,w⟩ m_L_drawn true))(C_blocks_of:Cal P w K mg base 4 "blocks_of" ["cells"] (spD ⟨K,w⟩ m_blocks_of true))(C_L_right:Cal P w K mg base 4 "_law_right" ["_law_cells_here","_law_told"] (spD ⟨K,w⟩ m_L_right false))(z_list:mg "list"=none)(z_reversed:mg "reversed"=none):FnOk P w K mg base CX0 5 f fd ["_law_script"] (spD ⟨K,w⟩ m_law false):=by
 have nd:=sc_law.nd
 refine F.ok sc_law (fun vs H Q E h=>fn_len dFun_len h) (fun cdv A outer s H vs Q E hr h=>?_)
 exact⟨_,(@pss_cons _ _ _ _ _ (@ps_set _ _ 1 _ _ _ _ nd rfl n_law_1 (@pe_lst _ _ _ _ (@pa_cons _ _ _ _ _ (@pe_callC _ _ _ _ _ _ _ _ _ _ C_L_big hr g_law__law_big (@pa_cons _ _ _ _ _ (pvL 0 rfl n_law_0 dc__law_script) (@pa_cons _ _ _ _ _ pe_int pa_nil (by trivial)) (by trivial)) dc__law_big.1 (by trivial) (by trivial)) pa_nil (by trivial))) (by trivial) (by trivial)) (@pss_cons _ _ _ _ _ (@ps_set _ _ 2 _ _ _ _ nd rfl n_law_2 (@pe_callC _ _ _ _ _ _ _ _ _ _ C_L_drawn hr g_law__law_drawn (@pa_cons _ _ _ _ _ (pvL 1 rfl n_law_1 dc__law_rest) pa_nil (by trivial)) dc__law_drawn.1 (by trivial) (by trivial)) (by trivial) (by trivial)) (@pss_cons _ _ _ _ _ (@ps_set _ _ 3 _ _ _ _ nd rfl n_law_3 (@pe_callC _ _ _ _ _ _ _ _ _ _ C_L_drawn hr g_law__law_drawn (@pa_cons _ _ _ _ _ (pvL 1 rfl n_law_1 dc__law_rest) pa_nil (by trivial)) dc__law_drawn.1 (by trivial) (by trivial)) (by trivial) (by trivial)) (@pss_cons _ _ _ _ _ (@ps_set _ _ 4 _ _ _ _ nd rfl n_law_4 (@pe_callTy _ _ _ _ _ _ _ _ _ call_list_of g_law_list z_list PySem.Pv.boot_list (@pa_cons _ _ _ _ _ (pvL 2 rfl n_law_2 dc__law_cells_here) pa_nil (by trivial)) nam_list dc_list.1 (by trivial) (by trivial)) (by trivial) (by trivial)) (@pss_cons _ _ _ _ _ (@ps_set _ _ 5 _ _ _ _ nd rfl n_law_5 (@pe_callC _ _ _ _ _ _ _ _ _ _ C_blocks_of hr g_law_blocks_of (@pa_cons _ _ _ _ _ (pvL 4 rfl n_law_4 dc__law_handed) pa_nil (by trivial)) dc_blocks_of.1 (by trivial) (by trivial)) (by trivial) (by trivial)) (@pss_cons _ _ _ _ _ (@ps_if _ _ _ _ _ _ _ _ (@PW.pt _ _ _ (@pw_or _ _ _ _ _ _ _ (@pt_not _ _ _ _ (@pt_val _ _ _ (@pe_callC _ _ _ _ _ _ _ _ _ _ C_L_right hr g_law__law_right (@pa_cons _ _ _ _ _ (pvL 2 rfl n_law_2 dc__law_cells_here) (@pa_cons _ _ _ _ _ (pvL 5 rfl n_law_5 dc__law_told) pa_nil (by trivial)) (by trivial)) dc__law_right.1 (by trivial) (by trivial)) (by trivial))) (@pw_or1 _ _ _ _ (@pt_cmpR _ _ _ _ _ _ _ _ (@op_neK _ (hu64 hr)) (pvL 4 rfl n_law_4 dc__law_handed) (pvL 2 rfl n_law_2 dc__law_cells_here) (nomark _))))) (@pss_one _ _ _ (@ps_ret _ _ _ _ pe_bl)) pss_nil) (@pss_cons _ _ _ _ _ (@ps_set _ _ 6 _ _ _ _ nd rfl n_law_6 (@pe_callTy _ _ _ _ _ _ _ _ _ call_list_of g_law_list z_list PySem.Pv.boot_list (@pa_cons _ _ _ _ _ (pvL 5 rfl n_law_5 dc__law_told) pa_nil (by trivial)) nam_list dc_list.1 (by trivial) (by trivial)) (by trivial) (by trivial)) (@pss_cons _ _ _ _ _ (@ps_if _ _ _ _ _ _ _ _ (@PW.pt _ _ _ (@pw_or _ _ _ _ _ _ _ (@pt_not _ _ _ _ (@pt_val _ _ _ (@pe_callC _ _ _ _ _ _ _ _ _ _ C_L_right hr g_law__law_right (@pa_cons _ _ _ _ _ (pvL 3 rfl n_law_3 dc__law_others) (@pa_cons _ _ _ _ _ (@pe_callC _ _ _ _ _ _ _ _ _ _ C_blocks_of hr g_law_blocks_of (@pa_cons _ _ _ _ _ (@pe_callTy _ _ _ _ _ _ _ _ _ call_list_of g_law_list z_list PySem.Pv.boot_list (@pa_cons _ _ _ _ _ (pvL 3 rfl n_law_3 dc__law_others) pa_nil (by trivial)) nam_list dc_list.1 (by trivial) (by trivial)) pa_nil (by trivial)) dc_blocks_of.1 (by trivial) (by trivial)) pa_nil (by trivial)) (by trivial)) dc__law_right.1 (by trivial) (by trivial)) (by trivial))) (@pw_or1 _ _ _ _ (@pt_cmpR _ _ _ _ _ _ _ _ (@op_neK _ (hu64 hr)) (pvL 5 rfl n_law_5 dc__law_told) (pvL 6 rfl n_law_6 dc__law_kept) (nomark _))))) (@pss_one _ _ _ (@ps_ret _ _ _ _ pe_bl)) pss_nil) (@pss_cons _ _ _ _ _ (@ps_expr _ _ _ _ (@pe_bm _ _ _ _ _ _ _ _ _ _ _ _ PySem.F.plainAttrs_list PySem.F.slot_list_append PySem.F.type_list_append mt_append (pvL 5 rfl n_law_5 dc__law_told) (@pa_cons _ _ _ _ _ (@pe_tup _ _ _ _ _ (@pa_cons _ _ _ _ _ pe_int (@pa_cons _ _ _ _ _ pe_int (@pa_cons _ _ _ _ _ pe_int (@pa_cons _ _ _ _ _ pe_int pa_nil (by trivial)) (by trivial)) (by trivial)) (by trivial))) pa_nil (by trivial)) (by trivial) (by trivial) (by trivial) (by trivial) (by trivial)) (by trivial)) (@pss_one _ _ _ (@ps_ret _ _ _ _ (@pe_cmpR _ _ _ _ _ _ _ _ (@op_eqK _ (hu64 hr)) (@pe_callC _ _ _ _ _ _ _ _ _ _ C_blocks_of hr g_law_blocks_of (@pa_cons _ _ _ _ _ (@pe_listrev _ _ _ _ _ _ _ rfl (pvL 2 rfl n_law_2 dc__law_cells_here) g_law_list z_list g_law_reversed z_reversed boot_rev nam_list dc_list.1 nam_reversed dc_reversed.1 (by trivial)) pa_nil (by trivial)) dc_blocks_of.1 (by trivial) (by trivial)) (pvL 6 rfl n_law_6 dc__law_kept) (nomark _))))))))))))),fn_run (N:=["_law_script","_law_rest","_law_cells_here","_law_others","_law_handed","_law_told","_law_kept"]) (np:=1) (nl:=6) (b_seq (b_setM (e_lst (a_cons (e_callC (i:=0) (a_cons e_int a_nil)) a_nil))) (b_seq (b_asg (e_callM (i:=1) a_nil) g_name) (b_seq (b_asg (e_callM (i:=1) a_nil) g_name) (b_seq (b_asg (e_app c_list (a_cons e_var a_nil)) g_name) (b_seq (b_setM (e_call (a_cons e_var a_nil))) (b_seq (b_if (t_bor (i:=5) (t_or (t_not (t_val (e_call (a_cons e_var (a_cons e_var a_nil))))) (t_test (e_op o_ne e_var e_var)))) (b_ret e_bl (by decide)) b_nil) (b_seq (b_asg (e_borF (i:=5) (e_app c_list (a_cons e_var a_nil))) g_name) (b_seq (b_if (t_bor (i:=5) (t_or (t_not (t_val (e_call (a_cons e_var (a_cons (e_call (a_cons (e_app c_list (a_cons e_var a_nil)) a_nil)) a_nil))))) (t_test (e_op o_ne e_var e_var)))) (b_ret e_bl (by decide)) b_nil) (b_seq (b_expr (e_mt (i:=5) m_append (a_cons (e_tup (a_cons e_int (a_cons e_int (a_cons e_int (a_cons e_int a_nil))))) a_nil))) (b_ret (e_op o_eq (e_call (a_cons (e_rev e_var) a_nil)) e_var) (by decide))))))))))) rfl h⟩
end
theorem modI{i j:Int}(h:0<j):fMod (.int i) (.int j)=some (.int (i % j)):=if_pos h
theorem divI{i j:Int}(h:0<j)(h1:j<10 ^ 70):fDiv (.int i) (.int j)=some (.int (i / j)):=if_pos ⟨h,bd_small h h1⟩
theorem mulI{i j:Int}(h:CMulB i j):fMul (.int i) (.int j)=some (.int (i*j)):=if_pos h
theorem pow18:fPow (.int 10) (.int 18)=some (.int 1000000000000000000):=rfl
theorem L_digit{v m:Int}(h0:0<m)(h1:m<10 ^ 70):m_L_digit [.m [.int v],.d (.int m)]=some (.int (v % m),[.m [.int (v / m)],.d (.int m)]):=by
 simp only[m_L_digit,modI h0,divI h0 h1,dFun,dSeq,dAsg,dN,dNew,dSetM,dRet,dRetM,dRetN,dExpr,dMt,gAppend,gExtend,gClear,dSetI,dNil,dIfS,dBrk,dCnt,dNever,dFor,dPar,dVar,dC,dOp,dUn,fI,fAdd,fSub,fLt,fLe,fGt,fGe,fNeg,isNo,fIsN,fNotN,fIxL,fIxT,dTest,dTAnd,dTOr,dTNot,dIf,dAnd,dOr,dNot,dChain,dANil,dACons,allD,dTup,dLst,dApp,dCall,dCallM,dCallC,dCallP,dAS,mkL,nMb,isM,isC,dBor,dBorF,dTBor,dYes,dIL,dIT,dR1,dR2,dGNil,dGCons,dGT,fin_nil,fin_d,fin_c,fin_m,fLen,f1,f2,fAbs,fMax2,fMin2,fInt1,fListOf,dRev,dIsi,dIxC,dLenC,atI,ixN,okM_none,okM_d,okM_c,okM_m,fixD,fixDs,sz',Option.bind_some,Option.bind_none,Option.map_some,Option.map_none,List.map_cons,List.map_nil,List.cons_append,List.nil_append,List.length_cons,List.length_nil,List.getElem?_cons_zero,List.getElem?_cons_succ,List.set_cons_zero,List.set_cons_succ,List.replicate_succ,List.replicate_zero,List.all_cons,List.all_nil,Bool.and_self,Bool.and_true,Bool.true_and,Bool.false_and,Bool.and_false,Bool.or_true,Bool.true_or,Bool.false_or,Bool.or_false,Bool.not_true,Bool.not_false,if_true,if_false,reduceIte,Bool.false_eq_true,Nat.reduceAdd,Nat.reduceLT,Nat.reduceSub,Nat.reduceMul,Int.reduceEq,Int.reduceSub,Int.reduceMul,Int.reducePow,Int.reduceDiv,Int.reduceMod,Nat.reduceLeDiff,Nat.reduceEqDiff,and_self,and_true,true_and,Int.natCast_add,Int.reduceAdd,Int.reduceLT,Int.reduceLE,Int.reduceToNat,Int.reduceNeg,Int.toNat_zero,Int.toNat_one,Int.zero_lt_one,Int.le_refl,Int.reduceNegSucc,Int.cast_ofNat_Int,Nat.zero_add,Nat.add_zero]
theorem L_dig{v m:Int}(h0:0<m)(h1:m<1000000000):m_L_digit [.m [.int v],.d (.int m)]=some (.int (v % m),[.m [.int (v / m)],.d (.int m)]):=L_digit h0 (by omega)
theorem L_cell_at{ns:List Int}{k:Int}(h0:0<=k):∃v:Int,m_L_cell_at [.c (ns.map .int),.d (.int k)]=some (.int v,[.c (ns.map .int),.d (.int k)]):=by
 by_cases h:k<(ns.length:Int)
 ·have hk:k.toNat<ns.length:=by omega
  have e:(ns.map PyData.int)[k.toNat]?=some (.int ns[k.toNat]):=by simp[hk]
  exact⟨ns[k.toNat],by simp only[m_L_cell_at,List.length_map,h0,h,decide_true,e,dFun,dSeq,dAsg,dN,dNew,dSetM,dRet,dRetM,dRetN,dExpr,dMt,gAppend,gExtend,gClear,dSetI,dNil,dIfS,dBrk,dCnt,dNever,dFor,dPar,dVar,dC,dOp,dUn,fI,fAdd,fSub,fLt,fLe,fGt,fGe,fNeg,isNo,fIsN,fNotN,fIxL,fIxT,dTest,dTAnd,dTOr,dTNot,dIf,dAnd,dOr,dNot,dChain,dANil,dACons,allD,dTup,dLst,dApp,dCall,dCallM,dCallC,dCallP,dAS,mkL,nMb,isM,isC,dBor,dBorF,dTBor,dYes,dIL,dIT,dR1,dR2,dGNil,dGCons,dGT,fin_nil,fin_d,fin_c,fin_m,fLen,f1,f2,fAbs,fMax2,fMin2,fInt1,fListOf,dRev,dIsi,dIxC,dLenC,atI,ixN,okM_none,okM_d,okM_c,okM_m,fixD,fixDs,sz',Option.bind_some,Option.bind_none,Option.map_some,Option.map_none,List.map_cons,List.map_nil,List.cons_append,List.nil_append,List.length_cons,List.length_nil,List.getElem?_cons_zero,List.getElem?_cons_succ,List.set_cons_zero,List.set_cons_succ,List.replicate_succ,List.replicate_zero,List.all_cons,List.all_nil,Bool.and_self,Bool.and_true,Bool.true_and,Bool.false_and,Bool.and_false,Bool.or_true,Bool.true_or,Bool.false_or,Bool.or_false,Bool.not_true,Bool.not_false,if_true,if_false,reduceIte,Bool.false_eq_true,Nat.reduceAdd,Nat.reduceLT,Nat.reduceSub,Nat.reduceMul,Int.reduceEq,Int.reduceSub,Int.reduceMul,Int.reducePow,Int.reduceDiv,Int.reduceMod,Nat.reduceLeDiff,Nat.reduceEqDiff,and_self,and_true,true_and,Int.natCast_add,Int.reduceAdd,Int.reduceLT,Int.reduceLE,Int.reduceToNat,Int.reduceNeg,Int.toNat_zero,Int.toNat_one,Int.zero_lt_one,Int.le_refl,Int.reduceNegSucc,Int.cast_ofNat_Int,Nat.zero_add,Nat.add_zero]⟩
 ·exact⟨0,by simp only[m_L_cell_at,List.length_map,h0,h,decide_false,dFun,dSeq,dAsg,dN,dNew,dSetM,dRet,dRetM,dRetN,dExpr,dMt,gAppend,gExtend,gClear,dSetI,dNil,dIfS,dBrk,dCnt,dNever,dFor,dPar,dVar,dC,dOp,dUn,fI,fAdd,fSub,fLt,fLe,fGt,fGe,fNeg,isNo,fIsN,fNotN,fIxL,fIxT,dTest,dTAnd,dTOr,dTNot,dIf,dAnd,dOr,dNot,dChain,dANil,dACons,allD,dTup,dLst,dApp,dCall,dCallM,dCallC,dCallP,dAS,mkL,nMb,isM,isC,dBor,dBorF,dTBor,dYes,dIL,dIT,dR1,dR2,dGNil,dGCons,dGT,fin_nil,fin_d,fin_c,fin_m,fLen,f1,f2,fAbs,fMax2,fMin2,fInt1,fListOf,dRev,dIsi,dIxC,dLenC,atI,ixN,okM_none,okM_d,okM_c,okM_m,fixD,fixDs,sz',Option.bind_some,Option.bind_none,Option.map_some,Option.map_none,List.map_cons,List.map_nil,List.cons_append,List.nil_append,List.length_cons,List.length_nil,List.getElem?_cons_zero,List.getElem?_cons_succ,List.set_cons_zero,List.set_cons_succ,List.replicate_succ,List.replicate_zero,List.all_cons,List.all_nil,Bool.and_self,Bool.and_true,Bool.true_and,Bool.false_and,Bool.and_false,Bool.or_true,Bool.true_or,Bool.false_or,Bool.or_false,Bool.not_true,Bool.not_false,if_true,if_false,reduceIte,Bool.false_eq_true,Nat.reduceAdd,Nat.reduceLT,Nat.reduceSub,Nat.reduceMul,Int.reduceEq,Int.reduceSub,Int.reduceMul,Int.reducePow,Int.reduceDiv,Int.reduceMod,Nat.reduceLeDiff,Nat.reduceEqDiff,and_self,and_true,true_and,Int.natCast_add,Int.reduceAdd,Int.reduceLT,Int.reduceLE,Int.reduceToNat,Int.reduceNeg,Int.toNat_zero,Int.toNat_one,Int.zero_lt_one,Int.le_refl,Int.reduceNegSucc,Int.cast_ofNat_Int,Nat.zero_add,Nat.add_zero]⟩
theorem tabT{xs:List Int}{k:Int}(h0:0<=k)(h:k<(xs.length:Int)):∃v:Int,atI (xs.map PyData.int) k=some (.int v)/\v∈xs:=by
 have hk:k.toNat<xs.length:=by omega
 refine⟨xs[k.toNat],?_,List.getElem_mem hk⟩
 unfold atI ixN
 rw[List.length_map,if_pos h0,if_pos h]
 simp[hk]
def by8:PyData:=.tuple ([48271,69621,16807,39373,21401,60493,87721,31337].map .int)
def pr8:PyData:=.tuple ([99991,99989,99971,99961,99929,99923,99907,99901].map .int)
theorem L_big{ns:List Int}{k:Int}(h0:0<=k):∃(v:Int) (ls:List L),m_L_big [.c (ns.map .int),.d (.int k)]=some (.int v,ls):=by
 obtain⟨cell,hc⟩:=L_cell_at (ns:=ns) h0
 by_cases hb:(1000000000000000000:Int)<=cell
 ·exact⟨cell,_,by simp only[m_L_big,hc,pow18,hb,decide_true,dFun,dSeq,dAsg,dN,dNew,dSetM,dRet,dRetM,dRetN,dExpr,dMt,gAppend,gExtend,gClear,dSetI,dNil,dIfS,dBrk,dCnt,dNever,dFor,dPar,dVar,dC,dOp,dUn,fI,fAdd,fSub,fLt,fLe,fGt,fGe,fNeg,isNo,fIsN,fNotN,fIxL,fIxT,dTest,dTAnd,dTOr,dTNot,dIf,dAnd,dOr,dNot,dChain,dANil,dACons,allD,dTup,dLst,dApp,dCall,dCallM,dCallC,dCallP,dAS,mkL,nMb,isM,isC,dBor,dBorF,dTBor,dYes,dIL,dIT,dR1,dR2,dGNil,dGCons,dGT,fin_nil,fin_d,fin_c,fin_m,fLen,f1,f2,fAbs,fMax2,fMin2,fInt1,fListOf,dRev,dIsi,dIxC,dLenC,atI,ixN,okM_none,okM_d,okM_c,okM_m,fixD,fixDs,sz',Option.bind_some,Option.bind_none,Option.map_some,Option.map_none,List.map_cons,List.map_nil,List.cons_append,List.nil_append,List.length_cons,List.length_nil,List.getElem?_cons_zero,List.getElem?_cons_succ,List.set_cons_zero,List.set_cons_succ,List.replicate_succ,List.replicate_zero,List.all_cons,List.all_nil,Bool.and_self,Bool.and_true,Bool.true_and,Bool.false_and,Bool.and_false,Bool.or_true,Bool.true_or,Bool.false_or,Bool.or_false,Bool.not_true,Bool.not_false,if_true,if_false,reduceIte,Bool.false_eq_true,Nat.reduceAdd,Nat.reduceLT,Nat.reduceSub,Nat.reduceMul,Int.reduceEq,Int.reduceSub,Int.reduceMul,Int.reducePow,Int.reduceDiv,Int.reduceMod,Nat.reduceLeDiff,Nat.reduceEqDiff,and_self,and_true,true_and,Int.natCast_add,Int.reduceAdd,Int.reduceLT,Int.reduceLE,Int.reduceToNat,Int.reduceNeg,Int.toNat_zero,Int.toNat_one,Int.zero_lt_one,Int.le_refl,Int.reduceNegSucc,Int.cast_ofNat_Int,Nat.zero_add,Nat.add_zero];rfl⟩
 ·have lp:∃τ',dLoop (dN 6) (dSeq (dAsg (dOp fAdd (dOp fAdd (dOp fMod (dCallC 0 m_L_cell_at (dACons (dOp fAdd (dVar 1) (dOp fMod (dVar 6) (dC (.int 9)))) dANil)) (dOp fPow (dC (.int 10)) (dC (.int 18)))) (dC (.int 1))) (dOp fMul (dVar 6) (dVar 6))) (dN 7)) (dAsg (dOp fAdd (dOp fMul (dVar 5) (dC (.int 7919))) (dOp fMod (dOp fMod (dOp fMul (dVar 7) (dOp fIxT (dVar 2) (dOp fMod (dVar 6) (dC (.int 8))))) (dOp fIxT (dVar 3) (dOp fMod (dVar 6) (dC (.int 8))))) (dC (.int 7919)))) (dN 5)))
    ((rng 0 60).map PyData.int) [some (.c (ns.map .int)),some (.d (.int k)),some (.d by8),some (.d pr8),some (.d (.int cell)),some (.d (.int 0)),none,none]=some (.nx τ') /\
    ∃(b:Int) (o1 o2:Option L),nM o1/\nM o2/\τ'=[some (.c (ns.map .int)),some (.d (.int k)),some (.d by8),some (.d pr8),some (.d (.int cell)),some (.d (.int b)),o1,o2]:=by
   refine loop_list (enc:=PyData.int) (pre:=[]) (fun _ τ=>∃(b:Int) (o1 o2:Option L),nM o1/\nM o2/\τ=[some (.c (ns.map .int)),some (.d (.int k)),some (.d by8),some (.d pr8),some (.d (.int cell)),some (.d (.int b)),o1,o2]) ⟨0,none,none,nM_none,nM_none,rfl⟩ ?_
   rintro j _ τ hj ⟨b,o1,o2,n1,n2,rfl⟩
   have hj':=(mem_rng (n:=60)).mp hj
   have h9:0<=j % 9:=Int.emod_nonneg _ (by decide)
   obtain⟨c,hc⟩:=L_cell_at (ns:=ns) (k:=k+j % 9) (by omega)
   obtain⟨u1,hu1,m1⟩:=tabT (xs:=[48271,69621,16807,39373,21401,60493,87721,31337]) (k:=j % 8) (Int.emod_nonneg _ (by decide)) (Int.emod_lt_of_pos _ (by decide))
   obtain⟨u2,hu2,m2⟩:=tabT (xs:=[99991,99989,99971,99961,99929,99923,99907,99901]) (k:=j % 8) (Int.emod_nonneg _ (by decide)) (Int.emod_lt_of_pos _ (by decide))
   have hu1':fIxT by8 (.int (j % 8))=some (.int u1):=hu1
   have hu2':fIxT pr8 (.int (j % 8))=some (.int u2):=hu2
   have m1':-(2 ^ 64)<u1/\u1<2 ^ 64:=by
    simp only[List.mem_cons,List.not_mem_nil,or_false]at m1
    omega
   have m2':0<u2:=by
    simp only[List.mem_cons,List.not_mem_nil,or_false]at m2
    omega
   have x1:fMul (.int j) (.int j)=some (.int (j*j)):=mulI (.inl (.inl ⟨by omega,by omega⟩))
   have x2:fMul (.int b) (.int 7919)=some (.int (b*7919)):=mulI (.inl (.inr ⟨by decide,by decide⟩))
   have x3:∀z:Int,fMul (.int z) (.int u1)=some (.int (z*u1)):=fun z=>mulI (.inl (.inr m1'))
   have x4:∀z:Int,fMod (.int z) (.int u2)=some (.int (z % u2)):=fun z=>modI m2'
   have x5:∀z:Int,fMod (.int z) (.int 7919)=some (.int (z % 7919)):=fun z=>modI (by decide)
   have x6:∀z:Int,fMod (.int z) (.int 9)=some (.int (z % 9)):=fun z=>modI (by decide)
   have x7:∀z:Int,fMod (.int z) (.int 8)=some (.int (z % 8)):=fun z=>modI (by decide)
   have x8:∀z:Int,fMod (.int z) (.int 1000000000000000000)=some (.int (z % 1000000000000000000)):=fun z=>modI (by decide)
   refine⟨_,[some (.c (ns.map .int)),some (.d (.int k)),some (.d by8),some (.d pr8),some (.d (.int cell)),some (.d (.int (b*7919+(c % 1000000000000000000+1+j*j)*u1 % u2 % 7919))),some (.d (.int j)),some (.d (.int (c % 1000000000000000000+1+j*j)))],dN_eq rfl n1,?_,_,_,_,nM_d,nM_d,rfl⟩
   refine(seq_nx (τ1:=[some (.c (ns.map .int)),some (.d (.int k)),some (.d by8),some (.d pr8),some (.d (.int cell)),some (.d (.int b)),some (.d (.int j)),some (.d (.int (c % 1000000000000000000+1+j*j)))]) (asg_nx (d:=.int (c % 1000000000000000000+1+j*j)) (τ1:=[some (.c (ns.map .int)),some (.d (.int k)),some (.d by8),some (.d pr8),some (.d (.int cell)),some (.d (.int b)),some (.d (.int j)),o2]) ?_ (dN_eq rfl n2))).trans ?_
   ·simp only[dOp,dVar,dC,dCallC,dACons,dANil,allD,fAdd,fI,pow18,hc,x1,x6,x8,List.getElem?_cons_zero,List.getElem?_cons_succ,List.set_cons_zero,List.set_cons_succ,Option.bind_some,Option.map_some,List.map_cons,List.map_nil]
   ·simp only[dAsg,dN,dOp,dVar,dC,fAdd,fI,hu1',hu2',x2,x3,x4,x5,x7,List.getElem?_cons_zero,List.getElem?_cons_succ,List.set_cons_zero,List.set_cons_succ,Option.bind_some,Option.map_some]
  obtain⟨τ',e,b,o1,o2,n1,n2,rfl⟩:=lp
  refine⟨b,[.c (ns.map .int),.d (.int k)],?_⟩
  have hr:dR1 (dACons (dC (.int 60)) dANil) [some (.c (ns.map .int)),some (.d (.int k)),some (.d by8),some (.d pr8),some (.d (.int cell)),some (.d (.int 0)),none,none]=some ((rng 0 60).map PyData.int,[some (.c (ns.map .int)),some (.d (.int k)),some (.d by8),some (.d pr8),some (.d (.int cell)),some (.d (.int 0)),none,none]):=by
   rw[<- rangeD_eq];rfl
  refine fun_rt (τ:=[some (.c (ns.map .int)),some (.d (.int k)),some (.d by8),some (.d pr8),some (.d (.int cell)),some (.d (.int b)),o1,o2]) ?_ rfl rfl
  refine(seq_nx rfl).trans ((seq_nx rfl).trans ((seq_nx (τ1:=[some (.c (ns.map .int)),some (.d (.int k)),some (.d by8),some (.d pr8),some (.d (.int cell)),none,none,none]) (asg_nx (callC_eq (xs:=ns.map .int) rfl rfl rfl hc) rfl)).trans ?_))
  refine(seq_nx (τ1:=[some (.c (ns.map .int)),some (.d (.int k)),some (.d by8),some (.d pr8),some (.d (.int cell)),none,none,none]) ?_).trans ((seq_nx (τ1:=[some (.c (ns.map .int)),some (.d (.int k)),some (.d by8),some (.d pr8),some (.d (.int cell)),some (.d (.int 0)),none,none]) rfl).trans ((seq_nx ((for_eq hr).trans e)).trans rfl))
  simp only[pow18,hb,decide_false,dFun,dSeq,dAsg,dN,dNew,dSetM,dRet,dRetM,dRetN,dExpr,dMt,gAppend,gExtend,gClear,dSetI,dNil,dIfS,dBrk,dCnt,dNever,dFor,dPar,dVar,dC,dOp,dUn,fI,fAdd,fSub,fLt,fLe,fGt,fGe,fNeg,isNo,fIsN,fNotN,fIxL,fIxT,dTest,dTAnd,dTOr,dTNot,dIf,dAnd,dOr,dNot,dChain,dANil,dACons,allD,dTup,dLst,dApp,dCall,dCallM,dCallC,dCallP,dAS,mkL,nMb,isM,isC,dBor,dBorF,dTBor,dYes,dIL,dIT,dR1,dR2,dGNil,dGCons,dGT,fin_nil,fin_d,fin_c,fin_m,fLen,f1,f2,fAbs,fMax2,fMin2,fInt1,fListOf,dRev,dIsi,dIxC,dLenC,atI,ixN,okM_none,okM_d,okM_c,okM_m,fixD,fixDs,sz',Option.bind_some,Option.bind_none,Option.map_some,Option.map_none,List.map_cons,List.map_nil,List.cons_append,List.nil_append,List.length_cons,List.length_nil,List.getElem?_cons_zero,List.getElem?_cons_succ,List.set_cons_zero,List.set_cons_succ,List.replicate_succ,List.replicate_zero,List.all_cons,List.all_nil,Bool.and_self,Bool.and_true,Bool.true_and,Bool.false_and,Bool.and_false,Bool.or_true,Bool.true_or,Bool.false_or,Bool.or_false,Bool.not_true,Bool.not_false,if_true,if_false,reduceIte,Bool.false_eq_true,Nat.reduceAdd,Nat.reduceLT,Nat.reduceSub,Nat.reduceMul,Int.reduceEq,Int.reduceSub,Int.reduceMul,Int.reducePow,Int.reduceDiv,Int.reduceMod,Nat.reduceLeDiff,Nat.reduceEqDiff,and_self,and_true,true_and,Int.natCast_add,Int.reduceAdd,Int.reduceLT,Int.reduceLE,Int.reduceToNat,Int.reduceNeg,Int.toNat_zero,Int.toNat_one,Int.zero_lt_one,Int.le_refl,Int.reduceNegSucc,Int.cast_ofNat_Int,Nat.zero_add,Nat.add_zero]
def okB(b:Bx):Prop:=1<=b.w/\b.w<=12/\1<=b.h/\b.h<=12
theorem L_box_of(v:Int):∃(b:Bx) (v':Int),m_L_box_of [.m [.int v]]=some (eb b,[.m [.int v']])/\okB b/\-5<=b.x/\b.x<=9/\-4<=b.y/\b.y<=6/\b.w<=7/\b.h<=6:=by
 refine⟨⟨v % 15-5,v / 15 % 11-4,1+v / 15 / 11 % 7,1+v / 15 / 11 / 7 % 6⟩,v / 15 / 11 / 7 / 6,?_,?_,?_⟩
 ·simp only[m_L_box_of,L_dig,eb,dFun,dSeq,dAsg,dN,dNew,dSetM,dRet,dRetM,dRetN,dExpr,dMt,gAppend,gExtend,gClear,dSetI,dNil,dIfS,dBrk,dCnt,dNever,dFor,dPar,dVar,dC,dOp,dUn,fI,fAdd,fSub,fLt,fLe,fGt,fGe,fNeg,isNo,fIsN,fNotN,fIxL,fIxT,dTest,dTAnd,dTOr,dTNot,dIf,dAnd,dOr,dNot,dChain,dANil,dACons,allD,dTup,dLst,dApp,dCall,dCallM,dCallC,dCallP,dAS,mkL,nMb,isM,isC,dBor,dBorF,dTBor,dYes,dIL,dIT,dR1,dR2,dGNil,dGCons,dGT,fin_nil,fin_d,fin_c,fin_m,fLen,f1,f2,fAbs,fMax2,fMin2,fInt1,fListOf,dRev,dIsi,tyOk_int,isi_int_none,isi_int_bool,isi_int_int,isi_int_str,isi_int_list,isi_int_tuple,tyOk_bool,isi_bool_none,isi_bool_bool,isi_bool_int,isi_bool_str,isi_bool_list,isi_bool_tuple,tyOk_str,isi_str_none,isi_str_bool,isi_str_int,isi_str_str,isi_str_list,isi_str_tuple,tyOk_list,isi_list_none,isi_list_bool,isi_list_int,isi_list_str,isi_list_list,isi_list_tuple,tyOk_tuple,isi_tuple_none,isi_tuple_bool,isi_tuple_int,isi_tuple_str,isi_tuple_list,isi_tuple_tuple,dIxC,dLenC,atI,ixN,okM_none,okM_d,okM_c,okM_m,fixD,fixDs,sz',Option.bind_some,Option.bind_none,Option.map_some,Option.map_none,List.map_cons,List.map_nil,List.cons_append,List.nil_append,List.length_cons,List.length_nil,List.getElem?_cons_zero,List.getElem?_cons_succ,List.set_cons_zero,List.set_cons_succ,List.replicate_succ,List.replicate_zero,List.all_cons,List.all_nil,Bool.and_self,Bool.and_true,Bool.true_and,Bool.false_and,Bool.and_false,Bool.or_true,Bool.true_or,Bool.false_or,Bool.or_false,Bool.not_true,Bool.not_false,if_true,if_false,reduceIte,Bool.false_eq_true,Nat.reduceAdd,Nat.reduceLT,Nat.reduceSub,Nat.reduceMul,Int.reduceEq,Int.reduceSub,Int.reduceMul,Int.reducePow,Int.reduceDiv,Int.reduceMod,Nat.reduceLeDiff,Nat.reduceEqDiff,and_self,and_true,true_and,Int.natCast_add,Int.reduceAdd,Int.reduceLT,Int.reduceLE,Int.reduceToNat,Int.reduceNeg,Int.toNat_zero,Int.toNat_one,Int.zero_lt_one,Int.le_refl,Int.reduceNegSucc,Int.cast_ofNat_Int,Nat.zero_add,Nat.add_zero]
 ·unfold okB
  dsimp only
  omega
 ·dsimp only
  omega
def cellsBody:DB:=dExpr (dMt 1 gAppend (dACons (dTup (dACons (dOp fAdd (dOp fIxT (dVar 0) (dC (.int 0))) (dVar 3)) (dACons (dOp fAdd (dOp fIxT (dVar 0) (dC (.int 1))) (dVar 2)) dANil))) dANil))
theorem cells_in{b:Bx}(j:Int)(acc:List PyData)(o:Option L)(ho:nM o)(ha:acc.length+b.w.toNat<=800):∃τ',dLoop (dN 3) cellsBody ((rng 0 b.w.toNat).map PyData.int) [some (.d (eb b)),some (.m acc),some (.d (.int j)),o]=some (.nx τ') /\
  ∃o',nM o'/\τ'=[some (.d (eb b)),some (.m (acc++(rowC b.x (b.y+j) b.w.toNat).map ec)),some (.d (.int j)),o']:=by
 have e2:(rowC b.x (b.y+j) b.w.toNat).map ec=(rng 0 b.w.toNat).map fun i=>ec (b.x+i,b.y+j):=by
  unfold rowC
  rw[rng_shift,List.map_map,List.map_map]
  rfl
 rw[e2]
 refine loop_pre (fun pre τ=>∃o',nM o'/\τ=[some (.d (eb b)),some (.m (acc++pre.map fun i=>ec (b.x+i,b.y+j))),some (.d (.int j)),o']) ⟨o,ho,by simp⟩ ?_
 rintro pre x post τ hx ⟨o',ho',rfl⟩
 have hl:=split_len hx
 rw[rng_len]at hl
 refine⟨_,[some (.d (eb b)),some (.m (acc++(pre++[x]).map fun i=>ec (b.x+i,b.y+j))),some (.d (.int j)),some (.d (.int x))],dN_eq rfl ho',(apnd (d:=ec (b.x+x,b.y+j)) (τ1:=[some (.d (eb b)),some (.m (acc++pre.map fun i=>ec (b.x+i,b.y+j))),some (.d (.int j)),some (.d (.int x))]) rfl rfl rfl ?_).trans ?_,_,nM_d,rfl⟩
 ·rw[List.length_append,List.length_map];omega
 ·simp[List.map_append]
theorem L_cells{b:Bx}(h:okB b):m_L_cells [.d (eb b)]=some (.list ((cells b).map ec),[.d (eb b)]):=by
 obtain⟨h1,h2,h3,h4⟩:=h
 have key:∃τ',dLoop (dN 2) (dFor (dR1 (dACons (dOp fIxT (dVar 0) (dC (.int 2))) dANil)) (dN 3) cellsBody) ((rng 0 b.h.toNat).map PyData.int) [some (.d (eb b)),some (.m []),none,none]=some (.nx τ') /\
   ∃o o',nM o/\nM o'/\τ'=[some (.d (eb b)),some (.m ((cells b).map ec)),o,o']:=by
  have e2:(cells b).map ec=((rng 0 b.h.toNat).flatMap fun j=>rowC b.x (b.y+j) b.w.toNat).map ec:=by
   unfold cells
   rw[rng_shift,List.flatMap_map]
  rw[e2]
  refine loop_pre (fun pre τ=>∃o o',nM o/\nM o'/\τ=[some (.d (eb b)),some (.m ((pre.flatMap fun j=>rowC b.x (b.y+j) b.w.toNat).map ec)),o,o']) ⟨none,none,nM_none,nM_none,by simp⟩ ?_
  rintro pre j post τ hx ⟨o,o',ho,ho',rfl⟩
  have hl:=split_len hx
  rw[rng_len]at hl
  have hz:((pre.flatMap fun j=>rowC b.x (b.y+j) b.w.toNat).map ec).length=pre.length*b.w.toNat:=by
   rw[List.length_map,List.length_flatMap]
   clear hx hl
   induction pre with
   |nil=>simp
   |cons v l ih =>
    rw[List.map_cons,List.sum_cons,ih,List.length_cons,Nat.succ_mul]
    unfold rowC
    rw[List.length_map,rng_len]
    omega
  have hz2:pre.length*b.w.toNat<=12*12:=Nat.mul_le_mul (by omega) (by omega)
  obtain⟨τ',e,o2,ho2,rfl⟩:=cells_in (b:=b) j ((pre.flatMap fun j=>rowC b.x (b.y+j) b.w.toNat).map ec) o' ho' (by rw[hz];omega)
  refine⟨_,_,dN_eq rfl ho,(for_eq (r1_eq (n:=b.w) rfl (by omega) (by omega))).trans e,some (.d (.int j)),o2,nM_d,ho2,?_⟩
  simp[List.flatMap_append]
 obtain⟨τ',e,o,o',ho,ho',rfl⟩:=key
 unfold m_L_cells
 refine fun_rt (τ:=[some (.d (eb b)),some (.m ((cells b).map ec)),o,o']) ?_ rfl rfl
 exact(seq_nx rfl).trans ((seq_nx ((for_eq (r1_eq (n:=b.h) (τ1:=[some (.d (eb b)),some (.m []),none,none]) rfl (by omega) (by omega))).trans e)).trans rfl)
def tupI(n:Nat)(d:PyData):Prop:=∃is:List Int,d = .tuple (is.map .int)/\is.length=n
theorem tupI_eb(p:Bx):tupI 4 (eb p):=⟨[p.x,p.y,p.w,p.h],rfl,rfl⟩
theorem L_tuples{n:Nat}{ds:List PyData}(h:∀d∈ds,tupI n d):m_L_tuples [.d (.list ds),.d (.int n)]=some (.bool true,[.d (.list ds),.d (.int n)]):=by
 have inner:∀(is:List Int) (o:Option L),nM o->∃τ',dLoop (dN 3) (dIfS (dTOr (dTNot (dTest (dIsi "int" (dVar 3)))) (dTest (dIsi "bool" (dVar 3)))) (dRet (dC (.bool false))) dNil) (is.map PyData.int) [some (.d (.list ds)),some (.d (.int n)),some (.d (.tuple (is.map .int))),o]=some (.nx τ') /\
   ∃o',nM o'/\τ'=[some (.d (.list ds)),some (.d (.int n)),some (.d (.tuple (is.map .int))),o']:=by
  intro is o ho
  refine loop_pre (fun _ τ=>∃o',nM o'/\τ=[some (.d (.list ds)),some (.d (.int n)),some (.d (.tuple (is.map .int))),o']) ⟨o,ho,rfl⟩ ?_
  rintro pre x post τ hx ⟨o',ho',rfl⟩
  exact⟨_,_,dN_eq rfl ho',rfl,some (.d (.int x)),nM_d,rfl⟩
 have key:∃τ',dLoop (dN 2) (dSeq (dIfS (dTOr (dTNot (dTest (dIsi "tuple" (dVar 2)))) (dTest (dOp fNe (dApp fLen (dACons (dVar 2) dANil)) (dVar 1)))) (dRet (dC (.bool false))) dNil) (dFor (dIT (dVar 2)) (dN 3) (dIfS (dTOr (dTNot (dTest (dIsi "int" (dVar 3)))) (dTest (dIsi "bool" (dVar 3)))) (dRet (dC (.bool false))) dNil))) (ds.map id) [some (.d (.list ds)),some (.d (.int n)),none,none]=some (.nx τ') /\
   ∃o o',nM o/\nM o'/\τ'=[some (.d (.list ds)),some (.d (.int n)),o,o']:=by
  refine loop_pre (fun _ τ=>∃o o',nM o/\nM o'/\τ=[some (.d (.list ds)),some (.d (.int n)),o,o']) ⟨none,none,nM_none,nM_none,rfl⟩ ?_
  rintro pre x post τ hx ⟨o,o',ho,ho',rfl⟩
  obtain⟨is,e,hn⟩:=h x (split_mem hx)
  obtain⟨τ',e1,o2,ho2,rfl⟩:=inner is o' ho'
  refine⟨_,_,dN_eq rfl ho,(seq_nx (τ1:=[some (.d (.list ds)),some (.d (.int n)),some (.d (.tuple (is.map .int))),o']) ?_).trans ((for_eq (τ1:=[some (.d (.list ds)),some (.d (.int n)),some (.d (.tuple (is.map .int))),o']) rfl).trans e1),some (.d (.tuple (is.map .int))),o2,nM_d,ho2,rfl⟩
  have ne:fNe (.int (is.length:Int)) (.int (n:Int))=some (.bool false):=by
   rw[encI.fNe];simp[hn]
  simp only[id_eq,e,List.length_map,ne,beq_self_eq_true,dFun,dSeq,dAsg,dN,dNew,dSetM,dRet,dRetM,dRetN,dExpr,dMt,gAppend,gExtend,gClear,dSetI,dNil,dIfS,dBrk,dCnt,dNever,dFor,dPar,dVar,dC,dOp,dUn,fI,fAdd,fSub,fLt,fLe,fGt,fGe,fNeg,isNo,fIsN,fNotN,fIxL,fIxT,dTest,dTAnd,dTOr,dTNot,dIf,dAnd,dOr,dNot,dChain,dANil,dACons,allD,dTup,dLst,dApp,dCall,dCallM,dCallC,dCallP,dAS,mkL,nMb,isM,isC,dBor,dBorF,dTBor,dYes,dIL,dIT,dR1,dR2,dGNil,dGCons,dGT,fin_nil,fin_d,fin_c,fin_m,fLen,f1,f2,fAbs,fMax2,fMin2,fInt1,fListOf,dRev,dIsi,tyOk_int,isi_int_none,isi_int_bool,isi_int_int,isi_int_str,isi_int_list,isi_int_tuple,tyOk_bool,isi_bool_none,isi_bool_bool,isi_bool_int,isi_bool_str,isi_bool_list,isi_bool_tuple,tyOk_str,isi_str_none,isi_str_bool,isi_str_int,isi_str_str,isi_str_list,isi_str_tuple,tyOk_list,isi_list_none,isi_list_bool,isi_list_int,isi_list_str,isi_list_list,isi_list_tuple,tyOk_tuple,isi_tuple_none,isi_tuple_bool,isi_tuple_int,isi_tuple_str,isi_tuple_list,isi_tuple_tuple,dIxC,dLenC,atI,ixN,okM_none,okM_d,okM_c,okM_m,fixD,fixDs,sz',Option.bind_some,Option.bind_none,Option.map_some,Option.map_none,List.map_cons,List.map_nil,List.cons_append,List.nil_append,List.length_cons,List.length_nil,List.getElem?_cons_zero,List.getElem?_cons_succ,List.set_cons_zero,List.set_cons_succ,List.replicate_succ,List.replicate_zero,List.all_cons,List.all_nil,Bool.and_self,Bool.and_true,Bool.true_and,Bool.false_and,Bool.and_false,Bool.or_true,Bool.true_or,Bool.false_or,Bool.or_false,Bool.not_true,Bool.not_false,if_true,if_false,reduceIte,Bool.false_eq_true,Nat.reduceAdd,Nat.reduceLT,Nat.reduceSub,Nat.reduceMul,Int.reduceEq,Int.reduceSub,Int.reduceMul,Int.reducePow,Int.reduceDiv,Int.reduceMod,Nat.reduceLeDiff,Nat.reduceEqDiff,and_self,and_true,true_and,Int.natCast_add,Int.reduceAdd,Int.reduceLT,Int.reduceLE,Int.reduceToNat,Int.reduceNeg,Int.toNat_zero,Int.toNat_one,Int.zero_lt_one,Int.le_refl,Int.reduceNegSucc,Int.cast_ofNat_Int,Nat.zero_add,Nat.add_zero]
 obtain⟨τ',e,o,o',ho,ho',rfl⟩:=key
 rw[List.map_id]at e
 unfold m_L_tuples
 refine fun_rt (τ:=[some (.d (.list ds)),some (.d (.int n)),o,o']) ?_ rfl rfl
 exact(seq_nx rfl).trans ((seq_nx ((for_eq (τ1:=[some (.d (.list ds)),some (.d (.int n)),none,none]) rfl).trans e)).trans rfl)
theorem extn{i:Nat}{a:DA}{τ τ1:DS}{rs:List Ar}{xs ys:List PyData}(h:a τ=some (rs,τ1))(k:allD rs=some [.list ys])(m:τ1[i]?=some (some (.m xs)))(hz:xs.length+ys.length<=900):dExpr (dMt i gExtend a) τ=some (.nx (τ1.set i (some (.m (xs++ys))))):=by
 have hs:xs.length+ys.length<=sizeLine:=sz (Nat.le_trans hz (by decide))
 unfold dExpr dMt
 rw[h]
 show(((allD rs).bind _)).map _=_
 rw[k]
 show((match τ1[i]? with|some (some (.m xs))=>_|_=>_):Option (PyData×DS)).map _=_
 rw[m]
 show((if xs.length+ys.length<=sizeLine then some (PyData.none,xs++ys) else none).map _).map _=_
 rw[if_pos hs]
 rfl
theorem ac1{f:DX}{τ τ1:DS}{d:PyData}(h:f τ=some (d,τ1)):dACons f dANil τ=some ([.d d],τ1):=by
 simp only[h,dFun,dSeq,dAsg,dN,dNew,dSetM,dRet,dRetM,dRetN,dExpr,dMt,gAppend,gExtend,gClear,dSetI,dNil,dIfS,dBrk,dCnt,dNever,dFor,dPar,dVar,dC,dOp,dUn,fI,fAdd,fSub,fLt,fLe,fGt,fGe,fNeg,isNo,fIsN,fNotN,fIxL,fIxT,dTest,dTAnd,dTOr,dTNot,dIf,dAnd,dOr,dNot,dChain,dANil,dACons,allD,dTup,dLst,dApp,dCall,dCallM,dCallC,dCallP,dAS,mkL,nMb,isM,isC,dBor,dBorF,dTBor,dYes,dIL,dIT,dR1,dR2,dGNil,dGCons,dGT,fin_nil,fin_d,fin_c,fin_m,fLen,f1,f2,fAbs,fMax2,fMin2,fInt1,fListOf,dRev,dIsi,dIxC,dLenC,atI,ixN,okM_none,okM_d,okM_c,okM_m,fixD,fixDs,sz',Option.bind_some,Option.bind_none,Option.map_some,Option.map_none,List.map_cons,List.map_nil,List.cons_append,List.nil_append,List.length_cons,List.length_nil,List.getElem?_cons_zero,List.getElem?_cons_succ,List.set_cons_zero,List.set_cons_succ,List.replicate_succ,List.replicate_zero,List.all_cons,List.all_nil,Bool.and_self,Bool.and_true,Bool.true_and,Bool.false_and,Bool.and_false,Bool.or_true,Bool.true_or,Bool.false_or,Bool.or_false,Bool.not_true,Bool.not_false,if_true,if_false,reduceIte,Bool.false_eq_true,Nat.reduceAdd,Nat.reduceLT,Nat.reduceSub,Nat.reduceMul,Int.reduceEq,Int.reduceSub,Int.reduceMul,Int.reducePow,Int.reduceDiv,Int.reduceMod,Nat.reduceLeDiff,Nat.reduceEqDiff,and_self,and_true,true_and,Int.natCast_add,Int.reduceAdd,Int.reduceLT,Int.reduceLE,Int.reduceToNat,Int.reduceNeg,Int.toNat_zero,Int.toNat_one,Int.zero_lt_one,Int.le_refl,Int.reduceNegSucc,Int.cast_ofNat_Int,Nat.zero_add,Nat.add_zero]
theorem lc_any{α β:Type}{enc:α->PyData}{en2:β->PyData}{g:DG}{c:DT}{e:DX}(J:DS->Prop):∀{xs:List α} {acc:List PyData} {τ:DS},J τ ->
  (∀x τ,x∈xs->J τ->∃τ1 τ2 τ3 y,g (enc x) τ=some τ1/\c τ1=some (true,τ2)/\e τ2=some (en2 y,τ3)/\J τ3)->∃(ys:List β) (τ':DS),lcLoop g c e (xs.map enc) acc τ=some (acc++ys.map en2,τ')/\J τ'/\ys.length=xs.length
 |[],acc,τ,h0,_=>⟨[],τ,by simp[lcLoop],h0,rfl⟩
 |x::xs,acc,τ,h0,h=>by
  obtain⟨τ1,τ2,τ3,y,e1,e2,e3,h3⟩:=h x τ List.mem_cons_self h0
  obtain⟨ys,τ',e4,h4,hl⟩:=lc_any J (xs:=xs) (acc:=acc++[en2 y]) (τ:=τ3) h3 (fun z t hz hj=>h z t (List.mem_cons_of_mem _ hz) hj)
  refine⟨y::ys,τ',?_,h4,by rw[List.length_cons,hl,List.length_cons]⟩
  rw[List.map_cons,lcLoop,e1]
  show(c τ1).bind _=_
  rw[e2]
  show(e τ2).bind _=_
  rw[e3]
  show lcLoop g c e (xs.map enc) (acc++[en2 y]) τ3=_
  rw[e4,List.append_assoc]
  rfl
theorem dlcm_eq{own:Nat}{f1 f2:List Nat}{j0:Nat}{it:DI}{g:DG}{c:DT}{e:DX}{τ τ1 τb:DS}{ds acc xs ys:List PyData}(h:it τ=some (ds,τ1))(hz:ds.length<=sizeLine)(hj:τ1[j0]?=some (some (.m ys)))(hm:((f1++f2).all fun j=>!isM τ1 j)=true)(hl:lcLoop g c e ds [] (blkD own (f1++j0::f2) τ1)=some (acc,τb))(hx:τb[own+f1.length]?=some (some (.m xs))) :
  dLCm own f1 j0 f2 it g c e τ=some (.list acc,τ1.set j0 (some (.m xs))):=by
 unfold dLCm
 rw[h]
 show(if ds.length<=sizeLine/\isM τ1 j0=true/\((f1++f2).all fun j=>!isM τ1 j)=true then _ else _)=_
 rw[if_pos ⟨hz,isM_iff.mpr ⟨.l ys,hj⟩,hm⟩,hl]
 dsimp only[Option.bind]
 rw[hx,hj]
theorem cells_by_lc(u rd wide many x y:Int)(h1:0<wide)(h2:wide<=9)(h3:0<=many)(h4:many<=39):∃(cs:List Cl) (u':Int),dLCm 1 [4,5] 0 [2] (dR1 (dACons (dVar 3) dANil)) (dN 0) dYes (dTup (dACons (dOp fAdd (dVar 1) (dCallM 3 m_L_digit (dACons (dVar 4) dANil))) (dACons (dOp fAdd (dVar 2) (dCallM 3 m_L_digit (dACons (dC (.int 6)) dANil))) dANil))) [some (.m [.int u]),some (.d (.int rd)),some (.d (.int wide)),some (.d (.int many)),some (.d (.int x)),some (.d (.int y))]=some (.list (cs.map ec),[some (.m [.int u']),some (.d (.int rd)),some (.d (.int wide)),some (.d (.int many)),some (.d (.int x)),some (.d (.int y))])/\cs.length<=39:=by
 obtain ⟨cs, τ', el, ⟨o, u', ho, rfl⟩, hl⟩ := lc_any (enc := PyData.int) (en2 := ec) (g := dN 0) (c := dYes) (e := dTup (dACons (dOp fAdd (dVar 1) (dCallM 3 m_L_digit (dACons (dVar 4) dANil))) (dACons (dOp fAdd (dVar 2) (dCallM 3 m_L_digit (dACons (dC (.int 6)) dANil))) dANil))) (fun τ => ∃ o u, nM o /\ τ = [o, some (.d (.int x)), some (.d (.int y)), some (.m [.int u]), some (.d (.int wide))]) (xs := rng 0 many.toNat) (acc := []) (τ := [none, some (.d (.int x)), some (.d (.int y)), some (.m [.int u]), some (.d (.int wide))]) ⟨none, u, nM_none, rfl⟩ (by
  rintro k τ _ ⟨o,u,ho,rfl⟩
  have e:=L_dig (v:=u) (m:=wide) h1 (by omega)
  refine⟨[some (.d (.int k)),some (.d (.int x)),some (.d (.int y)),some (.m [.int u]),some (.d (.int wide))],_,[some (.d (.int k)),some (.d (.int x)),some (.d (.int y)),some (.m [.int (u / wide / 6)]),some (.d (.int wide))],(x+u % wide,y+u / wide % 6),dN_eq (o:=o) rfl ho,rfl,?_,_,_,nM_d,rfl⟩
  simp only[e,L_dig,ec,dFun,dSeq,dAsg,dN,dNew,dSetM,dRet,dRetM,dRetN,dExpr,dMt,gAppend,gExtend,gClear,dSetI,dNil,dIfS,dBrk,dCnt,dNever,dFor,dPar,dVar,dC,dOp,dUn,fI,fAdd,fSub,fLt,fLe,fGt,fGe,fNeg,isNo,fIsN,fNotN,fIxL,fIxT,dTest,dTAnd,dTOr,dTNot,dIf,dAnd,dOr,dNot,dChain,dANil,dACons,allD,dTup,dLst,dApp,dCall,dCallM,dCallC,dCallP,dAS,mkL,nMb,isM,isC,dBor,dBorF,dTBor,dYes,dIL,dIT,dR1,dR2,dGNil,dGCons,dGT,fin_nil,fin_d,fin_c,fin_m,fLen,f1,f2,fAbs,fMax2,fMin2,fInt1,fListOf,dRev,dIsi,dIxC,dLenC,atI,ixN,okM_none,okM_d,okM_c,okM_m,fixD,fixDs,sz',Option.bind_some,Option.bind_none,Option.map_some,Option.map_none,List.map_cons,List.map_nil,List.cons_append,List.nil_append,List.length_cons,List.length_nil,List.getElem?_cons_zero,List.getElem?_cons_succ,List.set_cons_zero,List.set_cons_succ,List.replicate_succ,List.replicate_zero,List.all_cons,List.all_nil,Bool.and_self,Bool.and_true,Bool.true_and,Bool.false_and,Bool.and_false,Bool.or_true,Bool.true_or,Bool.false_or,Bool.or_false,Bool.not_true,Bool.not_false,if_true,if_false,reduceIte,Bool.false_eq_true,Nat.reduceAdd,Nat.reduceLT,Nat.reduceSub,Nat.reduceMul,Int.reduceEq,Int.reduceSub,Int.reduceMul,Int.reducePow,Int.reduceDiv,Int.reduceMod,Nat.reduceLeDiff,Nat.reduceEqDiff,and_self,and_true,true_and,Int.natCast_add,Int.reduceAdd,Int.reduceLT,Int.reduceLE,Int.reduceToNat,Int.reduceNeg,Int.toNat_zero,Int.toNat_one,Int.zero_lt_one,Int.le_refl,Int.reduceNegSucc,Int.cast_ofNat_Int,Nat.zero_add,Nat.add_zero])
 rw[List.nil_append]at el
 refine⟨cs,u',dlcm_eq (τ1:=[some (.m [.int u]),some (.d (.int rd)),some (.d (.int wide)),some (.d (.int many)),some (.d (.int x)),some (.d (.int y))]) (r1_eq (n:=many) rfl (by omega) (by omega)) (by rw[List.length_map,rng_len];exact sz (by omega)) rfl rfl el rfl,?_⟩
 rw[hl,rng_len];omega
theorem L_cells_by_eq(v:Int):∃(cs:List Cl) (v':Int),m_L_cells_by [.m [.int v]]=some (.list (cs.map ec),[.m [.int v']])/\cs.length<=39:=by
 let st:=fun(u:Int) (a b c d e:Option L)=>[some (.m [.int u]),a,b,c,d,e]
 let dI:=fun(i:Int)=>some (L.d (.int i))
 have pre:∀rest:DB,dSeq (dAsg (dCallM 0 m_L_digit (dACons (dC (.int 3)) dANil)) (dN 1)) (dSeq (dAsg (dOp fAdd (dC (.int 1)) (dCallM 0 m_L_digit (dACons (dC (.int 9)) dANil))) (dN 2)) (dSeq (dAsg (dCallM 0 m_L_digit (dACons (dC (.int 40)) dANil)) (dN 3)) (dSeq (dAsg (dOp fSub (dCallM 0 m_L_digit (dACons (dC (.int 1801)) dANil)) (dC (.int 900))) (dN 4)) (dSeq (dAsg (dOp fSub (dCallM 0 m_L_digit (dACons (dC (.int 1801)) dANil)) (dC (.int 900))) (dN 5)) rest)))) (st v none none none none none)=rest (st (v / 3 / 9 / 40 / 1801 / 1801) (dI (v % 3)) (dI (1+v / 3 % 9)) (dI (v / 3 / 9 % 40)) (dI (v / 3 / 9 / 40 % 1801-900)) (dI (v / 3 / 9 / 40 / 1801 % 1801-900))):=by
  intro rest
  simp only[st,dI,L_dig,dFun,dSeq,dAsg,dN,dNew,dSetM,dRet,dRetM,dRetN,dExpr,dMt,gAppend,gExtend,gClear,dSetI,dNil,dIfS,dBrk,dCnt,dNever,dFor,dPar,dVar,dC,dOp,dUn,fI,fAdd,fSub,fLt,fLe,fGt,fGe,fNeg,isNo,fIsN,fNotN,fIxL,fIxT,dTest,dTAnd,dTOr,dTNot,dIf,dAnd,dOr,dNot,dChain,dANil,dACons,allD,dTup,dLst,dApp,dCall,dCallM,dCallC,dCallP,dAS,mkL,nMb,isM,isC,dBor,dBorF,dTBor,dYes,dIL,dIT,dR1,dR2,dGNil,dGCons,dGT,fin_nil,fin_d,fin_c,fin_m,fLen,f1,f2,fAbs,fMax2,fMin2,fInt1,fListOf,dRev,dIsi,dIxC,dLenC,atI,ixN,okM_none,okM_d,okM_c,okM_m,fixD,fixDs,sz',Option.bind_some,Option.bind_none,Option.map_some,Option.map_none,List.map_cons,List.map_nil,List.cons_append,List.nil_append,List.length_cons,List.length_nil,List.getElem?_cons_zero,List.getElem?_cons_succ,List.set_cons_zero,List.set_cons_succ,List.replicate_succ,List.replicate_zero,List.all_cons,List.all_nil,Bool.and_self,Bool.and_true,Bool.true_and,Bool.false_and,Bool.and_false,Bool.or_true,Bool.true_or,Bool.false_or,Bool.or_false,Bool.not_true,Bool.not_false,if_true,if_false,reduceIte,Bool.false_eq_true,Nat.reduceAdd,Nat.reduceLT,Nat.reduceSub,Nat.reduceMul,Int.reduceEq,Int.reduceSub,Int.reduceMul,Int.reducePow,Int.reduceDiv,Int.reduceMod,Nat.reduceLeDiff,Nat.reduceEqDiff,and_self,and_true,true_and,Int.natCast_add,Int.reduceAdd,Int.reduceLT,Int.reduceLE,Int.reduceToNat,Int.reduceNeg,Int.toNat_zero,Int.toNat_one,Int.zero_lt_one,Int.le_refl,Int.reduceNegSucc,Int.cast_ofNat_Int,Nat.zero_add,Nat.add_zero]
 have fin:∀x y:Int,∃(cs:List Cl) (v':Int),dRet (dLCm 1 [4,5] 0 [2] (dR1 (dACons (dVar 3) dANil)) (dN 0) dYes (dTup (dACons (dOp fAdd (dVar 1) (dCallM 3 m_L_digit (dACons (dVar 4) dANil))) (dACons (dOp fAdd (dVar 2) (dCallM 3 m_L_digit (dACons (dC (.int 6)) dANil))) dANil)))) (st (v / 3 / 9 / 40 / 1801 / 1801) (dI (v % 3)) (dI (1+v / 3 % 9)) (dI (v / 3 / 9 % 40)) (dI x) (dI y))=some (.rt (.list (cs.map ec)) (st v' (dI (v % 3)) (dI (1+v / 3 % 9)) (dI (v / 3 / 9 % 40)) (dI x) (dI y)))/\cs.length<=39:=by
  intro x y
  obtain⟨cs,u',e,hl⟩:=cells_by_lc (v / 3 / 9 / 40 / 1801 / 1801) (v % 3) (1+v / 3 % 9) (v / 3 / 9 % 40) x y (by omega) (by omega) (by omega) (by omega)
  exact⟨cs,u',ret_rt e,hl⟩
 unfold m_L_cells_by
 by_cases h:v % 3>0
 ·obtain⟨cs,v',e,hl⟩:=fin ((v / 3 / 9 / 40 % 1801-900) % 5) ((v / 3 / 9 / 40 / 1801 % 1801-900) % 5)
  refine⟨cs,v',fun_rt (τ:=st v' (dI (v % 3)) (dI (1+v / 3 % 9)) (dI (v / 3 / 9 % 40)) (dI ((v / 3 / 9 / 40 % 1801-900) % 5)) (dI ((v / 3 / 9 / 40 / 1801 % 1801-900) % 5))) ((pre _).trans ?_) rfl rfl,hl⟩
  refine(seq_nx (τ1:=st (v / 3 / 9 / 40 / 1801 / 1801) (dI (v % 3)) (dI (1+v / 3 % 9)) (dI (v / 3 / 9 % 40)) (dI ((v / 3 / 9 / 40 % 1801-900) % 5)) (dI ((v / 3 / 9 / 40 / 1801 % 1801-900) % 5))) ((ifs_t (τ1:=st (v / 3 / 9 / 40 / 1801 / 1801) (dI (v % 3)) (dI (1+v / 3 % 9)) (dI (v / 3 / 9 % 40)) (dI (v / 3 / 9 / 40 % 1801-900)) (dI (v / 3 / 9 / 40 / 1801 % 1801-900))) ?_).trans ?_)).trans e
  ·simp only[st,dI,h,decide_true,dFun,dSeq,dAsg,dN,dNew,dSetM,dRet,dRetM,dRetN,dExpr,dMt,gAppend,gExtend,gClear,dSetI,dNil,dIfS,dBrk,dCnt,dNever,dFor,dPar,dVar,dC,dOp,dUn,fI,fAdd,fSub,fLt,fLe,fGt,fGe,fNeg,isNo,fIsN,fNotN,fIxL,fIxT,dTest,dTAnd,dTOr,dTNot,dIf,dAnd,dOr,dNot,dChain,dANil,dACons,allD,dTup,dLst,dApp,dCall,dCallM,dCallC,dCallP,dAS,mkL,nMb,isM,isC,dBor,dBorF,dTBor,dYes,dIL,dIT,dR1,dR2,dGNil,dGCons,dGT,fin_nil,fin_d,fin_c,fin_m,fLen,f1,f2,fAbs,fMax2,fMin2,fInt1,fListOf,dRev,dIsi,dIxC,dLenC,atI,ixN,okM_none,okM_d,okM_c,okM_m,fixD,fixDs,sz',Option.bind_some,Option.bind_none,Option.map_some,Option.map_none,List.map_cons,List.map_nil,List.cons_append,List.nil_append,List.length_cons,List.length_nil,List.getElem?_cons_zero,List.getElem?_cons_succ,List.set_cons_zero,List.set_cons_succ,List.replicate_succ,List.replicate_zero,List.all_cons,List.all_nil,Bool.and_self,Bool.and_true,Bool.true_and,Bool.false_and,Bool.and_false,Bool.or_true,Bool.true_or,Bool.false_or,Bool.or_false,Bool.not_true,Bool.not_false,if_true,if_false,reduceIte,Bool.false_eq_true,Nat.reduceAdd,Nat.reduceLT,Nat.reduceSub,Nat.reduceMul,Int.reduceEq,Int.reduceSub,Int.reduceMul,Int.reducePow,Int.reduceDiv,Int.reduceMod,Nat.reduceLeDiff,Nat.reduceEqDiff,and_self,and_true,true_and,Int.natCast_add,Int.reduceAdd,Int.reduceLT,Int.reduceLE,Int.reduceToNat,Int.reduceNeg,Int.toNat_zero,Int.toNat_one,Int.zero_lt_one,Int.le_refl,Int.reduceNegSucc,Int.cast_ofNat_Int,Nat.zero_add,Nat.add_zero]
  ·rfl
 ·obtain⟨cs,v',e,hl⟩:=fin (v / 3 / 9 / 40 % 1801-900) (v / 3 / 9 / 40 / 1801 % 1801-900)
  refine⟨cs,v',fun_rt (τ:=st v' (dI (v % 3)) (dI (1+v / 3 % 9)) (dI (v / 3 / 9 % 40)) (dI (v / 3 / 9 / 40 % 1801-900)) (dI (v / 3 / 9 / 40 / 1801 % 1801-900))) ((pre _).trans ?_) rfl rfl,hl⟩
  refine(seq_nx ((ifs_f (τ1:=st (v / 3 / 9 / 40 / 1801 / 1801) (dI (v % 3)) (dI (1+v / 3 % 9)) (dI (v / 3 / 9 % 40)) (dI (v / 3 / 9 / 40 % 1801-900)) (dI (v / 3 / 9 / 40 / 1801 % 1801-900))) ?_).trans rfl)).trans e
  simp only[st,dI,h,decide_false,dFun,dSeq,dAsg,dN,dNew,dSetM,dRet,dRetM,dRetN,dExpr,dMt,gAppend,gExtend,gClear,dSetI,dNil,dIfS,dBrk,dCnt,dNever,dFor,dPar,dVar,dC,dOp,dUn,fI,fAdd,fSub,fLt,fLe,fGt,fGe,fNeg,isNo,fIsN,fNotN,fIxL,fIxT,dTest,dTAnd,dTOr,dTNot,dIf,dAnd,dOr,dNot,dChain,dANil,dACons,allD,dTup,dLst,dApp,dCall,dCallM,dCallC,dCallP,dAS,mkL,nMb,isM,isC,dBor,dBorF,dTBor,dYes,dIL,dIT,dR1,dR2,dGNil,dGCons,dGT,fin_nil,fin_d,fin_c,fin_m,fLen,f1,f2,fAbs,fMax2,fMin2,fInt1,fListOf,dRev,dIsi,dIxC,dLenC,atI,ixN,okM_none,okM_d,okM_c,okM_m,fixD,fixDs,sz',Option.bind_some,Option.bind_none,Option.map_some,Option.map_none,List.map_cons,List.map_nil,List.cons_append,List.nil_append,List.length_cons,List.length_nil,List.getElem?_cons_zero,List.getElem?_cons_succ,List.set_cons_zero,List.set_cons_succ,List.replicate_succ,List.replicate_zero,List.all_cons,List.all_nil,Bool.and_self,Bool.and_true,Bool.true_and,Bool.false_and,Bool.and_false,Bool.or_true,Bool.true_or,Bool.false_or,Bool.or_false,Bool.not_true,Bool.not_false,if_true,if_false,reduceIte,Bool.false_eq_true,Nat.reduceAdd,Nat.reduceLT,Nat.reduceSub,Nat.reduceMul,Int.reduceEq,Int.reduceSub,Int.reduceMul,Int.reducePow,Int.reduceDiv,Int.reduceMod,Nat.reduceLeDiff,Nat.reduceEqDiff,and_self,and_true,true_and,Int.natCast_add,Int.reduceAdd,Int.reduceLT,Int.reduceLE,Int.reduceToNat,Int.reduceNeg,Int.toNat_zero,Int.toNat_one,Int.zero_lt_one,Int.le_refl,Int.reduceNegSucc,Int.cast_ofNat_Int,Nat.zero_add,Nat.add_zero]
theorem acc{f:DX}{a:DA}{τ τ1 τ2:DS}{d:PyData}{rs:List Ar}(h:f τ=some (d,τ1))(k:a τ1=some (rs,τ2)):dACons f a τ=some (.d d::rs,τ2):=by
 unfold dACons
 rw[h]
 show((a τ1).map _)=_
 rw[k];rfl
theorem tst{f:DX}{τ τ1:DS}{b:Bool}(h:f τ=some (.bool b,τ1)):dTest f τ=some (b,τ1):=by
 unfold dTest
 rw[h];rfl
theorem tnot{t:DT}{τ τ1:DS}{b:Bool}(h:t τ=some (b,τ1)):dTNot t τ=some (!b,τ1):=by
 unfold dTNot
 rw[h];rfl
theorem op2{F:PyData->PyData->Option PyData}{f g:DX}{τ τ1 τ2:DS}{x y r:PyData}(h:f τ=some (x,τ1))(k:g τ1=some (y,τ2))(e:F x y=some r):dOp F f g τ=some (r,τ2):=by
 unfold dOp
 rw[h]
 show((g τ1).bind _)=_
 rw[k]
 show((F x y).map _)=_
 rw[e];rfl
theorem orFF{x y:DT}{τ τ1 τ2:DS}(h1:x τ=some (false,τ1))(h2:y τ1=some (false,τ2)):dTOr x y τ=some (false,τ2):=by
 unfold dTOr
 rw[h1];exact h2
theorem setM_nx{np i:Nat}{e:DX}{τ τ1:DS}{xs:List PyData}(h:e τ=some (.list xs,τ1))(h1:np<=i)(h2:i<τ1.length)(h3:τ1.all okM=true):dSetM np i e τ=some (.nx (τ1.set i (some (.m xs)))):=by
 unfold dSetM
 rw[h]
 dsimp only[Option.bind]
 rw[if_pos ⟨h1,h2,h3⟩]
theorem tand{a b:DT}{τ:DS}{p q:Bool}(h1:a τ=some (p,τ))(h2:b τ=some (q,τ)):dTAnd a b τ=some (p&&q,τ):=by
 unfold dTAnd
 rw[h1]
 cases p with
 |true=>exact h2
 |false=>rfl
theorem g2_eq{p:Cl}{o1 o2:Option L}(h1:nM o1)(h2:nM o2):dGT (dGCons (dN 0) (dGCons (dN 1) dGNil)) (ec p) [o1,o2]=some [some (.d (.int p.1)),some (.d (.int p.2))]:=by
 show((dN 0 (.int p.1) [o1,o2]).bind fun τ1=>(dN 1 (.int p.2) τ1).bind fun τ2=>some τ2)=_
 rw[dN_eq (o:=o1) rfl h1]
 show((dN 1 (.int p.2) [some (.d (.int p.1)),o2]).bind fun τ2=>some τ2)=_
 rw[dN_eq (o:=o2) rfl h2]
 rfl
theorem lcq{cs:List Cl}{τ:DS}{e:DX}{i:Nat}(f:Cl->PyData)(h:dIL (dVar i) τ=some (cs.map ec,τ))(hz:cs.length<=1000)(he:∀p:Cl,e [some (.d (.int p.1)),some (.d (.int p.2))]=some (f p,[some (.d (.int p.1)),some (.d (.int p.2))])) :
  dLC 2 [] (dIL (dVar i)) (dGT (dGCons (dN 0) (dGCons (dN 1) dGNil))) dYes e τ=some (.list (cs.map f),τ):=by
 obtain ⟨τb, el⟩ := lc_list (enc := ec) (g := dGT (dGCons (dN 0) (dGCons (dN 1) dGNil))) (c := dYes) (e := e) (fun τ => ∃ o1 o2, nM o1 /\ nM o2 /\ τ = [o1, o2]) (fun _ => true) f (xs := cs) (acc := []) (τ := [none, none]) ⟨none, none, nM_none, nM_none, rfl⟩ (by
  rintro x τ _ ⟨o1,o2,h1,h2,rfl⟩
  exact⟨_,[some (.d (.int x.1)),some (.d (.int x.2))],g2_eq h1 h2,rfl,fun z=>(nomatch z),fun _=>⟨_,he x,_,_,nM_d,nM_d,rfl⟩⟩)
 rw[List.nil_append,List.filter_eq_self.mpr (fun _ _=>rfl)]at el
 exact dlc_eq (ds:=cs.map ec) (τ1:=τ) (τb:=τb) h (by rw[List.length_map];exact sz hz) rfl el
def sw(p:Cl):List Int:=[p.2,p.1]
def us(k:List Int):Cl:=(k.getD 1 0,k.getD 0 0)
theorem keys_sw:∀cs:List Cl,keysD (cs.map fun p=>PyData.tuple [.int p.2,.int p.1])=some (cs.map sw)
 |[]=>rfl
 |c::cs=>by
  rw[List.map_cons,keysD,keys_sw cs]
  rfl
def rbr(cs:List Cl):List Cl:=(srtK (onceK (cs.map sw))).map us
theorem srt_mem{cs:List Cl}{k:List Int}:k∈srtK (onceK (cs.map sw))↔∃p∈cs,sw p=k:=by
 rw[(srtK_perm _).mem_iff,mem_once,List.mem_map]
theorem mem_rbr{cs:List Cl}{p:Cl}:p∈rbr cs↔p∈cs:=by
 unfold rbr
 rw[List.mem_map]
 constructor
 ·rintro⟨k,hk,rfl⟩
  obtain⟨q,hq,rfl⟩:=srt_mem.mp hk
  exact hq
 ·intro h
  exact⟨sw p,srt_mem.mpr ⟨p,h,rfl⟩,rfl⟩
theorem lex_sw{p q:Cl}:HT.lexLt (sw p) (sw q)=true↔lt2 p q:=by
 unfold sw lt2
 rw[HT.lexLt_cons,HT.lexLt_cons]
 by_cases e:p.2=q.2
 ·rw[if_pos e]
  by_cases e1:p.1=q.1
  ·rw[if_pos e1]
   have:HT.lexLt [] ([]:List Int)=false:=rfl
   rw[this]
   constructor
   ·intro z;cases z
   ·omega
  ·rw[if_neg e1,decide_eq_true_eq];omega
 ·rw[if_neg e,decide_eq_true_eq];omega
theorem rbr_sorted(cs:List Cl):(rbr cs).Pairwise lt2:=by
 unfold rbr
 rw[List.pairwise_map]
 refine(List.Pairwise.and_mem.mp (srtK_sorted (once_nodup (cs.map sw)))).imp ?_
 rintro a b ⟨ha,hb,h⟩
 obtain⟨p,_,rfl⟩:=srt_mem.mp ha
 obtain⟨q,_,rfl⟩:=srt_mem.mp hb
 exact lex_sw.mp h
theorem rbr_eq{cs l:List Cl}(h:l.Pairwise lt2)(m:∀p,p∈l↔p∈cs):rbr cs=l:=sorted_ext lt2_as (rbr_sorted cs) h fun p=>mem_rbr.trans (m p).symm
theorem rbr_congr{a b:List Cl}(h:∀p,p∈a↔p∈b):rbr a=rbr b:=rbr_eq (rbr_sorted b) fun p=>mem_rbr.trans (h p).symm
theorem once_len:∀(l:List (List Int)),(onceK l).length<=l.length
 |[]=>Nat.le_refl _
 |x::r=>by
  have:=once_len r
  unfold onceK
  split
  ·exact Nat.le_succ_of_le this
  ·exact Nat.succ_le_succ this
theorem rbr_len(cs:List Cl):(rbr cs).length<=cs.length:=by
 unfold rbr
 rw[List.length_map,(srtK_perm _).length_eq]
 have:=once_len (cs.map sw)
 rw[List.length_map]at this
 exact this
theorem ss_eq{cs:List Cl}{f:DX}{τ τ1:DS}(h:f τ=some (.list (cs.map fun p=>PyData.tuple [.int p.2,.int p.1]),τ1))(hz:cs.length<900):dSS f τ=some (.list ((rbr cs).map fun p=>PyData.tuple [.int p.2,.int p.1]),τ1):=by
 unfold dSS
 rw[h]
 show(keysD (cs.map fun p=>PyData.tuple [.int p.2,.int p.1])).bind _=_
 rw[keys_sw]
 show(if _ then _ else _)=_
 have ol:=once_len (cs.map sw)
 rw[List.length_map]at ol
 rw[if_pos]
 ·have e:(srtK (onceK (cs.map sw))).map tupK=(rbr cs).map fun p=>PyData.tuple [.int p.2,.int p.1]:=by
   unfold rbr
   rw[List.map_map]
   refine List.map_congr_left fun k hk=>?_
   obtain⟨q,_,rfl⟩:=srt_mem.mp hk
   rfl
  rw[e]
 ·refine⟨by rw[List.length_map];omega,by omega,?_,?_⟩
  ·intro k hk
   obtain⟨p,hp,rfl⟩:=List.mem_map.mp hk
   cases cs with
   |nil=>simp at hp
   |cons c cs=>rfl
  ·cases cs with
   |nil=>decide
   |cons c cs=>show 1<=2;decide
def te(p:Cl):PyData:=.tuple [.int p.2,.int p.1]
theorem row_by_row_eq{cs:List Cl}(hz:cs.length<900):m_row_by_row [.d (.list (cs.map ec))]=some (.list ((rbr cs).map ec),[.d (.list (cs.map ec))]):=by
 have hl:=rbr_len cs
 have e1:dLC 2 [] (dIL (dVar 0)) (dGT (dGCons (dN 0) (dGCons (dN 1) dGNil))) dYes (dTup (dACons (dVar 1) (dACons (dVar 0) dANil))) [some (.d (.list (cs.map ec))),none]=some (.list (cs.map fun p=>PyData.tuple [.int p.2,.int p.1]),[some (.d (.list (cs.map ec))),none]) :=
  lcq (fun p=>PyData.tuple [.int p.2,.int p.1]) rfl (by omega) fun p=>rfl
 have e2:((rbr cs).map fun p=>PyData.tuple [.int p.2,.int p.1])=((rbr cs).map fun p=>((p.2,p.1):Cl)).map ec:=by rw[List.map_map];rfl
 unfold m_row_by_row
 refine fun_rt (τ:=[some (.d (.list (cs.map ec))),some (.d (.list (((rbr cs).map fun p=>((p.2,p.1):Cl)).map ec)))]) ?_ rfl rfl
 refine(seq_nx (τ1:=[some (.d (.list (cs.map ec))),some (.d (.list (((rbr cs).map fun p=>((p.2,p.1):Cl)).map ec)))]) (asg_nx (ss_eq e1 hz) (by rw[e2];rfl))).trans ?_
 refine ret_rt ?_
 have:=lcq (cs:=(rbr cs).map fun p=>((p.2,p.1):Cl)) (τ:=[some (.d (.list (cs.map ec))),some (.d (.list (((rbr cs).map fun p=>((p.2,p.1):Cl)).map ec)))]) (i:=1) (e:=dTup (dACons (dVar 1) (dACons (dVar 0) dANil))) (fun p=>PyData.tuple [.int p.2,.int p.1]) rfl (by rw[List.length_map];omega) fun p=>rfl
 have e3:(rbr cs).map ec=((rbr cs).map fun p=>((p.2,p.1):Cl)).map fun p=>PyData.tuple [.int p.2,.int p.1]:=by rw[List.map_map];rfl
 rw[e3]
 exact this
structure Sx where
 x:Int
 y:Int
 m:Int
 deriving DecidableEq
def es(s:Sx):PyData:=.tuple [.int s.x,.int s.y,.int s.m]
def flatS(l:List Sx):List Cl:=l.flatMap fun s=>rowC s.x s.y s.m.toNat
def stS(l:List Sx)(c:Cl):List Sx:=match l.getLast? with
 |some s=>if c=(s.x+s.m,s.y) then l.dropLast++[⟨s.x,s.y,s.m+1⟩] else l++[⟨c.1,c.2,1⟩]
 |none=>l++[⟨c.1,c.2,1⟩]
def strS(cs:List Cl):List Sx:=cs.foldl stS []
theorem strS_snoc(cs:List Cl)(c:Cl):strS (cs++[c])=stS (strS cs) c:=by unfold strS;rw[List.foldl_append];rfl
theorem row_snoc(x y m:Int)(h:0<=m):rowC x y (m+1).toNat=rowC x y m.toNat++[(x+m,y)]:=by
 unfold rowC rng
 rw[show(m+1).toNat=m.toNat+1 by omega,List.range_succ]
 simp
 omega
theorem flat_snoc(l:List Sx)(s:Sx):flatS (l++[s])=flatS l++rowC s.x s.y s.m.toNat:=by unfold flatS;rw[List.flatMap_append];simp
theorem st_nil(c:Cl):stS [] c=[⟨c.1,c.2,1⟩]:=rfl
theorem st_snoc(l:List Sx)(s:Sx)(c:Cl):stS (l++[s]) c=if c=(s.x+s.m,s.y) then l++[⟨s.x,s.y,s.m+1⟩] else l++[s]++[⟨c.1,c.2,1⟩]:=by
 unfold stS
 rw[List.getLast?_concat,List.dropLast_concat]
structure Js(rs pre:List Cl)(acc:List Sx):Prop where
 flat:flatS acc=pre
 pos:∀s∈acc,1<=s.m
 lo:∀s∈acc,(s.x-1,s.y)∉rs
 hi:∀s∈acc.dropLast,(s.x+s.m,s.y)∉rs
theorem adj{P post:List Cl}{a c q:Cl}(h:(P++a::c::post).Pairwise lt2)(h1:lt2 a q)(h2:lt2 q c):q∉P++a::c::post:=by
 obtain⟨p1,p2,p3⟩:=List.pairwise_append.mp h
 obtain⟨p4,p5⟩:=List.pairwise_cons.mp p2
 obtain⟨p6,p7⟩:=List.pairwise_cons.mp p5
 intro hq
 rcases List.mem_append.mp hq with hq|hq
 ·exact lt2_as _ _ h1 (p3 q hq a List.mem_cons_self)
 ·rcases List.mem_cons.mp hq with e|hq
  ·subst e;exact lt2_as _ _ h1 h1
  ·rcases List.mem_cons.mp hq with e|hq
   ·subst e;exact lt2_as _ _ h2 h2
   ·exact lt2_as _ _ h2 (p6 q hq)
theorem js_last{rs pre:List Cl}{l:List Sx}{s:Sx}(J:Js rs pre (l++[s])):∃P,pre=P++[(s.x+s.m-1,s.y)]:=by
 have hm:=J.pos s (List.mem_append_right _ List.mem_cons_self)
 have f:=J.flat
 rw[flat_snoc,show s.m=s.m-1+1 by omega,row_snoc _ _ _ (by omega),<- List.append_assoc]at f
 exact⟨_,by rw[<- f,show s.x+(s.m-1)=s.x+s.m-1 by omega]⟩
theorem js_step{rs pre post:List Cl}{c:Cl}{acc:List Sx}(hs:rs.Pairwise lt2)(e:rs=pre++c::post)(J:Js rs pre acc):Js rs (pre++[c]) (stS acc c):=by
 rcases List.eq_nil_or_concat acc with rfl|⟨l,s,rfl⟩
 ·have hp:pre=[]:=J.flat.symm
  subst hp
  rw[st_nil]
  refine⟨?_,fun s hs'=>?_,fun s hs'=>?_,fun s hs'=>(List.not_mem_nil hs').elim⟩
  ·show rowC c.1 c.2 1++[]=_
   unfold rowC rng
   simp
  ·rw[List.mem_singleton.mp hs'];exact Int.le_refl _
  ·rw[List.mem_singleton.mp hs',e]
   rw[e]at hs
   obtain⟨p1,_⟩:=List.pairwise_cons.mp hs
   intro hq
   rcases List.mem_cons.mp hq with q|q
   ·have:=congrArg Prod.fst q;dsimp only at this;omega
   ·have:=p1 _ q;unfold lt2 at this;dsimp only at this;omega
 ·rw[List.concat_eq_append]at J ⊢
  obtain⟨P,hP⟩:=js_last J
  have e2:rs=P++(s.x+s.m-1,s.y)::c::post:=by rw[e,hP,List.append_assoc];rfl
  have hm:=J.pos s (List.mem_append_right _ List.mem_cons_self)
  rw[st_snoc]
  by_cases hc:c=(s.x+s.m,s.y)
  ·rw[if_pos hc]
   refine⟨?_,fun t ht=>?_,fun t ht=>?_,fun t ht=>?_⟩
   ·have f:=J.flat
    rw[flat_snoc]at f ⊢
    show flatS l++rowC s.x s.y (s.m+1).toNat=_
    rw[row_snoc _ _ _ (by omega),<- List.append_assoc,f,hc]
   ·rcases List.mem_append.mp ht with ht|ht
    ·exact J.pos t (List.mem_append_left _ ht)
    ·rw[List.mem_singleton.mp ht];show 1<=s.m+1;omega
   ·rcases List.mem_append.mp ht with ht|ht
    ·exact J.lo t (List.mem_append_left _ ht)
    ·rw[List.mem_singleton.mp ht];exact J.lo s (List.mem_append_right _ List.mem_cons_self)
   ·rw[List.dropLast_concat]at ht
    exact J.hi t (by rw[List.dropLast_concat];exact ht)
  ·rw[if_neg hc]
   have hs2:=hs
   rw[e2]at hs2
   have lt:lt2 (s.x+s.m-1,s.y) c:=by
    obtain⟨_,p2,_⟩:=List.pairwise_append.mp hs2
    exact(List.pairwise_cons.mp p2).1 c List.mem_cons_self
   have hc':¬(c.1=s.x+s.m/\c.2=s.y):=fun z=>hc (Prod.ext z.1 z.2)
   refine⟨?_,fun t ht=>?_,fun t ht=>?_,fun t ht=>?_⟩
   ·rw[flat_snoc,J.flat]
    show pre++rowC c.1 c.2 1=_
    unfold rowC rng
    simp
   ·rcases List.mem_append.mp ht with ht|ht
    ·exact J.pos t ht
    ·rw[List.mem_singleton.mp ht];exact Int.le_refl _
   ·rcases List.mem_append.mp ht with ht|ht
    ·exact J.lo t ht
    ·rw[List.mem_singleton.mp ht,e2]
     refine adj hs2 ?_ ?_<;>unfold lt2 at*<;> dsimp only at*<;> omega
   ·rw[List.dropLast_concat]at ht
    rcases List.mem_append.mp ht with ht|ht
    ·exact J.hi t (by rw[List.dropLast_concat];exact ht)
    ·rw[List.mem_singleton.mp ht,e2]
     refine adj hs2 ?_ ?_<;>unfold lt2 at*<;> dsimp only at*<;> omega
theorem js_nil(rs:List Cl):Js rs [] []:=⟨rfl,fun s h=>(List.not_mem_nil h).elim,fun s h=>(List.not_mem_nil h).elim,fun s h=>(List.not_mem_nil h).elim⟩
theorem js_all{rs:List Cl}(hs:rs.Pairwise lt2):∀(post pre:List Cl) (acc:List Sx),rs=pre++post->Js rs pre acc->Js rs rs (post.foldl stS acc)
 |[],pre,acc,e,J=>by rw[List.append_nil]at e;subst e;exact J
 |c::post,pre,acc,e,J=>js_all hs post (pre++[c]) (stS acc c) (by rw[e,List.append_assoc];rfl) (js_step hs e J)
theorem str_told{rs:List Cl}(hs:rs.Pairwise lt2):flatS (strS rs)=rs/\(∀s∈strS rs,1<=s.m/\(s.x-1,s.y)∉rs/\(s.x+s.m,s.y)∉rs):=by
 have J:Js rs rs (strS rs):=js_all hs rs [] [] rfl (js_nil rs)
 refine⟨J.flat,fun s hs'=>⟨J.pos s hs',J.lo s hs',?_⟩⟩
 rcases List.eq_nil_or_concat (strS rs)with e|⟨l,t,e⟩
 ·rw[e]at hs';exact(List.not_mem_nil hs').elim
 ·rw[e,List.concat_eq_append]at hs' J
  rcases List.mem_append.mp hs' with h|h
  ·exact J.hi s (by rw[List.dropLast_concat];exact h)
  ·rw[List.mem_singleton.mp h]
   obtain⟨P,hP⟩:=js_last J
   rw[hP]at hs ⊢
   obtain⟨p1,p2,p3⟩:=List.pairwise_append.mp hs
   intro hq
   rcases List.mem_append.mp hq with hq|hq
   ·have:=p3 _ hq _ List.mem_cons_self
    unfold lt2 at this;dsimp only at this;omega
   ·have:=congrArg Prod.fst (List.mem_singleton.mp hq)
    dsimp only at this;omega
theorem okm_of{o:Option L}(h:nM o):okM o=true:=okM_n h
theorem is_next_eq(s:Sx)(c:Cl):m_is_next [.d (es s),.d (ec c)]=some (.bool (decide (c=(s.x+s.m,s.y))),[.d (es s),.d (ec c)]):=by
 have e:fEq (ec c) (.tuple [.int (s.x+s.m),.int s.y])=some (.bool (decide (c=(s.x+s.m,s.y)))):=encC.fEq c (s.x+s.m,s.y)
 unfold m_is_next
 refine fun_rt (τ:=[some (.d (es s)),some (.d (ec c))]) (ret_rt ?_) rfl rfl
 show((fEq (ec c) (.tuple [.int (s.x+s.m),.int s.y])).map fun d=>(d,_))=_
 rw[e];rfl
theorem at_last(l:List Sx)(s:Sx):atI ((l++[s]).map es) (-1)=some (es s):=by
 unfold atI ixN
 rw[if_neg (by decide),List.length_map,List.length_append,if_pos (by simp;omega)]
 have:(-1+((l.length+[s].length:Nat):Int)).toNat=l.length:=by simp;omega
 rw[this]
 simp
theorem ix_last(n:Nat):ixN (n+1) (-1)=some n:=by
 unfold ixN
 rw[if_neg (by decide),if_pos (by omega)]
 congr 1
 omega
def strBody:DB:=dIfS (dTBor 1 (dTAnd (dTest (dOp fGt (dApp fLen (dACons (dVar 1) dANil)) (dC (.int 0)))) (dTest (dCall m_is_next (dACons (dOp fIxL (dVar 1) (dUn fNeg (dC (.int 1)))) (dACons (dVar 2) dANil)))))) (dSeq (dAsg (dBor 1 (dOp fIxL (dVar 1) (dUn fNeg (dC (.int 1))))) (dN 3)) (dSetI 1 (dTup (dACons (dOp fIxT (dVar 3) (dC (.int 0))) (dACons (dOp fIxT (dVar 3) (dC (.int 1))) (dACons (dOp fAdd (dOp fIxT (dVar 3) (dC (.int 2))) (dC (.int 1))) dANil)))) (dUn fNeg (dC (.int 1))))) (dExpr (dMt 1 gAppend (dACons (dTup (dACons (dOp fIxT (dVar 2) (dC (.int 0))) (dACons (dOp fIxT (dVar 2) (dC (.int 1))) (dACons (dC (.int 1)) dANil)))) dANil)))
theorem str_body{D:PyData}{acc:List Sx}{c:Cl}{o3:Option L}(n3:nM o3)(hl:acc.length<800) :
  ∃o3',nM o3'/\strBody [some (.d D),some (.m (acc.map es)),some (.d (ec c)),o3]=some (.nx [some (.d D),some (.m ((stS acc c).map es)),some (.d (ec c)),o3']):=by
 let st:List Sx->Option L->DS:=fun a o=>[some (.d D),some (.m (a.map es)),some (.d (ec c)),o]
 have ok3:=okm_of n3
 have app:∀o,dExpr (dMt 1 gAppend (dACons (dTup (dACons (dOp fIxT (dVar 2) (dC (.int 0))) (dACons (dOp fIxT (dVar 2) (dC (.int 1))) (dACons (dC (.int 1)) dANil)))) dANil)) (st acc o)=some (.nx (st (acc++[⟨c.1,c.2,1⟩]) o)):=fun o=>by
  refine(apnd (d:=es ⟨c.1,c.2,1⟩) (xs:=acc.map es) (τ1:=st acc o) rfl rfl rfl (by rw[List.length_map];omega)).trans ?_
  show some (Out.nx [_,some (.m (acc.map es++[es ⟨c.1,c.2,1⟩])),_,_])=_
  show _=some (Out.nx [_,some (.m ((acc++[(⟨c.1,c.2,1⟩:Sx)]).map es)),_,_])
  rw[List.map_append];rfl
 have tst:∀(q:Bool),dTAnd (dTest (dOp fGt (dApp fLen (dACons (dVar 1) dANil)) (dC (.int 0)))) (dTest (dCall m_is_next (dACons (dOp fIxL (dVar 1) (dUn fNeg (dC (.int 1)))) (dACons (dVar 2) dANil)))) [some (.d D),some (.d (.list (acc.map es))),some (.d (ec c)),o3]=some (q,[some (.d D),some (.d (.list (acc.map es))),some (.d (ec c)),o3]) ->
   dTBor 1 (dTAnd (dTest (dOp fGt (dApp fLen (dACons (dVar 1) dANil)) (dC (.int 0)))) (dTest (dCall m_is_next (dACons (dOp fIxL (dVar 1) (dUn fNeg (dC (.int 1)))) (dACons (dVar 2) dANil))))) (st acc o3)=some (q,st acc o3):=fun q h=>by
  unfold dTBor
  show((dTAnd _ _ [some (.d D),some (.d (.list (acc.map es))),some (.d (ec c)),o3]).bind _)=_
  rw[h]
  show(if (okM _&&(okM _&&(okM _&&(okM o3&&true))))=true then _ else _)=_
  rw[ok3];rfl
 unfold strBody
 rcases List.eq_nil_or_concat acc with rfl|⟨l,s,rfl⟩
 ·exact⟨o3,n3,(ifs_f (τ1:=st [] o3) (tst false rfl)).trans (app o3)⟩
 ·rw[List.concat_eq_append]at *
  rw[st_snoc]
  have tt:dTAnd (dTest (dOp fGt (dApp fLen (dACons (dVar 1) dANil)) (dC (.int 0)))) (dTest (dCall m_is_next (dACons (dOp fIxL (dVar 1) (dUn fNeg (dC (.int 1)))) (dACons (dVar 2) dANil)))) [some (.d D),some (.d (.list ((l++[s]).map es))),some (.d (ec c)),o3]=some (decide (c=(s.x+s.m,s.y)),[some (.d D),some (.d (.list ((l++[s]).map es))),some (.d (ec c)),o3]):=by
   let τ:DS:=[some (.d D),some (.d (.list ((l++[s]).map es))),some (.d (ec c)),o3]
   have t1:dTest (dOp fGt (dApp fLen (dACons (dVar 1) dANil)) (dC (.int 0))) τ=some (true,τ):=by
    show(((fGt (.int (((l++[s]).map es).length:Int)) (.int 0)).map fun d=>(d,τ)).bind _)=_
    have:fGt (.int (((l++[s]).map es).length:Int)) (.int 0)=some (.bool true):=by
     show some (PyData.bool (decide ((0:Int)<(((l++[s]).map es).length:Int))))=_
     rw[decide_eq_true (by rw[List.length_map,List.length_append];simp only[List.length_cons];omega)]
    rw[this];rfl
   have t2:dACons (dOp fIxL (dVar 1) (dUn fNeg (dC (.int 1)))) (dACons (dVar 2) dANil) τ=some ([.d (es s),.d (ec c)],τ):=by
    show((((atI ((l++[s]).map es) (-1)).map fun d=>(d,τ)).bind fun p=>_))=_
    rw[at_last];rfl
   have t3:dTest (dCall m_is_next (dACons (dOp fIxL (dVar 1) (dUn fNeg (dC (.int 1)))) (dACons (dVar 2) dANil))) τ=some (decide (c=(s.x+s.m,s.y)),τ):=by
    unfold dTest
    rw[call_eq t2 rfl (is_next_eq s c)];rfl
   show dTAnd _ _ τ=_
   unfold dTAnd
   rw[t1]
   exact t3
  by_cases hc:c=(s.x+s.m,s.y)
  ·rw[if_pos hc]
   rw[decide_eq_true hc]at tt
   refine⟨some (.d (es s)),nM_d,(ifs_t (τ1:=st (l++[s]) o3) (tst true tt)).trans ?_⟩
   refine(seq_nx (τ1:=st (l++[s]) (some (.d (es s)))) (asg_nx (d:=es s) (τ1:=st (l++[s]) o3) ?_ (dN_eq rfl n3))).trans ?_
   ·unfold dBor
    show((((atI ((l++[s]).map es) (-1)).map fun d=>(d,[some (.d D),some (.d (.list ((l++[s]).map es))),some (.d (ec c)),o3])).bind _))=_
    rw[at_last]
    show(if (fixD (es s)&&(okM _&&(okM _&&(okM _&&(okM o3&&true)))))=true then _ else _)=_
    rw[ok3];rfl
   ·unfold dSetI
    show((ixN ((l++[s]).map es).length (-1)).map fun j=>Out.nx ((st (l++[s]) (some (.d (es s)))).set 1 (some (.m (((l++[s]).map es).set j (es ⟨s.x,s.y,s.m+1⟩))))))=_
    rw[List.length_map,List.length_append,show l.length+[s].length=l.length+1 from rfl,ix_last]
    show some (Out.nx [_,some (.m (((l++[s]).map es).set l.length (es ⟨s.x,s.y,s.m+1⟩))),_,_])=_
    have:((l++[s]).map es).set l.length (es ⟨s.x,s.y,s.m+1⟩)=(l++[(⟨s.x,s.y,s.m+1⟩:Sx)]).map es:=by
     rw[List.map_append,List.map_append,List.set_append_right _ _ (by rw[List.length_map];exact Nat.le_refl _),List.length_map,Nat.sub_self];rfl
    rw[this]
  ·rw[if_neg hc]
   rw[decide_eq_false hc]at tt
   exact⟨o3,n3,(ifs_f (τ1:=st (l++[s]) o3) (tst false tt)).trans (app o3)⟩
theorem st_len(l:List Sx)(c:Cl):(stS l c).length<=l.length+1:=by
 rcases List.eq_nil_or_concat l with rfl|⟨l,s,rfl⟩
 ·exact Nat.le_refl _
 ·rw[List.concat_eq_append,st_snoc]
  split<;>simp
theorem str_len:∀(cs:List Cl) (acc:List Sx),(cs.foldl stS acc).length<=acc.length+cs.length
 |[],acc=>Nat.le_refl _
 |c::cs,acc=>by
  have h1:=str_len cs (stS acc c)
  have h2:=st_len acc c
  rw[List.foldl_cons,List.length_cons]
  omega
theorem stretches_of_eq{cs:List Cl}(hz:cs.length<800):m_stretches_of [.d (.list (cs.map ec))]=some (.list ((strS (rbr cs)).map es),[.d (.list (cs.map ec))]):=by
 have hl:=rbr_len cs
 have key:∃τ',dLoop (dN 2) strBody ((rbr cs).map ec) [some (.d (.list (cs.map ec))),some (.m []),none,none]=some (.nx τ') /\
   ∃o2 o3,nM o2/\nM o3/\τ'=[some (.d (.list (cs.map ec))),some (.m ((strS (rbr cs)).map es)),o2,o3]:=by
  refine loop_pre (fun pre τ=>∃o2 o3,nM o2/\nM o3/\τ=[some (.d (.list (cs.map ec))),some (.m ((strS pre).map es)),o2,o3]) ⟨none,none,nM_none,nM_none,rfl⟩ ?_
  rintro pre c post τ hx ⟨o2,o3,n2,n3,rfl⟩
  have hp:=split_len hx
  have hq:=str_len pre []
  obtain⟨o3',n3',e⟩:=str_body (D:=.list (cs.map ec)) (acc:=strS pre) (c:=c) n3 (by unfold strS;simp only[List.length_nil]at hq;omega)
  refine⟨_,_,dN_eq rfl n2,e,some (.d (ec c)),o3',nM_d,n3',?_⟩
  rw[strS_snoc]
 obtain⟨τ',e,o2,o3,n2,n3,rfl⟩:=key
 unfold m_stretches_of
 refine fun_rt (τ:=[some (.d (.list (cs.map ec))),some (.m ((strS (rbr cs)).map es)),o2,o3]) ?_ rfl rfl
 refine(seq_nx (τ1:=[some (.d (.list (cs.map ec))),some (.m []),none,none]) rfl).trans ?_
 refine(seq_nx ((for_eq (ds:=(rbr cs).map ec) (τ1:=[some (.d (.list (cs.map ec))),some (.m []),none,none]) ?_).trans e)).trans rfl
 unfold dIL
 rw[call_eq (τ1:=[some (.d (.list (cs.map ec))),some (.m []),none,none]) (ds:=[.list (cs.map ec)]) rfl rfl (row_by_row_eq (by omega))]
 rfl
theorem app_eq{F:List PyData->Option PyData}{a:DA}{τ τ1:DS}{rs:List Ar}{ds:List PyData}{d:PyData}(h:a τ=some (rs,τ1))(k:allD rs=some ds)(f:F ds=some d):dApp F a τ=some (d,τ1):=by
 unfold dApp
 rw[h]
 show(allD rs).bind _=_
 rw[k]
 show(F ds).map _=_
 rw[f];rfl
theorem appd{i:Nat}{a:DA}{τ τ1:DS}{d:PyData}{xs:List PyData}(h:a τ=some ([.d d],τ1))(m:τ1[i]?=some (some (.m xs)))(hz:xs.length<900):dExpr (dMt i gAppend a) τ=some (.nx (τ1.set i (some (.m (xs++[d]))))):=by
 have hs:xs.length<sizeLine:=Nat.lt_of_lt_of_le hz (by decide)
 unfold dExpr dMt
 rw[h]
 show((match τ1[i]? with|some (some (.m xs))=>_|_=>_):Option (PyData×DS)).map _=_
 rw[m]
 show((if xs.length<sizeLine then some (PyData.none,xs++[d]) else none).map _).map _=_
 rw[if_pos hs]
 rfl
theorem tup_eq{a:DA}{τ τ1:DS}{rs:List Ar}{ds:List PyData}(h:a τ=some (rs,τ1))(k:allD rs=some ds)(hz:ds.length<=1000):dTup a τ=some (.tuple ds,τ1):=by
 unfold dTup
 rw[h]
 show(allD rs).bind _=_
 rw[k]
 show(if ds.length<=sizeLine then _ else _)=_
 rw[if_pos (sz hz)]
def okK(b:Bx)(s:Sx):Prop:=b.x=s.x/\b.w=s.m/\b.y+b.h=s.y
instance {b:Bx} {s:Sx}:Decidable (okK b s):=by unfold okK;infer_instance
def grow(b:Bx):Bx:=⟨b.x,b.y,b.w,b.h+1⟩
def nb(s:Sx):Bx:=⟨s.x,s.y,s.m,1⟩
structure BI(bl:List Bx)(s:Sx):Prop where
 p1:∀b∈bl,1<=b.h/\(b.y+b.h<=s.y\/(b.y+b.h=s.y+1/\b.x<s.x))
 p2:∀(i j:Nat) (b c:Bx),i<j->bl[i]?=some b->bl[j]?=some c->b.x=c.x->b.w=c.w->b.y+b.h<c.y
 p4:∀(i j:Nat) (b c:Bx),i<j->bl[i]?=some b->bl[j]?=some c->lt2 (b.x,b.y) (c.x,c.y)
theorem BI.one{bl:List Bx}{s:Sx}(o:BI bl s){i j:Nat}{b c:Bx}(hb:bl[i]?=some b)(hc:bl[j]?=some c)(kb:okK b s)(kc:b.x=c.x/\b.w=c.w):j<=i:=by
 rcases Nat.lt_or_ge i j with z|z
 ·exfalso
  have h1:=o.p2 i j b c z hb hc kc.1 kc.2
  obtain⟨h2,h3⟩:=o.p1 c (List.mem_of_getElem? hc)
  have hx:c.x=s.x:=by rw[<- kc.1];exact kb.1
  have:=kb.2.2
  omega
 ·exact z
theorem BI.uniq{bl:List Bx}{s:Sx}(o:BI bl s){i j:Nat}{b c:Bx}(hb:bl[i]?=some b)(hc:bl[j]?=some c)(kb:okK b s)(kc:okK c s):i=j :=
 Nat.le_antisymm (o.one hc hb kc ⟨kc.1.trans kb.1.symm,kc.2.1.trans kb.2.1.symm⟩) (o.one hb hc kb ⟨kb.1.trans kc.1.symm,kb.2.1.trans kc.2.1.symm⟩)
open Classical in
noncomputable def stB(bl:List Bx)(s:Sx):List Bx:=if h:∃k:Nat,∃b,bl[k]?=some b/\okK b s then bl.set h.choose (grow (bl.getD h.choose ⟨0,0,0,0⟩)) else bl++[nb s]
theorem stB_M{bl:List Bx}{s:Sx}(o:BI bl s){k:Nat}{b:Bx}(hb:bl[k]?=some b)(kb:okK b s):stB bl s=bl.set k (grow b):=by
 have h:∃k:Nat,∃b,bl[k]?=some b/\okK b s:=⟨k,b,hb,kb⟩
 unfold stB
 rw[dif_pos h]
 obtain⟨c,hc,kc⟩:=h.choose_spec
 have e:=o.uniq hc hb kc kb
 rw[e,List.getD_eq_getElem?_getD,hb];rfl
theorem stB_N{bl:List Bx}{s:Sx}(h:∀b∈bl,¬okK b s):stB bl s=bl++[nb s]:=by
 unfold stB
 rw[dif_neg]
 rintro⟨k,b,hb,kb⟩
 exact h b (List.mem_of_getElem? hb) kb
theorem set_at{bl:List Bx}{k i:Nat}{b c v:Bx}(hb:bl[k]?=some b)(h:(bl.set k v)[i]?=some c):(i=k/\c=v)\/(i≠k/\bl[i]?=some c):=by
 by_cases e:i=k
 ·subst e
  rw[List.getElem?_set_self (List.getElem?_eq_some_iff.mp hb).1]at h
  exact .inl ⟨rfl,(Option.some.inj h).symm⟩
 ·rw[List.getElem?_set_ne (Ne.symm e)]at h
  exact .inr ⟨e,h⟩
theorem app_at{bl:List Bx}{i:Nat}{c v:Bx}(h:(bl++[v])[i]?=some c):(i=bl.length/\c=v)\/(i<bl.length/\bl[i]?=some c):=by
 rcases Nat.lt_or_ge i bl.length with z|z
 ·rw[List.getElem?_append_left z]at h;exact .inr ⟨z,h⟩
 ·rw[List.getElem?_append_right z]at h
  cases e:i-bl.length with
  |zero=>rw[e]at h;cases h;exact .inl ⟨by omega,rfl⟩
  |succ n=>rw[e]at h;simp at h
def ltS(s t:Sx):Prop:=lt2 (s.x,s.y) (t.x,t.y)
theorem BI.later{bl:List Bx}{s:Sx}(o:BI bl s){b:Bx}(hb:b∈bl):lt2 (b.x,b.y) (s.x,s.y):=by
 obtain⟨h1,h2⟩:=o.p1 b hb
 unfold lt2
 show b.y<s.y\/(b.y=s.y/\b.x<s.x)
 omega
theorem BI.step{bl:List Bx}{s t:Sx}(o:BI bl s)(hst:ltS s t):BI (stB bl s) t:=by
 have hst:s.y<t.y\/(s.y=t.y/\s.x<t.x):=hst
 by_cases hM:∃k:Nat,∃b,bl[k]?=some b/\okK b s
 ·obtain⟨k,b,hb,kb⟩:=hM
  rw[stB_M o hb kb]
  have kb':=kb
  obtain⟨k1,k2,k3⟩:=kb
  refine⟨fun c hc=>?_,fun i j c d hij hc hd ex ew=>?_,fun i j c d hij hc hd=>?_⟩
  ·obtain⟨i,hi⟩:=List.getElem?_of_mem hc
   rcases set_at hb hi with ⟨_,rfl⟩|⟨_,hi⟩
   ·have:=(o.p1 b (List.mem_of_getElem? hb)).1
    show 1<=b.h+1/\(b.y+(b.h+1)<=t.y\/(b.y+(b.h+1)=t.y+1/\b.x<t.x))
    omega
   ·obtain⟨q1,q2⟩:=o.p1 c (List.mem_of_getElem? hi)
    omega
  ·rcases set_at hb hc with ⟨rfl,rfl⟩|⟨_,_⟩
   ·rcases set_at hb hd with ⟨rfl,rfl⟩|⟨_,hd⟩
    ·omega
    ·have:=o.one hb hd kb' ⟨ex,ew⟩
     omega
   ·rename_i hc'
    rcases set_at hb hd with ⟨rfl,rfl⟩|⟨_,hd'⟩
    ·exact o.p2 i j c b hij hc' hb ex ew
    ·exact o.p2 i j c d hij hc' hd' ex ew
  ·rcases set_at hb hc with ⟨rfl,rfl⟩|⟨_,_⟩
   ·rcases set_at hb hd with ⟨rfl,rfl⟩|⟨_,hd⟩
    ·omega
    ·exact o.p4 i j b d hij hb hd
   ·rename_i hc'
    rcases set_at hb hd with ⟨rfl,rfl⟩|⟨_,hd'⟩
    ·exact o.p4 i j c b hij hc' hb
    ·exact o.p4 i j c d hij hc' hd'
 ·have hN:∀b∈bl,¬okK b s:=fun b hb kb=>by
   obtain⟨i,hi⟩:=List.getElem?_of_mem hb
   exact hM ⟨i,b,hi,kb⟩
  rw[stB_N hN]
  refine⟨fun c hc=>?_,fun i j c d hij hc hd ex ew=>?_,fun i j c d hij hc hd=>?_⟩
  ·rcases List.mem_append.mp hc with hc|hc
   ·obtain⟨q1,q2⟩:=o.p1 c hc
    omega
   ·rw[List.mem_singleton.mp hc]
    show(1:Int)<=1/\(s.y+1<=t.y\/(s.y+1=t.y+1/\s.x<t.x))
    omega
  ·rcases app_at hc with ⟨q,rfl⟩|⟨q,hc⟩
   ·rcases app_at hd with ⟨q2,rfl⟩|⟨q2,hd⟩<;>omega
   ·rcases app_at hd with ⟨q2,rfl⟩|⟨q2,hd⟩
    ·have hm:=List.mem_of_getElem? hc
     obtain⟨z1,z2⟩:=o.p1 c hm
     have hn:=hN c hm
     have ex:c.x=s.x:=ex
     have ew:c.w=s.m:=ew
     have:¬(c.y+c.h=s.y):=fun z=>hn ⟨ex,ew,z⟩
     show c.y+c.h<s.y
     omega
    ·exact o.p2 i j c d hij hc hd ex ew
  ·rcases app_at hc with ⟨q,rfl⟩|⟨q,hc⟩
   ·rcases app_at hd with ⟨q2,rfl⟩|⟨q2,hd⟩<;>omega
   ·rcases app_at hd with ⟨q2,rfl⟩|⟨q2,hd⟩
    ·exact o.later (List.mem_of_getElem? hc)
    ·exact o.p4 i j c d hij hc hd
theorem stB_len(bl:List Bx)(s:Sx):(stB bl s).length<=bl.length+1:=by
 unfold stB
 split
 ·rw[List.length_set];omega
 ·rw[List.length_append];exact Nat.le_refl _
theorem BI.nil(s:Sx):BI [] s:=⟨fun b hb=>by simp at hb,fun i j b c _ h=>by simp at h,fun i j b c _ h=>by simp at h⟩
noncomputable def blS(ss:List Sx):List Bx:=ss.foldl stB []
theorem blS_snoc(ss:List Sx)(s:Sx):blS (ss++[s])=stB (blS ss) s:=by unfold blS;rw[List.foldl_append];rfl
theorem blS_len:∀(ss:List Sx) (bl:List Bx),(ss.foldl stB bl).length<=bl.length+ss.length
 |[],bl=>Nat.le_refl _
 |s::ss,bl=>by
  have h1:=blS_len ss (stB bl s)
  have h2:=stB_len bl s
  rw[List.foldl_cons,List.length_cons]
  omega
theorem BI.foldN:∀(n:Nat) (pre:List Sx) (s:Sx),pre.length=n->(pre++[s]).Pairwise ltS->BI (blS pre) s
 |0,pre,s,hn,_=>by
  rw[List.length_eq_zero_iff.mp hn];exact BI.nil s
 |n+1,pre,s,hn,h=>by
  rcases List.eq_nil_or_concat pre with rfl|⟨p,t,rfl⟩
  ·cases hn
  ·rw[List.concat_eq_append]at *
   rw[blS_snoc]
   obtain⟨h1,_,h3⟩:=List.pairwise_append.mp h
   exact(BI.foldN n p t (by rw[List.length_append,List.length_singleton]at hn;omega) h1).step (h3 t (by simp) s (by simp))
theorem BI.fold(pre:List Sx)(s:Sx)(h:(pre++[s]).Pairwise ltS):BI (blS pre) s:=BI.foldN pre.length pre s rfl h
theorem str_sorted:∀(l:List Sx),(∀s∈l,1<=s.m)->(flatS l).Pairwise lt2->l.Pairwise ltS
 |[],_,_=>.nil
 |s::l,hm,h=>by
  have e:flatS (s::l)=rowC s.x s.y s.m.toNat++flatS l:=by unfold flatS;rw[List.flatMap_cons]
  rw[e]at h
  obtain⟨_,h2,h3⟩:=List.pairwise_append.mp h
  have first:∀t:Sx,1<=t.m->(t.x,t.y)∈rowC t.x t.y t.m.toNat:=fun t ht=>by
   unfold rowC
   exact List.mem_map.mpr ⟨t.x,mem_rng.mpr ⟨Int.le_refl _,by omega⟩,rfl⟩
  refine List.pairwise_cons.mpr ⟨fun t ht=>?_,str_sorted l (fun t ht=>hm t (List.mem_cons_of_mem _ ht)) h2⟩
  refine h3 _ (first s (hm s (List.mem_cons_self ..))) _ ?_
  unfold flatS
  exact List.mem_flatMap.mpr ⟨t,ht,first t (hm t (List.mem_cons_of_mem _ ht))⟩
theorem getP_put(kv:List (List Int×PyData))(k k':List Int)(d:PyData):getP (putP kv k d) k'=if k=k' then some d else getP kv k':=by
 induction kv with
 |nil =>
  show(if k=k' then some d else none)=_
  split<;>rfl
 |cons t r ih =>
  unfold putP
  by_cases h:t.1=k
  ·rw[if_pos h]
   show(if t.1=k' then some d else getP r k')=_
   rw[h]
   by_cases h2:k=k'
   ·rw[if_pos h2,if_pos h2]
   ·rw[if_neg h2,if_neg h2]
    show _=if t.1=k' then some t.2 else getP r k'
    rw[h,if_neg h2]
  ·rw[if_neg h]
   show(if t.1=k' then some t.2 else getP (putP r k d) k')=if k=k' then some d else (if t.1=k' then some t.2 else getP r k')
   rw[ih]
   by_cases h2:k=k'
   ·rw[if_pos h2,if_pos h2,if_neg (by rw[<- h2];exact h)]
   ·rw[if_neg h2,if_neg h2]
structure DI(bl:List Bx)(kv:List (List Int×PyData)):Prop where
 so:∀x m d,getP kv [x,m]=some d->∃(k:Nat) (b:Bx),d = .int k/\bl[k]?=some b/\b.x=x/\b.w=m/\∀(j:Nat) (c:Bx),k<j->bl[j]?=some c->¬(c.x=x/\c.w=m)
 no:∀x m,getP kv [x,m]=none->∀b∈bl,¬(b.x=x/\b.w=m)
 fix:fixDs (kv.map (·.2))=true
 len:kv.length<=bl.length
theorem DI.nil:DI [] []:=⟨fun x m d h=>(nomatch h),fun x m _ b hb=>absurd hb (by simp),rfl,Nat.le_refl _⟩
theorem DI.set{bl:List Bx}{kv:List (List Int×PyData)}(o:DI bl kv){k:Nat}{b:Bx}(hb:bl[k]?=some b):DI (bl.set k (grow b)) kv:=by
 refine⟨fun x m d h=>?_,fun x m h c hc=>?_,o.fix,by rw[List.length_set];exact o.len⟩
 ·obtain⟨i,c,h1,h2,h3,h4,h5⟩:=o.so x m d h
  have hlt:i<bl.length:=(List.getElem?_eq_some_iff.mp h2).1
  by_cases e:i=k
  ·subst e
   rw[hb]at h2;cases h2
   refine⟨i,grow b,h1,List.getElem?_set_self hlt,h3,h4,fun j c' hj hc'=>?_⟩
   rcases set_at hb hc' with ⟨rfl,_⟩|⟨_,hc'⟩
   ·omega
   ·exact h5 j c' hj hc'
  ·refine⟨i,c,h1,by rw[List.getElem?_set_ne (Ne.symm e)];exact h2,h3,h4,fun j c' hj hc'=>?_⟩
   rcases set_at hb hc' with ⟨rfl,rfl⟩|⟨_,hc'⟩
   ·exact h5 j b hj hb
   ·exact h5 j c' hj hc'
 ·obtain⟨i,hi⟩:=List.getElem?_of_mem hc
  rcases set_at hb hi with ⟨_,rfl⟩|⟨_,hi⟩
  ·exact o.no x m h b (List.mem_of_getElem? hb)
  ·exact o.no x m h c (List.mem_of_getElem? hi)
theorem fix_put(kv:List (List Int×PyData))(k:List Int)(d:PyData)(h:fixDs (kv.map (·.2))=true)(hd:fixD d=true):fixDs ((putP kv k d).map (·.2))=true:=by
 induction kv with
 |nil=>show(fixD d&&true)=true;rw[hd];rfl
 |cons t r ih =>
  rw[List.map_cons,fixDs,Bool.and_eq_true]at h
  unfold putP
  split
  ·rw[List.map_cons,fixDs,h.2,hd];rfl
  ·rw[List.map_cons,fixDs,h.1,ih h.2];rfl
theorem DI.app{bl:List Bx}{kv:List (List Int×PyData)}(o:DI bl kv)(s:Sx):DI (bl++[nb s]) (putP kv [s.x,s.m] (.int (bl.length:Int))):=by
 refine⟨fun x m d h=>?_,fun x m h c hc=>?_,fix_put _ _ _ o.fix rfl,?_⟩
 ·rw[getP_put]at h
  by_cases e:[s.x,s.m]=[x,m]
  ·rw[if_pos e]at h
   cases h
   have e1:s.x=x:=by injection e
   have e2:s.m=m:=by injection e with _ e;injection e
   refine⟨bl.length,nb s,rfl,by simp,e1,e2,fun j c hj hc=>?_⟩
   rcases app_at hc with ⟨q,_⟩|⟨q,_⟩<;>omega
  ·rw[if_neg e]at h
   obtain⟨i,c,h1,h2,h3,h4,h5⟩:=o.so x m d h
   have hlt:i<bl.length:=(List.getElem?_eq_some_iff.mp h2).1
   refine⟨i,c,h1,by rw[List.getElem?_append_left hlt];exact h2,h3,h4,fun j c' hj hc'=>?_⟩
   rcases app_at hc' with ⟨_,rfl⟩|⟨_,hc'⟩
   ·rintro⟨z1,z2⟩
    have z1:s.x=x:=z1
    have z2:s.m=m:=z2
    exact e (by rw[z1,z2])
   ·exact h5 j c' hj hc'
 ·rw[getP_put]at h
  by_cases e:[s.x,s.m]=[x,m]
  ·rw[if_pos e]at h;cases h
  ·rw[if_neg e]at h
   rcases List.mem_append.mp hc with hc|hc
   ·exact o.no x m h c hc
   ·rw[List.mem_singleton.mp hc]
    rintro⟨z1,z2⟩
    have z1:s.x=x:=z1
    have z2:s.m=m:=z2
    exact e (by rw[z1,z2])
 ·rw[List.length_append,List.length_singleton]
  exact Nat.le_trans (putP_len kv _ _) (by have:=o.len;omega)
theorem ixN_in{n:Nat}{i:Int}(h0:0<=i)(h1:i<n):ixN n i=some i.toNat:=by unfold ixN;rw[if_pos h0,if_pos h1]
theorem borD{i:Nat}{f:DX}{τ:DS}{m:List (List Int×PyData)}{d:PyData}(hi:τ[i]?=some (some (.k m)))(hf:f (τ.set i (some (.d (.dict (dctP m)))))=some (d,τ.set i (some (.d (.dict (dctP m))))))(hd:fixD d=true)(hok:(τ.set i (some (.d (.dict (dctP m))))).all okM=true):dBor i f τ=some (d,τ):=by
 unfold dBor
 rw[hi]
 dsimp only
 rw[hf]
 dsimp only[Option.bind]
 rw[hd,hok,Bool.and_self,if_pos rfl,List.set_set]
 congr 2
 obtain⟨hlt,he⟩:=List.getElem?_eq_some_iff.mp hi
 rw[<- he,List.set_getElem_self]
theorem borL{i:Nat}{f:DX}{τ:DS}{xs:List PyData}{d:PyData}(hi:τ[i]?=some (some (.m xs)))(hf:f (τ.set i (some (.d (.list xs))))=some (d,τ.set i (some (.d (.list xs)))))(hd:fixD d=true)(hok:(τ.set i (some (.d (.list xs)))).all okM=true):dBor i f τ=some (d,τ):=by
 unfold dBor
 rw[hi]
 dsimp only
 rw[hf]
 dsimp only[Option.bind]
 rw[hd,hok,Bool.and_self,if_pos rfl,List.set_set]
 congr 2
 obtain⟨hlt,he⟩:=List.getElem?_eq_some_iff.mp hi
 rw[<- he,List.set_getElem_self]
theorem tborL{i:Nat}{f:DT}{τ:DS}{xs:List PyData}{b:Bool}(hi:τ[i]?=some (some (.m xs)))(hf:f (τ.set i (some (.d (.list xs))))=some (b,τ.set i (some (.d (.list xs)))))(hok:(τ.set i (some (.d (.list xs)))).all okM=true):dTBor i f τ=some (b,τ):=by
 unfold dTBor
 rw[hi]
 dsimp only
 rw[hf]
 dsimp only[Option.bind]
 rw[if_pos hok,List.set_set]
 congr 2
 obtain⟨hlt,he⟩:=List.getElem?_eq_some_iff.mp hi
 rw[<- he,List.set_getElem_self]
theorem putK_nx{i:Nat}{e k:DX}{τ τ1 τ2:DS}{d:PyData}{ks:List PyData}{c:List Int}{m:List (List Int×PyData)}(he:e τ=some (d,τ1))(hk:k τ1=some (.tuple ks,τ2))(hm:τ2[i]?=some (some (.k m)))(hc:tkP.tkI ks=some c)(hz:m.length<sizeLine):dPutK i e k τ=some (.nx (τ2.set i (some (.k (putP m c d))))):=by
 unfold dPutK
 rw[he,Option.bind_some]
 dsimp only
 rw[hk,Option.bind_some]
 dsimp only
 rw[hm]
 dsimp only
 rw[hc,Option.bind_some,if_pos hz]
theorem setI_nx{i j:Nat}{e k:DX}{τ τ1 τ2:DS}{d:PyData}{n:Int}{xs:List PyData}(he:e τ=some (d,τ1))(hk:k τ1=some (.int n,τ2))(hm:τ2[i]?=some (some (.m xs)))(hj:ixN xs.length n=some j):dSetI i e k τ=some (.nx (τ2.set i (some (.m (xs.set j d))))):=by
 unfold dSetI
 rw[he,Option.bind_some]
 dsimp only
 rw[hk,Option.bind_some]
 dsimp only
 rw[hm]
 dsimp only
 rw[hj,Option.map_some]
theorem tandF{a b:DT}{τ τ1:DS}(h:a τ=some (false,τ1)):dTAnd a b τ=some (false,τ1):=by
 unfold dTAnd
 rw[h];rfl
theorem at_eb{bl:List Bx}{e:Bx->PyData}{k:Nat}{b:Bx}(h:bl[k]?=some b):fIxL (.list (bl.map e)) (.int (k:Int))=some (e b):=by
 obtain⟨hlt,_⟩:=List.getElem?_eq_some_iff.mp h
 show atI (bl.map e) (k:Int)=_
 unfold atI
 rw[List.length_map,ixN_in (by omega) (by omega),Int.toNat_natCast]
 show(bl.map e)[k]?=_
 rw[List.getElem?_map,h];rfl
def blkBody:DB:=dSeq (dAsg (dBor 2 (dOp fGetD (dVar 2) (dTup (dACons (dVar 3) (dACons (dVar 5) dANil))))) (dN 6)) (dIfS (dTBor 1 (dTAnd (dTest (dOp fNotN (dVar 6) (dC .none))) (dTest (dOp fEq (dOp fAdd (dOp fIxT (dOp fIxL (dVar 1) (dVar 6)) (dC (.int 1))) (dOp fIxT (dOp fIxL (dVar 1) (dVar 6)) (dC (.int 3)))) (dVar 4))))) (dSeq (dAsg (dBor 1 (dOp fIxL (dVar 1) (dVar 6))) (dN 7)) (dSetI 1 (dTup (dACons (dVar 3) (dACons (dOp fIxT (dVar 7) (dC (.int 1))) (dACons (dVar 5) (dACons (dOp fAdd (dOp fIxT (dVar 7) (dC (.int 3))) (dC (.int 1))) dANil))))) (dVar 6))) (dSeq (dPutK 2 (dBor 1 (dApp fLen (dACons (dVar 1) dANil))) (dTup (dACons (dVar 3) (dACons (dVar 5) dANil)))) (dExpr (dMt 1 gAppend (dACons (dTup (dACons (dVar 3) (dACons (dVar 4) (dACons (dVar 5) (dACons (dC (.int 1)) dANil))))) dANil)))))
theorem blk_step{C:PyData}{bl:List Bx}{kv:List (List Int×PyData)}{s:Sx}{P Bk:Option L}(o:BI bl s)(od:DI bl kv)(hl:bl.length<300)(nP:nM P)(nB:nM Bk) :
  ∃kv' P' B',nM P'/\nM B'/\DI (stB bl s) kv'/\blkBody [some (.d C),some (.m (bl.map eb)),some (.k kv),some (.d (.int s.x)),some (.d (.int s.y)),some (.d (.int s.m)),P,Bk]=some (.nx [some (.d C),some (.m ((stB bl s).map eb)),some (.k kv'),some (.d (.int s.x)),some (.d (.int s.y)),some (.d (.int s.m)),P',B']):=by
 let I:=fun(i:Int)=>some (L.d (.int i))
 let st:=fun(bl:List Bx) (kv:List (List Int×PyData)) (P B:Option L)=>[some (L.d C),some (.m (bl.map eb)),some (.k kv),I s.x,I s.y,I s.m,P,B]
 have ok1:∀(P B:Option L),nM P->nM B->((st bl kv P B).set 2 (some (.d (.dict (dctP kv))))).all okM=true:=fun P B hP hB=>by
  show(_&&(okM (some (.m (bl.map eb)))&&(_&&(_&&(_&&(_&&(okM P&&(okM B&&true))))))))=true
  rw[show okM (some (.m (bl.map eb)))=true from encB.fixL bl,okM_n hP,okM_n hB];rfl
 have ok2:∀(P B:Option L),nM P->nM B->((st bl kv P B).set 1 (some (.d (.list (bl.map eb))))).all okM=true:=fun P B hP hB=>by
  show(_&&(_&&(okM (some (.k kv))&&(_&&(_&&(_&&(okM P&&(okM B&&true))))))))=true
  rw[show okM (some (.k kv))=true from od.fix,okM_n hP,okM_n hB];rfl
 have key:∀τ:DS,τ[3]?=some (I s.x)->τ[5]?=some (I s.m)->dTup (dACons (dVar 3) (dACons (dVar 5) dANil)) τ=some (.tuple [.int s.x,.int s.m],τ):=fun τ h3 h5=>by
  refine tup_eq (rs:=[.d (.int s.x),.d (.int s.m)]) (acc (d:=.int s.x) (τ1:=τ) ?_ (ac1 (d:=.int s.m) ?_)) rfl (by show 2<=1000;decide)
  ·unfold dVar;rw[h3]
  ·unfold dVar;rw[h5]
 let pd:PyData:=(getP kv [s.x,s.m]).getD .none
 have hpd:fixD pd=true:=by
  show fixD ((getP kv [s.x,s.m]).getD .none)=true
  cases q:getP kv [s.x,s.m] with
  |none=>rfl
  |some d=>obtain⟨k,b,rfl,_⟩:=od.so _ _ d q;rfl
 have g1:dAsg (dBor 2 (dOp fGetD (dVar 2) (dTup (dACons (dVar 3) (dACons (dVar 5) dANil))))) (dN 6) (st bl kv P Bk)=some (.nx (st bl kv (some (.d pd)) Bk)):=by
  refine asg_nx (borD (m:=kv) rfl ?_ hpd (ok1 P Bk nP nB)) (dN_eq (o:=P) rfl nP)
  refine op2 (x:=.dict (dctP kv)) rfl (key _ rfl rfl) ?_
  show(tkP (dctP kv)).bind _=_
  rw[tkP_dct];rfl
 let τ1:=st bl kv (some (.d pd)) Bk
 -- a new block
 have new:(∀b∈bl,¬okK b s)->dTBor 1 (dTAnd (dTest (dOp fNotN (dVar 6) (dC .none))) (dTest (dOp fEq (dOp fAdd (dOp fIxT (dOp fIxL (dVar 1) (dVar 6)) (dC (.int 1))) (dOp fIxT (dOp fIxL (dVar 1) (dVar 6)) (dC (.int 3)))) (dVar 4)))) τ1=some (false,τ1) ->
   ∃kv' P' B',nM P'/\nM B'/\DI (stB bl s) kv'/\blkBody (st bl kv P Bk)=some (.nx (st (stB bl s) kv' P' B')):=fun hN ht=>by
  rw[stB_N hN]
  let kv':=putP kv [s.x,s.m] (.int (bl.length:Int))
  refine⟨kv',some (.d pd),Bk,nM_d,nB,od.app s,?_⟩
  have hz:kv.length<sizeLine:=Nat.lt_of_le_of_lt od.len (Nat.lt_trans hl (by decide))
  have ln:dBor 1 (dApp fLen (dACons (dVar 1) dANil)) τ1=some (.int (bl.length:Int),τ1):=by
   refine borL (xs:=bl.map eb) rfl (app_eq (rs:=[.d (.list (bl.map eb))]) (ds:=[.list (bl.map eb)]) rfl rfl ?_) rfl (ok2 _ _ nM_d nB)
   show some (PyData.int ((bl.map eb).length:Nat))=_
   rw[List.length_map]
  have pk:dPutK 2 (dBor 1 (dApp fLen (dACons (dVar 1) dANil))) (dTup (dACons (dVar 3) (dACons (dVar 5) dANil))) τ1=some (.nx (st bl kv' (some (.d pd)) Bk)):=by
   exact putK_nx (m:=kv) ln (key τ1 rfl rfl) rfl rfl hz
  have ap:=appd (i:=1) (a:=dACons (dTup (dACons (dVar 3) (dACons (dVar 4) (dACons (dVar 5) (dACons (dC (.int 1)) dANil))))) dANil) (τ:=st bl kv' (some (.d pd)) Bk) (τ1:=st bl kv' (some (.d pd)) Bk) (d:=eb (nb s)) (xs:=bl.map eb) rfl rfl (by rw[List.length_map];omega)
  unfold blkBody
  refine(seq_nx g1).trans ((ifs_f ht).trans ((seq_nx pk).trans (ap.trans ?_)))
  show some (Out.nx [some (L.d C),some (.m (bl.map eb++[eb (nb s)])),some (.k kv'),I s.x,I s.y,I s.m,some (.d pd),Bk])=some (Out.nx [some (L.d C),some (.m ((bl++[nb s]).map eb)),some (.k kv'),I s.x,I s.y,I s.m,some (.d pd),Bk])
  rw[List.map_append];rfl
 cases q:getP kv [s.x,s.m] with
 |none =>
  have epd:pd = .none:=by show(getP kv [s.x,s.m]).getD .none=_;rw[q];rfl
  refine new (fun b hb kb=>od.no s.x s.m q b hb ⟨kb.1,kb.2.1⟩) ?_
  refine tborL (xs:=bl.map eb) rfl (tandF (tst (op2 (x:=pd) (y:=.none) (r:=.bool false) rfl rfl ?_))) (ok2 _ _ nM_d nB)
  rw[epd];rfl
 |some d =>
  obtain⟨k,b,rfl,hb,bx,bw,hmax⟩:=od.so _ _ d q
  have epd:pd = .int k:=by show(getP kv [s.x,s.m]).getD .none=_;rw[q];rfl
  let τf:DS:=[some (L.d C),some (.d (.list (bl.map eb))),some (.k kv),I s.x,I s.y,I s.m,some (.d pd),Bk]
  have e1:dOp fIxL (dVar 1) (dVar 6) τf=some (eb b,τf):=op2 (x:=.list (bl.map eb)) (y:=pd) rfl rfl (by rw[epd];exact at_eb hb)
  have t1:dTest (dOp fNotN (dVar 6) (dC .none)) τf=some (true,τf):=tst (op2 (x:=pd) (y:=.none) rfl rfl (by rw[epd];rfl))
  have t2:dTest (dOp fEq (dOp fAdd (dOp fIxT (dOp fIxL (dVar 1) (dVar 6)) (dC (.int 1))) (dOp fIxT (dOp fIxL (dVar 1) (dVar 6)) (dC (.int 3)))) (dVar 4)) τf=some (decide (b.y+b.h=s.y),τf) :=
   tst (op2 (op2 (x:=.int b.y) (y:=.int b.h) (op2 e1 rfl rfl) (op2 e1 rfl rfl) rfl) (y:=.int s.y) rfl (encI.fEq _ _))
  have t3:dTBor 1 (dTAnd (dTest (dOp fNotN (dVar 6) (dC .none))) (dTest (dOp fEq (dOp fAdd (dOp fIxT (dOp fIxL (dVar 1) (dVar 6)) (dC (.int 1))) (dOp fIxT (dOp fIxL (dVar 1) (dVar 6)) (dC (.int 3)))) (dVar 4)))) τ1=some (decide (b.y+b.h=s.y),τ1):=by
   have:=tand t1 t2
   rw[Bool.true_and]at this
   exact tborL (xs:=bl.map eb) rfl this (ok2 _ _ nM_d nB)
  by_cases he:b.y+b.h=s.y
  ·rw[decide_eq_true he]at t3
   have kb:okK b s:=⟨bx,bw,he⟩
   rw[stB_M o hb kb]
   refine⟨kv,some (.d pd),some (.d (eb b)),nM_d,nM_d,od.set hb,?_⟩
   have a1:dAsg (dBor 1 (dOp fIxL (dVar 1) (dVar 6))) (dN 7) τ1=some (.nx (st bl kv (some (.d pd)) (some (.d (eb b))))):=asg_nx (borL (xs:=bl.map eb) rfl e1 (encB.fix b) (ok2 _ _ nM_d nB)) (dN_eq (o:=Bk) rfl nB)
   have hk:ixN (bl.map eb).length (k:Int)=some k:=by
    obtain⟨hlt,_⟩:=List.getElem?_eq_some_iff.mp hb
    rw[List.length_map,ixN_in (by omega) (by omega),Int.toNat_natCast]
   unfold blkBody
   refine(seq_nx g1).trans ((ifs_t t3).trans ((seq_nx a1).trans ?_))
   let τ2:=st bl kv (some (.d pd)) (some (.d (eb b)))
   have tu:dTup (dACons (dVar 3) (dACons (dOp fIxT (dVar 7) (dC (.int 1))) (dACons (dVar 5) (dACons (dOp fAdd (dOp fIxT (dVar 7) (dC (.int 3))) (dC (.int 1))) dANil)))) τ2=some (eb (grow b),τ2):=by
    have z:some (PyData.tuple [.int s.x,.int b.y,.int s.m,.int (b.h+1)],τ2)=some (eb (grow b),τ2):=by
     show _=some (PyData.tuple [.int b.x,.int b.y,.int b.w,.int (b.h+1)],τ2)
     rw[bx,bw]
    exact z▸rfl
   refine(setI_nx (n:=(k:Int)) (xs:=bl.map eb) tu (show dVar 6 τ2=some (.int k,τ2) by show some (pd,τ2)=_;rw[epd]) rfl hk).trans ?_
   show some (Out.nx [some (L.d C),some (.m ((bl.map eb).set k (eb (grow b)))),some (.k kv),I s.x,I s.y,I s.m,some (.d pd),some (.d (eb b))])=some (Out.nx [some (L.d C),some (.m ((bl.set k (grow b)).map eb)),some (.k kv),I s.x,I s.y,I s.m,some (.d pd),some (.d (eb b))])
   rw[List.map_set]
  ·rw[decide_eq_false he]at t3
   refine new (fun c hc kc=>?_) t3
   obtain⟨j,hj⟩:=List.getElem?_of_mem hc
   have h1:=o.one hj hb kc ⟨kc.1.trans bx.symm,kc.2.1.trans bw.symm⟩
   rcases Nat.lt_or_ge k j with z|z
   ·exact hmax j c z hj ⟨kc.1,kc.2.1⟩
   ·have:j=k:=Nat.le_antisymm z h1
    subst this
    rw[hb]at hj;cases hj
    exact he kc.2.2
theorem blocks_eq{cs:List Cl}{ss:List Sx}(hz:cs.length<200)(hs:strS (rbr cs)=ss)(hp:ss.Pairwise ltS)(hl:ss.length<200):∃ls,m_blocks_of [.d (.list (cs.map ec))]=some (.list ((blS ss).map eb),ls):=by
 let C:PyData:=.list (cs.map ec)
 let st:=fun(bl:List Bx) (kv:List (List Int×PyData)) (x y m P B:Option L)=>[some (L.d C),some (.m (bl.map eb)),some (.k kv),x,y,m,P,B]
 have lp:∃τ',dLoop (dGT (dGCons (dN 3) (dGCons (dN 4) (dGCons (dN 5) dGNil)))) blkBody (ss.map es) (st [] [] none none none none none)=some (.nx τ')/\∃kv x y m P B,nM x/\nM y/\nM m/\nM P/\nM B/\DI (blS ss) kv/\τ'=st (blS ss) kv x y m P B:=by
  refine loop_pre (fun(pre:List Sx) τ=>∃kv x y m P B,nM x/\nM y/\nM m/\nM P/\nM B/\DI (blS pre) kv/\τ=st (blS pre) kv x y m P B) ⟨[],none,none,none,none,none,nM_none,nM_none,nM_none,nM_none,nM_none,DI.nil,rfl⟩ ?_
  rintro pre s post τ hp' ⟨kv,x,y,m,P,B,nx,ny,nm,nP,nB,od,rfl⟩
  have hpl:=split_len hp'
  have hps:(pre++[s]).Pairwise ltS:=by
   rw[hp',show pre++s::post=(pre++[s])++post by simp]at hp
   exact(List.pairwise_append.mp hp).1
  have hbl:=blS_len pre []
  have hbl':(blS pre).length<=pre.length:=by simpa[blS] using hbl
  obtain⟨kv',P',B',nP',nB',od',e⟩:=blk_step (C:=C) (BI.fold pre s hps) od (by omega) nP nB
  refine⟨st (blS pre) kv (some (.d (.int s.x))) (some (.d (.int s.y))) (some (.d (.int s.m))) P B,_,?_,e,kv',_,_,_,P',B',nM_d,nM_d,nM_d,nP',nB',by rw[blS_snoc];exact od',by rw[blS_snoc]⟩
  show(dN 3 (.int s.x) (st (blS pre) kv x y m P B)).bind _=_
  rw[dN_eq (o:=x) rfl nx]
  show(dN 4 (.int s.y) (st (blS pre) kv (some (.d (.int s.x))) y m P B)).bind _=_
  rw[dN_eq (o:=y) rfl ny]
  show(dN 5 (.int s.m) (st (blS pre) kv (some (.d (.int s.x))) (some (.d (.int s.y))) m P B)).bind _=_
  rw[dN_eq (o:=m) rfl nm];rfl
 obtain⟨τ',el,kv,x,y,m,P,B,_,_,_,_,_,_,rfl⟩:=lp
 refine⟨[.d C],?_⟩
 unfold m_blocks_of
 refine fun_rt (τ:=st (blS ss) kv x y m P B) ?_ rfl rfl
 refine(seq_nx (τ1:=[some (.d C),some (.m []),none,none,none,none,none,none]) rfl).trans ((seq_nx (τ1:=st [] [] none none none none none) rfl).trans ?_)
 refine(seq_nx ((for_eq (ds:=ss.map es) (τ1:=st [] [] none none none none none) ?_).trans el)).trans rfl
 have e:=stretches_of_eq (cs:=cs) (by omega)
 rw[hs]at e
 unfold dIL
 rw[call_eq (τ1:=st [] [] none none none none none) (rs:=[.d C]) (ds:=[C]) rfl rfl e];rfl
def rowsB(b:Bx):List Sx:=(rng 0 b.h.toNat).map fun j=>⟨b.x,b.y+j,b.w⟩
def rowsL(bl:List Bx):List Sx:=bl.flatMap rowsB
theorem rowsB_grow{b:Bx}(h:0<=b.h):rowsB (grow b)=rowsB b++[⟨b.x,b.y+b.h,b.w⟩]:=by
 unfold rowsB rng grow
 dsimp only
 rw[show(b.h+1).toNat=b.h.toNat+1 by omega,List.range_succ]
 simp
 omega
theorem rowsB_nb(s:Sx):rowsB (nb s)=[s]:=by
 unfold rowsB rng nb
 dsimp only
 rw[show(1:Int).toNat=1 from rfl]
 simp
theorem rowsL_cons(b:Bx)(bl:List Bx):rowsL (b::bl)=rowsB b++rowsL bl:=by unfold rowsL;rw[List.flatMap_cons]
theorem rows_set{c:Bx}{s:Sx}:∀{bl:List Bx} {k:Nat} {b:Bx},bl[k]?=some b->rowsB c=rowsB b++[s]->(rowsL (bl.set k c)).Perm (rowsL bl++[s])
 |[],_,_,h,_=>by simp at h
 |x::bl,0,b,h,hc=>by
  have e:x=b:=by simpa using h
  subst e
  rw[List.set_cons_zero,rowsL_cons,rowsL_cons,hc,List.append_assoc,List.append_assoc]
  exact List.Perm.append_left _ List.perm_append_comm
 |x::bl,k+1,b,h,hc=>by
  rw[List.set_cons_succ,rowsL_cons,rowsL_cons,List.append_assoc]
  exact List.Perm.append_left _ (rows_set (by simpa using h) hc)
theorem rows_stB{bl:List Bx}{s:Sx}(o:BI bl s):(rowsL (stB bl s)).Perm (rowsL bl++[s]):=by
 by_cases hM:∃k:Nat,∃b,bl[k]?=some b/\okK b s
 ·obtain⟨k,b,hb,kb⟩:=hM
  rw[stB_M o hb kb]
  refine rows_set hb ?_
  rw[rowsB_grow (by have:=(o.p1 b (List.mem_of_getElem? hb)).1;omega)]
  obtain⟨k1,k2,k3⟩:=kb
  rw[k1,k2,k3]
 ·have hN:∀b∈bl,¬okK b s:=fun b hb kb=>by
   obtain⟨i,hi⟩:=List.getElem?_of_mem hb
   exact hM ⟨i,b,hi,kb⟩
  rw[stB_N hN]
  unfold rowsL
  rw[List.flatMap_append,List.flatMap_cons,List.flatMap_nil,rowsB_nb,List.append_nil]
theorem rows_blS:∀(n:Nat) (ss:List Sx),ss.length=n->ss.Pairwise ltS->(rowsL (blS ss)).Perm ss
 |0,ss,hn,_=>by rw[List.length_eq_zero_iff.mp hn];exact .refl _
 |n+1,ss,hn,h=>by
  rcases List.eq_nil_or_concat ss with rfl|⟨p,t,rfl⟩
  ·cases hn
  ·rw[List.concat_eq_append]at *
   rw[blS_snoc]
   refine(rows_stB (BI.fold p t h)).trans ((rows_blS n p ?_ (List.pairwise_append.mp h).1).append_right _)
   rw[List.length_append,List.length_singleton]at hn
   omega
theorem far:∀(ss:List Sx),∃Y:Int,∀s∈ss,s.y<Y
 |[]=>⟨0,fun s h=>by simp at h⟩
 |s::ss=>by
  obtain⟨Y,h⟩:=far ss
  refine⟨max Y (s.y+1),fun t ht=>?_⟩
  rcases List.mem_cons.mp ht with rfl|ht
  ·omega
  ·have:=h t ht;omega
theorem BI.last{ss:List Sx}(h:ss.Pairwise ltS):∃s,BI (blS ss) s:=by
 obtain⟨Y,hY⟩:=far ss
 refine⟨⟨0,Y,1⟩,BI.fold ss _ ?_⟩
 refine List.pairwise_append.mpr ⟨h,List.pairwise_singleton _ _,fun s hs t ht=>?_⟩
 rw[List.mem_singleton.mp ht]
 exact .inl (hY s hs)
theorem mem_rowsB{b:Bx}{s:Sx}:s∈rowsB b↔s.x=b.x/\s.m=b.w/\b.y<=s.y/\s.y<b.y+b.h:=by
 unfold rowsB
 rw[List.mem_map]
 constructor
 ·rintro⟨j,hj,rfl⟩
  have:=mem_rng.mp hj
  dsimp only
  omega
 ·rintro⟨h1,h2,h3,h4⟩
  refine⟨s.y-b.y,mem_rng.mpr (by omega),?_⟩
  obtain⟨x,y,m⟩:=s
  dsimp only at *
  rw[h1,h2,show b.y+(y-b.y)=y by omega]
theorem blk_told{ss:List Sx}(h:ss.Pairwise ltS){b:Bx}(hb:b∈blS ss):1<=b.h/\(∀j,0<=j->j<b.h->(⟨b.x,b.y+j,b.w⟩:Sx)∈ss)/\(⟨b.x,b.y-1,b.w⟩:Sx)∉ss/\(⟨b.x,b.y+b.h,b.w⟩:Sx)∉ss:=by
 obtain⟨s0,o⟩:=BI.last h
 have pm:=rows_blS _ ss rfl h
 have h1:=(o.p1 b hb).1
 have at_:∀t:Sx,t∈ss->∃c∈blS ss,t.x=c.x/\t.m=c.w/\c.y<=t.y/\t.y<c.y+c.h:=fun t ht=>by
  obtain⟨c,hc,hm⟩:=List.mem_flatMap.mp (show t∈(blS ss).flatMap rowsB from pm.mem_iff.mpr ht)
  exact⟨c,hc,mem_rowsB.mp hm⟩
 have no:∀c∈blS ss,c.x=b.x->c.w=b.w->c=b\/c.y+c.h<b.y\/b.y+b.h<c.y:=fun c hc ex ew=>by
  obtain⟨i,hi⟩:=List.getElem?_of_mem hc
  obtain⟨j,hj⟩:=List.getElem?_of_mem hb
  rcases Nat.lt_trichotomy i j with z|z|z
  ·exact .inr (.inl (o.p2 i j c b z hi hj ex ew))
  ·subst z
   rw[hi]at hj
   exact .inl (Option.some.inj hj)
  ·exact .inr (.inr (o.p2 j i b c z hj hi ex.symm ew.symm))
 refine⟨h1,fun j h0 hj=>pm.mem_iff.mp (List.mem_flatMap.mpr ⟨b,hb,mem_rowsB.mpr ⟨rfl,rfl,by dsimp only;omega,by dsimp only;omega⟩⟩),fun z=>?_,fun z=>?_⟩
 ·obtain⟨c,hc,e1,e2,e3,e4⟩:=at_ _ z
  dsimp only at e1 e2 e3 e4
  rcases no c hc e1.symm e2.symm with rfl|q|q
  ·omega
  ·omega
  ·omega
 ·obtain⟨c,hc,e1,e2,e3,e4⟩:=at_ _ z
  dsimp only at e1 e2 e3 e4
  rcases no c hc e1.symm e2.symm with rfl|q|q
  ·omega
  ·omega
  ·omega
def isSb(cs:List Cl)(x y m:Int):Bool:=!decide ((x-1,y)∈cs)&&(!decide ((x+m,y)∈cs)&&(rng 0 m.toNat).all fun k=>decide ((x+k,y)∈cs))
theorem isS_iff{cs:List Cl}{x y m:Int}(hm:1<=m):isSb cs x y m=true↔(⟨x,y,m⟩:Sx)∈strS (rbr cs):=by
 obtain⟨fl,all⟩:=str_told (rbr_sorted cs)
 have mem:∀p:Cl,p∈cs↔∃s∈strS (rbr cs),s.x<=p.1/\p.1<s.x+s.m/\p.2=s.y:=fun p=>by
  have e:p∈rbr cs↔p∈flatS (strS (rbr cs)):=by rw[fl]
  rw[<- mem_rbr,e]
  unfold flatS
  rw[List.mem_flatMap]
  exact⟨fun⟨s,h1,h2⟩=>⟨s,h1,mem_row.mp h2⟩,fun⟨s,h1,h2⟩=>⟨s,h1,mem_row.mpr h2⟩⟩
 unfold isSb
 simp only[Bool.and_eq_true,Bool.not_eq_true',decide_eq_false_iff_not,List.all_eq_true,decide_eq_true_eq]
 constructor
 ·rintro⟨h1,h2,h3⟩
  have h0:=h3 0 (mem_rng.mpr (by omega))
  rw[Int.add_zero]at h0
  obtain⟨s,hs,q1,q2,q3⟩:=(mem _).mp h0
  dsimp only at q1 q2 q3
  have ex:s.x=x:=by
   by_cases z:s.x=x
   ·exact z
   ·exact absurd ((mem (x-1,y)).mpr ⟨s,hs,by dsimp only;omega,by dsimp only;omega,q3⟩) h1
  have em:s.m=m:=by
   rcases Int.lt_trichotomy s.m m with z|z|z
   ·exfalso
    obtain⟨p1,p2,p3⟩:=all s hs
    refine p3 (mem_rbr.mpr ?_)
    rw[ex,<- q3]
    exact h3 s.m (mem_rng.mpr (by omega))
   ·exact z
   ·exact absurd ((mem (x+m,y)).mpr ⟨s,hs,by dsimp only;omega,by dsimp only;omega,q3⟩) h2
  obtain⟨sx,sy,sm⟩:=s
  dsimp only at ex em q3
  subst ex em q3
  exact hs
 ·intro hs
  obtain⟨p1,p2,p3⟩:=all _ hs
  refine⟨fun z=>p2 (mem_rbr.mpr z),fun z=>p3 (mem_rbr.mpr z),fun k hk=>(mem _).mpr ⟨_,hs,?_⟩⟩
  have:=mem_rng.mp hk
  dsimp only
  omega
theorem fInC(a:Cl)(cs:List Cl):fIn false (ec a) (.list (cs.map ec))=some (.bool (decide (a∈cs))):=(encC.fIn a cs).trans (congrArg (fun d=>some (PyData.bool (@decide _ d))) (Subsingleton.elim _ _))
theorem fNiC(a:Cl)(cs:List Cl):fIn true (ec a) (.list (cs.map ec))=some (.bool (!decide (a∈cs))):=(encC.fNotIn a cs).trans (congrArg (fun d=>some (PyData.bool (!(@decide _ d)))) (Subsingleton.elim _ _))
def isBody:DB:=dIfS (dTest (dOp (fIn true) (dTup (dACons (dOp fAdd (dVar 1) (dVar 4)) (dACons (dVar 2) dANil))) (dVar 0))) (dRet (dC (.bool false))) dNil
theorem is_loop(cs:List Cl)(x y m:Int):∀(l:List Int) (o:Option L),nM o->∃o',dLoop (dN 4) isBody (l.map PyData.int) [some (.d (.list (cs.map ec))),some (.d (.int x)),some (.d (.int y)),some (.d (.int m)),o] =
  if (l.all fun k=>decide ((x+k,y)∈cs))=true then some (.nx [some (.d (.list (cs.map ec))),some (.d (.int x)),some (.d (.int y)),some (.d (.int m)),o']) else some (.rt (.bool false) [some (.d (.list (cs.map ec))),some (.d (.int x)),some (.d (.int y)),some (.d (.int m)),o'])
 |[],o,_=>⟨o,rfl⟩
 |k::l,o,ho=>by
  let st:Option L->DS:=fun a=>[some (.d (.list (cs.map ec))),some (.d (.int x)),some (.d (.int y)),some (.d (.int m)),a]
  obtain⟨o',ih⟩:=is_loop cs x y m l (some (.d (.int k))) nM_d
  have t1:dTest (dOp (fIn true) (dTup (dACons (dOp fAdd (dVar 1) (dVar 4)) (dACons (dVar 2) dANil))) (dVar 0)) (st (some (.d (.int k))))=some (!decide ((x+k,y)∈cs),st (some (.d (.int k)))):=by
   show(((fIn true (ec (x+k,y)) (.list (cs.map ec))).map fun d=>(d,st (some (.d (.int k))))).bind _)=_
   rw[fNiC];rfl
  by_cases h:(x+k,y)∈cs
  ·refine⟨o',?_⟩
   rw[decide_eq_true h]at t1
   have b1:isBody (st (some (.d (.int k))))=some (.nx (st (some (.d (.int k))))):=(ifs_f t1).trans rfl
   show((dN 4 (.int k) (st o)).bind _)=_
   rw[dN_eq (o:=o) rfl ho]
   show((isBody (st (some (.d (.int k))))).bind _)=_
   rw[b1]
   show dLoop (dN 4) isBody (l.map PyData.int) (st (some (.d (.int k))))=_
   rw[ih]
   simp only[List.all_cons,decide_eq_true h,Bool.true_and]
  ·refine⟨some (.d (.int k)),?_⟩
   rw[decide_eq_false h]at t1
   have b1:isBody (st (some (.d (.int k))))=some (.rt (.bool false) (st (some (.d (.int k))))):=(ifs_t t1).trans rfl
   show((dN 4 (.int k) (st o)).bind _)=_
   rw[dN_eq (o:=o) rfl ho]
   show((isBody (st (some (.d (.int k))))).bind _)=_
   rw[b1]
   simp only[List.all_cons,decide_eq_false h,Bool.false_and]
   rfl
theorem is_stretch_eq(cs:List Cl)(x y m:Int)(h0:-100000<=m)(h1:m<=100000):m_L_is_stretch [.d (.list (cs.map ec)),.d (.int x),.d (.int y),.d (.int m)]=some (.bool (isSb cs x y m),[.d (.list (cs.map ec)),.d (.int x),.d (.int y),.d (.int m)]):=by
 let st:Option L->DS:=fun a=>[some (.d (.list (cs.map ec))),some (.d (.int x)),some (.d (.int y)),some (.d (.int m)),a]
 have t2:dTest (dOp (fIn false) (dTup (dACons (dOp fSub (dVar 1) (dC (.int 1))) (dACons (dVar 2) dANil))) (dVar 0)) (st none)=some (decide ((x-1,y)∈cs),st none):=by
  show(((fIn false (ec (x-1,y)) (.list (cs.map ec))).map fun d=>(d,st none)).bind _)=_
  rw[fInC];rfl
 have t3:dTest (dOp (fIn false) (dTup (dACons (dOp fAdd (dVar 1) (dVar 3)) (dACons (dVar 2) dANil))) (dVar 0)) (st none)=some (decide ((x+m,y)∈cs),st none):=by
  show(((fIn false (ec (x+m,y)) (.list (cs.map ec))).map fun d=>(d,st none)).bind _)=_
  rw[fInC];rfl
 have t4:dTOr (dTest (dOp (fIn false) (dTup (dACons (dOp fSub (dVar 1) (dC (.int 1))) (dACons (dVar 2) dANil))) (dVar 0))) (dTest (dOp (fIn false) (dTup (dACons (dOp fAdd (dVar 1) (dVar 3)) (dACons (dVar 2) dANil))) (dVar 0))) (st none)=some (decide ((x-1,y)∈cs)||decide ((x+m,y)∈cs),st none):=by
  unfold dTOr
  rw[t2]
  cases decide ((x-1,y)∈cs) with
  |true=>rfl
  |false=>exact t3
 unfold m_L_is_stretch isSb
 by_cases hc:(decide ((x-1,y)∈cs)||decide ((x+m,y)∈cs))=true
 ·rw[hc]at t4
  refine fun_rt (τ:=st none) ((seq_rt ((ifs_t t4).trans rfl)).trans ?_) rfl rfl
  have:(!decide ((x-1,y)∈cs)&&(!decide ((x+m,y)∈cs)&&(rng 0 m.toNat).all fun k=>decide ((x+k,y)∈cs)))=false:=by
   rcases Bool.or_eq_true_iff.mp hc with z|z<;>rw[z]<;>simp
  rw[this]
 ·have hc':(decide ((x-1,y)∈cs)||decide ((x+m,y)∈cs))=false:=by simpa using hc
  rw[hc']at t4
  obtain⟨z1,z2⟩:=Bool.or_eq_false_iff.mp hc'
  rw[z1,z2]
  obtain⟨o',lp⟩:=is_loop cs x y m (rng 0 m.toNat) none nM_none
  have fr:dFor (dR1 (dACons (dVar 3) dANil)) (dN 4) isBody (st none)=dLoop (dN 4) isBody ((rng 0 m.toNat).map PyData.int) (st none):=for_eq (r1_eq (n:=m) rfl h0 h1)
  by_cases ha:((rng 0 m.toNat).all fun k=>decide ((x+k,y)∈cs))=true
  ·rw[if_pos ha]at lp
   rw[ha]
   exact fun_rt (τ:=st o') ((seq_nx ((ifs_f t4).trans rfl)).trans ((seq_nx (fr.trans lp)).trans rfl)) rfl rfl
  ·rw[if_neg ha]at lp
   have ha':((rng 0 m.toNat).all fun k=>decide ((x+k,y)∈cs))=false:=by simpa using ha
   rw[ha']
   exact fun_rt (τ:=st o') ((seq_nx ((ifs_f t4).trans rfl)).trans (seq_rt (fr.trans lp))) rfl rfl
theorem cM0{i:Nat}{G:List L->Option (PyData×List L)}{τ:DS}{r:PyData}{ls:List L}{xs xs':List PyData}(m:τ[i]?=some (some (.m xs)))(g:G [.m xs]=some (r,.m xs'::ls)):dCallM i G dANil τ=some (r,τ.set i (some (.m xs'))):=callM_eq (rs:=[]) (ds:=[]) rfl rfl m g
theorem L_drawn_eq(v:Int):∃(cs:List Cl) (v':Int),m_L_drawn [.m [.int v]]=some (.list (cs.map ec),[.m [.int v']])/\cs.length<=126:=by
 let st:Int->Option L->Option L->DS:=fun u a b=>[some (.m [.int u]),a,b]
 have dg:∀(u k:Int) (a b:Option L),0<k->k<=1000->dCallM 0 m_L_digit (dACons (dC (.int k)) dANil) (st u a b)=some (.int (u % k),st (u / k) a b):=fun u k a b h1 h2 =>
  callM_eq (i:=0) (τ:=st u a b) (τ1:=st u a b) (rs:=[.d (.int k)]) (ds:=[.int k]) (xs:=[.int u]) rfl rfl rfl (L_digit (v:=u) (m:=k) h1 (by omega))
 have t1:dTest (dOp fEq (dCallM 0 m_L_digit (dACons (dC (.int 2)) dANil)) (dC (.int 0))) (st v none none)=some (decide (v % 2=0),st (v / 2) none none):=tst (op2 (dg v 2 none none (by decide) (by decide)) rfl (encI.fEq _ _))
 unfold m_L_drawn
 by_cases h:v % 2=0
 ·rw[decide_eq_true h]at t1
  obtain⟨cs,v',e,hl⟩:=L_cells_by_eq (v / 2)
  exact⟨cs,v',fun_rt (τ:=st v' none none) (seq_rt ((ifs_t t1).trans (ret_rt (cM0 rfl e)))) rfl rfl,by omega⟩
 ·rw[decide_eq_false h]at t1
  have z0:=Int.emod_nonneg (v / 2) (b:=3) (by decide)
  have z1:=Int.emod_lt_of_pos (v / 2) (b:=3) (by decide)
  have lp:∃τ',dLoop (dN 2) (dExpr (dMt 1 gExtend (dACons (dCall m_L_cells (dACons (dCallM 0 m_L_box_of dANil) dANil)) dANil))) ((rng 0 (1+v / 2 % 3).toNat).map PyData.int) (st (v / 2 / 3) (some (.m [])) none)=some (.nx τ')/\∃(cs:List Cl) (u:Int) (o:Option L),cs.length<=42*(rng 0 (1+v / 2 % 3).toNat).length/\nM o/\τ'=st u (some (.m (cs.map ec))) o:=by
   refine loop_pre (fun(pre:List Int) τ=>∃(cs:List Cl) (u:Int) (o:Option L),cs.length<=42*pre.length/\nM o/\τ=st u (some (.m (cs.map ec))) o) ⟨[],v / 2 / 3,none,by simp,nM_none,rfl⟩ ?_
   rintro pre k post τ hx ⟨cs,u,o,hl,ho,rfl⟩
   have hp:=split_len hx
   rw[rng_len]at hp
   obtain⟨b,u',e,ob,_,_,_,_,w7,h6⟩:=L_box_of u
   have ec1:=L_cells ob
   have hc:=cells_len b
   have w1:=ob.1
   have h1:=ob.2.2.1
   have hbc:(cells b).length<=42:=by
    rw[hc]
    exact Nat.le_trans (Nat.mul_le_mul (show b.h.toNat<=6 by omega) (show b.w.toNat<=7 by omega)) (by decide)
   have a1:dACons (dCall m_L_cells (dACons (dCallM 0 m_L_box_of dANil) dANil)) dANil (st u (some (.m (cs.map ec))) (some (.d (.int k))))=some ([.d (.list ((cells b).map ec))],st u' (some (.m (cs.map ec))) (some (.d (.int k)))):=ac1 (call_eq (rs:=[.d (eb b)]) (ds:=[eb b]) (ac1 (cM0 (xs:=[.int u]) rfl e)) rfl ec1)
   refine⟨st u (some (.m (cs.map ec))) (some (.d (.int k))),_,dN_eq (o:=o) rfl ho,extn (xs:=cs.map ec) (ys:=(cells b).map ec) a1 rfl rfl (by rw[List.length_map,List.length_map];omega),cs++cells b,u',some (.d (.int k)),?_,nM_d,?_⟩
   ·rw[List.length_append,List.length_append,List.length_singleton];omega
   ·rw[List.map_append];rfl
  obtain⟨τ',el,cs,u,o,hl,ho,rfl⟩:=lp
  rw[rng_len]at hl
  have r1:dR1 (dACons (dOp fAdd (dC (.int 1)) (dCallM 0 m_L_digit (dACons (dC (.int 3)) dANil))) dANil) (st (v / 2) (some (.m [])) none)=some ((rng 0 (1+v / 2 % 3).toNat).map PyData.int,st (v / 2 / 3) (some (.m [])) none) :=
   r1_eq (n:=1+v / 2 % 3) (ac1 (op2 (x:=.int 1) rfl (dg (v / 2) 3 _ none (by decide) (by decide)) rfl)) (by omega) (by omega)
  refine⟨cs,u,fun_rt (τ:=st u (some (.m (cs.map ec))) o) ?_ rfl rfl,by omega⟩
  exact(seq_nx ((ifs_f t1).trans rfl)).trans ((seq_nx (τ1:=st (v / 2) (some (.m [])) none) rfl).trans ((seq_nx ((for_eq r1).trans el)).trans rfl))
theorem cells_flat(b:Bx):cells b=(rng 0 b.h.toNat).flatMap fun j=>rowC b.x (b.y+j) b.w.toNat:=by
 unfold cells
 rw[rng_shift,List.flatMap_map]
def flL(bl:List Bx):List Cl:=bl.flatMap cells
theorem flat_rows(bl:List Bx):flatS (rowsL bl)=flL bl:=by
 unfold flatS rowsL flL
 rw[List.flatMap_assoc]
 refine congrArg (fun f=>bl.flatMap f) (funext fun b=>?_)
 rw[cells_flat]
 unfold rowsB
 rw[List.flatMap_map]
theorem fl_snoc(bl:List Bx)(b:Bx):flL (bl++[b])=flL bl++cells b:=by unfold flL;rw[List.flatMap_append];simp
def jBody:DB:=dSeq (dIfS (dTNot (dTest (dCall m_L_is_stretch (dACons (dVar 0) (dACons (dVar 3) (dACons (dOp fAdd (dVar 4) (dVar 7)) (dACons (dVar 5) dANil))))))) (dRet (dC (.bool false))) dNil) (dExpr (dMt 2 gExtend (dACons (dLC 1 [3,4,7] (dR1 (dACons (dVar 5) dANil)) (dN 0) dYes (dTup (dACons (dOp fAdd (dVar 1) (dVar 0)) (dACons (dOp fAdd (dVar 2) (dVar 3)) dANil)))) dANil)))
def rBody:DB:=dSeq (dIfS (dTOr (dTest (dOp fLt (dVar 5) (dC (.int 1)))) (dTOr (dTest (dOp fLt (dVar 6) (dC (.int 1)))) (dTOr (dTest (dCall m_L_is_stretch (dACons (dVar 0) (dACons (dVar 3) (dACons (dOp fSub (dVar 4) (dC (.int 1))) (dACons (dVar 5) dANil)))))) (dTest (dCall m_L_is_stretch (dACons (dVar 0) (dACons (dVar 3) (dACons (dOp fAdd (dVar 4) (dVar 6)) (dACons (dVar 5) dANil))))))))) (dRet (dC (.bool false))) dNil) (dFor (dR1 (dACons (dVar 6) dANil)) (dN 7) jBody)
section
variable {cs:List Cl} {T:PyData} {b:Bx}
abbrev stR(cs:List Cl)(T:PyData)(acc:List Cl)(b:Bx)(o:Option L):DS:=[some (.d (.list (cs.map ec))),some (.d T),some (.m (acc.map ec)),some (.d (.int b.x)),some (.d (.int b.y)),some (.d (.int b.w)),some (.d (.int b.h)),o]
theorem j_body{acc:List Cl}{j:Int}(w1:1<=b.w)(w2:b.w<=200)(hs:isSb cs b.x (b.y+j) b.w=true)(hl:acc.length<=200) :
  jBody (stR cs T acc b (some (.d (.int j))))=some (.nx (stR cs T (acc++rowC b.x (b.y+j) b.w.toNat) b (some (.d (.int j))))):=by
 let st:=stR cs T acc b (some (.d (.int j)))
 have e1:=is_stretch_eq cs b.x (b.y+j) b.w (by omega) (by omega)
 rw[hs]at e1
 have c1:dTNot (dTest (dCall m_L_is_stretch (dACons (dVar 0) (dACons (dVar 3) (dACons (dOp fAdd (dVar 4) (dVar 7)) (dACons (dVar 5) dANil)))))) st=some (false,st) :=
  tnot (b:=true) (tst (call_eq (τ:=st) (τ1:=st) (rs:=[.d (.list (cs.map ec)),.d (.int b.x),.d (.int (b.y+j)),.d (.int b.w)]) (ds:=[.list (cs.map ec),.int b.x,.int (b.y+j),.int b.w]) rfl rfl e1))
 unfold jBody
 refine(seq_nx (τ1:=st) ((ifs_f c1).trans rfl)).trans ?_
 obtain ⟨τb, el⟩ := lc_list (enc := PyData.int) (g := dN 0) (c := dYes) (e := dTup (dACons (dOp fAdd (dVar 1) (dVar 0)) (dACons (dOp fAdd (dVar 2) (dVar 3)) dANil))) (fun τ => ∃ o, nM o /\ τ = [o, some (.d (.int b.x)), some (.d (.int b.y)), some (.d (.int j))]) (fun _ => true) (fun k => ec (b.x + k, b.y + j)) (xs := rng 0 b.w.toNat) (acc := []) (τ := [none, some (.d (.int b.x)), some (.d (.int b.y)), some (.d (.int j))]) ⟨none, nM_none, rfl⟩ (by
  rintro k τ _ ⟨o,ho,rfl⟩
  exact⟨[some (.d (.int k)),some (.d (.int b.x)),some (.d (.int b.y)),some (.d (.int j))],[some (.d (.int k)),some (.d (.int b.x)),some (.d (.int b.y)),some (.d (.int j))],dN_eq rfl ho,rfl,fun _=>⟨_,nM_d,rfl⟩,fun _=>⟨[some (.d (.int k)),some (.d (.int b.x)),some (.d (.int b.y)),some (.d (.int j))],rfl,_,nM_d,rfl⟩⟩)
 rw[List.nil_append,List.filter_eq_self.mpr (fun _ _=>rfl)]at el
 have er:(rowC b.x (b.y+j) b.w.toNat).map ec=(rng 0 b.w.toNat).map fun k=>ec (b.x+k,b.y+j):=by
  unfold rowC
  rw[rng_shift,List.map_map,List.map_map];rfl
 have lc:dLC 1 [3,4,7] (dR1 (dACons (dVar 5) dANil)) (dN 0) dYes (dTup (dACons (dOp fAdd (dVar 1) (dVar 0)) (dACons (dOp fAdd (dVar 2) (dVar 3)) dANil))) st=some (.list ((rowC b.x (b.y+j) b.w.toNat).map ec),st):=by
  rw[er]
  exact dlc_eq (τb:=τb) (ds:=(rng 0 b.w.toNat).map PyData.int) (r1_eq (n:=b.w) rfl (by omega) (by omega)) (sz (by rw[List.length_map,rng_len];omega)) rfl el
 refine(extn (ys:=(rowC b.x (b.y+j) b.w.toNat).map ec) (xs:=acc.map ec) (τ1:=st) (ac1 lc) rfl rfl ?_).trans ?_
 ·rw[List.length_map,List.length_map]
  unfold rowC
  rw[List.length_map,rng_len]
  omega
 ·rw[<- List.map_append];rfl
theorem r_body{acc:List Cl}{o:Option L}(ho:nM o)(w1:1<=b.w)(w2:b.w<=200)(h1:1<=b.h)(h2:b.h<=200)(ha:isSb cs b.x (b.y-1) b.w=false)(hb:isSb cs b.x (b.y+b.h) b.w=false)(hs:∀j,0<=j->j<b.h->isSb cs b.x (b.y+j) b.w=true)(hl:acc.length+(cells b).length<=200) :
  ∃o',nM o'/\rBody (stR cs T acc b o)=some (.nx (stR cs T (acc++cells b) b o')):=by
 let st:=stR cs T acc b o
 have e1:=is_stretch_eq cs b.x (b.y-1) b.w (by omega) (by omega)
 have e2:=is_stretch_eq cs b.x (b.y+b.h) b.w (by omega) (by omega)
 rw[ha]at e1
 rw[hb]at e2
 have c1:dTest (dOp fLt (dVar 5) (dC (.int 1))) st=some (false,st):=by
  show some (decide (b.w<1),st)=_
  rw[decide_eq_false (by omega)]
 have c2:dTest (dOp fLt (dVar 6) (dC (.int 1))) st=some (false,st):=by
  show some (decide (b.h<1),st)=_
  rw[decide_eq_false (by omega)]
 have c3:dTest (dCall m_L_is_stretch (dACons (dVar 0) (dACons (dVar 3) (dACons (dOp fSub (dVar 4) (dC (.int 1))) (dACons (dVar 5) dANil))))) st=some (false,st) :=
  tst (call_eq (τ:=st) (τ1:=st) (rs:=[.d (.list (cs.map ec)),.d (.int b.x),.d (.int (b.y-1)),.d (.int b.w)]) (ds:=[.list (cs.map ec),.int b.x,.int (b.y-1),.int b.w]) rfl rfl e1)
 have c4:dTest (dCall m_L_is_stretch (dACons (dVar 0) (dACons (dVar 3) (dACons (dOp fAdd (dVar 4) (dVar 6)) (dACons (dVar 5) dANil))))) st=some (false,st) :=
  tst (call_eq (τ:=st) (τ1:=st) (rs:=[.d (.list (cs.map ec)),.d (.int b.x),.d (.int (b.y+b.h)),.d (.int b.w)]) (ds:=[.list (cs.map ec),.int b.x,.int (b.y+b.h),.int b.w]) rfl rfl e2)
 have lp:∃τ',dLoop (dN 7) jBody ((rng 0 b.h.toNat).map PyData.int) st=some (.nx τ')/\∃o',nM o'/\τ'=stR cs T (acc++(rng 0 b.h.toNat).flatMap fun j=>rowC b.x (b.y+j) b.w.toNat) b o':=by
  refine loop_pre (fun(pre:List Int) τ=>∃o',nM o'/\τ=stR cs T (acc++pre.flatMap fun j=>rowC b.x (b.y+j) b.w.toNat) b o') ⟨o,ho,by simp[st]⟩ ?_
  rintro pre j post τ hx ⟨o',ho',rfl⟩
  have hj:=mem_rng.mp (show j∈rng 0 b.h.toNat by rw[hx];simp)
  have hc:(pre.flatMap fun j=>rowC b.x (b.y+j) b.w.toNat).length<=(cells b).length:=by
   rw[cells_flat,hx,List.flatMap_append,List.length_append];omega
  refine⟨stR cs T (acc++pre.flatMap fun j=>rowC b.x (b.y+j) b.w.toNat) b (some (.d (.int j))),_,dN_eq (o:=o') rfl ho',j_body w1 w2 (hs j hj.1 (by omega)) (by rw[List.length_append];omega),some (.d (.int j)),nM_d,?_⟩
  rw[List.flatMap_append,<- List.append_assoc]
  simp
 obtain⟨τ',el,o',ho',rfl⟩:=lp
 refine⟨o',ho',?_⟩
 unfold rBody
 refine(seq_nx (τ1:=st) ((ifs_f (orFF c1 (orFF c2 (orFF c3 c4)))).trans rfl)).trans ?_
 rw[cells_flat]
 exact(for_eq (r1_eq (n:=b.h) (τ:=st) (τ1:=st) rfl (by omega) (by omega))).trans el
end
def kc(p:Cl):List Int:=[p.1,p.2]
def us'(k:List Int):Cl:=(k.getD 0 0,k.getD 1 0)
def kb(b:Bx):List Int:=[b.x,b.y,b.w,b.h]
theorem keys_c:∀cs:List Cl,keysD (cs.map ec)=some (cs.map kc)
 |[]=>rfl
 |p::cs=>by
  show((intsD [.int p.1,.int p.2]).bind fun k=>(keysD (cs.map ec)).map (k::·))=_
  rw[keys_c cs];rfl
theorem keys_b:∀bl:List Bx,keysD (bl.map eb)=some (bl.map kb)
 |[]=>rfl
 |b::bl=>by
  show((intsD [.int b.x,.int b.y,.int b.w,.int b.h]).bind fun k=>(keysD (bl.map eb)).map (k::·))=_
  rw[keys_b bl];rfl
theorem same_len{α:Type}{f:α->List Int}{n:Nat}(hf:∀a,(f a).length=n+1)(l:List α):(∀k∈l.map f,k.length=((l.map f).headD []).length)/\1<=((l.map f).headD [0]).length:=by
 cases l with
 |nil=>exact⟨fun k hk=>by simp at hk,by simp⟩
 |cons a l =>
  refine⟨fun k hk=>?_,?_⟩
  ·obtain⟨c,_,rfl⟩:=List.mem_map.mp hk
   rw[hf c]
   show n+1=(f a).length
   rw[hf a]
  ·show 1<=(f a).length
   rw[hf a];omega
theorem kc_nodup{F:List Cl}(hn:F.Nodup):(F.map kc).Nodup:=List.pairwise_map.mpr (hn.imp fun {p q} h z=>h (by
 have e1:p.1=q.1:=by injection z
 have e2:p.2=q.2:=by injection z with _ z;injection z
 exact Prod.ext e1 e2))
theorem sort_c{F:List Cl}(hn:F.Nodup)(hz:F.length<900):fSortT [.list (F.map ec)]=some (.list ((srtK (F.map kc)).map tupK)):=by
 show(keysD (F.map ec)).bind _=_
 rw[keys_c]
 show(if _ then _ else _)=_
 obtain⟨h1,h2⟩:=same_len (f:=kc) (n:=1) (fun _=>rfl) F
 rw[if_pos ⟨kc_nodup hn,by rw[List.length_map];omega,h1,h2⟩]
theorem ss_c{cs:List Cl}{f:DX}{τ τ1:DS}(h:f τ=some (.list (cs.map ec),τ1))(hz:cs.length<900):dSS f τ=some (.list ((srtK (onceK (cs.map kc))).map tupK),τ1):=by
 unfold dSS
 rw[h]
 show(keysD (cs.map ec)).bind _=_
 rw[keys_c]
 show(if _ then _ else _)=_
 have ol:=once_len (cs.map kc)
 rw[List.length_map]at ol
 obtain⟨h1,h2⟩:=same_len (f:=kc) (n:=1) (fun _=>rfl) cs
 rw[if_pos ⟨by rw[List.length_map];omega,by omega,h1,h2⟩]
theorem sort_same{F cs:List Cl}(hn:F.Nodup)(hm:∀p,p∈F↔p∈cs):srtK (F.map kc)=srtK (onceK (cs.map kc)):=by
 refine srtK_eq (kc_nodup hn) (srtK_sorted (once_nodup _)) fun x=>?_
 rw[(srtK_perm _).mem_iff,mem_once,List.mem_map,List.mem_map]
 exact⟨fun⟨p,h,e⟩=>⟨p,(hm p).mpr h,e⟩,fun⟨p,h,e⟩=>⟨p,(hm p).mp h,e⟩⟩
theorem sk_b{bl:List Bx}(hz:bl.length<900)(hp:bl.Pairwise fun b c=>lt2 (b.x,b.y) (c.x,c.y)):fSK (.list (bl.map eb))=some (.list (bl.map eb)):=by
 show(keysD (bl.map eb)).bind _=_
 rw[keys_b]
 show(if _ then _ else _)=_
 have hq:((bl.map kb).map L2.kyL).Pairwise fun x y=>HT.lexLt x y=true:=by
  rw[List.map_map]
  exact List.pairwise_map.mpr (hp.imp fun {b c} h=>lex_sw.mpr h)
 rw[if_pos ⟨by rw[List.length_map];omega,fun k hk=>by obtain⟨b,_,rfl⟩:=List.mem_map.mp hk;show 2<=4;decide,hq⟩]
theorem L_right_eq{cs:List Cl}(hz:cs.length<=126):∃ls,m_L_right [.d (.list (cs.map ec)),.d (.list ((blS (strS (rbr cs))).map eb))]=some (.bool true,ls):=by
 obtain⟨fl,all⟩:=str_told (rbr_sorted cs)
 have hp:(strS (rbr cs)).Pairwise ltS:=str_sorted _ (fun s hs=>(all s hs).1) (by rw[fl];exact rbr_sorted cs)
 obtain⟨s0,o⟩:=BI.last hp
 have pm:(flL (blS (strS (rbr cs)))).Perm (rbr cs):=by
  have h1:=(rows_blS _ _ rfl hp).flatMap_right fun s:Sx=>rowC s.x s.y s.m.toNat
  have h2:(flatS (rowsL (blS (strS (rbr cs))))).Perm (flatS (strS (rbr cs))):=h1
  rw[flat_rows,fl]at h2
  exact h2
 have hlen:=pm.length_eq
 have hrl:=rbr_len cs
 have rnd:(rbr cs).Nodup:=List.Pairwise.imp (S:=fun p q=>p≠q) (fun {p q} h z=>by subst z;exact lt2_as p p h h) (rbr_sorted cs)
 have hnd:(flL (blS (strS (rbr cs)))).Nodup:=pm.nodup_iff.mpr rnd
 have hmem:∀p,p∈flL (blS (strS (rbr cs)))↔p∈cs:=fun p=>pm.mem_iff.trans mem_rbr
 have hbz:(blS (strS (rbr cs))).length<900:=by
  have h1:=blS_len (strS (rbr cs)) []
  have h2:=str_len (rbr cs) []
  unfold blS strS at *
  simp only[List.length_nil]at h1 h2
  omega
 generalize hbl:blS (strS (rbr cs))=bl at *
 let C:PyData:=.list (cs.map ec)
 let T:PyData:=.list (bl.map eb)
 have hb:∀b∈bl,1<=b.w/\1<=b.h/\isSb cs b.x (b.y-1) b.w=false/\isSb cs b.x (b.y+b.h) b.w=false/\∀j,0<=j->j<b.h->isSb cs b.x (b.y+j) b.w=true:=fun b hb=>by
  rw[<- hbl]at hb
  obtain⟨h1,h2,h3,h4⟩:=blk_told hp hb
  have w1:1<=b.w:=(all _ (h2 0 (by omega) (by omega))).1
  exact⟨w1,h1,Bool.eq_false_iff.mpr fun z=>h3 ((isS_iff w1).mp z),Bool.eq_false_iff.mpr fun z=>h4 ((isS_iff w1).mp z),fun j j0 j1=>(isS_iff w1).mpr (h2 j j0 j1)⟩
 have hasc:bl.Pairwise fun b c=>lt2 (b.x,b.y) (c.x,c.y):=List.pairwise_iff_getElem.mpr fun i j hi hj hij=>o.p4 i j _ _ hij (List.getElem?_eq_getElem hi) (List.getElem?_eq_getElem hj)
 let st:List Cl->Option L->Option L->Option L->Option L->Option L->DS:=fun acc a b c d e=>[some (.d C),some (.d T),some (.m (acc.map ec)),a,b,c,d,e]
 have key:∃τ',dLoop (dGT (dGCons (dN 3) (dGCons (dN 4) (dGCons (dN 5) (dGCons (dN 6) dGNil))))) rBody (bl.map eb) (st [] none none none none none)=some (.nx τ')/\∃o3 o4 o5 o6 o7,nM o3/\nM o4/\nM o5/\nM o6/\nM o7/\τ'=st (flL bl) o3 o4 o5 o6 o7:=by
  refine loop_pre (fun(pre:List Bx) τ=>∃o3 o4 o5 o6 o7,nM o3/\nM o4/\nM o5/\nM o6/\nM o7/\τ=st (flL pre) o3 o4 o5 o6 o7) ⟨none,none,none,none,none,nM_none,nM_none,nM_none,nM_none,nM_none,rfl⟩ ?_
  rintro pre b post τ hx ⟨o3,o4,o5,o6,o7,n3,n4,n5,n6,n7,rfl⟩
  obtain⟨w1,h1,ha,hb',hs⟩:=hb b (split_mem hx)
  have hfl:(flL pre).length+(cells b).length<=126:=by
   have e:(flL bl).length=(flL pre).length+((cells b).length+(flL post).length):=by
    rw[hx]
    unfold flL
    rw[List.flatMap_append,List.flatMap_cons,List.length_append,List.length_append]
   omega
  have hcl:=cells_len b
  have hw:b.w.toNat<=(cells b).length:=by rw[hcl];exact Nat.le_mul_of_pos_left _ (by omega)
  have hh:b.h.toNat<=(cells b).length:=by rw[hcl];exact Nat.le_mul_of_pos_right _ (by omega)
  obtain⟨o',no',e⟩:=r_body (cs:=cs) (T:=T) (b:=b) (acc:=flL pre) n7 w1 (by omega) h1 (by omega) ha hb' hs (by omega)
  refine⟨stR cs T (flL pre) b o7,_,?_,e,_,_,_,_,o',nM_d,nM_d,nM_d,nM_d,no',by rw[fl_snoc]⟩
  show((dN 3 (.int b.x) (st (flL pre) o3 o4 o5 o6 o7)).bind _)=_
  rw[dN_eq (o:=o3) rfl n3]
  show((dN 4 (.int b.y) (st (flL pre) (some (.d (.int b.x))) o4 o5 o6 o7)).bind _)=_
  rw[dN_eq (o:=o4) rfl n4]
  show((dN 5 (.int b.w) (st (flL pre) (some (.d (.int b.x))) (some (.d (.int b.y))) o5 o6 o7)).bind _)=_
  rw[dN_eq (o:=o5) rfl n5]
  show((dN 6 (.int b.h) (st (flL pre) (some (.d (.int b.x))) (some (.d (.int b.y))) (some (.d (.int b.w))) o6 o7)).bind _)=_
  rw[dN_eq (o:=o6) rfl n6]
  rfl
 obtain⟨τ',el,o3,o4,o5,o6,o7,n3,n4,n5,n6,n7,rfl⟩:=key
 let s0':DS:=[some (.d C),some (.d T),none,none,none,none,none,none]
 have tu:=L_tuples (n:=4) (ds:=bl.map eb) (fun d hd=>by obtain⟨p,_,rfl⟩:=List.mem_map.mp hd;exact tupI_eb p)
 have c1:dTNot (dTest (dCall m_L_tuples (dACons (dVar 1) (dACons (dC (.int 4)) dANil)))) s0'=some (false,s0') :=
  tnot (b:=true) (tst (call_eq (τ:=s0') (τ1:=s0') (rs:=[.d T,.d (.int 4)]) (ds:=[T,.int 4]) rfl rfl tu))
 have n1:fNe T T=some (.bool false):=by
  have:=encB.fNeL bl bl
  rw[decide_eq_true (rfl:bl=bl)]at this
  exact this
 have k1:dUn fSK (dVar 1) s0'=some (T,s0'):=by
  show((fSK T).map fun d=>(d,s0'))=_
  rw[show fSK T=some T from sk_b hbz hasc];rfl
 have c2:dTest (dOp fNe (dVar 1) (dUn fSK (dVar 1))) s0'=some (false,s0'):=tst (op2 (x:=T) (y:=T) rfl k1 n1)
 unfold m_L_right
 refine⟨_,fun_rt (τ:=st (flL bl) o3 o4 o5 o6 o7) ?_ rfl rfl⟩
 refine(seq_nx (τ1:=s0') ((ifs_f (orFF c1 c2)).trans rfl)).trans ?_
 refine(seq_nx (τ1:=st [] none none none none none) rfl).trans ?_
 refine(seq_nx ((for_eq (ds:=bl.map eb) (τ1:=st [] none none none none none) rfl).trans el)).trans ?_
 refine ret_rt (τ1:=st (flL bl) o3 o4 o5 o6 o7) ?_
 let G:=srtK ((flL bl).map kc)
 let τb:DS:=[some (.d C),some (.d T),some (.d (.list ((flL bl).map ec))),o3,o4,o5,o6,o7]
 have e1:dApp fSortT (dACons (dVar 2) dANil) τb=some (.list (G.map tupK),τb):=app_eq (rs:=[.d (.list ((flL bl).map ec))]) (ds:=[.list ((flL bl).map ec)]) rfl rfl (sort_c hnd (by omega))
 have e2:dSS (dVar 0) τb=some (.list (G.map tupK),τb):=by
  rw[show G=srtK (onceK (cs.map kc)) from sort_same hnd hmem]
  exact ss_c rfl (by omega)
 have e3:fEq (.list (G.map tupK)) (.list (G.map tupK))=some (.bool true):=by
  have eg:G.map tupK=(G.map us').map ec:=by
   rw[List.map_map]
   refine List.map_congr_left fun k hk=>?_
   obtain⟨p,_,rfl⟩:=List.mem_map.mp ((srtK_perm _).mem_iff.mp hk)
   rfl
  rw[eg,encC.fEqL,decide_eq_true rfl]
 exact borL (xs := (flL bl).map ec) rfl (op2 e1 e2 e3) rfl (by
  show(_&&(_&&(_&&(okM o3&&(okM o4&&(okM o5&&(okM o6&&(okM o7&&true))))))))=true
  rw[okM_n n3,okM_n n4,okM_n n5,okM_n n6,okM_n n7];rfl)
theorem borF6{i:Nat}{f:DX}{τ:DS}{xs ys:List PyData}(hi:τ[i]?=some (some (.m xs)))(hf:f (τ.set i (some (.d (.list xs))))=some (.list ys,τ.set i (some (.d (.list xs)))))(hd:fixDs ys=true)(hok:(τ.set i (some (.d (.list xs)))).all okM=true):dBorF i f τ=some (.list ys,τ):=by
 unfold dBorF
 rw[hi]
 dsimp only
 rw[hf]
 dsimp only[Option.bind]
 rw[hd,hok,Bool.and_self,if_pos rfl,List.set_set]
 congr 2
 obtain⟨hlt,he⟩:=List.getElem?_eq_some_iff.mp hi
 rw[<- he,List.set_getElem_self]
theorem m_law_holds(ns:List Int)(_:ns.length<=63):∃ls,m_law [.c (ns.map .int)]=some (.bool true,ls):=by
 obtain⟨v,lv,hv⟩:=L_big (ns:=ns) (k:=0) (by decide)
 obtain⟨cs,v1,e1,h1⟩:=L_drawn_eq v
 obtain⟨ds,v2,e2,h2⟩:=L_drawn_eq v1
 have bk:∀es:List Cl,es.length<=126->∃ls,m_blocks_of [.d (.list (es.map ec))]=some (.list ((blS (strS (rbr es))).map eb),ls):=fun es he=>by
  obtain⟨fl,all⟩:=str_told (rbr_sorted es)
  have h3:=str_len (rbr es) []
  have h4:=rbr_len es
  refine blocks_eq (by omega) rfl (str_sorted _ (fun s hs=>(all s hs).1) (by rw[fl];exact rbr_sorted es)) ?_
  unfold strS
  simp only[List.length_nil]at h3
  omega
 obtain⟨k1,s1⟩:=bk cs h1
 obtain⟨k2,s2⟩:=bk ds h2
 obtain⟨k3,s3⟩:=bk cs.reverse (by rw[List.length_reverse];exact h1)
 rw[rbr_congr (a:=cs.reverse) (b:=cs) (fun p=>List.mem_reverse)]at s3
 obtain⟨l1,r1⟩:=L_right_eq (cs:=cs) h1
 obtain⟨l2,r2⟩:=L_right_eq (cs:=ds) h2
 have hlen:(blS (strS (rbr cs))).length<900:=by
  have h3:=blS_len (strS (rbr cs)) []
  have h4:=str_len (rbr cs) []
  have h5:=rbr_len cs
  unfold blS strS at *
  simp only[List.length_nil]at h3 h4
  omega
 generalize hbl:blS (strS (rbr cs))=bl at *
 generalize hbm:blS (strS (rbr ds))=bm at *
 let C:PyData:=.list (cs.map ec)
 let D:PyData:=.list (ds.map ec)
 let Tl:=bl.map eb
 let st:Option L->Option L->Option L->Option L->Option L->Option L->DS:=fun r a b h t k=>[some (.c (ns.map .int)),r,a,b,h,t,k]
 have fx:fixDs Tl=true:=encB.fixL _
 have nT:fNe (.list Tl) (.list Tl)=some (.bool false):=by
  have:=encB.fNeL bl bl
  rw[decide_eq_true (rfl:bl=bl)]at this
  exact this
 have nC:fNe C C=some (.bool false):=by
  have:=encC.fNeL cs cs
  rw[decide_eq_true (rfl:cs=cs)]at this
  exact this
 unfold m_law
 refine⟨_,fun_rt (τ:=st (some (.m [.int v2])) (some (.d C)) (some (.d D)) (some (.d C)) (some (.m (Tl++[eb ⟨0,0,1,1⟩]))) (some (.d (.list Tl)))) ?_ rfl rfl⟩
 refine(seq_nx (τ1:=st (some (.m [.int v])) none none none none none) ?_).trans ?_
 ·unfold dSetM dLst
  rw[ac1 (callC_eq (τ1:=st none none none none none none) (ds:=[.int 0]) rfl rfl rfl hv)];rfl
 refine(seq_nx (τ1:=st (some (.m [.int v1])) (some (.d C)) none none none none) (asg_nx (d:=C) (τ1:=st (some (.m [.int v1])) none none none none none) (cM0 rfl e1) rfl)).trans ?_
 refine(seq_nx (τ1:=st (some (.m [.int v2])) (some (.d C)) (some (.d D)) none none none) (asg_nx (d:=D) (τ1:=st (some (.m [.int v2])) (some (.d C)) none none none none) (cM0 rfl e2) rfl)).trans ?_
 refine(seq_nx (τ1:=st (some (.m [.int v2])) (some (.d C)) (some (.d D)) (some (.d C)) none none) rfl).trans ?_
 let t1:=st (some (.m [.int v2])) (some (.d C)) (some (.d D)) (some (.d C)) none none
 let t2:=st (some (.m [.int v2])) (some (.d C)) (some (.d D)) (some (.d C)) (some (.m Tl)) none
 refine(seq_nx (τ1:=t2) (setM_nx (τ1:=t1) (xs:=Tl) (call_eq (τ:=t1) (τ1:=t1) (rs:=[.d C]) (ds:=[C]) rfl rfl s1) (by decide) (by show 5<7;decide) rfl)).trans ?_
 refine(seq_nx (τ1:=t2) ((ifs_f (τ1:=t2) ?_).trans rfl)).trans ?_
 ·let τ:=st (some (.m [.int v2])) (some (.d C)) (some (.d D)) (some (.d C)) (some (.d (.list Tl))) none
  have c1:dTNot (dTest (dCall m_L_right (dACons (dVar 2) (dACons (dVar 5) dANil)))) τ=some (false,τ):=tnot (b:=true) (tst (call_eq (τ:=τ) (τ1:=τ) (rs:=[.d C,.d (.list Tl)]) (ds:=[C,.list Tl]) rfl rfl r1))
  exact tborL (xs:=Tl) rfl (orFF c1 (tst (op2 (x:=C) (y:=C) rfl rfl nC))) rfl
 let t3:=st (some (.m [.int v2])) (some (.d C)) (some (.d D)) (some (.d C)) (some (.m Tl)) (some (.d (.list Tl)))
 refine(seq_nx (τ1:=t3) (asg_nx (d:=.list Tl) (τ1:=t2) (borF6 (xs:=Tl) rfl rfl fx rfl) rfl)).trans ?_
 refine(seq_nx (τ1:=t3) ((ifs_f (τ1:=t3) ?_).trans rfl)).trans ?_
 ·let τ:=st (some (.m [.int v2])) (some (.d C)) (some (.d D)) (some (.d C)) (some (.d (.list Tl))) (some (.d (.list Tl)))
  have q:dCall m_blocks_of (dACons (dApp fListOf (dACons (dVar 3) dANil)) dANil) τ=some (.list (bm.map eb),τ):=call_eq (τ:=τ) (τ1:=τ) (rs:=[.d D]) (ds:=[D]) rfl rfl s2
  have c1:dTNot (dTest (dCall m_L_right (dACons (dVar 3) (dACons (dCall m_blocks_of (dACons (dApp fListOf (dACons (dVar 3) dANil)) dANil)) dANil)))) τ=some (false,τ):=tnot (b:=true) (tst (call_eq (τ:=τ) (τ1:=τ) (rs:=[.d D,.d (.list (bm.map eb))]) (ds:=[D,.list (bm.map eb)]) (acc (d:=D) (τ1:=τ) rfl (ac1 q)) rfl r2))
  exact tborL (xs:=Tl) rfl (orFF c1 (tst (op2 (x:=.list Tl) (y:=.list Tl) rfl rfl nT))) rfl
 let t4:=st (some (.m [.int v2])) (some (.d C)) (some (.d D)) (some (.d C)) (some (.m (Tl++[eb ⟨0,0,1,1⟩]))) (some (.d (.list Tl)))
 refine(seq_nx (τ1:=t4) (appd (d:=eb ⟨0,0,1,1⟩) (xs:=Tl) (τ1:=t3) rfl rfl (by rw[List.length_map];omega))).trans ?_
 refine ret_rt (τ1:=t4) ?_
 have rv:dRev (dVar 2) t4=some (.list (cs.reverse.map ec),t4):=by
  rw[List.map_reverse];rfl
 have eT:fEq (.list Tl) (.list Tl)=some (.bool true):=by
  have:=encB.fEqL bl bl
  rw[decide_eq_true (rfl:bl=bl)]at this
  exact this
 exact op2 (call_eq (ac1 rv) (ds:=[.list (cs.reverse.map ec)]) rfl s3) rfl eT
theorem all_mk{l:PySem.W.OpenLaw}{w:World}{K:PySem.W.Frag}{h:Heap}{mg:Str->Option Value}{fa:Addr}(X:K.In h)(G:h.Ns mainGlobals mg)(hfa:mg "law"=some (.ref fa))
  {f0:Addr} {g0:FuncData} (d0:DF K "_law_digit" s_L_digit f0 g0)
  {f1:Addr} {g1:FuncData} (d1:DF K "_law_cells_by" s_L_cells_by f1 g1)
  {f2:Addr} {g2:FuncData} (d2:DF K "_law_cells" s_L_cells f2 g2)
  {f3:Addr} {g3:FuncData} (d3:DF K "_law_box_of" s_L_box_of f3 g3)
  {f4:Addr} {g4:FuncData} (d4:DF K "_law_drawn" s_L_drawn f4 g4)
  {f5:Addr} {g5:FuncData} (d5:DF K "row_by_row" s_row_by_row f5 g5)
  {f6:Addr} {g6:FuncData} (d6:DF K "is_next" s_is_next f6 g6)
  {f7:Addr} {g7:FuncData} (d7:DF K "stretches_of" s_stretches_of f7 g7)
  {f8:Addr} {g8:FuncData} (d8:DF K "blocks_of" s_blocks_of f8 g8)
  {f9:Addr} {g9:FuncData} (d9:DF K "_law_cell_at" s_L_cell_at f9 g9)
  {f10:Addr} {g10:FuncData} (d10:DF K "_law_big" s_L_big f10 g10)
  {f11:Addr} {g11:FuncData} (d11:DF K "_law_tuples" s_L_tuples f11 g11)
  {f12:Addr} {g12:FuncData} (d12:DF K "_law_is_stretch" s_L_is_stretch f12 g12)
  {f13:Addr} {g13:FuncData} (d13:DF K "_law_right" s_L_right f13 g13)
  {f14:Addr} {g14:FuncData} (d14:DF K "law" s_law f14 g14)
  (z_bool:PySem.W.nsIn K mainGlobals "bool"=some none)
  (z_int:PySem.W.nsIn K mainGlobals "int"=some none)
  (z_isinstance:PySem.W.nsIn K mainGlobals "isinstance"=some none)
  (z_len:PySem.W.nsIn K mainGlobals "len"=some none)
  (z_list:PySem.W.nsIn K mainGlobals "list"=some none)
  (z_range:PySem.W.nsIn K mainGlobals "range"=some none)
  (z_reversed:PySem.W.nsIn K mainGlobals "reversed"=some none)
  (z_set:PySem.W.nsIn K mainGlobals "set"=some none)
  (z_sorted:PySem.W.nsIn K mainGlobals "sorted"=some none)
  (z_tuple:PySem.W.nsIn K mainGlobals "tuple"=some none)
  (lm:LmK K g13.code)
  : ∃fd:FuncData,(∀(s:Shared) (v:Value),BindsTo s fd ⟨[v],[]⟩ [("_law_script",v)])/\∀base:Heap,K.In base->base.Ns mainGlobals mg->FnOk l.prog w K mg base CX0 5 fa fd ["_law_script"] (spD ⟨K,w⟩ m_law false):=by
 have e:=hfa.symm.trans (d14.m X G)
 cases e
 obtain⟨_,⟨_,_,kV,dc,pm,an,cd,ct,_,rfl,_,_⟩,_⟩:=id d14
 have y_bool:=PySem.W.mg_none_of X G z_bool
 have y_int:=PySem.W.mg_none_of X G z_int
 have y_isinstance:=PySem.W.mg_none_of X G z_isinstance
 have y_len:=PySem.W.mg_none_of X G z_len
 have y_list:=PySem.W.mg_none_of X G z_list
 have y_range:=PySem.W.mg_none_of X G z_range
 have y_reversed:=PySem.W.mg_none_of X G z_reversed
 have y_set:=PySem.W.mg_none_of X G z_set
 have y_sorted:=PySem.W.mg_none_of X G z_sorted
 have y_tuple:=PySem.W.mg_none_of X G z_tuple
 refine⟨PySem.W.fnOf "law" "law" (defArgs s_law) (defBody s_law) (defScope s_law) .none kV dc pm an cd ct,fun s v=>.of_eq rfl,fun base _ _=>?_⟩
 have co:∀{x st f fd k ps sp},DF K x st f fd->FnOk l.prog w K mg base CX0 k f fd ps sp->(∀(kV doc pm:Value) (an:Option Addr) (cdv ct:Value) (us:List Value),us.length=ps.length->bindArgs (PySem.W.fnOf x x (defArgs st) (defBody st) (defScope st) .none kV doc pm an cdv ct) ⟨us,[]⟩=pure (ps.zip us))->Cal l.prog w K mg base k x ps sp:=fun d o b=>d.cal X G o b
 have R_L_digit:=co d0 (ok_L_digit d0.2) (by trivial)
 have R_L_cells:=co d2 (ok_L_cells d2.2 y_range) (by trivial)
 have R_row_by_row:=co d5 (ok_row_by_row d5.2 y_set y_sorted) (by trivial)
 have R_is_next:=co d6 (ok_is_next d6.2) (by trivial)
 have R_L_cell_at:=co d9 (ok_L_cell_at d9.2 y_len) (by trivial)
 have R_L_tuples:=co d11 (ok_L_tuples d11.2 y_list y_isinstance y_len y_tuple y_bool y_int) (by trivial)
 have R_L_is_stretch:=co d12 (ok_L_is_stretch d12.2 y_range) (by trivial)
 have R_L_cells_by:=co d1 (ok_L_cells_by d1.2 (R_L_digit.mono (by decide)) y_range) (by trivial)
 have R_L_box_of:=co d3 (ok_L_box_of d3.2 (R_L_digit.mono (by decide))) (by trivial)
 have R_stretches_of:=co d7 (ok_stretches_of d7.2 (R_row_by_row.mono (by decide)) (R_is_next.mono (by decide)) y_len) (by trivial)
 have R_L_big:=co d10 (ok_L_big d10.2 (R_L_cell_at.mono (by decide)) y_range) (by trivial)
 have R_L_drawn:=co d4 (ok_L_drawn d4.2 (R_L_digit.mono (by decide)) (R_L_cells_by.mono (by decide)) (R_L_cells.mono (by decide)) (R_L_box_of.mono (by decide)) y_range) (by trivial)
 have R_blocks_of:=co d8 (ok_blocks_of d8.2 (R_stretches_of.mono (by decide)) y_len) (by trivial)
 have R_L_right:=co d13 (ok_L_right d13.2 (R_L_tuples.mono (by decide)) (R_L_is_stretch.mono (by decide)) y_sorted y_range y_set lm) (by trivial)
 exact ok_law d14.2 (R_L_big.mono (by decide)) (R_L_drawn.mono (by decide)) (R_blocks_of.mono (by decide)) (R_L_right.mono (by decide)) y_list y_reversed
theorem entry{K:KW}{H:Hp}{a:Addr}{ns:List Int}{Q:VK}{X:XK}(hS:SqL K H a (ns.map V.int))(hT:H lmA=some (.exo lmPhi))(h63:ns.length<=63)(q:∀H',H' lmA=some (.exo lmPhi)->Q (.bl true) H'):spD K m_law false [.ref a] H Q X:=by
 obtain⟨ls,e⟩:=m_law_holds ns h63
 refine⟨fun _=>False,fun _=>False,[.c (ns.map PyData.int)],.bool true,ls,⟨rfl,fun i x e=>?_,fun i x e=>?_,fun i x e=>?_,fun i j xs ys b e=>?_,fun _ h=>h.elim,fun _ h=>h.elim,GR.nil (hid_iff.mpr ⟨fun h=>h,hT⟩) fun i x e=>?_⟩,e,fun v H' r' _ res=>?_⟩
 ·match i,e with
  |0,e=>cases e
  |i+1,e=>cases e
 ·match i,e with
  |0,e=>exact absurd (Option.some.inj (Option.some.inj e)).symm Ow.not_c
  |i+1,e=>cases e
 ·match i,e with
  |0,e =>
   cases e
   exact⟨a,ns.map V.int,rfl,cst_same hS,isl_ints ns⟩
  |i+1,e=>cases e
 ·match i,e with
  |0,e=>exact absurd (Option.some.inj (Option.some.inj e)).symm Ow.not_c
  |i+1,e=>cases e
 ·match i,e with
  |0,e=>cases e
  |i+1,e=>cases e
 ·cases (show v = .bl true from res)
  exact q H' (hid_iff.mp r'.gr.1).2
theorem walk{l:PySem.W.OpenLaw}{q:Program}{loose:List Str}{XP:(Str->Option Value)->Heap->Prop}{YP:World->Heap->Prop}{d:DefRec}{K:Params->PySem.W.Frag}(hn:l.most=some 63)(hdf:d.params.defaults=[])
  {c:Addr} (hY:∀(w:World) (h:Heap),YP w h->(K w.params).In h/\PySem.W.CodeHd h c lmA/\h.get? lmA=some (PySem.W.tabObj #[])) (hPK:∀w:World,(K w.params).lookup lmA=none)
  (F : ∀ (w : World) (mg : Str -> Option Value) (fa : Addr) (h : Heap), (K w.params).In h -> h.Ns mainGlobals mg -> mg d.name = some (.ref fa) ->
   ∃fd:FuncData,(∀(s:Shared) (u:Value),BindsTo s fd ⟨[u],[]⟩ [("_law_script",u)])/\∀base:Heap,(K w.params).In base->base.Ns mainGlobals mg->FnOk l.prog w (K w.params) mg base CX0 5 fa fd ["_law_script"] (spD ⟨K w.params,w⟩ m_law false)) :
  PySem.W.WalkO q loose XP YP l.row.toRowW d [] (fun f vs=>PySem.call f vs) :=
 L2.walk_ofT (n:=63) (k:=5) (x:="_law_script") (CX:=fun _=>CX0) (sp:=fun w=>spD ⟨K w.params,w⟩ m_law false) hn (by decide) hdf ⟨rfl,by decide,by decide⟩ hY hPK F (fun _ _ a ns hl hO hS=>entry hS hO.1 hl fun _ h=>⟨rfl,h⟩) fun _ _ _ _ _ z=>z
end My
open PySem PySem.W PyProof.Rows
set_option maxRecDepth 100000 in
set_option maxHeartbeats 0 in
theorem PySem.Challenge.cw_scenemend_k06_blocks_holds : PySem.Challenge.rw_scenemend_k06_blocks.Holds := by
 w_on;o_law;k_head;(case hw=>w_witness2)
 k_fill
 refine My.walk (l:=PySem.Challenge.rw_scenemend_k06_blocks) (c:=98) rfl rfl (fun w h Y=>⟨PySem.W.km_in_of Y,PySem.W.codeHd_of_K (PySem.W.km_in_of Y) (by kernel_rfl),PySem.W.km_tabs_of Y _ (by decide)⟩) (fun w=>by kernel_rfl) ?F
 case F =>
  intro w mg fa h KX G hmg
  refine' My.all_mk KX G hmg ?d0 ?d1 ?d2 ?d3 ?d4 ?d5 ?d6 ?d7 ?d8 ?d9 ?d10 ?d11 ?d12 ?d13 ?d14 ?z_bool ?z_int ?z_isinstance ?z_len ?z_list ?z_range ?z_reversed ?z_set ?z_sorted ?z_tuple ?lm
  (case d0|d1|d2|d3|d4|d5|d6|d7|d8|d9|d10|d11|d12|d13|d14=>(refine' L2.DF.mk ?a ?b ?c ?d;(case a=>k_is);(case b=>k_is);(case c=>k_is);(case d=>k_is)))
  (case z_bool=>k_is)
  (case z_int=>k_is)
  (case z_isinstance=>k_is)
  (case z_len=>k_is)
  (case z_list=>k_is)
  (case z_range=>k_is)
  (case z_reversed=>k_is)
  (case z_set=>k_is)
  (case z_sorted=>k_is)
  (case z_tuple=>k_is)
  (case lm=>(refine⟨_,rfl,?_⟩;kernel_rfl))
