import PyProof.Rows.All
import Wide.All
import OpenK.AllK
import Wide.FinOn
import Lean
import PyProof.EqAt
import PyProof.EqKinds
import PyProof.TupleCall
import KE.KSortTup
import PyProof.EnumMake
import PyProof.EnumStmt
import PyProof.EnumFor
import PyProof.TupleKey
import PyProof.Rows.SetFrom
import PyProof.IsRules
import PyProof.DictWalks
import PyProof.FactsAll.set
import PyProof.CollectIter
import PyProof.ConsumeS
import PySem.SetOps
import KE.KDictList
import PyProof.DictRoadsH
import PyProof.DictFindH
import PyProof.Rows.SortRuns
import PyProof.Draws
import PyProof.Rows.TupIter
import PyProof.Rows.FStr
import PyProof.StrCalls2
import PyProof.SliceStr2
import PyProof.StrBlockI
import PyProof.StrLawsNeg
import PyProof.StrLawsJoin
import KE.KIntText
import PyProof.RaisesStr
import PyProof.ConsumeWalk
import PyProof.WalkInts
import PyProof.DictUpdate
import KE.KDictOf
import PyProof.Rows.Range3
import PyProof.DictTable
import PyProof.ListMulRoad
import PyProof.FactsAll.tuple_2
import PySem.Challenge.RW_scenemend_k26_scenes_vetted
set_option Elab.async false
set_option linter.all false
set_option maxRecDepth 100000
theorem oB{α β:Type}{x:Option α}{f:α->Option β}{b:β}(h:x.bind f=some b):∃a,x=some a/\f a=some b:=Option.bind_eq_some_iff.mp h
theorem oM{α β:Type}{x:Option α}{f:α->β}{b:β}(h:x.map f=some b):∃a,x=some a/\f a=b:=Option.map_eq_some_iff.mp h
section
namespace L2
open PySem PySem.Spec PyProof.Rows
abbrev Key:=Sum Int Str
def Yg:Key->Value->Bool
 |.inl k,v=>Value.isInt k v
 |.inr x,v=>Value.isStrOf x v
def jX(w:World):Key->Int
 |.inl k=>hashInt k
 |.inr x=>hashStr w x
theorem Dx:∀{k:Key} {v:Value},Yg k v=true->(∃i t,k=Sum.inl i/\v=Value.int i t)\/(∃x t,k=Sum.inr x/\v=Value.str x t)
 |.inl i,v,h=>by
  obtain⟨t,e⟩:=Value.isInt_shape (k:=i) (v:=v) h
  exact .inl ⟨i,t,rfl,e⟩
 |.inr x,v,h=>by
  obtain⟨t,e⟩:=Value.isStrOf_shape (x:=x) (v:=v) h
  exact .inr ⟨x,t,rfl,e⟩
theorem Zj(x:Str)(t:Tok):Yg (.inr x) (.str x t)=true:=by simp[Yg,Value.isStrOf]
theorem gK(a b:Int):decide ((Sum.inl a:Key)=Sum.inl b)=(a==b):=by
 by_cases e:a=b
 ·subst e;simp
 ·have h:¬(Sum.inl a:Key)=Sum.inl b:=fun q=>e (Sum.inl.inj q)
  rw[decide_eq_false h]
  exact(beq_eq_false_iff_ne.mpr e).symm
theorem gG(a b:Str):decide ((Sum.inr a:Key)=Sum.inr b)=decide (a=b):=by
 by_cases e:a=b
 ·subst e;simp
 ·have h:¬(Sum.inr a:Key)=Sum.inr b:=fun q=>e (Sum.inr.inj q)
  rw[decide_eq_false h,decide_eq_false e]
theorem gJ(a:Int)(b:Str):decide ((Sum.inl a:Key)=Sum.inr b)=false:=decide_eq_false (fun q=>nomatch q)
theorem gH(a:Str)(b:Int):decide ((Sum.inr a:Key)=Sum.inl b)=false:=decide_eq_false (fun q=>nomatch q)
def LB(prog:Program)(w:World):PySem.KeyKind prog w Key where
 is:=Yg
 hash:=jX w
 inj:=fun v a b ha hb=>by
  rcases Dx ha with ⟨i,t,rfl,rfl⟩|⟨x,t,rfl,rfl⟩
  ·rcases Dx hb with ⟨j,u,rfl,e⟩|⟨y,u,rfl,e⟩
   ·injection e with e1 _;rw[e1]
   ·exact nomatch e
  ·rcases Dx hb with ⟨j,u,rfl,e⟩|⟨y,u,rfl,e⟩
   ·exact nomatch e
   ·injection e with e1 _;rw[e1]
 byValue:=fun k v h=>by
  rcases Dx h with ⟨i,t,rfl,rfl⟩|⟨x,t,rfl,rfl⟩<;>rfl
 pyHash:=fun hv h=>by
  rcases Dx hv with ⟨i,t,rfl,rfl⟩|⟨x,t,rfl,rfl⟩
  ·exact wpAny_pyHash_int h
  ·exact wpAny_pyHash_str h
 eqBool:=fun hu hv h=>by
  rcases Dx hu with ⟨i,t,rfl,rfl⟩|⟨x,t,rfl,rfl⟩
  ·rcases Dx hv with ⟨j,u,rfl,rfl⟩|⟨y,u,rfl,rfl⟩
   ·rw[gK]at h;exact wpAny_eqBool_int h
   ·rw[gJ]at h;exact SeqAt.EqAt.int_str i t y u _ _ _ _ h
  ·rcases Dx hv with ⟨j,u,rfl,rfl⟩|⟨y,u,rfl,rfl⟩
   ·rw[gH]at h;exact SeqAt.EqAt.str_int x t j u _ _ _ _ h
   ·rw[gG]at h;exact wpAny_eqBool_str h
 «strs»:=fun k x t v h=>by
  rcases Dx h with ⟨i,u,rfl,e⟩|⟨y,u,rfl,e⟩
  ·exact nomatch e
  ·injection e with e1 _
   subst e1
   cases v<;>rfl
theorem WQ(prog:Program)(w:World)(x:Str)(t:Tok):(LB prog w).is (.inr x) (.str x t)=true:=Zj x t
end L2
namespace L2
open PySem PySem.Spec PyProof.Rows
inductive V where
 |non|bl (b:Bool)|int (i:Int)|str (x:Str)|byt (b:Array UInt8)|flt (b:UInt64)|ref (a:Addr)|ty (n:String)
 deriving DecidableEq
def RelV:V->Value->Prop
 |.non,u=>u=Value.none
 |.bl b,u=>u=Value.bool b
 |.int i,u=>∃t,u=Value.int i t
 |.str x,u=>∃t,u=Value.str x t
 |.byt b,u=>∃t,u=Value.bytes b t
 |.flt b,u=>∃t,u=Value.float b t
 |.ref a,u=>u=Value.ref a
 |.ty n,u=>u=Value.type n
abbrev Vals:List V->List Value->Prop:=Paired RelV
theorem Vals.length{xs:List V}{us:List Value}(r:Vals xs us):xs.length=us.length:=Paired.length r
theorem Vals.get:∀{xs:List V} {us:List Value} {i:Nat} {x:V},Vals xs us->xs[i]?=some x->∃u,us[i]?=some u/\RelV x u
 |_,_,_,_,.nil,e=>by simp at e
 |_,_,0,_,.cons r _,e=>by simp at e;subst e;exact⟨_,rfl,r⟩
 |_,_,i+1,x,.cons _ t,e=>by
  obtain⟨u,h1,h2⟩:=Vals.get (i:=i) (x:=x) t (by simpa using e)
  exact⟨u,by simpa using h1,h2⟩
theorem Vals.append:∀{xs ys:List V} {us ws:List Value},Vals xs us->Vals ys ws->Vals (xs++ys) (us++ws)
 |_,_,_,_,.nil,s=>s
 |_,_,_,_,.cons r t,s=>.cons r (Vals.append t s)
theorem Vals.take:∀{xs:List V} {us:List Value} (n:Nat),Vals xs us->Vals (xs.take n) (us.take n)
 |_,_,0,_=>.nil
 |_,_,_+1,.nil=>.nil
 |_,_,n+1,.cons r t=>.cons r (Vals.take n t)
theorem Vals.drop:∀{xs:List V} {us:List Value} (n:Nat),Vals xs us->Vals (xs.drop n) (us.drop n)
 |_,_,0,r=>r
 |_,_,_+1,.nil=>.nil
 |_,_,n+1,.cons _ t=>Vals.drop n t
def gm:Option V->Option Value->Prop
 |some v,some u=>RelV v u
 |none,none=>True
 |_,_=>False
def KV{κ:Type}:List (κ×V)->List (κ×Value)->Prop:=Paired fun(p:κ×V) (q:κ×Value)=>p.1=q.1/\RelV p.2 q.2
def kV:Key->V
 |.inl i=>.int i
 |.inr x=>.str x
inductive HO where
 |lst (xs:List V)
 |tup (xs:List V)
 |dK (kvs:List (Key×V))|dT (kvs:List (List Key×V))
 |set (S:Int->Bool) (n:Nat)
 |ins (C dx:Addr) (fs:List (Str×V))
 |own (x:Addr)
 |xd (fs:List (Str×V))
 |met (f x:Addr)
 |rng (lo hi:Int)
 |frz (o:Obj) (u:HO)
 |tbl (ps:Array Value)
 |ext (φ:Heap->Prop)
abbrev Hp:=Addr->Option HO
def upd(H:Hp)(a:Addr)(o:HO):Hp:=fun b=>if b=a then some o else H b
theorem Bk{H:Hp}{a:Addr}{o:HO}:upd H a o a=some o:=by unfold upd;rw[if_pos rfl]
theorem CI{H:Hp}{a b:Addr}{o:HO}(h:b≠a):upd H a o b=H b:=by unfold upd;rw[if_neg h]
theorem B6{H:Hp}{a b:Addr}{o:HO}(h:H a=some o)(h':H b=none):a≠b:=by
 intro e;subst e;rw[h]at h';cases h'
section
variable (P:Program) (w:World)
def ObjOk(H:Hp)(h:Heap)(a:Addr):HO->Prop
 |.lst xs=>xs.length<=sizeLine/\∃(its:List Value) (n:Nat),Vals xs its/\h.get? a=some { cls:=.type "list",data:=.seq its.toArray n }
 |.tup xs=>xs.length<=sizeLine/\∃its:List Value,Vals xs its/\IsTup h a its.toArray
 |.dK kvs=>kvs.length<=sizeLine/\(a==sysModules)=false/\∃vs,KV kvs vs/\h.DictOf (LB P w) a vs
 |.dT kvs=>kvs.length<=sizeLine/\(a==sysModules)=false/\∃xs:List (List Key×Addr×Value),
   Paired (fun(p:List Key×V) (q:List Key×Addr×Value)=>p.1=q.1/\H q.2.1=some (.tup (p.1.map kV))/\RelV p.2 q.2.2) kvs xs /\
   ∃o es ep,h.get? a=some o/\o.ExactDict/\o.data = .dict es ep/\es.toList=xs.map (entryOfKey (tupleKind (LB P w)))/\(xs.map (·.1)).Nodup
 |.set S n=>h.SetOf (intKind P w) a S n
 |.ins C dx fs=>H dx=some (.own a)/\fs.length<=1000/\dx≠a/\h.get? a=some (PySem.W.instObj C dx) /\
   ∃mA,h.Ns1 dx mA/\(∀f,gm (fs.lookup f) (mA f))/\PySem.Within mA (fs.map (·.1))
 |.own _=>∃o,h.get? a=some o
 |.xd fs=>∃mA,h.Ns1 a mA/\∀f,gm (fs.lookup f) (mA f)
 |.rng lo hi=>∃t u v,h.get? a=some { cls:=.type "range",data:=.fields #[.int lo t,.int hi u,.int 1 v] }
 |.frz o u=>h.get? a=some o/\ObjOk H h a u
 |.tbl ps=>h.get? a=some { cls:=.none,data:=.fields ps }
 |.met f x=>h.get? a=some (PySem.W.methodObj (.ref f) (.ref x))
 |.ext φ=>φ h/\(∃o,h.get? a=some o)/\∀h1 h2:Heap,φ h1->(∀o,h1.get? a=some o->h2.get? a=some o)->φ h2
def HOk(H:Hp)(h:Heap):Prop:=∀a o,H a=some o->ObjOk P w H h a o
end
section
variable {P:Program} {w:World} {H H':Hp} {h h':Heap} {a:Addr} {o:HO}
theorem ObjOk.lt(x:ObjOk P w H h a o):a<h.objs.size:=by
 cases o with
 |lst xs=>obtain⟨_,_,_,_,e⟩:=x;exact Heap.lt_size e
 |tup xs=>obtain⟨_,_,_,p⟩:=x;exact p.lt
 |dK kvs=>obtain⟨_,_,_,_,o,_,_,e,_⟩:=x;exact Heap.lt_size e
 |dT kvs=>obtain⟨_,_,_,_,o,_,_,e,_⟩:=x;exact Heap.lt_size e
 |set S n=>obtain⟨o,_,_,_,e,_⟩:=x;exact Heap.lt_size e
 |ins C dx fs=>obtain⟨_,_,_,e,_⟩:=x;exact Heap.lt_size e
 |own y=>obtain⟨_,e⟩:=x;exact Heap.lt_size e
 |xd fs=>obtain⟨_,⟨_,_,_,e,_⟩,_⟩:=x;exact Heap.lt_size e
 |rng lo hi=>obtain⟨_,_,_,e⟩:=x;exact Heap.lt_size e
 |frz ob u=>obtain⟨e,_⟩:=x;exact Heap.lt_size e
 |tbl ps=>exact Heap.lt_size (show h.get? a=some _ from x)
 |met f y=>exact Heap.lt_size (show h.get? a=some _ from x)
 |ext φ=>obtain⟨_,⟨_,e⟩,_⟩:=x;exact Heap.lt_size e
theorem Paired.mapP{α β:Type}{F G:α->β->Prop}:∀{l₁:List α} {l₂:List β},Paired F l₁ l₂->(∀a b,F a b->G a b)->Paired G l₁ l₂
 |_,_,.nil,_=>.nil
 |_,_,.cons r t,f=>.cons (f _ _ r) (Paired.mapP t f)
theorem ObjOk.stay(x:ObjOk P w H h a o)(k:∀b u,(b=a\/H b=some (.own a))->h.get? b=some u->h'.get? b=some u)
  (ho:∀b,H b=some (.own a)->H' b=some (.own a)) (ht:∀b xs,H b=some (.tup xs)->H' b=some (.tup xs)):ObjOk P w H' h' a o:=by
 induction o with
 |lst xs=>obtain⟨z,its,n,r,e⟩:=x;exact⟨z,its,n,r,k _ _ (.inl rfl) e⟩
 |tup xs=>obtain⟨z,its,r,ob,e,c⟩:=x;exact⟨z,its,r,ob,k _ _ (.inl rfl) e,c⟩
 |dK kvs=>obtain⟨z,y,vs,r,ob,es,ep,e,c⟩:=x;exact⟨z,y,vs,r,ob,es,ep,k _ _ (.inl rfl) e,c⟩
 |dT kvs =>
  obtain⟨z,y,xs,r,ob,es,ep,e,c⟩:=x
  exact⟨z,y,xs,Paired.mapP r fun p q z=>⟨z.1,ht _ _ z.2.1,z.2.2⟩,ob,es,ep,k _ _ (.inl rfl) e,c⟩
 |set S n=>obtain⟨ob,es,ep,t,e,c⟩:=x;exact⟨ob,es,ep,t,k _ _ (.inl rfl) e,c⟩
 |ins C dx fs =>
  obtain⟨d,z,ne,e,mA,⟨od,es,ep,e2,c⟩,r⟩:=x
  exact⟨ho _ d,z,ne,k _ _ (.inl rfl) e,mA,⟨od,es,ep,k _ _ (.inr d) e2,c⟩,r⟩
 |own y=>obtain⟨ob,e⟩:=x;exact⟨ob,k _ _ (.inl rfl) e⟩
 |xd fs=>obtain⟨mA,⟨od,es,ep,e,c⟩,r⟩:=x;exact⟨mA,⟨od,es,ep,k _ _ (.inl rfl) e,c⟩,r⟩
 |rng lo hi=>obtain⟨t,u,v,e⟩:=x;exact⟨t,u,v,k _ _ (.inl rfl) e⟩
 |frz ob u ih=>obtain⟨e,q⟩:=x;exact⟨k _ _ (.inl rfl) e,ih q⟩
 |tbl ps =>
  have e:h.get? a=some { cls:=.none,data:=.fields ps }:=x
  show h'.get? a=some { cls:=.none,data:=.fields ps }
  exact k a _ (.inl rfl) e
 |met f y =>
  have e:h.get? a=some (PySem.W.methodObj (.ref f) (.ref y)):=x
  show h'.get? a=some (PySem.W.methodObj (.ref f) (.ref y))
  exact k a _ (.inl rfl) e
 |ext φ=>obtain⟨p,⟨o,e⟩,st⟩:=x;exact⟨st _ _ p fun o q=>k _ _ (.inl rfl) q,⟨o,k _ _ (.inl rfl) e⟩,st⟩
theorem HOk.lt(x:HOk P w H h)(e:H a=some o):a<h.objs.size:=(x a o e).lt
theorem HOk.fresh(x:HOk P w H h)(e:h.objs.size<=a):H a=none:=by
 cases q:H a with
 |none=>rfl
 |some u=>exact absurd (Nat.lt_of_lt_of_le (x.lt q) e) (Nat.lt_irrefl _)
theorem HOk.kept(x:HOk P w H h)(k:∀b u,h.get? b=some u->h'.get? b=some u):HOk P w H h':=fun a o e =>
 (x a o e).stay (fun b u _ q=>k b u q) (fun _ q=>q) fun _ _ q=>q
theorem HOk.laid(x:HOk P w H h)(k:∀b u,h.get? b=some u->h'.get? b=some u)(hp:h.objs.size<=a)(new:ObjOk P w (upd H a o) h' a o):HOk P w (upd H a o) h':=fun b u e=>by
 have hn:=x.fresh hp
 by_cases hb:b=a
 ·subst hb;rw[Bk]at e;cases e;exact new
 ·rw[CI hb]at e
  exact(x b u e).stay (fun c v _ q=>k c v q) (fun c q=>by rw[CI (B6 q hn)];exact q) fun c xs q=>by rw[CI (B6 q hn)];exact q
end
def Rd(H:Hp)(a:Addr)(u:HO):Prop:=H a=some u\/∃o,H a=some (.frz o u)
theorem Rd.ok{P:Program}{w:World}{H:Hp}{h:Heap}{a:Addr}{u:HO}(r:Rd H a u)(x:HOk P w H h):ObjOk P w H h a u:=by
 rcases r with r|⟨o,r⟩
 ·exact x a u r
 ·obtain⟨_,q⟩:=x a _ r
  exact q
def Mut:Option HO->Prop
 |some (.lst _)=>True
 |some (.dK _)=>True
 |some (.dT _)=>True
 |some (.set _ _)=>True
 |some (.ins _ _ _)=>True
 |some (.ext _)=>True
 |_=>False
section
variable {P:Program} {w:World} {H:Hp} {h h':Heap} {x e:Addr} {o':HO}
theorem HOk.write(ok:HOk P w H h)(mu:Mut (H x))(he:e=x\/H e=some (.own x))(k:∀b u,b≠e->h.get? b=some u->h'.get? b=some u)(heo:∃u,h'.get? e=some u)
  (new:ObjOk P w (upd H x o') h' x o'):HOk P w (upd H x o') h':=fun b u q=>by
 have nown:∀c y,H c=some (.own y)->c≠x:=fun c y r z=>by subst z;rw[r]at mu;exact mu
 have ntup:∀c xs,H c=some (.tup xs)->c≠x:=fun c xs r z=>by subst z;rw[r]at mu;exact mu
 by_cases hb:b=x
 ·subst hb;rw[Bk]at q;cases q;exact new
 ·rw[CI hb]at q
  by_cases hbe:b=e
  ·have q':H b=some (.own x):=by
    rcases he with z|z
    ·exact absurd (hbe.trans z) hb
    ·rw[hbe];exact z
   rw[q]at q';cases q'
   obtain⟨v,hv⟩:=heo
   exact⟨v,by rw[hbe];exact hv⟩
  ·refine(ok b u q).stay (fun c v hc r=>k c v ?_ r) (fun c r=>by rw[CI (nown c b r)];exact r) fun c xs r=>by rw[CI (ntup c xs r)];exact r
   rcases hc with rfl|hc
   ·exact hbe
   ·rintro rfl
    rcases he with z|z
    ·exact nown c b hc z
    ·rw[hc]at z;cases z;exact hb rfl
end
structure Un(fs ex:List Addr)(H H':Hp)(h h':Heap):Prop where
 keep:∀b o,h.get? b=some o->H b=none->b∉fs->b∉ex->h'.get? b=some o
 slot:∀b o,h.get? b=some o->H b=none->b∈fs->b∉ex->∃sl,h'.get? b=some { o with slots:=sl }
 free:∀b o,h.get? b=some o->H b=none->b∉ex->H' b=none
 there:∀b o,h.get? b=some o->b∉ex->∃o',h'.get? b=some o'
 tups:∀b xs,H b=some (.tup xs)->H' b=some (.tup xs)
 frzs:∀b o u,H b=some (.frz o u)->H' b=some (.frz o u)
 tbls:∀b ps,H b=some (.tbl ps)->∃more,H' b=some (.tbl (ps++more))
section
variable {fs fs' ex ex':List Addr} {H H1 H2:Hp} {h h1 h2 h':Heap} {a x e:Addr} {o:HO}
theorem Un.any(u:Un fs ex H H1 h h1){b:Addr}{ob:Obj}(q:h.get? b=some ob)(n:H b=none)(hx:b∉ex):∃sl,h1.get? b=some { ob with slots:=sl }:=by
 by_cases hb:b∈fs
 ·exact u.slot b ob q n hb hx
 ·exact⟨ob.slots,u.keep b ob q n hb hx⟩
theorem Un.trans(a:Un fs ex H H1 h h1)(b:Un fs ex H1 H2 h1 h2):Un fs ex H H2 h h2 where
 keep:=fun c ob q n hc hx=>b.keep c ob (a.keep c ob q n hc hx) (a.free c ob q n hx) hc hx
 slot:=fun c ob q n hc hx=>by
  obtain⟨sl,e1⟩:=a.slot c ob q n hc hx
  obtain⟨sl',e2⟩:=b.slot c _ e1 (a.free c ob q n hx) hc hx
  exact⟨sl',e2⟩
 free:=fun c ob q n hx=>by
  obtain⟨o',e1⟩:=a.there c ob q hx
  exact b.free c o' e1 (a.free c ob q n hx) hx
 there:=fun c ob q hx=>by
  obtain⟨o',e1⟩:=a.there c ob q hx
  exact b.there c o' e1 hx
 tups:=fun c xs q=>b.tups c xs (a.tups c xs q)
 frzs:=fun c ob xs q=>b.frzs c ob xs (a.frzs c ob xs q)
 tbls:=fun c ps q=>by
  obtain⟨m1,e1⟩:=a.tbls c ps q
  obtain⟨m2,e2⟩:=b.tbls c _ e1
  exact⟨m1++m2,by rw[e2,Array.append_assoc]⟩
theorem Un.kept(k:∀b u,h.get? b=some u->h'.get? b=some u):Un fs ex H H h h' :=
 ⟨fun b ob q _ _ _=>k b ob q,fun b ob q _ _ _=>⟨ob.slots,k b ob q⟩,fun _ _ _ n _=>n,fun b ob q _=>⟨ob,k b ob q⟩,fun _ _ q=>q,fun _ _ _ q=>q,fun _ ps q=>⟨#[],by rw[q];simp⟩⟩
theorem Un.refl:Un fs ex H H h h:=Un.kept fun _ _ q=>q
theorem Un.laid(k:∀b u,h.get? b=some u->h'.get? b=some u)(hp:h.objs.size<=a)(hn:H a=none):Un fs ex H (upd H a o) h h' where
 keep:=fun b u q _ _ _=>k b u q
 slot:=fun b u q _ _ _=>⟨u.slots,k b u q⟩
 free:=fun b u q n _=>by rw[CI (Nat.ne_of_lt (Nat.lt_of_lt_of_le (Heap.lt_size q) hp))];exact n
 there:=fun b u q _=>⟨u,k b u q⟩
 tups:=fun b xs q=>by rw[CI (B6 q hn)];exact q
 frzs:=fun b u xs q=>by rw[CI (B6 q hn)];exact q
 tbls:=fun b ps q=>⟨#[],by rw[CI (B6 q hn),q];simp⟩
theorem Un.write(mu:Mut (H x))(he:e=x\/H e=some (.own x))(k:∀b u,b≠e->h.get? b=some u->h'.get? b=some u)(heo:∃u,h'.get? e=some u):Un fs ex H (upd H x o) h h':=by
 have hx:∀b,H b=none->b≠x:=fun b n z=>by subst z;rw[n]at mu;exact mu
 have hb:∀b,H b=none->b≠e:=fun b n z=>by
  subst z
  rcases he with r|r
  ·exact hx b n r
  ·rw[n]at r;cases r
 have hm:∀b u,H b=some u->¬Mut (some u)->b≠x:=fun b u q nm z=>by subst z;rw[q]at mu;exact nm mu
 refine ⟨fun b u q n _ _ => k b u (hb b n) q, fun b u q n _ _ => ⟨u.slots, k b u (hb b n) q⟩, fun b u q n _ => by rw [CI (hx b n)]; exact n, fun b u q _ => ?_,
  fun b xs q=>by rw[CI (hm b _ q fun z=>z)];exact q,fun b u xs q=>by rw[CI (hm b _ q fun z=>z)];exact q,fun b ps q=>⟨#[],by rw[CI (hm b _ q fun z=>z),q];simp⟩⟩
 by_cases hbe:b=e
 ·subst hbe;exact heo
 ·exact⟨u,k b u hbe q⟩
end
def trk(h:Heap)(H:Hp):List Addr:=(List.range h.objs.size).filter fun a=>(H a).isSome
def VO(h:Heap)(H:Hp):Heap:=PySem.W.hideAll h (trk h H)
theorem Zl(h:Heap)(H:Hp):(VO h H).objs.size=h.objs.size:=PySem.W.hideAll_size _ _
theorem bO{h:Heap}{H:Hp}{b:Addr}{o:Obj}(e:h.get? b=some o)(n:H b=none):(VO h H).get? b=some o :=
 PySem.W.hideAll_get _ e fun hm=>by
  have q:(H b).isSome=true:=(List.mem_filter.mp hm).2
  rw[n]at q;simp at q
theorem cw{h:Heap}{H:Hp}{b:Addr}{o:Obj}(e:(VO h H).get? b=some o):h.get? b=some o/\H b=none:=by
 have e':h.get? b=some o:=PySem.W.of_hideAll (trk h H) e
 refine⟨e',?_⟩
 cases q:H b with
 |none=>rfl
 |some x =>
  have hm:b∈trk h H:=List.mem_filter.mpr ⟨List.mem_range.mpr (Heap.lt_size e'),by simp[q]⟩
  have z:(VO h H).get? b=none:=PySem.W.hideAll_none (trk h H) hm
  rw[z]at e;cases e
def dw(g h:Heap)(L:Addr):List (Addr×Obj):=(List.range h.objs.size).filterMap fun a=>if a=L\/(g.get? a).isSome=true then none else (h.get? a).map fun o=>(a,o)
def Fs(g h:Heap)(L d:Addr):List (Addr×Obj):=(dw g h L).filter fun p=>decide (p.1≠d)
end L2
namespace L2
open PySem PySem.Spec PyProof.Rows
structure Mod(K:PySem.W.Frag)(mg:Str->Option Value)(base:Heap):Prop where
 kin:K.In base
 glob:base.Ns mainGlobals mg
 blt:∃mb,base.Ns builtinsNs mb/\∀x:Str,x≠"__name__"->mb x=bootBuiltins x
 nolimit:base.NoLimit
structure Cx where
 prog:Program
 w:World
 K:PySem.W.Frag
 mg:Str->Option Value
 base:Heap
 A:Around
 N:List Str
 s₀:Shared
 H₀:Hp
 env:Env
 outer:List Env
 stack:List Env
 ex:List Addr
 fn:Str->Bool
 calm:Bool
 pn:List (Addr×Obj)
 xe:Value->Shared->Prop
def frs(l:List Env):List Addr:=l.filterMap (·.frame)
abbrev Cx.fs(X:Cx):List Addr:=frs X.outer
def Vis(sc:Scope)(x:Str):Prop:=sc.names.lookup x=some .local\/sc.names.lookup x=some .cell\/sc.names.lookup x=some .free
def Loc(sc:Scope)(x:Str):Prop:=sc.names.lookup x=some .local\/sc.names.lookup x=some .cell
def jg(env:Env)(h:Heap)(m:Str->Option Value)(x:Str)(u:Value):Prop :=
 (env.kindOf x=some .local/\m x=some u)\/((env.kindOf x=some .cell\/env.kindOf x=some .free)/\∃c,env.cells.lookup x=some c/\h.IsCell c (some u))
structure Cx.Ok(X:Cx):Prop where
 mod:Mod X.K X.mg X.base
 kind:X.env.scope.kind = .function
 glob:X.env.globals=mainGlobals
 blt:X.env.builtins=builtinsNs
 above:X.s₀.heap.objs.size<=X.env.locals
 inj:∀x y c,X.env.cells.lookup x=some c->X.env.cells.lookup y=some c->x=y
 has:∀x,(X.env.kindOf x=some .cell\/X.env.kindOf x=some .free)->∃c,X.env.cells.lookup x=some c
 cab:∀x c,X.fn x=true->X.env.cells.lookup x=some c->X.s₀.heap.objs.size<=c
 hd:X.calm=true->X.A.handled=none
 frames:X.A.frames=some X.stack
 stk:X.stack=X.outer\/(X.stack=X.env::X.outer/\X.env.frame=some X.env.locals)
 exf:∀b∈X.ex,b≠X.env.locals/\∀x c,X.env.cells.lookup x=some c->c≠b
 bs:∀b o,X.base.get? b=some o->X.s₀.heap.get? b=some o/\X.H₀ b=none
 bsz:X.base.objs.size<=X.s₀.heap.objs.size
 noex:∀b o,X.base.get? b=some o->b∉X.ex
 exfs:∀b∈X.ex,b∉X.fs
 funs:X.s₀.heap.FunFrames X.base X.outer
 frf:∀b∈X.fs,X.H₀ b=none
structure Inv(X:Cx)(pins:List (Addr×Obj))(σ:List (Option V))(H:Hp)(s:Shared):Prop where
 ok:X.Ok
 os:s.os=X.s₀.os
 bare:AllBare s.gens
 base:Un X.fs X.ex X.H₀ H X.s₀.heap s.heap
 loc:∃m,s.heap.Ns X.env.locals m/\∀(i:Nat) (x:Str) (v:V),X.N[i]?=some x->σ[i]?=some (some v)->Vis X.env.scope x->∃u,RelV v u/\jg X.env s.heap m x u
 cell:∀x c,X.env.cells.lookup x=some c->∃v,s.heap.IsCell c v
 free:H X.env.locals=none
 freeC:∀x c,X.env.cells.lookup x=some c->H c=none
 pin:∀p∈X.pn++pins,s.heap.get? p.1=some p.2/\H p.1=none/\p.1≠X.env.locals/\p.1∉X.fs/\∀v,p.2.data≠.cell v
 hok:HOk X.prog X.w H s.heap
 len:σ.length=X.N.length
section
variable {X:Cx} {pins:List (Addr×Obj)} {σ:List (Option V)} {H H':Hp} {s:Shared} {h':Heap}
theorem Cx.Ok.nofr(ok:X.Ok){b:Addr}{o:Obj}(e:X.base.get? b=some o):b∉X.fs:=fun hb=>by
 have:=(ok.funs.mem hb).1
 rw[e]at this;cases this
theorem Inv.bs(I:Inv X pins σ H s):∀b o,X.base.get? b=some o->s.heap.get? b=some o/\H b=none:=fun b o e =>
 ⟨I.base.keep b o (I.ok.bs b o e).1 (I.ok.bs b o e).2 (I.ok.nofr e) (I.ok.noex b o e),I.base.free b o (I.ok.bs b o e).1 (I.ok.bs b o e).2 (I.ok.noex b o e)⟩
theorem Inv.bk(I:Inv X pins σ H s):∀b o,X.base.get? b=some o->s.heap.get? b=some o:=fun b o e=>(I.bs b o e).1
theorem Inv.mod(I:Inv X pins σ H s):Mod X.K X.mg X.base:=I.ok.mod
theorem Inv.kIn(I:Inv X pins σ H s):X.K.In s.heap:=I.ok.mod.kin.keeps I.bk
theorem Inv.lt(I:Inv X pins σ H s):X.env.locals<s.heap.objs.size:=let ⟨_,hn,_⟩:=I.loc;hn.lt
theorem Inv.sz(I:Inv X pins σ H s):X.s₀.heap.objs.size<=s.heap.objs.size:=Nat.le_trans I.ok.above (Nat.le_of_lt I.lt)
theorem Inv.nofs(I:Inv X pins σ H s){a:Addr}(h:s.heap.objs.size<=a):a∉X.fs:=fun hb=>by
 obtain⟨_,o,ho,_⟩:=I.ok.funs.mem hb
 exact absurd (Nat.lt_of_lt_of_le (Heap.lt_size ho) (Nat.le_trans I.sz h)) (Nat.lt_irrefl _)
theorem Inv.cne(I:Inv X pins σ H s):∀x c,X.env.cells.lookup x=some c->c≠X.env.locals:=fun x c e z=>by
 obtain⟨v,o,ho,hd⟩:=I.cell x c e
 obtain⟨m,⟨o',es,ep,ho',hd',_⟩,_⟩:=I.loc
 rw[z,ho']at ho;cases ho;rw[hd']at hd;cases hd
theorem Inv.funs(I:Inv X pins σ H s):s.heap.FunFrames X.base X.outer:=by
 have all:∀(l:List Env),(∀b∈frs l,b∈X.fs)->X.s₀.heap.FunFrames X.base l->s.heap.FunFrames X.base l:=by
  intro l
  induction l with
  |nil=>intro _ _;trivial
  |cons env r ih =>
   intro hs hl
   obtain⟨hk,⟨L,o,hf,hn,ho,hd⟩,hr⟩:=hl
   have hL:L∈X.fs:=hs L (by unfold frs;rw[List.filterMap_cons,hf];exact List.mem_cons_self)
   obtain⟨sl,e⟩:=I.base.slot L o ho (I.ok.frf L hL) hL fun z=>I.ok.exfs L z hL
   exact⟨hk,⟨L,_,hf,hn,e,hd⟩,ih (fun b hb=>hs b (by unfold frs;rw[List.filterMap_cons,hf];exact List.mem_cons_of_mem _ hb)) hr⟩
 exact all X.outer (fun _ hb=>hb) I.ok.funs
theorem Inv.stack(I:Inv X pins σ H s):s.heap.FunFrames X.base X.stack:=by
 rcases I.ok.stk with e|⟨e,hf⟩
 ·rw[e];exact I.funs
 ·rw[e]
  obtain⟨m,hn,_⟩:=I.loc
  refine .cons (by rw[I.ok.kind];decide) hf hn ?_ I.funs
  exact Heap.get?_none_of_le (Nat.le_trans I.ok.bsz I.ok.above)
theorem Inv.stkSub(I:Inv X pins σ H s):∀b∈frs X.stack,b∈X.env.locals::X.fs:=fun b hb=>by
 rcases I.ok.stk with e|⟨e,hf⟩
 ·rw[e]at hb;exact List.mem_cons_of_mem _ hb
 ·rw[e]at hb
  unfold frs at hb
  rw[List.filterMap_cons,hf]at hb
  exact hb
theorem Inv.stkFree(I:Inv X pins σ H s):∀b∈frs X.stack,H b=none:=fun b hb=>by
 rcases List.mem_cons.mp (I.stkSub b hb)with e|hb
 ·rw[e];exact I.free
 ·obtain⟨_,o,ho,_⟩:=I.ok.funs.mem hb
  exact I.base.free b o ho (I.ok.frf b hb) fun z=>I.ok.exfs b z hb
theorem Inv.step{g':Array GenState}{t':Nat}{d':Drawn}{ch:List Addr}(I:Inv X pins σ H s)
  (hch:∀b∈ch,(b∈X.ex\/X.s₀.heap.objs.size<=b)/\b≠X.env.locals/\(∀x c,X.env.cells.lookup x=some c->c≠b)/\∀p∈X.pn++pins,p.1≠b)
  (keep:∀b o,b≠X.env.locals->b∉X.fs->b∉ch->s.heap.get? b=some o->H b=none->h'.get? b=some o)
  (slot:∀b o,b≠X.env.locals->b∈X.fs->b∉ch->s.heap.get? b=some o->H b=none->∃sl,h'.get? b=some { o with slots:=sl }) (free:∀b o,b∉ch->s.heap.get? b=some o->H b=none->H' b=none)
  (there:∀b o,b∉ch->s.heap.get? b=some o->∃o',h'.get? b=some o')
  (tups:∀b xs,H b=some (.tup xs)->H' b=some (.tup xs)) (frzs:∀b o u,H b=some (.frz o u)->H' b=some (.frz o u)) (tbls:∀b ps,H b=some (.tbl ps)->∃more,H' b=some (.tbl (ps++more)))
  (ns:∀m,s.heap.Ns X.env.locals m->h'.Ns X.env.locals m) (hok:HOk X.prog X.w H' h') (hg:AllBare g') :
  Inv X pins σ H' { s with heap:=h',gens:=g',drawn:=d',toks:=t' }:=by
 have neL:∀b o,X.s₀.heap.get? b=some o->b≠X.env.locals:=fun b o e=>Nat.ne_of_lt (Nat.lt_of_lt_of_le (Heap.lt_size e) I.ok.above)
 have neC:∀b o,X.s₀.heap.get? b=some o->b∉X.ex->b∉ch:=fun b o e hx hb=>by
  rcases(hch b hb).1 with z|z
  ·exact hx z
  ·exact absurd (Nat.lt_of_lt_of_le (Heap.lt_size e) z) (Nat.lt_irrefl _)
 have cellK:∀x c,X.env.cells.lookup x=some c->∀v,s.heap.IsCell c v->h'.IsCell c v:=fun x c e v ⟨o,ho,hd⟩=>by
  have nch:c∉ch:=fun z=>(hch c z).2.2.1 x c e rfl
  by_cases hc:c∈X.fs
  ·obtain⟨sl,q⟩:=slot c o (I.cne x c e) hc nch ho (I.freeC x c e)
   exact⟨_,q,hd⟩
  ·exact⟨o,keep c o (I.cne x c e) hc nch ho (I.freeC x c e),hd⟩
 refine⟨I.ok,I.os,hg,⟨fun b o e n hb hx=>?_,fun b o e n hb hx=>?_,fun b o e n hx=>?_,fun b o e hx=>?_,fun b xs e=>tups b xs (I.base.tups b xs e),fun b o xs e=>frzs b o xs (I.base.frzs b o xs e),fun b ps e=>?_⟩,?_,fun x c e=>?_,?_,fun x c e=>?_,fun p hp=>?_,hok,I.len⟩
 ·exact keep b o (neL b o e) hb (neC b o e hx) (I.base.keep b o e n hb hx) (I.base.free b o e n hx)
 ·obtain⟨sl,e1⟩:=I.base.slot b o e n hb hx
  obtain⟨sl',e2⟩:=slot b _ (neL b o e) hb (neC b o e hx) e1 (I.base.free b o e n hx)
  exact⟨sl',e2⟩
 ·obtain⟨o',e1⟩:=I.base.there b o e hx
  exact free b o' (neC b o e hx) e1 (I.base.free b o e n hx)
 ·obtain⟨o',e1⟩:=I.base.there b o e hx
  exact there b o' (neC b o e hx) e1
 ·obtain⟨m1,e1⟩:=I.base.tbls b ps e
  obtain⟨m2,e2⟩:=tbls b _ e1
  exact⟨m1++m2,by rw[e2,Array.append_assoc]⟩
 ·obtain⟨m,hn,hl⟩:=I.loc
  refine⟨m,ns m hn,fun i x v e1 e2 e3=>?_⟩
  obtain⟨u,r,l⟩:=hl i x v e1 e2 e3
  refine⟨u,r,?_⟩
  rcases l with l|⟨k,c,e,z⟩
  ·exact .inl l
  ·exact .inr ⟨k,c,e,cellK x c e _ z⟩
 ·obtain⟨v,z⟩:=I.cell x c e
  exact⟨v,cellK x c e v z⟩
 ·obtain⟨m,⟨o,_,_,ho,_⟩,_⟩:=I.loc
  exact free _ o (fun z=>(hch _ z).2.1 rfl) ho I.free
 ·obtain⟨v,o,ho,hd⟩:=I.cell x c e
  exact free c o (fun z=>(hch c z).2.2.1 x c e rfl) ho (I.freeC x c e)
 ·obtain⟨e,n,ne,nf,d⟩:=I.pin p hp
  have nch:p.1∉ch:=fun z=>(hch p.1 z).2.2.2 p hp rfl
  exact⟨keep p.1 p.2 ne nf nch e n,free p.1 p.2 nch e n,ne,nf,d⟩
theorem Inv.un{t':Nat}(I:Inv X pins σ H s)(u:Un X.fs [] H H' s.heap h')(hok:HOk X.prog X.w H' h'):Inv X pins σ H' { s with heap:=h',toks:=t' }:=by
 obtain⟨m,⟨o,es,ep,ho,r⟩,_⟩:=id I.loc
 obtain⟨sl,hL⟩:=u.any ho I.free (by simp)
 exact I.step (g' := s.gens) (d' := s.drawn) (ch := []) (fun _ z => nomatch z) (fun b o _ hb _ e n => u.keep b o e n hb (by simp)) (fun b o _ hb _ e n => u.slot b o e n hb (by simp)) (fun b o _ e n => u.free b o e n (by simp)) (fun b o _ e => u.there b o e (by simp)) u.tups u.frzs u.tbls (fun m' hm => by
  obtain⟨o',es',ep',ho',r'⟩:=hm
  rw[ho]at ho';cases ho'
  exact⟨_,es',ep',hL,r'⟩) hok I.bare
theorem Inv.call{g':Array GenState}{t':Nat}{d':Drawn}{ch:List Addr}(I:Inv X pins σ H s)(u:Un (frs X.stack) ch H H' s.heap h')(hok:HOk X.prog X.w H' h')(hg:AllBare g')
  (hch:∀b∈ch,(b∈X.ex\/X.s₀.heap.objs.size<=b)/\b≠X.env.locals/\(∀x c,X.env.cells.lookup x=some c->c≠b)/\∀p∈X.pn++pins,p.1≠b) :
  Inv X pins σ H' { s with heap:=h',gens:=g',drawn:=d',toks:=t' }:=by
 obtain⟨m,⟨o,es,ep,ho,r⟩,_⟩:=id I.loc
 obtain⟨sl,hL⟩:=u.any ho I.free fun z=>(hch _ z).2.1 rfl
 exact I.step (ch := ch) hch (fun b o hL hb hc e n => u.keep b o e n (fun z => (List.mem_cons.mp (I.stkSub b z)).elim hL hb) hc) (fun b o _ _ hc e n => u.any e n hc) (fun b o hc e n => u.free b o e n hc) (fun b o hc e => u.there b o e hc) u.tups u.frzs u.tbls (fun m' hm => by
  obtain⟨o',es',ep',ho',r'⟩:=hm
  rw[ho]at ho';cases ho'
  exact⟨_,es',ep',hL,r'⟩) hok hg
theorem Inv.turned{t':Nat}{it:Addr}(I:Inv X pins σ H s)(k:∀b o,b≠it->s.heap.get? b=some o->h'.get? b=some o)(hn:H it=none)(hL:it≠X.env.locals)
  (h1:it∈X.ex\/X.s₀.heap.objs.size<=it) (h2:∀x c,X.env.cells.lookup x=some c->c≠it) (h3:∀p∈X.pn++pins,p.1≠it):Inv X pins σ H { s with heap:=h',toks:=t' }:=by
 have nit:∀b u,H b=some u->b≠it:=fun b u e z=>by rw[z,hn]at e;cases e
 refine I.step (g':=s.gens) (d':=s.drawn) (ch:=[it]) (fun b hb=>?_) (fun b o _ _ hc e _=>k b o (fun z=>hc (by simp[z])) e) (fun b o _ _ hc e _=>⟨o.slots,k b o (fun z=>hc (by simp[z])) e⟩) (fun _ _ _ _ n=>n)
  (fun b o hc e=>⟨o,k b o (fun z=>hc (by simp[z])) e⟩) (fun _ _ e=>e) (fun _ _ _ e=>e) (fun b ps e=>⟨#[],by rw[e];simp⟩) (fun m hm=>?_) (fun b u e=>?_) I.bare
 ·have e:b=it:=by simpa using hb
  subst e
  exact⟨h1,hL,h2,h3⟩
 ·obtain⟨o,es,ep,ho,r⟩:=hm
  exact⟨o,es,ep,k _ o (Ne.symm hL) ho,r⟩
 ·refine(I.hok b u e).stay (fun c v hc q=>k c v ?_ q) (fun _ q=>q) fun _ _ q=>q
  rcases hc with z|z
  ·rw[z];exact nit b u e
  ·exact nit c _ z
theorem Inv.tok(I:Inv X pins σ H s)(t:Nat):Inv X pins σ H { s with toks:=t }:=I.un (h':=s.heap) (t':=t) Un.refl I.hok
theorem Inv.kept{t':Nat}(I:Inv X pins σ H s)(k:∀b u,s.heap.get? b=some u->h'.get? b=some u):Inv X pins σ H { s with heap:=h',toks:=t' }:=I.un (Un.kept k) (I.hok.kept k)
theorem Inv.laid{a:Addr}{o:HO}{t':Nat}(I:Inv X pins σ H s)(k:∀b u,s.heap.get? b=some u->h'.get? b=some u)(hp:s.heap.objs.size<=a)(new:ObjOk X.prog X.w (upd H a o) h' a o) :
  Inv X pins σ (upd H a o) { s with heap:=h',toks:=t' }:=I.un (Un.laid k hp (I.hok.fresh hp)) (I.hok.laid k hp new)
theorem Inv.write{x e:Addr}{o:HO}{t':Nat}(I:Inv X pins σ H s)(mu:Mut (H x))(he:e=x\/H e=some (.own x))(k:∀b u,b≠e->s.heap.get? b=some u->h'.get? b=some u)(heo:∃u,h'.get? e=some u)
  (new:ObjOk X.prog X.w (upd H x o) h' x o):Inv X pins σ (upd H x o) { s with heap:=h',toks:=t' }:=I.un (Un.write mu he k heo) (I.hok.write mu he k heo new)
theorem Inv.pins_of{pins':List (Addr×Obj)}(I:Inv X pins σ H s)(h:∀p∈pins',s.heap.get? p.1=some p.2/\H p.1=none/\p.1≠X.env.locals/\p.1∉X.fs/\∀v,p.2.data≠.cell v):Inv X pins' σ H s :=
 ⟨I.ok,I.os,I.bare,I.base,I.loc,I.cell,I.free,I.freeC,fun p hp=>(List.mem_append.mp hp).elim (fun z=>I.pin p (List.mem_append_left _ z)) (h p),I.hok,I.len⟩
theorem WA{N:List Str}(hN:N.Nodup){i j:Nat}{x:Str}(a:N[i]?=some x)(b:N[j]?=some x):i=j:=by
 obtain⟨h1,e1⟩:=List.getElem?_eq_some_iff.mp a
 obtain⟨h2,e2⟩:=List.getElem?_eq_some_iff.mp b
 exact(List.getElem_inj hN).mp (e1.trans e2.symm)
theorem Oz{M:Model}{A:Around}{E:Value->Shared->Prop}{i:Nat}{x:Str}{v:V}{u:Value}{Q:Unit->Shared->Prop}(I:Inv X pins σ H s)(hN:X.N.Nodup)(hi:X.N[i]?=some x)(hx:Loc X.env.scope x)(r:RelV v u)
  (h:∀s',Inv X pins (σ.set i (some v)) H s'->(∃a,Heap.SameBut a s.heap s'.heap/\(a=X.env.locals\/X.env.cells.lookup x=some a))->Q () s') (hf:X.fn x=true\/X.env.scope.names.lookup x=some .local:=by first|exact .inl rfl|exact .inr rfl|assumption):wpAny M A (storeName X.env x u) Q E s:=by
 obtain⟨m,hn,hl⟩:=id I.loc
 have hcls:(X.env.scope.kind==.class||(X.env.scope.kind==.module&&X.env.locals != X.env.globals))=false:=by rw[I.ok.kind];rfl
 have hiσ:i<σ.length:=by rw[I.len];exact(List.getElem?_eq_some_iff.mp hi).1
 have cne:=I.cne
 have tracked:∀{a:Addr} {h':Heap},(∃o,s.heap.get? a=some o/\H a=none)->Heap.SameBut a s.heap h'->HOk X.prog X.w H h':=fun {a h'} ha hs b ob e=>by
  obtain⟨_,_,hfree⟩:=ha
  refine(I.hok b ob e).stay (fun c w' hc q=>(hs.2 c ?_).trans q) (fun _ q=>q) fun _ _ q=>q
  rintro rfl
  rcases hc with rfl|hc
  ·rw[hfree]at e;cases e
  ·rw[hfree]at hc;cases hc
 rcases hx with hk|hk
 ·refine wpAny_storeName_local hk hn (fun h' hn' hs=>?_) hcls
  obtain⟨oL,_,_,hoL,_⟩:=id hn
  refine h _ ⟨I.ok,I.os,I.bare,⟨fun b o e n hb hx=>?_,fun b o e n hb hx=>?_,I.base.free,fun b o e hx=>?_,I.base.tups,I.base.frzs,I.base.tbls⟩,⟨_,hn',fun j y v' e1 e2 e3=>?_⟩,fun y c e=>?_,I.free,I.freeC,fun p hp=>?_,tracked ⟨oL,hoL,I.free⟩ hs,by simpa using I.len⟩ ⟨_,hs,.inl rfl⟩
  ·exact(hs.2 b (Nat.ne_of_lt (Nat.lt_of_lt_of_le (Heap.lt_size e) I.ok.above))).trans (I.base.keep b o e n hb hx)
  ·obtain⟨sl,e1⟩:=I.base.slot b o e n hb hx
   exact⟨sl,(hs.2 b (Nat.ne_of_lt (Nat.lt_of_lt_of_le (Heap.lt_size e) I.ok.above))).trans e1⟩
  ·obtain⟨o',e1⟩:=I.base.there b o e hx
   exact⟨o',(hs.2 b (Nat.ne_of_lt (Nat.lt_of_lt_of_le (Heap.lt_size e) I.ok.above))).trans e1⟩
  ·by_cases hj:j=i
   ·subst hj
    rw[hi]at e1;cases e1
    rw[List.getElem?_set_self hiσ]at e2
    cases e2
    exact⟨u,r,.inl ⟨hk,by simp⟩⟩
   ·rw[List.getElem?_set_ne (Ne.symm hj)]at e2
    obtain⟨u',r',q⟩:=hl j y v' e1 e2 e3
    refine⟨u',r',?_⟩
    rcases q with ⟨k,e⟩|⟨k,c,e,z⟩
    ·refine .inl ⟨k,?_⟩
     have:y≠x:=fun e=>hj (WA hN e1 (e▸hi))
     simp[this,e]
    ·exact .inr ⟨k,c,e,z.sameBut hs (cne y c e)⟩
  ·obtain⟨w',z⟩:=I.cell y c e
   exact⟨w',z.sameBut hs (cne y c e)⟩
  ·obtain⟨e,n,ne,nf,d⟩:=I.pin p hp
   exact⟨(hs.2 p.1 ne).trans e,n,ne,nf,d⟩
 ·have hfn:X.fn x=true:=by
   rcases hf with z|z
   ·exact z
   ·rw[z]at hk;cases hk
  obtain⟨c,hc⟩:=I.ok.has x (.inl hk)
  obtain⟨w',z⟩:=I.cell x c hc
  refine wpAny_storeName_cell I.ok.kind hk hc z (fun h' hc' hs=>?_)
  obtain⟨oc,hoc,hocd⟩:=id z
  refine h { s with heap:=h' } ⟨I.ok,I.os,I.bare,⟨fun b o e n hb hx=>?_,fun b o e n hb hx=>?_,I.base.free,fun b o e hx=>?_,I.base.tups,I.base.frzs,I.base.tbls⟩,⟨m,hn.sameBut hs (Ne.symm (cne x c hc)),fun j y v' e1 e2 e3=>?_⟩,fun y c' e=>?_,I.free,I.freeC,fun p hp=>?_,tracked ⟨oc,hoc,I.freeC x c hc⟩ hs,by simpa using I.len⟩ ⟨c,hs,.inr hc⟩
  ·exact(hs.2 b (Nat.ne_of_lt (Nat.lt_of_lt_of_le (Heap.lt_size e) (I.ok.cab x c hfn hc)))).trans (I.base.keep b o e n hb hx)
  ·obtain⟨sl,e1⟩:=I.base.slot b o e n hb hx
   exact⟨sl,(hs.2 b (Nat.ne_of_lt (Nat.lt_of_lt_of_le (Heap.lt_size e) (I.ok.cab x c hfn hc)))).trans e1⟩
  ·obtain⟨o',e1⟩:=I.base.there b o e hx
   exact⟨o',(hs.2 b (Nat.ne_of_lt (Nat.lt_of_lt_of_le (Heap.lt_size e) (I.ok.cab x c hfn hc)))).trans e1⟩
  ·by_cases hj:j=i
   ·subst hj
    rw[hi]at e1;cases e1
    rw[List.getElem?_set_self hiσ]at e2
    cases e2
    exact⟨u,r,.inr ⟨.inl hk,c,hc,hc'⟩⟩
   ·rw[List.getElem?_set_ne (Ne.symm hj)]at e2
    obtain⟨u',r',q⟩:=hl j y v' e1 e2 e3
    refine⟨u',r',?_⟩
    rcases q with q|⟨k,c',e,z'⟩
    ·exact .inl q
    ·refine .inr ⟨k,c',e,z'.sameBut hs ?_⟩
     rintro rfl
     exact hj (WA hN e1 (I.ok.inj _ _ _ e hc▸hi))
  ·by_cases hcc:c'=c
   ·subst hcc;exact⟨_,hc'⟩
   ·obtain⟨w2,z2⟩:=I.cell y c' e
    exact⟨w2,z2.sameBut hs hcc⟩
  ·obtain⟨e,n,ne,nf,d⟩:=I.pin p hp
   refine⟨(hs.2 p.1 ?_).trans e,n,ne,nf,d⟩
   intro q
   rw[q,hoc]at e
   have q':oc=p.2:=Option.some.inj e
   exact d w' (by rw[<- q'];exact hocd)
theorem Kc{M:Model}{A:Around}{E:Value->Shared->Prop}{i:Nat}{x:Str}{v:V}{u:Value}{Q:Unit->Shared->Prop}(I:Inv X pins σ H s)(hN:X.N.Nodup)(hi:X.N[i]?=some x)(hx:Loc X.env.scope x)(r:RelV v u)
  (h:∀s',Inv X pins (σ.set i (some v)) H s'->Q () s') (hf:X.fn x=true\/X.env.scope.names.lookup x=some .local:=by first|exact .inl rfl|exact .inr rfl|assumption):wpAny M A (storeName X.env x u) Q E s :=
 Oz I hN hi hx r (fun s' I' _=>h s' I') hf
theorem Inv.call'{s':Shared}{ch:List Addr}(I:Inv X pins σ H s)(ho:s'.os=s.os)(u:Un (frs X.stack) ch H H' s.heap s'.heap)(hok:HOk X.prog X.w H' s'.heap)(hg:AllBare s'.gens)
  (hch:∀b∈ch,(b∈X.ex\/X.s₀.heap.objs.size<=b)/\b≠X.env.locals/\(∀x c,X.env.cells.lookup x=some c->c≠b)/\∀p∈X.pn++pins,p.1≠b):Inv X pins σ H' s':=by
 obtain⟨h',g',d',t',o'⟩:=s'
 have e:o'=s.os:=ho
 subst e
 exact I.call (g':=g') (t':=t') (d':=d') u hok hg hch
end
abbrev XK:=Value->Option Addr->Hp->Prop
abbrev St:=List (Option V)
abbrev VK:=V->Hp->Prop
abbrev TE:=St->Hp->VK->Prop
abbrev TT:=St->Hp->(Bool->Hp->Prop)->Prop
abbrev TA:=St->Hp->(List V->Hp->Prop)->Prop
structure Sf where
 nx:St->Hp->Prop
 rt:VK
 bk:St->Hp->Prop:=fun _ _=>False
 ct:St->Hp->Prop:=fun _ _=>False
abbrev TS:=Sf->St->Hp->Prop
def EP(X:Cx)(pins:List (Addr×Obj))(σ:St)(Q:VK)(u:Value)(s':Shared):Prop:=∃v H',Inv X pins σ H' s'/\RelV v u/\Q v H'
def TP(X:Cx)(pins:List (Addr×Obj))(σ:St)(Q:Bool->Hp->Prop)(b:Bool)(s':Shared):Prop:=∃H',Inv X pins σ H' s'/\Q b H'
def AP(X:Cx)(pins:List (Addr×Obj))(σ:St)(Q:List V->Hp->Prop)(us:List Value)(s':Shared):Prop:=∃vs H',Inv X pins σ H' s'/\Vals vs us/\Q vs H'
def SP(X:Cx)(pins:List (Addr×Obj))(D:Sf)(f:Flow)(s':Shared):Prop :=
 match f with
 |.next=>∃σ' H',Inv X pins σ' H' s'/\D.nx σ' H'
 |.brk=>∃σ' H',Inv X pins σ' H' s'/\D.bk σ' H'
 |.cont=>∃σ' H',Inv X pins σ' H' s'/\D.ct σ' H'
 |.ret u=>∃v σ' H',Inv X pins σ' H' s'/\RelV v u/\D.rt v H'
def PE(X:Cx)(e:Expr)(t:TE):Prop :=
 ∀(pins:List (Addr×Obj)) (s:Shared) (σ:St) (H:Hp) (Q:VK),Inv X pins σ H s->t σ H Q->wpAny (model X.prog X.w) X.A (eval e X.env) (EP X pins σ Q) X.xe s
def PT(X:Cx)(e:Expr)(t:TT):Prop :=
 ∀(pins:List (Addr×Obj)) (s:Shared) (σ:St) (H:Hp) (Q:Bool->Hp->Prop),Inv X pins σ H s->t σ H Q->wpAny (model X.prog X.w) X.A (isTrue e X.env (eval e X.env)) (TP X pins σ Q) X.xe s
def PW(X:Cx)(e:Expr)(t:TT):Prop :=
 ∀(whole:Sem Value) (pins:List (Addr×Obj)) (s:Shared) (σ:St) (H:Hp) (Q:Bool->Hp->Prop),Inv X pins σ H s->t σ H Q->wpAny (model X.prog X.w) X.A (isTrue e X.env whole) (TP X pins σ Q) X.xe s
theorem PW.pt{X:Cx}{e:Expr}{t:TT}(h:PW X e t):PT X e t:=h _
def PA(X:Cx)(es:List Expr)(t:TA):Prop :=
 ∀(pos:Pos) (pins:List (Addr×Obj)) (s:Shared) (σ:St) (H:Hp) (Q:List V->Hp->Prop),Inv X pins σ H s->t σ H Q->wpAny (model X.prog X.w) X.A (spliced (backTo pos (starEach es X.env))) (AP X pins σ Q) X.xe s
def PS(X:Cx)(st:Stmt)(t:TS):Prop :=
 ∀(pins:List (Addr×Obj)) (s:Shared) (σ:St) (H:Hp) (D:Sf),Inv X pins σ H s->t D σ H->wpAny (model X.prog X.w) X.A (exec st X.env) (SP X pins D) X.xe s
def PSs(X:Cx)(st:List Stmt)(t:TS):Prop :=
 ∀(pins:List (Addr×Obj)) (s:Shared) (σ:St) (H:Hp) (D:Sf),Inv X pins σ H s->t D σ H->wpAny (model X.prog X.w) X.A (execs st X.env) (SP X pins D) X.xe s
theorem thn{α:Type}{t:Sem α}{Q Q':α->Shared->Prop}{M:Model}{A:Around}{E:Value->Shared->Prop}{s:Shared}(h:wpAny M A t Q E s)(hQ:∀a s,Q a s->Q' a s):wpAny M A t Q' E s:=wpAny_mono h hQ fun _ _ x=>x
end L2
namespace L2
open PySem PySem.Spec PyProof.Rows
section
variable {X:Cx}
def J9(i:Nat):TE:=fun σ H Q=>∃v,σ[i]?=some (some v)/\Q v H
def tC(v:V):TE:=fun _ H Q=>Q v H
theorem af{i:Nat}{x:Str}{pos:Pos}(hN:X.N[i]?=some x)(hv:Vis X.env.scope x)(hd:(x==("__debug__":Str))=false:=by decide)(hcd:(x==("__classdict__":Str))=false:=by decide):PE X (.Name x pos) (J9 i):=by
 intro pins s σ H Q I h
 obtain⟨v,e,h⟩:=h
 obtain⟨m,hn,hl⟩:=I.loc
 obtain⟨u,r,l⟩:=hl i x v hN e hv
 have fin:EP X pins σ Q u s:=⟨v,H,I,r,h⟩
 rcases l with ⟨hk,hm⟩|⟨hk,c,hc,hcell⟩
 ·exact wpAny_Name (wpAny_loadName_local I.ok.kind hk hn hm fin) hd
 ·rcases hk with hk|hk
  ·exact wpAny_Name (wpAny_loadName_cell I.ok.kind hk hc hcell fin) hd
  ·exact wpAny_Name (wpAny_loadName_free I.ok.kind hk hc hcell fin hcd) hd
theorem AH{i j pos}:PE X (.Constant (.int i) j pos) (tC (.int i)):=fun _ _ _ H _ I h=>wpAny_Constant_int ⟨.int i,H,I.tok _,⟨_,rfl⟩,h⟩
theorem Ez{b j pos}:PE X (.Constant (.bool b) j pos) (tC (.bl b)):=fun _ _ _ H _ I h=>Constant_bool ⟨.bl b,H,I,rfl,h⟩
theorem RJ{j pos}:PE X (.Constant .none j pos) (tC .non):=fun _ _ _ H _ I h=>Constant_none ⟨.non,H,I,rfl,h⟩
theorem Aj{x j pos}:PE X (.Constant (.str x) j pos) (tC (.str x)):=fun _ _ _ H _ I h=>Calls.Constant_str ⟨.str x,H,I.tok _,⟨_,rfl⟩,h⟩
def Gl(X:Cx)(x:Str):Prop:=X.env.kindOf x=some .globalImplicit
theorem LG{E:Value->Shared->Prop}{pins:List (Addr×Obj)}{s:Shared}{σ:St}{H:Hp}{x:Str}{u:Value}{pos:Pos}{Q:Value->Shared->Prop}(I:Inv X pins σ H s)(hg:Gl X x)(hm:X.mg x=some u)(h:Q u s)
  (hd:(x==("__debug__":Str))=false:=by decide):wpAny (model X.prog X.w) X.A (eval (.Name x pos) X.env) Q E s :=
 Calls.Name_function_global I.ok.kind hg (Calls.loadGlobal_global (by rw[I.ok.glob];exact I.mod.glob.keeps I.bk) hm h) hd
theorem Rg{E:Value->Shared->Prop}{pins:List (Addr×Obj)}{s:Shared}{σ:St}{H:Hp}{x:Str}{u:Value}{pos:Pos}{Q:Value->Shared->Prop}(I:Inv X pins σ H s)(hg:Gl X x)(hm:X.mg x=none)(hv:bootBuiltins x=some u)(h:Q u s)
  (hn:x≠"__name__":=by decide) (hd:(x==("__debug__":Str))=false:=by decide):wpAny (model X.prog X.w) X.A (eval (.Name x pos) X.env) Q E s:=by
 obtain⟨mb,h1,h2⟩:=I.mod.blt
 exact Calls.Name_function_global I.ok.kind hg (Calls.loadGlobal_builtin (by rw[I.ok.glob];exact I.mod.glob.keeps I.bk) hm (by rw[I.ok.blt];exact h1.keeps I.bk) ((h2 x hn).trans hv) h) hd
theorem EE{x:Str}{v:V}{u:Value}{pos:Pos}(hg:Gl X x)(hm:X.mg x=some u)(r:RelV v u)(hd:(x==("__debug__":Str))=false:=by decide):PE X (.Name x pos) (tC v) :=
 fun _ _ _ H _ I h=>LG I hg hm ⟨v,H,I,r,h⟩ hd
theorem cj{x:Str}{v:V}{u:Value}{pos:Pos}(hg:Gl X x)(hm:X.mg x=none)(hv:bootBuiltins x=some u)(r:RelV v u)(hn:x≠"__name__":=by decide)(hd:(x==("__debug__":Str))=false:=by decide):PE X (.Name x pos) (tC v) :=
 fun _ _ _ H _ I h=>Rg I hg hm hv ⟨v,H,I,r,h⟩ hn hd
variable {a b:Expr} {ta tb:TE} {pos:Pos}
def PC(X:Cx)(op:CmpOp)(a b:Expr)(t:TE):Prop :=
 ∀(pins:List (Addr×Obj)) (s:Shared) (σ:St) (H:Hp) (Q:VK),Inv X pins σ H s->t σ H Q ->
  wpAny (model X.prog X.w) X.A (eval a X.env) (fun v s₁=>wpAny (model X.prog X.w) X.A (eval b X.env) (fun u s₂=>wpAny (model X.prog X.w) X.A (compareOp op v u) (EP X pins σ Q) X.xe s₂) X.xe s₁) X.xe s
def tB(t:TE):TT:=fun σ H Q=>t σ H fun x H1=>∃c,x = .bl c/\Q c H1
theorem B8{e:Expr}{t:TE}(h:PE X e t)(he:∀whole,isTrue e X.env whole=(do let v <- whole;standAt e.pos;holding [v] (truthy v)):=by intro _;rfl):PT X e (tB t):=by
 intro pins s σ H Q I hw
 refine isTrue_plain (thn (h pins s σ H _ I hw) fun v s1 ⟨x,H1,I1,r1,q1⟩=>?_) (he _)
 obtain⟨d,rfl,q⟩:=q1
 cases r1
 exact wpAny_truthy_bool ⟨H1,I1,q⟩
variable {tA tB':TT} {Fs:List Expr}
def iB(t u:TT):TT:=fun σ H Q=>t σ H fun c H1=>if c=true then u σ H1 Q else Q false H1
def tOr(t u:TT):TT:=fun σ H Q=>t σ H fun c H1=>if c=true then Q true H1 else u σ H1 Q
def hZ(t:TT):TT:=fun σ H Q=>t σ H fun c H1=>Q (!c) H1
theorem Hk(ha:PT X a tA):PW X (.BoolOp .And [a] pos) tA:=by
 intro wh pins s σ H Q I h
 refine isTrue_and (thn (ha pins s σ H Q I h) fun c s1 e=>?_)
 cases c with
 |true=>exact isTrue_and_nil e
 |false=>exact e
theorem Dj(ha:PT X a tA):PW X (.BoolOp .Or [a] pos) tA:=by
 intro wh pins s σ H Q I h
 refine isTrue_or (thn (ha pins s σ H Q I h) fun c s1 e=>?_)
 cases c with
 |false=>exact isTrue_or_nil e
 |true=>exact e
theorem KC(ha:PT X a tA)(hb:PW X (.BoolOp .And (b::Fs) pos) tB'):PW X (.BoolOp .And (a::b::Fs) pos) (iB tA tB'):=by
 intro wh pins s σ H Q I h
 refine isTrue_and (thn (ha pins s σ H _ I h) fun c s1 ⟨H1,I1,q1⟩=>?_)
 cases c with
 |true=>exact hb wh pins s1 σ H1 Q I1 q1
 |false=>exact⟨H1,I1,q1⟩
theorem EU(ha:PT X a tA)(hb:PW X (.BoolOp .Or (b::Fs) pos) tB'):PW X (.BoolOp .Or (a::b::Fs) pos) (tOr tA tB'):=by
 intro wh pins s σ H Q I h
 refine isTrue_or (thn (ha pins s σ H _ I h) fun c s1 ⟨H1,I1,q1⟩=>?_)
 cases c with
 |true=>exact⟨H1,I1,q1⟩
 |false=>exact hb wh pins s1 σ H1 Q I1 q1
theorem B5(ha:PT X a tA):PT X (.UnaryOp .Not a pos) (hZ tA):=by
 intro pins s σ H Q I h
 exact isTrue_not (ha pins s σ H (fun c H1=>Q (!c) H1) I h)
def eL(ta tb:TE):TE:=fun σ H Q=>ta σ H fun x H1=>∃c,x = .bl c/\if c=true then tb σ H1 Q else Q (.bl false) H1
def eJ(ta:TE):TE:=fun σ H Q=>ta σ H fun x H1=>∃c,x = .bl c/\Q (.bl (!c)) H1
theorem C1{op}{t:TE}(h:PE X a t):PE X (.BoolOp op [a] pos) t:=fun pins s σ H Q I hw=>BoolOp_one (h pins s σ H Q I hw)
theorem CG(ha:PE X a ta)(hb:PE X (.BoolOp .And (b::Fs) pos) tb):PE X (.BoolOp .And (a::b::Fs) pos) (eL ta tb):=by
 intro pins s σ H Q I h
 refine BoolOp_and (thn (ha pins s σ H _ I h) fun v s1 ⟨x,H1,I1,r1,q1⟩=>?_)
 obtain⟨c,rfl,q1⟩:=q1
 cases r1
 refine wpAny_truthy_bool ?_
 cases c with
 |true=>exact hb pins s1 σ H1 Q I1 q1
 |false=>exact⟨.bl false,H1,I1,rfl,q1⟩
theorem ag(ha:PE X a ta):PE X (.UnaryOp .Not a pos) (eJ ta):=by
 intro pins s σ H Q I h
 refine UnaryOp_ (thn (ha pins s σ H _ I h) fun v s1 ⟨x,H1,I1,r1,q1⟩=>?_)
 obtain⟨c,rfl,q1⟩:=q1
 cases r1
 exact not_of (wpAny_truthy_bool ⟨.bl (!c),H1,I1,rfl,q1⟩)
end
end L2
namespace L2
open PySem PySem.Spec PyProof.Rows
def SqL(K:PySem.W.Frag)(H:Hp)(a:Addr)(xs:List V):Prop :=
 Rd H a (.lst xs) \/
  ∃(o:Obj) (its:Array Value) (n:Nat),K.lookup a=some o/\o.cls = .type "list"/\o.dict=none/\o.data = .seq its n/\its.size<=sizeLine/\Vals xs its.toList
def SqT(K:PySem.W.Frag)(H:Hp)(a:Addr)(xs:List V):Prop :=
 Rd H a (.tup xs) \/
  ∃(o:Obj) (its:Array Value) (n:Nat),K.lookup a=some o/\o.cls = .type "tuple"/\o.data = .seq its n/\its.size<=sizeLine/\Vals xs its.toList
def jf:Value->Option V
 |.none=>some .non
 |.bool b=>some (.bl b)
 |.int i _=>some (.int i)
 |.str x _=>some (.str x)
 |.bytes b _=>some (.byt b)
 |.float b _=>some (.flt b)
 |.ref a=>some (.ref a)
 |.type n=>some (.ty n)
 |_=>none
theorem RelV.abs{x:V}{u:Value}(r:RelV x u):jf u=some x:=by
 cases x with
 |non=>cases r;rfl
 |bl _=>cases r;rfl
 |int _=>obtain⟨t,rfl⟩:=r;rfl
 |str _=>obtain⟨t,rfl⟩:=r;rfl
 |byt _=>obtain⟨t,rfl⟩:=r;rfl
 |flt _=>obtain⟨t,rfl⟩:=r;rfl
 |ref _=>cases r;rfl
 |ty _=>cases r;rfl
theorem RelV.inj{x y:V}{u:Value}(r:RelV x u)(q:RelV y u):x=y:=Option.some.inj (r.abs.symm.trans q.abs)
theorem Vals.inj:∀{xs ys:List V} {us:List Value},Vals xs us->Vals ys us->xs=ys
 |_,_,_,.nil,.nil=>rfl
 |_,_,_,.cons r t,.cons r' t'=>by rw[r.inj r',Vals.inj t t']
section
variable {X:Cx} {pins:List (Addr×Obj)} {σ:St} {H:Hp} {s:Shared} {a:Addr} {xs ys:List V}
theorem SqL.of{K:PySem.W.Frag}(h:H a=some (.lst xs)):SqL K H a xs:=.inl (.inl h)
theorem SqT.of{K:PySem.W.Frag}(h:H a=some (.tup xs)):SqT K H a xs:=.inl (.inl h)
theorem Inv.list(I:Inv X pins σ H s)(h:SqL X.K H a xs):∃its:List Value,Vals xs its/\PlainL s.heap a its.toArray/\xs.length<=sizeLine:=by
 rcases h with h|⟨o,its,n,hk,hc,hd,hs,hz,r⟩
 ·obtain⟨z,its,n,r,e⟩:=h.ok I.hok
  exact⟨its,r,⟨_,n,e,rfl,rfl,rfl⟩,z⟩
 ·refine⟨its.toList,r,⟨o,n,I.kIn a o hk,hc,hd,by simpa using hs⟩,?_⟩
  have e:=r.length
  simp only[Array.length_toList]at e
  omega
theorem Inv.tuple(I:Inv X pins σ H s)(h:SqT X.K H a xs):∃its:List Value,Vals xs its/\IsTup s.heap a its.toArray/\xs.length<=sizeLine:=by
 rcases h with h|⟨o,its,n,hk,hc,hs,hz,r⟩
 ·obtain⟨z,its,r,p⟩:=h.ok I.hok
  exact⟨its,r,p,z⟩
 ·refine⟨its.toList,r,⟨o,I.kIn a o hk,hc,n,by simpa using hs⟩,?_⟩
  have e:=r.length
  simp only[Array.length_toList]at e
  omega
theorem Inv.list_inj(I:Inv X pins σ H s)(h:SqL X.K H a xs)(h':SqL X.K H a ys):xs=ys:=by
 obtain⟨its,r,⟨o,n,e,_,_,d⟩,_⟩:=I.list h
 obtain⟨its',r',⟨o',n',e',_,_,d'⟩,_⟩:=I.list h'
 rw[e]at e';cases e'
 rw[d]at d'
 injection d' with d1 _
 have:its=its':=by simpa using congrArg Array.toList d1
 subst this
 exact r.inj r'
theorem Inv.tuple_inj(I:Inv X pins σ H s)(h:SqT X.K H a xs)(h':SqT X.K H a ys):xs=ys:=by
 obtain⟨its,r,⟨o,e,_,n,d⟩,_⟩:=I.tuple h
 obtain⟨its',r',⟨o',e',_,n',d'⟩,_⟩:=I.tuple h'
 rw[e]at e';cases e'
 rw[d]at d'
 injection d' with d1 _
 have:its=its':=by simpa using congrArg Array.toList d1
 subst this
 exact r.inj r'
end
abbrev Cx.wish(X:Cx)(E:Value->Shared->Prop):Cx:={ X with xe:=E }
abbrev Cx.nox(X:Cx):Cx:=X.wish fun _ _=>False
theorem Cx.Ok.wish{X:Cx}(ok:X.Ok)(E:Value->Shared->Prop):(X.wish E).Ok :=
 ⟨ok.mod,ok.kind,ok.glob,ok.blt,ok.above,ok.inj,ok.has,ok.cab,ok.hd,ok.frames,ok.stk,ok.exf,ok.bs,ok.bsz,ok.noex,ok.exfs,ok.funs,ok.frf⟩
theorem Cx.Ok.unwish{X:Cx}{E:Value->Shared->Prop}(ok:(X.wish E).Ok):X.Ok :=
 ⟨ok.mod,ok.kind,ok.glob,ok.blt,ok.above,ok.inj,ok.has,ok.cab,ok.hd,ok.frames,ok.stk,ok.exf,ok.bs,ok.bsz,ok.noex,ok.exfs,ok.funs,ok.frf⟩
section
variable {X:Cx} {pins:List (Addr×Obj)} {σ:St} {H:Hp} {s:Shared} {E:Value->Shared->Prop}
theorem Inv.wish(I:Inv X pins σ H s)(E:Value->Shared->Prop):Inv (X.wish E) pins σ H s:=⟨I.ok.wish E,I.os,I.bare,I.base,I.loc,I.cell,I.free,I.freeC,I.pin,I.hok,I.len⟩
theorem Inv.unwish(I:Inv (X.wish E) pins σ H s):Inv X pins σ H s:=⟨I.ok.unwish,I.os,I.bare,I.base,I.loc,I.cell,I.free,I.freeC,I.pin,I.hok,I.len⟩
theorem SP.unwish{D:Sf}{f:Flow}{s':Shared}(h:SP (X.wish E) pins D f s'):SP X pins D f s':=by
 cases f with
 |next=>obtain⟨σ',H',I,q⟩:=h;exact⟨σ',H',I.unwish,q⟩
 |brk=>obtain⟨σ',H',I,q⟩:=h;exact⟨σ',H',I.unwish,q⟩
 |cont=>obtain⟨σ',H',I,q⟩:=h;exact⟨σ',H',I.unwish,q⟩
 |ret u=>obtain⟨v,σ',H',I,r,q⟩:=h;exact⟨v,σ',H',I.unwish,r,q⟩
theorem PSs.nox{st:List Stmt}{t:TS}(h:PSs X.nox st t):PSs X st t:=fun pins s σ H D I hw =>
 wpAny_mono (h pins s σ H D (I.wish _) hw) (fun _ _ q=>q.unwish) fun _ _ z=>False.elim z
end
section
variable {X:Cx} {st:Stmt} {Fs:List Stmt} {t u:TS} {e:Expr} {te:TE} {pos:Pos}
def aJ:TS:=fun D σ H=>D.nx σ H
def W9(t u:TS):TS:=fun D σ H=>t { D with nx:=u D } σ H
theorem As:PSs X [] aJ:=fun _ _ σ H _ I h=>wpAny_execs_nil ⟨σ,H,I,h⟩
theorem AL(h1:PS X st t)(h2:PSs X Fs u):PSs X (st::Fs) (W9 t u):=by
 intro pins s σ H D I h
 refine wpAny_execs_cons (thn (h1 pins s σ H { D with nx:=u D } I h) fun f s1 q=>?_)
 cases f with
 |next =>
  obtain⟨σ',H',I',q⟩:=q
  exact h2 pins s1 σ' H' D I' q
 |ret v=>exact q
 |brk=>exact q
 |cont=>exact q
theorem AO(h1:PS X st t):PSs X [st] t:=by
 intro pins s σ H D I h
 refine wpAny_execs_cons (thn (h1 pins s σ H D I h) fun f s1 q=>?_)
 cases f with
 |next=>exact wpAny_execs_nil q
 |ret v=>exact q
 |brk=>exact q
 |cont=>exact q
theorem Inv.quiet{pins:List (Addr×Obj)}{σ:St}{H:Hp}{s:Shared}(I:Inv X pins σ H s):interactive X.env=false:=by simp[interactive,I.ok.kind]
def aM(te:TE):TS:=fun D σ H=>te σ H fun _ H1=>D.nx σ H1
theorem Hl(he:PE X e te)(hs:swapsWith e none pos.line X.env=pure false:=by rfl):PS X (.Expr e pos) (aM te):=by
 intro pins s σ H D I h
 exact wpAny_Expr_any (thn (he pins s σ H _ I h) fun v s1 ⟨x,H1,I1,r1,q1⟩=>⟨σ,H1,I1,q1⟩) I.quiet hs
def ZC(te:TE):TS:=fun D σ H=>te σ H D.rt
theorem Ac(he:PE X e te):PS X (.Return (some e) pos) (ZC te):=by
 intro pins s σ H D I h
 exact wpAny_Return_some (thn (he pins s σ H _ I h) fun v s1 ⟨x,H1,I1,r1,q1⟩=>⟨x,σ,H1,I1,r1,q1⟩)
def eH:TS:=fun D _ H=>D.rt .non H
theorem cb:PS X (.Return none pos) eH:=fun _ _ σ H _ I h=>wpAny_Return_none ⟨.non,σ,H,I,rfl,h⟩
def cX(c:TT)(t u:TS):TS:=fun D σ H=>c σ H fun b H1=>if b=true then t D σ H1 else u D σ H1
theorem BP{c:Expr}{a b:List Stmt}{tc:TT}(hc:PT X c tc)(ha:PSs X a t)(hb:PSs X b u):PS X (.If c a b pos) (cX tc t u):=by
 intro pins s σ H D I h
 refine wpAny_If (thn (hc pins s σ H _ I h) fun d s1 ⟨H1,I1,q1⟩=>?_)
 cases d with
 |true=>exact ha pins s1 σ H1 D I1 q1
 |false=>exact hb pins s1 σ H1 D I1 q1
def aK:TS:=fun _ _ _=>False
theorem aY:PS X st aK:=fun _ _ _ _ _ _ h=>h.elim
end
abbrev TG:=V->St->Hp->(St->Hp->Prop)->Prop
abbrev TGs:=List V->St->Hp->(St->Hp->Prop)->Prop
def PG(X:Cx)(target:Expr)(t:TG):Prop :=
 ∀(pins:List (Addr×Obj)) (s:Shared) (σ:St) (H:Hp) (v:V) (u:Value) (Q:St->Hp->Prop),Inv X pins σ H s->RelV v u->t v σ H Q ->
  wpAny (model X.prog X.w) X.A (assign target X.env u) (fun _ s'=>∃σ' H',Inv X pins σ' H' s'/\Q σ' H') X.xe s
def PGs(X:Cx)(ts:List Expr)(t:TGs):Prop :=
 ∀(pins:List (Addr×Obj)) (s:Shared) (σ:St) (H:Hp) (vs:List V) (us:List Value) (Q:St->Hp->Prop),Inv X pins σ H s->Vals vs us->t vs σ H Q ->
  wpAny (model X.prog X.w) X.A (assignInOrder ((assignEach ts X.env).map (·.2)) us) (fun _ s'=>∃σ' H',Inv X pins σ' H' s'/\Q σ' H') X.xe s
abbrev gk:=V->V->V->Hp->(Hp->Prop)->Prop
def jK(X:Cx)(t:gk):Prop :=
 ∀(pins:List (Addr×Obj)) (s:Shared) (σ:St) (H:Hp) (o i v:V) (ov iv u:Value) (Q:Hp->Prop),Inv X pins σ H s->RelV o ov->RelV i iv->RelV v u->t o i v H Q ->
  wpAny (model X.prog X.w) X.A (setItem ov iv u) (fun _ s'=>∃H',Inv X pins σ H' s'/\Q H') X.xe s
section
variable {X:Cx} {pos:Pos}
def NT(i:Nat):TG:=fun v σ H Q=>Q (σ.set i (some v)) H
theorem Aw{i:Nat}{x:Str}(hN:X.N.Nodup)(hi:X.N[i]?=some x)(hx:Loc X.env.scope x)(hf:X.fn x=true\/X.env.scope.names.lookup x=some .local:=by first|exact .inl rfl|exact .inr rfl|assumption):PG X (.Name x pos) (NT i):=by
 intro pins s σ H v u Q I r h
 exact wpAny_assign_Name (Kc I hN hi hx r (fun s' I'=>⟨_,H,I',h⟩) hf)
def ig:TGs:=fun vs σ H Q=>vs=[]/\Q σ H
def fE(t:TG)(u:TGs):TGs:=fun vs σ H Q=>∃v r,vs=v::r/\t v σ H fun σ' H'=>u r σ' H' Q
theorem Dg:PGs X [] ig:=by
 intro pins s σ H vs us Q I r h
 obtain⟨e,h⟩:=h
 subst e
 cases r
 exact assignInOrder_nil ⟨σ,H,I,h⟩
theorem BJ{e:Expr}{es:List Expr}{t:TG}{u:TGs}(h1:PG X e t)(h2:PGs X es u)
  (hs:(assignEach (e::es) X.env).map (·.2)=assign e X.env::(assignEach es X.env).map (·.2):=by rfl):PGs X (e::es) (fE t u):=by
 intro pins s σ H vs us Q I r h
 obtain⟨v,vr,e1,h⟩:=h
 subst e1
 cases r with
 |cons r rr =>
  rw[hs]
  refine assignInOrder_cons (thn (h1 pins s σ H _ _ _ I r h) fun _ s1 ⟨σ1,H1,I1,q1⟩=>?_)
  exact h2 pins s1 σ1 H1 _ _ Q I1 rr q1
def ic(K:PySem.W.Frag)(n:Nat)(t:TGs):TG:=fun v σ H Q=>∃a xs,v = .ref a/\SqT K H a xs/\xs.length=n/\t xs σ H Q
theorem Ew{es:List Expr}{k:Nat}{t:TGs}{n:Nat}(hc:X.calm=true)(h:PGs X es t)
  (hn:(assignEach es X.env).length=n:=by rfl) (hst:(assignEach es X.env).findIdx? (·.1)=none:=by rfl):PG X (.Tuple es k pos) (ic X.K n t):=by
 intro pins s σ H v u Q I r hw
 obtain⟨a,xs,e1,hq,hl,hw⟩:=hw
 subst e1
 cases r
 obtain⟨its,rv,ht,hz⟩:=I.tuple hq
 refine assign_Tuple_tuple (I.ok.hd hc) ht (by simp[hn,<- hl,rv.length]) hst fun h' hx=>?_
 have I1:Inv X pins σ H { s with heap:=h' }:=I.kept (t':=s.toks) fun b o e=>hx b o (Nat.ne_of_lt (Heap.lt_size e)) e
 exact h pins _ σ H xs _ Q I1 (by simpa using rv) hw
def ie(to ti:TE)(t:gk):TG:=fun v σ H Q=>to σ H fun o H1=>ti σ H1 fun i H2=>t o i v H2 fun H3=>Q σ H3
theorem ae{o i:Expr}{to ti:TE}{t:gk}(ho:PE X o to)(hi:PE X i ti)(hs:jK X t)
  (ha : ∀ v, assign (.Subscript o i pos) X.env v = (do
   let ov <- holding [v] (eval o X.env)
   let iv <- holding [v,ov] (eval i X.env)
   standAt pos
   holding [v,ov,iv] (setItem ov iv v)
   release [v,ov,iv] []):=by intro _;rfl):PG X (.Subscript o i pos) (ie to ti t):=by
 intro pins s σ H v u Q I r h
 rw[ha]
 refine wpAny_bind (wpAny_holding (thn (ho pins s σ H _ I h) fun ov s1 ⟨x,H1,I1,r1,q1⟩=>?_))
 refine wpAny_bind (wpAny_holding (thn (hi pins s1 σ H1 _ I1 q1) fun iv s2 ⟨y,H2,I2,r2,q2⟩=>?_))
 refine wpAny_bind (wpAny_standAt (wpAny_bind (wpAny_holding (thn (hs pins s2 σ H2 x y v ov iv u _ I2 r1 r2 r q2) fun _ s3 ⟨H3,I3,q3⟩=>?_))))
 exact wpAny_release ⟨σ,H3,I3,q3⟩
def Ua(te:TE)(g:TG):TS:=fun D σ H=>te σ H fun x H1=>g x σ H1 D.nx
theorem Ec{tg e:Expr}{te:TE}{g:TG}(he:PE X e te)(hg:PG X tg g)(hs:swapsWithSole [tg] e pos.line X.env=pure false:=by rfl)(hw:swappedStores [tg] e X.env=pure none:=by rfl)
  (h1:(assignEach [tg] X.env).map (·.2)=[assign tg X.env]:=by rfl):PS X (.Assign [tg] e pos) (Ua te g):=by
 intro pins s σ H D I h
 refine wpAny_Assign_stores (thn (he pins s σ H _ I h) fun v s1 ⟨x,H1,I1,r1,q1⟩=>?_) hs hw
 rw[h1]
 exact thn (hg pins s1 σ H1 x v _ I1 r1 q1) fun _ s2 q=>q
theorem Au{i:Nat}{x:Str}{e:Expr}{te:TE}{pos':Pos}(hN:X.N.Nodup)(hi:X.N[i]?=some x)(hx:Loc X.env.scope x)(he:PE X e te)(hs:swapsWith e (some (.Name x pos')) pos.line X.env=pure false:=by rfl)(hf:X.fn x=true\/X.env.scope.names.lookup x=some .local:=by first|exact .inl rfl|exact .inr rfl|assumption) :
  PS X (.Assign [.Name x pos'] e pos) (Ua te (NT i)):=by
 intro pins s σ H D I h
 refine wpAny_Assign_Name (thn (he pins s σ H _ I h) fun v s1 ⟨y,H1,I1,r1,q1⟩=>?_) hs
 exact Kc I1 hN hi hx r1 (fun s2 I2=>⟨_,H1,I2,q1⟩) hf
def hX(i j:Nat)(ta:TA):TS:=fun D σ H=>ta σ H fun vs H1=>∃v w,vs=[v,w]/\D.nx ((σ.set i (some v)).set j (some w)) H1
theorem aX{i j:Nat}{x y:Str}{a b:Expr}{ta:TA}{px py pt:Pos}{kt k2 pt2}(hc:X.calm=true)(hN:X.N.Nodup)(hi:X.N[i]?=some x)(hj:X.N[j]?=some y)(hij:i≠j)
  (hx:X.env.scope.names.lookup x=some .local) (hy:X.env.scope.names.lookup y=some .local) (ha:PA X [a,b] ta)
  (hw:swappedStores [.Tuple [.Name x px,.Name y py] kt pt] (.Tuple [a,b] k2 pt2) X.env=pure (some [x,y]))
  (hs:swapsWithSole [.Tuple [.Name x px,.Name y py] kt pt] (.Tuple [a,b] k2 pt2) pos.line X.env=pure false:=by rfl) :
  PS X (.Assign [.Tuple [.Name x px,.Name y py] kt pt] (.Tuple [a,b] k2 pt2) pos) (hX i j ta):=by
 intro pins s σ H D I h
 rw[exec_Assign_arm]
 refine wpAny_bind (wpAny_standAt ?_)
 rw[hs]
 refine wpAny_bind (wpAny_pure ?_)
 rw[if_neg (by decide)]
 refine wpAny_bind (Tuple_ (thn (ha _ pins s σ H _ I h) fun us s1 ⟨vs,H1,I1,r1,q1⟩=>?_))
 obtain⟨v,w,e1,q1⟩:=q1
 subst e1
 obtain⟨u1,u2,rfl,rv,rw'⟩:∃u1 u2,us=[u1,u2]/\RelV v u1/\RelV w u2:=by
  cases r1 with
  |cons p q =>
   cases q with
   |cons p' q' =>
    cases q'
    exact⟨_,_,rfl,p,p'⟩
 refine wpAny_newObj_type ?_ (by show 2<=sizeLine;decide)
 have I2:Inv X pins σ H1 { s1 with heap:=s1.heap.push { cls:=.type "tuple",data:=.seq [u1,u2].toArray } }:=I1.kept (t':=s1.toks) fun b o e=>Heap.get?_push_of_some _ e
 rw[hw]
 refine wpAny_bind (wpAny_pure ?_)
 show wpAny (model X.prog X.w) X.A (do rule "assign.swapped-stores";let items <- unpackItems (.ref s1.heap.objs.size) 2 none;assignInOrder [fun v=>bindName X.env y v,fun v=>bindName X.env x v] items.reverse;pure Flow.next) _ _ _
 refine wpAny_bind (wpAny_rule (wpAny_bind (unpackItems_tuple (items:=#[u1,u2]) (I.ok.hd hc) (IsTup.new s1.heap _) fun h' hx'=>?_)))
 have I3:=I2.kept (h':=h') (t':=s1.toks) fun b o e=>hx' b o (Nat.ne_of_lt (Heap.lt_size e)) e
 show wpAny _ _ (assignInOrder [fun v=>bindName X.env y v,fun v=>bindName X.env x v] [u2,u1] >>= fun _=>pure Flow.next) _ _ _
 refine wpAny_bind (assignInOrder_cons (wpAny_bindName (Kc I3 hN hj (.inl hy) rw' (fun s2 I4=>?_) (.inr hy))))
 refine assignInOrder_cons (wpAny_bindName (Kc I4 hN hi (.inl hx) rv (fun s3 I5=>assignInOrder_nil (wpAny_pure ?_)) (.inr hx)))
 rw[List.set_comm _ _ (Ne.symm hij)]at I5
 exact⟨_,H1,I5,q1⟩
end
section
variable {X:Cx} {pos:Pos}
def aH(c:TT)(tb:TS):TS:=fun D σ H=>∃W:Nat->St->Hp->Prop,(∃m,W m σ H)/\∀m σ H,W m σ H ->
 c σ H fun b H1=>if b=true then ∃N:St->Hp->Prop,(∀σ' H',N σ' H'->∃m',m'<m/\W m' σ' H')/\tb { D with nx:=N,ct:=N,bk:=D.nx } σ H1 else D.nx σ H1
theorem Ln{c:Expr}{body:List Stmt}{tc:TT}{tb:TS}(hp:PassesOwn (model X.prog X.w) X.A X.env X.xe)(hc:PT X c tc)(hb:PSs X body tb):PS X (.While c body [] pos) (aH tc tb):=by
 intro pins s σ H D I h
 obtain⟨W,⟨m0,w0⟩,turn⟩:=h
 refine wpAny_While (codeAny_whileLoop (fun n s'=>∃σ' H',Inv X pins σ' H' s'/\W n σ' H') ?_ m0 ⟨σ,H,I,w0⟩)
 rintro n s1 ⟨σ1,H1,I1,w1⟩
 refine wpAny_passesOwn hp (thn (hc pins s1 σ1 H1 _ I1 (turn n σ1 H1 w1)) fun b s2 ⟨H2,I2,q2⟩=>?_)
 cases b with
 |true =>
  obtain⟨N,hN,q2⟩:=q2
  rw[if_pos rfl]
  refine wpAny_passesOwn hp (thn (hb pins s2 σ1 H2 _ I2 q2) fun f s3 q3=>?_)
  cases f with
  |next =>
   obtain⟨σ3,H3,I3,n3⟩:=q3
   obtain⟨m',hm,w3⟩:=hN σ3 H3 n3
   exact⟨m',hm,σ3,H3,I3,w3⟩
  |cont =>
   obtain⟨σ3,H3,I3,n3⟩:=q3
   obtain⟨m',hm,w3⟩:=hN σ3 H3 n3
   exact⟨m',hm,σ3,H3,I3,w3⟩
  |brk=>exact q3
  |ret v=>exact q3
 |false =>
  rw[if_neg Bool.false_ne_true]
  exact wpAny_execs_nil ⟨σ1,H2,I2,q2⟩
end
structure It where
 go:Nat->Hp->Prop
 yld:Nat->Hp->V->Hp->Prop
 stop:Nat->Hp->Prop
def N5(X:Cx)(pins:List (Addr×Obj))(H:Hp)(b:Addr):Prop :=
 H b=none/\b≠X.env.locals/\b∉X.fs/\(b∈X.ex\/X.s₀.heap.objs.size<=b)/\(∀x c,X.env.cells.lookup x=some c->c≠b)/\∀p∈X.pn++pins,p.1≠b
theorem Inv.fpOk{X:Cx}{pins:List (Addr×Obj)}{σ:St}{H H':Hp}{s:Shared}{b:Addr}(I:Inv X pins σ H s)(hb:s.heap.objs.size<=b)(hn:H' b=none):N5 X pins H' b:=by
 refine⟨hn,Nat.ne_of_gt (Nat.lt_of_lt_of_le I.lt hb),I.nofs hb,.inr (Nat.le_trans I.sz hb),fun x c e z=>?_,fun p hp z=>?_⟩
 ·obtain⟨v,q⟩:=I.cell x c e
  exact absurd (Nat.lt_of_lt_of_le q.lt (by rw[z];exact hb)) (Nat.lt_irrefl _)
 ·exact absurd (Nat.lt_of_lt_of_le (Heap.lt_size (I.pin p hp).1) (by rw[z];exact hb)) (Nat.lt_irrefl _)
structure Turn(P:Program)(w:World)(K:PySem.W.Frag)(tg:Expr)(J:It)(fp:List Addr)(it:Addr)(tn:Nat->Heap->Prop):Prop where
 mem:it∈fp
 obj:∀i h,tn i h->∀b∈fp,∃o,h.get? b=some o/\∀v,o.data≠.cell v
 keep:∀i h h',tn i h->(∀b∈fp,∀o,h.get? b=some o->h'.get? b=some o)->tn i h'
 item:∀(X:Cx),X.prog=P->X.w=w->X.K=K->X.calm=true->∀(i:Nat) (pins:List (Addr×Obj)) (s:Shared) (σ:St) (H:Hp) (E:Value->Shared->Prop),Inv X pins σ H s->(∀b∈fp,N5 X pins H b)->tn i s.heap->J.go i H ->
  wpAny (model P w) X.A (pyNext (.ref it)) (fun r s1 => ∃ u, r = some u /\
   wpAny (model P w) X.A (letOwnedTupleGo tg (.ref it) u) (fun _ s2=>∃x H',Inv X pins σ H' s2/\RelV x u/\J.yld i H x H'/\tn (i+1) s2.heap/\∀b∈fp,H' b=none) E s1) E s
 done:∀(X:Cx),X.prog=P->X.w=w->X.K=K->X.calm=true->∀(i:Nat) (pins:List (Addr×Obj)) (s:Shared) (σ:St) (H:Hp) (E:Value->Shared->Prop),Inv X pins σ H s->(∀b∈fp,N5 X pins H b)->tn i s.heap->J.stop i H ->
  wpAny (model P w) X.A (pyNext (.ref it)) (fun r s1=>r=none/\Inv X pins σ H s1) E s
 self:∀(A:Around) (i:Nat) (s:Shared) (Q:Value->Shared->Prop) (E:Value->Shared->Prop),tn i s.heap->Q (.ref it) s->wpAny (model P w) A (pyIter (.ref it)) Q E s
abbrev TI:=St->Hp->(It->Hp->Prop)->Prop
def PIE(X:Cx)(pins:List (Addr×Obj))(σ:St)(tg:Expr)(R:It->Hp->Prop)(itv:Value)(s2:Shared):Prop :=
 ∃(it:Addr) (fp:List Addr) (tn:Nat->Heap->Prop) (J:It) (H':Hp),itv = .ref it/\Inv X pins σ H' s2/\Turn X.prog X.w X.K tg J fp it tn/\tn 0 s2.heap/\(∀b∈fp,N5 X pins H' b)/\R J H'
def PI(X:Cx)(tg iter:Expr)(wi:TI):Prop :=
 ∀(pins:List (Addr×Obj)) (s:Shared) (σ:St) (H:Hp) (R:It->Hp->Prop),Inv X pins σ H s->wi σ H R ->
  wpAny (model X.prog X.w) X.A (eval iter X.env) (fun v s1=>wpAny (model X.prog X.w) X.A (pyIter v) (PIE X pins σ tg R) X.xe s1) X.xe s
theorem Wb{M:Model}{A:Around}{E:Value->Shared->Prop}{s:Shared}{tg:Expr}{it:Addr}{u:Value}{o:Obj}{n:String}{vs:Array Value}{Q:Unit->Shared->Prop}(ho:s.heap.get? it=some o)(hc:o.cls = .type n)(hd:o.data = .fields vs)
    (hn:["enumerate","zip","dict_itemiterator","dict_reverseitemiterator","odict_iterator","itertools.zip_longest","itertools.pairwise"].contains n=false) (hQ:Q () s):wpAny M A (letOwnedTupleGo tg (.ref it) u) Q E s:=by
  unfold letOwnedTupleGo
  cases tg<;>first
    |exact wpAny_pure hQ
    | (cases u <;> first
        |exact wpAny_pure hQ
        | (refine wpAny_bind (wpAny_load ho ?_)
           rw[hc,hd]
           show wpAny M A (if (["enumerate","zip","dict_itemiterator","dict_reverseitemiterator","odict_iterator","itertools.zip_longest","itertools.pairwise"].contains n&&vs[0]?==some (rawInt _))=true then _ else _) Q E s
           rw[if_neg (by intro h;rw[hn,Bool.false_and]at h;cases h)]
           exact wpAny_pure hQ))
def Itl(K:PySem.W.Frag)(a:Addr):It :=
 ⟨fun i H=>∃xs x,SqL K H a xs/\xs[i]?=some x,fun i H x H'=>H'=H/\∀xs,SqL K H a xs->xs[i]?=some x,fun i H=>∃xs,SqL K H a xs/\xs.length<=i⟩
def Itt(K:PySem.W.Frag)(a:Addr):It :=
 ⟨fun i H=>∃xs x,SqT K H a xs/\xs[i]?=some x,fun i H x H'=>H'=H/\∀xs,SqT K H a xs->xs[i]?=some x,fun i H=>∃xs,SqT K H a xs/\xs.length<=i⟩
def Itr(lo:Int)(n:Nat):It:=⟨fun i _=>i<n,fun i H x H'=>H'=H/\x = .int (lo+i),fun i _=>n<=i⟩
theorem Oy{P:Program}{w:World}{K:PySem.W.Frag}{tg:Expr}(a it:Addr):Turn P w K tg (Itl K a) [it] it (fun i h=>h.IsListIter it a i) where
 mem:=by simp
 obj:=fun i h st b hb=>by
  have e:b=it:=by simpa using hb
  subst e
  obtain⟨o,e,c,d⟩:=st
  exact⟨o,e,fun v z=>by rw[d]at z;cases z⟩
 keep:=fun i h h' st k=>st.at fun o e=>k it (by simp) o e
 item:=by
  intro X hP hw hK hc i pins s σ H E I hf st hg
  subst hP hw hK
  obtain⟨xs,x,hq,hx⟩:=hg
  obtain⟨its,rv,p,hz⟩:=I.list hq
  obtain⟨u,hu,ru⟩:=rv.get hx
  obtain⟨f0,f1,f2,f3,f4,f5⟩:=hf it (by simp)
  refine wpAny_pyNext_list_item st p.isList (x:=u) (by simpa using hu) fun h' st' sb=>?_
  have I1:Inv X pins σ H { s with heap:=h' }:=I.turned (t':=s.toks) (fun b o hb e=>(sb.2 b hb).trans e) f0 f1 f3 f4 f5
  obtain⟨o,e,c,d⟩:=id st'
  exact⟨u,rfl,Wb (s:={ s with heap:=h' }) e c d (by decide) ⟨x,H,I1,ru,⟨rfl,fun ys hy=>by rw[I.list_inj hy hq];exact hx⟩,st',fun b hb=>(hf b hb).1⟩⟩
 done:=by
  intro X hP hw hK hc i pins s σ H E I hf st hg
  subst hP hw hK
  obtain⟨xs,hq,hx⟩:=hg
  obtain⟨its,rv,p,hz⟩:=I.list hq
  obtain⟨f0,f1,f2,f3,f4,f5⟩:=hf it (by simp)
  have hl:=rv.length
  exact wpAny_pyNext_list_end (I.ok.hd hc) st p.isList (by simp;omega) fun h' eb=>⟨rfl,I.turned (t':=s.toks) (fun b o hb e=>eb b o hb e) f0 f1 f3 f4 f5⟩
 self:=fun _ _ _ _ _ st h=>wpAny_pyIter_listiter st h
theorem W3{P:Program}{w:World}{K:PySem.W.Frag}{tg:Expr}(a it:Addr):Turn P w K tg (Itt K a) [it] it (fun i h=>h.IsTupleIter it a i) where
 mem:=by simp
 obj:=fun i h st b hb=>by
  have e:b=it:=by simpa using hb
  subst e
  obtain⟨o,e,c,d⟩:=st
  exact⟨o,e,fun v z=>by rw[d]at z;cases z⟩
 keep:=fun i h h' st k=>st.at fun o e=>k it (by simp) o e
 item:=by
  intro X hP hw hK hc i pins s σ H E I hf st hg
  subst hP hw hK
  obtain⟨xs,x,hq,hx⟩:=hg
  obtain⟨its,rv,p,hz⟩:=I.tuple hq
  obtain⟨u,hu,ru⟩:=rv.get hx
  obtain⟨f0,f1,f2,f3,f4,f5⟩:=hf it (by simp)
  refine wpAny_pyNext_tuple_item st (show s.heap.IsTuple a its.toArray from p) (x:=u) (by simpa using hu) fun h' st' sb=>?_
  have I1:Inv X pins σ H { s with heap:=h' }:=I.turned (t':=s.toks) (fun b o hb e=>(sb.2 b hb).trans e) f0 f1 f3 f4 f5
  obtain⟨o,e,c,d⟩:=id st'
  exact⟨u,rfl,Wb (s:={ s with heap:=h' }) e c d (by decide) ⟨x,H,I1,ru,⟨rfl,fun ys hy=>by rw[I.tuple_inj hy hq];exact hx⟩,st',fun b hb=>(hf b hb).1⟩⟩
 done:=by
  intro X hP hw hK hc i pins s σ H E I hf st hg
  subst hP hw hK
  obtain⟨xs,hq,hx⟩:=hg
  obtain⟨its,rv,p,hz⟩:=I.tuple hq
  obtain⟨f0,f1,f2,f3,f4,f5⟩:=hf it (by simp)
  have hl:=rv.length
  exact wpAny_pyNext_tuple_end (I.ok.hd hc) st (show s.heap.IsTuple a its.toArray from p) (by simp;omega) fun h' eb=>⟨rfl,I.turned (t':=s.toks) (fun b o hb e=>eb b o hb e) f0 f1 f3 f4 f5⟩
 self:=fun _ _ _ _ _ st h=>wpAny_pyIter_tupleiter st h
theorem W6{P:Program}{w:World}{K:PySem.W.Frag}{tg:Expr}(it:Addr)(lo:Int)(n:Nat):Turn P w K tg (Itr lo n) [it] it (fun i h=>IsRangeIter h it (lo+(i:Nat)*1) ((n:Int)-(i:Nat)) 1) where
 mem:=by simp
 obj:=fun i h st b hb=>by
  have e:b=it:=by simpa using hb
  subst e
  exact ⟨_, st, fun v z => by
   have z':Data.fields _=Data.cell v:=z
   cases z'⟩
 keep:=fun i h h' st k=>k it (by simp) _ st
 item:=by
  intro X hP hw hK hc i pins s σ H E I hf st hg
  subst hP hw hK
  obtain⟨f0,f1,f2,f3,f4,f5⟩:=hf it (by simp)
  have W:=Walks.range (prog:=X.prog) (w:=X.w) (I.ok.hd hc) it lo 1 n
  refine W.item i s _ _ hg st fun v h' tk hv st' kk=>?_
  obtain⟨t,rfl⟩:=hv
  have I1:Inv X pins σ H { s with heap:=h',toks:=tk }:=I.turned (fun b o hb e=>kk b o (by simpa using hb) e) f0 f1 f3 f4 f5
  refine⟨_,rfl,Wb (s:={ s with heap:=h',toks:=tk }) (n:="range_iterator") st' rfl rfl (by decide) ⟨.int (lo+i),H,I1,⟨t,?_⟩,⟨rfl,rfl⟩,st',fun b hb=>(hf b hb).1⟩⟩
  rw[Int.mul_one]
 done:=by
  intro X hP hw hK hc i pins s σ H E I hf st hg
  subst hP hw hK
  obtain⟨f0,f1,f2,f3,f4,f5⟩:=hf it (by simp)
  exact wpAny_pyNext_range_end (I.ok.hd hc) st (by have:n<=i:=hg;omega) fun h' eb=>⟨rfl,I.turned (t':=s.toks) (fun b o hb e=>eb b o hb e) f0 f1 f3 f4 f5⟩
 self:=fun _ _ _ _ _ st h=>wpAny_pyIter_rangeiter st h
end L2
namespace L2
open PySem PySem.Spec PyProof.Rows
section
variable {X:Cx} {tg:Expr}
def Ym(K:PySem.W.Frag)(tl:TE):TI:=fun σ H R=>tl σ H fun x H1=>∃a,x = .ref a/\(∃xs,SqL K H1 a xs)/\R (Itl K a) H1
def iY(K:PySem.W.Frag)(tl:TE):TI:=fun σ H R=>tl σ H fun x H1=>∃a,x = .ref a/\(∃xs,SqT K H1 a xs)/\R (Itt K a) H1
theorem Ed{l:Expr}{tl:TE}(hl:PE X l tl):PI X tg l (Ym X.K tl):=by
 intro pins s σ H R I h
 refine thn (hl pins s σ H _ I h) fun v s1 ⟨x,H1,I1,r1,q1⟩=>?_
 obtain⟨a,e,⟨xs,hq⟩,q⟩:=q1
 subst e
 cases r1
 obtain⟨its,rv,p,hz⟩:=I1.list hq
 refine wpAny_pyIter_list p.isList ?_
 refine⟨s1.heap.objs.size,[s1.heap.objs.size],_,_,H1,rfl,I1.kept (t':=s1.toks) fun b o e=>Heap.get?_push_of_some _ e,Oy a _,⟨_,Heap.get?_push_size _ rfl,rfl,rfl⟩,fun b hb=>?_,q⟩
 have e:b=s1.heap.objs.size:=by simpa using hb
 subst e
 exact I1.fpOk (Nat.le_refl _) (I1.hok.fresh (Nat.le_refl _))
theorem XF{l:Expr}{tl:TE}(hl:PE X l tl):PI X tg l (iY X.K tl):=by
 intro pins s σ H R I h
 refine thn (hl pins s σ H _ I h) fun v s1 ⟨x,H1,I1,r1,q1⟩=>?_
 obtain⟨a,e,⟨xs,hq⟩,q⟩:=q1
 subst e
 cases r1
 obtain⟨its,rv,p,hz⟩:=I1.tuple hq
 refine wpAny_pyIter_tuple (show s1.heap.IsTuple a its.toArray from p) ?_
 refine⟨s1.heap.objs.size,[s1.heap.objs.size],_,_,H1,rfl,I1.kept (t':=s1.toks) fun b o e=>Heap.get?_push_of_some _ e,W3 a _,⟨_,Heap.get?_push_size _ rfl,rfl,rfl⟩,fun b hb=>?_,q⟩
 have e:b=s1.heap.objs.size:=by simpa using hb
 subst e
 exact I1.fpOk (Nat.le_refl _) (I1.hok.fresh (Nat.le_refl _))
theorem aQ{pins:List (Addr×Obj)}{σ:St}{H:Hp}{s:Shared}{R:It->Hp->Prop}{E:Value->Shared->Prop}{lo hi:Int}{t u v:Tok}{tk:Nat}(I:Inv X pins σ H s)(h1:-(2 ^ 62)<=lo)(h2:lo<2 ^ 62)(h3:-(2 ^ 62)<=hi)(h4:hi<2 ^ 62)
  (q:R (Itr lo (hi-lo).toNat) H):wpAny (model X.prog X.w) X.A (pyIter (.ref s.heap.objs.size)) (PIE X pins σ tg R) E { s with heap:=s.heap.push { cls:=.type "range",data:=.fields #[.int lo t,.int hi u,.int 1 v] },toks:=tk }:=by
 refine wpAny_pyIter_range (IsRange.new ..) (small_one h1 h2 h3 h4) ?_
 have I1:Inv X pins σ H { s with heap:=s.heap.push { cls:=.type "range",data:=.fields #[.int lo t,.int hi u,.int 1 v] },toks:=tk }:=I.kept fun b o e=>Heap.get?_push_of_some _ e
 refine ⟨(s.heap.push { cls := .type "range", data := .fields #[.int lo t, .int hi u, .int 1 v] }).objs.size, [(s.heap.push { cls := .type "range", data := .fields #[.int lo t, .int hi u, .int 1 v] }).objs.size], _, _, H, rfl,
  I1.kept (t':=tk) fun b o e=>Heap.get?_push_of_some _ e,W6 _ lo (hi-lo).toNat,?_,fun b hb=>?_,q⟩
 ·have e1:lo+((0:Nat):Int)*1=lo:=by simp
  have e2:(((hi-lo).toNat:Nat):Int)-((0:Nat):Int)=Builtin.Range.rangeSize lo hi 1:=by rw[rangeSize_one];split<;>omega
  show IsRangeIter _ _ (lo+((0:Nat):Int)*1) ((((hi-lo).toNat:Nat):Int)-((0:Nat):Int)) 1
  rw[e1,e2]
  exact Heap.get?_push_size _ rfl
 ·have e:b=(s.heap.push { cls:=.type "range",data:=.fields #[.int lo t,.int hi u,.int 1 v] }).objs.size:=by simpa using hb
  subst e
  exact I1.fpOk (Nat.le_refl _) (I1.hok.fresh (Nat.le_refl _))
def fB(ta:TA):TI:=fun σ H R=>ta σ H fun vs H1=>∃j:Int,vs=[.int j]/\-(2 ^ 62)<=j/\j<2 ^ 62/\R (Itr 0 j.toNat) H1
theorem HJ{a:Expr}{ta:TA}{p pos:Pos}(hg:Gl X "range")(hm:X.mg "range"=none)(ha:PA X [a] ta)(hs:starEach [a] X.env=[(false,eval a X.env)]:=by rfl):PI X tg (.Call (.Name "range" p) [a] [] pos) (fB ta):=by
 intro pins s σ H R I h
 refine Call_ (Rg I hg hm boot_range (PyProof.Rows.callWith_type1 (thn (ha pos pins s σ H _ I h) fun us s1 ⟨vs,H1,I1,r1,q1⟩=>?_) hs rfl))
 obtain⟨j,e,q1,q2,q⟩:=q1
 subst e
 cases r1 with
 |cons r rr =>
  cases rr
  obtain⟨t,rfl⟩:=r
  exact call_range_1 (aQ I1 (by omega) (by omega) q1 q2 (by simpa using q))
def fh(wi:TI)(g:TG)(tb:TS):TS:=fun D σ H=>wi σ H fun J H1=>∃W:Nat->Nat->St->Hp->Prop,(∃m,W 0 m σ H1)/\∀i m σ H,W i m σ H ->
 (J.stop i H/\D.nx σ H)\/(J.go i H/\∃N:St->Hp->Prop,(∀σ' H',N σ' H'->∃m',m'<m/\W (i+1) m' σ' H')/\∀x H',J.yld i H x H'->g x σ H' fun σ2 H2=>tb { D with nx:=N,ct:=N,bk:=D.nx } σ2 H2)
def RI(fp:List Addr)(h:Heap):List (Addr×Obj):=fp.filterMap fun b=>(h.get? b).map fun o=>(b,o)
theorem LD{fp:List Addr}{h:Heap}{b:Addr}{o:Obj}(hb:b∈fp)(e:h.get? b=some o):(b,o)∈RI fp h:=List.mem_filterMap.mpr ⟨b,hb,by rw[e];rfl⟩
theorem ZS{fp:List Addr}{h:Heap}{p:Addr×Obj}(hp:p∈RI fp h):p.1∈fp/\h.get? p.1=some p.2:=by
 obtain⟨b,hb,e⟩:=List.mem_filterMap.mp hp
 cases q:h.get? b with
 |none=>rw[q]at e;cases e
 |some o =>
  rw[q]at e
  have e':(b,o)=p:=Option.some.inj e
  subst e'
  exact⟨hb,q⟩
theorem Inv.pinned{pins:List (Addr×Obj)}{σ:St}{H:Hp}{s:Shared}{fp:List Addr}(I:Inv X pins σ H s)(hf:∀b∈fp,N5 X pins H b)(ho:∀b∈fp,∃o,s.heap.get? b=some o/\∀v,o.data≠.cell v):Inv X (pins++RI fp s.heap) σ H s :=
 I.pins_of fun p hp=>(List.mem_append.mp hp).elim (fun z=>I.pin p (List.mem_append_right _ z)) fun z=>by
  obtain⟨hb,e⟩:=ZS z
  obtain⟨f0,f1,f2,_⟩:=hf p.1 hb
  obtain⟨o,e',d⟩:=ho p.1 hb
  rw[e]at e';cases e'
  exact⟨e,f0,f1,f2,d⟩
theorem Inv.unpinned{pins pl:List (Addr×Obj)}{σ:St}{H:Hp}{s:Shared}(I:Inv X (pins++pl) σ H s):Inv X pins σ H s:=I.pins_of fun p hp=>I.pin p (List.mem_append_right _ (List.mem_append_left _ hp))
theorem HI{iter:Expr}{body:List Stmt}{wi:TI}{g:TG}{tb:TS}{pos:Pos}(hp:PassesOwn (model X.prog X.w) X.A X.env X.xe)(hc:X.calm=true)(hi:PI X tg iter wi)(hg:PG X tg g)(hb:PSs X body tb)
  (hs:∀x,foldedSetIterable iter X.env x=pure x:=by intro _;rfl):PS X (.For tg iter body [] pos) (fh wi g tb):=by
 intro pins s σ H D I h
 refine wpAny_For (thn (hi pins s σ H _ I h) fun v s1 h1=>thn h1 fun itv s2 h2=>?_) hs
 obtain⟨it,fp,tn,J,H2,e,I2,T,st2,f2,W,⟨m0,w0⟩,turn⟩:=h2
 subst e
 -- what stays true of the iterator's objects through the loop
 have stat:∀{H':Hp},(∀b∈fp,H' b=none)->∀b∈fp,N5 X pins H' b:=fun hn b hb=>⟨hn b hb,(f2 b hb).2⟩
 refine codeAny_forLoop_any (fun n s'=>∃i σ' H',Inv X pins σ' H' s'/\tn i s'.heap/\(∀b∈fp,H' b=none)/\W i n σ' H') ?_ m0 ⟨0,σ,H2,I2,st2,fun b hb=>(f2 b hb).1,w0⟩
 rintro n s3 ⟨i,σ3,H3,I3,st3,fr3,w3⟩
 rcases turn i n σ3 H3 w3 with ⟨stop,qn⟩|⟨go,N,hN,step⟩
 ·refine wpAny_passesOwn hp (thn (T.done X rfl rfl rfl hc i pins s3 σ3 H3 X.xe I3 (stat fr3) st3 stop) fun r s4 ⟨hr,I4⟩=>?_)
  subst hr
  exact wpAny_execs_nil ⟨σ3,H3,I4,qn⟩
 ·refine wpAny_passesOwn hp (thn (T.item X rfl rfl rfl hc i pins s3 σ3 H3 X.xe I3 (stat fr3) st3 go) fun r s4 ⟨u,hr,h4⟩=>?_)
  subst hr
  refine wpAny_passesOwn hp (thn h4 fun _ s5 ⟨x,H5,I5,r5,y5,st5,fr5⟩=>?_)
  have I5':=I5.pinned (stat fr5) (T.obj _ _ st5)
  refine wpAny_passesOwn hp (thn (hg _ s5 σ3 H5 x u _ I5' r5 (step x H5 y5)) fun _ s6 ⟨σ6,H6,I6,q6⟩=>?_)
  refine wpAny_passesOwn hp (thn (hb _ s6 σ6 H6 _ I6 q6) fun f s7 q7=>?_)
  have again:∀{σ7:St} {H7:Hp},Inv X (pins++RI fp s5.heap) σ7 H7 s7->N σ7 H7->∃m,m<n/\∃i σ' H',Inv X pins σ' H' s7/\tn i s7.heap/\(∀b∈fp,H' b=none)/\W i m σ' H':=fun {σ7 H7} I7 n7=>by
   obtain⟨m',hm,w7⟩:=hN σ7 H7 n7
   refine⟨m',hm,i+1,σ7,H7,I7.unpinned,T.keep _ _ _ st5 fun b hb o e=>(I7.pin (b,o) (List.mem_append_right _ (List.mem_append_right _ (LD hb e)))).1,fun b hb=>?_,w7⟩
   obtain⟨o,e,d⟩:=T.obj _ _ st5 b hb
   exact(I7.pin (b,o) (List.mem_append_right _ (List.mem_append_right _ (LD hb e)))).2.1
  cases f with
  |next=>obtain⟨σ7,H7,I7,n7⟩:=q7;exact again I7 n7
  |cont=>obtain⟨σ7,H7,I7,n7⟩:=q7;exact again I7 n7
  |brk=>obtain⟨σ7,H7,I7,q7⟩:=q7;exact⟨σ7,H7,I7.unpinned,q7⟩
  |ret v=>obtain⟨x7,σ7,H7,I7,r7,q7⟩:=q7;exact⟨x7,σ7,H7,I7.unpinned,r7,q7⟩
end
end L2
namespace L2
open PySem PySem.Spec PyProof.Rows
abbrev R2:=V->V->Hp->VK->Prop
def OpR(X:Cx)(f:Value->Value->Sem Value)(r:R2):Prop :=
 ∀(pins:List (Addr×Obj)) (s:Shared) (σ:St) (H:Hp) (x y:V) (v u:Value) (Q:VK),Inv X pins σ H s->RelV x v->RelV y u->r x y H Q ->
  wpAny (model X.prog X.w) X.A (f v u) (EP X pins σ Q) X.xe s
def UnR(X:Cx)(f:Value->Sem Value)(r:V->Hp->VK->Prop):Prop :=
 ∀(pins:List (Addr×Obj)) (s:Shared) (σ:St) (H:Hp) (x:V) (v:Value) (Q:VK),Inv X pins σ H s->RelV x v->r x H Q ->
  wpAny (model X.prog X.w) X.A (f v) (EP X pins σ Q) X.xe s
def J8(X:Cx)(f:Value)(r:List V->Hp->VK->Prop):Prop :=
 ∀(pins:List (Addr×Obj)) (s:Shared) (σ:St) (H:Hp) (xs:List V) (us:List Value) (Q:VK),Inv X pins σ H s->Vals xs us->r xs H Q ->
  wpAny (model X.prog X.w) X.A (call f us) (EP X pins σ Q) X.xe s
def tOp(r:R2)(ta tb:TE):TE:=fun σ H Q=>ta σ H fun x H1=>tb σ H1 fun y H2=>r x y H2 Q
def tUn(r:V->Hp->VK->Prop)(ta:TE):TE:=fun σ H Q=>ta σ H fun x H1=>r x H1 Q
def rI(C:Int->Int->Prop)(g:Int->Int->V):R2:=fun x y H Q=>∃i j,x = .int i/\y = .int j/\C i j/\Q (g i j) H
def rI0(g:Int->Int->V):R2:=fun x y H Q=>∃i j,x = .int i/\y = .int j/\Q (g i j) H
def rU(g:Int->V):V->Hp->VK->Prop:=fun x H Q=>∃i,x = .int i/\Q (g i) H
section
variable {X:Cx} {a b c:Expr} {ta tb tc:TE} {pos:Pos}
theorem gg(ha:PE X a ta)(hb:PE X b tb){pins:List (Addr×Obj)}{s:Shared}{σ:St}{H:Hp}{R:V->V->Hp->Prop}(I:Inv X pins σ H s)
  (h:ta σ H fun x H1=>tb σ H1 fun y H2=>R x y H2) {Q:Value->Shared->Prop} {f:Value->Value->Sem Value}
  (hf:∀v u s2 x y H2,Inv X pins σ H2 s2->RelV x v->RelV y u->R x y H2->wpAny (model X.prog X.w) X.A (f v u) Q X.xe s2) :
  wpAny (model X.prog X.w) X.A (eval a X.env) (fun v s₁=>wpAny (model X.prog X.w) X.A (eval b X.env) (fun u s₂=>wpAny (model X.prog X.w) X.A (f v u) Q X.xe s₂) X.xe s₁) X.xe s:=by
 refine thn (ha pins s σ H _ I h) fun v s1 ⟨x,H1,I1,r1,q1⟩=>?_
 refine thn (hb pins s1 σ H1 _ I1 q1) fun u s2 ⟨y,H2,I2,r2,q2⟩=>?_
 exact hf v u s2 x y H2 I2 r1 r2 q2
theorem Ae{op:Operator}{r:R2}(ho:OpR X (binaryOp op) r)(ha:PE X a ta)(hb:PE X b tb):PE X (.BinOp a op b pos) (tOp r ta tb):=by
 intro pins s σ H Q I h
 exact wpAny_BinOp (gg ha hb I h fun v u s2 x y H2 I2 rx ry q=>ho pins s2 σ H2 x y v u Q I2 rx ry q)
theorem JT{op:UnaryOp}{r:V->Hp->VK->Prop}(ho:UnR X (unaryOp op) r)(ha:PE X a ta):PE X (.UnaryOp op a pos) (tUn r ta):=by
 intro pins s σ H Q I h
 exact UnaryOp_ (thn (ha pins s σ H _ I h) fun v s1 ⟨x,H1,I1,r1,q1⟩=>ho pins s1 σ H1 x v Q I1 r1 q1)
theorem opI{f:Value->Value->Sem Value}{C:Int->Int->Prop}{g:Int->Int->Int}
  (rule:∀(i j:Int) (t u:Tok) (s:Shared) (Q:Value->Shared->Prop) (E:Value->Shared->Prop),C i j->Q (.int (g i j) s.toks) { s with toks:=s.toks+1 }->wpAny (model X.prog X.w) X.A (f (.int i t) (.int j u)) Q E s) :
  OpR X f (rI C fun i j=>.int (g i j)):=by
 intro pins s σ H x y v u Q I rx ry h
 obtain⟨i,j,rfl,rfl,hc,q⟩:=h
 obtain⟨t,rfl⟩:=rx
 obtain⟨t',rfl⟩:=ry
 exact rule i j t t' s _ _ hc ⟨.int (g i j),H,I.tok _,⟨_,rfl⟩,q⟩
theorem iN{f:Value->Value->Sem Value}{g:Int->Int->Int}
  (rule:∀(i j:Int) (t u:Tok) (s:Shared) (Q:Value->Shared->Prop) (E:Value->Shared->Prop),Q (.int (g i j) s.toks) { s with toks:=s.toks+1 }->wpAny (model X.prog X.w) X.A (f (.int i t) (.int j u)) Q E s) :
  OpR X f (rI0 fun i j=>.int (g i j)):=by
 intro pins s σ H x y v u Q I rx ry h
 obtain⟨i,j,rfl,rfl,q⟩:=h
 obtain⟨t,rfl⟩:=rx
 obtain⟨t',rfl⟩:=ry
 exact rule i j t t' s _ _ ⟨.int (g i j),H,I.tok _,⟨_,rfl⟩,q⟩
theorem cu{f:Value->Value->Sem Value}{g:Int->Int->Bool}
  (rule:∀(i j:Int) (t u:Tok) (s:Shared) (Q:Value->Shared->Prop) (E:Value->Shared->Prop),Q (.bool (g i j)) s->wpAny (model X.prog X.w) X.A (f (.int i t) (.int j u)) Q E s) :
  OpR X f (rI0 fun i j=>.bl (g i j)):=by
 intro pins s σ H x y v u Q I rx ry h
 obtain⟨i,j,rfl,rfl,q⟩:=h
 obtain⟨t,rfl⟩:=rx
 obtain⟨t',rfl⟩:=ry
 exact rule i j t t' s _ _ ⟨.bl (g i j),H,I,rfl,q⟩
def cU(i j:Int):Prop:=0<=j/\j<=1000000/\i.natAbs<2 ^ 64
def CMul(i j:Int):Prop:=(-(2 ^ 64)<i/\i<2 ^ 64)\/(-(2 ^ 64)<j/\j<2 ^ 64)
theorem CMul.ok{i j:Int}(h:CMul i j):IntMulOk i j:=by
 rcases h with ⟨h1,h2⟩|⟨h1,h2⟩
 ·exact .of_left (intBits_le_64 h1 h2)
 ·exact .of_right (intBits_le_64 h1 h2)
theorem E7:OpR X (binaryOp .Add) (rI0 fun i j=>.int (i+j)):=iN fun _ _ _ _ _ _ _ q=>add_int q
theorem O6:OpR X (binaryOp .Sub) (rI0 fun i j=>.int (i-j)):=iN fun _ _ _ _ _ _ _ q=>sub_int q
theorem BV:OpR X (binaryOp .Mod) (rI (fun _ j=>0<j) fun i j=>.int (i % j)):=opI fun i j _ _ _ _ _ hc q=>by
 have h1:(0:Int)<j:=hc
 exact mod_int' (by omega) (by rw[Int.fmod_eq_emod_of_nonneg i (by omega)];exact q)
theorem au:OpR X (binaryOp .Pow) (rI cU fun i j=>.int (i ^ j.toNat)):=opI fun _ _ _ _ _ _ _ hc q=>pow_int_small hc.1 hc.2.1 hc.2.2 q
theorem unI{f:Value->Sem Value}{g:Int->Int}
  (rule:∀(i:Int) (t:Tok) (s:Shared) (Q:Value->Shared->Prop) (E:Value->Shared->Prop),Q (.int (g i) s.toks) { s with toks:=s.toks+1 }->wpAny (model X.prog X.w) X.A (f (.int i t)) Q E s) :
  UnR X f (rU fun i=>.int (g i)):=by
 intro pins s σ H x v Q I rx h
 obtain⟨i,rfl,q⟩:=h
 obtain⟨t,rfl⟩:=rx
 exact rule i t s _ _ ⟨.int (g i),H,I.tok _,⟨_,rfl⟩,q⟩
theorem Fn:UnR X (unaryOp .USub) (rU fun i=>.int (-i)):=unI fun _ _ _ _ _ q=>neg_int q
end
section
variable {X:Cx} {a b c:Expr} {ta tb tc:TE} {pos:Pos}
theorem VS{pins:List (Addr×Obj)}{σ:St}{H:Hp}{s:Shared}{Q:VK}{k k':Bool}(I:Inv X pins σ H s)(q:Q (.bl k) H)(e:k=k'):EP X pins σ Q (.bool k') s:=by
 subst e
 exact⟨.bl k,H,I,rfl,q⟩
theorem YU:OpR X (compareOp .Lt) (rI0 fun i j=>.bl (decide (i<j))):=cu fun _ _ _ _ _ _ _ q=>lt_int q
theorem Ki:OpR X (compareOp .LtE) (rI0 fun i j=>.bl (decide (i<=j))):=cu fun _ _ _ _ _ _ _ q=>le_int q
theorem OF:OpR X (compareOp .Gt) (rI0 fun i j=>.bl (decide (j<i))):=cu fun _ _ _ _ _ _ _ q=>gt_int q
theorem eW:OpR X (compareOp .GtE) (rI0 fun i j=>.bl (decide (j<=i))):=cu fun _ _ _ _ _ _ _ q=>ge_int q
theorem ZO:OpR X (compareOp .In) (fun x y H Q=>∃i j,x = .str i/\y = .str j/\Q (.bl (!(Builtin.Str.occurrences j i 0 j.length 1).isEmpty)) H):=by
 intro pins s σ H x y v u Q I rx ry h
 obtain⟨i,j,rfl,rfl,q⟩:=h
 obtain⟨t,rfl⟩:=rx
 obtain⟨t',rfl⟩:=ry
 exact in_str (VS I q rfl)
theorem av:OpR X (compareOp .Is) (fun x y H Q=>y = .non/\Q (.bl (decide (x = .non))) H):=by
 intro pins s σ H x y v u Q I rx ry h
 obtain⟨rfl,q⟩:=h
 cases ry
 refine is_none_gen (VS I q ?_)
 cases x<;>first
  |(cases rx;rfl)
  |(obtain⟨t,rfl⟩:=rx;rfl)
theorem YT:OpR X (compareOp .IsNot) (fun x y H Q=>y = .non/\Q (.bl (!decide (x = .non))) H):=by
 intro pins s σ H x y v u Q I rx ry h
 obtain⟨rfl,q⟩:=h
 cases ry
 refine isnot_none_gen (VS I q ?_)
 cases x<;>first
  |(cases rx;rfl)
  |(obtain⟨t,rfl⟩:=rx;rfl)
theorem Uc:OpR X (compareOp .NotIn) (fun x y H Q=>∃i j,x = .str i/\y = .str j/\Q (.bl (!(!(Builtin.Str.occurrences j i 0 j.length 1).isEmpty))) H):=by
 intro pins s σ H x y v u Q I rx ry h
 obtain⟨i,j,rfl,rfl,q⟩:=h
 obtain⟨t,rfl⟩:=rx
 obtain⟨t',rfl⟩:=ry
 exact notIn_str (VS I q rfl)
theorem Ap(b:Expr){op:CmpOp}(h:op≠.In:=by decide)(h2:op≠.NotIn:=by decide):behindInMarks op b=false:=by
 have e1:(op==CmpOp.In)=false:=by cases op<;>first|rfl|exact absurd rfl h
 have e2:(op==CmpOp.NotIn)=false:=by cases op<;>first|rfl|exact absurd rfl h2
 cases b<;>simp[behindInMarks,e1,e2]
theorem CL{op:CmpOp}{r:R2}(ho:OpR X (compareOp op) r)(ha:PE X a ta)(hb:PE X b tb)(hm:behindInMarks op b=false):PE X (.Compare a [op] [b] pos) (tOp r ta tb):=by
 intro pins s σ H Q I h
 exact wpAny_Compare1 (gg ha hb I h fun v u s2 x y H2 I2 rx ry q=>ho pins s2 σ H2 x y v u Q I2 rx ry q) hm
def Vp(t:TE):TT:=fun σ H Q=>t σ H fun x H'=>∃k,x = .bl k/\Q k H'
theorem Ah{op:CmpOp}{r:R2}(ho:OpR X (compareOp op) r)(ha:PE X a ta)(hb:PE X b tb)(hm:behindInMarks op b=false):PT X (.Compare a [op] [b] pos) (Vp (tOp r ta tb)):=by
 intro pins s σ H Q I h
 refine wpAny_isTrue_Compare1 (thn (ha pins s σ H _ I h) fun v s1 ⟨x, H1, I1, r1, q1⟩ => thn (hb pins s1 σ H1 _ I1 q1) fun u s2 ⟨y, H2, I2, r2, q2⟩ =>
  thn (ho pins s2 σ H2 x y v u _ I2 r1 r2 q2) fun c s3 ⟨z,H3,I3,r3,k,e,q3⟩=>?_) hm
 subst e
 cases r3
 exact wpAny_truthy_bool ⟨H3,I3,q3⟩
def XA(r r':R2)(ta tb tc:TE):TE:=fun σ H Q=>ta σ H fun x H1=>tb σ H1 fun y H2=>r x y H2 fun z H3=>∃k,z = .bl k /\
 (if k=true then tc σ H3 fun w' H4=>r' y w' H4 Q else Q (.bl false) H3)
theorem RL{op op':CmpOp}{r r':R2}(ho:OpR X (compareOp op) r)(ho':OpR X (compareOp op') r')(ha:PE X a ta)(hb:PE X b tb)(hc:PE X c tc)
  (hm:lastMarks [op,op'] [b,c]=false:=by with_unfolding_all rfl):PE X (.Compare a [op,op'] [b,c] pos) (XA r r' ta tb tc):=by
 intro pins s σ H Q I h
 refine Compare_chain (thn (ha pins s σ H _ I h) fun v s1 ⟨x, H1, I1, r1, q1⟩ => chain_link (thn (hb pins s1 σ H1 _ I1 q1) fun u s2 ⟨y, H2, I2, r2, q2⟩ =>
  thn (ho pins s2 σ H2 x y v u _ I2 r1 r2 q2) fun d s3 ⟨z,H3,I3,r3,k,e,q3⟩=>?_)) hm
 subst e
 cases r3
 refine wpAny_truthy_bool ?_
 cases k with
 |false=>exact ite_ff ⟨.bl false,H3,I3,rfl,q3⟩
 |true=>exact ite_tt (chain_last (thn (hc pins s3 σ H3 _ I3 q3) fun w' s4 ⟨z',H4,I4,r4,q4⟩=>ho' pins s4 σ H4 y z' u w' Q I4 r2 r4 q4))
theorem OB{op op':CmpOp}{r r':R2}(ho:OpR X (compareOp op) r)(ho':OpR X (compareOp op') r')(ha:PE X a ta)(hb:PE X b tb)(hc:PE X c tc)
  (hm:lastMarks [op,op'] [b,c]=false:=by with_unfolding_all rfl):PT X (.Compare a [op,op'] [b,c] pos) (Vp (XA r r' ta tb tc)):=by
 intro pins s σ H Q I h
 refine isTrue_chain (thn (ha pins s σ H _ I h) fun v s1 ⟨x, H1, I1, r1, q1⟩ => test_link (thn (hb pins s1 σ H1 _ I1 q1) fun u s2 ⟨y, H2, I2, r2, q2⟩ =>
  thn (ho pins s2 σ H2 x y v u _ I2 r1 r2 q2) fun d s3 ⟨z,H3,I3,r3,k,e,q3⟩=>?_)) hm
 subst e
 cases r3
 refine wpAny_truthy_bool ?_
 cases k with
 |false =>
  obtain⟨k',e',q'⟩:=q3
  cases e'
  exact ite_ff ⟨H3,I3,q'⟩
 |true =>
  refine ite_tt (test_last (thn (hc pins s3 σ H3 _ I3 q3) fun w' s4 ⟨z',H4,I4,r4,q4⟩=>thn (ho' pins s4 σ H4 y z' u w' _ I4 r2 r4 q4) fun d' s5 ⟨z2,H5,I5,r5,k2,e2,q5⟩=>?_))
  subst e2
  cases r5
  exact wpAny_truthy_bool ⟨H5,I5,q5⟩
theorem VH:(sizeLine:Nat)<2 ^ 63:=by rw[sizeLine_eq];decide
theorem HK:OpR X (binaryOp .Add) (fun x y H Q=>∃i j,x = .str i/\y = .str j/\i.length+j.length<=sizeLine/\Q (.str (i++j)) H):=by
 intro pins s σ H x y v u Q I rx ry h
 obtain⟨i,j,rfl,rfl,hz,q⟩:=h
 obtain⟨t,rfl⟩:=rx
 obtain⟨t',rfl⟩:=ry
 exact add_str (fun t' tk=>⟨.str (i++j),H,I.tok _,⟨_,rfl⟩,q⟩) hz
theorem NA{x:V}{us:List Value}(r:Vals [x] us):∃u,us=[u]/\RelV x u:=by
 cases r with
 |cons r1 r2=>cases r2;exact⟨_,rfl,r1⟩
theorem hV{x y:V}{us:List Value}(r:Vals [x,y] us):∃u w',us=[u,w']/\RelV x u/\RelV y w':=by
 cases r with
 |cons r1 r2 =>
  cases r2 with
  |cons r3 r4=>cases r4;exact⟨_,_,rfl,r1,r3⟩
theorem SW:J8 X (.builtin "abs") (fun xs H Q=>∃i,xs=[.int i]/\Q (.int (if i<0 then -i else i)) H):=by
 intro pins s σ H xs us Q I r h
 obtain⟨i,rfl,q⟩:=h
 obtain⟨u,rfl,t,rfl⟩:=NA r
 exact call_abs_int fun u tk=>⟨.int (if i<0 then -i else i),H,I.tok _,⟨_,rfl⟩,q⟩
theorem LW:J8 X (.type "str") (fun xs H Q=>∃i,xs=[.int i]/\i.natAbs.log2<1920/\Q (.str (toString i)) H):=by
 intro pins s σ H xs us Q I r h
 obtain⟨i,rfl,hz,q⟩:=h
 obtain⟨u,rfl,t,rfl⟩:=NA r
 exact PySem.P.str_of_int hz ⟨.str _,H,I.tok _,⟨_,rfl⟩,q⟩
def gw(K:PySem.W.Frag)(x:V)(H:Hp)(n:Nat):Prop :=
 match x with
 |.str y=>y.length<=sizeLine/\n=y.length
 |.byt y=>y.size<=sizeLine/\n=y.size
 |.ref p=>(∃xs,SqL K H p xs/\n=xs.length)\/∃xs,SqT K H p xs/\n=xs.length
 |_=>False
theorem BL:J8 X (.builtin "len") (fun xs H Q=>∃x n,xs=[x]/\gw X.K x H n/\Q (.int n) H):=by
 intro pins s σ H xs us Q I r h
 obtain⟨x,n,rfl,e,q⟩:=h
 obtain⟨u,rfl,rx⟩:=NA r
 have hl:=VH
 have hs:sizeLine=16777216:=sizeLine_eq
 cases x with
 |str y =>
  obtain⟨t,rfl⟩:=rx
  obtain⟨hy,e'⟩:y.length<=sizeLine/\n=y.length:=e
  subst e'
  exact len_str (by omega) ⟨.int _,H,I.tok _,⟨_,rfl⟩,q⟩
 |byt y =>
  obtain⟨t,rfl⟩:=rx
  obtain⟨hy,e'⟩:y.size<=sizeLine/\n=y.size:=e
  subst e'
  exact PySem.W.len_bytes (by omega) ⟨.int _,H,I.tok _,⟨_,rfl⟩,q⟩
 |ref p =>
  cases rx
  have e':(∃xs,SqL X.K H p xs/\n=xs.length)\/∃xs,SqT X.K H p xs/\n=xs.length:=e
  rcases e' with ⟨xs,hx,e'⟩|⟨xs,hx,e'⟩
  ·subst e'
   obtain⟨its,r',pl,hz⟩:=I.list hx
   have hlen:=r'.length
   exact Calls.call_len_list pl.isList (by simp only[List.size_toArray];omega) ⟨.int xs.length,H,I.tok _,⟨_,by simp only[List.size_toArray];rw[hlen]⟩,q⟩
  ·subst e'
   obtain⟨its,r',pl,hz⟩:=I.tuple hx
   have hlen:=r'.length
   exact len_tuple pl (by simp only[List.size_toArray];omega) ⟨.int xs.length,H,I.tok _,⟨_,by simp only[List.size_toArray];rw[hlen]⟩,q⟩
 |_=>exact(show False from e).elim
end
end L2
namespace L2
open PySem PySem.Spec PyProof.Rows
structure ObjM(h:Heap)(x dx C:Addr)(mA:Str->Option Value):Prop where
 obj:h.get? x=some (PySem.W.instObj C dx)
 ns:h.Ns1 dx mA
 ne:dx≠x
theorem Zc{h:Heap}{dx:Addr}{mA:Str->Option Value}(n:h.Ns1 dx mA):∃od,h.get? dx=some od/\∀name,PySem.W.lookIn name od=some (mA name):=by
 obtain⟨o,es,ep,ho,hd,hk,_,hm⟩:=n
 refine⟨o,ho,fun name=>?_⟩
 have e:=hm name
 unfold nsFind findBy at e
 rw[<- Array.find?_toList]at e
 unfold PySem.W.lookIn
 rw[hd]
 dsimp only
 split
 ·rename_i y q
  rw[q]at e
  exact congrArg some e
 ·rename_i q
  rw[q]at e
  have a:es.toList.any (·.refKey)=false:=by
   rw[List.any_eq_false]
   intro y hy
   obtain⟨z,t,hkey⟩:=hk y (Array.mem_toList_iff.mp hy)
   simp[DictEntry.refKey,hkey]
  have a':¬es.toList.any (·.refKey)=true:=by rw[a];exact Bool.false_ne_true
  rw[if_neg a']
  exact congrArg some e
theorem ObjM.look{h:Heap}{x dx C:Addr}{mA:Str->Option Value}(I:ObjM h x dx C mA):∃od,PySem.W.InstAt h x (PySem.W.instObj C dx) C (some od)/\∀name,PySem.W.lookIn name od=some (mA name) :=
 let ⟨od,ho,hl⟩:=Zc I.ns
 ⟨od,⟨I.obj,rfl,rfl,ho⟩,hl⟩
section
variable {prog:Program} {w:World} {A:Around} {E:Value->Shared->Prop} {s:Shared} {K:PySem.W.Frag} {x dx C f:Addr} {mA:Str->Option Value} {name:Str} {v:Value}
end
section
variable {P:Program} {w:World} {H H':Hp} {h h':Heap} {a C dx:Addr} {fs fs':List (Str×V)}
theorem dP(hok:HOk P w H h)(e:H a=some (.ins C dx fs)):∃mA,ObjM h a dx C mA/\(∀f,gm (fs.lookup f) (mA f))/\PySem.Within mA (fs.map (·.1))/\fs.length<=1000/\H dx=some (.own a):=by
 obtain⟨d,z,ne,ob,mA,n,r,q⟩:=(show ObjOk P w H h a (.ins C dx fs) from hok a _ e)
 exact⟨mA,⟨ob,n,ne⟩,r,q,z,d⟩
end
structure Cls(K:PySem.W.Frag)(C:Addr):Prop where
 pg:PySem.W.plainGet K C Str.empty=true
 hd:PySem.W.hasDictIn K C=true
 po:PySem.W.plainOver K C=true
 sa:PySem.W.findIn K (.ref C) "__setattr__"=some (some (.builtin "object.__setattr__"))
theorem Cls.get{K:PySem.W.Frag}{C:Addr}(c:Cls K C)(f:Str):PySem.W.plainGet K C f=true:=c.pg
section
variable {X:Cx} {pins:List (Addr×Obj)} {σ:St} {H:Hp} {s:Shared} {a C dx:Addr} {fs:List (Str×V)} {f:Str} {v:V} {A:Around} {E:Value->Shared->Prop}
end
section
variable {X:Cx} {o e value:Expr} {f:Str} {pos pos' tpos:Pos} {ta tv:TE}
end
section
variable {X:Cx} {pins:List (Addr×Obj)} {σ:St} {H:Hp} {s:Shared} {A:Around} {E:Value->Shared->Prop} {Q:Value->Shared->Prop} {c:Value} {b:Bool}
inductive Qt (K:PySem.W.Frag) (H:Hp):V->Value->Prop where
 |non:Qt K H .non (.type "NoneType")
 |bl (x:Bool):Qt K H (.bl x) (.type "bool")
 |int (i:Int):Qt K H (.int i) (.type "int")
 |str (x:Str):Qt K H (.str x) (.type "str")
 |flt (x:UInt64):Qt K H (.flt x) (.type "float")
 |lst {a:Addr} {xs:List V} (e:H a=some (.lst xs)):Qt K H (.ref a) (.type "list")
 |frz {a:Addr} {o:Obj} {xs:List V} (e:H a=some (.frz o (.lst xs))):Qt K H (.ref a) (.type "list")
 |tup {a:Addr} {xs:List V} (e:H a=some (.tup xs)):Qt K H (.ref a) (.type "tuple")
 |dK {a:Addr} {kvs:List (Key×V)} (e:H a=some (.dK kvs)):Qt K H (.ref a) (.type "dict")
 |dT {a:Addr} {kvs:List (List Key×V)} (e:H a=some (.dT kvs)):Qt K H (.ref a) (.type "dict")
 |ins {a C dx:Addr} {fs:List (Str×V)} (e:H a=some (.ins C dx fs)) (cl:Cls K C) (ha:PySem.W.findIn K (.ref C) "__class__"=some (some (.builtin "object.__class__")))
   (hn:PySem.W.specialIn K (.builtin "object.__class__") "__get__"=some (some (.builtin "getset_descriptor.__get__"))) (htk:PySem.W.takesIn K (.builtin "object.__class__")=some true)
   (hm:PySem.W.mroIn K C (.type "object")=some true):Qt K H (.ref a) (.ref C)
theorem Km{x:V}{u t:Value}(I:Inv X pins σ H s)(rx:RelV x u)(ty:Qt X.K H x t)(e:PySem.W.kitOne X.K t c=some b)(h:∀tk,Q (.bool b) { s with toks:=tk }) :
  wpAny (model X.prog X.w) A (call (.builtin "isinstance") [u,c]) Q E s:=by
 cases ty with
 |non=>cases (show u=Value.none from rx);exact PySem.W.kia_one PySem.W.kitx_none I.kIn True.intro e (fun z=>nomatch z) h
 |bl y=>cases (show u=Value.bool y from rx);exact PySem.W.kia_one PySem.W.kitx_bool I.kIn True.intro e (fun z=>nomatch z) h
 |int i=>obtain⟨t,q⟩:=(show ∃t,u=Value.int i t from rx);cases q;exact PySem.W.kia_one PySem.W.kitx_int I.kIn True.intro e (fun z=>nomatch z) h
 |str y=>obtain⟨t,q⟩:=(show ∃t,u=Value.str y t from rx);cases q;exact PySem.W.kia_one PySem.W.kitx_str I.kIn True.intro e (fun z=>nomatch z) h
 |flt y=>obtain⟨t,q⟩:=(show ∃t,u=Value.float y t from rx);cases q;exact PySem.W.kia_one PySem.W.kitx_float I.kIn True.intro e (fun z=>nomatch z) h
 |@lst a xs ea =>
  cases (show u=Value.ref a from rx)
  obtain⟨_,_,n,_,h1⟩:=(show ObjOk X.prog X.w H s.heap a (.lst xs) from I.hok a _ ea)
  exact PySem.W.kia_one PySem.W.kitx_list I.kIn ⟨_,h1,rfl⟩ e (fun z=>nomatch z) h
 |@frz a ob xs ea =>
  cases (show u=Value.ref a from rx)
  obtain⟨_,_,_,n,_,h1⟩:=(show ObjOk X.prog X.w H s.heap a (.frz ob (.lst xs)) from I.hok a _ ea)
  exact PySem.W.kia_one PySem.W.kitx_list I.kIn ⟨_,h1,rfl⟩ e (fun z=>nomatch z) h
 |@tup a xs ea =>
  cases (show u=Value.ref a from rx)
  obtain⟨_,_,_,p⟩:=(show ObjOk X.prog X.w H s.heap a (.tup xs) from I.hok a _ ea)
  obtain⟨o,h1,h2,_⟩:=p
  exact PySem.W.kia_one PySem.W.kitx_tuple I.kIn ⟨o,h1,h2⟩ e (fun z=>nomatch z) h
 |@dK a kvs ea =>
  cases (show u=Value.ref a from rx)
  obtain⟨_,_,vs,_,p⟩:=(show ObjOk X.prog X.w H s.heap a (.dK kvs) from I.hok a _ ea)
  obtain⟨o,es,ep,h1,h2,_⟩:=p
  exact PySem.W.kia_one PySem.W.kitx_dict I.kIn ⟨o,h1,h2.1⟩ e (fun z=>nomatch z) h
 |@dT a kvs ea =>
  cases (show u=Value.ref a from rx)
  obtain⟨_,_,xs,_,o,es,ep,h1,h2,_⟩:=(show ObjOk X.prog X.w H s.heap a (.dT kvs) from I.hok a _ ea)
  exact PySem.W.kia_one PySem.W.kitx_dict I.kIn ⟨o,h1,h2.1⟩ e (fun z=>nomatch z) h
 |@ins a C dx fs ea cl ha hn htk hm =>
  cases (show u=Value.ref a from rx)
  obtain⟨mA,O,_⟩:=dP I.hok ea
  obtain⟨od,J,_⟩:=O.look
  exact PySem.W.kia_one (PySem.W.kitx_own (cl.get _) cl.hd ha hn htk hm) I.kIn J e (fun z=>nomatch z) h
end
end L2
namespace L2
open PySem PySem.Spec PyProof.Rows
structure Room(k:Nat)(A:Around):Prop where
 hd:A.handled=none
 dp:A.depth+3*k+5<recursionLimit
 un:A.units+16*k+200<cLine
theorem Room.mono{j k:Nat}{A:Around}(r:Room k A)(h:j<=k):Room j A:=⟨r.hd,by have:=r.dp;omega,by have:=r.un;omega⟩
theorem Room.deeper{k:Nat}{A:Around}(r:Room (k+1) A)(env:Env):Room k (A.deeper env) :=
 ⟨r.hd,by have:=r.dp;show A.depth+1+3*k+5<_;omega,by have:=r.un;show A.units+3+16*k+200<_;omega⟩
theorem Room.depth{k:Nat}{A:Around}(r:Room k A):A.depth<recursionLimit:=by have:=r.dp;omega
theorem Room.units{k:Nat}{A:Around}(r:Room k A):A.units+64<cLine:=by have:=r.un;omega
def Mr:TA:=fun _ H Q=>Q [] H
def Gn(ta:TE)(tr:TA):TA:=fun σ H Q=>ta σ H fun x H1=>tr σ H1 fun xs H2=>Q (x::xs) H2
section
variable {X:Cx} {e:Expr} {es:List Expr} {te:TE} {t:TA} {pos:Pos}
theorem AJ:PA X [] Mr:=fun _ _ _ _ H Q I h=>Calls.spliced_nil ⟨[],H,I,.nil,h⟩
theorem AB(ha:PE X e te)(hr:PA X es t)(hs:starEach (e::es) X.env=(false,eval e X.env)::starEach es X.env:=by rfl):PA X (e::es) (Gn te t):=by
 intro pos pins s σ H Q I h
 rw[hs]
 show wpAny _ _ (spliced ((false,eval e X.env)::backTo pos (starEach es X.env))) _ _ s
 refine Calls.spliced_cons (thn (ha pins s σ H _ I h) fun u s1 ⟨x,H1,I1,r1,q1⟩=>?_)
 exact thn (hr pos pins s1 σ H1 _ I1 q1) fun us s2 ⟨xs,H2,I2,r2,q2⟩=>⟨x::xs,H2,I2,.cons r1 r2,q2⟩
def fg(t:TA):TE:=fun σ H Q=>t σ H fun xs H1=>xs.length<=sizeLine/\∀p,H1 p=none->Q (.ref p) (upd H1 p (.tup xs))
def aL(t:TA):TE:=fun σ H Q=>t σ H fun xs H1=>xs.length<=sizeLine/\∀p,H1 p=none->Q (.ref p) (upd H1 p (.lst xs))
theorem A9{x1}(h:PA X es t):PE X (.Tuple es x1 pos) (fg t):=by
 intro pins s σ H Q I hq
 refine wpAny_Tuple_spliced (thn (h pos pins s σ H _ I hq) fun us s1 ⟨xs,H1,I1,r,z,q⟩=>⟨by rw[<- r.length];exact z,?_⟩)
 have hf:H1 s1.heap.objs.size=none:=I1.hok.fresh (Nat.le_refl _)
 refine⟨.ref s1.heap.objs.size,upd H1 s1.heap.objs.size (.tup xs),I1.laid (t':=s1.toks) (fun b u e=>Heap.get?_push_of_some _ e) (Nat.le_refl _) ?_,rfl,q _ hf⟩
 exact⟨z,us,r,⟨_,Heap.get?_push_size _ rfl,rfl,_,rfl⟩⟩
theorem Ee(h:PA X es t):PE X (.List es pos) (aL t):=by
 intro pins s σ H Q I hq
 refine wpAny_List_spliced (thn (h pos pins s σ H _ I hq) fun us s1 ⟨xs,H1,I1,r,z,q⟩=>⟨by rw[<- r.length];exact z,?_⟩)
 have hf:H1 s1.heap.objs.size=none:=I1.hok.fresh (Nat.le_refl _)
 refine⟨.ref s1.heap.objs.size,upd H1 s1.heap.objs.size (.lst xs),I1.laid (t':=s1.toks) (fun b u e=>Heap.get?_push_of_some _ e) (Nat.le_refl _) ?_,rfl,q _ hf⟩
 exact⟨z,us,0,r,Heap.get?_push_size _ rfl⟩
end
abbrev Sp:=List V->Hp->VK->XK->Prop
abbrev CXT:=List Env->Hp->Shared->XK->Value->Shared->Prop
structure cR(P:Program)(w:World)(K:PySem.W.Frag)(mg:Str->Option Value)(base:Heap)(A:Around)(outer:List Env)(s:Shared)(H:Hp):Prop where
 frames:A.frames=some outer
 mod:Mod K mg base
 bs:∀b o,base.get? b=some o->s.heap.get? b=some o/\H b=none
 bsz:base.objs.size<=s.heap.objs.size
 funs:s.heap.FunFrames base outer
 frf:∀b∈frs outer,H b=none
 hok:HOk P w H s.heap
 bare:AllBare s.gens
def CE(outer:List Env)(P:Program)(w:World)(H:Hp)(s:Shared)(Q:VK)(u:Value)(s':Shared):Prop :=
 ∃v H',s'.os=s.os/\AllBare s'.gens/\Un (frs outer) [] H H' s.heap s'.heap/\HOk P w H' s'.heap/\RelV v u/\Q v H'
def CR(CX:CXT)(outer:List Env)(P:Program)(w:World)(H:Hp)(s:Shared)(Q:VK)(E:XK)(r:Result)(s':Shared):Prop :=
 match r with
 |.ok (.ret u)=>CE outer P w H s Q u s'
 |.ok _=>False
 |.error e=>CX outer H s E e s'
structure FnOk(P:Program)(w:World)(K:PySem.W.Frag)(mg:Str->Option Value)(base:Heap)(CX:CXT)(k:Nat)(f:Addr)(fd:FuncData)(ps:List Str)(sp:Sp):Prop where
 len:∀vs H Q E,sp vs H Q E->vs.length=ps.length
 run:∀(A:Around) (outer:List Env) (s:Shared) (H:Hp) (args:Args) (us:List Value) (vs:List V) (Q:VK) (E:XK),Room k A->cR P w K mg base A outer s H->BindsTo s fd args (ps.zip us)->Vals vs us->sp vs H Q E ->
  codeAny (model P w) A (.call (.ref f) args) (CR CX outer P w H s Q E) s
theorem FnOk.mono{P:Program}{w:World}{K:PySem.W.Frag}{mg:Str->Option Value}{base:Heap}{CX:CXT}{j k:Nat}{f:Addr}{fd:FuncData}{ps:List Str}{sp:Sp}(F:FnOk P w K mg base CX j f fd ps sp)(h:j<=k) :
  FnOk P w K mg base CX k f fd ps sp:=⟨F.len,fun A outer s H args us vs Q E hr=>F.run A outer s H args us vs Q E (hr.mono h)⟩
section
variable {X:Cx} {pins:List (Addr×Obj)} {σ:St} {H:Hp} {s s':Shared}
theorem Inv.env0(I:Inv X pins σ H s):cR X.prog X.w X.K X.mg X.base X.A X.stack s H :=
 ⟨I.ok.frames,I.ok.mod,I.bs,Nat.le_trans I.ok.bsz I.sz,I.stack,I.stkFree,I.hok,I.bare⟩
theorem Inv.after{Q:VK}{u:Value}(I:Inv X pins σ H s)(h:CE X.stack X.prog X.w H s Q u s'):EP X pins σ Q u s':=by
 obtain⟨v,H',os,bare,un,hok,r,q⟩:=h
 obtain⟨hh,g,d,t,os'⟩:=s'
 obtain rfl:os'=s.os:=os
 exact⟨v,H',I.call (h':=hh) (g':=g) (d':=d) (t':=t) (ch:=[]) un hok bare (fun b z=>absurd z (by simp)),r,q⟩
end
def P2(sp:Sp)(dvs:List V)(E:XK)(t:TA):TE:=fun σ H Q=>t σ H fun vs H1=>sp (vs++dvs) H1 Q E
def Binds(K:PySem.W.Frag)(fd:FuncData)(ps:List Str)(ds:List Value):Prop :=
 ∀(s:Shared) (us:List Value),K.In s.heap->(us++ds).length=ps.length->BindsTo s fd ⟨us,[]⟩ (ps.zip (us++ds))
theorem Binds.all{K:PySem.W.Frag}{fd:FuncData}{ps:List Str}(h:∀us:List Value,us.length=ps.length->bindArgs fd ⟨us,[]⟩=pure (ps.zip us)):Binds K fd ps []:=fun s us _ hl=>by
 rw[List.append_nil]at hl ⊢
 exact .of_eq (h us hl)
def Se(CX:CXT)(X:Cx)(E:XK):Prop:=∀(pins:List (Addr×Obj)) (σ:St) (H:Hp) (s:Shared) (e:Value) (s':Shared),Inv X pins σ H s->CX X.stack H s E e s'->X.xe e s'
section
variable {X:Cx} {CX:CXT} {k:Nat} {f C:Addr} {fd:FuncData} {ps:List Str} {sp:Sp} {dvs:List V} {ds:List Value} {E:XK} {x m:Str} {p pos apos:Pos} {e o:Expr} {es:List Expr} {ta:TE} {t:TA}
theorem XB{pins:List (Addr×Obj)}{σ:St}{H:Hp}{s:Shared}{Q:VK}{us:List Value}{vs:List V}(F:FnOk X.prog X.w X.K X.mg X.base CX k f fd ps sp)(hr:Room k X.A)(hb:Binds X.K fd ps ds)(hd:Vals dvs ds)(hx:Se CX X E)
  (I:Inv X pins σ H s) (r:Vals vs us) (h:sp (vs++dvs) H Q E):wpAny (model X.prog X.w) X.A (call (.ref f) us) (EP X pins σ Q) X.xe s:=by
 have r2:Vals (vs++dvs) (us++ds):=r.append hd
 have hl:(us++ds).length=ps.length:=by rw[<- r2.length];exact F.len _ _ _ _ h
 refine wpAny_call (codeAny_mono (F.run X.A X.stack s H ⟨us,[]⟩ (us++ds) (vs++dvs) Q E hr I.env0 (hb s us I.kIn hl) r2 h) fun r s' hq=>?_)
 cases r with
 |error e=>exact hx pins σ H s e s' I hq
 |ok fl =>
  cases fl with
  |ret u=>exact I.after hq
  |next=>exact False.elim hq
  |brk=>exact False.elim hq
  |cont=>exact False.elim hq
theorem YS(F:FnOk X.prog X.w X.K X.mg X.base CX k f fd ps sp)(hr:Room k X.A)(hg:Gl X x)(hm:X.mg x=some (.ref f))(hk:PySem.W.keepIn X.K (.ref f)=true)(hb:Binds X.K fd ps ds)(hd:Vals dvs ds)(hx:Se CX X E)
  (ha:PA X (e::es) t) (hdb:(x==("__debug__":Str))=false:=by decide) (he:starEach (e::es) X.env=(false,eval e X.env)::starEach es X.env:=by rfl) (hpl:(backTo pos (starEach es X.env)).any (·.1)=false:=by rfl) :
  PE X (.Call (.Name x p) (e::es) [] pos) (P2 sp dvs E t):=by
 intro pins s σ H Q I h
 refine wpAny_Call_Name_kw (LG I hg hm ?_ hdb)
 refine PySem.W.callWith_K (h₀:=X.base) I.ok.mod.kin hk (thn (ha pos pins s σ H _ I h) fun us s1 ⟨vs,H1,I1,r,q⟩=>⟨I1.kIn,?_⟩) he hpl
 exact XB F hr hb hd hx I1 r q
theorem ak(F:FnOk X.prog X.w X.K X.mg X.base CX k f fd ps sp)(hr:Room k X.A)(hg:Gl X x)(hm:X.mg x=some (.ref f))(hk:PySem.W.keepIn X.K (.ref f)=true)(hb:Binds X.K fd ps ds)(hd:Vals dvs ds)(hx:Se CX X E)
  (hdb:(x==("__debug__":Str))=false:=by decide):PE X (.Call (.Name x p) [] [] pos) (P2 sp dvs E Mr):=by
 intro pins s σ H Q I h
 refine wpAny_Call_Name_kw (LG I hg hm ?_ hdb)
 exact PySem.W.callWith_K0 I.kIn hk (XB (us:=[]) F hr hb hd hx I .nil h)
end
section
variable {X:Cx} {CX:CXT} {k:Nat} {f C:Addr} {fd:FuncData} {ps ks:List Str} {sp:Sp} {E:XK} {x m:Str} {p pos apos kpos:Pos} {e o:Expr} {es:List Expr} {kws:List Keyword} {te ta:TE} {t tk:TA} {nm:Option Str}
variable {g:List Value->List Value->List Value} {gV:List V->List V->List V}
end
structure Ao(N P:List Str)(sc:Scope):Prop where
 kind:sc.kind = .function
 co:sc.isCoroutine=false
 gen:sc.isGenerator=false
 nd:N.Nodup
 pre:N.take P.length=P
 par:∀x∈P,sc.names.lookup x=some .local\/sc.names.lookup x=some .cell
 nofree:∀y∈sc.names,y.2≠.free
theorem US{kindOf:Str->Option NameKind}{x:Str}:∀{binds:List (Str×Value)} {m:Str->Option Value},(∀v,(x,v)∉binds)->bindL kindOf binds m x=m x
 |[],_,_=>rfl
 |(n,v)::r,m,h=>by
  unfold bindL
  rw[US fun w hw=>h w (List.mem_cons_of_mem _ hw)]
  split
  ·have:x≠n:=by rintro rfl;exact h v List.mem_cons_self
   simp[this]
  ·rfl
theorem UU{kindOf:Str->Option NameKind}{x:Str}:∀{binds:List (Str×Value)} {m:Str->Option Value},(∀v,(x,v)∉binds)->bindC kindOf binds m x=m x
 |[],_,_=>rfl
 |(n,v)::r,m,h=>by
  unfold bindC
  rw[UU fun w hw=>h w (List.mem_cons_of_mem _ hw)]
  split
  ·rfl
  ·have:x≠n:=by rintro rfl;exact h v List.mem_cons_self
   simp[this]
theorem UT{kindOf:Str->Option NameKind}{x:Str}{v:Value}:∀{P:List Str} {vs:List Value} {i:Nat} {m:Str->Option Value},P.Nodup->P[i]?=some x->vs[i]?=some v->kindOf x=some .local ->
  bindL kindOf (P.zip vs) m x=some v
 |[],_,_,_,_,h,_,_=>by simp at h
 |_::_,[],_,_,_,_,h,_=>by simp at h
 |p::P,w::vs,0,m,nd,h1,h2,hk=>by
  simp at h1 h2;subst h1;subst h2
  show bindL kindOf ((p,w)::P.zip vs) m p=_
  unfold bindL
  rw[US fun v hv=>(List.nodup_cons.mp nd).1 (List.of_mem_zip hv).1,if_pos hk]
  simp
 |p::P,w::vs,i+1,m,nd,h1,h2,hk=>by
  show bindL kindOf ((p,w)::P.zip vs) m x=_
  unfold bindL
  exact UT (i:=i) (List.nodup_cons.mp nd).2 (by simpa using h1) (by simpa using h2) hk
theorem UW{kindOf:Str->Option NameKind}{x:Str}{v:Value}:∀{P:List Str} {vs:List Value} {i:Nat} {m:Str->Option Value},P.Nodup->P[i]?=some x->vs[i]?=some v->kindOf x≠some .local ->
  bindC kindOf (P.zip vs) m x=some v
 |[],_,_,_,_,h,_,_=>by simp at h
 |_::_,[],_,_,_,_,h,_=>by simp at h
 |p::P,w::vs,0,m,nd,h1,h2,hk=>by
  simp at h1 h2;subst h1;subst h2
  show bindC kindOf ((p,w)::P.zip vs) m p=_
  unfold bindC
  rw[UU fun v hv=>(List.nodup_cons.mp nd).1 (List.of_mem_zip hv).1,if_neg hk]
  simp
 |p::P,w::vs,i+1,m,nd,h1,h2,hk=>by
  show bindC kindOf ((p,w)::P.zip vs) m x=_
  unfold bindC
  exact UW (i:=i) (List.nodup_cons.mp nd).2 (by simpa using h1) (by simpa using h2) hk
def start(N:List Str)(vs:List V):St:=vs.map some++List.replicate (N.length-vs.length) none
def Py(CX:CXT)(P:Program)(w:World)(K:PySem.W.Frag)(mg:Str->Option Value)(base:Heap)(N:List Str)(qual:Str)(scope:Scope)(f:Addr)(cd:Value)(A:Around)(outer:List Env)(s:Shared)(H:Hp)(E:XK):Cx where
 prog:=P
 w:=w
 K:=K
 mg:=mg
 base:=base
 A:=A.deeper (envOfC qual scope s.heap.objs.size f cd)
 N:=N
 s₀:=s
 H₀:=H
 env:=envOfC qual scope s.heap.objs.size f cd
 outer:=outer
 stack:=envOfC qual scope s.heap.objs.size f cd::outer
 ex:=[]
 calm:=true
 fn:=fun _=>true
 pn:=[]
 xe:=fun e s'=>wpAny (model P w) (A.deeper (envOfC qual scope s.heap.objs.size f cd)) (leaving (envOfC qual scope s.heap.objs.size f cd) e) (fun _ s''=>CX outer H s E e s'') (fun e' s''=>CX outer H s E e' s'') s'
theorem Wt{sc:Scope}{n:Nat}{x:Str}(h:sc.names.lookup x=some .cell):∃c,(cellsFrom n sc.names []).lookup x=some c:=by
 have q:=PySem.W.cellsFrom_some sc.names n [] (.inl h)
 exact Option.isSome_iff_exists.mp q
theorem UH{CX:CXT}{P:Program}{w:World}{K:PySem.W.Frag}{mg:Str->Option Value}{base:Heap}{N ps:List Str}{qual:Str}{scope:Scope}{f:Addr}{cd:Value}{A:Around}{outer:List Env}{s s1:Shared}{H:Hp}{E:XK}{us:List Value}{vs:List V}
  (S:Ao N ps scope) (hd:A.handled=none) (e0:cR P w K mg base A outer s H) (hl:vs.length=ps.length) (r:Vals vs us)
  (x:InCallC s s.heap.objs.size (bindL (envOfC qual scope s.heap.objs.size f cd).kindOf (ps.zip us) fun _=>none) (cellsFrom (s.heap.objs.size+1) scope.names []) (bindC (envOfC qual scope s.heap.objs.size f cd).kindOf (ps.zip us) fun _=>none) s1) :
  Inv (Py CX P w K mg base N qual scope f cd A outer s H E) [] (start N vs) H s1:=by
 have hpl:ps.length<=N.length:=by have:=congrArg List.length S.pre;rw[List.length_take]at this;omega
 obtain⟨h1,tk,rfl,hk⟩:=x.done
 have noA:∀b:Addr,b∉(Py CX P w K mg base N qual scope f cd A outer s H E).ex:=fun b z=>absurd (show b∈([]:List Addr) from z) (by simp)
 refine ⟨⟨e0.mod, S.kind, rfl, rfl, Nat.le_refl _, fun y z c h1 h2 => ?_, fun y hy => ?_, fun y c _ h => ?_, fun _ => hd, Around.frames_deeper e0.frames, .inr ⟨rfl, rfl⟩, fun b z => absurd z (noA b), e0.bs, e0.bsz, fun b _ _ => noA b, fun b z => absurd z (noA b), e0.funs, e0.frf⟩,
  rfl,e0.bare,Un.kept hk,⟨_,x.toInCall.ns,fun i y v h1 h2 h3=>?_⟩,fun y c h=>⟨_,x.cell y c h⟩,e0.hok.fresh (Nat.le_refl _),fun y c h=>?_,fun p hp=>absurd (show p∈([]:List (Addr×Obj)) from hp) (by simp),e0.hok.kept hk,?_⟩
 ·exact name_of_addr x.apart (PySem.mem_of_lookup h1) (PySem.mem_of_lookup h2)
 ·have hy:scope.names.lookup y=some .cell\/scope.names.lookup y=some .free:=hy
  rcases hy with hy|hy
  ·exact Wt hy
  ·exact absurd rfl (S.nofree _ (PySem.mem_of_lookup hy))
 ·exact Nat.le_of_lt (x.above y c (PySem.mem_of_lookup h))
 ·have hi:i<vs.length:=by
   unfold start at h2
   by_cases hi:i<vs.length
   ·exact hi
   ·rw[List.getElem?_append_right (by simpa using hi)]at h2
    rw[List.getElem?_replicate]at h2
    split at h2<;>cases h2
  have ha:vs[i]?=some v:=by
   unfold start at h2
   rw[List.getElem?_append_left (by simpa using hi),List.getElem?_map]at h2
   cases e:vs[i]? with
   |none=>rw[e]at h2;cases h2
   |some a=>rw[e]at h2;cases h2;rfl
  obtain⟨u,hu,rv⟩:=r.get ha
  have hp:ps[i]?=some y:=by
   rw[<- S.pre,List.getElem?_take_of_lt (by omega)];exact h1
  have ndP:ps.Nodup:=by rw[<- S.pre];exact S.nd.sublist (List.take_sublist _ _)
  refine⟨u,rv,?_⟩
  rcases S.par y (List.mem_of_getElem? hp)with k|k
  ·exact .inl ⟨k,UT ndP hp hu k⟩
  ·obtain⟨c,e⟩:=Wt (n:=s.heap.objs.size+1) k
   refine .inr ⟨.inl k,c,e,?_⟩
   have q:=x.cell y c e
   rw[UW ndP hp hu (by show scope.names.lookup y≠_;rw[k];decide)]at q
   exact q
 ·exact e0.hok.fresh (Nat.le_of_lt (x.above y c (PySem.mem_of_lookup h)))
 ·unfold start
  show _=N.length
  rw[List.length_append,List.length_map,List.length_replicate]
  omega
theorem fG{CX:CXT}{P:Program}{w:World}{K:PySem.W.Frag}{mg:Str->Option Value}{base:Heap}{k:Nat}{f:Addr}{name qual:Str}{params:Arguments}{body:List Stmt}{scope:Scope}{dV kV doc pm cdv ct oc:Value}{an od:Option Addr}
  {osl:Array (Option Value)} {N ps:List Str} {sp:Sp} (lk:K.lookup f=some ⟨oc,od,.func (PySem.W.fnOf name qual params body scope dV kV doc pm an cdv ct),osl⟩) (hcd:PySem.W.codeIn K cdv qual=true) (S:Ao N ps scope)
  (len:∀vs H Q E,sp vs H Q E->vs.length=ps.length)
  (hbody : ∀ (A : Around) (outer : List Env) (s : Shared) (H : Hp) (vs : List V) (Q : VK) (E : XK), Room k (A.deeper (envOfC qual scope s.heap.objs.size f cdv)) -> sp vs H Q E ->
   ∃t,PSs (Py CX P w K mg base N qual scope f cdv A outer s H E) body t/\t { nx:=fun _ H'=>Q .non H',rt:=Q } (start N vs) H) :
  FnOk P w K mg base CX (k+1) f (PySem.W.fnOf name qual params body scope dV kV doc pm an cdv ct) ps sp:=by
 refine⟨len,fun A outer s H args us vs Q E hr e0 hb r hsp=>?_⟩
 have hl:=len _ _ _ _ hsp
 have KX:K.In s.heap:=e0.mod.kin.keeps fun b o e=>(e0.bs b o e).1
 have lim:s.heap.NoLimit:=e0.mod.nolimit.keeps fun b o e=>(e0.bs b o e).1
 have hkind:∀y∈ps.zip us,scope.names.lookup y.1=some .local\/(scope.names.lookup y.1=some .cell/\((cellsFrom (s.heap.objs.size+1) scope.names []).lookup y.1).isSome=true):=fun⟨n,v⟩ hy=>by
  rcases S.par n (List.of_mem_zip hy).1 with q|q
  ·exact .inl q
  ·exact .inr ⟨q,PySem.W.cellsFrom_some _ _ _ (.inl q)⟩
 refine codeAny_call_function hr.depth (KX _ _ lk) rfl S.co S.gen rfl (PySem.W.codeRec_of KX hcd) (hb _ _ _ _ ?_)
 refine wpAny_newFunctionEnv_cells S.kind hkind fun env he s1 x=>?_
 subst he
 refine⟨lim.keeps x.toInCall.keep,codeAny_func ?_⟩
 obtain⟨t,ht,hq⟩:=hbody A outer s H vs Q E (hr.deeper _) hsp
 have I:Inv (Py CX P w K mg base N qual scope f cdv A outer s H E) [] (start N vs) H s1:=UH S hr.hd e0 hl r x
 refine wpAny_mono (ht [] s1 (start N vs) H _ I hq) (fun fl s' hs=>?_) fun e s' hs=>hs
 have fin:∀{σ':St} {H':Hp} {v:V} {u:Value},Inv (Py CX P w K mg base N qual scope f cdv A outer s H E) [] σ' H' s'->RelV v u->Q v H'->CE outer P w H s Q u s' :=
  fun {σ' H' v u} J rv q=>⟨v,H',J.os,J.bare,J.base,J.hok,rv,q⟩
 cases fl with
 |ret u =>
  obtain⟨v,σ',H',J,rv,q⟩:=hs
  exact fin J rv q
 |next =>
  obtain⟨σ',H',J,q⟩:=hs
  exact fin (v:=V.non) (u:=Value.none) J rfl q
 |brk =>
  obtain⟨_,_,_,q⟩:=hs
  exact False.elim q
 |cont =>
  obtain⟨_,_,_,q⟩:=hs
  exact False.elim q
end L2
namespace L2
open PySem PySem.Spec PyProof.Rows
section
variable {X:Cx} {x:Str} {p pos:Pos} {e:Expr} {es:List Expr} {t:TA} {id T:String} {r:List V->Hp->VK->Prop}
def tCB(r:List V->Hp->VK->Prop)(t:TA):TE:=fun σ H Q=>t σ H fun vs H1=>r vs H1 Q
theorem Ad(hc:J8 X (.builtin id) r)(hg:Gl X x)(hm:X.mg x=none)(hv:bootBuiltins x=some (.builtin id))(ha:PA X (e::es) t)(hn:x≠"__name__":=by decide)(hdb:(x==("__debug__":Str))=false:=by decide)
  (he:starEach (e::es) X.env=(false,eval e X.env)::starEach es X.env:=by rfl) (hpl:(backTo pos (starEach es X.env)).any (·.1)=false:=by rfl):PE X (.Call (.Name x p) (e::es) [] pos) (tCB r t):=by
 intro pins s σ H Q I h
 refine wpAny_Call_Name_kw (Rg I hg hm hv ?_ hn hdb)
 exact PyProof.Rows.callWith_builtin1 (thn (ha pos pins s σ H _ I h) fun us s1 ⟨vs,H1,I1,r1,q1⟩=>hc pins s1 σ H1 vs us Q I1 r1 q1) he hpl
theorem JG(hc:J8 X (.type T) r)(hg:Gl X x)(hm:X.mg x=none)(hv:bootBuiltins x=some (.type T))(ha:PA X (e::es) t)(hn:x≠"__name__":=by decide)(hdb:(x==("__debug__":Str))=false:=by decide)
  (he:starEach (e::es) X.env=(false,eval e X.env)::starEach es X.env:=by rfl) (hpl:(backTo pos (starEach es X.env)).any (·.1)=false:=by rfl):PE X (.Call (.Name x p) (e::es) [] pos) (tCB r t):=by
 intro pins s σ H Q I h
 refine wpAny_Call_Name_kw (Rg I hg hm hv ?_ hn hdb)
 exact PyProof.Rows.callWith_type1 (thn (ha pos pins s σ H _ I h) fun us s1 ⟨vs,H1,I1,r1,q1⟩=>hc pins s1 σ H1 vs us Q I1 r1 q1) he hpl
end
end L2
namespace HT
open PySem PyProof.Rows
section
open PySem.SeqAt
open PySem.AutoSeq1 (wpAny_loadPart')
open PySem.MeetsSeq PySem.MeetsSeq2 PySem.MeetsSeq3
end
section
variable {prog:Program} {w:World} {A:Around} {E:Value->Shared->Prop} {s:Shared}
theorem cat_tup{t b:Addr}{vs ws:List Value}{Q:Value->Shared->Prop}(ht:IsTup s.heap t vs.toArray)(hb:IsTup s.heap b ws.toArray)(hv:vs≠[])
  (h1:ws=[]->Q (.ref t) s) (h2:ws≠[]->Q (.ref s.heap.objs.size) { s with heap:=s.heap.push { cls:=.type "tuple",data:=.seq (vs++ws).toArray } })
  (hsz:vs.length+ws.length<=sizeLine):wpAny (model prog w) A (binaryOp .Add (.ref t) (.ref b)) Q E s:=by
 obtain⟨⟨cls,dd,data,sl⟩,ho,hc,n,hd⟩:=id ht
 obtain⟨⟨cls2,dd2,data2,sl2⟩,ho2,hc2,n2,hd2⟩:=id hb
 simp only at hc hd hc2 hd2
 subst hc hd hc2 hd2
 have e:vs.toArray++ws.toArray=(vs++ws).toArray:=by simp
 by_cases hw:ws=[]
 ·exact concat_meets ⟨_,ho,rfl⟩ ⟨_,ho2,rfl⟩ noFill_tuple_add seq_tuple_add PySem.F.slot_tuple_add PySem.F.entry_tuple_add (PySem.F.args_tuple_add_2 _ _)
   (tuple_addW1 t b vs.toArray ws.toArray n n2 dd dd2 sl sl2 (by simpa using hv) (by simp[hw])) ⟨ho,ho2,h1 hw⟩
 ·refine concat_meets ⟨_,ho,rfl⟩ ⟨_,ho2,rfl⟩ noFill_tuple_add seq_tuple_add PySem.F.slot_tuple_add PySem.F.entry_tuple_add (PySem.F.args_tuple_add_2 _ _)
   (tuple_addW2 t b vs.toArray ws.toArray n n2 dd dd2 sl sl2 (by simpa using hv) (by simpa using hw) (by rw[List.size_toArray,List.size_toArray];exact hsz)) ⟨ho,ho2,?_⟩
  rw[e]
  exact h2 hw
def sIx(n d:Nat):Option Int->Nat
 |none=>d
 |some v=>if v<0 then (v+(n:Int)).toNat else min v.toNat n
theorem fj(n d:Nat)(hd:d<=n)(o:Option Int):sIx n d o<=n:=by
 cases o with
 |none=>exact hd
 |some v =>
  show(if v<0 then (v+(n:Int)).toNat else min v.toNat n)<=n
  by_cases hv:v<0
  ·rw[if_pos hv];omega
  ·rw[if_neg hv];exact Nat.min_le_right _ _
theorem Yx(v:Int)(n d:Nat):(if v<0 then max (v+(n:Int)) 0 else min v (n:Int))=((sIx n d (some v):Nat):Int):=by
 show(if v<0 then max (v+(n:Int)) 0 else min v (n:Int))=(((if v<0 then (v+(n:Int)).toNat else min v.toNat n):Nat):Int)
 by_cases hv:v<0
 ·simp only[if_pos hv];omega
 ·simp only[if_neg hv];omega
theorem X6(lo hi:Option Int)(n:Nat):Builtin.Slice.sliceAdjust lo hi 1 (n:Int)=(((sIx n 0 lo:Nat):Int),((sIx n n hi:Nat):Int)):=by
 have h1:¬((1:Int)<0):=by omega
 unfold Builtin.Slice.sliceAdjust
 simp only[h1,if_false]
 refine Prod.ext ?_ ?_
 ·cases lo with
  |none=>rfl
  |some v=>exact Yx v n 0
 ·cases hi with
  |none=>rfl
  |some v=>exact Yx v n n
theorem XE(i j:Nat):Builtin.Slice.slicePlaces (i:Int) (j:Int) 1=j-i:=by
 unfold Builtin.Slice.slicePlaces
 have h1:(1:Int)>0:=by omega
 simp only[h1,if_true,Int.ediv_one]
 split<;>omega
theorem RD{v:Value}{o:Option Int}{Q:Option Int->Shared->Prop}(p:IsPart v o)(h:Q o s):wpAny (model prog w) A (Builtin.Slice.slicePartIndex v) Q E s:=by
 cases p with
 |none=>exact slicePart_none h
 |int i t=>exact slicePart_int h
theorem O0{sl:Addr}{vl vu:Value}{lo hi:Option Int}{n:Nat}{Q:Int×Int×Nat->Shared->Prop}(hs:s.heap.IsSliceOf sl vl vu .none)(pl:IsPart vl lo)(pu:IsPart vu hi)
  (h:Q (((sIx n 0 lo:Nat):Int),1,sIx n n hi-sIx n 0 lo) s):wpAny (model prog w) A (Builtin.Slice.sliceApplied (.ref sl) (pure (n:Int))) Q E s:=by
 obtain⟨os,hos,hcs,hds⟩:=id hs
 unfold Builtin.Slice.sliceApplied Builtin.Slice.sliceFields
 refine wpAny_bind (wpAny_bind (wpAny_field hos hds (x:=vl) rfl (wpAny_bind (wpAny_field hos hds (x:=vu) rfl (wpAny_bind (wpAny_field hos hds (x:=.none) rfl (wpAny_pure ?_)))))))
 refine wpAny_bind (slicePart_none ?_)
 show wpAny _ _ (if ((1:Int)==0)=true then _ else _) _ _ s
 rw[if_neg (by decide)]
 refine wpAny_bind (RD pl (wpAny_bind (RD pu (wpAny_bind (wpAny_pure ?_)))))
 show wpAny _ _ (match Builtin.Slice.sliceAdjust lo hi 1 (n:Int) with|(lo,hi)=>pure (lo,(1:Int),Builtin.Slice.slicePlaces lo hi 1)) _ _ s
 rw[X6 lo hi n]
 show wpAny _ _ (pure (((sIx n 0 lo:Nat):Int),(1:Int),Builtin.Slice.slicePlaces ((sIx n 0 lo:Nat):Int) ((sIx n n hi:Nat):Int) 1)) _ _ s
 rw[XE]
 exact wpAny_pure h
theorem aa(xs:Array Value)(i k:Nat):((List.range k).filterMap fun(m:Nat)=>xs[((i:Int)+(m:Int)*1).toNat]?).toArray=((xs.toList.drop i).take k).toArray:=by
 have e:(fun(m:Nat)=>xs[((i:Int)+(m:Int)*1).toNat]?)=fun m=>xs[i+m]?:=by
  funext m
  have:((i:Int)+(m:Int)*1).toNat=i+m:=by omega
  rw[this]
 rw[e]
 have:=pick_run xs i k
 rw[List.filterMap_map]at this
 have e2:((fun x=>xs[x]?)∘fun x=>i+x)=fun m=>xs[i+m]?:=rfl
 rw[e2]at this
 rw[this]
theorem getItem_tuple_cut{t sl:Addr}{items:Array Value}{vl vu:Value}{lo hi:Option Int}{Q:Value->Shared->Prop}(ht:IsTup s.heap t items)(hs:s.heap.IsSliceOf sl vl vu .none)(pl:IsPart vl lo)(pu:IsPart vu hi)
  (hw:¬(sIx items.size 0 lo=0/\sIx items.size items.size hi=items.size))
  (h:Q (.ref s.heap.objs.size) { s with heap:=s.heap.push { cls:=.type "tuple",data:=.seq ((items.toList.drop (sIx items.size 0 lo)).take (sIx items.size items.size hi-sIx items.size 0 lo)).toArray } })
  (hsz:items.size<=sizeLine):wpAny (model prog w) A (getItem (.ref t) (.ref sl)) Q E s:=by
 have htake:sizeOk (.seq ((items.toList.drop (sIx items.size 0 lo)).take (sIx items.size items.size hi-sIx items.size 0 lo)).toArray):=by
  show((items.toList.drop (sIx items.size 0 lo)).take (sIx items.size items.size hi-sIx items.size 0 lo)).toArray.size<=sizeLine
  rw[List.size_toArray,List.length_take,List.length_drop,Array.length_toList]
  omega
 have hj:sIx items.size items.size hi<=items.size:=fj _ _ (Nat.le_refl _) hi
 obtain⟨os,hos,hcs,hds⟩:=id hs
 have hTs:s.TypeIs (.ref sl) "slice":=⟨os,hos,hcs⟩
 unfold getItem
 try with_reducible refine wpAny_holding ?_
 first|refine wpAny_bind (wpAny_pure ?_)|skip
 refine wpAny_bind (wpAny_sequenceKey ht.typeIs (by decide) ?_)
 refine wpAny_bind (wpAny_callSpecial?_slot (name := Str.ofString "__getitem__") ht.typeIs PyProof.Rows.slot_tuple_getitem
  (wpAny_call_entry PyProof.Rows.slot_tuple_getitem ht.typeIs entry_tuple_getitem ?_ (args_tuple_getitem _ _)))
 show wpAny _ _ (Builtin.Tuple.tupleItemsOf (.ref t) >>= _) _ _ s
 refine wpAny_bind (tupleItemsOf_ ht ?_)
 refine wpAny_bind (wpAny_typeOf hTs ?_)
 rw[if_pos (by decide)]
 refine wpAny_bind (O0 hs pl pu ?_)
 have hno:¬((((sIx items.size 0 lo:Nat):Int)==0&&(1:Int)==1&&(sIx items.size items.size hi-sIx items.size 0 lo)==items.size)=true):=by
  intro q
  rw[Bool.and_eq_true,Bool.and_eq_true]at q
  have q1:((sIx items.size 0 lo:Nat):Int)=0:=eq_of_beq q.1.1
  have q2:sIx items.size items.size hi-sIx items.size 0 lo=items.size:=eq_of_beq q.2
  exact hw ⟨by omega,by omega⟩
 show wpAny _ _ (if (((sIx items.size 0 lo:Nat):Int)==0&&(1:Int)==1&&(sIx items.size items.size hi-sIx items.size 0 lo)==items.size)=true then _ else _) _ _ s
 rw[if_neg hno,aa]
 first
  |exact wpAny_bind (m:=Builtin.Tuple.tupleExact _) (wpAny_newObj_type (wpAny_pure ⟨_,rfl,wpAny_pure h⟩) htake)
  |exact wpAny_bind (m:=Builtin.Tuple.tupleExact _) (wpAny_newObj_type (wpAny_bind (wpAny_pure (wpAny_pure ⟨_,rfl,wpAny_pure h⟩))) htake)
  |exact wpAny_bind (wpAny_bind (m:=Builtin.Tuple.tupleExact _) (wpAny_newObj_type (wpAny_pure (wpAny_pure ⟨_,rfl,wpAny_pure h⟩)) htake))
  |exact wpAny_bind (wpAny_bind (m:=Builtin.Tuple.tupleExact _) (wpAny_newObj_type (wpAny_pure ⟨_,rfl,wpAny_pure h⟩) htake))
end
end HT
namespace L2
open PySem PySem.Spec PyProof.Rows
abbrev TO:=St->Hp->(Option Int->Hp->Prop)->Prop
def PO(X:Cx)(e:Option Expr)(t:TO):Prop :=
 ∀(pins:List (Addr×Obj)) (s:Shared) (σ:St) (H:Hp) (Q:Option Int->Hp->Prop),Inv X pins σ H s->t σ H Q ->
  wpAny (model X.prog X.w) X.A (evalPart e X.env) (fun u s'=>∃o H',Inv X pins σ H' s'/\IsPart u o/\Q o H') X.xe s
def YG:TO:=fun _ H Q=>Q none H
def eI(t:TE):TO:=fun σ H Q=>t σ H fun x H1=>∃i,x = .int i/\Q (some i) H1
section
variable {X:Cx} {e:Expr} {te:TE} {lo hi:Option Expr} {tl th:TO} {pos p2:Pos}
theorem Hn:PO X none YG:=by
 intro pins s σ H Q I h
 rw[evalPart_none]
 exact wpAny_pure ⟨none,H,I,.none,h⟩
theorem Hm(h:PE X e te):PO X (some e) (eI te):=by
 intro pins s σ H Q I hw
 rw[evalPart_some]
 refine thn (h pins s σ H _ I hw) fun u s1 ⟨x,H1,I1,r1,q1⟩=>?_
 obtain⟨i,rfl,q⟩:=q1
 obtain⟨t,rfl⟩:=r1
 exact⟨some i,H1,I1,.int i t,q⟩
def SlR(X:Cx)(r:V->Option Int->Option Int->Hp->VK->Prop):Prop :=
 ∀(pins:List (Addr×Obj)) (s:Shared) (σ:St) (H:Hp) (x:V) (v vl vu:Value) (lo hi:Option Int) (sl:Addr) (Q:VK),Inv X pins σ H s->RelV x v->s.heap.IsSliceOf sl vl vu .none->IsPart vl lo->IsPart vu hi->r x lo hi H Q ->
  ∃T id,typeLookup (.type T) "__getitem__"=pure (some (.builtin id))/\s.TypeIs v T/\wpAny (model X.prog X.w) X.A (getItem v (.ref sl)) (EP X pins σ Q) X.xe s
def tSl(r:V->Option Int->Option Int->Hp->VK->Prop)(te:TE)(tl th:TO):TE:=fun σ H Q=>te σ H fun x H1=>tl σ H1 fun l H2=>th σ H2 fun u H3=>r x l u H3 Q
theorem FV{r:V->Option Int->Option Int->Hp->VK->Prop}(hr:SlR X r)(he:PE X e te)(hl:PO X lo tl)(hu:PO X hi th):PE X (.Subscript e (.Slice lo hi none p2) pos) (tSl r te tl th):=by
 intro pins s σ H Q I h
 refine Subscript_ (thn (he pins s σ H _ I h) fun v s1 ⟨x,H1,I1,r1,q1⟩=>?_)
 refine wpAny_Slice (thn (hl pins s1 σ H1 _ I1 q1) fun vl s2 ⟨l,H2,I2,pl,q2⟩=>thn (hu pins s2 σ H2 _ I2 q2) fun vu s3 ⟨u,H3,I3,pu,q3⟩=>?_)
 rw[evalPart_none]
 refine wpAny_pure ?_
 have I4:Inv X pins σ H3 { s3 with heap:=s3.heap.push { cls:=.type "slice",data:=.fields #[vl,vu,.none] } }:=I3.kept (t':=s3.toks) fun b ob q=>Heap.get?_push_of_some _ q
 obtain⟨T,id,hT,ht,hg⟩:=hr pins { s3 with heap:=s3.heap.push { cls:=.type "slice",data:=.fields #[vl,vu,.none] } } σ H3 x v vl vu l u s3.heap.objs.size Q I4 r1 (Heap.IsSliceOf.new ..) pl pu q3
 show wpAny (model X.prog X.w) X.A (subscriptTail e (.Slice lo hi none p2) v (.ref s3.heap.objs.size)) (EP X pins σ Q) X.xe { s3 with heap:=s3.heap.push { cls:=.type "slice",data:=.fields #[vl,vu,.none] } }
 exact tail_any (ops:=[.ref s3.heap.objs.size,v]) ht hT hg (by with_unfolding_all rfl)
def Tn(xs:List V)(lo hi:Option Int):List V:=(xs.drop (HT.sIx xs.length 0 lo)).take (HT.sIx xs.length xs.length hi-HT.sIx xs.length 0 lo)
theorem QL(xs:List V)(lo hi:Option Int):(Tn xs lo hi).length<=xs.length:=by
 unfold Tn
 rw[List.length_take,List.length_drop]
 omega
def iG(K:PySem.W.Frag):V->Option Int->Option Int->Hp->VK->Prop:=fun x lo hi H Q=>∃a xs,x = .ref a/\SqT K H a xs /\
 ¬(HT.sIx xs.length 0 lo=0/\HT.sIx xs.length xs.length hi=xs.length)/\∀p,H p=none->Q (.ref p) (upd H p (.tup (Tn xs lo hi)))
theorem Lj:SlR X (iG X.K):=by
 intro pins s σ H x v vl vu lo hi sl Q I rx hs pl pu h
 obtain⟨a,xs,rfl,hx,hw,q⟩:=h
 cases rx
 obtain⟨its,r,ht,hz⟩:=I.tuple hx
 have hlen:its.toArray.size=xs.length:=by rw[List.size_toArray];exact r.length.symm
 refine⟨"tuple",_,PyProof.Rows.slot_tuple_getitem.lookup,ht.typeIs,?_⟩
 refine HT.getItem_tuple_cut ht hs pl pu (by rw[hlen];exact hw) ?_ (by rw[hlen];exact hz)
 rw[hlen]
 refine⟨.ref s.heap.objs.size,_,I.laid (t':=s.toks) (o:=.tup (Tn xs lo hi)) (fun b ob q=>Heap.get?_push_of_some _ q) (Nat.le_refl _) ?_,rfl,q _ (I.hok.fresh (Nat.le_refl _))⟩
 exact⟨Nat.le_trans (QL xs lo hi) hz,_,(r.drop (HT.sIx xs.length 0 lo)).take (HT.sIx xs.length xs.length hi-HT.sIx xs.length 0 lo),IsTup.new _ _⟩
def eS(K:PySem.W.Frag):R2:=fun x y H Q=>∃a b xs ys,x = .ref a/\y = .ref b/\SqT K H a xs/\SqT K H b ys/\xs≠[]/\xs.length+ys.length<=sizeLine /\
 (ys=[]->Q (.ref a) H)/\(ys≠[]->∀p,H p=none->Q (.ref p) (upd H p (.tup (xs++ys))))
theorem Vals.nil_iff{xs:List V}{us:List Value}(r:Vals xs us):us=[]↔xs=[]:=by
 cases r with
 |nil=>simp
 |cons _ _=>simp
theorem K6:OpR X (binaryOp .Add) (eS X.K):=by
 intro pins s σ H x y v u Q I rx ry h
 obtain⟨a,b,xs,ys,rfl,rfl,ha,hb,hx,hz,q1,q2⟩:=h
 cases rx
 cases ry
 obtain⟨its,r1,p1,_⟩:=I.tuple ha
 obtain⟨its2,r2,p2,_⟩:=I.tuple hb
 refine HT.cat_tup p1 p2 (fun z=>hx (r1.nil_iff.mp z)) (fun z=>⟨.ref a,H,I,rfl,q1 (r2.nil_iff.mp z)⟩) (fun z=>?_) (by rw[<- r1.length,<- r2.length];exact hz)
 refine⟨.ref s.heap.objs.size,_,I.laid (t':=s.toks) (o:=.tup (xs++ys)) (fun b ob q=>Heap.get?_push_of_some _ q) (Nat.le_refl _) ?_,rfl,q2 (fun w=>z (r2.nil_iff.mpr w)) _ (I.hok.fresh (Nat.le_refl _))⟩
 exact⟨by rw[List.length_append];exact hz,_,r1.append r2,IsTup.new _ _⟩
end
end L2
namespace L2
open PySem PySem.Spec PyProof.Rows
def ixN(n:Nat)(i:Int):Option Nat:=if 0<=i then (if i<n then some i.toNat else none) else if -(n:Int)<=i then some (i+n).toNat else none
def atI{α:Type}(xs:List α)(i:Int):Option α:=(ixN xs.length i).bind fun j=>xs[j]?
theorem dJ{n:Nat}{i:Int}{j:Nat}(h:ixN n i=some j):seqIndex? i n=some j/\j<n/\-(n:Int)<=i/\i<n:=by
 unfold ixN at h
 by_cases h0:0<=i
 ·rw[if_pos h0]at h
  by_cases h1:i<n
  ·rw[if_pos h1]at h
   have e:i.toNat=j:=Option.some.inj h
   exact⟨by rw[seqIndex_of h0 h1,e],by omega,by omega,h1⟩
  ·rw[if_neg h1]at h;cases h
 ·rw[if_neg h0]at h
  by_cases h1:-(n:Int)<=i
  ·rw[if_pos h1]at h
   have e:(i+n).toNat=j:=Option.some.inj h
   exact⟨by rw[seqIndex_neg (by omega) h1,e],by omega,h1,by omega⟩
  ·rw[if_neg h1]at h;cases h
theorem Vj{α:Type}{xs:List α}{i:Int}{v:α}(h:atI xs i=some v):∃j,seqIndex? i xs.length=some j/\xs[j]?=some v/\j<xs.length/\-(xs.length:Int)<=i/\i<xs.length:=by
 unfold atI at h
 cases e:ixN xs.length i with
 |none=>rw[e]at h;cases h
 |some j =>
  rw[e]at h
  obtain⟨h1,h2,h3,h4⟩:=dJ e
  exact⟨j,h1,h,h2,h3,h4⟩
def dz(b:Expr):Prop:=∀o i,subscripted b false o i=operate [o,i] (getItem o i)
def IxR(X:Cx)(r:R2):Prop :=
 ∀(value slice:Expr) (pins:List (Addr×Obj)) (s:Shared) (σ:St) (H:Hp) (x y:V) (v u:Value) (Q:VK),Inv X pins σ H s->RelV x v->RelV y u->r x y H Q ->
  subscripted slice false v u=operate [v,u] (getItem v u)->wpAny (model X.prog X.w) X.A (subscriptTail value slice v u) (EP X pins σ Q) X.xe s
def MtR(X:Cx)(id:String)(r:V->List V->Hp->VK->Prop):Prop :=
 ∀(pins:List (Addr×Obj)) (s:Shared) (σ:St) (H:Hp) (x:V) (xs:List V) (v:Value) (us:List Value) (Q:VK),Inv X pins σ H s->RelV x v->Vals xs us->r x xs H Q ->
  wpAny (model X.prog X.w) X.A (call (.builtin id) (v::us)) (EP X pins σ Q) X.xe s
section
variable {X:Cx} {a b:Expr} {ta tb:TE} {pos:Pos}
theorem Az{r:R2}(hr:IxR X r)(ha:PE X a ta)(hb:PE X b tb)(hs:dz b):PE X (.Subscript a b pos) (tOp r ta tb):=by
 intro pins s σ H Q I h
 exact Subscript_ (gg ha hb I h fun v u s2 x y H2 I2 rx ry q=>hr a b pins s2 σ H2 x y v u Q I2 rx ry q (hs _ _))
def fo(K:PySem.W.Frag):R2:=fun x y H Q=>∃p xs i v,x = .ref p/\y = .int i/\SqL K H p xs/\atI xs i=some v/\Q v H
def cY(K:PySem.W.Frag):R2:=fun x y H Q=>∃p xs i v,x = .ref p/\y = .int i/\SqT K H p xs/\atI xs i=some v/\Q v H
def iK:R2:=fun x y H Q=>∃z i c,x = .str z/\y = .int i/\z.length<=sizeLine/\atI z.cps.toList i=some c/\Q (.str ⟨#[c]⟩) H
theorem OS:IxR X (fo X.K):=by
 intro value slice pins s σ H x y v u Q I rx ry h hs
 obtain⟨p,xs,i,z,rfl,rfl,hq,he,q⟩:=h
 cases rx
 obtain⟨t,rfl⟩:=ry
 obtain⟨its,r,pl,hz⟩:=I.list hq
 obtain⟨j,h1,h2,h3,h4,h5⟩:=Vj he
 obtain⟨w,ew,rw'⟩:=r.get h2
 have hl:=r.length
 have hn:=VH
 have fin:EP X pins σ Q w s:=⟨z,H,I,rw',q⟩
 by_cases h0:0<=i
 ·have hj:i.toNat=j:=by
   rw[seqIndex_of h0 h5]at h1
   exact Option.some.inj h1
  exact item_listR pl.isList h0 (by omega) (by rw[hj];simpa using ew) fin hs
 ·have hj:(i+(its.toArray.size:Int)).toNat=j:=by
   rw[seqIndex_neg (by omega) h4]at h1
   rw[List.size_toArray,<- hl]
   exact Option.some.inj h1
  exact subscriptTail_builtinR (x:=w) pl.isList.typeIs slot_list_getitem.lookup
   (wpAny_getItem_list_neg (Q:=fun r s'=>r=w/\EP X pins σ Q r s') pl.isList (by omega) (by rw[List.size_toArray]<;>omega) (by omega) (by rw[hj];simpa using ew) ⟨rfl,fin⟩) hs
theorem An:IxR X (cY X.K):=by
 intro value slice pins s σ H x y v u Q I rx ry h hs
 obtain⟨p,xs,i,z,rfl,rfl,hq,he,q⟩:=h
 cases rx
 obtain⟨t,rfl⟩:=ry
 obtain⟨its,r,pl,hz⟩:=I.tuple hq
 obtain⟨j,h1,h2,h3,h4,h5⟩:=Vj he
 obtain⟨w,ew,rw'⟩:=r.get h2
 have hl:=r.length
 have hn:=VH
 have fin:EP X pins σ Q w s:=⟨z,H,I,rw',q⟩
 exact subscriptTail_builtinR (x:=w) pl.typeIs slot_tuple_getitem.lookup
  (getItem_tuple (j:=j) (Q:=fun r s'=>r=w/\EP X pins σ Q r s') pl (by omega) (by omega) (by rw[List.size_toArray,<- hl];exact h1) (by simpa using ew) ⟨rfl,fin⟩) hs
theorem Xe:IxR X iK:=by
 intro value slice pins s σ H x y v u Q I rx ry h hs
 obtain⟨z,i,c,rfl,rfl,hz,he,q⟩:=h
 obtain⟨t,rfl⟩:=rx
 obtain⟨t',rfl⟩:=ry
 obtain⟨j,h1,h2,h3,h4,h5⟩:=Vj he
 have hl:z.cps.toList.length=z.length:=by simp[Str.length]
 rw[hl]at h1 h4 h5
 have hn:=VH
 exact tail_any (typeIs_str s z t) slot_str_getitem.lookup (getItem_str (c := c) (by
  have e1:decide (i < -(2 ^ 63:Int))=false:=decide_eq_false (by omega)
  have e2:decide (i≥2 ^ 63)=false:=decide_eq_false (by omega)
  rw[e1,e2,Bool.or_false]) (by rw[h1];simpa using h2) ⟨.str ⟨#[c]⟩,H,I.tok _,⟨_,rfl⟩,q⟩) hs
theorem Ub(lo hi:Option Int)(n:Nat):(sliceBounds lo hi none n).1=((HT.sIx n 0 lo:Nat):Int)/\(sliceBounds lo hi none n).2.1=((HT.sIx n n hi:Nat):Int)/\(sliceBounds lo hi none n).2.2=1:=by
 refine⟨?_,?_,rfl⟩
 ·cases lo with
  |none=>simp[sliceBounds,HT.sIx]
  |some i =>
   simp only[sliceBounds,HT.sIx,Option.getD_none,show(1:Int)>0 by decide,if_true]
   by_cases h:i<0
   ·simp only[h,if_true]<;>omega
   ·simp only[h,if_false]<;>omega
 ·cases hi with
  |none=>simp[sliceBounds,HT.sIx]
  |some i =>
   simp only[sliceBounds,HT.sIx,Option.getD_none,show(1:Int)>0 by decide,if_true]
   by_cases h:i<0
   ·simp only[h,if_true]<;>omega
   ·simp only[h,if_false]<;>omega
theorem Sj(its:List Value)(lo hi:Option Int):slicePick its.toArray lo hi none=((its.drop (HT.sIx its.length 0 lo)).take (HT.sIx its.length its.length hi-HT.sIx its.length 0 lo)).toArray:=by
 obtain⟨h1,h2,h3⟩:=Ub lo hi its.toArray.size
 unfold slicePick
 rw[h1,h2,h3]
 simp only[sliceRange_one,pick_run,List.size_toArray]<;>rfl
def iH(K:PySem.W.Frag):V->Option Int->Option Int->Hp->VK->Prop:=fun x lo hi H Q=>∃a xs,x = .ref a/\SqL K H a xs/\∀p,H p=none->Q (.ref p) (upd H p (.lst (Tn xs lo hi)))
theorem YJ:SlR X (iH X.K):=by
 intro pins s σ H x v vl vu lo hi sl Q I rx hs pl pu h
 obtain⟨a,xs,rfl,hx,q⟩:=h
 cases rx
 obtain⟨its,r,ht,hz⟩:=I.list hx
 have hlen:=r.length
 refine⟨"list",_,slot_list_getitem.lookup,ht.isList.typeIs,?_⟩
 refine wpAny_getItem_list_slice ht.isList hs pl pu .none (by simp) ?_ (by rw[List.size_toArray]<;>omega)
 rw[Sj,<- hlen]
 refine⟨.ref s.heap.objs.size,_,I.laid (t':=s.toks) (o:=.lst (Tn xs lo hi)) (fun b ob q=>Heap.get?_push_of_some _ q) (Nat.le_refl _) ?_,rfl,q _ (I.hok.fresh (Nat.le_refl _))⟩
 exact⟨Nat.le_trans (QL xs lo hi) hz,_,0,(r.drop (HT.sIx xs.length 0 lo)).take (HT.sIx xs.length xs.length hi-HT.sIx xs.length 0 lo),Heap.get?_push_size _ rfl⟩
theorem Ou:J8 X (.type "list") (fun xs H Q=>∃p ys,xs=[.ref p]/\(SqL X.K H p ys\/SqT X.K H p ys)/\∀l,H l=none->Q (.ref l) (upd H l (.lst ys))):=by
 intro pins s σ H xs us Q I r h
 obtain⟨p,ys,rfl,hq,q⟩:=h
 obtain⟨u,rfl,rx⟩:=NA r
 cases rx
 have fin:∀(its:List Value),Vals ys its->ys.length<=sizeLine->∀(h':Heap) (c':Nat),(∀b o',s.heap.get? b=some o'->h'.get? b=some o') ->
   h'.get? s.heap.objs.size=some { cls:=.type "list",dict:=none,data:=.seq its.toArray c',slots:=#[] }->EP X pins σ Q (.ref s.heap.objs.size) { s with heap:=h' }:=fun its r' hz h' c' kp e =>
  ⟨.ref s.heap.objs.size,_,I.laid (t':=s.toks) kp (Nat.le_refl _) (show ObjOk X.prog X.w _ h' _ (.lst ys) from⟨hz,its,c',r',e⟩),rfl,q _ (I.hok.fresh (Nat.le_refl _))⟩
 rcases hq with hq|hq
 ·obtain⟨its,r',pl,hz⟩:=I.list hq
  have hlen:=r'.length
  obtain⟨o,ho,hc,n,hd⟩:=pl.isList
  exact call_list_seq p (.inl rfl) ho hc hd (fun h' c' kp e=>fin its r' hz h' c' kp e) (by simp only[List.size_toArray]<;>omega)
 ·obtain⟨its,r',pl,hz⟩:=I.tuple hq
  have hlen:=r'.length
  obtain⟨o,ho,hc,n,hd⟩:=pl
  exact call_list_seq p (.inr rfl) ho hc hd (fun h' c' kp e=>fin its r' hz h' c' kp e) (by simp only[List.size_toArray]<;>omega)
theorem To:J8 X (.type "tuple") (fun xs H Q=>∃p ys,xs=[.ref p]/\((SqL X.K H p ys/\∀l,H l=none->Q (.ref l) (upd H l (.tup ys)))\/(SqT X.K H p ys/\Q (.ref p) H))):=by
 intro pins s σ H xs us Q I r h
 obtain⟨p,ys,rfl,h⟩:=h
 obtain⟨u,rfl,rx⟩:=NA r
 cases rx
 rcases h with ⟨hq,q⟩|⟨hq,q⟩
 ·obtain⟨its,r',pl,hz⟩:=I.list hq
  have hlen:=r'.length
  refine call_tuple_list pl.isList (fun h' kp=>?_) (by simp only[List.size_toArray]<;>omega)
  have I1:Inv X pins σ H { s with heap:=h' }:=I.kept (t':=s.toks) kp
  have I2:Inv X pins σ (upd H h'.objs.size (.tup ys)) { s with heap:=h'.push { cls:=.type "tuple",data:=.seq its.toArray } } :=
   I1.laid (t':=s.toks) (fun b o e=>Heap.get?_push_of_some _ e) (Nat.le_refl _) (show ObjOk X.prog X.w _ _ _ (.tup ys) from⟨hz,its,r',IsTup.new _ _⟩)
  exact⟨.ref h'.objs.size,_,I2,rfl,q _ (I1.hok.fresh (Nat.le_refl _))⟩
 ·obtain⟨its,r',pl,hz⟩:=I.tuple hq
  exact call_tuple_same pl ⟨.ref p,H,I,rfl,q⟩
def tyV(K:PySem.W.Frag)(T:String)(x:V)(H:Hp):Prop:=match x with
 |.str _=>T="str"
 |.int _=>T="int"
 |.ref p=>(T="list"/\∃xs,SqL K H p xs)\/(T="tuple"/\∃o,K.lookup p=some o/\o.cls = .type "tuple"/\o.dict=none) \/
   (T="dict"/\((∃kvs,H p=some (.dK kvs))\/∃kvs,H p=some (.dT kvs)))\/(T="set"/\∃S n,H p=some (.set S n))
 |_=>False
theorem fW{pins:List (Addr×Obj)}{σ:St}{H:Hp}{s:Shared}{T:String}{x:V}{v:Value}(I:Inv X pins σ H s)(r:RelV x v)(ty:tyV X.K T x H) :
  s.TypeIs v T/\∀a,v = .ref a->∃ob,s.heap.get? a=some ob/\ob.dict=none:=by
 cases x with
 |str z =>
  obtain⟨t,rfl⟩:=r
  cases (show T="str" from ty)
  exact⟨typeIs_str s z t,fun _ e=>nomatch e⟩
 |int i =>
  obtain⟨t,rfl⟩:=r
  cases (show T="int" from ty)
  exact⟨typeIs_int s i t,fun _ e=>nomatch e⟩
 |ref p =>
  cases r
  rcases ty with ⟨rfl,xs,hq⟩|⟨rfl,o,hk,hc,hd⟩|⟨rfl,hk⟩|⟨rfl,S,n,hk⟩
  ·obtain⟨its,_,pl,_⟩:=I.list hq
   refine⟨pl.isList.typeIs,fun a e=>?_⟩
   cases e
   obtain⟨o,n,e,c,hd,_⟩:=pl
   exact⟨o,e,hd⟩
  ·refine⟨⟨o,I.kIn p o hk,hc⟩,fun a e=>?_⟩
   cases e
   exact⟨o,I.kIn _ o hk,hd⟩
  ·have z:∃o,s.heap.get? p=some o/\o.ExactDict:=by
    rcases hk with ⟨kvs,hk⟩|⟨kvs,hk⟩
    ·obtain⟨_,_,_,_,o,_,_,e,ex,_⟩:=I.hok p _ hk
     exact⟨o,e,ex⟩
    ·obtain⟨_,_,_,_,o,_,_,e,ex,_⟩:=I.hok p _ hk
     exact⟨o,e,ex⟩
   obtain⟨o,e,ex⟩:=z
   refine⟨⟨o,e,ex.1⟩,fun a e2=>?_⟩
   cases e2
   exact⟨o,e,ex.2.1⟩
  ·obtain⟨o,_,_,_,e,ex,_⟩:=I.hok p _ hk
   refine⟨⟨o,e,ex.1⟩,fun a e2=>?_⟩
   cases e2
   exact⟨o,e,ex.2.1⟩
 |_=>exact False.elim ty
def tBM(K:PySem.W.Frag)(T:String)(r:V->List V->Hp->VK->Prop)(to:TE)(t:TA):TE:=fun σ H Q=>to σ H fun x H1=>tyV K T x H1/\t σ H1 fun xs H2=>r x xs H2 Q
variable {o e:Expr} {es:List Expr} {to:TE} {t:TA} {name:Str} {apos cpos:Pos} {T id:String} {r:V->List V->Hp->VK->Prop}
theorem OD(pa:PlainAttrs T)(slot:Slot T name id)(hty:typeOf (.builtin id)=pure (.type "method_descriptor"))(hm:MtR X id r)(ho:PE X o to)(ha:PA X (e::es) t)
  (hbase:attributeBase o name X.env (eval o X.env)=eval o X.env:=by rfl)
  (hfew : ((backTo cpos (starEach (e :: es) X.env)).all (fun x => !x.1) && (backToKw cpos (keywordEach [] X.env)).all (fun x => x.1.isSome)
   && decide ((e::es).length+([]:List Keyword).length+(if ([]:List Keyword).isEmpty then 0 else 1)<30))=true:=by rfl)
  (hline:(apos.endLine==cpos.line)=true:=by rfl) (hs:starEach (e::es) X.env=(false,eval e X.env)::starEach es X.env:=by rfl) (hplain:(backTo cpos (starEach es X.env)).any (·.1)=false:=by rfl) :
  PE X (.Call (.Attribute o name apos) (e::es) [] cpos) (tBM X.K T r to t):=by
 intro pins s σ H Q I h
 refine wpAny_Call_method_late hbase hfew hline rfl (thn (ho pins s σ H _ I h) fun v s1 ⟨x,H1,I1,r1,ty,q1⟩=>?_)
 obtain⟨h1,h2⟩:=fW I1 r1 ty
 refine⟨T,id,pa,slot,hty,h1,h2,?_⟩
 have hA:=ha cpos pins s1 σ H1 _ I1 q1
 rw[hs]at hA ⊢
 refine Calls.callWith_builtin (by show(false||(backTo cpos (starEach es X.env)).any (·.1))=false;rw[hplain]<;>rfl) (Calls.evalArgs_plain ?_)
 exact thn hA fun us s2 ⟨vs,H2,I2,r2,q2⟩=>hm pins s2 σ H2 x vs v us Q I2 r1 r2 q2
end
end L2
namespace L2
open PySem PySem.Spec PyProof.Rows
def MtM(X:Cx)(id:String)(r:V->List V->Hp->VK->Prop):Prop :=
 ∀(pins:List (Addr×Obj)) (s:Shared) (σ:St) (H:Hp) (x:V) (xs:List V) (v:Value) (us:List Value) (Q:VK),Inv X pins σ H s->RelV x v->Vals xs us->r x xs H Q ->
  wpAny (model X.prog X.w) X.A (call (.builtin id) (v::us)) (EP X pins σ Q) X.xe s
theorem Vals.one:∀{x:V} {us:List Value},Vals [x] us->∃u,us=[u]/\RelV x u
 |_,_,.cons r .nil=>⟨_,rfl,r⟩
section
variable {X:Cx} {pins:List (Addr×Obj)} {σ:St} {H:Hp} {s:Shared} {l b:Addr} {xs ys zs:List V}
theorem Inv.lset{its its':List Value}{n:Nat}{f:Array Value->Array Value}{t':Nat}(I:Inv X pins σ H s)(hH:H l=some (.lst xs))
  (e:s.heap.get? l=some { cls:=.type "list",data:=.seq its.toArray n }) (hf:f its.toArray=its'.toArray) (hv:Vals ys its') (hz:ys.length<=sizeLine) :
  Inv X pins σ (upd H l (.lst ys)) { s with heap:=s.heap.update l (Obj.mapSeq f),toks:=t' }:=by
 have q:=PySem.IsL.update e f
 rw[hf]at q
 refine I.write (x:=l) (e:=l) (by rw[hH];exact trivial) (.inl rfl) (fun b' u hb hu=>(Heap.get?_update_other s.heap (Obj.mapSeq f) (Ne.symm hb)).trans hu) ⟨_,q⟩ ?_
 exact⟨hz,its',_,hv,q⟩
theorem Inv.lnew{its:List Value}{t':Nat}(I:Inv X pins σ H s)(hv:Vals ys its)(hz:ys.length<=sizeLine) :
  Inv X pins σ (upd H s.heap.objs.size (.lst ys)) { s with heap:=s.heap.push { cls:=.type "list",data:=.seq its.toArray },toks:=t' } :=
 I.laid (fun _ _ q=>Heap.get?_push_of_some _ q) (Nat.le_refl _) ⟨hz,its,0,hv,Heap.get?_push_size _ rfl⟩
theorem Inv.fresh(I:Inv X pins σ H s):H s.heap.objs.size=none:=I.hok.fresh (Nat.le_refl _)
theorem Inv.lstM(I:Inv X pins σ H s)(hH:H l=some (.lst xs)):xs.length<=sizeLine/\∃(its:List Value) (n:Nat),Vals xs its/\xs.length=its.length/\s.heap.get? l=some { cls:=.type "list",data:=.seq its.toArray n }:=by
 obtain⟨z,its,n,r,e⟩:=I.hok l _ hH
 exact⟨z,its,n,r,r.length,e⟩
end
section
variable {X:Cx}
def YN:V->List V->Hp->VK->Prop:=fun x vs H Q=>∃l xs y,x = .ref l/\vs=[y]/\H l=some (.lst xs)/\xs.length<sizeLine/\Q .non (upd H l (.lst (xs++[y])))
theorem Er:MtM X "list.append" YN:=by
 intro pins s σ H x vs v us Q I rx rv h
 obtain⟨l,xs,y,rfl,rfl,hH,hz,q⟩:=h
 cases rx
 obtain⟨u,rfl,ru⟩:=rv.one
 obtain⟨z,its,n,r,hl,e⟩:=I.lstM hH
 refine call_meets F.slot_list_append ⟨_,e,rfl⟩ F.entry_list_append (F.args_list_append_2 _ _) (PySem.list_append l its.toArray n u (by rw[List.size_toArray];omega)) ⟨e,?_⟩
 refine⟨.non,_,I.lset (its':=its++[u]) hH e (by simp) (r.append (.cons ru .nil)) ?_,rfl,q⟩
 rw[List.length_append,List.length_singleton]
 omega
def fu:R2:=fun x y H Q=>∃l b xs zs,x = .ref l/\y = .ref b/\H l=some (.lst xs)/\H b=some (.lst zs)/\xs.length+zs.length<=sizeLine/\∀p,H p=none->Q (.ref p) (upd H p (.lst (xs++zs)))
theorem O7:OpR X (binaryOp .Add) fu:=by
 intro pins s σ H x y v u Q I rx ry h
 obtain⟨l,b,xs,zs,rfl,rfl,hH,hB,hz,q⟩:=h
 cases rx
 cases ry
 obtain⟨z,its,n,r,hl,e⟩:=I.lstM hH
 obtain⟨z2,its2,n2,r2,hl2,e2⟩:=I.lstM hB
 refine PySem.P.add_list e e2 ?_ (by rw[List.size_toArray,List.size_toArray];omega)
 have ea:its.toArray++its2.toArray=(its++its2).toArray:=by simp
 rw[ea]
 exact⟨.ref _,_,I.lnew (t':=s.toks) (r.append r2) (by rw[List.length_append];omega),rfl,q _ I.fresh⟩
end
section
variable {prog:Program} {w:World} {A:Around} {E:Value->Shared->Prop} {s:Shared}
end
section
variable {X:Cx}
end
end L2
namespace Att
open PySem PySem.W PySem.Calls PyProof.Rows
theorem QS{P:Params}{h:Heap}:∀(ns:List Int) (vs:List Value),WellAll P h vs (ns.map WData.int)->IntsAre vs ns:=by
 intro ns
 induction ns with
 |nil =>
  intro vs w
  rw[List.map_nil]at w
  cases w
  exact .nil
 |cons n ns ih =>
  intro vs w
  rw[List.map_cons]at w
  cases w with
  |cons a b =>
   cases a
   exact .cons _ _ (ih _ b)
theorem ZE{l:OpenLaw}{n:Nat}(hn:l.most=some n){P:Params}{h:Heap}{args:List WData}{vals:List Value}
  (hpre:l.row.toRowW.claim.pre args=true) (hwl:WellAll P h vals args) :
  ∃a vs ns,vals=[Value.ref a]/\args=[WData.list (ns.map WData.int)]/\h.get? a=some { cls:=.type "list",data:=.seq vs.toArray }/\IntsAre vs ns/\ns.length<=n:=by
 have hsh:WShape.hasAll [] args [.list .int]=true:=(pre_splitW hpre).1
 have hc:l.pre.holds [] { args:=args }=true:=(pre_splitW hpre).2
 obtain⟨d,r,rfl,h1,h2⟩:=hasAllW_cons hsh
 obtain rfl:=hasAllW_nil h2
 obtain⟨xs,rfl,h3⟩:=hasW_list h1
 obtain⟨ns,rfl⟩:=items_int h3
 have hlen:ns.length<=n:=by
  unfold OpenLaw.pre at hc
  have h4:(WTm.not (.lt (.lit (.int (n:Int))) (.len (.arg 0)))).holds [] { args:=[.list (ns.map .int)] }=true:=by
   have h4:=(holds_andW hc).1
   rw[hn]at h4
   exact h4
  have h5:=condW_of h4 (w_not (w_lt w_lit (w_len_list (w_arg rfl))))
  rw[List.length_map]at h5
  refine Nat.le_of_not_lt fun q=>?_
  have q':(n:Int)<((ns.length:Nat):Int):=by omega
  first
   |(rw[decide_eq_true q']at h5;exact absurd h5 (by decide))
   |(simp at h5;omega)
 cases hwl with
 |cons w1 w2 =>
  cases w2
  cases w1 with
  |list ho hall=>exact⟨_,_,ns,rfl,rfl,ho,QS ns _ hall,hlen⟩
theorem ZK(l:OpenLaw)(args:List WData):l.row.toRowW.claim.post args (.bool true) args=true :=
 postW_of (r:=l.row.toRowW) (X:=(true==true))
  (show WShape.has [] (.bool true) .bool=true by first|rfl|decide|simp[WShape.has,WShape.arms,WShape.armsAll])
  (show(WTm.eq .res (.lit (.bool true))).value [] { args:=args,res:=some (.bool true),after:=args }=some (.bool (true==true)) from w_eq_bool (w_res rfl) w_lit) rfl
theorem attach_call{l:OpenLaw}{n:Nat}{q:Program}{loose:List Str}{XP:(Str->Option Value)->Heap->Prop}{YP:World->Heap->Prop}{d:DefRec}
  (hn:l.most=some n) (hdf:d.params.defaults=[])
  (call : ∀ (w : World) (s₀ s₁ : Shared) (mg mb : Str -> Option Value) (fa : Addr) (o : Obj) (pm cd doc : Value) (a : Addr) (vs : List Value) (ns : List Int),
   Ground q loose [] XP w s₀ mg mb s₁.heap->YP w s₁.heap ->
   s₁.heap.get? fa=some o->o.data = .func (docDef d.name d.params d.body d.scope pm cd doc)->s₁.heap.CodeRec cd d.name->mg d.name=some (.ref fa) ->
   s₁.heap.get? a=some { cls:=.type "list",data:=.seq vs.toArray }->IntsAre vs ns->ns.length<=n->s₁.gens=#[] ->
   codeAny (model l.prog w) callerA (.call (.ref fa) ⟨[.ref a],[]⟩) (fun r s'=>r = .ok (.ret (.bool true))/\OldK s₁.heap s'.heap/\s'.os=s₁.os/\AllBare s'.gens) s₁) :
  WalkO q loose XP YP l.row.toRowW d [] (fun f vs=>PySem.call f vs):=by
 intro w s₀ s₁ mg mb G Y fa o pm cd doc dV kV ho hd hcd hD hmg hg args vals as hpre hlay hrd hwl hlo
 obtain rfl:dV = .none:=Dflts.none hD hdf
 obtain rfl:kV = .none:=Dflts.noKw hD
 obtain⟨a,vs,ns,rfl,rfl,hobj,hints,hlen⟩:=ZE hn hpre hwl
 refine enter_call (codeAny_mono (call w s₀ s₁ mg mb fa o pm cd doc a vs ns G Y ho (fd_plain hd) hcd hmg hobj hints hlen hg) fun r s' hq=>?_)
 obtain⟨rfl,h2,h3,h4⟩:=hq
 exact⟨.inl ⟨.bool true,.bool true,[],rfl,fun _=>rfl,.bool true,ZK l _,fun _=>⟨List.Pairwise.nil,fun _ hm=>(nomatch hm)⟩⟩,h2,h3,h4⟩
section
variable {prog:Program} {w:World} {A:Around} {E:Value->Shared->Prop} {s:Shared} {K:Frag}
end
end Att
namespace L2
open PySem PySem.Spec PyProof.Rows
theorem Tt:∀{vs:List Value} {ns:List Int},IntsAre vs ns->Vals (ns.map V.int) vs
 |_,_,.nil=>.nil
 |_,_,.cons n t h=>.cons ⟨t,rfl⟩ (Tt h)
def gq(H:Hp):Prop:=∀b,H b=none\/∃o xs,H b=some (.frz o (.lst xs))
theorem bG{P:Program}{w:World}{K:PySem.W.Frag}{mg mb:Str->Option Value}{CX:CXT}{k:Nat}{fa a:Addr}{fd:FuncData}{x:Str}{sp:Sp}{s₁:Shared}{vs:List Value}{ns:List Int}
  (KX:K.In s₁.heap) (hns:s₁.heap.Ns mainGlobals mg) (hb:s₁.heap.Ns builtinsNs mb) (hbb:∀x:Str,x≠"__name__"->mb x=bootBuiltins x) (hlim:s₁.heap.NoLimit) (hg:s₁.gens=#[])
  (ha:s₁.heap.get? a=some { cls:=.type "list",data:=.seq vs.toArray }) (hi:IntsAre vs ns) (hl:ns.length<=sizeLine) (hr:Room k callerA)
  (F:∀base:Heap,K.In base->base.Ns mainGlobals mg->FnOk P w K mg base CX k fa fd [x] sp) (hbind:∀(s:Shared) (u:Value),BindsTo s fd ⟨[u],[]⟩ [(x,u)])
  (hsp:∀H:Hp,gq H->SqL K H a (ns.map V.int)->sp [.ref a] H (fun v _=>v = .bl true) fun _ _ _=>False)
  (hCX:∀H e s',CX [] H s₁ (fun _ _ _=>False) e s'->False) :
  codeAny (model P w) callerA (.call (.ref fa) ⟨[.ref a],[]⟩) (fun r s'=>r = .ok (.ret (.bool true))/\OldK s₁.heap s'.heap/\s'.os=s₁.os/\AllBare s'.gens) s₁:=by
 have rv:=Tt hi
 have lenV:=hi.length
 -- from an abstract heap in which nothing but the script may be tracked
 have core:∀H:Hp,gq H->SqL K H a (ns.map V.int)->HOk P w H s₁.heap->(∀b,H b≠none->b=a)->(H a≠none->K.lookup a=none) ->
   codeAny (model P w) callerA (.call (.ref fa) ⟨[.ref a],[]⟩) (fun r s'=>r = .ok (.ret (.bool true))/\OldK s₁.heap s'.heap/\s'.os=s₁.os/\AllBare s'.gens) s₁:=by
  intro H hO hS hok hA hK
  have base_of:∀{b:Addr} {o:Obj},s₁.heap.get? b=some o->H b=none->(VO s₁.heap H).get? b=some o:=fun e n=>bO e n
  have noA:∀{b:Addr} {o:Obj} {es:Array DictEntry} {ep:Nat},s₁.heap.get? b=some o->o.data = .dict es ep->H b=none:=fun {b o es ep} e d=>by
   cases q:H b with
   |none=>rfl
   |some u =>
    have e':b=a:=hA b (by rw[q];simp)
    subst e'
    rw[ha]at e;cases e
    have d':Data.seq vs.toArray _=Data.dict es ep:=d
    cases d'
  have nsK:∀{b:Addr} {m:Str->Option Value},s₁.heap.Ns b m->(VO s₁.heap H).Ns b m:=fun {b m} ⟨o,es,ep,e,d,r⟩=>⟨o,es,ep,base_of e (noA e d),d,r⟩
  have hKb : K.In (VO s₁.heap H) := fun b o e => base_of (KX b o e) (by
   cases q:H b with
   |none=>rfl
   |some u =>
    have e':b=a:=hA b (by rw[q];simp)
    subst e'
    rw[hK (by rw[q];simp)]at e;cases e)
  have hM:Mod K mg (VO s₁.heap H):=⟨hKb,nsK hns,⟨mb,nsK hb,hbb⟩,let ⟨mc,h1,h2⟩:=hlim;⟨mc,nsK h1,h2⟩⟩
  have e0:cR P w K mg (VO s₁.heap H) callerA [] s₁ H:=⟨rfl,hM,fun b o e=>cw e,Nat.le_of_eq (Zl _ _),trivial,fun b hb=>absurd (show b∈([]:List Addr) from hb) (by simp),hok,.of_eq hg⟩
  refine codeAny_mono ((F _ hKb (nsK hns)).run callerA [] s₁ H ⟨[.ref a],[]⟩ [.ref a] [.ref a] _ _ hr e0 (hbind s₁ (.ref a)) (.cons rfl .nil) (hsp H hO hS)) fun r s' h=>?_
  cases r with
  |error e=>exact(hCX H e s' h).elim
  |ok fl =>
   cases fl with
   |next=>exact False.elim h
   |brk=>exact False.elim h
   |cont=>exact False.elim h
   |ret u =>
    obtain⟨v,H',os,bare,un,hok',r',q⟩:=h
    have q':v = .bl true:=q
    subst q'
    obtain rfl:u=Value.bool true:=r'
    refine⟨rfl,OldK.of_keep fun b o e=>?_,os,bare⟩
    cases q:H b with
    |none=>exact un.keep b o e q (by intro z;exact absurd (show b∈([]:List Addr) from z) (by simp)) (by simp)
    |some u =>
     rcases hO b with z|⟨ob,xs,z⟩
     ·rw[q]at z;cases z
     ·have z2:=un.frzs b ob _ z
      obtain⟨e1,_⟩:=hok b _ z
      obtain⟨e2,_⟩:=hok' b _ z2
      rw[e]at e1;cases e1
      exact e2
 cases hk:K.lookup a with
 |some o =>
  -- the script is one of the module's own objects
  have e:=KX a o hk
  rw[ha]at e
  cases e
  refine core (fun _=>none) (fun _=>.inl rfl) (.inr ⟨_,vs.toArray,_,hk,rfl,rfl,rfl,by rw[List.size_toArray,lenV];exact hl,by simpa using rv⟩) (fun b u z=>by have z':(none:Option HO)=some u:=z;cases z') (fun b z=>absurd rfl z) fun z=>absurd rfl z
 |none =>
  refine core (fun b=>if b=a then some (.frz { cls:=.type "list",data:=.seq vs.toArray } (.lst (ns.map V.int))) else none) (fun b=>?_) (.inl (.inr ⟨{ cls:=.type "list",data:=.seq vs.toArray },if_pos rfl⟩)) (fun b u z=>?_) (fun b z=>?_) fun _=>hk
  ·by_cases hb:b=a
   ·exact .inr ⟨_,_,if_pos hb⟩
   ·exact .inl (if_neg hb)
  ·by_cases hb:b=a
   ·have z':=(if_pos hb).symm.trans z
    cases z'
    subst hb
    exact⟨ha,by rw[List.length_map];exact hl,vs,_,rv,ha⟩
   ·have z':=(if_neg hb).symm.trans z
    cases z'
  ·by_cases hb:b=a
   ·exact hb
   ·exact absurd (if_neg hb) z
end L2
namespace L2
open PySem PySem.Spec PyProof.Rows
theorem walk_of{l:PySem.W.OpenLaw}{n k:Nat}{q:Program}{loose:List Str}{XP:(Str->Option Value)->Heap->Prop}{YP:World->Heap->Prop}{d:DefRec}{K:Params->PySem.W.Frag}{CX:World->CXT}{sp:World->Sp}{x:Str}
  (hn:l.most=some n) (hn2:n<=sizeLine) (hdf:d.params.defaults=[]) (hr:Room k callerA)
  (hY:∀(w:World) (h:Heap),YP w h->(K w.params).In h)
  (F : ∀ (w : World) (mg : Str -> Option Value) (fa : Addr) (h : Heap), (K w.params).In h -> h.Ns mainGlobals mg -> mg d.name = some (.ref fa) ->
   ∃fd:FuncData,(∀(s:Shared) (u:Value),BindsTo s fd ⟨[u],[]⟩ [(x,u)]) /\
    ∀base:Heap,(K w.params).In base->base.Ns mainGlobals mg->FnOk l.prog w (K w.params) mg base (CX w) k fa fd [x] (sp w))
  (hsp:∀(w:World) (H:Hp) (a:Addr) (ns:List Int),ns.length<=n->gq H->SqL (K w.params) H a (ns.map V.int)->sp w [.ref a] H (fun v _=>v = .bl true) fun _ _ _=>False)
  (hCX:∀(w:World) (H:Hp) (s:Shared) (e:Value) (s':Shared),CX w [] H s (fun _ _ _=>False) e s'->False) :
  PySem.W.WalkO q loose XP YP l.row.toRowW d [] (fun f vs=>PySem.call f vs):=by
 refine Att.attach_call hn hdf fun w s₀ s₁ mg mb fa o pm cd doc a vs ns G Y ho hd hcd hmg hobj hints hlen hg=>?_
 have KX:=hY w _ Y
 obtain⟨fd,hb,hF⟩:=F w mg fa _ KX G.T.g hmg
 exact bG KX G.T.g G.T.b G.T.builtins G.T.nolimit hg hobj hints (Nat.le_trans hlen hn2) hr hF hb (fun H hO hS=>hsp w H a ns hlen hO hS) fun H e s'=>hCX w H s₁ e s'
end L2
namespace L2
open PySem PySem.Spec PyProof.Rows
def Hu(s:Stmt):Arguments:=match s with
 |.FunctionDef _ a _ _ _ _ _ _ _ _=>a
 |_=>{ posonlyargs:=[],args:=[],vararg:=none,kwonlyargs:=[],kw_defaults:=[],kwarg:=none,defaults:=[] }
def E2(s:Stmt):List Stmt:=match s with
 |.FunctionDef _ _ b _ _ _ _ _ _ _=>b
 |_=>[]
def AR(s:Stmt):Scope:=match s with
 |.FunctionDef _ _ _ _ _ _ sc _ _ _=>sc
 |_=>{ kind:=.function,names:=[],isGenerator:=false,isCoroutine:=false }
abbrev CX0:CXT:=fun _ _ _ _ _ _=>False
abbrev E0:XK:=fun _ _ _=>False
theorem ao{X:Cx}:Se CX0 X E0:=fun _ _ _ _ _ _ _ h=>h.elim
structure Fun(K:PySem.W.Frag)(x qual:Str)(st:Stmt)(f:Addr)(fd:FuncData):Prop where
 ex:∃(oc:Value) (od:Option Addr) (kV doc pm:Value) (an:Option Addr) (cdv ct:Value) (osl:Array (Option Value)),
  fd=PySem.W.fnOf x qual (Hu st) (E2 st) (AR st) .none kV doc pm an cdv ct/\K.lookup f=some ⟨oc,od,.func fd,osl⟩/\PySem.W.codeIn K cdv qual=true
 kp:PySem.W.keepIn K (.ref f)=true
section
variable {P:Program} {w:World} {K:PySem.W.Frag} {mg:Str->Option Value} {base:Heap}
theorem Fun.ok{x qual:Str}{st:Stmt}{f:Addr}{fd:FuncData}{N ps:List Str}{k:Nat}{sp:Sp}(F:Fun K x qual st f fd)(S:Ao N ps (AR st))(len:∀vs H Q E,sp vs H Q E->vs.length=ps.length)
  (hbody : ∀ (cdv : Value) (A : Around) (outer : List Env) (s : Shared) (H : Hp) (vs : List V) (Q : VK) (E : XK), Room k (A.deeper (envOfC qual (AR st) s.heap.objs.size f cdv)) -> sp vs H Q E ->
   ∃t,PSs (Py CX0 P w K mg base N qual (AR st) f cdv A outer s H E).nox (E2 st) t/\t { nx:=fun _ H'=>Q .non H',rt:=Q } (start N vs) H):FnOk P w K mg base CX0 (k+1) f fd ps sp:=by
 obtain⟨oc,od,kV,doc,pm,an,cdv,ct,osl,rfl,lk,hcd⟩:=F.ex
 refine fG lk hcd S len fun A outer s H vs Q E hr hsp=>?_
 obtain⟨t,h,q⟩:=hbody cdv A outer s H vs Q E hr hsp
 exact⟨t,h.nox,q⟩
theorem Fun.binds{x qual:Str}{st:Stmt}{f:Addr}{fd:FuncData}{ps:List Str}(F:Fun K x qual st f fd)
  (h:∀(kV doc pm:Value) (an:Option Addr) (cdv ct:Value) (us:List Value),us.length=ps.length->bindArgs (PySem.W.fnOf x qual (Hu st) (E2 st) (AR st) .none kV doc pm an cdv ct) ⟨us,[]⟩=pure (ps.zip us)):Binds K fd ps []:=by
 obtain⟨oc,od,kV,doc,pm,an,cdv,ct,osl,rfl,lk,hcd⟩:=F.ex
 exact .all (h kV doc pm an cdv ct)
theorem gO{x qual:Str}{st:Stmt}{f:Addr}{oc:Value}{od an:Option Addr}{osl:Array (Option Value)}{kV doc pm cdv ct:Value}(l:K.lookup f=some ⟨oc,od,.func (PySem.W.fnOf x qual (Hu st) (E2 st) (AR st) .none kV doc pm an cdv ct),osl⟩)
  (c:PySem.W.codeIn K cdv qual=true) (k:PySem.W.keepIn K (.ref f)=true):Fun K x qual st f (PySem.W.fnOf x qual (Hu st) (E2 st) (AR st) .none kV doc pm an cdv ct):=⟨⟨oc,od,kV,doc,pm,an,cdv,ct,osl,rfl,l,c⟩,k⟩
end
section
variable {X:Cx}
theorem pv(i:Nat){x:Str}{pos:Pos}(hN:X.N[i]?=some x:=by rfl)(hv:Vis X.env.scope x:=by first|exact Or.inl rfl|exact Or.inr (Or.inl rfl)|exact Or.inr (Or.inr rfl))(hd:(x==("__debug__":Str))=false:=by decide)
  (hcd:(x==("__classdict__":Str))=false:=by decide):PE X (.Name x pos) (J9 i):=af hN hv hd hcd
end
def Same(H H':Hp):Prop:=∀b o,H b=some o->H' b=some o
theorem Same.trans{H H1 H2:Hp}(a:Same H H1)(b:Same H1 H2):Same H H2:=fun c o h=>b c o (a c o h)
theorem Same.seq{K:PySem.W.Frag}{H H':Hp}{a:Addr}{xs:List V}(e:Same H H')(h:SqL K H a xs):SqL K H' a xs:=by
 rcases h with (h|⟨o,h⟩)|h
 ·exact .inl (.inl (e _ _ h))
 ·exact .inl (.inr ⟨o,e _ _ h⟩)
 ·exact .inr h
end L2
end
section
namespace L2
open PySem PySem.Spec PyProof.Rows
def Bd(n:Nat)(x:Int):Prop:=x.natAbs<2 ^ n
theorem Bd.mono{m n:Nat}{x:Int}(h:Bd m x)(k:m<=n):Bd n x:=Nat.lt_of_lt_of_le h (Nat.pow_le_pow_right (by decide) k)
theorem Bd.bits{n:Nat}{x:Int}(h:Bd n x):Builtin.Int.intBits x<=n+1:=by
 unfold Builtin.Int.intBits
 split
 ·exact Nat.zero_le _
 ·have:x.natAbs.log2<=n:=by
   rcases Nat.eq_zero_or_pos x.natAbs with h0|hp
   ·rw[h0];simp
   ·exact Nat.le_of_lt ((Nat.log2_lt (Nat.ne_of_gt hp)).mpr h)
  omega
theorem Bd.log{n:Nat}{x:Int}(h:Bd n x):x.natAbs.log2<=n:=by
 rcases Nat.eq_zero_or_pos x.natAbs with h0|hp
 ·rw[h0];simp
 ·exact Nat.le_of_lt ((Nat.log2_lt (Nat.ne_of_gt hp)).mpr h)
theorem Bd.of{n:Nat}{x m:Int}(h1:-m<=x)(h2:x<=m)(hm:m.natAbs<2 ^ n):Bd n x:=by
 unfold Bd
 omega
section
variable {X:Cx}
def CMulB(i j:Int):Prop:=CMul i j\/(Bd 8000 i/\Bd 8000 j)
theorem CMulB.ok{i j:Int}(h:CMulB i j):IntMulOk i j:=by
 rcases h with h|⟨h,k⟩
 ·exact h.ok
 ·have a:=h.bits
  have b:=k.bits
  have e:(2:Nat) ^ 20=1048576:=by decide
  exact IntMulOk.of_bits (by omega) (by omega)
theorem Ud:OpR X (binaryOp .Mult) (rI CMulB fun i j=>.int (i*j)):=opI fun _ _ _ _ _ _ _ hc q=>mul_int q hc.ok
def Wx(i j:Int):Prop:=0<j/\Bd 8000 j
theorem A3:OpR X (binaryOp .FloorDiv) (rI Wx fun i j=>.int (i / j)):=opI fun i j _ _ _ _ _ hc q=>by
 have:=hc.2.log
 rw[<- Int.fdiv_eq_ediv_of_nonneg _ (Int.le_of_lt hc.1)]at q
 exact floordiv_int (by have:=hc.1;omega) q (.inl (PyProof.noPylong_of_log2 (by omega)))
def fQ(i j:Int):Prop:=j≠0/\Bd 8000 j
end
mutual
def Is(H:Hp):PyData->V->Prop
 |.none,v=>v = .non
 |.bool b,v=>v = .bl b
 |.int i,v=>v = .int i
 |.str x,v=>v = .str x
 |.tuple ds,v=>∃a vs,v = .ref a/\H a=some (.tup vs)/\IsL H ds vs
 |.list ds,v=>∃a vs,v = .ref a/\H a=some (.lst vs)/\IsL H ds vs
 |.dict _,_=>False
def IsL(H:Hp):List PyData->List V->Prop
 |[],vs=>vs=[]
 |d::ds,vs=>∃x xs,vs=x::xs/\Is H d x/\IsL H ds xs
end
mutual
def GN:PyData->Bool
 |.none=>true
 |.bool _=>true
 |.int _=>true
 |.str _=>true
 |.tuple ds=>fixDs ds
 |.list _=>false
 |.dict _=>false
def fixDs:List PyData->Bool
 |[]=>true
 |d::ds=>GN d&&fixDs ds
end
section
variable {X:Cx} {pins:List (Addr×Obj)} {σ:St} {H:Hp} {s:Shared}
end
def okD(d:PyData):Bool:=SeqAt.shaped d
section
variable {X:Cx}
theorem P5{es:List PyData}(h:okD (.list es)=true):PyData.canLayAll0 es=true/\PyData.depthAll es<=63:=by
 unfold okD SeqAt.shaped at h
 rw[Bool.and_eq_true]at h
 obtain⟨h1,h2⟩:=h
 have h3:=of_decide_eq_true h2
 simp only[PyData.depth]at h3
 exact⟨by simpa only[PyData.canLay0] using h1,by omega⟩
theorem Kz{d:PyData}(h:okD d=true):d.canLay0=true:=by
 unfold okD SeqAt.shaped at h
 rw[Bool.and_eq_true]at h
 exact h.1
end
structure Cal(P:Program)(w:World)(K:PySem.W.Frag)(mg:Str->Option Value)(base:Heap)(k:Nat)(x:Str)(ps:List Str)(sp:Sp):Prop where
 ex:∃f fd,FnOk P w K mg base CX0 k f fd ps sp/\Binds K fd ps []/\PySem.W.keepIn K (.ref f)=true/\mg x=some (.ref f)
theorem Cal.mono{P:Program}{w:World}{K:PySem.W.Frag}{mg:Str->Option Value}{base:Heap}{j k:Nat}{x:Str}{ps:List Str}{sp:Sp}(C:Cal P w K mg base j x ps sp)(h:j<=k):Cal P w K mg base k x ps sp:=by
 obtain⟨f,fd,F,b,kp,m⟩:=C.ex
 exact⟨f,fd,F.mono h,b,kp,m⟩
theorem Cal.of{P:Program}{w:World}{K:PySem.W.Frag}{mg:Str->Option Value}{base:Heap}{k:Nat}{x:Str}{ps:List Str}{sp:Sp}{f:Addr}{fd:FuncData}{st:Stmt}(F:Fun K x x st f fd)(ok:FnOk P w K mg base CX0 k f fd ps sp)(b:Binds K fd ps [])(m:mg x=some (.ref f)):Cal P w K mg base k x ps sp:=⟨f,fd,ok,b,F.kp,m⟩
section
variable {X:Cx} {k:Nat} {ps:List Str} {sp:Sp} {x:Str} {p pos:Pos} {e:Expr} {es:List Expr} {t:TA}
theorem AS(C:Cal X.prog X.w X.K X.mg X.base k x ps sp)(hr:Room k X.A)(hg:Gl X x)(ha:PA X (e::es) t)(hdb:(x==("__debug__":Str))=false:=by decide)
  (he:starEach (e::es) X.env=(false,eval e X.env)::starEach es X.env:=by rfl) (hpl:(backTo pos (starEach es X.env)).any (·.1)=false:=by rfl) :
  PE X (.Call (.Name x p) (e::es) [] pos) (P2 sp [] E0 t):=by
 obtain⟨f,fd,F,b,kp,m⟩:=C.ex
 exact YS F hr hg m kp b .nil ao ha hdb he hpl
end
theorem Gp{X:Cx}{x:Str}{T:String}{pos:Pos}(hg:Gl X x)(hm:X.mg x=none)(hv:bootBuiltins x=some (.type T))(hn:x≠"__name__")(hd:(x==("__debug__":Str))=false):PE X (.Name x pos) (tC (.ty T)):=cj hg hm hv rfl hn hd
theorem fz{X:Cx}:OpR X (compareOp .Is) (fun x y H Q=>∃b c,x = .bl b/\y = .bl c/\Q (.bl (b==c)) H):=by
 intro pins s σ H x y v u Q I rx ry h
 obtain⟨b,c,rfl,rfl,q⟩:=h
 cases rx
 cases ry
 exact PyProof.Rows.is_bool ⟨.bl _,H,I,rfl,q⟩
theorem CA{H:Hp}{p:Addr}(h:H p=none)(o:HO):Same H (upd H p o):=fun b u q=>by rw[CI (B6 q h)];exact q
theorem bH{K:PySem.W.Frag}(T:String):PySem.W.kitOne K (.type T) (.type T)=some true:=by
 unfold PySem.W.kitOne
 rw[if_pos (beq_self_eq_true _)]
theorem gF{K:PySem.W.Frag}{t T:String}{b:Bool}(h1:(Value.type t==Value.type T)=false)(h2:PySem.W.kitMeta T=true)(h3:(PySem.fastBuiltinMro t).map (·.contains (Value.type T))=some b):PySem.W.kitOne K (.type t) (.type T)=some b:=by
 unfold PySem.W.kitOne PySem.W.kitCls
 rw[h1,if_neg Bool.false_ne_true]
 simp only[h2,if_true]
 exact h3
end L2
end
section
namespace L2
open PySem PySem.Spec PyProof.Rows
theorem Vh{env:Env}:∀(names:List (Str×NameKind)) (cs:List (Str×Addr)),(∀x,(x,NameKind.free)∈names->∃c,env.cells.lookup x=some c) ->
  (∀x c,cs.lookup x=some c->env.cells.lookup x=some c) ->
  ∃ cl, (forIn names cs fun (x : Str × NameKind) (r : List (Str × Addr)) => match x with
   |(name,kind)=>if (kind==NameKind.free)=true then do let c <- cellOf env name;pure (ForInStep.yield ((name,c)::r)) else pure (ForInStep.yield r):Sem (List (Str×Addr)))=pure cl /\
   (∀x c,cl.lookup x=some c->env.cells.lookup x=some c)/\(∀x,(x,NameKind.free)∈names->∃c,cl.lookup x=some c)/\(∀x c,cs.lookup x=some c->∃c',cl.lookup x=some c')
 |[],cs,_,h2=>⟨cs,rfl,h2,fun x hx=>by simp at hx,fun x c e=>⟨c,e⟩⟩
 |(n,k)::r,cs,h1,h2=>by
  by_cases hk:k = .free
  ·subst hk
   obtain⟨c,hc⟩:=h1 n List.mem_cons_self
   have hh:∀x c',((n,c)::cs).lookup x=some c'->env.cells.lookup x=some c':=by
    intro x c' e
    rw[List.lookup_cons]at e
    cases q:x==n with
    |true=>rw[q]at e;cases e;rw[eq_of_beq q];exact hc
    |false=>rw[q]at e;exact h2 x c' e
   obtain⟨cl,e,a,b,d⟩:=Vh (env:=env) r ((n,c)::cs) (fun x hx=>h1 x (List.mem_cons_of_mem _ hx)) hh
   refine⟨cl,?_,a,fun x hx=>?_,fun x c' e'=>?_⟩
   ·rw[List.forIn_cons]
    have ec:cellOf env n=pure c:=by
     unfold cellOf
     rw[hc]
    simp only[beq_self_eq_true,if_true]
    rw[ec]
    exact e
   ·rcases List.mem_cons.mp hx with z|z
    ·cases z
     exact d n c (by rw[List.lookup_cons,beq_self_eq_true])
    ·exact b x z
   ·cases q:x==n with
    |true=>exact d x c (by rw[List.lookup_cons,q])
    |false=>exact d x c' (by rw[List.lookup_cons,q];exact e')
  ·obtain⟨cl,e,a,b,d⟩:=Vh (env:=env) r cs (fun x hx=>h1 x (List.mem_cons_of_mem _ hx)) h2
   refine⟨cl,?_,a,fun x hx=>?_,d⟩
   ·rw[List.forIn_cons]
    have hb:(k==NameKind.free)=false:=by simpa using hk
    simp only[hb,Bool.false_eq_true,if_false]
    exact e
   ·rcases List.mem_cons.mp hx with z|z
    ·cases z;exact absurd rfl hk
    ·exact b x z
theorem Vg{env:Env}{scope:Scope}(h:∀x,(x,NameKind.free)∈scope.names->∃c,env.cells.lookup x=some c) :
  ∃cl,closureFor scope env=pure cl/\(∀x c,cl.lookup x=some c->env.cells.lookup x=some c)/\(∀x,(x,NameKind.free)∈scope.names->∃c,cl.lookup x=some c):=by
 obtain⟨cl,e,a,b,_⟩:=Vh (env:=env) scope.names [] h (fun x c e=>by simp at e)
 refine⟨cl,?_,a,b⟩
 exact(congrArg (fun m:Sem (List (Str×Addr))=>m >>= fun r=>(pure r:Sem (List (Str×Addr)))) e).trans rfl
theorem Zu{prog:Program}{w:World}{A:Around}{R:Result->Shared->Prop}{s:Shared}{elt target iter:Expr}{ifs:List Expr}{scope:Scope}{pos:Pos}{it acc:Value}{env:Env}(I:Nat->Shared->Prop)
  (turn : ∀ n s, I n s -> wpAny (model prog w) A (pyNext it) (fun r s₁ => match r with
   |none=>R (.ok .next) s₁
   | some v => wpAny (model prog w) A (letOwnedTupleGo target it v) (fun _ s₁ => wpAny (model prog w) A (assign target env v) (fun _ s₂ =>
     wpAny (model prog w) A (forIn ifs true fun c r => if r = true then do let ok <- isTrue c env (eval c env); pure (ForInStep.yield ok) else pure (ForInStep.yield r)) (fun ok s₃ =>
      if ok = true then wpAny (model prog w) A (eval elt env) (fun x s₄ =>
       wpAny (model prog w) A (call (.builtin "list.append") [acc,x]) (fun _ s₅=>∃m,m<n/\I m s₅) (fun _ _=>False) s₄) (fun _ _=>False) s₃
      else ∃m,m<n/\I m s₃) (fun _ _=>False) s₂) (fun _ _=>False) s₁) (fun _ _=>False) s₁) (fun _ _=>False) s)
  (n:Nat) (h:I n s) :
  codeAny (model prog w) A (.compLoop (.ListComp elt [⟨target,iter,ifs,0⟩] scope pos) 0 it acc env) R s:=by
 refine codeAny_loop rfl I (fun n s hI=>?_) n h
 show wpAny _ A ((compTurn (.ListComp elt [⟨target,iter,ifs,0⟩] scope pos) 0 it acc env).onRaise (fun x=>do noteFrame x env;theTreesLotGoes x)) _ _ s
 refine wpAny_noted ?_
 rw[compTurn_list]
 refine wpAny_bind (wpAny_standAt (wpAny_bind (wpAny_mono (turn n s hI) (fun r s₁ h₁=>?_) fun _ _ h'=>h'.elim)))
 cases r with
 |none=>exact wpAny_pure h₁
 |some v =>
  refine wpAny_bind (wpAny_mono h₁ (fun _ s₁ h₁=>?_) fun _ _ h'=>h'.elim)
  refine wpAny_bind (wpAny_mono h₁ (fun _ s₂ h₂=>wpAny_bind (wpAny_mono h₂ (fun ok s₃ h₃=>?_) fun _ _ h'=>h'.elim)) fun _ _ h'=>h'.elim)
  cases ok with
  |false=>exact wpAny_pure ⟨rfl,h₃⟩
  |true =>
   exact wpAny_bind (wpAny_bind (wpAny_mono h₃ (fun x s₄ h₄=>wpAny_bind (wpAny_mono h₄ (fun _ s₅ h₅=>wpAny_pure (wpAny_pure ⟨rfl,h₅⟩)) fun _ _ h'=>h'.elim)) fun _ _ h'=>h'.elim))
theorem NW{env:Env}:∀{names:List (Str×NameKind)} {x:Str} {k:NameKind},names.lookup x=some k ->
  (names.map fun(n,k)=>if (k==NameKind.free&&env.scope.kind==.function&&env.kindOf n==some .cell) then (n,NameKind.cell) else (n,k)).lookup x=some k \/
  (k = .free/\(names.map fun(n,k)=>if (k==NameKind.free&&env.scope.kind==.function&&env.kindOf n==some .cell) then (n,NameKind.cell) else (n,k)).lookup x=some .cell)
 |[],_,_,h=>by simp at h
 |(n,k')::r,x,k,h=>by
  rw[List.map_cons]
  dsimp only
  cases hx:x==n with
  |true =>
   simp only[List.lookup_cons,hx]at h
   have e:k=k':=(Option.some.inj h).symm
   subst e
   by_cases hc:(k==NameKind.free&&env.scope.kind==.function&&env.kindOf n==some .cell)=true
   ·rw[if_pos hc]
    refine .inr ⟨?_,by simp only[List.lookup_cons,hx]⟩
    simp only[Bool.and_eq_true]at hc
    exact eq_of_beq hc.1.1
   ·rw[if_neg hc]
    exact .inl (by simp only[List.lookup_cons,hx])
  |false =>
   simp only[List.lookup_cons,hx]at h
   have ih:=@NW env r x k h
   by_cases hc:(k'==NameKind.free&&env.scope.kind==.function&&env.kindOf n==some .cell)=true
   ·rw[if_pos hc];simp only[List.lookup_cons,hx];exact ih
   ·rw[if_neg hc];simp only[List.lookup_cons,hx];exact ih
theorem K3{env:Env}:∀{names:List (Str×NameKind)} {x:Str} {k:NameKind},(∀y∈names,y.2≠.cell) ->
  (names.map fun(n,k)=>if (k==NameKind.free&&env.scope.kind==.function&&env.kindOf n==some .cell) then (n,NameKind.cell) else (n,k)).lookup x=some k->(k = .cell\/k = .free)->(x,NameKind.free)∈names
 |[],_,_,_,h,_=>by simp at h
 |(n,k')::r,x,k,nc,h,hk=>by
  rw[List.map_cons]at h
  dsimp only at h
  cases hx:x==n with
  |true =>
   have e:=eq_of_beq hx
   subst e
   by_cases hc:(k'==NameKind.free&&env.scope.kind==.function&&env.kindOf x==some .cell)=true
   ·simp only[Bool.and_eq_true]at hc
    rw[eq_of_beq hc.1.1]
    exact List.mem_cons_self
   ·rw[if_neg hc,List.lookup_cons,hx]at h
    cases h
    rcases hk with rfl|rfl
    ·exact absurd rfl (nc _ List.mem_cons_self)
    ·exact List.mem_cons_self
  |false =>
   refine List.mem_cons_of_mem _ (K3 (env:=env) (fun y hy=>nc y (List.mem_cons_of_mem _ hy)) ?_ hk)
   by_cases hc:(k'==NameKind.free&&env.scope.kind==.function&&env.kindOf n==some .cell)=true
   ·rw[if_pos hc,List.lookup_cons,hx]at h;exact h
   ·rw[if_neg hc,List.lookup_cons,hx]at h;exact h
theorem CZ{scope:Scope}{env:Env}{x:Str}(h:scope.names.lookup x=some .local):(relabel scope env).names.lookup x=some .local:=lookup_relabel_local h
theorem Jq{scope:Scope}{env:Env}{x:Str}(h:scope.names.lookup x=some .globalImplicit):(relabel scope env).names.lookup x=some .globalImplicit:=by
 rcases NW (env:=env) h with z|⟨z,_⟩
 ·exact z
 ·cases z
theorem YM{scope:Scope}{env:Env}{x:Str}(h:scope.names.lookup x=some .free):(relabel scope env).names.lookup x=some .cell\/(relabel scope env).names.lookup x=some .free:=by
 rcases NW (env:=env) h with z|⟨_,z⟩
 ·exact .inr z
 ·exact .inl z
theorem Bc{scope:Scope}{env:Env}{x:Str}(h:scope.names.lookup x=some .local):Vis (relabel scope env) x:=.inl (CZ h)
theorem JO{scope:Scope}{env:Env}{x:Str}(h:scope.names.lookup x=some .free):Vis (relabel scope env) x:=(YM h).elim (fun z=>.inr (.inl z)) fun z=>.inr (.inr z)
theorem CS{scope:Scope}{env:Env}{x:Str}(h:scope.names.lookup x=some .local):Loc (relabel scope env) x:=.inl (CZ h)
def blk(own:Nat)(fr:List Nat)(σ:St):St:=List.replicate own none++fr.map fun j=>(σ[j]?).join
def cxC(X:Cx)(N':List Str)(scope:Scope)(cl:List (Str×Addr))(fp:List Addr)(s3:Shared)(H3:Hp):Cx:={ X with
 N:=N',s₀:=s3,H₀:=H3,env:=compEnvC scope cl s3.heap.objs.size X.env,outer:=X.stack,stack:=X.stack,ex:=fp,fn:=fun _=>false,pn:=[],xe:=fun _ _=>False }
structure Z2(X:Cx)(N':List Str)(own:Nat)(fr:List Nat)(scope:Scope):Prop where
 kind:scope.kind = .function
 len:N'.length=own+fr.length
 cell:∀y∈scope.names,y.2≠.cell
 names:∀y∈scope.names,y.2 = .local->scope.names.lookup y.1=some .local
 free:∀x,(x,NameKind.free)∈scope.names->X.env.scope.names.lookup x=some .cell\/X.env.scope.names.lookup x=some .free
 slot:∀k j,fr[k]?=some j->∃x,N'[own+k]?=some x/\X.N[j]?=some x/\scope.names.lookup x=some .free
theorem dn{own:Nat}{fr:List Nat}{σ:St}{i:Nat}{v:V}(h:(blk own fr σ)[i]?=some (some v)):∃k j,i=own+k/\fr[k]?=some j/\σ[j]?=some (some v):=by
 unfold blk at h
 by_cases hi:i<own
 ·rw[List.getElem?_append_left (by simpa using hi),List.getElem?_replicate,if_pos hi]at h
  cases h
 ·rw[List.getElem?_append_right (by simpa using hi),List.length_replicate,List.getElem?_map]at h
  cases e:fr[i-own]? with
  |none=>rw[e]at h;cases h
  |some j =>
   rw[e]at h
   simp only[Option.map_some,Option.some.injEq]at h
   refine⟨i-own,j,by omega,e,?_⟩
   cases q:σ[j]? with
   |none=>rw[q]at h;cases h
   |some o=>rw[q]at h;cases o with
    |none=>cases h
    |some u=>cases h;rfl
section
variable {X:Cx} {N':List Str} {own:Nat} {fr:List Nat} {scope:Scope}
theorem dO{pins:List (Addr×Obj)}{σ:St}{H3:Hp}{s3:Shared}{cl:List (Str×Addr)}{fp:List Addr}{h4:Heap}{tk:Nat}(ok:Z2 X N' own fr scope)(I:Inv X pins σ H3 s3)(f2:∀b∈fp,N5 X pins H3 b)(flt:∀b∈fp,b<s3.heap.objs.size)
  (cl1:∀x c,cl.lookup x=some c->X.env.cells.lookup x=some c) (cl2:∀x,(x,NameKind.free)∈scope.names->∃c,cl.lookup x=some c)
  (m4:Str->Option Value) (n4:h4.Ns s3.heap.objs.size m4) (k4:∀b o,s3.heap.get? b=some o->h4.get? b=some o) :
  Inv (cxC X N' scope cl fp s3 H3) [] (blk own fr σ) H3 { s3 with heap:=h4,toks:=tk }:=by
 have stk:∀b,b∈frs X.stack->b∈X.env.locals::X.fs:=I.stkSub
 have exfs:∀b∈fp,b∉frs X.stack:=fun b hb z=>by
  rcases List.mem_cons.mp (stk b z)with e|e
  ·exact(f2 b hb).2.1 e
  ·exact(f2 b hb).2.2.1 e
 have okk:(cxC X N' scope cl fp s3 H3).Ok:=by
  refine ⟨I.ok.mod, ok.kind, I.ok.glob, I.ok.blt, Nat.le_refl _, fun x y c e1 e2 => I.ok.inj x y c (cl1 x c e1) (cl1 y c e2), fun x hx => ?_, fun x c hf => ?_, I.ok.hd, I.ok.frames, .inl rfl, fun b hb => ⟨Nat.ne_of_lt (flt b hb), fun x c e => (f2 b hb).2.2.2.2.1 x c (cl1 x c e)⟩,
   I.bs,Nat.le_trans I.ok.bsz I.sz,fun b o e hb=>?_,exfs,I.stack,I.stkFree⟩
  ·refine cl2 x ?_
   have hx:(relabel scope X.env).names.lookup x=some .cell\/(relabel scope X.env).names.lookup x=some .free:=hx
   rcases hx with hx|hx
   ·exact K3 (env:=X.env) ok.cell hx (.inl rfl)
   ·exact K3 (env:=X.env) ok.cell hx (.inr rfl)
  ·exact absurd (show false=true from hf) Bool.false_ne_true
  ·rcases(f2 b hb).2.2.2.1 with z|z
   ·exact I.ok.noex b o e z
   ·exact absurd (Nat.lt_of_lt_of_le (Heap.lt_size e) (Nat.le_trans I.ok.bsz z)) (Nat.lt_irrefl _)
 refine⟨okk,rfl,I.bare,Un.kept k4,⟨m4,n4,fun i x v e1 e2 e3=>?_⟩,fun x c e=>?_,I.hok.fresh (Nat.le_refl _),fun x c e=>I.freeC x c (cl1 x c e),fun p hp=>absurd (show p∈([]:List (Addr×Obj)) from hp) (by simp),I.hok.kept k4,?_⟩
 ·obtain⟨k,j,rfl,ej,es⟩:=dn e2
  obtain⟨y,y1,y2,y0⟩:=ok.slot k j ej
  have y3:=PySem.mem_of_lookup y0
  rw[show(cxC X N' scope cl fp s3 H3).N=N' from rfl,y1]at e1
  cases e1
  obtain⟨m,hn,hl⟩:=I.loc
  have vis:Vis X.env.scope x:=(ok.free x y3).elim (fun z=>.inr (.inl z)) fun z=>.inr (.inr z)
  obtain⟨u,r,l⟩:=hl j x v y2 es vis
  refine⟨u,r,?_⟩
  rcases l with ⟨l,_⟩|⟨_,c,ec,z⟩
  ·exfalso
   have l':X.env.scope.names.lookup x=some .local:=l
   rcases ok.free x y3 with q|q
   ·rw[q]at l';cases l'
   ·rw[q]at l';cases l'
  ·obtain⟨c',ec'⟩:=cl2 x y3
   have:=cl1 x c' ec'
   rw[ec]at this
   cases this
   obtain⟨o,ho,hd⟩:=z
   refine .inr ⟨?_,c,ec',⟨o,k4 c o ho,hd⟩⟩
   rcases e3 with z|z|z
   ·exfalso
    have z':(relabel scope X.env).names.lookup x=some .local:=z
    rcases YM (env:=X.env) y0 with q|q
    ·rw[z']at q;cases q
    ·rw[z']at q;cases q
   ·exact .inl z
   ·exact .inr z
 ·obtain⟨v,o,ho,hd⟩:=I.cell x c (cl1 x c e)
  exact⟨v,o,k4 c o ho,hd⟩
 ·show(blk own fr σ).length=N'.length
  unfold blk
  rw[List.length_append,List.length_replicate,List.length_map,ok.len]
end
end L2
end
section
namespace L2
open PySem PySem.Spec PyProof.Rows
def PTs(X:Cx)(ifs:List Expr)(tc:TT):Prop :=
 ∀(pins:List (Addr×Obj)) (s:Shared) (σ:St) (H:Hp) (Q:Bool->Hp->Prop),Inv X pins σ H s->tc σ H Q->wpAny (model X.prog X.w) X.A (forIn ifs true fun c r=>if r=true then do let ok <- isTrue c X.env (eval c X.env);pure (ForInStep.yield ok) else pure (ForInStep.yield r)) (TP X pins σ Q) X.xe s
def hW:TT:=fun _ H Q=>Q true H
theorem Io{X:Cx}:PTs X [] hW:=fun pins s σ H Q I h=>wpAny_tests_nil ⟨H,I,h⟩
theorem Jr{X:Cx}{c:Expr}{tc:TT}(h:PT X c tc):PTs X [c] tc:=fun pins s σ H Q I hq=>wpAny_tests_one (h pins s σ H Q I hq)
def iS(own:Nat)(fr:List Nat)(g:TG)(tc:TT)(te:TE)(J:It)(σ:St)(H1:Hp)(Q:VK):Prop:=∀D,H1 D=none->∃W:Nat->Nat->List V->St->Hp->Prop,(∃m,W 0 m [] (blk own fr σ) (upd H1 D (.lst [])))/\∀i m ys σ' H',W i m ys σ' H' ->
 (J.stop i H' /\ Q (.ref D) H') \/ (J.go i H' /\ ∀ x H2, J.yld i H' x H2 -> g x σ' H2 fun σ3 H3 => tc σ3 H3 fun b H4 => if b = true then te σ3 H4 fun y H5 => H5 D = some (.lst ys) /\ ys.length < sizeLine /\ ∃ m', m' < m /\ W (i + 1) m' (ys ++ [y]) σ3 (upd H5 D (.lst (ys ++ [y])))
  else ∃m',m'<m/\W (i+1) m' ys σ3 H4)
def tLC(own:Nat)(fr:List Nat)(wi:TI)(g:TG)(tc:TT)(te:TE):TE:=fun σ H Q=>wi σ H fun J H1=>iS own fr g tc te J σ H1 Q
structure Own(X:Cx)(pins:List (Addr×Obj))(C:Addr)(H:Hp)(s:Shared):Prop where
 ns:∃m,s.heap.Ns C m
 hn:H C=none
 ne:C≠X.env.locals
 ab:X.s₀.heap.objs.size<=C
 nc:∀x c,X.env.cells.lookup x=some c->c≠C
 np:∀p∈X.pn++pins,p.1≠C
structure cP(G:Cx->Prop)(P:Program)(w:World)(K:PySem.W.Frag)(tg:Expr)(J:It)(fp:List Addr)(it:Addr)(tn:Nat->Heap->Prop):Prop where
 obj:∀i h,tn i h->∀b∈fp,∃o,h.get? b=some o/\∀v,o.data≠.cell v
 keep:∀i h h',tn i h->(∀b∈fp,∀o,h.get? b=some o->h'.get? b=some o)->tn i h'
 item:∀(X:Cx),X.prog=P->X.w=w->X.K=K->G X->∀(i:Nat) (pins:List (Addr×Obj)) (s:Shared) (σ:St) (H:Hp) (E:Value->Shared->Prop),Inv X pins σ H s->(∀b∈fp,N5 X pins H b)->tn i s.heap->J.go i H ->
  wpAny (model P w) X.A (pyNext (.ref it)) (fun r s1 => ∃ u, r = some u /\
   wpAny (model P w) X.A (letOwnedTupleGo tg (.ref it) u) (fun _ s2=>∃x H',Inv X pins σ H' s2/\RelV x u/\J.yld i H x H'/\tn (i+1) s2.heap/\∀b∈fp,H' b=none) E s1) E s
 done:∀(X:Cx),X.prog=P->X.w=w->X.K=K->G X->∀(i:Nat) (pins:List (Addr×Obj)) (s:Shared) (σ:St) (H:Hp) (E:Value->Shared->Prop),Inv X pins σ H s->(∀b∈fp,N5 X pins H b)->tn i s.heap->J.stop i H ->
  wpAny (model P w) X.A (pyNext (.ref it)) (fun r s1=>r=none/\Inv X pins σ H s1) E s
 self:∀(A:Around) (i:Nat) (s:Shared) (Q:Value->Shared->Prop) (E:Value->Shared->Prop),tn i s.heap->Q (.ref it) s->wpAny (model P w) A (pyIter (.ref it)) Q E s
theorem Turn.g{P:Program}{w:World}{K:PySem.W.Frag}{tg:Expr}{J:It}{fp:List Addr}{it:Addr}{tn:Nat->Heap->Prop}(T:Turn P w K tg J fp it tn):cP (fun X=>X.calm=true) P w K tg J fp it tn:=⟨T.obj,T.keep,T.item,T.done,T.self⟩
section
variable {X:Cx} {N':List Str} {own:Nat} {fr:List Nat} {scope:Scope} {elt tg iter:Expr} {ifs:List Expr} {pos:Pos}
theorem Own.go{pins:List (Addr×Obj)}{σ:St}{H:Hp}{s:Shared}{C:Addr}{h':Heap}(O:Own X pins C H s)(I:Inv X pins σ H s)(sb:Heap.SameBut C s.heap h'):Inv X pins σ H { s with heap:=h' } :=
 I.turned (t':=s.toks) (fun b o hb e=>sb.extBut b o hb e) O.hn O.ne (.inr O.ab) O.nc O.np
theorem SV{G:Cx->Prop}{pins:List (Addr×Obj)}{σ:St}{H2:Hp}{s2:Shared}{J:It}{fp:List Addr}{it:Addr}{tn:Nat->Heap->Prop}{cl:List (Str×Addr)}{Q:VK}{g:TG}{tc:TT}{te:TE}{RR:Value->Addr->Result->Shared->Prop}{E:Value->Shared->Prop}
  (hc:∀s3 H3,Inv X pins σ H3 s3->G (cxC X N' scope cl fp s3 H3)) (ok:Z2 X N' own fr scope) (I2:Inv X pins σ H2 s2) (T:cP G X.prog X.w X.K tg J fp it tn) (st2:tn 0 s2.heap) (f2:∀b∈fp,N5 X pins H2 b)
  (cl1:∀x c,cl.lookup x=some c->X.env.cells.lookup x=some c) (cl2:∀x,(x,NameKind.free)∈scope.names->∃c,cl.lookup x=some c)
  (hg:∀fp s3 H3,PG (cxC X N' scope cl fp s3 H3) tg g) (ht:∀fp s3 H3,PTs (cxC X N' scope cl fp s3 H3) ifs tc) (he:∀fp s3 H3,PE (cxC X N' scope cl fp s3 H3) elt te)
  (h:iS own fr g tc te J σ H2 Q)
  (fin:∀D C s' H',Inv X pins σ H' s'->Own X pins C H' s'->Q (.ref D) H'->RR (.ref D) C (.ok .next) s') :
  wpAny (model X.prog X.w) X.A (newList []) (fun acc s₃ => wpAny (model X.prog X.w) X.A (newFunctionEnv scope X.env.globals cl [] X.env.qual none .none (some X.env)) (fun cenv s₄ =>
   codeAny (model X.prog X.w) X.A (.compStart (.ListComp elt [⟨tg,iter,ifs,0⟩] scope pos) 0 (.ref it) acc { cenv with scope:=relabel scope X.env }) (RR acc cenv.locals) s₄) E s₃) E s2:=by
 obtain⟨W,⟨m0,w0⟩,turn⟩:=h s2.heap.objs.size (I2.hok.fresh (Nat.le_refl _))
 refine wpAny_newObj_type (wpAny_newFunctionEnv ok.cell (by intro y hy;simp at hy) (fun h₁ hns₁ hsb₁=>?_) ok.kind)
 dsimp only at hns₁ hsb₁ ⊢
 have I3:Inv X pins σ (upd H2 s2.heap.objs.size (.lst [])) { s2 with heap:=s2.heap.push { cls:=.type "list",dict:=none,data:=.seq ([]:List Value).toArray } } :=
  I2.laid (t':=s2.toks) (fun b u e=>Heap.get?_push_of_some _ e) (Nat.le_refl _) ⟨Nat.zero_le _,[],0,.nil,Heap.get?_push_size _ rfl⟩
 generalize hH3:upd H2 s2.heap.objs.size (.lst [])=H3 at w0 I3
 generalize hS3:({ s2 with heap:=s2.heap.push { cls:=.type "list",dict:=none,data:=.seq ([]:List Value).toArray } }:Shared)=S3 at I3
 have e3:s2.heap.push { cls:=.type "list",dict:=none,data:=.seq ([]:List Value).toArray }=S3.heap:=by rw[<- hS3]
 have k23:∀b o,s2.heap.get? b=some o->S3.heap.get? b=some o:=fun b o e=>by rw[<- e3];exact Heap.get?_push_of_some _ e
 rw[e3]at hns₁ hsb₁ ⊢
 have st3:tn 0 S3.heap:=T.keep _ _ _ st2 fun b _ o e=>k23 b o e
 have flt:∀b∈fp,b<S3.heap.objs.size:=fun b hb=>by
  obtain⟨o,e,_⟩:=T.obj _ _ st3 b hb
  exact Heap.lt_size e
 have flt2:∀b∈fp,b<s2.heap.objs.size:=fun b hb=>by
  obtain⟨o,e,_⟩:=T.obj _ _ st2 b hb
  exact Heap.lt_size e
 have f3:∀b∈fp,N5 X pins H3 b:=fun b hb=>by
  refine⟨?_,(f2 b hb).2⟩
  rw[<- hH3,CI (Nat.ne_of_lt (flt2 b hb))]
  exact(f2 b hb).1
 have k34:∀b o,S3.heap.get? b=some o->h₁.get? b=some o:=fun b o e=>hsb₁.extBut b o (Nat.ne_of_lt (Heap.lt_size e)) (Heap.get?_push_of_some _ e)
 have I4:Inv (cxC X N' scope cl fp S3 H3) [] (blk own fr σ) H3 { S3 with heap:=h₁,toks:=s2.toks+([]:List (Str×Value)).length }:=dO ok I3 f3 flt cl1 cl2 _ hns₁ k34
 have st4:tn 0 h₁:=T.keep _ _ _ st3 fun b _ o e=>k34 b o e
 -- back in the def
 have back:∀{σ' H' s'},Inv (cxC X N' scope cl fp S3 H3) [] σ' H' s'->Inv X pins σ H' s'/\Own X pins S3.heap.objs.size H' s':=fun {σ' H' s'} I'=>by
  have J1:Inv X pins σ H' s':=I3.call' I'.os I'.base I'.hok I'.bare fun b hb=>⟨(f3 b hb).2.2.2.1,(f3 b hb).2.1,(f3 b hb).2.2.2.2⟩
  refine⟨J1,⟨let ⟨m,hn,_⟩:=I'.loc;⟨m,hn⟩,I'.free,Nat.ne_of_gt I3.lt,I3.sz,fun x c e z=>?_,fun p hp z=>?_⟩⟩
  ·obtain⟨v,q⟩:=I3.cell x c e
   exact absurd q.lt (by rw[z];exact Nat.lt_irrefl _)
  ·exact absurd (Heap.lt_size (I3.pin p hp).1) (by rw[z];exact Nat.lt_irrefl _)
 have stat:∀{H':Hp},(∀b∈fp,H' b=none)->∀b∈fp,N5 (cxC X N' scope cl fp S3 H3) [] H' b:=fun hn b hb =>
  ⟨hn b hb,(I4.ok.exf b hb).1,I4.ok.exfs b hb,.inl hb,(I4.ok.exf b hb).2,fun p hp=>absurd (show p∈([]:List (Addr×Obj)) from hp) (by simp)⟩
 have loop:codeAny (model X.prog X.w) X.A (.compLoop (.ListComp elt [⟨tg,iter,ifs,0⟩] scope pos) 0 (.ref it) (.ref s2.heap.objs.size) (cxC X N' scope cl fp S3 H3).env) (RR (.ref s2.heap.objs.size) S3.heap.objs.size) { S3 with heap:=h₁,toks:=s2.toks+([]:List (Str×Value)).length }:=by
  refine Zu (fun n s'=>∃i ys σ' H',Inv (cxC X N' scope cl fp S3 H3) [] σ' H' s'/\tn i s'.heap/\(∀b∈fp,H' b=none)/\W i n ys σ' H') ?_ m0 ⟨0,[],_,H3,I4,st4,fun b hb=>(f3 b hb).1,w0⟩
  rintro n s5 ⟨i,ys,σ5,H5,I5,st5,fr5,w5⟩
  rcases turn i n ys σ5 H5 w5 with ⟨stop,qn⟩|⟨go,step⟩
  ·refine thn (T.done (cxC X N' scope cl fp S3 H3) rfl rfl rfl (hc _ _ I3) i [] s5 σ5 H5 (fun _ _=>False) I5 (stat fr5) st5 stop) fun r s6 ⟨hr,I6⟩=>?_
   subst hr
   obtain⟨J1,O⟩:=back I6
   exact fin _ _ s6 H5 J1 O qn
  ·refine thn (T.item (cxC X N' scope cl fp S3 H3) rfl rfl rfl (hc _ _ I3) i [] s5 σ5 H5 (fun _ _=>False) I5 (stat fr5) st5 go) fun r s6 ⟨u,hr,h6⟩=>?_
   subst hr
   refine thn h6 fun _ s7 ⟨x,H7,I7,r7,y7,st7,fr7⟩=>?_
   have I7':=I7.pinned (stat fr7) (T.obj _ _ st7)
   refine thn (hg fp S3 H3 _ s7 σ5 H7 x u _ I7' r7 (step x H7 y7)) fun _ s8 ⟨σ8,H8,I8,q8⟩=>?_
   refine thn (ht fp S3 H3 _ s8 σ8 H8 _ I8 q8) fun b s9 ⟨H9,I9,q9⟩=>?_
   have again:∀{σ' H' s' m' ys'},m'<n->Inv (cxC X N' scope cl fp S3 H3) ([]++RI fp s7.heap) σ' H' s'->W (i+1) m' ys' σ' H'->∃m,m<n/\∃i ys σ' H',Inv (cxC X N' scope cl fp S3 H3) [] σ' H' s'/\tn i s'.heap/\(∀b∈fp,H' b=none)/\W i m ys σ' H':=fun {σ' H' s' m' ys'} hm I' w'=>by
    refine⟨m',hm,i+1,ys',σ',H',I'.unpinned,T.keep _ _ _ st7 fun b hb o e=>(I'.pin (b,o) (List.mem_append_right _ (List.mem_append_right _ (LD hb e)))).1,fun b hb=>?_,w'⟩
    obtain⟨o,e,d⟩:=T.obj _ _ st7 b hb
    exact(I'.pin (b,o) (List.mem_append_right _ (List.mem_append_right _ (LD hb e)))).2.1
   cases b with
   |false =>
    rw[if_neg Bool.false_ne_true]at q9 ⊢
    obtain⟨m',hm,w9⟩:=q9
    exact again hm I9 w9
   |true =>
    rw[if_pos rfl]at q9 ⊢
    refine thn (he fp S3 H3 _ s9 σ8 H9 _ I9 q9) fun v s10 ⟨y,H10,I10,r10,q10⟩=>?_
    obtain⟨hD,hz,m',hm,w10⟩:=q10
    refine thn (Er (X:=cxC X N' scope cl fp S3 H3) _ s10 σ8 H10 (.ref s2.heap.objs.size) [y] (.ref s2.heap.objs.size) [v] (fun _ H'=>W (i+1) m' (ys++[y]) σ8 H') I10 rfl (.cons r10 .nil) ⟨_,ys,y,rfl,rfl,hD,hz,w10⟩) fun v' s11 ⟨_,H11,I11,_,q11⟩=>?_
    exact again hm I11 q11
 subst hS3
 exact codeAny_compStart_list loop (T.self _ 0 _ _ _ st4 loop)
theorem Kh{wi:TI}{g:TG}{tc:TT}{te:TE}(hc:X.calm=true)(ok:Z2 X N' own fr scope)(hi:PI X tg iter wi)
  (hg:∀cl fp s3 H3,PG (cxC X N' scope cl fp s3 H3) tg g) (ht:∀cl fp s3 H3,PTs (cxC X N' scope cl fp s3 H3) ifs tc) (he:∀cl fp s3 H3,PE (cxC X N' scope cl fp s3 H3) elt te)
  (hs:∀x,foldedSetIterable iter X.env x=pure x:=by intro _;rfl):PE X (.ListComp elt [⟨tg,iter,ifs,0⟩] scope pos) (tLC own fr wi g tc te):=by
 intro pins s σ H Q I h
 obtain⟨cl,ecl,cl1,cl2⟩:=Vg (env:=X.env) (scope:=scope) fun x hx=>I.ok.has x (ok.free x hx)
 rw[eval_ListComp]
 refine wpAny_comprehension_free (use:=none) rfl hs ecl ok.kind ok.names (thn (hi pins s σ H _ I h) fun v s1 h1=>thn h1 fun itv s2 h2=>?_)
 obtain⟨it,fp,tn,J,H2,rfl,I2,T,st2,f2,h2⟩:=h2
 refine SV (RR:=fun acc C=>compPost (model X.prog X.w) X.A X.xe none (EP X pins σ Q) acc C) (fun _ _ _=>hc) ok I2 T.g st2 f2 cl1 cl2 (hg cl) (ht cl) (he cl) h2 ?_
 intro D C s' H' J1 O q
 obtain⟨m,hn⟩:=O.ns
 exact⟨m,hn,fun h'' sb=>⟨.ref D,H',O.go J1 sb,rfl,q⟩⟩
theorem RH{wi:TI}{g:TG}{tc:TT}{te:TE}{i:Nat}{y:Str}{py spos:Pos}(hN:X.N.Nodup)(hiN:X.N[i]?=some y)(hy:X.env.scope.names.lookup y=some .local)(hc:X.calm=true)(ok:Z2 X N' own fr scope)(hi:PI X tg iter wi)
  (hg:∀cl fp s3 H3,PG (cxC X N' scope cl fp s3 H3) tg g) (ht:∀cl fp s3 H3,PTs (cxC X N' scope cl fp s3 H3) ifs tc) (he:∀cl fp s3 H3,PE (cxC X N' scope cl fp s3 H3) elt te)
  (hsw:swapsWith (.ListComp elt [⟨tg,iter,ifs,0⟩] scope pos) (some (.Name y py)) spos.line X.env=pure true)
  (hs:∀x,foldedSetIterable iter X.env x=pure x:=by intro _;rfl):PS X (.Assign [.Name y py] (.ListComp elt [⟨tg,iter,ifs,0⟩] scope pos) spos) (fun D σ H=>tLC own fr wi g tc te σ H fun v H'=>D.nx (σ.set i (some v)) H'):=by
 intro pins s σ H D I h
 obtain⟨cl,ecl,cl1,cl2⟩:=Vg (env:=X.env) (scope:=scope) fun x hx=>I.ok.has x (ok.free x hx)
 rw[exec_Assign_Name_used _ _ _ _ hsw]
 refine wpAny_bind (wpAny_standAt (wpAny_bind ?_))
 show wpAny _ _ (do let _ <- comprehension (.ListComp elt [⟨tg,iter,ifs,0⟩] scope pos) scope X.env _ (newList []) false (eval iter X.env) (some (assign (.Name y py) X.env))) _ _ s
 refine wpAny_bind (wpAny_mono (wpAny_comprehension_free (use := some (assign (.Name y py) X.env)) (Q := fun _ s' => SP X pins D .next s') rfl hs ecl ok.kind ok.names
  (thn (hi pins s σ H _ I h) fun v s1 h1=>thn h1 fun itv s2 h2=>?_)) (fun _ s' hq=>wpAny_pure (wpAny_pure hq)) fun _ _ e=>e)
 obtain⟨it,fp,tn,J,H2,rfl,I2,T,st2,f2,h2⟩:=h2
 refine SV (RR:=fun acc C=>compPost (model X.prog X.w) X.A X.xe (some (assign (.Name y py) X.env)) (fun _ s'=>SP X pins D .next s') acc C) (fun _ _ _=>hc) ok I2 T.g st2 f2 cl1 cl2 (hg cl) (ht cl) (he cl) h2 ?_
 intro D' C s' H' J1 O q
 show wpAny _ _ (assign (.Name y py) X.env (.ref D')) _ _ _
 refine wpAny_assign_Name (Oz J1 hN hiN (.inl hy) (v:=.ref D') rfl (fun s'' J2 sb=>?_) (.inr hy))
 obtain⟨m,hn⟩:=O.ns
 obtain⟨a,sb,ha⟩:=sb
 have nea:C≠a:=by
  rcases ha with ha|ha
  ·rw[ha];exact O.ne
  ·exact fun z=>O.nc y a ha z.symm
 refine⟨m,hn.sameBut sb nea,fun h'' sb'=>?_⟩
 have O2:Own X pins C H' s'':=⟨⟨m,hn.sameBut sb nea⟩,O.hn,O.ne,O.ab,O.nc,O.np⟩
 exact⟨_,H',O2.go J2 sb',q⟩
end
end L2
end
section
namespace DL
open PySem L2 PyProof.Rows
structure KW where
 fr:PySem.W.Frag
 w:World
instance:CoeOut KW PySem.W.Frag:=⟨KW.fr⟩
abbrev Mv(X:Cx):KW:=⟨X.K,X.w⟩
def hT(ks:List Int):Int:=reduceHash (Builtin.Tuple.tupleHashOf (ks.map hashInt))
def cg(a:Addr)(ts:List (List Int×Addr×V))(ep:Nat):Heap->Prop:=fun h=>(a==sysModules)=false/\ts.length<=sizeLine/\(ts.map (·.1)).Nodup /\
 ∃xs:List (List Int×Addr×Value),Paired (fun(t:List Int×Addr×V) (x:List Int×Addr×Value)=>t.1=x.1/\t.2.1=x.2.1/\RelV t.2.2 x.2.2) ts xs /\
  ∃(o:Obj) (es:Array DictEntry),h.get? a=some o/\o.ExactDict/\o.data = .dict es ep/\es.toList=xs.map fun x=>⟨hT x.1,.ref x.2.1,x.2.2⟩
def HD(H:Hp)(a:Addr)(ts:List (List Int×Addr×V)):Prop:=∃ep,H a=some (.ext (cg a ts ep))
def txK(ts:List (Str×V)):List (Key×V):=ts.map fun t=>(Sum.inr t.1,t.2)
mutual
def Is(K:KW)(H:Hp):PyData->V->Prop
 |.none,v=>v = .non
 |.bool b,v=>v = .bl b
 |.int i,v=>v = .int i
 |.str x,v=>v = .str x
 |.tuple ds,v=>∃a vs,v = .ref a/\SqT K H a vs/\IsL K H ds vs
 |.list ds,v=>∃a vs,v = .ref a/\H a=some (.lst vs)/\IsL K H ds vs
 |.dict kvs,v=>∃a ts,v = .ref a/\HD H a ts/\IsKV K H kvs ts
def IsL(K:KW)(H:Hp):List PyData->List V->Prop
 |[],vs=>vs=[]
 |d::ds,vs=>∃x xs,vs=x::xs/\Is K H d x/\IsL K H ds xs
def IsKV(K:KW)(H:Hp):List (PyData×PyData)->List (List Int×Addr×V)->Prop
 |[],ts=>ts=[]
 |(k,d)::r,ts=>∃t tr,ts=t::tr/\k = .tuple (t.1.map PyData.int)/\SqT K H t.2.1 (t.1.map V.int)/\Is K H d t.2.2/\IsKV K H r tr
end
theorem Same.tup{K:KW}{H H':Hp}{a:Addr}{xs:List V}(e:Same H H')(h:SqT K H a xs):SqT K H' a xs:=by
 rcases h with (h|⟨o,h⟩)|h
 ·exact .inl (.inl (e _ _ h))
 ·exact .inl (.inr ⟨o,e _ _ h⟩)
 ·exact .inr h
def TSm(H H':Hp):Prop:=∀b o,H b=some o->(∀xs,o≠.lst xs)->(∀φ,o≠.ext φ)->H' b=some o
theorem TSm.tup{K:KW}{H H':Hp}{a:Addr}{xs:List V}(e:TSm H H')(h:SqT K H a xs):SqT K H' a xs:=by
 rcases h with (h|⟨o,h⟩)|h
 ·exact .inl (.inl (e _ _ h (fun _ z=>by cases z) fun _ z=>by cases z))
 ·exact .inl (.inr ⟨o,e _ _ h (fun _ z=>by cases z) fun _ z=>by cases z⟩)
 ·exact .inr h
section
variable {K:KW}
mutual
theorem Is.mono{H H':Hp}(s:Same H H'):∀{d:PyData} {v:V},Is K H d v->Is K H' d v
 |.none,_,h=>h
 |.bool _,_,h=>h
 |.int _,_,h=>h
 |.str _,_,h=>h
 |.tuple _,_,⟨a,vs,e,h,l⟩=>⟨a,vs,e,Same.tup s h,IsL.mono s l⟩
 |.list _,_,⟨a,vs,e,h,l⟩=>⟨a,vs,e,s _ _ h,IsL.mono s l⟩
 |.dict _,_,⟨a,ts,e,⟨ep,h⟩,l⟩=>⟨a,ts,e,⟨ep,s _ _ h⟩,IsKV.mono s l⟩
theorem IsL.mono{H H':Hp}(s:Same H H'):∀{ds:List PyData} {vs:List V},IsL K H ds vs->IsL K H' ds vs
 |[],_,h=>h
 |_::_,_,⟨x,xs,e,h,l⟩=>⟨x,xs,e,Is.mono s h,IsL.mono s l⟩
theorem IsKV.mono{H H':Hp}(s:Same H H'):∀{kvs:List (PyData×PyData)} {ts:List (List Int×Addr×V)},IsKV K H kvs ts->IsKV K H' kvs ts
 |[],_,h=>h
 |(_,_)::_,_,⟨t,tr,e,ek,hk,h,l⟩=>⟨t,tr,e,ek,Same.tup s hk,Is.mono s h,IsKV.mono s l⟩
end
mutual
theorem Is.monoT{H H':Hp}(s:TSm H H'):∀{d:PyData} {v:V},GN d=true->Is K H d v->Is K H' d v
 |.none,_,_,h=>h
 |.bool _,_,_,h=>h
 |.int _,_,_,h=>h
 |.str _,_,_,h=>h
 |.tuple _,_,f,⟨a,vs,e,h,l⟩=>⟨a,vs,e,s.tup h,IsL.monoT s f l⟩
 |.list _,_,f,_=>absurd f Bool.false_ne_true
 |.dict _,_,f,_=>absurd f Bool.false_ne_true
theorem IsL.monoT{H H':Hp}(s:TSm H H'):∀{ds:List PyData} {vs:List V},fixDs ds=true->IsL K H ds vs->IsL K H' ds vs
 |[],_,_,h=>h
 |d::ds,_,f,⟨x,xs,e,h,l⟩=>⟨x,xs,e,Is.monoT s (by rw[fixDs,Bool.and_eq_true]at f;exact f.1) h,IsL.monoT s (by rw[fixDs,Bool.and_eq_true]at f;exact f.2) l⟩
end
theorem IsL.length{H:Hp}:∀{ds:List PyData} {vs:List V},IsL K H ds vs->vs.length=ds.length
 |[],_,h=>by rw[show _=[] from h];rfl
 |_::_,_,⟨x,xs,e,_,l⟩=>by rw[e,List.length_cons,List.length_cons,IsL.length l]
theorem IsL.get{H:Hp}:∀{ds:List PyData} {vs:List V} {i:Nat} {d:PyData},IsL K H ds vs->ds[i]?=some d->∃v,vs[i]?=some v/\Is K H d v
 |[],_,_,_,_,e=>by simp at e
 |d::ds,_,0,_,⟨x,xs,e,h,l⟩,q=>by
  subst e
  simp at q
  subst q
  exact⟨x,rfl,h⟩
 |d::ds,_,i+1,_,⟨x,xs,e,h,l⟩,q=>by
  subst e
  obtain⟨v,a,b⟩:=IsL.get (i:=i) l (by simpa using q)
  exact⟨v,by simpa using a,b⟩
end
section
variable {X:Cx} {pins:List (Addr×Obj)} {σ:L2.St} {H:Hp} {s:Shared}
mutual
theorem LY(I:Inv X pins σ H s):∀{d:PyData} {v:V} {u:Value},Is (Mv X) H d v->RelV v u->∃as,Reads s.heap u d as
 |.none,_,_,h,r=>by subst h;cases r;exact⟨_,.none⟩
 |.bool _,_,_,h,r=>by subst h;cases r;exact⟨_,.bool _⟩
 |.int _,_,_,h,r=>by subst h;obtain⟨t,rfl⟩:=r;exact⟨_,.int _ _⟩
 |.str _,_,_,h,r=>by subst h;obtain⟨t,rfl⟩:=r;exact⟨_,.str _ _⟩
 |.tuple ds,_,_,⟨a,vs,e,h,l⟩,r=>by
  subst e;cases r
  obtain⟨its,rr,⟨o,e,c,n,q⟩,_⟩:=I.tuple h
  obtain⟨as,z⟩:=readsL I l rr
  exact⟨_,.tuple e c q z⟩
 |.list ds,_,_,⟨a,vs,e,h,l⟩,r=>by
  subst e;cases r
  obtain⟨_,its,n,rr,e⟩:=I.hok a _ h
  obtain⟨as,z⟩:=readsL I l rr
  exact⟨_,.list e rfl rfl z⟩
 |.dict kvs,_,_,⟨a,ts,e,⟨ep,h⟩,l⟩,r=>by
  subst e;cases r
  obtain⟨⟨_,_,_,xs,pr,o,es,ho,he,hd,hes⟩,_,_⟩:=(show ObjOk X.prog X.w H s.heap a (.ext (cg a ts ep)) from I.hok a _ h)
  obtain⟨as,bs,z1,z2⟩:=readsK I l pr
  refine⟨_,.dict ho he.1 hd (as:=as) (bs:=bs) ?_ ?_⟩
  ·rw[hes,List.map_map];exact z1
  ·rw[hes,List.map_map];exact z2
theorem readsL(I:Inv X pins σ H s):∀{ds:List PyData} {vs:List V} {us:List Value},IsL (Mv X) H ds vs->Vals vs us->∃as,ReadsAll s.heap us ds as
 |[],_,_,h,r=>by subst h;cases r;exact⟨_,.nil⟩
 |d::ds,_,_,⟨x,xs,e,h,l⟩,r=>by
  subst e
  cases r with
  |cons r1 r2 =>
   obtain⟨as,z⟩:=LY I h r1
   obtain⟨bs,y⟩:=readsL I l r2
   exact⟨_,.cons z y⟩
theorem readsK(I:Inv X pins σ H s):∀{kvs:List (PyData×PyData)} {ts:List (List Int×Addr×V)} {xs:List (List Int×Addr×Value)},IsKV (Mv X) H kvs ts->Paired (fun(t:List Int×Addr×V) (x:List Int×Addr×Value)=>t.1=x.1/\t.2.1=x.2.1/\RelV t.2.2 x.2.2) ts xs ->
  ∃as bs,ReadsAll s.heap (xs.map fun x=>Value.ref x.2.1) (kvs.map (·.1)) as/\ReadsAll s.heap (xs.map fun x=>x.2.2) (kvs.map (·.2)) bs
 |[],_,_,h,r=>by subst h;cases r;exact⟨_,_,.nil,.nil⟩
 |(k,d)::kvs,_,_,⟨t,tr,e,ek,hk,h,l⟩,r=>by
  subst e
  cases r with
  |cons r1 r2 =>
   obtain⟨q1,q2,q3⟩:=r1
   obtain⟨as,bs,z1,z2⟩:=readsK I l r2
   obtain⟨cs,z3⟩:=LY I h q3
   obtain⟨its,rr,⟨o,e,c,n,q⟩,_⟩:=I.tuple hk
   subst ek
   have hz:∃ds,ReadsAll s.heap its.toArray.toList (t.1.map PyData.int) ds:=by
    clear hk e q
    generalize t.1=ks at rr
    induction ks generalizing its with
    |nil=>cases rr;exact⟨_,.nil⟩
    |cons k ks ih =>
     cases rr with
     |cons a b =>
      obtain⟨ds,y⟩:=ih _ b
      obtain⟨tk,rfl⟩:=a
      exact⟨_,.cons (.int _ _) y⟩
   obtain⟨ds,y⟩:=hz
   rw[q2]at e
   exact⟨_,_,.cons (.tuple e c q y) z1,.cons z3 z2⟩
end
def iM(K:KW):R2:=fun x y H Q=>∃d e,Is K H d x/\Is K H e y/\okD d=true/\okD e=true/\Q (.bl (PyData.eqv d e)) H
def iI(K:KW):R2:=fun x y H Q=>∃d e,Is K H d x/\Is K H e y/\okD d=true/\okD e=true/\Q (.bl (!PyData.eqv d e)) H
theorem BN(hu:X.A.units+64<cLine):OpR X (compareOp .Eq) (iM (Mv X)):=by
 intro pins s σ H x y v u Q I rx ry h
 obtain⟨d,e,hd,he,od,oe,q⟩:=h
 obtain⟨as,ra⟩:=LY I hd rx
 obtain⟨bs,rb⟩:=LY I he ry
 exact eq_dataH ra rb od oe hu ⟨.bl _,H,I,rfl,q⟩
theorem FR(hu:X.A.units+64<cLine):OpR X (compareOp .NotEq) (iI (Mv X)):=by
 intro pins s σ H x y v u Q I rx ry h
 obtain⟨d,e,hd,he,od,oe,q⟩:=h
 obtain⟨as,ra⟩:=LY I hd rx
 obtain⟨bs,rb⟩:=LY I he ry
 exact ne_dataH ra rb od oe hu ⟨.bl _,H,I,rfl,q⟩
def ft(K:KW)(neg:Bool):R2:=fun x y H Q=>∃d es,Is K H d x/\(Is K H (.list es) y\/Is K H (.tuple es) y)/\okD d=true/\okD (.list es)=true/\Q (.bl (if neg then !(es.any fun y=>PyData.eqv y d) else es.any fun y=>PyData.eqv y d)) H
theorem Lo(hu:X.A.units+65<cLine):OpR X (compareOp .In) (ft (Mv X) false):=by
 intro pins s σ H x y v u Q I rx ry h
 obtain⟨d,es,hd,he,od,oe,q⟩:=h
 obtain⟨as,ra⟩:=LY I hd rx
 obtain⟨c1,c2⟩:=P5 oe
 have hm:X.A.units+1+min (PyData.depthAll es) d.depth<cLine:=by omega
 rcases he with he|he
 ·obtain⟨bs,rb⟩:=LY I he ry
  exact SeqAt.in_list_reads rb ra c1 (Kz od) hm ⟨.bl _,H,I,rfl,q⟩
 ·obtain⟨bs,rb⟩:=LY I he ry
  exact SeqAt.in_tuple_reads rb ra c1 (Kz od) hm ⟨.bl _,H,I,rfl,q⟩
theorem ZN(hu:X.A.units+65<cLine):OpR X (compareOp .NotIn) (ft (Mv X) true):=by
 intro pins s σ H x y v u Q I rx ry h
 obtain⟨d,es,hd,he,od,oe,q⟩:=h
 obtain⟨as,ra⟩:=LY I hd rx
 obtain⟨c1,c2⟩:=P5 oe
 have hm:X.A.units+1+min (PyData.depthAll es) d.depth<cLine:=by omega
 rcases he with he|he
 ·obtain⟨bs,rb⟩:=LY I he ry
  exact SeqAt.notIn_list_reads rb ra c1 (Kz od) hm ⟨.bl _,H,I,rfl,q⟩
 ·obtain⟨bs,rb⟩:=LY I he ry
  exact SeqAt.notIn_tuple_reads rb ra c1 (Kz od) hm ⟨.bl _,H,I,rfl,q⟩
end
end DL
end
section
namespace DL
open PySem L2
inductive L where
 |d (x:PyData)
 |m (xs:List PyData)
 |c (xs:List PyData)
 |k (kvs:List (List Int×PyData))
 |g (x:PyData)
abbrev DS:=List (Option L)
inductive Ow where
 |l (xs:List PyData)
 |t (kvs:List (List Int×PyData))
def Ow.L:Ow->L
 |.l xs=>.m xs
 |.t kvs=>.k kvs
def Tc(kvs:List (List Int×PyData)):List (PyData×PyData):=kvs.map fun p=>(.tuple (p.1.map PyData.int),p.2)
def Ow.D:Ow->PyData
 |.l xs=>.list xs
 |.t kvs=>.dict (Tc kvs)
def Ow.fl:Ow->Bool
 |.l _=>true
 |.t _=>false
theorem Ow.not_d{o:Ow}{x:PyData}:o.L≠.d x:=by cases o<;>exact fun z=>nomatch z
theorem Ow.not_g{o:Ow}{x:PyData}:o.L≠.g x:=by cases o<;>exact fun z=>nomatch z
theorem Ow.not_c{o:Ow}{x:List PyData}:o.L≠.c x:=by cases o<;>exact fun z=>nomatch z
theorem Ow.inj{o p:Ow}(h:o.L=p.L):o=p:=by
 cases o<;>cases p<;>cases h<;>rfl
def IsO(K:KW)(H:Hp):Ow->Addr->HO->Prop
 |.l xs,_,h=>∃vs,h = .lst vs/\IsL K H xs vs
 |.t kvs,a,h=>∃ts,(∃ep,h = .ext (cg a ts ep))/\IsKV K H (Tc kvs) ts
theorem IsO.mono{K:KW}{H H':Hp}(s:Same H H'):∀{o:Ow} {a:Addr} {h:HO},IsO K H o a h->IsO K H' o a h
 |.l _,_,_,⟨vs,e,l⟩=>⟨vs,e,l.mono s⟩
 |.t _,_,_,⟨ts,e,l⟩=>⟨ts,e,l.mono s⟩
theorem IsO.is{K:KW}{H:Hp}:∀{o:Ow} {a:Addr} {h:HO},IsO K H o a h->H a=some h->Is K H o.D (.ref a)
 |.l _,a,_,⟨vs,e,l⟩,z=>⟨a,vs,rfl,e▸z,l⟩
 |.t _,a,_,⟨ts,⟨ep,e⟩,l⟩,z=>⟨a,ts,rfl,⟨ep,e▸z⟩,l⟩
open Classical in
noncomputable def hid(S:Addr->Prop)(H:Hp):Hp:=fun a=>if S a then none else H a
theorem hid_iff{S:Addr->Prop}{H:Hp}{b:Addr}{o:HO}:hid S H b=some o↔¬S b/\H b=some o:=by
 unfold hid
 by_cases h:S b
 ·rw[if_pos h];exact⟨fun z=>(nomatch z),fun z=>absurd h z.1⟩
 ·rw[if_neg h];exact⟨fun z=>⟨h,z⟩,fun z=>z.2⟩
def Keep(S:Addr->Prop)(H:Hp)(S':Addr->Prop)(H':Hp):Prop:=∀b o,¬S b->H b=some o->¬S' b/\H' b=some o
def Chg(M:Addr->Prop)(H H':Hp):Prop:=∀b o,¬M b->H b=some o->H' b=some o
theorem Keep.same{S S':Addr->Prop}{H H':Hp}(k:Keep S H S' H'):Same (hid S H) (hid S' H'):=fun b o e=>hid_iff.mpr (k b o (hid_iff.mp e).1 (hid_iff.mp e).2)
theorem Keep.refl{S:Addr->Prop}{H:Hp}:Keep S H S H:=fun _ _ h e=>⟨h,e⟩
theorem Keep.trans{S S1 S2:Addr->Prop}{H H1 H2:Hp}(a:Keep S H S1 H1)(b:Keep S1 H1 S2 H2):Keep S H S2 H2:=fun c o h e=>b c o (a c o h e).1 (a c o h e).2
theorem Chg.refl{M:Addr->Prop}{H:Hp}:Chg M H H:=fun _ _ _ e=>e
theorem Chg.trans{M:Addr->Prop}{H H1 H2:Hp}(a:Chg M H H1)(b:Chg M H1 H2):Chg M H H2:=fun c o h e=>b c o h (a c o h e)
theorem Chg.of{M:Addr->Prop}{H H':Hp}(s:Same H H'):Chg M H H':=fun b o _ e=>s b o e
theorem Chg.keep{S M:Addr->Prop}{H H':Hp}(c:Chg M H H')(sub:∀a,M a->S a):Keep S H S H':=fun b o h e=>⟨h,c b o (fun z=>h (sub b z)) e⟩
theorem Same.keep{S:Addr->Prop}{H H':Hp}(s:Same H H'):Keep S H S H':=fun b o h e=>⟨h,s b o e⟩
theorem same_hid{S:Addr->Prop}{H:Hp}:Same (hid S H) H:=fun b o e=>(hid_iff.mp e).2
theorem Jf{S S':Addr->Prop}{H:Hp}(h:∀a,S' a->S a):Same (hid S H) (hid S' H):=Keep.same fun b o n e=>⟨fun z=>n (h b z),e⟩
theorem tsS{H H':Hp}(s:Same H H'):TSm H H':=fun b o e _ _=>s b o e
theorem TSm.refl{H:Hp}:TSm H H:=fun _ _ e _ _=>e
mutual
def Dp(K:KW)(S:Addr->Prop)(H:Hp):PyData->V->List Addr->Prop
 |.none,v,F=>v = .non/\F=[]
 |.bool b,v,F=>v = .bl b/\F=[]
 |.int i,v,F=>v = .int i/\F=[]
 |.str x,v,F=>v = .str x/\F=[]
 |.tuple ds,v,F=>∃a vs,v = .ref a/\SqT K (hid S H) a vs/\DpL K S H ds vs F
 |.list ds,v,F=>∃a vs G,v = .ref a/\F=a::G/\H a=some (.lst vs)/\DpL K S H ds vs G
 |.dict _,_,_=>False
def DpL(K:KW)(S:Addr->Prop)(H:Hp):List PyData->List V->List Addr->Prop
 |[],vs,F=>vs=[]/\F=[]
 |d::ds,vs,F=>∃x xs F1 F2,vs=x::xs/\F=F1++F2/\Dp K S H d x F1/\DpL K S H ds xs F2
end
section
variable {K:KW} {S S':Addr->Prop} {H H':Hp}
mutual
theorem Dp.mono(s:TSm (hid S H) (hid S' H')):∀{d:PyData} {v:V} {F:List Addr},(∀a∈F,H' a=H a)->Dp K S H d v F->Dp K S' H' d v F
 |.none,_,_,_,h=>h
 |.bool _,_,_,_,h=>h
 |.int _,_,_,_,h=>h
 |.str _,_,_,_,h=>h
 |.tuple _,_,_,f,⟨a,vs,e,h,l⟩=>⟨a,vs,e,s.tup h,DpL.mono s f l⟩
 |.list _,_,_,f,⟨a,vs,G,e,e2,h,l⟩=>⟨a,vs,G,e,e2,(f a (by rw[e2];exact List.mem_cons_self ..)).trans h,DpL.mono s (fun b hb=>f b (by rw[e2];exact List.mem_cons_of_mem _ hb)) l⟩
theorem DpL.mono(s:TSm (hid S H) (hid S' H')):∀{ds:List PyData} {vs:List V} {F:List Addr},(∀a∈F,H' a=H a)->DpL K S H ds vs F->DpL K S' H' ds vs F
 |[],_,_,_,h=>h
 |_::_,_,_,f,⟨x,xs,F1,F2,e,e2,h,l⟩=>⟨x,xs,F1,F2,e,e2,Dp.mono s (fun b hb=>f b (by rw[e2];exact List.mem_append_left _ hb)) h,DpL.mono s (fun b hb=>f b (by rw[e2];exact List.mem_append_right _ hb)) l⟩
end
end
def IsX(K:KW)(H:Hp):List (PyData×PyData)->List (Str×V)->Prop
 |[],ts=>ts=[]
 |(k,d)::r,ts=>∃t tr,ts=t::tr/\k = .str t.1/\GN d=true/\Is K H d t.2/\IsX K H r tr
theorem IsX.mono{K:KW}{H H':Hp}(s:TSm H H'):∀{kvs:List (PyData×PyData)} {ts:List (Str×V)},IsX K H kvs ts->IsX K H' kvs ts
 |[],_,h=>h
 |(_,_)::_,_,⟨t,tr,e,ek,f,h,l⟩=>⟨t,tr,e,ek,f,Is.monoT s f h,IsX.mono s l⟩
def DpT(K:KW)(S:Addr->Prop)(H:Hp)(d:PyData)(v:V)(F:List Addr):Prop:=match d with
 |.dict kvs=>∃a ts,v = .ref a/\F=[a]/\H a=some (.dK (txK ts))/\IsX K (hid S H) kvs ts
 |d=>Dp K S H d v F
theorem DpT.mono{K:KW}{S S':Addr->Prop}{H H':Hp}{d:PyData}{v:V}{F:List Addr}(s:TSm (hid S H) (hid S' H'))(f:∀a∈F,H' a=H a)(h:DpT K S H d v F):DpT K S' H' d v F:=by
 cases d with
 |dict kvs =>
  obtain⟨a,ts,e,e2,h,l⟩:=(show ∃a ts,v = .ref a/\F=[a]/\H a=some (.dK (txK ts))/\IsX K (hid S H) kvs ts from h)
  exact⟨a,ts,e,e2,(f a (by rw[e2];exact List.mem_singleton_self a)).trans h,l.mono s⟩
 |_=>exact Dp.mono s f h
def GR(K:KW)(S M:Addr->Prop)(τ:DS)(σ:St)(H:Hp):Prop:=∃φ:Nat->List Addr,∀(i:Nat) (d:PyData),τ[i]?=some (some (.g d)) ->
 (∃v,σ[i]?=some (some v)/\DpT K S H d v (φ i))/\(φ i).Nodup/\(∀a∈φ i,M a)/\(∀(j:Nat) (o:Ow) (a:Addr),τ[j]?=some (some o.L)->σ[j]?=some (some (.ref a))->a∉φ i) /\
  ∀(j:Nat) (d':PyData),j≠i->τ[j]?=some (some (.g d'))->∀a∈φ i,a∉φ j
theorem GR.nil{K:KW}{S M:Addr->Prop}{τ:DS}{σ:St}{H:Hp}(h:∀(i:Nat) (d:PyData),τ[i]?≠some (some (.g d))):GR K S M τ σ H:=⟨fun _=>[],fun i d e=>absurd e (h i d)⟩
theorem GR.to{K:KW}{S M S' M':Addr->Prop}{τ τ':DS}{σ σ':St}{H H':Hp}(g:GR K S M τ σ H)(ht:∀(i:Nat) (d:PyData),τ'[i]?=some (some (.g d))->τ[i]?=some (some (.g d))/\σ'[i]?=σ[i]?)
  (ho:∀(j:Nat) (o:Ow) (a:Addr),τ'[j]?=some (some o.L)->σ'[j]?=some (some (.ref a))->(∃o':Ow,τ[j]?=some (some o'.L)/\σ[j]?=some (some (.ref a)))\/¬M a)
  (hm:∀a,M a->(∀(j:Nat) (o:Ow),τ[j]?=some (some o.L)->σ[j]?≠some (some (.ref a)))->M' a/\H' a=H a) (ts:TSm (hid S H) (hid S' H')):GR K S' M' τ' σ' H':=by
 obtain⟨φ,g⟩:=g
 refine⟨φ,fun i d e=>?_⟩
 obtain⟨e1,e2⟩:=ht i d e
 obtain⟨⟨v,g1,g2⟩,g3,g4,g5,g6⟩:=g i d e1
 have hm':∀a∈φ i,M' a/\H' a=H a:=fun a ha=>hm a (g4 a ha) fun j o q q2=>g5 j o a q q2 ha
 refine⟨⟨v,e2.trans g1,g2.mono ts fun a ha=>(hm' a ha).2⟩,g3,fun a ha=>(hm' a ha).1,fun j o a q1 q2 ha=>?_,fun j d' hj q=>g6 j d' hj (ht j d' q).1⟩
 rcases ho j o a q1 q2 with ⟨o',z1,z2⟩|z
 ·exact g5 j o' a z1 z2 ha
 ·exact z (g4 a ha)
structure R(K:KW)(S M:Addr->Prop)(τ:DS)(σ:St)(H:Hp):Prop where
 len:σ.length=τ.length
 dat:∀(i:Nat) (x:PyData),τ[i]?=some (some (.d x))->∃v,σ[i]?=some (some v)/\Is K (hid S H) x v
 mt:∀(i:Nat) (o:Ow),τ[i]?=some (some o.L)->∃(a:Addr) (h:HO),σ[i]?=some (some (.ref a))/\M a/\H a=some h/\IsO K (hid S H) o a h
 cst:∀(i:Nat) (xs:List PyData),τ[i]?=some (some (.c xs))->∃(a:Addr) (vs:List V),σ[i]?=some (some (.ref a))/\SqL K (hid S H) a vs/\IsL K (hid S H) xs vs
 inj:∀(i j:Nat) (o p:Ow) (a:Addr),τ[i]?=some (some o.L)->τ[j]?=some (some p.L)->σ[i]?=some (some (.ref a))->σ[j]?=some (some (.ref a))->i=j
 sub:∀a,M a->S a
 ex:∀a,S a->∃o,H a=some o
 gr:GR K S M τ σ H
def Res(K:KW)(fr:Bool)(S:Addr->Prop)(H H':Hp)(d:PyData)(v:V):Prop:=match fr with
 |false=>Is K (hid S H') d v
 |true=>∃(o:Ow) (a:Addr) (h:HO),d=o.D/\v = .ref a/\H a=none/\H' a=some h/\IsO K (hid (fun b=>S b\/b=a) H') o a h
section
variable {K:KW} {S M:Addr->Prop} {τ:DS} {σ:St} {H H':Hp}
theorem R.fresh(r:R K S M τ σ H){a:Addr}(h:H a=none):¬S a:=fun z=>by
 obtain⟨o,e⟩:=r.ex a z
 rw[h]at e;cases e
theorem R.ml(r:R K S M τ σ H)(i:Nat)(xs:List PyData)(e:τ[i]?=some (some (.m xs))):∃(a:Addr) (vs:List V),σ[i]?=some (some (.ref a))/\M a/\H a=some (.lst vs)/\IsL K (hid S H) xs vs:=by
 obtain⟨a,h,h1,h2,h3,vs,rfl,l⟩:=r.mt i (.l xs) e
 exact⟨a,vs,h1,h2,h3,l⟩
theorem R.same(r:R K S M τ σ H)(s:Same H H'):R K S M τ σ H' where
 len:=r.len
 dat:=fun i x e=>let ⟨v,a,b⟩:=r.dat i x e;⟨v,a,b.mono (Same.keep s).same⟩
 mt:=fun i o e=>let ⟨a,h,h1,h2,h3,h4⟩:=r.mt i o e;⟨a,h,h1,h2,s _ _ h3,h4.mono (Same.keep s).same⟩
 cst:=fun i xs e=>let ⟨a,vs,h1,h2,h3⟩:=r.cst i xs e;⟨a,vs,h1,(Same.keep s).same.seq h2,h3.mono (Same.keep s).same⟩
 inj:=r.inj
 sub:=r.sub
 ex:=fun a h=>let ⟨o,e⟩:=r.ex a h;⟨o,s _ _ e⟩
 gr:=r.gr.to (fun i d e=>⟨e,rfl⟩) (fun j o a e q=>.inl ⟨o,e,q⟩) (fun a h _=>⟨h,by obtain⟨o,e⟩:=r.ex a (r.sub a h);rw[e];exact s _ _ e⟩) (tsS (Same.keep s).same)
theorem Res.is{fr:Bool}{d:PyData}{v:V}(h:Res K fr S H H' d v)(f:∀a,H a=none->¬S a):Is K (hid S H') d v:=by
 cases fr with
 |false=>exact h
 |true =>
  obtain⟨o,a,ho,rfl,rfl,h1,h2,h3⟩:=h
  exact IsO.is (h3.mono (Jf fun b z=>.inl z)) (hid_iff.mpr ⟨f a h1,h2⟩)
theorem Res.imp{fr:Bool}{d:PyData}{v:V}(h:Res K fr S H H' d v)(f:∀a,H a=none->¬S a)(fr':Bool)(hf:fr'=true->fr=true):Res K fr' S H H' d v:=by
 cases fr' with
 |false=>exact h.is f
 |true=>rw[hf rfl]at h;exact h
end
abbrev DX:=DS->Option (PyData×DS)
abbrev DT:=DS->Option (Bool×DS)
inductive Ar where
 |d (x:PyData)
 |s (i:Nat)
abbrev DA:=DS->Option (List Ar×DS)
inductive Out where
 |nx (τ:DS)
 |bk (τ:DS)
 |ct (τ:DS)
 |rt (d:PyData) (τ:DS)
abbrev DB:=DS->Option Out
def Like(τ τ':DS):Prop:=τ'.length=τ.length/\∀j:Nat,((∀x,τ'[j]?=some (some (.d x))↔τ[j]?=some (some (.d x)))/\∀x,τ'[j]?=some (some (.c x))↔τ[j]?=some (some (.c x)))/\∀b:Bool,(∃o:Ow,o.fl=b/\τ'[j]?=some (some o.L))↔∃o:Ow,o.fl=b/\τ[j]?=some (some o.L)
theorem Like.refl{τ:DS}:Like τ τ:=⟨rfl,fun j=>⟨⟨fun x=>Iff.rfl,fun x=>Iff.rfl⟩,fun b=>Iff.rfl⟩⟩
theorem Like.trans{τ τ1 τ2:DS}(a:Like τ τ1)(b:Like τ1 τ2):Like τ τ2:=⟨b.1.trans a.1,fun j=>⟨⟨fun x=>((b.2 j).1.1 x).trans ((a.2 j).1.1 x),fun x=>((b.2 j).1.2 x).trans ((a.2 j).1.2 x)⟩,fun c=>((b.2 j).2 c).trans ((a.2 j).2 c)⟩⟩
theorem Like.own{τ τ':DS}(a:Like τ τ')(j:Nat):(∃o:Ow,τ'[j]?=some (some o.L))↔∃o:Ow,τ[j]?=some (some o.L) :=
 ⟨fun⟨o,h⟩=>let ⟨p,_,q⟩:=((a.2 j).2 o.fl).mp ⟨o,rfl,h⟩;⟨p,q⟩,fun⟨o,h⟩=>let ⟨p,_,q⟩:=((a.2 j).2 o.fl).mpr ⟨o,rfl,h⟩;⟨p,q⟩⟩
theorem Like.ml{τ τ':DS}(a:Like τ τ'){j:Nat}{xs:List PyData}(h:τ'[j]?=some (some (.m xs))):∃ys,τ[j]?=some (some (.m ys)):=by
 obtain⟨o,e,h⟩:=((a.2 j).2 true).mp ⟨.l xs,rfl,h⟩
 cases o with
 |l ys=>exact⟨ys,h⟩
 |t ys=>cases e
structure E K (t:TE) (fr:Bool) (f:DX):Prop where
 like:∀τ d τ',f τ=some (d,τ')->Like τ τ'
 run:∀S M τ σ H (Q:VK) d τ',R K S M τ σ H->f τ=some (d,τ')->(∀v H',R K S M τ' σ H'->Chg M H H'->Res K fr S H H' d v->Q v H')->t σ H Q
structure T K (t:TT) (f:DT):Prop where
 like:∀τ b τ',f τ=some (b,τ')->Like τ τ'
 run:∀S M τ σ H (Q:Bool->Hp->Prop) b τ',R K S M τ σ H->f τ=some (b,τ')->(∀H',R K S M τ' σ H'->Chg M H H'->Q b H')->t σ H Q
def eA(K:KW)(S:Addr->Prop)(σ:St)(H:Hp):List Ar->List V->Prop
 |[],vs=>vs=[]
 |.d x::rs,vs=>∃v us,vs=v::us/\Is K (hid S H) x v/\eA K S σ H rs us
 |.s i::rs,vs=>∃v us,vs=v::us/\σ[i]?=some (some v)/\eA K S σ H rs us
structure A K (t:TA) (f:DA):Prop where
 like:∀τ rs τ',f τ=some (rs,τ')->Like τ τ'
 run:∀S M τ σ H (Q:List V->Hp->Prop) rs τ',R K S M τ σ H->f τ=some (rs,τ')->(∀vs H',R K S M τ' σ H'->Chg M H H'->eA K S σ H' rs vs->Q vs H')->t σ H Q
structure Frm where
 S:Addr->Prop
 M:Addr->Prop
 H:Hp
 ar:List (Option V)
structure RF(K:KW)(F:Frm)(S M:Addr->Prop)(τ:DS)(σ:St)(H:Hp):Prop where
 r:R K S M τ σ H
 sS:∀a,F.S a->S a
 old:∀b o,F.H b=some o->¬F.M b->H b=some o
 new:∀a,M a->F.M a\/F.H a=none
 fm:∀a,F.M a->M a
 fs:∀a,F.S a->∃o,F.H a=some o
 fsub:∀a,F.M a->F.S a
 snew:∀a,S a->F.S a\/F.H a=none
 par:∀(i:Nat) (v:V),F.ar[i]?=some (some v)->σ[i]?=some (some v)
 pm:∀(i:Nat) (v:V),F.ar[i]?=some (some v)->∃o:Ow,τ[i]?=some (some o.L)
 fma:∀a,F.M a->∃i:Nat,F.ar[i]?=some (some (.ref a))
def Gl(K:KW)(F:Frm)(fr:Bool)(S:Addr->Prop)(H:Hp)(D:Sf):Out->Prop
 |.nx τ'=>∀S' M' σ' H',RF K F S' M' τ' σ' H'->Keep S H S' H'->D.nx σ' H'
 |.bk τ'=>∀S' M' σ' H',RF K F S' M' τ' σ' H'->Keep S H S' H'->D.bk σ' H'
 |.ct τ'=>∀S' M' σ' H',RF K F S' M' τ' σ' H'->Keep S H S' H'->D.ct σ' H'
 |.rt d τ'=>∀S' M' σ' H' v,RF K F S' M' τ' σ' H'->Res K fr F.S F.H H' d v->D.rt v H'
def B(K:KW)(np:Nat)(t:TS)(fr:Bool)(f:DB):Prop:=∀(F:Frm) S M τ σ H (D:Sf) out,F.ar.length<=np->RF K F S M τ σ H->f τ=some out->Gl K F fr S H D out->t D σ H
end DL
end
section
namespace DL
open PySem L2
variable {K:KW}
section
variable {S M:Addr->Prop} {τ τ':DS} {σ:St} {H H' H2:Hp}
theorem R.none(r:R K S M τ σ H')(c:Chg M H H'){a:Addr}(h:H' a=Option.none):H a=Option.none:=by
 cases e:H a with
 |none=>rfl
 |some o =>
  exfalso
  by_cases hm:M a
  ·obtain⟨o',e'⟩:=r.ex a (r.sub a hm)
   rw[h]at e';cases e'
  ·have:=c a o hm e
   rw[h]at this;cases this
theorem Res.back{fr:Bool}{d:PyData}{v:V}(h:Res K fr S H' H2 d v)(r:R K S M τ σ H')(c:Chg M H H'):Res K fr S H H2 d v:=by
 cases fr with
 |false=>exact h
 |true =>
  obtain⟨xs,a,vs,e1,e2,h1,h2,h3⟩:=h
  exact⟨xs,a,vs,e1,e2,r.none c h1,h2,h3⟩
theorem R.isr(r:R K S M τ σ H){fr:Bool}{d:PyData}{v:V}(h:Res K fr S H H' d v):Is K (hid S H') d v:=h.is fun _ z=>r.fresh z
end
theorem E.weak{t:TE}{fr:Bool}{f:DX}(h:E K t fr f):E K t false f:=⟨h.like,fun S M τ σ H Q d τ' r e q=>h.run S M τ σ H Q d τ' r e fun v H' r' c res=>q v H' r' c (r.isr res)⟩
def AD(i:Nat)(τ:DS):Option (PyData×DS):=match τ[i]? with
 |some (some (.d x))=>some (x,τ)
 |_=>none
theorem AF{i:Nat}:E K (J9 i) false (AD i):=by
 refine⟨fun τ d τ' e=>?_,?_⟩
 ·unfold AD at e;split at e
  ·cases e;exact .refl
  ·cases e
 intro S M τ σ H Q d τ' r e q
 unfold AD at e
 split at e
 ·rename_i x hx
  cases e
  obtain⟨v,h1,h2⟩:=r.dat i _ hx
  exact⟨v,h1,q v H r .refl h2⟩
 ·cases e
def dC(d:PyData)(τ:DS):Option (PyData×DS):=some (d,τ)
theorem e_c{d:PyData}{v:V}(h:∀H,Is K H d v):E K (tC v) false (dC d):=by
 refine⟨fun τ d τ' e=>?_,?_⟩
 ·cases e;exact .refl
 intro S M τ σ H Q d' τ' r e q
 cases e
 exact q v H r .refl (h _)
theorem AM{i:Int}:E K (tC (.int i)) false (dC (.int i)):=e_c fun _=>rfl
theorem Jh{b:Bool}:E K (tC (.bl b)) false (dC (.bool b)):=e_c fun _=>rfl
theorem BS{x:Str}:E K (tC (.str x)) false (dC (.str x)):=e_c fun _=>rfl
theorem Wi:E K (tC .non) false (dC .none):=e_c fun _=>rfl
def OR(K:KW)(fr:Bool)(r:R2)(F:PyData->PyData->Option PyData):Prop:=∀(S:Addr->Prop) H x y dx dy d (Q:VK),(∀a,H a=none->¬S a)->Is K (hid S H) dx x->Is K (hid S H) dy y->F dx dy=some d->(∀v H',Same H H'->Res K fr S H H' d v->Q v H')->r x y H Q
def dOp(F:PyData->PyData->Option PyData)(a b:DX)(τ:DS):Option (PyData×DS):=(a τ).bind fun p=>(b p.2).bind fun q=>(F p.1 q.1).map fun d=>(d,q.2)
theorem AW{fr fa fb:Bool}{r:R2}{F:PyData->PyData->Option PyData}{ta tb:TE}{a b:DX}(h:OR K fr r F)(ha:E K ta fa a)(hb:E K tb fb b):E K (tOp r ta tb) fr (dOp F a b):=by
 refine⟨fun τ d τ' e=>?_,?_⟩
 ·unfold dOp at e;obtain⟨⟨x,τ1⟩,e1,e⟩:=oB e;obtain⟨⟨y,τ2⟩,e2,e⟩:=oB e;obtain⟨z,e3,e⟩:=oM e;cases e;exact(ha.like _ _ _ e1).trans (hb.like _ _ _ e2)
 intro S M τ σ H Q d τ' rr e q
 unfold dOp at e
 obtain⟨⟨x,τ1⟩,e1,e⟩:=oB e
 obtain⟨⟨y,τ2⟩,e2,e⟩:=oB e
 obtain⟨z,e3,e⟩:=oM e
 cases e
 refine ha.run S M τ σ H _ x τ1 rr e1 fun v1 H1 r1 c1 i1=>?_
 refine hb.run S M τ1 σ H1 _ y τ2 r1 e2 fun v2 H2 r2 c2 i2=>?_
 refine h S H2 v1 v2 x y d _ (fun _=>r2.fresh) ((rr.isr i1).mono (c2.keep r1.sub).same) (r1.isr i2) e3 fun v H' s res=>?_
 exact q v H' (r2.same s) ((c1.trans c2).trans (.of s)) (res.back r2 (c1.trans c2))
def UR(K:KW)(fr:Bool)(r:V->Hp->VK->Prop)(F:PyData->Option PyData):Prop:=∀(S:Addr->Prop) H x dx d (Q:VK),(∀a,H a=none->¬S a)->Is K (hid S H) dx x->F dx=some d->(∀v H',Same H H'->Res K fr S H H' d v->Q v H')->r x H Q
def dUn(F:PyData->Option PyData)(a:DX)(τ:DS):Option (PyData×DS):=(a τ).bind fun p=>(F p.1).map fun d=>(d,p.2)
theorem Nx{fr fa:Bool}{r:V->Hp->VK->Prop}{F:PyData->Option PyData}{ta:TE}{a:DX}(h:UR K fr r F)(ha:E K ta fa a):E K (tUn r ta) fr (dUn F a):=by
 refine⟨fun τ d τ' e=>?_,?_⟩
 ·unfold dUn at e;obtain⟨⟨x,τ1⟩,e1,e⟩:=oB e;obtain⟨z,e3,e⟩:=oM e;cases e;exact ha.like _ _ _ e1
 intro S M τ σ H Q d τ' rr e q
 unfold dUn at e
 obtain⟨⟨x,τ1⟩,e1,e⟩:=oB e
 obtain⟨z,e3,e⟩:=oM e
 cases e
 refine ha.run S M τ σ H _ x _ rr e1 fun v1 H1 r1 c1 i1=>?_
 refine h S H1 v1 x d _ (fun _=>r1.fresh) (rr.isr i1) e3 fun v H' s res=>?_
 exact q v H' (r1.same s) (c1.trans (.of s)) (res.back r1 c1)
def fI(g:Int->Int->PyData):PyData->PyData->Option PyData
 |.int i,.int j=>some (g i j)
 |_,_=>none
def fC(C:Int->Int->Prop)[∀i j,Decidable (C i j)](g:Int->Int->PyData):PyData->PyData->Option PyData
 |.int i,.int j=>if C i j then some (g i j) else none
 |_,_=>none
theorem dW{g:Int->Int->PyData}{x y d:PyData}(h:fI g x y=some d):∃i j,x = .int i/\y = .int j/\d=g i j:=by
 unfold fI at h
 split at h
 ·exact⟨_,_,rfl,rfl,(Option.some.inj h).symm⟩
 ·cases h
theorem dX{C:Int->Int->Prop}[∀i j,Decidable (C i j)]{g:Int->Int->PyData}{x y d:PyData}(h:fC C g x y=some d):∃i j,x = .int i/\y = .int j/\C i j/\d=g i j:=by
 unfold fC at h
 split at h
 ·split at h
  ·rename_i hc;exact⟨_,_,rfl,rfl,hc,(Option.some.inj h).symm⟩
  ·cases h
 ·cases h
theorem ZL{g:Int->Int->V}{g':Int->Int->PyData}(h:∀i j H,Is K H (g' i j) (g i j)):OR K false (rI0 g) (fI g'):=by
 intro S H x y dx dy d Q _ ix iy e q
 obtain⟨i,j,rfl,rfl,rfl⟩:=dW e
 exact⟨i,j,ix,iy,q _ H (fun _ _ e=>e) (h _ _ _)⟩
theorem ck{C:Int->Int->Prop}[∀i j,Decidable (C i j)]{g:Int->Int->V}{g':Int->Int->PyData}(h:∀i j H,Is K H (g' i j) (g i j)):OR K false (rI C g) (fC C g'):=by
 intro S H x y dx dy d Q _ ix iy e q
 obtain⟨i,j,rfl,rfl,c,rfl⟩:=dX e
 exact⟨i,j,ix,iy,c,q _ H (fun _ _ e=>e) (h _ _ _)⟩
instance {i j:Int}:Decidable (CMulB i j):=by unfold CMulB CMul Bd;infer_instance
instance {i j:Int}:Decidable (Wx i j):=by unfold Wx Bd;infer_instance
instance {i j:Int}:Decidable (cU i j):=by unfold cU;infer_instance
def CK:=fI fun i j=>.int (i+j)
def EM:=fI fun i j=>.int (i-j)
def R4:=fC CMulB fun i j=>.int (i*j)
def Bw:=fC Wx fun i j=>.int (i / j)
def BQ:=fC (fun _ j=>0<j) fun i j=>.int (i % j)
def bW:=fC cU fun i j=>.int (i ^ j.toNat)
def fLt:=fI fun i j=>.bool (decide (i<j))
def fLe:=fI fun i j=>.bool (decide (i<=j))
def fGt:=fI fun i j=>.bool (decide (j<i))
def fGe:=fI fun i j=>.bool (decide (j<=i))
theorem IA:OR K false (rI0 fun i j=>.int (i+j)) CK:=ZL fun _ _ _=>rfl
theorem T1:OR K false (rI0 fun i j=>.int (i-j)) EM:=ZL fun _ _ _=>rfl
theorem bA:OR K false (rI CMulB fun i j=>.int (i*j)) R4:=ck fun _ _ _=>rfl
theorem CB:OR K false (rI Wx fun i j=>.int (i / j)) Bw:=ck fun _ _ _=>rfl
theorem B2:OR K false (rI (fun _ j=>0<j) fun i j=>.int (i % j)) BQ:=ck fun _ _ _=>rfl
theorem eX:OR K false (rI cU fun i j=>.int (i ^ j.toNat)) bW:=ck fun _ _ _=>rfl
theorem cy:OR K false (rI0 fun i j=>.bl (decide (i<j))) fLt:=ZL fun _ _ _=>rfl
theorem O8:OR K false (rI0 fun i j=>.bl (decide (i<=j))) fLe:=ZL fun _ _ _=>rfl
theorem Ux:OR K false (rI0 fun i j=>.bl (decide (j<i))) fGt:=ZL fun _ _ _=>rfl
theorem iP:OR K false (rI0 fun i j=>.bl (decide (j<=i))) fGe:=ZL fun _ _ _=>rfl
def He:PyData->Option PyData
 |.int i=>some (.int (-i))
 |_=>none
theorem JP:UR K false (rU fun i=>.int (-i)) He:=by
 intro S H x dx d Q _ ix e q
 unfold He at e
 split at e
 ·cases e;exact⟨_,ix,q _ H (fun _ _ e=>e) rfl⟩
 ·cases e
def fEq(x y:PyData):Option PyData:=if okD x&&okD y then some (.bool (PyData.eqv x y)) else none
def fNe(x y:PyData):Option PyData:=if okD x&&okD y then some (.bool (!PyData.eqv x y)) else none
theorem Cu:OR K false (iM K) fEq:=by
 intro S H x y dx dy d Q _ ix iy e q
 unfold fEq at e
 split at e
 ·rename_i h
  rw[Bool.and_eq_true]at h
  cases e
  exact⟨dx,dy,ix.mono same_hid,iy.mono same_hid,h.1,h.2,q _ H (fun _ _ e=>e) rfl⟩
 ·cases e
theorem Mu:OR K false (iI K) fNe:=by
 intro S H x y dx dy d Q _ ix iy e q
 unfold fNe at e
 split at e
 ·rename_i h
  rw[Bool.and_eq_true]at h
  cases e
  exact⟨dx,dy,ix.mono same_hid,iy.mono same_hid,h.1,h.2,q _ H (fun _ _ e=>e) rfl⟩
 ·cases e
def fIn(neg:Bool)(x:PyData):PyData->Option PyData
 |.list es=>if okD x&&okD (.list es) then some (.bool (if neg then !(es.any fun y=>PyData.eqv y x) else es.any fun y=>PyData.eqv y x)) else none
 |.tuple es=>if okD x&&okD (.list es) then some (.bool (if neg then !(es.any fun y=>PyData.eqv y x) else es.any fun y=>PyData.eqv y x)) else none
 |_=>none
theorem Uw{neg:Bool}:OR K false (ft K neg) (fIn neg):=by
 intro S H x y dx dy d Q _ ix iy e q
 unfold fIn at e
 split at e
 ·split at e
  ·rename_i h
   rw[Bool.and_eq_true]at h
   cases e
   exact⟨dx,_,ix.mono same_hid,.inl (iy.mono same_hid),h.1,h.2,q _ H (fun _ _ e=>e) rfl⟩
  ·cases e
 ·split at e
  ·rename_i h
   rw[Bool.and_eq_true]at h
   cases e
   exact⟨dx,_,ix.mono same_hid,.inr (iy.mono same_hid),h.1,h.2,q _ H (fun _ _ e=>e) rfl⟩
  ·cases e
 ·cases e
def S9:PyData->Bool
 |.none=>true
 |_=>false
def Oh(x y:PyData):Option PyData:=match y with
 |.none=>some (.bool (S9 x))
 |_=>none
def Jz(x y:PyData):Option PyData:=match y with
 |.none=>some (.bool (!S9 x))
 |_=>none
theorem bK{H:Hp}{x:PyData}{v:V}(h:Is K H x v):decide (v=V.non)=S9 x:=by
 cases x with
 |none=>rw[show v = .non from h];rfl
 |bool b=>rw[show v = .bl b from h];rfl
 |int b=>rw[show v = .int b from h];rfl
 |str b=>rw[show v = .str b from h];rfl
 |list b=>obtain⟨a,vs,rfl,_⟩:=h;rfl
 |tuple b=>obtain⟨a,vs,rfl,_⟩:=h;rfl
 |dict b=>obtain⟨a,ts,rfl,_⟩:=h;rfl
theorem eY:OR K false (fun x y H Q=>y = .non/\Q (.bl (decide (x = .non))) H) Oh:=by
 intro S H x y dx dy d Q _ ix iy e q
 unfold Oh at e
 split at e
 ·cases e
  refine⟨iy,?_⟩
  rw[bK ix]
  exact q _ H (fun _ _ e=>e) rfl
 ·cases e
theorem a9:OR K false (fun x y H Q=>y = .non/\Q (.bl (!decide (x = .non))) H) Jz:=by
 intro S H x y dx dy d Q _ ix iy e q
 unfold Jz at e
 split at e
 ·cases e
  refine⟨iy,?_⟩
  rw[bK ix]
  exact q _ H (fun _ _ e=>e) rfl
 ·cases e
def MU:PyData->PyData->Option PyData
 |.list xs,.int i=>atI xs i
 |_,_=>none
def Ai:PyData->PyData->Option PyData
 |.tuple xs,.int i=>atI xs i
 |_,_=>none
theorem Xh{H:Hp}{ds:List PyData}{vs:List V}{i:Int}{d:PyData}(h:IsL K H ds vs)(e:atI ds i=some d):∃v,atI vs i=some v/\Is K H d v:=by
 unfold atI at e ⊢
 rw[h.length]
 cases q:ixN ds.length i with
 |none=>rw[q]at e;cases e
 |some j =>
  rw[q]at e
  exact h.get (show ds[j]?=some d from e)
theorem YV:OR K false (fo K) MU:=by
 intro S H x y dx dy d Q _ ix iy e q
 unfold MU at e
 split at e
 ·obtain⟨a,vs,rfl,h,l⟩:=ix
  obtain⟨v,h1,h2⟩:=Xh l e
  exact⟨a,vs,_,v,rfl,iy,SqL.of (hid_iff.mp h).2,h1,q _ H (fun _ _ e=>e) h2⟩
 ·cases e
theorem A5:OR K false (cY K) Ai:=by
 intro S H x y dx dy d Q _ ix iy e q
 unfold Ai at e
 split at e
 ·obtain⟨a,vs,rfl,h,l⟩:=ix
  obtain⟨v,h1,h2⟩:=Xh l e
  exact⟨a,vs,_,v,rfl,iy,Same.tup same_hid h,h1,q _ H (fun _ _ e=>e) h2⟩
 ·cases e
def Wg:PyData->PyData->Option PyData
 |.list xs,.list ys=>if xs.length+ys.length<=sizeLine then some (.list (xs++ys)) else none
 |_,_=>none
theorem Jd{H:Hp}:∀{xs ys:List PyData} {vs us:List V},IsL K H xs vs->IsL K H ys us->IsL K H (xs++ys) (vs++us)
 |[],_,_,_,h,k=>by rw[show _=[] from h];exact k
 |_::_,_,_,_,⟨x,xs,e,h,l⟩,k=>by subst e;exact⟨x,_,rfl,h,Jd l k⟩
theorem OA{S:Addr->Prop}{H:Hp}{xs:List PyData}{vs:List V}{p:Addr}(hp:H p=none)(l:IsL K (hid S H) xs vs):Res K true S H (upd H p (.lst vs)) (.list xs) (.ref p):=by
 refine⟨.l xs,p,_,rfl,rfl,hp,Bk,vs,rfl,l.mono (Keep.same fun b o hn e=>?_)⟩
 have:b≠p:=B6 e hp
 exact⟨fun z=>z.elim hn this,by rw[CI this];exact e⟩
theorem eg:OR K true fu Wg:=by
 intro S H x y dx dy d Q _ ix iy e q
 unfold Wg at e
 split at e
 ·split at e
  ·rename_i hz
   cases e
   obtain⟨a,vs,rfl,h,l⟩:=ix
   obtain⟨b,us,rfl,h',l'⟩:=iy
   refine⟨a,b,vs,us,rfl,rfl,(hid_iff.mp h).2,(hid_iff.mp h').2,by rw[l.length,l'.length];exact hz,fun p hp=>?_⟩
   exact q _ _ (CA hp _) (OA hp (Jd l l'))
  ·cases e
 ·cases e
def AN(a:DX)(τ:DS):Option (Bool×DS):=(a τ).bind fun p=>match p.1 with
 |.bool b=>some (b,p.2)
 |_=>none
theorem Aq{fr:Bool}{t:TE}{a:DX}(h:E K t fr a):T K (Vp t) (AN a):=by
 refine⟨fun τ d τ' e=>?_,?_⟩
 ·unfold AN at e;obtain⟨⟨x,τ1⟩,e1,e⟩:=oB e;dsimp only at e;split at e
  ·cases e;exact h.like _ _ _ e1
  ·cases e
 intro S M τ σ H Q b τ' r e q
 unfold AN at e
 obtain⟨⟨x,τ1⟩,e1,e⟩:=oB e
 dsimp only at e
 split at e
 ·cases e
  refine h.run S M τ σ H _ _ _ r e1 fun v H' r' c i=>?_
  exact⟨b,(show v = .bl b from r.isr i),q H' r' c⟩
 ·cases e
theorem Cs{fr:Bool}{t:TE}{a:DX}(h:E K t fr a):T K (tB t) (AN a):=Aq h
def Ci(a b:DT)(τ:DS):Option (Bool×DS):=(a τ).bind fun p=>if p.1=true then b p.2 else some (false,p.2)
def De(a b:DT)(τ:DS):Option (Bool×DS):=(a τ).bind fun p=>if p.1=true then some (true,p.2) else b p.2
def Bm(a:DT)(τ:DS):Option (Bool×DS):=(a τ).map fun p=>(!p.1,p.2)
theorem NB{ta tb:TT}{a b:DT}(ha:T K ta a)(hb:T K tb b):T K (iB ta tb) (Ci a b):=by
 refine⟨fun τ d τ' e=>?_,?_⟩
 ·unfold Ci at e;obtain⟨⟨c,τ1⟩,e1,e⟩:=oB e;cases c with
  |true=>exact(ha.like _ _ _ e1).trans (hb.like _ _ _ e)
  |false=>cases e;exact ha.like _ _ _ e1
 intro S M τ σ H Q k τ' r e q
 unfold Ci at e
 obtain⟨⟨c,τ1⟩,e1,e⟩:=oB e
 refine ha.run S M τ σ H _ c τ1 r e1 fun H1 r1 c1=>?_
 cases c with
 |true=>exact hb.run S M τ1 σ H1 _ k τ' r1 e fun H2 r2 c2=>q H2 r2 (c1.trans c2)
 |false=>cases e;exact q H1 r1 c1
theorem Ib{ta tb:TT}{a b:DT}(ha:T K ta a)(hb:T K tb b):T K (tOr ta tb) (De a b):=by
 refine⟨fun τ d τ' e=>?_,?_⟩
 ·unfold De at e;obtain⟨⟨c,τ1⟩,e1,e⟩:=oB e;cases c with
  |false=>exact(ha.like _ _ _ e1).trans (hb.like _ _ _ e)
  |true=>cases e;exact ha.like _ _ _ e1
 intro S M τ σ H Q k τ' r e q
 unfold De at e
 obtain⟨⟨c,τ1⟩,e1,e⟩:=oB e
 refine ha.run S M τ σ H _ c τ1 r e1 fun H1 r1 c1=>?_
 cases c with
 |false=>exact hb.run S M τ1 σ H1 _ k τ' r1 e fun H2 r2 c2=>q H2 r2 (c1.trans c2)
 |true=>cases e;exact q H1 r1 c1
theorem Ck{ta:TT}{a:DT}(ha:T K ta a):T K (hZ ta) (Bm a):=by
 refine⟨fun τ d τ' e=>?_,?_⟩
 ·unfold Bm at e;obtain⟨⟨c,τ1⟩,e1,e⟩:=oM e;cases e;exact ha.like _ _ _ e1
 intro S M τ σ H Q k τ' r e q
 unfold Bm at e
 obtain⟨⟨c,τ1⟩,e1,e⟩:=oM e
 cases e
 exact ha.run S M τ σ H _ c _ r e1 fun H1 r1 c1=>q H1 r1 c1
def dIf(c:DT)(a b:DX)(τ:DS):Option (PyData×DS):=(c τ).bind fun p=>if p.1=true then a p.2 else b p.2
def C9(a b:DX)(τ:DS):Option (PyData×DS):=(AN a τ).bind fun p=>if p.1=true then b p.2 else some (.bool false,p.2)
def dOr(a b:DX)(τ:DS):Option (PyData×DS):=(AN a τ).bind fun p=>if p.1=true then some (.bool true,p.2) else b p.2
def Qq(a:DX)(τ:DS):Option (PyData×DS):=(AN a τ).map fun p=>(.bool (!p.1),p.2)
theorem Cw{fa fb:Bool}{ta tb:TE}{a b:DX}(ha:E K ta fa a)(hb:E K tb fb b):E K (eL ta tb) false (C9 a b):=by
 refine⟨fun τ d τ' e=>?_,?_⟩
 ·unfold C9 at e;obtain⟨⟨c,τ1⟩,e1,e⟩:=oB e;cases c with
  |true=>exact((Aq ha).like _ _ _ e1).trans (hb.like _ _ _ e)
  |false=>cases e;exact(Aq ha).like _ _ _ e1
 intro S M τ σ H Q d τ' r e q
 unfold C9 at e
 obtain⟨⟨k,τ1⟩,e1,e⟩:=oB e
 refine(Aq ha).run S M τ σ H (fun c H1=>if c=true then tb σ H1 Q else Q (.bl false) H1) k τ1 r e1 fun H1 r1 c1=>?_
 cases k with
 |true=>exact hb.weak.run S M τ1 σ H1 _ d τ' r1 e fun v H2 r2 c2 i=>q v H2 r2 (c1.trans c2) i
 |false=>cases e;exact q _ H1 r1 c1 rfl
theorem fJ{fa:Bool}{ta:TE}{a:DX}(ha:E K ta fa a):E K (eJ ta) false (Qq a):=by
 refine⟨fun τ d τ' e=>?_,?_⟩
 ·unfold Qq at e;obtain⟨⟨c,τ1⟩,e1,e⟩:=oM e;cases e;exact(Aq ha).like _ _ _ e1
 intro S M τ σ H Q d τ' r e q
 unfold Qq at e
 obtain⟨⟨k,τ1⟩,e1,e⟩:=oM e
 cases e
 exact(Aq ha).run S M τ σ H (fun c H1=>Q (.bl (!c)) H1) k _ r e1 fun H1 r1 c1=>q _ H1 r1 c1 rfl
def C8(F G:PyData->PyData->Option PyData)(a b c:DX)(τ:DS):Option (PyData×DS):=(a τ).bind fun p=>(b p.2).bind fun q=>(F p.1 q.1).bind fun z=>match z with
 |.bool true=>(c q.2).bind fun s=>(G q.1 s.1).map fun d=>(d,s.2)
 |.bool false=>some (.bool false,q.2)
 |_=>none
theorem LP{fa fb fc:Bool}{r r':R2}{F G:PyData->PyData->Option PyData}{ta tb tc:TE}{a b c:DX}(h:OR K false r F)(h':OR K false r' G)(ha:E K ta fa a)(hb:E K tb fb b)(hc:E K tc fc c):E K (XA r r' ta tb tc) false (C8 F G a b c):=by
 refine⟨fun τ d τ' e=>?_,?_⟩
 ·unfold C8 at e;obtain⟨⟨x,τ1⟩,e1,e⟩:=oB e;obtain⟨⟨y,τ2⟩,e2,e⟩:=oB e;obtain⟨z,e3,e⟩:=oB e;split at e
  ·obtain⟨⟨w,τ4⟩,e4,e⟩:=oB e;obtain⟨z,e5,e⟩:=oM e;cases e;exact((ha.like _ _ _ e1).trans (hb.like _ _ _ e2)).trans (hc.like _ _ _ e4)
  ·cases e;exact(ha.like _ _ _ e1).trans (hb.like _ _ _ e2)
  ·cases e
 intro S M τ σ H Q d τ' rr e q
 unfold C8 at e
 obtain⟨⟨x,τ1⟩,e1,e⟩:=oB e
 obtain⟨⟨y,τ2⟩,e2,e⟩:=oB e
 obtain⟨z,e3,e⟩:=oB e
 refine ha.run S M τ σ H _ x τ1 rr e1 fun v1 H1 r1 c1 i1=>?_
 refine hb.run S M τ1 σ H1 _ y τ2 r1 e2 fun v2 H2 r2 c2 i2=>?_
 have j2:=r1.isr i2
 refine h S H2 v1 v2 x y z _ (fun _=>r2.fresh) ((rr.isr i1).mono (c2.keep r1.sub).same) j2 e3 fun v H3 s res=>?_
 have r3:=r2.same s
 have c3:Chg M H H3:=(c1.trans c2).trans (.of s)
 split at e
 ·obtain⟨⟨w,τ4⟩,e4,e⟩:=oB e
  obtain⟨z,e5,e⟩:=oM e
  cases e
  refine⟨true,res,?_⟩
  refine hc.run S M τ2 σ H3 _ w _ r3 e4 fun v4 H4 r4 c4 i4=>?_
  refine h' S H4 v2 v4 y w d _ (fun _=>r4.fresh) ((j2.mono (Same.keep s).same).mono (c4.keep r3.sub).same) (r3.isr i4) e5 fun v5 H5 s5 res5=>?_
  exact q v5 H5 (r4.same s5) ((c3.trans c4).trans (.of s5)) res5
 ·cases e
  exact⟨false,res,q _ H3 r3 c3 rfl⟩
 ·cases e
end DL
end
section
namespace DL
open PySem L2
variable {K:KW}
def AI(τ:DS):Option (List Ar×DS):=some ([],τ)
def AA(a:DX)(r:DA)(τ:DS):Option (List Ar×DS):=(a τ).bind fun p=>(r p.2).map fun q=>(.d p.1::q.1,q.2)
theorem AQ:A K Mr AI:=by
 refine⟨fun τ d τ' e=>?_,?_⟩
 ·cases e;exact .refl
 intro S M τ σ H Q rs τ' r e q
 cases e
 exact q [] H r .refl rfl
theorem AE{fr:Bool}{te:TE}{t:TA}{a:DX}{f:DA}(ha:E K te fr a)(hr:A K t f):A K (Gn te t) (AA a f):=by
 refine⟨fun τ d τ' e=>?_,?_⟩
 ·unfold AA at e
  obtain⟨⟨x,τ1⟩,e1,e⟩:=oB e
  obtain⟨⟨y,τ2⟩,e2,e⟩:=oM e
  cases e
  exact(ha.like _ _ _ e1).trans (hr.like _ _ _ e2)
 intro S M τ σ H Q rs τ' r e q
 unfold AA at e
 obtain⟨⟨x,τ1⟩,e1,e⟩:=oB e
 obtain⟨⟨y,τ2⟩,e2,e⟩:=oM e
 cases e
 refine ha.run S M τ σ H _ x τ1 r e1 fun v H1 r1 c1 i1=>?_
 refine hr.run S M τ1 σ H1 _ y _ r1 e2 fun vs H2 r2 c2 i2=>?_
 exact q (v::vs) H2 r2 (c1.trans c2) ⟨v,vs,rfl,(r.isr i1).mono (c2.keep r1.sub).same,i2⟩
def Cv:List Ar->Option (List PyData)
 |[]=>some []
 |.d x::r=>(Cv r).map (x::·)
 |.s _::_=>none
theorem Hz{S:Addr->Prop}{σ:St}{H:Hp}:∀{rs:List Ar} {vs:List V} {ds:List PyData},eA K S σ H rs vs->Cv rs=some ds->IsL K (hid S H) ds vs
 |[],_,_,h,e=>by cases e;exact h
 |.d x::r,_,_,⟨v,us,e1,h,l⟩,e=>by
  obtain⟨ds,e2,e⟩:=oM e
  cases e
  exact⟨v,us,e1,h,Hz l e2⟩
 |.s _::_,_,_,_,e=>by cases e
def Be(a:DA)(τ:DS):Option (PyData×DS):=(a τ).bind fun p=>(Cv p.1).bind fun ds=>if ds.length<=sizeLine then some (.tuple ds,p.2) else none
def IZ(a:DA)(τ:DS):Option (PyData×DS):=(a τ).bind fun p=>(Cv p.1).bind fun ds=>if ds.length<=sizeLine then some (.list ds,p.2) else none
theorem Bu{t:TA}{a:DA}(ha:A K t a):E K (fg t) false (Be a):=by
 refine⟨fun τ d τ' e=>?_,?_⟩
 ·unfold Be at e
  obtain⟨⟨x,τ1⟩,e1,e⟩:=oB e
  obtain⟨ds,e2,e⟩:=oB e
  split at e
  ·cases e;exact ha.like _ _ _ e1
  ·cases e
 intro S M τ σ H Q d τ' r e q
 unfold Be at e
 obtain⟨⟨x,τ1⟩,e1,e⟩:=oB e
 obtain⟨ds,e2,e⟩:=oB e
 split at e
 ·rename_i hz
  cases e
  refine ha.run S M τ σ H _ x _ r e1 fun vs H1 r1 c1 i1=>?_
  have l:=Hz i1 e2
  refine⟨by rw[l.length];exact hz,fun p hp=>?_⟩
  have s:=CA hp (HO.tup vs)
  exact q _ _ (r1.same s) (c1.trans (.of s)) ⟨p,vs,rfl,SqT.of (hid_iff.mpr ⟨r1.fresh hp,Bk⟩),l.mono (Same.keep s).same⟩
 ·cases e
theorem R9{t:TA}{a:DA}(ha:A K t a):E K (aL t) true (IZ a):=by
 refine⟨fun τ d τ' e=>?_,?_⟩
 ·unfold IZ at e
  obtain⟨⟨x,τ1⟩,e1,e⟩:=oB e
  obtain⟨ds,e2,e⟩:=oB e
  split at e
  ·cases e;exact ha.like _ _ _ e1
  ·cases e
 intro S M τ σ H Q d τ' r e q
 unfold IZ at e
 obtain⟨⟨x,τ1⟩,e1,e⟩:=oB e
 obtain⟨ds,e2,e⟩:=oB e
 split at e
 ·rename_i hz
  cases e
  refine ha.run S M τ σ H _ x _ r e1 fun vs H1 r1 c1 i1=>?_
  have l:=Hz i1 e2
  refine⟨by rw[l.length];exact hz,fun p hp=>?_⟩
  have s:=CA hp (HO.lst vs)
  exact q _ _ (r1.same s) (c1.trans (.of s)) ((OA hp l).back r1 c1)
 ·cases e
def BR(K:KW)(fr:Bool)(r:List V->Hp->VK->Prop)(F:List PyData->Option PyData):Prop:=∀(S:Addr->Prop) H vs ds d (Q:VK),(∀a,H a=none->¬S a)->IsL K (hid S H) ds vs->F ds=some d->(∀v H',Same H H'->Res K fr S H H' d v->Q v H')->r vs H Q
def BD(F:List PyData->Option PyData)(a:DA)(τ:DS):Option (PyData×DS):=(a τ).bind fun p=>(Cv p.1).bind fun ds=>(F ds).map fun d=>(d,p.2)
theorem B0{fr:Bool}{r:List V->Hp->VK->Prop}{F:List PyData->Option PyData}{t:TA}{a:DA}(h:BR K fr r F)(ha:A K t a):E K (tCB r t) fr (BD F a):=by
 refine⟨fun τ d τ' e=>?_,?_⟩
 ·unfold BD at e
  obtain⟨⟨x,τ1⟩,e1,e⟩:=oB e
  obtain⟨ds,e2,e⟩:=oB e
  obtain⟨z,e3,e⟩:=oM e
  cases e;exact ha.like _ _ _ e1
 intro S M τ σ H Q d τ' rr e q
 unfold BD at e
 obtain⟨⟨x,τ1⟩,e1,e⟩:=oB e
 obtain⟨ds,e2,e⟩:=oB e
 obtain⟨z,e3,e⟩:=oM e
 cases e
 refine ha.run S M τ σ H _ x _ rr e1 fun vs H1 r1 c1 i1=>?_
 refine h S H1 vs ds d _ (fun _=>r1.fresh) (Hz i1 e2) e3 fun v H' s res=>?_
 exact q v H' (r1.same s) (c1.trans (.of s)) (res.back r1 c1)
def spD(K:KW)(G:List L->Option (PyData×List L))(fr:Bool):Sp:=fun vs H Q _=>∃(S M:Addr->Prop) (ls:List L) (r:PyData) (ls':List L),R K S M (ls.map some) (vs.map some) H/\G ls=some (r,ls') /\
 ∀v H',R K S M (ls'.map some) (vs.map some) H'->Chg M H H'->Res K fr S H H' r v->Q v H'
theorem aT{S M:Addr->Prop}{τ:DS}{σ:St}{H:Hp}(r:R K S M τ σ H){ds:List PyData}{vs:List V}(l:IsL K (hid S H) ds vs):R K S (fun _=>False) ((ds.map L.d).map some) (vs.map some) H where
 len:=by rw[List.length_map,List.length_map,List.length_map,l.length]
 dat:=fun i x e=>by
  rw[List.getElem?_map,List.getElem?_map]at e
  cases q:ds[i]? with
  |none=>rw[q]at e;cases e
  |some d =>
   rw[q]at e
   cases e
   obtain⟨v,h1,h2⟩:=l.get q
   exact⟨v,by rw[List.getElem?_map,h1];rfl,h2⟩
 mt:=fun i o e=>by
  rw[List.getElem?_map,List.getElem?_map]at e
  cases q:ds[i]? with
  |none=>rw[q]at e;cases e
  |some d=>rw[q]at e;cases o<;>cases e
 cst:=fun i xs e=>by
  rw[List.getElem?_map,List.getElem?_map]at e
  cases q:ds[i]? with
  |none=>rw[q]at e;cases e
  |some d=>rw[q]at e;cases e
 inj:=fun i j o p a e=>by
  rw[List.getElem?_map,List.getElem?_map]at e
  cases q:ds[i]? with
  |none=>rw[q]at e;cases e
  |some d=>rw[q]at e;cases o<;>cases e
 sub:=fun a h=>h.elim
 ex:=r.ex
 gr:=GR.nil fun i d e=>by
  rw[List.getElem?_map,List.getElem?_map]at e
  cases q:ds[i]? with
  |none=>rw[q]at e;cases e
  |some d=>rw[q]at e;cases e
def AU(G:List L->Option (PyData×List L))(a:DA)(τ:DS):Option (PyData×DS):=(a τ).bind fun p=>(Cv p.1).bind fun ds=>(G (ds.map L.d)).map fun q=>(q.1,p.2)
theorem Aa{fr:Bool}{G:List L->Option (PyData×List L)}{t:TA}{a:DA}{X:XK}(ha:A K t a):E K (P2 (spD K G fr) [] X t) fr (AU G a):=by
 refine⟨fun τ d τ' e=>?_,?_⟩
 ·unfold AU at e
  obtain⟨⟨x,τ1⟩,e1,e⟩:=oB e
  obtain⟨ds,e2,e⟩:=oB e
  obtain⟨z,e3,e⟩:=oM e
  cases e;exact ha.like _ _ _ e1
 intro S M τ σ H Q d τ' rr e q
 unfold AU at e
 obtain⟨⟨x,τ1⟩,e1,e⟩:=oB e
 obtain⟨ds,e2,e⟩:=oB e
 obtain⟨⟨z,ls'⟩,e3,e⟩:=oM e
 cases e
 refine ha.run S M τ σ H _ x _ rr e1 fun vs H1 r1 c1 i1=>?_
 have l:=Hz i1 e2
 show spD K G fr (vs++[]) H1 Q X
 rw[List.append_nil]
 refine⟨S,fun _=>False,ds.map L.d,_,ls',aT r1 l,e3,fun v H' _ c res=>?_⟩
 have s:Same H1 H':=fun b o e=>c b o (fun z=>z) e
 exact q v H' (r1.same s) (c1.trans (.of s)) (res.back r1 c1)
theorem Qy{a b:Ow}(h:some (some a.L)=some (some b.L)):a=b:=Ow.inj (Option.some.inj (Option.some.inj h))
theorem R.setO{S M:Addr->Prop}{τ:DS}{σ:St}{H H':Hp}(r:R K S M τ σ H){i:Nat}{a:Addr}{w w':Ow}{h:HO}(hi:τ[i]?=some (some w.L))(ha:σ[i]?=some (some (.ref a)))
  (c:Chg (fun b=>b=a) H H') (h':H' a=some h) (l:IsO K (hid S H') w' a h):R K S M (τ.set i (some w'.L)) σ H':=by
 have hlt:i<τ.length:=(List.getElem?_eq_some_iff.mp hi).1
 have Sa:S a:=by
  obtain⟨b,us,h1,h2,_⟩:=r.mt i w hi
  rw[ha]at h1;cases h1
  exact r.sub _ h2
 have k:Keep S H S H':=c.keep fun b e=>by subst e;exact Sa
 have ne:∀j,j≠i->(τ.set i (some w'.L))[j]?=τ[j]?:=fun j hj=>List.getElem?_set_ne (Ne.symm hj)
 have se:(τ.set i (some w'.L))[i]?=some (some w'.L):=List.getElem?_set_self hlt
 refine⟨by rw[List.length_set];exact r.len,fun j x e=>?_,fun j ys e=>?_,fun j x e=>?_,fun j1 j2 ys zs b e1 e2 f1 f2=>?_,r.sub,fun b hb=>?_,r.gr.to (fun j d e=>?_) (fun j o b e q=>?_) (fun b hb hn=>⟨hb,?_⟩) (tsS k.same)⟩
 ·by_cases hj:j=i
  ·subst hj;rw[se]at e;exact absurd (Option.some.inj (Option.some.inj e)) Ow.not_d
  ·rw[ne j hj]at e
   obtain⟨v,h1,h2⟩:=r.dat j x e
   exact⟨v,h1,h2.mono k.same⟩
 ·by_cases hj:j=i
  ·subst hj
   rw[se]at e
   obtain rfl:=Ow.inj (Option.some.inj (Option.some.inj e))
   obtain⟨b,us,h1,h2,_⟩:=r.mt j w hi
   rw[ha]at h1;cases h1
   exact⟨a,h,ha,h2,h',l⟩
  ·rw[ne j hj]at e
   obtain⟨b,us,h1,h2,h3,h4⟩:=r.mt j ys e
   refine⟨b,us,h1,h2,c b _ (fun z=>?_) h3,h4.mono k.same⟩
   subst z
   exact hj (r.inj j i ys w b e hi h1 ha)
 ·by_cases hj:j=i
  ·subst hj;rw[se]at e;exact absurd (Option.some.inj (Option.some.inj e)) Ow.not_c
  ·rw[ne j hj]at e
   obtain⟨b,us,h1,h2,h3⟩:=r.cst j x e
   exact⟨b,us,h1,k.same.seq h2,h3.mono k.same⟩
 ·have g:∀(j:Nat) (ys:Ow),(τ.set i (some w'.L))[j]?=some (some ys.L)->∃zs:Ow,τ[j]?=some (some zs.L):=fun j ys e=>by
   by_cases hj:j=i
   ·subst hj;exact⟨_,hi⟩
   ·rw[ne j hj]at e;exact⟨_,e⟩
  obtain⟨_,g1⟩:=g j1 ys e1
  obtain⟨_,g2⟩:=g j2 zs e2
  exact r.inj _ _ _ _ b g1 g2 f1 f2
 ·by_cases e:b=a
  ·subst e;exact⟨_,h'⟩
  ·obtain⟨o,q⟩:=r.ex b hb
   exact⟨o,c b o e q⟩
 ·by_cases hj:j=i
  ·subst hj;rw[se]at e;exact absurd (Option.some.inj (Option.some.inj e)) Ow.not_g
  ·rw[ne j hj]at e;exact⟨e,rfl⟩
 ·by_cases hj:j=i
  ·subst hj;exact .inl ⟨w,hi,q⟩
  ·rw[ne j hj]at e;exact .inl ⟨o,e,q⟩
 ·obtain⟨o,e⟩:=r.ex b (r.sub b hb)
  rw[e];exact c b o (fun z=>hn i w hi (by rw[z];exact ha)) e
theorem R.setM{S M:Addr->Prop}{τ:DS}{σ:St}{H H':Hp}(r:R K S M τ σ H){i:Nat}{a:Addr}{xs xs':List PyData}{vs:List V}(hi:τ[i]?=some (some (.m xs)))(ha:σ[i]?=some (some (.ref a)))
  (c:Chg (fun b=>b=a) H H') (h':H' a=some (.lst vs)) (l:IsL K (hid S H') xs' vs):R K S M (τ.set i (some (.m xs'))) σ H':=r.setO (w:=.l xs) (w':=.l xs') hi ha c h' ⟨vs,rfl,l⟩
theorem Ze{τ:DS}{i:Nat}{w w':Ow}(hi:τ[i]?=some (some w.L))(hf:w.fl=w'.fl):Like τ (τ.set i (some w'.L)):=by
 have hlt:i<τ.length:=(List.getElem?_eq_some_iff.mp hi).1
 refine⟨by rw[List.length_set],fun j=>?_⟩
 by_cases hj:j=i
 ·subst hj
  rw[List.getElem?_set_self hlt,hi]
  exact⟨⟨fun x=>⟨fun z=>absurd (Option.some.inj (Option.some.inj z)) Ow.not_d,fun z=>absurd (Option.some.inj (Option.some.inj z)) Ow.not_d⟩,fun x=>⟨fun z=>absurd (Option.some.inj (Option.some.inj z)) Ow.not_c,fun z=>absurd (Option.some.inj (Option.some.inj z)) Ow.not_c⟩⟩,fun b=>⟨fun⟨o,h1,h2⟩=>⟨w,by rw[hf,Qy h2];exact h1,rfl⟩,fun⟨o,h1,h2⟩=>⟨w',by rw[<- hf,Qy h2];exact h1,rfl⟩⟩⟩
 ·rw[List.getElem?_set_ne (Ne.symm hj)]
  exact⟨⟨fun x=>Iff.rfl,fun x=>Iff.rfl⟩,fun b=>Iff.rfl⟩
theorem Zf{τ:DS}{i:Nat}{xs xs':List PyData}(hi:τ[i]?=some (some (.m xs))):Like τ (τ.set i (some (.m xs'))):=Ze (w:=.l xs) (w':=.l xs') hi rfl
def N1(i:Nat)(G:List L->Option (PyData×List L))(a:DA)(τ:DS):Option (PyData×DS):=(a τ).bind fun p=>(Cv p.1).bind fun ds=>match p.2[i]? with
 |some (some (.m xs))=>(G (.m xs::ds.map L.d)).bind fun q=>match q.2 with
  |.m xs'::_=>some (q.1,p.2.set i (some (.m xs')))
  |_=>none
 |some (some (.k xs))=>(G (.k xs::ds.map L.d)).bind fun q=>match q.2 with
  |.k xs'::_=>some (q.1,p.2.set i (some (.k xs')))
  |_=>none
 |_=>none
def okM:Option L->Bool
 |some (.m xs)=>fixDs xs
 |some (.k kvs)=>fixDs (kvs.map (·.2))
 |_=>true
theorem IsKV.monoT{H H':Hp}(s:TSm H H'):∀{kvs:List (List Int×PyData)} {ts:List (List Int×Addr×V)},fixDs (kvs.map (·.2))=true->IsKV K H (Tc kvs) ts->IsKV K H' (Tc kvs) ts
 |[],_,_,h=>h
 |(k,d)::kvs,_,f,⟨t,tr,e,ek,hk,h,l⟩=>by
  rw[List.map_cons,fixDs,Bool.and_eq_true]at f
  exact⟨t,tr,e,ek,s.tup hk,Is.monoT s f.1 h,IsKV.monoT s (kvs:=kvs) f.2 l⟩
theorem IsO.monoT{H H':Hp}(s:TSm H H'):∀{o:Ow} {a:Addr} {h:HO},okM (some o.L)=true->IsO K H o a h->IsO K H' o a h
 |.l _,_,_,f,⟨vs,e,l⟩=>⟨vs,e,l.monoT s f⟩
 |.t _,_,_,f,⟨ts,e,l⟩=>⟨ts,e,IsKV.monoT s f l⟩
def OwH(h:HO):Prop:=(∃vs,h = .lst vs)\/∃φ,h = .ext φ
theorem IsO.ho{H:Hp}:∀{o:Ow} {a:Addr} {h:HO},IsO K H o a h->OwH h
 |.l _,_,_,⟨vs,e,_⟩=>.inl ⟨vs,e⟩
 |.t _,_,_,⟨ts,⟨ep,e⟩,_⟩=>.inr ⟨_,e⟩
def Gm(i:Nat)(f:DX)(τ:DS):Option (PyData×DS):=match τ[i]? with
 |some (some (.m xs))=>(f (τ.set i (some (.d (.list xs))))).bind fun q=>if GN q.1&&q.2.all okM then some (q.1,q.2.set i (some (.m xs))) else none
 |some (some (.k xs))=>(f (τ.set i (some (.d (.dict (Tc xs)))))).bind fun q=>if GN q.1&&q.2.all okM then some (q.1,q.2.set i (some (.k xs))) else none
 |_=>none
theorem UQ{i:Nat}{f:DX}{τ:DS}{d:PyData}{τ':DS}(e:Gm i f τ=some (d,τ')):∃w τ1,τ[i]?=some (some (Ow.L w))/\f (τ.set i (some (.d w.D)))=some (d,τ1)/\GN d=true/\τ1.all okM=true/\τ'=τ1.set i (some w.L):=by
 unfold Gm at e
 split at e
 ·rename_i xs hx
  obtain⟨⟨z,τ1⟩,e1,e⟩:=oB e
  dsimp only at e
  split at e
  ·rename_i h
   rw[Bool.and_eq_true]at h
   cases e
   exact⟨.l xs,τ1,hx,e1,h.1,h.2,rfl⟩
  ·cases e
 ·rename_i xs hx
  obtain⟨⟨z,τ1⟩,e1,e⟩:=oB e
  dsimp only at e
  split at e
  ·rename_i h
   rw[Bool.and_eq_true]at h
   cases e
   exact⟨.t xs,τ1,hx,e1,h.1,h.2,rfl⟩
  ·cases e
 ·cases e
theorem Mh{S S':Addr->Prop}{H:Hp}(h:∀a,S' a->S a\/∃o,H a=some o/\OwH o):TSm (hid S H) (hid S' H):=fun b o e nl ne=>by
 obtain⟨e1,e2⟩:=hid_iff.mp e
 refine hid_iff.mpr ⟨fun z=>?_,e2⟩
 rcases h b z with z|⟨o',z,⟨vs,rfl⟩|⟨φ,rfl⟩⟩
 ·exact e1 z
 ·rw[e2]at z;cases z;exact nl _ rfl
 ·rw[e2]at z;cases z;exact ne _ rfl
theorem frz{S M:Addr->Prop}{τ:DS}{σ:St}{H:Hp}(r:R K S M τ σ H){i:Nat}{w:Ow}{p:Addr}(hi:τ[i]?=some (some w.L))(hp:σ[i]?=some (some (.ref p))) :
  R K (fun b=>S b/\b≠p) (fun b=>M b/\b≠p) (τ.set i (some (.d w.D))) σ H:=by
 have hlt:i<τ.length:=(List.getElem?_eq_some_iff.mp hi).1
 have ne:∀j,j≠i->(τ.set i (some (.d w.D)))[j]?=τ[j]?:=fun j hj=>List.getElem?_set_ne (Ne.symm hj)
 have se:(τ.set i (some (.d w.D)))[i]?=some (some (.d w.D)):=List.getElem?_set_self hlt
 have k:Same (hid S H) (hid (fun b=>S b/\b≠p) H):=Jf fun a z=>z.1
 have mn:∀(j:Nat) (ys:Ow),(τ.set i (some (.d w.D)))[j]?=some (some ys.L)->j≠i/\τ[j]?=some (some ys.L):=fun j ys e=>by
  by_cases hj:j=i
  ·subst hj;rw[se]at e;exact absurd (Option.some.inj (Option.some.inj e)).symm Ow.not_d
  ·rw[ne j hj]at e;exact⟨hj,e⟩
 have cs:∀(j:Nat) (ys:List PyData),(τ.set i (some (.d w.D)))[j]?=some (some (.c ys))->τ[j]?=some (some (.c ys)):=fun j ys e=>by
  by_cases hj:j=i
  ·subst hj;rw[se]at e;cases e
  ·rw[ne j hj]at e;exact e
 refine⟨by rw[List.length_set];exact r.len,fun j x e=>?_,fun j ys e=>?_,fun j ys e=>let ⟨a,vs,h1,h2,h3⟩:=r.cst j ys (cs j ys e);⟨a,vs,h1,k.seq h2,h3.mono k⟩,fun j1 j2 ys zs b e1 e2 f1 f2=>?_,fun a h=>⟨r.sub a h.1,h.2⟩,fun a h=>r.ex a h.1,r.gr.to (fun j d e=>?_) (fun j o b e q=>.inl ⟨o,(mn j o e).2,q⟩) (fun b hb hn=>⟨⟨hb,fun z=>hn i w hi (by rw[z];exact hp)⟩,rfl⟩) (tsS k)⟩
 ·by_cases hj:j=i
  ·subst hj
   rw[se]at e
   cases e
   obtain⟨b,us,h1,h2,h3,h4⟩:=r.mt j w hi
   rw[hp]at h1;cases h1
   exact⟨_,hp,IsO.is (h4.mono k) (hid_iff.mpr ⟨fun z=>z.2 rfl,h3⟩)⟩
  ·rw[ne j hj]at e
   obtain⟨v,h1,h2⟩:=r.dat j x e
   exact⟨v,h1,h2.mono k⟩
 ·obtain⟨hj,e⟩:=mn j ys e
  obtain⟨b,us,h1,h2,h3,h4⟩:=r.mt j ys e
  refine⟨b,us,h1,⟨h2,fun z=>?_⟩,h3,h4.mono k⟩
  subst z
  exact hj (r.inj j i ys w b e hi h1 hp)
 ·exact r.inj j1 j2 ys zs b (mn _ _ e1).2 (mn _ _ e2).2 f1 f2
 ·by_cases hj:j=i
  ·subst hj;rw[se]at e;cases e
  ·rw[ne j hj]at e;exact⟨e,rfl⟩
theorem aD{S M:Addr->Prop}{τ τ1:DS}{σ:St}{H H':Hp}(r:R K S M τ σ H){i:Nat}{w:Ow}{p:Addr}(hi:τ[i]?=some (some w.L))(hp:σ[i]?=some (some (.ref p)))
  (r1:R K (fun b=>S b/\b≠p) (fun b=>M b/\b≠p) τ1 σ H') (lk:Like (τ.set i (some (.d w.D))) τ1) (c:Chg (fun b=>M b/\b≠p) H H') (ok:τ1.all okM=true):R K S M (τ1.set i (some w.L)) σ H':=by
 have hlt:i<τ.length:=(List.getElem?_eq_some_iff.mp hi).1
 have hl1:τ1.length=τ.length:=by have:=lk.1;rw[List.length_set]at this;exact this
 have hlt1:i<τ1.length:=by omega
 have ne:∀j,j≠i->(τ1.set i (some w.L))[j]?=τ1[j]?:=fun j hj=>List.getElem?_set_ne (Ne.symm hj)
 have se:(τ1.set i (some w.L))[i]?=some (some w.L):=List.getElem?_set_self hlt1
 have ne0:∀j,j≠i->(τ.set i (some (.d w.D)))[j]?=τ[j]?:=fun j hj=>List.getElem?_set_ne (Ne.symm hj)
 obtain⟨b0,us,hb0,h2,h3,h4⟩:=r.mt i w hi
 rw[hp]at hb0;cases hb0
 have h3':H' p=some us:=c p _ (fun z=>z.2 rfl) h3
 have c':Chg M H H':=fun b o hn e=>c b o (fun z=>hn z.1) e
 have k:Keep S H S H':=c'.keep r.sub
 have ts:TSm (hid (fun b=>S b/\b≠p) H') (hid S H'):=Mh fun a z=>by
  by_cases e:a=p
  ·subst e;exact .inr ⟨_,h3',h4.ho⟩
  ·exact .inl ⟨z,e⟩
 have mm:∀(j:Nat) (ys:Ow),j≠i->τ1[j]?=some (some ys.L)->∃zs:Ow,τ[j]?=some (some zs.L):=fun j ys hj e=>by
  obtain⟨zs,q⟩:=(lk.own j).mp ⟨_,e⟩
  rw[ne0 j hj]at q
  exact⟨zs,q⟩
 have cs:∀(j:Nat) (ys:List PyData),(τ1.set i (some w.L))[j]?=some (some (.c ys))->τ[j]?=some (some (.c ys)):=fun j ys e=>by
  by_cases hj:j=i
  ·subst hj;rw[se]at e;exact absurd (Option.some.inj (Option.some.inj e)) Ow.not_c
  ·rw[ne j hj]at e
   have:=((lk.2 j).1.2 ys).mp e
   rw[ne0 j hj]at this
   exact this
 refine⟨by rw[List.length_set];exact r1.len,fun j x e=>?_,fun j ys e=>?_,fun j ys e=>let ⟨a,vs,h1,h2,h3⟩:=r.cst j ys (cs j ys e);⟨a,vs,h1,k.same.seq h2,h3.mono k.same⟩,fun j1 j2 ys zs b e1 e2 f1 f2=>?_,r.sub,fun a h=>?_,r1.gr.to (fun j d e=>?_) (fun j o b e q=>?_) (fun b hb hn=>⟨hb.1,rfl⟩) ts⟩
 ·by_cases hj:j=i
  ·subst hj;rw[se]at e;exact absurd (Option.some.inj (Option.some.inj e)) Ow.not_d
  ·rw[ne j hj]at e
   have:=((lk.2 j).1.1 x).mp e
   rw[ne0 j hj]at this
   obtain⟨v,h5,h6⟩:=r.dat j x this
   exact⟨v,h5,h6.mono k.same⟩
 ·by_cases hj:j=i
  ·subst hj
   rw[se]at e
   obtain rfl:=Qy e
   exact⟨p,us,hp,h2,h3',h4.mono k.same⟩
  ·rw[ne j hj]at e
   obtain⟨b,ws,h5,h6,h7,h8⟩:=r1.mt j ys e
   have fx:okM (some ys.L)=true:=List.all_eq_true.mp ok (some ys.L) (List.mem_of_getElem? e)
   exact⟨b,ws,h5,h6.1,h7,h8.monoT ts fx⟩
 ·have g:∀(j:Nat) (ys:Ow),(τ1.set i (some w.L))[j]?=some (some ys.L)->∃zs:Ow,τ[j]?=some (some zs.L):=fun j ys e=>by
   by_cases hj:j=i
   ·subst hj;exact⟨_,hi⟩
   ·rw[ne j hj]at e;exact mm j ys hj e
  obtain⟨_,g1⟩:=g j1 ys e1
  obtain⟨_,g2⟩:=g j2 zs e2
  exact r.inj _ _ _ _ b g1 g2 f1 f2
 ·by_cases e:a=p
  ·subst e;exact⟨_,h3'⟩
  ·exact r1.ex a ⟨h,e⟩
 ·by_cases hj:j=i
  ·subst hj;rw[se]at e;exact absurd (Option.some.inj (Option.some.inj e)) Ow.not_g
  ·rw[ne j hj]at e;exact⟨e,rfl⟩
 ·by_cases hj:j=i
  ·subst hj
   rw[hp]at q;cases q
   exact .inr fun z=>z.2 rfl
  ·rw[ne j hj]at e;exact .inl ⟨o,e,q⟩
theorem Rf{τ τ1:DS}{i:Nat}{w:Ow}(hi:τ[i]?=some (some w.L))(lk:Like (τ.set i (some (.d w.D))) τ1):Like τ (τ1.set i (some w.L)):=by
 have hlt:i<τ.length:=(List.getElem?_eq_some_iff.mp hi).1
 have hl1:τ1.length=τ.length:=by have:=lk.1;rw[List.length_set]at this;exact this
 refine⟨by rw[List.length_set];exact hl1,fun j=>?_⟩
 by_cases hj:j=i
 ·subst hj
  rw[List.getElem?_set_self (by omega),hi]
  exact⟨⟨fun x=>Iff.rfl,fun x=>Iff.rfl⟩,fun b=>Iff.rfl⟩
 ·have:=lk.2 j
  rw[List.getElem?_set_ne (Ne.symm hj)]at this ⊢
  exact this
theorem SA{i:Nat}{fr:Bool}{t:TE}{f:DX}(h:E K t fr f):E K t false (Gm i f):=by
 refine⟨fun τ d τ' e=>?_,?_⟩
 ·obtain⟨xs,τ1,e1,e2,_,_,rfl⟩:=UQ e
  exact Rf e1 (h.like _ _ _ e2)
 intro S M τ σ H Q d τ' r e q
 obtain⟨xs,τ1,e1,e2,fx,ok,rfl⟩:=UQ e
 obtain⟨p,us,hp,hM,hl,ll⟩:=r.mt i xs e1
 refine h.weak.run _ _ _ σ H _ d τ1 (frz r e1 hp) e2 fun v H' r' c res=>?_
 have r2:=aD r e1 hp r' (h.like _ _ _ e2) c ok
 refine q v H' r2 (fun b o hn e=>c b o (fun z=>hn z.1) e) ?_
 have h3':H' p=some us:=c p _ (fun z=>z.2 rfl) hl
 exact Is.monoT (Mh fun a z => by
  by_cases e:a=p
  ·subst e;exact .inr ⟨_,h3',ll.ho⟩
  ·exact .inl ⟨z,e⟩) fx (show Is K (hid (fun b=>S b/\b≠p) H') d v from res)
def FF(i:Nat)(f:DX)(τ:DS):Option (PyData×DS):=match τ[i]? with
 |some (some (.m xs))=>(f (τ.set i (some (.d (.list xs))))).bind fun q=>match q.1 with
  |.list ys=>if fixDs ys&&q.2.all okM then some (q.1,q.2.set i (some (.m xs))) else none
  |_=>none
 |some (some (.k xs))=>(f (τ.set i (some (.d (.dict (Tc xs)))))).bind fun q=>match q.1 with
  |.list ys=>if fixDs ys&&q.2.all okM then some (q.1,q.2.set i (some (.k xs))) else none
  |_=>none
 |_=>none
theorem SS{i:Nat}{f:DX}{τ:DS}{d:PyData}{τ':DS}(e:FF i f τ=some (d,τ')):∃w τ1 ys,τ[i]?=some (some (Ow.L w))/\f (τ.set i (some (.d w.D)))=some (d,τ1)/\d = .list ys/\fixDs ys=true/\τ1.all okM=true/\τ'=τ1.set i (some w.L):=by
 unfold FF at e
 split at e
 ·rename_i xs hx
  obtain⟨⟨z,τ1⟩,e1,e⟩:=oB e
  dsimp only at e
  split at e
  ·split at e
   ·rename_i h
    rw[Bool.and_eq_true]at h
    cases e
    exact⟨.l xs,τ1,_,hx,e1,rfl,h.1,h.2,rfl⟩
   ·cases e
  ·cases e
 ·rename_i xs hx
  obtain⟨⟨z,τ1⟩,e1,e⟩:=oB e
  dsimp only at e
  split at e
  ·split at e
   ·rename_i h
    rw[Bool.and_eq_true]at h
    cases e
    exact⟨.t xs,τ1,_,hx,e1,rfl,h.1,h.2,rfl⟩
   ·cases e
  ·cases e
 ·cases e
theorem Ow.D_list{o:Ow}{ys:List PyData}(h:PyData.list ys=o.D):o = .l ys:=by
 cases o with
 |l xs=>cases h;rfl
 |t kvs=>cases h
theorem Pu{i:Nat}{t:TE}{f:DX}(h:E K t true f):E K t true (FF i f):=by
 refine⟨fun τ d τ' e=>?_,?_⟩
 ·obtain⟨xs,τ1,ys,e1,e2,_,_,_,rfl⟩:=SS e
  exact Rf e1 (h.like _ _ _ e2)
 intro S M τ σ H Q d τ' r e q
 obtain⟨xs,τ1,ys,e1,e2,rfl,fx,ok,rfl⟩:=SS e
 obtain⟨p,us,hp,hM,hl,ll⟩:=r.mt i xs e1
 refine h.run _ _ _ σ H _ _ τ1 (frz r e1 hp) e2 fun v H' r' c res=>?_
 have r2:=aD r e1 hp r' (h.like _ _ _ e2) c ok
 refine q v H' r2 (fun b o hn e=>c b o (fun z=>hn z.1) e) ?_
 have h3':H' p=some us:=c p _ (fun z=>z.2 rfl) hl
 obtain⟨o,a,vs,e3,rfl,h5,h6,h7⟩:=res
 obtain rfl:=Ow.D_list e3
 refine⟨.l ys,a,vs,rfl,rfl,h5,h6,IsO.monoT (Mh fun b z=>?_) fx h7⟩
 rcases z with z|z
 ·by_cases e:b=p
  ·subst e;exact .inr ⟨_,h3',ll.ho⟩
  ·exact .inl (.inl ⟨z,e⟩)
 ·exact .inl (.inr z)
end DL
end
section
namespace DL
open PySem L2
variable {K:KW}
def jN(K:KW)(S:Addr->Prop)(J:It)(H:Hp)(ds:List PyData):Prop:=∀(S2:Addr->Prop) (H2:Hp),Keep S H S2 H2->(∀(i:Nat) (d:PyData),ds[i]?=some d->J.go i H2/\∀x H3,J.yld i H2 x H3->H3=H2/\Is K (hid S2 H2) d x)/\∀i,ds.length<=i->J.stop i H2
abbrev DI:=DS->Option (List PyData×DS)
structure IT(K:KW)(wi:TI)(f:DI):Prop where
 like:∀τ ds τ',f τ=some (ds,τ')->Like τ τ'
 run:∀S M τ σ H (Q:It->Hp->Prop) ds τ',R K S M τ σ H->f τ=some (ds,τ')->(∀J H',R K S M τ' σ H'->Chg M H H'->jN K S J H' ds->Q J H')->wi σ H Q
def dIL(f:DX)(τ:DS):Option (List PyData×DS):=(f τ).bind fun p=>match p.1 with
 |.list ds=>some (ds,p.2)
 |_=>none
def dIT(f:DX)(τ:DS):Option (List PyData×DS):=(f τ).bind fun p=>match p.1 with
 |.tuple ds=>some (ds,p.2)
 |_=>none
theorem EF{fr:Bool}{t:TE}{f:DX}(h:E K t fr f):IT K (Ym K t) (dIL f):=by
 refine⟨fun τ d τ' e=>?_,?_⟩
 ·unfold dIL at e
  obtain⟨⟨x,τ1⟩,e1,e⟩:=oB e
  dsimp only at e
  split at e
  ·cases e;exact h.like _ _ _ e1
  ·cases e
 intro S M τ σ H Q ds τ' r e q
 unfold dIL at e
 obtain⟨⟨x,τ1⟩,e1,e⟩:=oB e
 dsimp only at e
 split at e
 ·cases e
  refine h.weak.run S M τ σ H _ _ _ r e1 fun v H1 r1 c1 i1=>?_
  have i1':Is K (hid S H1) (.list ds) v:=i1
  obtain⟨a,vs,rfl,hl,ll⟩:=i1'
  refine⟨a,rfl,⟨vs,SqL.of (hid_iff.mp hl).2⟩,q _ H1 r1 c1 fun S2 H2 k=>?_⟩
  have hl2:=k.same _ _ hl
  have ll2:=ll.mono k.same
  refine⟨fun i d e=>?_,fun i hi=>⟨vs,SqL.of (hid_iff.mp hl2).2,by rw[ll.length];exact hi⟩⟩
  obtain⟨u,h1,h2⟩:=ll2.get e
  refine⟨⟨vs,u,SqL.of (hid_iff.mp hl2).2,h1⟩,fun x H3 y=>⟨y.1,?_⟩⟩
  have:=y.2 vs (SqL.of (hid_iff.mp hl2).2)
  rw[h1]at this;cases this
  exact h2
 ·cases e
theorem Xf{fr:Bool}{t:TE}{f:DX}(h:E K t fr f):IT K (iY K t) (dIT f):=by
 refine⟨fun τ d τ' e=>?_,?_⟩
 ·unfold dIT at e
  obtain⟨⟨x,τ1⟩,e1,e⟩:=oB e
  dsimp only at e
  split at e
  ·cases e;exact h.like _ _ _ e1
  ·cases e
 intro S M τ σ H Q ds τ' r e q
 unfold dIT at e
 obtain⟨⟨x,τ1⟩,e1,e⟩:=oB e
 dsimp only at e
 split at e
 ·cases e
  refine h.weak.run S M τ σ H _ _ _ r e1 fun v H1 r1 c1 i1=>?_
  have i1':Is K (hid S H1) (.tuple ds) v:=i1
  obtain⟨a,vs,rfl,hl,ll⟩:=i1'
  refine⟨a,rfl,⟨vs,Same.tup same_hid hl⟩,q _ H1 r1 c1 fun S2 H2 k=>?_⟩
  have hl2:=Same.tup same_hid (Same.tup k.same hl)
  have ll2:=ll.mono k.same
  refine⟨fun i d e=>?_,fun i hi=>⟨vs,hl2,by rw[ll.length];exact hi⟩⟩
  obtain⟨u,h1,h2⟩:=ll2.get e
  refine⟨⟨vs,u,hl2,h1⟩,fun x H3 y=>⟨y.1,?_⟩⟩
  have:=y.2 vs hl2
  rw[h1]at this;cases this
  exact h2
 ·cases e
def Lm(lo:Int)(n:Nat):List PyData:=(List.range n).map fun(k:Nat)=>PyData.int (lo+(k:Int))
theorem aR{S:Addr->Prop}{H:Hp}{lo:Int}{n:Nat}:jN K S (Itr lo n) H (Lm lo n):=by
 intro S2 H2 k
 refine⟨fun i d e=>?_,fun i hi=>?_⟩
 ·unfold Lm at e
  rw[List.getElem?_map]at e
  by_cases hi:i<n
  ·rw[List.getElem?_range hi]at e
   cases e
   exact⟨hi,fun x H3 y=>⟨y.1,y.2⟩⟩
  ·rw[List.getElem?_eq_none (by simpa using hi)]at e
   cases e
 ·unfold Lm at hi
  rw[List.length_map,List.length_range]at hi
  exact hi
def dR1(a:DA)(τ:DS):Option (List PyData×DS):=(a τ).bind fun p=>(Cv p.1).bind fun ds=>match ds with
 |[.int j]=>if -(2 ^ 62)<=j/\j<2 ^ 62 then some (Lm 0 j.toNat,p.2) else none
 |_=>none
def dR2(a:DA)(τ:DS):Option (List PyData×DS):=(a τ).bind fun p=>(Cv p.1).bind fun ds=>match ds with
 |[.int i,.int j]=>if -(2 ^ 62)<=i/\i<2 ^ 62/\-(2 ^ 62)<=j/\j<2 ^ 62 then some (Lm i (j-i).toNat,p.2) else none
 |_=>none
theorem HZ{t:TA}{a:DA}(ha:A K t a):IT K (fB t) (dR1 a):=by
 refine⟨fun τ d τ' e=>?_,?_⟩
 ·unfold dR1 at e
  obtain⟨⟨x,τ1⟩,e1,e⟩:=oB e
  obtain⟨ds,e2,e⟩:=oB e
  split at e
  ·split at e
   ·cases e;exact ha.like _ _ _ e1
   ·cases e
  ·cases e
 intro S M τ σ H Q ds τ' r e q
 unfold dR1 at e
 obtain⟨⟨x,τ1⟩,e1,e⟩:=oB e
 obtain⟨ds',e2,e⟩:=oB e
 split at e
 ·split at e
  ·rename_i j hj
   cases e
   refine ha.run S M τ σ H _ x _ r e1 fun vs H1 r1 c1 i1=>?_
   obtain⟨v,us,rfl,iv,iu⟩:=Hz i1 e2
   cases (show us=[] from iu)
   exact⟨j,by rw[show v = .int j from iv],hj.1,hj.2,q _ H1 r1 c1 aR⟩
  ·cases e
 ·cases e
abbrev DG:=PyData->DS->Option DS
def MSame(τ τ':DS):Prop:=τ'.length=τ.length/\∀(j:Nat) (o:Ow),τ'[j]?=some (some o.L)↔τ[j]?=some (some o.L)
theorem MSame.refl{τ:DS}:MSame τ τ:=⟨rfl,fun _ _=>Iff.rfl⟩
theorem MSame.trans{τ τ1 τ2:DS}(a:MSame τ τ1)(b:MSame τ1 τ2):MSame τ τ2:=⟨b.1.trans a.1,fun j xs=>(b.2 j xs).trans (a.2 j xs)⟩
structure TG1 K (g:TG) (f:DG):Prop where
 ms:∀d τ τ',f d τ=some τ'->MSame τ τ'
 run:∀S M τ σ H v d τ' (Q:St->Hp->Prop),R K S M τ σ H->Is K (hid S H) d v->f d τ=some τ'->(∀σ',R K S M τ' σ' H->(∀(j:Nat) (o:Ow),τ[j]?=some (some o.L)->σ'[j]?=σ[j]?)->Q σ' H)->g v σ H Q
structure TG2 K (g:TGs) (f:List PyData->DS->Option DS):Prop where
 ms:∀d τ τ',f d τ=some τ'->MSame τ τ'
 run:∀S M τ σ H vs ds τ' (Q:St->Hp->Prop),R K S M τ σ H->IsL K (hid S H) ds vs->f ds τ=some τ'->(∀σ',R K S M τ' σ' H->(∀(j:Nat) (o:Ow),τ[j]?=some (some o.L)->σ'[j]?=σ[j]?)->Q σ' H)->g vs σ H Q
def dN(i:Nat)(d:PyData)(τ:DS):Option DS:=match τ[i]? with
 |some (some (.m _))=>none
 |some (some (.k _))=>none
 |some _=>some (τ.set i (some (.d d)))
 |none=>none
theorem Yw{i:Nat}{d:PyData}{τ τ':DS}(e:dN i d τ=some τ'):i<τ.length/\(∀o:Ow,τ[i]?≠some (some o.L))/\τ'=τ.set i (some (.d d)):=by
 unfold dN at e
 split at e
 ·cases e
 ·cases e
 ·rename_i o hn hk ho
  cases e
  refine⟨(List.getElem?_eq_some_iff.mp ho).1,fun xs z=>?_,rfl⟩
  rw[ho]at z
  cases xs with
  |l xs=>exact hn xs (Option.some.inj z)
  |t xs=>exact hk xs (Option.some.inj z)
 ·cases e
theorem R.setD{S M:Addr->Prop}{τ:DS}{σ:St}{H:Hp}(r:R K S M τ σ H){i:Nat}{d:PyData}{v:V}(hi:i<τ.length)(hm:∀o:Ow,τ[i]?≠some (some o.L))(iv:Is K (hid S H) d v):R K S M (τ.set i (some (.d d))) (σ.set i (some v)) H:=by
 have hs:i<σ.length:=by rw[r.len];exact hi
 have ne:∀j,j≠i->(τ.set i (some (.d d)))[j]?=τ[j]?:=fun j hj=>List.getElem?_set_ne (Ne.symm hj)
 have ne':∀j,j≠i->(σ.set i (some v))[j]?=σ[j]?:=fun j hj=>List.getElem?_set_ne (Ne.symm hj)
 have mn:∀(j:Nat) (ys:Ow),(τ.set i (some (.d d)))[j]?=some (some ys.L)->j≠i/\τ[j]?=some (some ys.L):=fun j ys e=>by
  by_cases hj:j=i
  ·subst hj;rw[List.getElem?_set_self hi]at e;exact absurd (Option.some.inj (Option.some.inj e)).symm Ow.not_d
  ·rw[ne j hj]at e;exact⟨hj,e⟩
 refine⟨by rw[List.length_set,List.length_set];exact r.len,fun j x e=>?_,fun j xs e=>?_,fun j xs e=>?_,fun j1 j2 ys zs b e1 e2 f1 f2=>?_,r.sub,r.ex,r.gr.to (fun j x e=>?_) (fun j o b e q=>.inl ⟨o,(mn j o e).2,by rw[ne' j (mn j o e).1]at q;exact q⟩) (fun b hb hn=>⟨hb,rfl⟩) .refl⟩
 ·by_cases hj:j=i
  ·subst hj
   rw[List.getElem?_set_self hi]at e
   cases e
   exact⟨v,List.getElem?_set_self hs,iv⟩
  ·rw[ne j hj]at e
   rw[ne' j hj]
   exact r.dat j x e
 ·obtain⟨hj,e⟩:=mn j xs e
  rw[ne' j hj]
  exact r.mt j xs e
 ·by_cases hj:j=i
  ·subst hj;rw[List.getElem?_set_self hi]at e;cases e
  ·rw[ne j hj]at e
   rw[ne' j hj]
   exact r.cst j xs e
 ·obtain⟨h1,e1⟩:=mn j1 ys e1
  obtain⟨h2,e2⟩:=mn j2 zs e2
  rw[ne' _ h1]at f1
  rw[ne' _ h2]at f2
  exact r.inj _ _ _ _ b e1 e2 f1 f2
 ·by_cases hj:j=i
  ·subst hj;rw[List.getElem?_set_self hi]at e;cases e
  ·rw[ne j hj]at e;exact⟨e,ne' j hj⟩
theorem dE{τ:DS}{i:Nat}{d:PyData}(hi:i<τ.length)(hm:∀o:Ow,τ[i]?≠some (some o.L)):MSame τ (τ.set i (some (.d d))):=by
 refine⟨by rw[List.length_set],fun j xs=>?_⟩
 by_cases hj:j=i
 ·subst hj
  rw[List.getElem?_set_self hi]
  exact⟨fun z=>absurd (Option.some.inj (Option.some.inj z)).symm Ow.not_d,fun z=>absurd z (hm xs)⟩
 ·rw[List.getElem?_set_ne (Ne.symm hj)]
theorem AX{i:Nat}:TG1 K (NT i) (dN i):=by
 refine⟨fun d τ τ' e=>?_,?_⟩
 ·obtain⟨h1,h2,rfl⟩:=Yw e
  exact dE h1 h2
 intro S M τ σ H v d τ' Q r iv e q
 obtain⟨h1,h2,rfl⟩:=Yw e
 refine q _ (r.setD h1 h2 iv) fun j xs ej=>?_
 have:j≠i:=fun z=>h2 xs (by rw[<- z];exact ej)
 exact List.getElem?_set_ne (Ne.symm this)
def Cy:List PyData->DS->Option DS
 |[],τ=>some τ
 |_::_,_=>none
def BE(f:DG)(g:List PyData->DS->Option DS):List PyData->DS->Option DS
 |d::ds,τ=>(f d τ).bind fun τ1=>g ds τ1
 |[],_=>none
theorem Ey:TG2 K ig Cy:=by
 refine⟨fun d τ τ' e=>?_,?_⟩
 ·cases d with
  |nil=>cases e;exact .refl
  |cons _ _=>cases e
 intro S M τ σ H vs ds τ' Q r iv e q
 cases ds with
 |nil=>cases e;exact⟨iv,q σ r fun _ _ _=>rfl⟩
 |cons _ _=>cases e
theorem Bb{t:TG}{u:TGs}{f:DG}{g:List PyData->DS->Option DS}(h1:TG1 K t f)(h2:TG2 K u g):TG2 K (fE t u) (BE f g):=by
 refine⟨fun d τ τ' e=>?_,?_⟩
 ·cases d with
  |nil=>cases e
  |cons d ds =>
   obtain⟨τ1,e1,e⟩:=oB e
   exact(h1.ms _ _ _ e1).trans (h2.ms _ _ _ e)
 intro S M τ σ H vs ds τ' Q r iv e q
 cases ds with
 |nil=>cases e
 |cons d ds =>
  obtain⟨τ1,e1,e⟩:=oB e
  obtain⟨v,us,rfl,iv,iu⟩:=iv
  refine⟨v,us,rfl,h1.run S M τ σ H v d τ1 _ r iv e1 fun σ1 r1 k1=>?_⟩
  refine h2.run S M τ1 σ1 H us ds τ' _ r1 iu e fun σ2 r2 k2=>?_
  refine q σ2 r2 fun j xs hj=>?_
  rw[k2 j xs (((h1.ms _ _ _ e1).2 j xs).mpr hj),k1 j xs hj]
def dGT(g:List PyData->DS->Option DS)(d:PyData)(τ:DS):Option DS:=match d with
 |.tuple ds=>g ds τ
 |_=>none
theorem Gq{n:Nat}{u:TGs}{g:List PyData->DS->Option DS}(h:TG2 K u g)(hn:∀ds τ τ',g ds τ=some τ'->ds.length=n):TG1 K (ic K n u) (dGT g):=by
 refine⟨fun d τ τ' e=>?_,?_⟩
 ·unfold dGT at e
  split at e
  ·exact h.ms _ _ _ e
  ·cases e
 intro S M τ σ H v d τ' Q r iv e q
 unfold dGT at e
 split at e
 ·obtain⟨a,vs,rfl,hl,ll⟩:=iv
  exact⟨a,vs,rfl,Same.tup same_hid hl,by rw[ll.length];exact hn _ _ _ e,h.run S M τ σ H vs _ τ' Q r ll e q⟩
 ·cases e
theorem Dh:∀(ds:List PyData) (τ τ':DS),Cy ds τ=some τ'->ds.length=0
 |[],_,_,_=>rfl
 |_::_,_,_,e=>by cases e
theorem BK{n:Nat}{f:DG}{g:List PyData->DS->Option DS}(h:∀ds τ τ',g ds τ=some τ'->ds.length=n):∀(ds:List PyData) (τ τ':DS),BE f g ds τ=some τ'->ds.length=n+1
 |[],_,_,e=>by cases e
 |d::ds,τ,τ',e=>by
  obtain⟨τ1,e1,e⟩:=oB e
  rw[List.length_cons,h _ _ _ e]
def HY(g:DG)(c:DT)(e:DX):List PyData->List PyData->DS->Option (List PyData×DS)
 |[],acc,τ=>some (acc,τ)
 |d::ds,acc,τ=>(g d τ).bind fun τ1=>(c τ1).bind fun p=>if p.1=true then (e p.2).bind fun q=>HY g c e ds (acc++[q.1]) q.2 else HY g c e ds acc p.2
def noG:Option L->Option L
 |some (.g _)=>none
 |o=>o
def Tq(own:Nat)(fr:List Nat)(τ:DS):DS:=List.replicate own none++fr.map fun j=>noG (τ[j]?).join
theorem WB{o:Option L}{l:L}(h:noG o=some l):o=some l/\∀x,l≠.g x:=by
 unfold noG at h
 split at h
 ·cases h
 ·rename_i hn
  exact⟨h,fun x z=>hn x (by rw[h,z])⟩
def isM(τ:DS)(j:Nat):Bool:=match τ[j]? with
 |some (some (.m _))=>true
 |some (some (.k _))=>true
 |_=>false
theorem isM_iff{τ:DS}{j:Nat}:isM τ j=true↔∃o:Ow,τ[j]?=some (some o.L):=by
 unfold isM
 split
 ·rename_i xs h;exact⟨fun _=>⟨.l xs,h⟩,fun _=>rfl⟩
 ·rename_i xs h;exact⟨fun _=>⟨.t xs,h⟩,fun _=>rfl⟩
 ·rename_i h1 h2
  exact ⟨fun z => (nomatch z), fun ⟨o, z⟩ => by
   cases o with
   |l xs=>exact absurd z (h1 xs)
   |t xs=>exact absurd z (h2 xs)⟩
def dLC(own:Nat)(fr:List Nat)(it:DI)(g:DG)(c:DT)(e:DX)(τ:DS):Option (PyData×DS):=(it τ).bind fun p=>if p.1.length<=sizeLine/\(fr.all fun j=>!isM p.2 j)=true then (HY g c e p.1 [] (Tq own fr p.2)).map fun q=>(.list q.1,p.2) else none
theorem Ov{own:Nat}{fr:List Nat}{τ:DS}{i:Nat}{l:L}(h:(Tq own fr τ)[i]?=some (some l)):∃k j,i=own+k/\fr[k]?=some j/\τ[j]?=some (some l):=by
 unfold Tq at h
 by_cases hi:i<own
 ·rw[List.getElem?_append_left (by simpa using hi),List.getElem?_replicate,if_pos hi]at h
  cases h
 ·rw[List.getElem?_append_right (by simpa using hi),List.length_replicate,List.getElem?_map]at h
  cases e:fr[i-own]? with
  |none=>rw[e]at h;cases h
  |some j =>
   rw[e]at h
   simp only[Option.map_some,Option.some.injEq]at h
   refine⟨i-own,j,by omega,e,?_⟩
   replace h:=(WB h).1
   cases q:τ[j]? with
   |none=>rw[q]at h;cases h
   |some o=>rw[q]at h;cases o with
    |none=>cases h
    |some u=>cases h;rfl
theorem gd{own:Nat}{fr:List Nat}{τ:DS}(i:Nat)(d:PyData):(Tq own fr τ)[i]?≠some (some (.g d)):=fun h=>by
 unfold Tq at h
 by_cases hi:i<own
 ·rw[List.getElem?_append_left (by simpa using hi),List.getElem?_replicate,if_pos hi]at h
  cases h
 ·rw[List.getElem?_append_right (by simpa using hi),List.length_replicate,List.getElem?_map]at h
  cases e:fr[i-own]? with
  |none=>rw[e]at h;cases h
  |some j =>
   rw[e]at h
   simp only[Option.map_some,Option.some.injEq]at h
   exact(WB h).2 d rfl
theorem cI{own:Nat}{fr:List Nat}{σ:St}{k j:Nat}{v:V}(e:fr[k]?=some j)(h:σ[j]?=some (some v)):(blk own fr σ)[own+k]?=some (some v):=by
 unfold blk
 rw[List.getElem?_append_right (by simp),List.length_replicate,List.getElem?_map,show own+k-own=k by omega,e]
 show some (σ[j]?).join=_
 rw[h];rfl
theorem WX{H:Hp}{xs:List PyData}{vs:List V}{d:PyData}{v:V}(l:IsL K H xs vs)(i:Is K H d v):IsL K H (xs++[d]) (vs++[v]):=Jd l ⟨v,[],rfl,i,rfl⟩
theorem MW{own:Nat}{fr:List Nat}{wi:TI}{it:DI}{tg:TG}{g:DG}{tc:TT}{c:DT}{te:TE}{e:DX}{fe:Bool}(hi:IT K wi it)(hg:TG1 K tg g)(hc:T K tc c)(he:E K te fe e):E K (tLC own fr wi tg tc te) true (dLC own fr it g c e):=by
 refine⟨fun τ d τ' e=>?_,?_⟩
 ·unfold dLC at e
  obtain⟨⟨x,τ1⟩,e1,e⟩:=oB e
  split at e
  ·obtain⟨z,e3,e⟩:=oM e
   cases e;exact hi.like _ _ _ e1
  ·cases e
 intro S M τ σ H Q d τ' r ee q
 unfold dLC at ee
 obtain⟨⟨ds,τ1⟩,e1,ee⟩:=oB ee
 split at ee
 ·rename_i hz
  obtain⟨hz,hnm⟩:=hz
  have hz:ds.length<=sizeLine:=hz
  obtain⟨⟨acc,τb⟩,e3,ee⟩:=oM ee
  obtain⟨rfl,rfl⟩:d = .list acc/\τ'=τ1:=by cases ee;exact⟨rfl,rfl⟩
  refine hi.run S M τ σ H _ ds _ r e1 fun J H1 r1 c1 iJ=>?_
  intro D hD
  -- nothing of the def may be changed in the block
  refine⟨fun i m ys σ' H'=>∃τb' acc',R K (fun b=>S b\/b=D) (fun _=>False) τb' σ' H'/\Keep S H1 (fun b=>S b\/b=D) H'/\Chg (fun b=>b=D) H1 H'/\IsL K (hid (fun b=>S b\/b=D) H') acc' ys/\H' D=some (.lst ys)/\ys.length<=i/\i<=ds.length/\m=ds.length-i/\HY g c e (ds.drop i) acc' τb'=some (acc,τb),?_,?_⟩
  ·have s:=CA hD (HO.lst [])
   have k:Keep S H1 (fun b=>S b\/b=D) (upd H1 D (.lst [])):=fun b o hn e=>by
    have:=B6 e hD
    exact⟨fun z=>z.elim hn this,s b o e⟩
   refine⟨ds.length,Tq own fr τ',[],⟨?_,?_,?_,?_,?_,fun a h=>h.elim,?_,GR.nil gd⟩,k,.of s,rfl,Bk,Nat.le_refl _,Nat.zero_le _,by simp,by simpa using e3⟩
   ·unfold blk Tq;simp
   ·intro i x e
    obtain⟨kk,j,rfl,ej,et⟩:=Ov e
    obtain⟨v,h1,h2⟩:=r1.dat j x et
    exact⟨v,cI ej h1,h2.mono k.same⟩
   ·intro i xs e
    obtain⟨kk,j,rfl,ej,et⟩:=Ov e
    have:=List.all_eq_true.mp hnm j (List.mem_of_getElem? ej)
    rw[isM_iff.mpr ⟨xs,et⟩]at this
    cases this
   ·intro i x e
    obtain⟨kk,j,rfl,ej,et⟩:=Ov e
    obtain⟨a,vs,h1,h2,h3⟩:=r1.cst j x et
    exact⟨a,vs,cI ej h1,k.same.seq h2,h3.mono k.same⟩
   ·intro i j xs ys a e
    obtain⟨kk,j',rfl,ej,et⟩:=Ov e
    have:=List.all_eq_true.mp hnm j' (List.mem_of_getElem? ej)
    rw[isM_iff.mpr ⟨xs,et⟩]at this
    cases this
   ·rintro a (h|rfl)
    ·obtain⟨o,e⟩:=r1.ex a h
     exact⟨o,s _ _ e⟩
    ·exact⟨_,Bk⟩
  ·rintro i m ys σ' H' ⟨τb',acc',rb,k,ch,la,hHD,hyl,hil,rfl,hl⟩
   obtain⟨I1,I2⟩:=iJ _ _ k
   by_cases hlt:i<ds.length
   ·right
    have ed:ds[i]?=some ds[i]:=List.getElem?_eq_getElem hlt
    obtain⟨go,yl⟩:=I1 i _ ed
    refine⟨go,fun x H2 y=>?_⟩
    obtain⟨rfl,ix⟩:=yl x H2 y
    rw[List.drop_eq_getElem_cons hlt,HY]at hl
    obtain⟨τ2,e2,hl⟩:=oB hl
    obtain⟨⟨b,τ3⟩,e4,hl⟩:=oB hl
    refine hg.run _ _ τb' σ' H2 x _ τ2 _ rb ix e2 fun σ3 r3 k3=>?_
    refine hc.run _ _ τ2 σ3 H2 _ b τ3 r3 e4 fun H4 r4 c4=>?_
    have s4:Same H2 H4:=fun b o e=>c4 b o (fun z=>z) e
    cases b with
    |false =>
     rw[if_neg Bool.false_ne_true]
     exact⟨ds.length-(i+1),by omega,τ3,acc',r4,k.trans (Same.keep s4),ch.trans (.of s4),la.mono (Same.keep s4).same,s4 _ _ hHD,by omega,hlt,rfl,hl⟩
    |true =>
     rw[if_pos rfl]
     rw[if_pos rfl]at hl
     obtain⟨⟨z,τ5⟩,e5,hl⟩:=oB hl
     refine he.weak.run _ _ τ3 σ3 H4 _ z τ5 r4 e5 fun v H5 r5 c5 i5=>?_
     have s5:Same H2 H5:=s4.trans fun b o e=>c5 b o (fun z=>z) e
     have hD5:=s5 _ _ hHD
     refine⟨hD5,by omega,ds.length-(i+1),by omega,τ5,acc'++[z],?_,?_,?_,?_,Bk,by rw[List.length_append,List.length_singleton];omega,hlt,rfl,hl⟩
     ·have kk:Keep (fun b=>S b\/b=D) H5 (fun b=>S b\/b=D) (upd H5 D (.lst (ys++[v]))):=fun b o hn e=>⟨hn,by rw[CI (fun z=>hn (.inr z))];exact e⟩
      refine⟨r5.len,fun j x e=>let ⟨u,a,b⟩:=r5.dat j x e;⟨u,a,b.mono kk.same⟩,fun j xs e=>let ⟨_,_,_,h,_⟩:=r5.mt j xs e;h.elim,fun j xs e=>let ⟨a,vs,h1,h2,h3⟩:=r5.cst j xs e;⟨a,vs,h1,kk.same.seq h2,h3.mono kk.same⟩,r5.inj,fun _ h=>h.elim,fun a h=>?_,r5.gr.to (fun i d e=>⟨e,rfl⟩) (fun j o a e q=>.inl ⟨o,e,q⟩) (fun a h _=>h.elim) (tsS kk.same)⟩
      by_cases e:a=D
      ·subst e;exact⟨_,Bk⟩
      ·obtain⟨o,q⟩:=r5.ex a h
       exact⟨o,by rw[CI e];exact q⟩
     ·refine k.trans fun b o hn e=>⟨hn,?_⟩
      rw[CI (fun z=>hn (.inr z))]
      exact s5 _ _ e
     ·refine ch.trans fun b o hn e=>?_
      rw[CI hn]
      exact s5 _ _ e
     ·refine(WX (la.mono (Same.keep s5).same) i5).mono (Keep.same fun b o hn e=>⟨hn,?_⟩)
      rw[CI (fun z=>hn (.inr z))]
      exact e
   ·left
    have e:i=ds.length:=by omega
    subst e
    rw[List.drop_length,HY]at hl
    cases hl
    refine⟨I2 _ (Nat.le_refl _),?_⟩
    have s:Same H1 H':=fun b o e=>ch b o (B6 e hD) e
    refine q _ H' (r1.same s) (c1.trans (.of s)) ⟨.l acc,D,_,rfl,rfl,r1.none c1 hD,hHD,ys,rfl,la⟩
 ·cases ee
end DL
end
section
namespace DL
open PySem L2
variable {K:KW}
end DL
end
section
namespace DL
open PySem L2
variable {K:KW}
def E3(i:Nat)(f:DX)(τ:DS):Option (PyData×DS):=(f τ).bind fun p=>match p.2[i]?,p.1 with
 |some (some (.c xs)),.int k=>(atI xs k).map fun d=>(d,p.2)
 |_,_=>none
theorem ip{i:Nat}{fr:Bool}{tb:TE}{f:DX}(h:E K tb fr f):E K (tOp (fo K) (J9 i) tb) false (E3 i f):=by
 refine⟨fun τ d τ' e=>?_,?_⟩
 ·unfold E3 at e
  obtain⟨⟨x,τ1⟩,e1,e⟩:=oB e
  dsimp only at e
  split at e
  ·obtain⟨z,e3,e⟩:=oM e
   cases e;exact h.like _ _ _ e1
  ·cases e
 intro S M τ σ H Q d τ' r e q
 unfold E3 at e
 obtain⟨⟨x,τ1⟩,e1,e⟩:=oB e
 dsimp only at e
 split at e
 ·rename_i xs k hx
  obtain⟨z,e3,e⟩:=oM e
  cases e
  obtain⟨a,vs,ha,_⟩:=r.cst i xs ((((h.like _ _ _ e1).2 i).1.2 xs).mp hx)
  refine⟨.ref a,ha,h.weak.run S M τ σ H _ _ _ r e1 fun v H1 r1 c1 i1=>?_⟩
  obtain⟨a',vs',ha',h2,h3⟩:=r1.cst i xs hx
  rw[ha]at ha';cases ha'
  obtain⟨u,h4,h5⟩:=Xh h3 e3
  exact⟨a,vs',k,u,rfl,i1,same_hid.seq h2,h4,q u H1 r1 c1 h5⟩
 ·cases e
def Cm(i:Nat)(τ:DS):Option (PyData×DS):=match τ[i]? with
 |some (some (.c xs))=>some (.int xs.length,τ)
 |_=>none
theorem gR{i:Nat}:E K (tCB (fun xs H Q=>∃x n,xs=[x]/\gw K x H n/\Q (.int n) H) (Gn (J9 i) Mr)) false (Cm i):=by
 refine⟨fun τ d τ' e=>?_,?_⟩
 ·unfold Cm at e
  split at e
  ·cases e;exact .refl
  ·cases e
 intro S M τ σ H Q d τ' r e q
 unfold Cm at e
 split at e
 ·rename_i xs hx
  cases e
  obtain⟨a,vs,ha,h2,h3⟩:=r.cst i xs hx
  refine⟨.ref a,ha,.ref a,vs.length,rfl,.inl ⟨vs,same_hid.seq h2,rfl⟩,?_⟩
  exact q _ H r .refl (by rw[h3.length];rfl)
 ·cases e
def Bj(i:Nat)(G:List L->Option (PyData×List L))(a:DA)(τ:DS):Option (PyData×DS):=(a τ).bind fun p=>(Cv p.1).bind fun ds=>match p.2[i]? with
 |some (some (.c xs))=>(G (.c xs::ds.map L.d)).map fun q=>(q.1,p.2)
 |_=>none
theorem Q7{i:Nat}{fr:Bool}{G:List L->Option (PyData×List L)}{t:TA}{a:DA}{X:XK}(ha:A K t a):E K (P2 (spD K G fr) [] X (Gn (J9 i) t)) fr (Bj i G a):=by
 refine⟨fun τ d τ' e=>?_,?_⟩
 ·unfold Bj at e
  obtain⟨⟨x,τ1⟩,e1,e⟩:=oB e
  obtain⟨ds,e2,e⟩:=oB e
  dsimp only at e
  split at e
  ·obtain⟨z,e3,e⟩:=oM e
   cases e;exact ha.like _ _ _ e1
  ·cases e
 intro S M τ σ H Q d τ' rr e q
 unfold Bj at e
 obtain⟨⟨x,τ1⟩,e1,e⟩:=oB e
 obtain⟨ds,e2,e⟩:=oB e
 dsimp only at e
 split at e
 ·rename_i xs hx
  obtain⟨⟨z,ls'⟩,e3,e⟩:=oM e
  cases e
  obtain⟨p,us,hp,_⟩:=rr.cst i xs ((((ha.like _ _ _ e1).2 i).1.2 xs).mp hx)
  refine⟨.ref p,hp,ha.run S M τ σ H _ x _ rr e1 fun vs H1 r1 c1 i1=>?_⟩
  have l:=Hz i1 e2
  obtain⟨p',us',hp',h2,h3⟩:=r1.cst i xs hx
  rw[hp]at hp';cases hp'
  show spD K G fr ((.ref p::vs)++[]) H1 Q X
  rw[List.append_nil]
  have ra:=aT r1 l
  refine⟨S,fun _=>False,.c xs::ds.map L.d,_,ls',⟨?_,?_,?_,?_,?_,fun _ h=>h.elim,r1.ex,GR.nil ?_⟩,e3,fun v H' _ c res=>?_⟩
  ·have:=ra.len
   simp only[List.length_map,List.map_cons,List.length_cons]at this ⊢
   omega
  ·intro j x e
   cases j with
   |zero=>cases e
   |succ j=>exact ra.dat j x (by simpa using e)
  ·intro j ys e
   cases j with
   |zero=>exact absurd (Option.some.inj (Option.some.inj e)).symm Ow.not_c
   |succ j=>obtain⟨_,_,_,h,_⟩:=ra.mt j ys (by simpa using e);exact h.elim
  ·intro j ys e
   cases j with
   |zero=>cases e;exact⟨p,us',rfl,h2,h3⟩
   |succ j=>exact ra.cst j ys (by simpa using e)
  ·intro j k ys ws b e1 e2 _ _
   cases j with
   |zero=>exact absurd (Option.some.inj (Option.some.inj e1)).symm Ow.not_c
   |succ j=>obtain⟨_,_,_,h,_⟩:=ra.mt j ys (by simpa using e1);exact h.elim
  ·intro j x e
   cases j with
   |zero=>cases e
   |succ j =>
    rw[List.map_cons,List.getElem?_cons_succ,List.getElem?_map,List.getElem?_map]at e
    cases q:ds[j]? with
    |none=>rw[q]at e;cases e
    |some d=>rw[q]at e;cases e
  ·have s:Same H1 H':=fun b o e=>c b o (fun z=>z) e
   exact q v H' (r1.same s) (c1.trans (.of s)) (res.back r1 c1)
 ·cases e
section
variable {F:Frm} {S M:Addr->Prop} {τ τ':DS} {σ:St} {H H':Hp}
theorem RF.step(f:RF K F S M τ σ H)(r':R K S M τ' σ H')(c:Chg M H H')(lk:Like τ τ'):RF K F S M τ' σ H' where
 r:=r'
 sS:=f.sS
 old:=fun b o e n=>c b o (fun z=>(f.new b z).elim n fun q=>by rw[q]at e;cases e) (f.old b o e n)
 new:=f.new
 fm:=f.fm
 fs:=f.fs
 fsub:=f.fsub
 snew:=f.snew
 par:=f.par
 pm:=fun i v e=>let ⟨xs,h⟩:=f.pm i v e;(lk.own i).mpr ⟨xs,h⟩
 fma:=f.fma
theorem RF.stay(f:RF K F S M τ σ H){σ':St}(r':R K S M τ' σ' H)(ms:MSame τ τ')(k:∀(j:Nat) (o:Ow),τ[j]?=some (some o.L)->σ'[j]?=σ[j]?):RF K F S M τ' σ' H where
 r:=r'
 sS:=f.sS
 old:=f.old
 new:=f.new
 fm:=f.fm
 fs:=f.fs
 fsub:=f.fsub
 snew:=f.snew
 par:=fun i v e=>by
  obtain⟨xs,h⟩:=f.pm i v e
  rw[k i xs h]
  exact f.par i v e
 pm:=fun i v e=>let ⟨xs,h⟩:=f.pm i v e;⟨xs,(ms.2 i xs).mpr h⟩
 fma:=f.fma
theorem RF.hnone(f:RF K F S M τ σ H){a:Addr}(h:H a=none):F.H a=none:=by
 cases e:F.H a with
 |none=>rfl
 |some o =>
  exfalso
  by_cases hm:F.M a
  ·obtain⟨o',e'⟩:=f.r.ex a (f.sS a (f.fsub a hm))
   rw[h]at e';cases e'
  ·have:=f.old a o e hm
   rw[h]at this;cases this
theorem RF.res(f:RF K F S M τ σ H){fr:Bool}{d:PyData}{v:V}(h:Res K fr S H H' d v):Res K fr F.S F.H H' d v:=by
 cases fr with
 |false=>exact Is.mono (Jf f.sS) h
 |true =>
  obtain⟨xs,a,vs,e1,e2,h1,h2,h3⟩:=h
  exact⟨xs,a,vs,e1,e2,f.hnone h1,h2,h3.mono (Jf fun b z=>z.elim (fun z=>.inl (f.sS b z)) .inr)⟩
end
variable {np:Nat}
def Am(e:DX)(g:DG)(τ:DS):Option Out:=(e τ).bind fun p=>(g p.1 p.2).map .nx
theorem BC{fr fe:Bool}{te:TE}{tg:TG}{e:DX}{g:DG}(he:E K te fe e)(hg:TG1 K tg g):B K np (Ua te tg) fr (Am e g):=by
 intro F S M τ σ H D out hnp f ee q
 unfold Am at ee
 obtain⟨⟨x,τ1⟩,e1,ee⟩:=oB ee
 obtain⟨τ2,e2,ee⟩:=oM ee
 cases ee
 refine he.weak.run S M τ σ H _ x τ1 f.r e1 fun v H1 r1 c1 i1=>?_
 refine hg.run S M τ1 σ H1 v x τ2 _ r1 i1 e2 fun σ' r2 k=>?_
 exact q S M σ' H1 ((f.step r1 c1 (he.like _ _ _ e1)).stay r2 (hg.ms _ _ _ e2) k) (c1.keep f.r.sub)
theorem cM{fr fe:Bool}{te:TE}{i:Nat}{e:DX}(he:E K te fe e):B K np (fun D σ H=>te σ H fun v H'=>D.nx (σ.set i (some v)) H') fr (Am e (dN i)):=BC (tg:=NT i) he AX
def Mf(np i:Nat)(τ:DS):Option Out:=if np<=i/\i<τ.length then some (.nx (τ.set i (some (.m [])))) else none
def tkP:List (PyData×PyData)->Option (List (List Int×PyData))
 |[]=>some []
 |(.tuple ks,d)::r=>(tkI ks).bind fun k=>(tkP r).map ((k,d)::·)
 |_=>none
where tkI:List PyData->Option (List Int)
 |[]=>some []
 |.int i::r=>(tkI r).map (i::·)
 |_=>none
theorem YC:∀(k:List Int),tkP.tkI (k.map PyData.int)=some k
 |[]=>rfl
 |i::k=>by rw[List.map_cons,tkP.tkI,YC k];rfl
theorem YB:∀(m:List (List Int×PyData)),tkP (Tc m)=some m
 |[]=>rfl
 |(k,d)::m=>by
  have:=YB m
  show(tkP.tkI (k.map PyData.int)).bind _=_
  rw[YC]
  show((tkP (Tc m)).map _)=_
  rw[this];rfl
theorem gy{o:Ow}{kvs:List (PyData×PyData)}{m:List (List Int×PyData)}(h:PyData.dict kvs=o.D)(e:tkP kvs=some m):o = .t m:=by
 cases o with
 |l xs=>cases h
 |t m'=>cases h;rw[YB]at e;cases e;rfl
def Il(np i:Nat)(e:DX)(τ:DS):Option Out:=(e τ).bind fun p=>match p.1 with
 |.list xs=>if np<=i/\i<p.2.length/\p.2.all okM=true then some (.nx (p.2.set i (some (.m xs)))) else none
 |.dict kvs=>(tkP kvs).bind fun m=>if np<=i/\i<p.2.length/\p.2.all okM=true then some (.nx (p.2.set i (some (.k m)))) else none
 |_=>none
theorem RF.newM{F:Frm}{S M:Addr->Prop}{τ:DS}{σ:St}{H:Hp}(f:RF K F S M τ σ H){a:Addr}{i:Nat}{xs:Ow}{vs:HO}(hi:i<τ.length)(hnp:F.ar.length<=i)(hS:S a)(hM:¬M a)(hF:F.H a=none)(h':H a=some vs)
  (l:IsO K (hid S H) xs a vs):RF K F S (fun b=>M b\/b=a) (τ.set i (some xs.L)) (σ.set i (some (.ref a))) H:=by
 have hs:i<σ.length:=by rw[f.r.len];exact hi
 have ne:∀j,j≠i->(τ.set i (some xs.L))[j]?=τ[j]?:=fun j hj=>List.getElem?_set_ne (Ne.symm hj)
 have ne':∀j,j≠i->(σ.set i (some (V.ref a)))[j]?=σ[j]?:=fun j hj=>List.getElem?_set_ne (Ne.symm hj)
 have se:(τ.set i (some xs.L))[i]?=some (some xs.L):=List.getElem?_set_self hi
 have se':(σ.set i (some (V.ref a)))[i]?=some (some (.ref a)):=List.getElem?_set_self hs
 have Ma:∀(j:Nat) (ys:Ow) (b:Addr),j≠i->τ[j]?=some (some ys.L)->σ[j]?=some (some (.ref b))->b≠a:=fun j ys b hj e e' z=>by
  obtain⟨b',us,h1,h2,_⟩:=f.r.mt j ys e
  rw[e']at h1;cases h1
  subst z
  exact hM h2
 refine⟨⟨by rw[List.length_set,List.length_set];exact f.r.len,fun j x e=>?_,fun j ys e=>?_,fun j ys e=>?_,fun j1 j2 ys zs b e1 e2 f1 f2=>?_,fun b h=>h.elim (f.r.sub b) fun z=>by rw[z];exact hS,f.r.ex,f.r.gr.to (fun j x e=>?_) (fun j o b e q=>?_) (fun b hb _=>⟨.inl hb,rfl⟩) .refl⟩,f.sS,f.old,fun b h=>h.elim (f.new b) fun z=>.inr (by rw[z];exact hF),fun b h=>.inl (f.fm b h),f.fs,f.fsub,f.snew,fun j v e=>?_,fun j v e=>?_,f.fma⟩
 ·by_cases hj:j=i
  ·subst hj;rw[se]at e;exact absurd (Option.some.inj (Option.some.inj e)) Ow.not_d
  ·rw[ne j hj]at e
   rw[ne' j hj]
   exact f.r.dat j x e
 ·by_cases hj:j=i
  ·subst hj
   rw[se]at e
   obtain rfl:=Qy e
   exact⟨a,vs,se',.inr rfl,h',l⟩
  ·rw[ne j hj]at e
   rw[ne' j hj]
   obtain⟨b,us,h1,h2,h3,h4⟩:=f.r.mt j ys e
   exact⟨b,us,h1,.inl h2,h3,h4⟩
 ·by_cases hj:j=i
  ·subst hj;rw[se]at e;exact absurd (Option.some.inj (Option.some.inj e)) Ow.not_c
  ·rw[ne j hj]at e
   rw[ne' j hj]
   exact f.r.cst j ys e
 ·by_cases h1:j1=i
  ·by_cases h2:j2=i
   ·rw[h1,h2]
   ·exfalso
    subst h1
    rw[se']at f1;cases f1
    rw[ne j2 h2]at e2
    rw[ne' j2 h2]at f2
    exact Ma j2 zs _ h2 e2 f2 rfl
  ·by_cases h2:j2=i
   ·exfalso
    subst h2
    rw[se']at f2;cases f2
    rw[ne j1 h1]at e1
    rw[ne' j1 h1]at f1
    exact Ma j1 ys _ h1 e1 f1 rfl
   ·rw[ne j1 h1]at e1
    rw[ne' j1 h1]at f1
    rw[ne j2 h2]at e2
    rw[ne' j2 h2]at f2
    exact f.r.inj _ _ _ _ b e1 e2 f1 f2
 ·by_cases hj:j=i
  ·subst hj;rw[se]at e;exact absurd (Option.some.inj (Option.some.inj e)) Ow.not_g
  ·rw[ne j hj]at e;exact⟨e,ne' j hj⟩
 ·by_cases hj:j=i
  ·subst hj;rw[se']at q;cases q;exact .inr hM
  ·rw[ne j hj]at e;rw[ne' j hj]at q;exact .inl ⟨o,e,q⟩
 ·have:j≠i:=fun z=>by
   subst z
   have:=(List.getElem?_eq_some_iff.mp e).1
   omega
  rw[ne' j this]
  exact f.par j v e
 ·have:j≠i:=fun z=>by
   subst z
   have:=(List.getElem?_eq_some_iff.mp e).1
   omega
  rw[ne j this]
  exact f.pm j v e
theorem RF.hide{F:Frm}{S M:Addr->Prop}{τ:DS}{σ:St}{H H':Hp}(f:RF K F S M τ σ H){a:Addr}(s:Same H H')(ha:H a=none)(h':∃o,H' a=some o):RF K F (fun b=>S b\/b=a) M τ σ H':=by
 have k:Keep S H (fun b=>S b\/b=a) H':=fun b o hn e=>⟨fun z=>z.elim hn (B6 e ha),s b o e⟩
 refine ⟨⟨f.r.len, fun j x e => let ⟨v, h1, h2⟩ := f.r.dat j x e; ⟨v, h1, h2.mono k.same⟩, fun j x e => let ⟨b, vs, h1, h2, h3, h4⟩ := f.r.mt j x e; ⟨b, vs, h1, h2, s _ _ h3, h4.mono k.same⟩,
  fun j x e=>let ⟨b,vs,h1,h2,h3⟩:=f.r.cst j x e;⟨b,vs,h1,k.same.seq h2,h3.mono k.same⟩,f.r.inj,fun b h=>.inl (f.r.sub b h),fun b h=>?_,f.r.gr.to (fun i d e=>⟨e,rfl⟩) (fun j o a e q=>.inl ⟨o,e,q⟩) (fun a h _=>⟨h,by obtain⟨o,e⟩:=f.r.ex a (f.r.sub a h);rw[e];exact s _ _ e⟩) (tsS k.same)⟩,fun b h=>.inl (f.sS b h),fun b o e n=>s _ _ (f.old b o e n),f.new,f.fm,f.fs,f.fsub,fun b h=>h.elim (f.snew b) fun z=>.inr (by rw[z];exact f.hnone ha),f.par,f.pm,f.fma⟩
 rcases h with h|h
 ·obtain⟨o,e⟩:=f.r.ex b h
  exact⟨o,s _ _ e⟩
 ·rw[h];exact h'
theorem RF.hideE{F:Frm}{S M:Addr->Prop}{τ τ1:DS}{σ:St}{H H':Hp}(f:RF K F S M τ σ H){a:Addr}(r1:R K S M τ1 σ H')(c:Chg M H H')(lk:Like τ τ1)(ok:τ1.all okM=true)(ha:H a=none)(h':∃o,H' a=some o/\OwH o):RF K F (fun b=>S b\/b=a) M τ1 σ H':=by
 have f1:=f.step r1 c lk
 have k:Keep S H (fun b=>S b\/b=a) H':=fun b o hn e=>⟨fun z=>z.elim hn (B6 e ha),c b o (fun z=>hn (f.r.sub b z)) e⟩
 have ts:TSm (hid S H') (hid (fun b=>S b\/b=a) H'):=Mh fun b z=>z.elim .inl fun z=>by subst z;exact .inr h'
 refine⟨⟨r1.len,fun j x e=>?_,fun j x e=>?_,fun j x e=>?_,r1.inj,fun b h=>.inl (f.r.sub b h),fun b h=>?_,r1.gr.to (fun i d e=>⟨e,rfl⟩) (fun j o a e q=>.inl ⟨o,e,q⟩) (fun a h _=>⟨h,rfl⟩) ts⟩,fun b h=>.inl (f.sS b h),f1.old,f.new,f.fm,f.fs,f.fsub,fun b h=>h.elim (f.snew b) fun z=>.inr (by rw[z];exact f.hnone ha),f.par,f1.pm,f.fma⟩
 ·obtain⟨v,h1,h2⟩:=f.r.dat j x (((lk.2 j).1.1 x).mp e)
  exact⟨v,h1,h2.mono k.same⟩
 ·obtain⟨b,vs,h1,h2,h3,h4⟩:=r1.mt j x e
  exact⟨b,vs,h1,h2,h3,h4.monoT ts (List.all_eq_true.mp ok (some x.L) (List.mem_of_getElem? e))⟩
 ·obtain⟨b,vs,h1,h2,h3⟩:=f.r.cst j x (((lk.2 j).1.2 x).mp e)
  exact⟨b,vs,h1,k.same.seq h2,h3.mono k.same⟩
 ·rcases h with h|h
  ·exact r1.ex b h
  ·obtain⟨vs,e,_⟩:=h'
   rw[h];exact⟨_,e⟩
theorem Sb{fr:Bool}{i:Nat}:B K np (Ua (aL Mr) (NT i)) fr (Mf np i):=by
 intro F S M τ σ H D out hnp f ee q
 unfold Mf at ee
 split at ee
 ·rename_i hi
  cases ee
  refine⟨Nat.zero_le _,fun a ha=>?_⟩
  have s:=CA ha (HO.lst [])
  have f1:=f.hide s ha ⟨_,Bk⟩
  have hM:¬M a:=fun z=>f.r.fresh ha (f.r.sub a z)
  exact q _ _ _ _ (f1.newM (xs:=.l []) hi.2 (Nat.le_trans hnp hi.1) (.inr rfl) hM (f.hnone ha) Bk ⟨[],rfl,rfl⟩) fun b o hn e=>⟨fun z=>z.elim hn (B6 e ha),s b o e⟩
 ·cases ee
theorem X4{fr:Bool}{i:Nat}{te:TE}{e:DX}(he:E K te true e):B K np (Ua te (NT i)) fr (Il np i e):=by
 intro F S M τ σ H D out hnp f ee q
 unfold Il at ee
 obtain⟨⟨x,τ1⟩,e1,ee⟩:=oB ee
 dsimp only at ee
 split at ee
 ·split at ee
  ·rename_i xs hi
   cases ee
   refine he.run S M τ σ H _ _ τ1 f.r e1 fun v H1 r1 c1 i1=>?_
   obtain⟨ys,a,vs,e2,rfl,h1,h2,h3⟩:=i1
   obtain rfl:=Ow.D_list e2
   have f1:=f.hideE r1 c1 (he.like _ _ _ e1) hi.2.2 h1 ⟨_,h2,h3.ho⟩
   have hM:¬M a:=fun z=>f.r.fresh h1 (f.r.sub a z)
   exact q _ _ _ _ (f1.newM (xs:=.l _) hi.2.1 (Nat.le_trans hnp hi.1) (.inr rfl) hM (f.hnone h1) h2 h3) fun b o hn e=>⟨fun z=>z.elim hn (B6 e h1),c1 b o (fun z=>hn (f.r.sub b z)) e⟩
  ·cases ee
 ·obtain⟨m,em,ee⟩:=oB ee
  split at ee
  ·rename_i hi
   cases ee
   refine he.run S M τ σ H _ _ τ1 f.r e1 fun v H1 r1 c1 i1=>?_
   obtain⟨ys,a,vs,e2,rfl,h1,h2,h3⟩:=i1
   obtain rfl:=gy e2 em
   have f1:=f.hideE r1 c1 (he.like _ _ _ e1) hi.2.2 h1 ⟨_,h2,h3.ho⟩
   have hM:¬M a:=fun z=>f.r.fresh h1 (f.r.sub a z)
   exact q _ _ _ _ (f1.newM (xs:=.t _) hi.2.1 (Nat.le_trans hnp hi.1) (.inr rfl) hM (f.hnone h1) h2 h3) fun b o hn e=>⟨fun z=>z.elim hn (B6 e h1),c1 b o (fun z=>hn (f.r.sub b z)) e⟩
  ·cases ee
 ·cases ee
def A0(e:DX)(τ:DS):Option Out:=(e τ).map fun p=>.rt p.1 p.2
theorem Ax{fr fe:Bool}{te:TE}{e:DX}(he:E K te fe e)(hf:fr=true->fe=true):B K np (ZC te) fr (A0 e):=by
 intro F S M τ σ H D out hnp f ee q
 unfold A0 at ee
 obtain⟨⟨x,τ1⟩,e1,ee⟩:=oM ee
 cases ee
 refine he.run S M τ σ H _ x τ1 f.r e1 fun v H1 r1 c1 i1=>?_
 exact q S M σ H1 v (f.step r1 c1 (he.like _ _ _ e1)) (f.res (i1.imp (fun _=>f.r.fresh) fr hf))
def Kv(np i:Nat)(τ:DS):Option Out:=match τ[i]? with
 |some (some (.m xs))=>if np<=i then some (.rt (.list xs) τ) else none
 |some (some (.k xs))=>if np<=i then some (.rt (.dict (Tc xs)) τ) else none
 |_=>none
theorem Xy{np i:Nat}{τ:DS}{out:Out}(e:Kv np i τ=some out):∃w,τ[i]?=some (some (Ow.L w))/\np<=i/\out = .rt w.D τ:=by
 unfold Kv at e
 split at e
 ·rename_i xs hx
  split at e
  ·rename_i h;cases e;exact⟨.l xs,hx,h,rfl⟩
  ·cases e
 ·rename_i xs hx
  split at e
  ·rename_i h;cases e;exact⟨.t xs,hx,h,rfl⟩
  ·cases e
 ·cases e
theorem X5{fr:Bool}{i:Nat}:B K np (ZC (J9 i)) fr (Kv np i):=by
 intro F S M τ σ H D out hnp f ee q
 obtain⟨xs,hx,hi,rfl⟩:=Xy ee
 obtain⟨a,vs,h1,h2,h3,h4⟩:=f.r.mt i xs hx
 refine⟨_,h1,q S M σ H _ f ?_⟩
 have hF:F.H a=none:=by
  rcases f.new a h2 with z|z
  ·exfalso
   obtain⟨j,hj⟩:=f.fma a z
   obtain⟨ys,hy⟩:=f.pm j _ hj
   have e:=f.r.inj j i ys xs a hy hx (f.par j _ hj) h1
   have:=(List.getElem?_eq_some_iff.mp hj).1
   omega
  ·exact z
 have res:Res K true F.S F.H H xs.D (.ref a):=⟨xs,a,vs,rfl,rfl,hF,h3,h4.mono (Jf fun b z=>z.elim (f.sS b) fun z=>by rw[z];exact f.r.sub a h2)⟩
 refine res.imp (fun b hb=>?_) fr fun _=>rfl
 intro z
 obtain⟨o,e⟩:=f.fs b z
 rw[hb]at e;cases e
def Me(τ:DS):Option Out:=some (.rt .none τ)
theorem gj:B K np eH false Me:=by
 intro F S M τ σ H D out hnp f ee q
 cases ee
 exact q S M σ H _ f rfl
def C3(e:DX)(τ:DS):Option Out:=(e τ).map fun p=>.nx p.2
theorem LX{fr fe:Bool}{te:TE}{e:DX}(he:E K te fe e):B K np (aM te) fr (C3 e):=by
 intro F S M τ σ H D out hnp f ee q
 unfold C3 at ee
 obtain⟨⟨x,τ1⟩,e1,ee⟩:=oM ee
 cases ee
 refine he.run S M τ σ H _ x τ1 f.r e1 fun v H1 r1 c1 i1=>?_
 exact q S M σ H1 (f.step r1 c1 (he.like _ _ _ e1)) (c1.keep f.r.sub)
def dMt(i:Nat)(G:List PyData->List PyData->Option (PyData×List PyData))(a:DA)(τ:DS):Option (PyData×DS):=(a τ).bind fun p=>(Cv p.1).bind fun ds=>match p.2[i]? with
 |some (some (.m xs))=>(G xs ds).map fun q=>(q.1,p.2.set i (some (.m q.2)))
 |_=>none
def MR(K:KW)(r:V->List V->Hp->VK->Prop)(G:List PyData->List PyData->Option (PyData×List PyData)):Prop:=∀(S:Addr->Prop) H a vs us xs ds d xs' (Q:VK),S a->H a=some (.lst vs)->IsL K (hid S H) xs vs->IsL K (hid S H) ds us->G xs ds=some (d,xs') ->
 (∀v vs',Is K (hid S H) d v->IsL K (hid S H) xs' vs'->Q v (upd H a (.lst vs')))->r (.ref a) us H Q
theorem Q5{S:Addr->Prop}{H:Hp}{a:Addr}{o:HO}(h:S a):hid S (upd H a o)=hid S H:=by
 funext b
 unfold hid
 by_cases z:S b
 ·rw[if_pos z,if_pos z]
 ·rw[if_neg z,if_neg z,CI (fun e=>z (by rw[e];exact h))]
theorem Ws{i:Nat}{G:List PyData->List PyData->Option (PyData×List PyData)}{a:DA}{τ τ':DS}{d:PyData}(e:dMt i G a τ=some (d,τ')):∃rs τ1 ds xs xs',a τ=some (rs,τ1)/\Cv rs=some ds/\τ1[i]?=some (some (.m xs))/\G xs ds=some (d,xs')/\τ'=τ1.set i (some (.m xs')):=by
 unfold dMt at e
 obtain⟨⟨x,τ1⟩,e1,e⟩:=oB e
 obtain⟨ds,e2,e⟩:=oB e
 dsimp only at e
 split at e
 ·rename_i xs hx
  obtain⟨⟨z,zs⟩,e3,e⟩:=oM e
  cases e
  exact⟨x,τ1,ds,xs,zs,e1,e2,hx,e3,rfl⟩
 ·cases e
theorem VU{i:Nat}{r:V->List V->Hp->VK->Prop}{G:List PyData->List PyData->Option (PyData×List PyData)}{t:TA}{a:DA}(h:MR K r G)(ha:A K t a):E K (tBM K "list" r (J9 i) t) false (dMt i G a):=by
 refine⟨fun τ d τ' e=>?_,?_⟩
 ·obtain⟨rs,τ1,ds,xs,xs',e1,e2,e3,e4,rfl⟩:=Ws e
  exact(ha.like _ _ _ e1).trans (Zf e3)
 intro S M τ σ H Q d τ' rr e q
 obtain⟨rs,τ1,ds,xs,xs',e1,e2,e3,e4,rfl⟩:=Ws e
 have lk:=ha.like _ _ _ e1
 obtain⟨zs,hz⟩:=lk.ml e3
 obtain⟨p,us,hp,hM,hl0,_⟩:=rr.ml i zs hz
 refine⟨.ref p,hp,.inl ⟨rfl,us,SqL.of hl0⟩,?_⟩
 refine ha.run S M τ σ H _ rs _ rr e1 fun vs H1 r1 c1 i1=>?_
 have l:=Hz i1 e2
 obtain⟨p',us',hp',hM',hl,ll⟩:=r1.ml i xs e3
 rw[hp]at hp';cases hp'
 have Sp:=r1.sub p hM'
 refine h S H1 p us' vs xs ds d xs' _ Sp hl ll l e4 fun v vs' iv il=>?_
 have c:Chg (fun b=>b=p) H1 (upd H1 p (.lst vs')):=fun b o hn e=>by rw[CI hn];exact e
 refine q v _ (r1.setM e3 hp c Bk (by rw[Q5 Sp];exact il)) (c1.trans fun b o hn e=>c b o (fun z=>hn (by subst z;exact hM')) e) ?_
 show Is K (hid S _) d v
 rw[Q5 Sp];exact iv
def Bs:List PyData->List PyData->Option (PyData×List PyData)
 |xs,[d]=>if xs.length<sizeLine then some (.none,xs++[d]) else none
 |_,_=>none
theorem Ga:MR K YN Bs:=by
 intro S H a vs us xs ds d xs' Q Sa hl ll l e q
 unfold Bs at e
 split at e
 ·split at e
  ·rename_i d0 hz
   cases e
   obtain⟨v,us',rfl,iv,iu⟩:=l
   cases (show us'=[] from iu)
   exact⟨a,vs,v,rfl,rfl,hl,by rw[ll.length];exact hz,q _ _ rfl (WX ll iv)⟩
  ·cases e
 ·cases e
def LO:List PyData->List PyData->Option (PyData×List PyData)
 |xs,[.list ys]=>if xs.length+ys.length<=sizeLine then some (.none,xs++ys) else none
 |_,_=>none
def Nv:List PyData->List PyData->Option (PyData×List PyData)
 |_,[]=>some (.none,[])
 |_,_=>none
def SO(i:Nat)(e k:DX)(τ:DS):Option Out:=(e τ).bind fun p=>(k p.2).bind fun q=>match q.2[i]?,q.1 with
 |some (some (.m xs)),.int n=>(ixN xs.length n).map fun j=>.nx (q.2.set i (some (.m (xs.set j p.1))))
 |_,_=>none
theorem Gl.trans{F:Frm}{fr:Bool}{S S1:Addr->Prop}{H H1:Hp}{D:Sf}{o:Out}(k:Keep S H S1 H1)(h:Gl K F fr S H D o):Gl K F fr S1 H1 D o:=by
 cases o with
 |nx τ=>exact fun S' M' σ' H' r k'=>h S' M' σ' H' r (k.trans k')
 |bk τ=>exact fun S' M' σ' H' r k'=>h S' M' σ' H' r (k.trans k')
 |ct τ=>exact fun S' M' σ' H' r k'=>h S' M' σ' H' r (k.trans k')
 |rt d τ=>exact fun S' M' σ' H' v r k'=>h S' M' σ' H' v r k'
def A2(τ:DS):Option Out:=some (.nx τ)
theorem BY{fr:Bool}:B K np aJ fr A2:=by
 intro F S M τ σ H D out hnp f ee q
 cases ee
 exact q S M σ H f .refl
def AY(a b:DB)(τ:DS):Option Out:=(a τ).bind fun o=>match o with
 |.nx τ'=>b τ'
 |o=>some o
theorem Ab{fr:Bool}{t u:TS}{a b:DB}(ha:B K np t fr a)(hb:B K np u fr b):B K np (W9 t u) fr (AY a b):=by
 intro F S M τ σ H D out hnp f ee q
 unfold AY at ee
 obtain⟨o,e1,ee⟩:=oB ee
 refine ha F S M τ σ H _ o hnp f e1 ?_
 cases o with
 |nx τ1=>exact fun S' M' σ' H' r k=>hb F S' M' τ1 σ' H' D out hnp r ee (q.trans k)
 |bk τ1=>cases ee;exact q
 |ct τ1=>cases ee;exact q
 |rt d τ1=>cases ee;exact q
def A4(c:DT)(a b:DB)(τ:DS):Option Out:=(c τ).bind fun p=>if p.1=true then a p.2 else b p.2
theorem CV{fr:Bool}{tc:TT}{t u:TS}{c:DT}{a b:DB}(hc:T K tc c)(ha:B K np t fr a)(hb:B K np u fr b):B K np (cX tc t u) fr (A4 c a b):=by
 intro F S M τ σ H D out hnp f ee q
 unfold A4 at ee
 obtain⟨⟨k,τ1⟩,e1,ee⟩:=oB ee
 refine hc.run S M τ σ H _ k τ1 f.r e1 fun H1 r1 c1=>?_
 have f1:=f.step r1 c1 (hc.like _ _ _ e1)
 cases k with
 |true=>exact ha F S M τ1 σ H1 D out hnp f1 ee (q.trans (c1.keep f.r.sub))
 |false=>exact hb F S M τ1 σ H1 D out hnp f1 ee (q.trans (c1.keep f.r.sub))
def X0(τ:DS):Option Out:=some (.bk τ)
def Xz(τ:DS):Option Out:=some (.ct τ)
def LV:DB:=fun _=>none
theorem dq{fr:Bool}:B K np aK fr LV:=by
 intro F S M τ σ H D out hnp f ee q
 cases ee
def Df(g:DG)(b:DB):List PyData->DS->Option Out
 |[],τ=>some (.nx τ)
 |d::ds,τ=>(g d τ).bind fun τ1=>(b τ1).bind fun o=>match o with
  |.nx τ2=>Df g b ds τ2
  |.ct τ2=>Df g b ds τ2
  |.bk τ2=>some (.nx τ2)
  |.rt d τ2=>some (.rt d τ2)
def Ia(it:DI)(g:DG)(b:DB)(τ:DS):Option Out:=(it τ).bind fun p=>Df g b p.1 p.2
theorem Lc{fr:Bool}{wi:TI}{tg:TG}{tb:TS}{it:DI}{g:DG}{b:DB}(hi:IT K wi it)(hg:TG1 K tg g)(hb:B K np tb fr b):B K np (fh wi tg tb) fr (Ia it g b):=by
 intro F S M τ σ H D out hnp f ee q
 unfold Ia at ee
 obtain⟨⟨ds,τ1⟩,e1,ee⟩:=oB ee
 refine hi.run S M τ σ H _ ds τ1 f.r e1 fun J H1 r1 c1 iJ=>?_
 have f1:=f.step r1 c1 (hi.like _ _ _ e1)
 have q1:=q.trans (c1.keep f.r.sub)
 refine⟨fun i m σ' H'=>m=ds.length-i/\i<=ds.length/\∃S' M' τ',RF K F S' M' τ' σ' H'/\Keep S H1 S' H'/\Df g b (ds.drop i) τ'=some out,⟨ds.length,by simp,Nat.zero_le _,S,M,τ1,f1,.refl,by simpa using ee⟩,?_⟩
 rintro i m σ' H' ⟨rfl,hil,S',M',τ',f',k',hl⟩
 obtain⟨I1,I2⟩:=iJ _ _ k'
 by_cases hlt:i<ds.length
 ·right
  have ed:ds[i]?=some ds[i]:=List.getElem?_eq_getElem hlt
  obtain⟨go,yl⟩:=I1 i _ ed
  refine⟨go,fun σ2 H2=>∃S2 M2 τ2,RF K F S2 M2 τ2 σ2 H2/\Keep S H1 S2 H2/\Df g b (ds.drop (i+1)) τ2=some out,fun σ2 H2 h=>⟨ds.length-(i+1),by omega,rfl,hlt,h⟩,fun x H2 y=>?_⟩
  obtain⟨rfl,ix⟩:=yl x H2 y
  rw[List.drop_eq_getElem_cons hlt,Df]at hl
  obtain⟨τ2,e2,hl⟩:=oB hl
  obtain⟨o,e3,hl⟩:=oB hl
  refine hg.run S' M' τ' σ' H2 x _ τ2 _ f'.r ix e2 fun σ3 r3 k3=>?_
  have f3:=f'.stay r3 (hg.ms _ _ _ e2) k3
  refine hb F S' M' τ2 σ3 H2 _ o hnp f3 e3 ?_
  cases o with
  |nx τ4=>exact fun S4 M4 σ4 H4 f4 k4=>⟨S4,M4,τ4,f4,k'.trans k4,hl⟩
  |ct τ4=>exact fun S4 M4 σ4 H4 f4 k4=>⟨S4,M4,τ4,f4,k'.trans k4,hl⟩
  |bk τ4=>cases hl;exact fun S4 M4 σ4 H4 f4 k4=>q1 S4 M4 σ4 H4 f4 (k'.trans k4)
  |rt d τ4=>cases hl;exact fun S4 M4 σ4 H4 v f4 k4=>q1 S4 M4 σ4 H4 v f4 k4
 ·left
  have e:i=ds.length:=by omega
  subst e
  rw[List.drop_length,Df]at hl
  cases hl
  exact⟨I2 _ (Nat.le_refl _),q1 S' M' σ' H' f' k'⟩
def dWh(c:DT)(b:DB):Nat->DS->Option Out
 |0,_=>none
 | n + 1, τ => (c τ).bind fun p => if p.1 = true then (b p.2).bind fun o => (match o with
   |.nx τ2=>dWh c b n τ2
   |.ct τ2=>dWh c b n τ2
   |.bk τ2=>some (.nx τ2)
   |.rt d τ2=>some (.rt d τ2)) else some (.nx p.2)
def Md(n:DS->Nat)(c:DT)(b:DB)(τ:DS):Option Out:=dWh c b (n τ) τ
theorem Ox{fr:Bool}{n:DS->Nat}{tc:TT}{tb:TS}{c:DT}{b:DB}(hc:T K tc c)(hb:B K np tb fr b):B K np (aH tc tb) fr (Md n c b):=by
 intro F S M τ σ H D out hnp f ee q
 unfold Md at ee
 refine⟨fun m σ' H'=>∃S' M' τ',RF K F S' M' τ' σ' H'/\Keep S H S' H'/\dWh c b m τ'=some out,⟨n τ,S,M,τ,f,.refl,ee⟩,?_⟩
 rintro m σ' H' ⟨S',M',τ',f',k',hl⟩
 cases m with
 |zero=>cases hl
 |succ m =>
  rw[dWh]at hl
  obtain⟨⟨k,τ1⟩,e1,hl⟩:=oB hl
  refine hc.run S' M' τ' σ' H' _ k τ1 f'.r e1 fun H1 r1 c1=>?_
  have f1:=f'.step r1 c1 (hc.like _ _ _ e1)
  have k1:=k'.trans (c1.keep f'.r.sub)
  cases k with
  |false =>
   rw[if_neg Bool.false_ne_true]at hl ⊢
   cases hl
   exact q S' M' σ' H1 f1 k1
  |true =>
   rw[if_pos rfl]at hl ⊢
   obtain⟨o,e3,hl⟩:=oB hl
   refine⟨fun σ2 H2=>∃S2 M2 τ2,RF K F S2 M2 τ2 σ2 H2/\Keep S H S2 H2/\dWh c b m τ2=some out,fun σ2 H2 h=>⟨m,Nat.lt_succ_self _,h⟩,?_⟩
   refine hb F S' M' τ1 σ' H1 _ o hnp f1 e3 ?_
   cases o with
   |nx τ4=>exact fun S4 M4 σ4 H4 f4 k4=>⟨S4,M4,τ4,f4,k1.trans k4,hl⟩
   |ct τ4=>exact fun S4 M4 σ4 H4 f4 k4=>⟨S4,M4,τ4,f4,k1.trans k4,hl⟩
   |bk τ4=>cases hl;exact fun S4 M4 σ4 H4 f4 k4=>q S4 M4 σ4 H4 f4 (k1.trans k4)
   |rt d τ4=>cases hl;exact fun S4 M4 σ4 H4 v f4 k4=>q S4 M4 σ4 H4 v f4 k4
def fin:List L->DS->Option (List L)
 |[],_=>some []
 |.d x::ls,_::τ=>(fin ls τ).map (.d x::·)
 |.c x::ls,_::τ=>(fin ls τ).map (.c x::·)
 |.m _::ls,some (.m xs)::τ=>(fin ls τ).map (.m xs::·)
 |.k _::ls,some (.k xs)::τ=>(fin ls τ).map (.k xs::·)
 |_,_=>none
def BW(fr:Bool)(np nl:Nat)(b:DB)(ls:List L):Option (PyData×List L):=if ls.length=np then (b (ls.map some++List.replicate nl none)).bind fun o=>match o with
  |.nx τ=>if fr=true then none else (fin ls τ).map fun ls'=>(.none,ls')
  |.rt d τ=>(fin ls τ).map fun ls'=>(d,ls')
  |_=>none
 else none
theorem JD:∀{ls:List L} {τ:DS} {ls':List L} {i:Nat} {l:L},fin ls τ=some ls'->ls'[i]?=some l->match l with
  |.d x=>ls[i]?=some (.d x)
  |.c x=>ls[i]?=some (.c x)
  |.m xs=>(∃ys,ls[i]?=some (.m ys))/\τ[i]?=some (some (.m xs))
  |.k xs=>(∃ys,ls[i]?=some (.k ys))/\τ[i]?=some (some (.k xs))
  |.g _=>False
 |[],_,_,_,_,h,e=>by cases h;simp at e
 |.d x::ls,o::τ,_,i,l,h,e=>by
  obtain⟨zs,h1,h⟩:=oM h
  subst h
  cases i with
  |zero=>cases e;rfl
  |succ i =>
   have:=JD (i:=i) (l:=l) h1 (by simpa using e)
   cases l<;>simpa using this
 |.c x::ls,o::τ,_,i,l,h,e=>by
  obtain⟨zs,h1,h⟩:=oM h
  subst h
  cases i with
  |zero=>cases e;rfl
  |succ i =>
   have:=JD (i:=i) (l:=l) h1 (by simpa using e)
   cases l<;>simpa using this
 |.m x::ls,some (.m xs)::τ,_,i,l,h,e=>by
  obtain⟨zs,h1,h⟩:=oM h
  subst h
  cases i with
  |zero=>cases e;exact⟨⟨_,rfl⟩,rfl⟩
  |succ i =>
   have:=JD (i:=i) (l:=l) h1 (by simpa using e)
   cases l<;>simpa using this
 |.k x::ls,some (.k xs)::τ,_,i,l,h,e=>by
  obtain⟨zs,h1,h⟩:=oM h
  subst h
  cases i with
  |zero=>cases e;exact⟨⟨_,rfl⟩,rfl⟩
  |succ i =>
   have:=JD (i:=i) (l:=l) h1 (by simpa using e)
   cases l<;>simpa using this
theorem Og:∀{ls:List L} {τ:DS} {ls':List L},fin ls τ=some ls'->ls'.length=ls.length
 |[],_,_,h=>by cases h;rfl
 |.d x::ls,o::τ,_,h=>by
  obtain⟨zs,h1,h⟩:=oM h
  subst h
  rw[List.length_cons,List.length_cons,Og h1]
 |.c x::ls,o::τ,_,h=>by
  obtain⟨zs,h1,h⟩:=oM h
  subst h
  rw[List.length_cons,List.length_cons,Og h1]
 |.m x::ls,some (.m xs)::τ,_,h=>by
  obtain⟨zs,h1,h⟩:=oM h
  subst h
  rw[List.length_cons,List.length_cons,Og h1]
 |.k x::ls,some (.k xs)::τ,_,h=>by
  obtain⟨zs,h1,h⟩:=oM h
  subst h
  rw[List.length_cons,List.length_cons,Og h1]
theorem UI:∀{ls:List L} {τ:DS} {ls':List L},fin ls τ=some ls'->∀(i:Nat) (d:PyData),ls[i]?≠some (.g d)
 |[],_,_,_,i,d=>by simp
 |.d x::ls,o::τ,_,h,i,d=>by
  obtain⟨zs,h1,h⟩:=oM h
  cases i with
  |zero=>simp
  |succ i=>simpa using UI h1 i d
 |.c x::ls,o::τ,_,h,i,d=>by
  obtain⟨zs,h1,h⟩:=oM h
  cases i with
  |zero=>simp
  |succ i=>simpa using UI h1 i d
 |.m x::ls,some (.m xs)::τ,_,h,i,d=>by
  obtain⟨zs,h1,h⟩:=oM h
  cases i with
  |zero=>simp
  |succ i=>simpa using UI h1 i d
 |.k x::ls,some (.k xs)::τ,_,h,i,d=>by
  obtain⟨zs,h1,h⟩:=oM h
  cases i with
  |zero=>simp
  |succ i=>simpa using UI h1 i d
theorem VR{ls:List L}{τ:DS}{ls':List L}{i:Nat}{x:Ow}(h:fin ls τ=some ls')(e:ls'[i]?=some x.L):(∃ys:Ow,ls[i]?=some ys.L)/\τ[i]?=some (some x.L):=by
 cases x with
 |l xs=>obtain⟨⟨ys,h1⟩,h2⟩:=JD h e;exact⟨⟨.l ys,h1⟩,h2⟩
 |t xs=>obtain⟨⟨ys,h1⟩,h2⟩:=JD h e;exact⟨⟨.t ys,h1⟩,h2⟩
theorem F5{α β:Type}{f:α->β}{xs:List α}{i:Nat}{y:β}(h:(xs.map f)[i]?=some y):∃x,xs[i]?=some x/\f x=y:=by
 rw[List.getElem?_map]at h
 cases e:xs[i]? with
 |none=>rw[e]at h;cases h
 |some x=>rw[e]at h;exact⟨x,rfl,Option.some.inj h⟩
theorem BB{G:List L->Option (PyData×List L)}{fr:Bool}{vs:List V}{H:Hp}{Q:VK}{X:XK}{np:Nat}(hG:∀ls r,G ls=some r->ls.length=np)(h:spD K G fr vs H Q X):vs.length=np:=by
 obtain⟨S,M,ls,r,ls',hR,e,_⟩:=h
 have:=hR.len
 rw[List.length_map,List.length_map]at this
 rw[this,hG _ _ e]
theorem Ak{fr:Bool}{np nl:Nat}{b:DB}:∀ls r,BW fr np nl b ls=some r->ls.length=np:=fun ls r h=>by
 unfold BW at h
 split at h
 ·assumption
 ·cases h
theorem BA{np nl:Nat}{t:TS}{fr:Bool}{b:DB}{N:List Str}{vs:List V}{H:Hp}{Q:VK}{X:XK}(hb:B K np t fr b)(hN:N.length=np+nl)(h:spD K (BW fr np nl b) fr vs H Q X):t { nx:=fun _ H'=>Q .non H',rt:=Q } (L2.start N vs) H:=by
 obtain⟨S,M,ls,r,ls',hR,e,q⟩:=h
 have hlen:=Ak _ _ e
 have hvl:vs.length=ls.length:=by have:=hR.len;rw[List.length_map,List.length_map]at this;exact this
 unfold BW at e
 rw[if_pos hlen]at e
 obtain⟨o,e1,e⟩:=oB e
 have est:L2.start N vs=vs.map some++List.replicate nl none:=by
  unfold L2.start
  rw[hN,hvl,hlen,Nat.add_sub_cancel_left]
 rw[est]
 -- the entry
 have lsm:∀(i:Nat) (l:L),(ls.map some++List.replicate nl none:DS)[i]?=some (some l)->ls[i]?=some l:=fun i l h=>by
  by_cases hi:i<ls.length
  ·rw[List.getElem?_append_left (by rw[List.length_map];exact hi)]at h
   obtain⟨x,h1,h2⟩:=F5 h
   cases h2;exact h1
  ·rw[List.getElem?_append_right (by rw[List.length_map];omega),List.getElem?_replicate]at h
   split at h<;>cases h
 have vsm:∀(i:Nat) (v:V),(vs.map some)[i]?=some (some v)->(vs.map some++List.replicate nl none:St)[i]?=some (some v):=fun i v h=>by
  rw[List.getElem?_append_left (List.getElem?_eq_some_iff.mp h).1];exact h
 have vsb:∀(i:Nat) (v:V),(vs.map some++List.replicate nl none:St)[i]?=some (some v)->(vs.map some)[i]?=some (some v):=fun i v h=>by
  by_cases hi:i<(vs.map some).length
  ·rw[List.getElem?_append_left hi]at h;exact h
  ·rw[List.getElem?_append_right (by omega),List.getElem?_replicate]at h
   split at h<;>cases h
 have lm:∀(i:Nat) (l:L),ls[i]?=some l->(ls.map some)[i]?=some (some l):=fun i l h=>by rw[List.getElem?_map,h];rfl
 let Mx:Addr->Prop:=fun a=>∃(i:Nat) (xs:Ow),ls[i]?=some xs.L/\vs[i]?=some (.ref a)
 let ar:List (Option V):=(ls.zip vs).map fun p=>match p.1 with
  |.m _=>some p.2
  |.k _=>some p.2
  |_=>none
 have arg:∀(i:Nat) (v:V),ar[i]?=some (some v)->∃xs:Ow,ls[i]?=some xs.L/\vs[i]?=some v:=fun i v h=>by
  obtain⟨⟨l,u⟩,h1,h2⟩:=F5 h
  rw[List.getElem?_zip_eq_some]at h1
  cases l with
  |d x=>cases h2
  |c x=>cases h2
  |m xs=>cases h2;exact⟨.l xs,h1.1,h1.2⟩
  |k xs=>cases h2;exact⟨.t xs,h1.1,h1.2⟩
  |g x=>cases h2
 have gar:∀(i:Nat) (xs:Ow) (v:V),ls[i]?=some xs.L->vs[i]?=some v->ar[i]?=some (some v):=fun i xs v h1 h2=>by
  show((ls.zip vs).map _)[i]?=_
  rw[List.getElem?_map,(List.getElem?_zip_eq_some (z:=(xs.L,v))).mpr ⟨h1,h2⟩]
  cases xs<;>rfl
 have Msub:∀a,Mx a->M a:=fun a ⟨i,xs,h1,h2⟩=>by
  obtain⟨b',us,h3,h4,_⟩:=hR.mt i xs (lm i _ h1)
  rw[List.getElem?_map,h2]at h3
  cases h3;exact h4
 have hng:∀(i:Nat) (d:PyData),ls[i]?≠some (.g d):=by
  cases o with
  |nx τ' =>
   cases fr with
   |false=>obtain⟨ls1,e2,_⟩:=oM e;exact UI e2
   |true=>cases e
  |bk τ'=>cases e
  |ct τ'=>cases e
  |rt d τ'=>obtain⟨ls1,e2,_⟩:=oM e;exact UI e2
 have f0:RF K ⟨S,Mx,H,ar⟩ S Mx (ls.map some++List.replicate nl none) (vs.map some++List.replicate nl none) H:=by
  refine ⟨⟨by simp [hvl], fun i x h => ?_, fun i x h => ?_, fun i x h => ?_, fun i j xs ys a h1 h2 h3 h4 => hR.inj i j xs ys a (lm _ _ (lsm _ _ h1)) (lm _ _ (lsm _ _ h2)) (vsb _ _ h3) (vsb _ _ h4), fun a h => hR.sub a (Msub a h), hR.ex, GR.nil fun i d h => hng i d (lsm i _ h)⟩,
   fun a h=>h,fun b o h _=>h,fun a h=>.inl h,fun a h=>h,hR.ex,fun a h=>hR.sub a (Msub a h),fun a h=>.inl h,fun i v h=>?_,fun i v h=>?_,fun a ⟨i,xs,h1,h2⟩=>⟨i,gar i xs _ h1 h2⟩⟩
  ·obtain⟨v,h1,h2⟩:=hR.dat i x (lm _ _ (lsm _ _ h))
   exact⟨v,vsm _ _ h1,h2⟩
  ·obtain⟨a,us,h1,h2,h3,h4⟩:=hR.mt i x (lm _ _ (lsm _ _ h))
   refine⟨a,us,vsm _ _ h1,⟨i,x,lsm _ _ h,?_⟩,h3,h4⟩
   obtain⟨v,h5,h6⟩:=F5 h1
   cases h6;exact h5
  ·obtain⟨a,us,h1,h2⟩:=hR.cst i x (lm _ _ (lsm _ _ h))
   exact⟨a,us,vsm _ _ h1,h2⟩
  ·obtain⟨xs,h1,h2⟩:=arg i v h
   exact vsm _ _ (by rw[List.getElem?_map,h2];rfl)
  ·obtain⟨xs,h1,h2⟩:=arg i v h
   refine⟨xs,?_⟩
   rw[List.getElem?_append_left (by rw[List.length_map];exact(List.getElem?_eq_some_iff.mp h1).1)]
   exact lm _ _ h1
 have hnp:ar.length<=np:=by
  show((ls.zip vs).map _).length<=np
  rw[List.length_map,List.length_zip]
  omega
 -- the end
 have done:∀{S' M' τ' σ' H' d v} {ls1:List L},RF K ⟨S,Mx,H,ar⟩ S' M' τ' σ' H'->fin ls τ'=some ls1->(r,ls')=(d,ls1)->Res K fr S H H' d v->Q v H':=fun {S' M' τ' σ' H' d v ls1} f hf er res=>by
  cases er
  have k:Keep S H S H':=fun b o hn e=>⟨hn,f.old b o e fun z=>hn (hR.sub b (Msub b z))⟩
  refine q v H' ⟨?_,fun i x h=>?_,fun i x h=>?_,fun i x h=>?_,fun i j xs ys a h1 h2 h3 h4=>?_,hR.sub,fun a h=>f.r.ex a (f.sS a h),GR.nil fun i d h=>?_⟩ (fun b o hn e=>f.old b o e fun z=>hn (Msub b z)) res
  ·rw[List.length_map,List.length_map,Og hf,hvl]
  ·obtain⟨l,h1,h2⟩:=F5 h
   cases h2
   have:=JD hf h1
   obtain⟨v,h3,h4⟩:=hR.dat i x (lm _ _ this)
   exact⟨v,h3,h4.mono k.same⟩
  ·obtain⟨l,h1,h2⟩:=F5 h
   cases h2
   obtain⟨⟨ys,h3⟩,h4⟩:=VR hf h1
   obtain⟨a,us,h5,h6,h7,h8⟩:=f.r.mt i x h4
   obtain⟨b,ws,g1,g2,_⟩:=hR.mt i ys (lm _ _ h3)
   obtain⟨u,g3,g4⟩:=F5 g1
   cases g4
   have:=f.par i _ (gar i ys _ h3 g3)
   rw[h5]at this;cases this
   exact⟨a,us,g1,g2,h7,h8.mono (Jf f.sS)⟩
  ·obtain⟨l,h1,h2⟩:=F5 h
   cases h2
   have:=JD hf h1
   obtain⟨a,us,h3,h4,h5⟩:=hR.cst i x (lm _ _ this)
   exact⟨a,us,h3,k.same.seq h4,h5.mono k.same⟩
  ·obtain⟨l1,g1,g2⟩:=F5 h1
   obtain⟨l2,g3,g4⟩:=F5 h2
   cases g2;cases g4
   obtain⟨⟨zs,h5⟩,_⟩:=VR hf g1
   obtain⟨⟨ws,h6⟩,_⟩:=VR hf g3
   exact hR.inj i j zs ws a (lm _ _ h5) (lm _ _ h6) h3 h4
  ·obtain⟨l,h1,h2⟩:=F5 h
   cases h2
   exact JD hf h1
 refine hb ⟨S,Mx,H,ar⟩ S Mx _ _ H _ o hnp f0 e1 ?_
 cases o with
 |nx τ' =>
  cases fr with
  |false =>
   obtain⟨ls1,e2,e⟩:=oM e
   intro S' M' σ' H' f k
   exact done f e2 e.symm rfl
  |true=>cases e
 |bk τ'=>cases e
 |ct τ'=>cases e
 |rt d τ' =>
  obtain⟨ls1,e2,e⟩:=oM e
  intro S' M' σ' H' v f res
  exact done f e2 e.symm res
end DL
end
section
namespace DL
open PySem L2 PyProof.Rows
variable {K:KW}
def B9:List PyData->Option PyData
 |[.list xs]=>some (.int xs.length)
 |[.tuple xs]=>some (.int xs.length)
 |[.str x]=>if x.length<=sizeLine then some (.int x.length) else none
 |_=>none
theorem Cn:BR K false (fun xs H Q=>∃x n,xs=[x]/\gw K x H n/\Q (.int n) H) B9:=by
 intro S H vs ds d Q _ l e q
 unfold B9 at e
 split at e
 ·cases e
  obtain⟨v,us,rfl,⟨a,ws,rfl,h,lw⟩,iu⟩:=l
  cases (show us=[] from iu)
  exact⟨_,ws.length,rfl,.inl ⟨ws,SqL.of (hid_iff.mp h).2,rfl⟩,q _ H (fun _ _ e=>e) (by rw[lw.length];rfl)⟩
 ·cases e
  obtain⟨v,us,rfl,⟨a,ws,rfl,h,lw⟩,iu⟩:=l
  cases (show us=[] from iu)
  exact⟨_,ws.length,rfl,.inr ⟨ws,Same.tup same_hid h,rfl⟩,q _ H (fun _ _ e=>e) (by rw[lw.length];rfl)⟩
 ·split at e
  ·rename_i hz
   cases e
   obtain⟨v,us,rfl,iv,iu⟩:=l
   cases (show us=[] from iu)
   cases (show v = .str _ from iv)
   exact⟨_,_,rfl,⟨hz,rfl⟩,q _ H (fun _ _ e=>e) rfl⟩
  ·cases e
 ·cases e
def f1(g:Int->Int):List PyData->Option PyData
 |[.int i]=>some (.int (g i))
 |_=>none
def f2(g:Int->Int->Int):List PyData->Option PyData
 |[.int i,.int j]=>some (.int (g i j))
 |_=>none
theorem c_1{g:Int->Int}:BR K false (fun xs H Q=>∃i,xs=[.int i]/\Q (.int (g i)) H) (f1 g):=by
 intro S H vs ds d Q _ l e q
 unfold f1 at e
 split at e
 ·cases e
  obtain⟨v,us,rfl,iv,iu⟩:=l
  cases (show us=[] from iu)
  cases (show v = .int _ from iv)
  exact⟨_,rfl,q _ H (fun _ _ e=>e) rfl⟩
 ·cases e
def R8:=f1 fun i=>if i<0 then -i else i
def R6:=f2 fun i j=>if j>i then j else i
def R5:=f2 fun i j=>if j<i then j else i
theorem cG:BR K false (fun xs H Q=>∃i,xs=[.int i]/\Q (.int (if i<0 then -i else i)) H) R8:=c_1
def R7:List PyData->Option PyData
 |[.int i]=>some (.int i)
 |[.bool b]=>some (.int (if b then 1 else 0))
 |_=>none
def QA:List PyData->Option (List Int)
 |[]=>some []
 |.int i::r=>(QA r).map (i::·)
 |_::_=>none
def QQ:List Int->Int
 |[]=>0
 |[x]=>x
 |x::y::r=>if x<=QQ (y::r) then x else QQ (y::r)
def QR:List Int->Int
 |[]=>0
 |[x]=>x
 |x::y::r=>if QR (y::r)<=x then x else QR (y::r)
theorem PN:∀{ns:List Int},ns≠[]->QQ ns∈ns/\∀b∈ns,QQ ns<=b
 |[],h=>absurd rfl h
 |[x],_=>⟨List.mem_cons_self,fun b hb=>by simp at hb;rw[hb];exact Int.le_refl _⟩
 |x::y::r,_=>by
  obtain⟨h1,h2⟩:=PN (ns:=y::r) (by simp)
  rw[QQ]
  by_cases h:x<=QQ (y::r)
  ·rw[if_pos h]
   refine⟨List.mem_cons_self,fun b hb=>?_⟩
   rcases List.mem_cons.mp hb with e|e
   ·rw[e];exact Int.le_refl _
   ·exact Int.le_trans h (h2 b e)
  ·rw[if_neg h]
   refine⟨List.mem_cons_of_mem _ h1,fun b hb=>?_⟩
   rcases List.mem_cons.mp hb with e|e
   ·rw[e];omega
   ·exact h2 b e
theorem PQ:∀{ns:List Int},ns≠[]->QR ns∈ns/\∀b∈ns,b<=QR ns
 |[],h=>absurd rfl h
 |[x],_=>⟨List.mem_cons_self,fun b hb=>by simp at hb;rw[hb];exact Int.le_refl _⟩
 |x::y::r,_=>by
  obtain⟨h1,h2⟩:=PQ (ns:=y::r) (by simp)
  rw[QR]
  by_cases h:QR (y::r)<=x
  ·rw[if_pos h]
   refine⟨List.mem_cons_self,fun b hb=>?_⟩
   rcases List.mem_cons.mp hb with e|e
   ·rw[e];exact Int.le_refl _
   ·exact Int.le_trans (h2 b e) h
  ·rw[if_neg h]
   refine⟨List.mem_cons_of_mem _ h1,fun b hb=>?_⟩
   rcases List.mem_cons.mp hb with e|e
   ·rw[e];omega
   ·exact h2 b e
theorem dF{ns:List Int}{m:Int}(h1:m∈ns)(h2:∀b∈ns,m<=b):QQ ns=m:=by
 obtain⟨a,b⟩:=PN (ns:=ns) (by intro z;rw[z]at h1;simp at h1)
 have:=b m h1
 have:=h2 _ a
 omega
theorem dH{ns:List Int}{m:Int}(h1:m∈ns)(h2:∀b∈ns,b<=m):QR ns=m:=by
 obtain⟨a,b⟩:=PQ (ns:=ns) (by intro z;rw[z]at h1;simp at h1)
 have:=b m h1
 have:=h2 _ a
 omega
theorem PU:∀{ns:List Int} {vs:List Value},Vals (ns.map V.int) vs->IntsAre vs ns
 |[],_,h=>by cases h;exact .nil
 |n::ns,_,h=>by
  cases h with
  |cons r rr =>
   obtain⟨t,rfl⟩:=r
   exact .cons n t (PU rr)
theorem VJ{H:Hp}:∀{ds:List PyData} {vs:List V} {ns:List Int},IsL K H ds vs->QA ds=some ns->vs=ns.map V.int
 |[],_,_,h,e=>by cases e;exact h
 |.int i::r,_,_,⟨v,us,e1,iv,l⟩,e=>by
  obtain⟨ms,e2,e⟩:=oM e
  subst e
  cases (show v = .int i from iv)
  rw[e1,VJ l e2]
  rfl
 |.none::_,_,_,_,e=>by cases e
 |.bool _::_,_,_,_,e=>by cases e
 |.str _::_,_,_,_,e=>by cases e
 |.list _::_,_,_,_,e=>by cases e
 |.tuple _::_,_,_,_,e=>by cases e
 |.dict _::_,_,_,_,e=>by cases e
def eO(K:KW):List V->Hp->VK->Prop:=fun xs H Q=>∃a ns,xs=[.ref a]/\SqL K H a (ns.map V.int)/\ns≠[]/\Q (.int (QQ ns)) H
def eP(K:KW):List V->Hp->VK->Prop:=fun xs H Q=>∃a ns,xs=[.ref a]/\SqL K H a (ns.map V.int)/\ns≠[]/\Q (.int (QR ns)) H
theorem Zw{X:Cx}(hc:X.calm=true):J8 X (.builtin "min") (eO (Mv X)):=by
 intro pins s σ H xs us Q I r h
 obtain⟨a,ns,rfl,hs,hne,q⟩:=h
 obtain⟨u,rfl,ru⟩:=NA r
 cases ru
 obtain⟨its,rv,p,hz⟩:=I.list hs
 have hi:=PU rv
 obtain⟨xs,e⟩:=hi.allInts.items
 have hns:ns=xs.toList.map (·.1):=by rw[<- hi.numsOf,<- nums_intItems,<- e]
 have hsz:0<xs.size:=by
  have:0<ns.length:=List.length_pos_iff.mpr hne
  rw[hns,List.length_map,Array.length_toList]at this;exact this
 have hl:=p.isList
 rw[e]at hl
 refine min_intList (I.ok.hd hc) hl hsz fun v h' tk hv hk=>?_
 obtain⟨t,rfl⟩:=intItems_at hv
 obtain⟨h1,h2⟩:=argBest_lt (numAt xs) (xs.size-1)
 refine⟨.int (QQ ns),H,I.kept hk,⟨t,?_⟩,q⟩
 rw[dF (m:=numAt xs (argBest (fun i j=>decide (numAt xs i<numAt xs j)) (xs.size-1)))]
 ·rw[hns,numAt_eq];exact getD_mem (by rw[List.length_map,Array.length_toList];omega)
 ·intro b hb
  rw[hns]at hb
  obtain⟨j,hj,rfl⟩:=mem_getD hb
  rw[List.length_map,Array.length_toList]at hj
  rw[<- numAt_eq];exact h2 j (by omega)
theorem Zx{X:Cx}(hc:X.calm=true):J8 X (.builtin "max") (eP (Mv X)):=by
 intro pins s σ H xs us Q I r h
 obtain⟨a,ns,rfl,hs,hne,q⟩:=h
 obtain⟨u,rfl,ru⟩:=NA r
 cases ru
 obtain⟨its,rv,p,hz⟩:=I.list hs
 have hi:=PU rv
 obtain⟨xs,e⟩:=hi.allInts.items
 have hns:ns=xs.toList.map (·.1):=by rw[<- hi.numsOf,<- nums_intItems,<- e]
 have hsz:0<xs.size:=by
  have:0<ns.length:=List.length_pos_iff.mpr hne
  rw[hns,List.length_map,Array.length_toList]at this;exact this
 have hl:=p.isList
 rw[e]at hl
 refine max_intList (I.ok.hd hc) hl hsz fun v h' tk hv hk=>?_
 obtain⟨t,rfl⟩:=intItems_at hv
 obtain⟨h1,h2⟩:=argBest_gt (numAt xs) (xs.size-1)
 refine⟨.int (QR ns),H,I.kept hk,⟨t,?_⟩,q⟩
 rw[dH (m:=numAt xs (argBest (fun i j=>decide (numAt xs i>numAt xs j)) (xs.size-1)))]
 ·rw[hns,numAt_eq];exact getD_mem (by rw[List.length_map,Array.length_toList];omega)
 ·intro b hb
  rw[hns]at hb
  obtain⟨j,hj,rfl⟩:=mem_getD hb
  rw[List.length_map,Array.length_toList]at hj
  rw[<- numAt_eq];exact h2 j (by omega)
def Yq:List PyData->Option PyData
 |[.list xs]=>(QA xs).bind fun ns=>if ns=[] then none else some (.int (QQ ns))
 |_=>none
def Yr:List PyData->Option PyData
 |[.list xs]=>(QA xs).bind fun ns=>if ns=[] then none else some (.int (QR ns))
 |_=>none
theorem gY:BR K false (eO K) Yq:=by
 intro S H vs ds d Q _ l e q
 unfold Yq at e
 split at e
 ·obtain⟨ns,e1,e⟩:=oB e
  split at e
  ·cases e
  ·rename_i hne
   cases e
   obtain⟨v,us,rfl,⟨a,ws,rfl,h,lw⟩,iu⟩:=l
   cases (show us=[] from iu)
   rw[VJ lw e1]at h
   exact⟨a,ns,rfl,SqL.of (hid_iff.mp h).2,hne,q _ H (fun _ _ e=>e) rfl⟩
 ·cases e
theorem gZ:BR K false (eP K) Yr:=by
 intro S H vs ds d Q _ l e q
 unfold Yr at e
 split at e
 ·obtain⟨ns,e1,e⟩:=oB e
  split at e
  ·cases e
  ·rename_i hne
   cases e
   obtain⟨v,us,rfl,⟨a,ws,rfl,h,lw⟩,iu⟩:=l
   cases (show us=[] from iu)
   rw[VJ lw e1]at h
   exact⟨a,ns,rfl,SqL.of (hid_iff.mp h).2,hne,q _ H (fun _ _ e=>e) rfl⟩
 ·cases e
def FO:List PyData->Option PyData
 |[.list xs]=>some (.list xs)
 |[.tuple xs]=>some (.list xs)
 |_=>none
theorem cF:BR K true (fun xs H Q=>∃p ys,xs=[.ref p]/\(SqL K H p ys\/SqT K H p ys)/\∀l,H l=none->Q (.ref l) (upd H l (.lst ys))) FO:=by
 intro S H vs ds d Q _ l e q
 unfold FO at e
 split at e
 ·cases e
  obtain⟨v,us,rfl,⟨a,ws,rfl,h,lw⟩,iu⟩:=l
  cases (show us=[] from iu)
  exact⟨a,ws,rfl,.inl (SqL.of (hid_iff.mp h).2),fun p hp=>q _ _ (CA hp _) (OA hp lw)⟩
 ·cases e
  obtain⟨v,us,rfl,⟨a,ws,rfl,h,lw⟩,iu⟩:=l
  cases (show us=[] from iu)
  exact⟨a,ws,rfl,.inr (Same.tup same_hid h),fun p hp=>q _ _ (CA hp _) (OA hp lw)⟩
 ·cases e
def tyN:PyData->String
 |.none=>"NoneType"
 |.bool _=>"bool"
 |.int _=>"int"
 |.str _=>"str"
 |.list _=>"list"
 |.tuple _=>"tuple"
 |.dict _=>"dict"
def iL(K:KW):List V->Hp->VK->Prop:=fun xs H Q=>∃x T d b,xs=[x,.ty T]/\Is K H d x/\PySem.W.kitOne K (.type (tyN d)) (.type T)=some b/\Q (.bl b) H
theorem CU{X:Cx}:J8 X (.builtin "isinstance") (iL (Mv X)):=by
 intro pins s σ H xs us Q I r h
 obtain⟨x,T,d,b,rfl,ix,k,q⟩:=h
 obtain⟨u,w',rfl,rx,rT⟩:=hV r
 cases (show w'=Value.type T from rT)
 have fin:∀tk,EP X pins σ Q (.bool b) { s with toks:=tk }:=fun tk=>⟨.bl b,H,I.tok _,rfl,q⟩
 cases d with
 |none=>cases (show x = .non from ix);exact Km I rx .non k fin
 |bool y=>cases (show x = .bl y from ix);exact Km I rx (.bl y) k fin
 |int y=>cases (show x = .int y from ix);exact Km I rx (.int y) k fin
 |str y=>cases (show x = .str y from ix);exact Km I rx (.str y) k fin
 |list y=>obtain⟨a,vs,rfl,h,_⟩:=ix;exact Km I rx (.lst h) k fin
 |tuple y =>
  obtain⟨a,vs,rfl,h,_⟩:=ix
  cases (show u=Value.ref a from rx)
  obtain⟨its,_,⟨o,h1,h2,_⟩,_⟩:=I.tuple h
  exact PySem.W.kia_one PySem.W.kitx_tuple I.kIn ⟨o,h1,h2⟩ k (fun z=>nomatch z) fin
 |dict y =>
  obtain⟨a,ts,rfl,⟨ep,h⟩,_⟩:=ix
  cases (show u=Value.ref a from rx)
  obtain⟨⟨_,_,_,xs,pr,o,es,ho,he,hd,hes⟩,_,_⟩:=(show ObjOk X.prog X.w H s.heap a (.ext (cg a ts ep)) from I.hok a _ h)
  exact PySem.W.kia_one PySem.W.kitx_dict I.kIn ⟨o,ho,he.1⟩ k (fun z=>nomatch z) fin
def iU(T t:String):Bool:=t==T||(T=="int"&&t=="bool")
def iV(T:String)(d:PyData):Bool:=iU T (tyN d)
def fX(T:String):Bool:=["int","bool","str","list","tuple"].contains T
theorem Zi{T t:String}(hT:T∈["int","bool","str","list","tuple"])(ht:t∈["NoneType","bool","int","str","list","tuple","dict"]):PySem.W.kitOne K (.type t) (.type T)=some (iU T t):=by
 simp only[List.mem_cons,List.not_mem_nil,or_false]at hT ht
 rcases hT with rfl|rfl|rfl|rfl|rfl<;>rcases ht with rfl|rfl|rfl|rfl|rfl|rfl|rfl<;>first
  |exact bH _
  |exact gF (by decide +kernel) (by decide +kernel) (by decide +kernel)
theorem dI{T:String}{d:PyData}(h:fX T=true):PySem.W.kitOne K (.type (tyN d)) (.type T)=some (iV T d) :=
 Zi (by simpa[fX] using h) (by cases d<;>simp[tyN])
def Gk(T:String)(a:DX)(τ:DS):Option (PyData×DS):=(a τ).bind fun p=>if fX T then some (.bool (iV T p.1),p.2) else none
theorem IX{T:String}{fr:Bool}{t:TE}{a:DX}(ha:E K t fr a):E K (tCB (iL K) (Gn t (Gn (tC (.ty T)) Mr))) false (Gk T a):=by
 refine⟨fun τ d τ' e=>?_,?_⟩
 ·unfold Gk at e
  obtain⟨⟨x,τ1⟩,e1,e⟩:=oB e
  split at e
  ·cases e;exact ha.like _ _ _ e1
  ·cases e
 intro S M τ σ H Q d τ' r e q
 unfold Gk at e
 obtain⟨⟨x,τ1⟩,e1,e⟩:=oB e
 split at e
 ·rename_i hT
  cases e
  refine ha.weak.run S M τ σ H _ x _ r e1 fun v H1 r1 c1 i1=>?_
  exact⟨v,T,x,_,rfl,Is.mono same_hid i1,dI hT,q _ H1 r1 c1 rfl⟩
 ·cases e
def EO(i j:Nat)(a:DA)(τ:DS):Option Out:=(a τ).bind fun p=>(Cv p.1).bind fun ds=>match ds with
 |[x,y]=>(dN i x p.2).bind fun τ1=>(dN j y τ1).map .nx
 |_=>none
theorem fN{np:Nat}{fr:Bool}{i j:Nat}{ta:TA}{a:DA}(ha:A K ta a):B K np (hX i j ta) fr (EO i j a):=by
 intro F S M τ σ H D out hnp f ee q
 unfold EO at ee
 obtain⟨⟨x,τ1⟩,e1,ee⟩:=oB ee
 obtain⟨ds,e2,ee⟩:=oB ee
 split at ee
 ·rename_i x y
  obtain⟨τ2,e3,ee⟩:=oB ee
  obtain⟨τ3,e4,ee⟩:=oM ee
  cases ee
  refine ha.run S M τ σ H _ _ τ1 f.r e1 fun vs H1 r1 c1 i1=>?_
  obtain⟨v,us,rfl,iv,w,us',rfl,iw,iu⟩:=Hz i1 e2
  cases (show us'=[] from iu)
  refine⟨v,w,rfl,?_⟩
  have f1:=f.step r1 c1 (ha.like _ _ _ e1)
  refine(AX (K:=K) (i:=i)).run S M τ1 σ H1 v x τ2 (fun σ' H'=>D.nx (σ'.set j (some w)) H') r1 iv e3 fun σ2 r2 k2=>?_
  have f2:=f1.stay r2 ((AX (K:=K) (i:=i)).ms _ _ _ e3) k2
  refine(AX (K:=K) (i:=j)).run S M τ2 σ2 H1 w y τ3 (fun σ' H'=>D.nx σ' H') r2 iw e4 fun σ3 r3 k3=>?_
  exact q S M σ3 H1 (f2.stay r3 ((AX (K:=K) (i:=j)).ms _ _ _ e4) k3) (c1.keep f.r.sub)
 ·cases ee
end DL
end
section
namespace DL
open PySem L2
variable {K:KW}
def Fh(i:Nat)(f:DT)(τ:DS):Option (Bool×DS):=match τ[i]? with
 |some (some (.m xs))=>(f (τ.set i (some (.d (.list xs))))).bind fun q=>if q.2.all okM then some (q.1,q.2.set i (some (.m xs))) else none
 |some (some (.k xs))=>(f (τ.set i (some (.d (.dict (Tc xs)))))).bind fun q=>if q.2.all okM then some (q.1,q.2.set i (some (.k xs))) else none
 |_=>none
theorem SN{i:Nat}{f:DT}{τ:DS}{d:Bool}{τ':DS}(e:Fh i f τ=some (d,τ')):∃w τ1,τ[i]?=some (some (Ow.L w))/\f (τ.set i (some (.d w.D)))=some (d,τ1)/\τ1.all okM=true/\τ'=τ1.set i (some w.L):=by
 unfold Fh at e
 split at e
 ·rename_i xs hx
  obtain⟨⟨z,τ1⟩,e1,e⟩:=oB e
  dsimp only at e
  split at e
  ·rename_i h
   cases e
   exact⟨.l xs,τ1,hx,e1,h,rfl⟩
  ·cases e
 ·rename_i xs hx
  obtain⟨⟨z,τ1⟩,e1,e⟩:=oB e
  dsimp only at e
  split at e
  ·rename_i h
   cases e
   exact⟨.t xs,τ1,hx,e1,h,rfl⟩
  ·cases e
 ·cases e
theorem YE{i:Nat}{t:TT}{f:DT}(h:T K t f):T K t (Fh i f):=by
 refine⟨fun τ d τ' e=>?_,?_⟩
 ·obtain⟨xs,τ1,e1,e2,_,rfl⟩:=SN e
  exact Rf e1 (h.like _ _ _ e2)
 intro S M τ σ H Q d τ' r e q
 obtain⟨xs,τ1,e1,e2,ok,rfl⟩:=SN e
 obtain⟨p,us,hp,hM,hl,ll⟩:=r.mt i xs e1
 refine h.run _ _ _ σ H _ d τ1 (frz r e1 hp) e2 fun H' r' c=>?_
 exact q H' (aD r e1 hp r' (h.like _ _ _ e2) c ok) (fun b o hn e=>c b o (fun z=>hn z.1) e)
def Ek(τ:DS):Option (Bool×DS):=some (true,τ)
theorem N8:T K hW Ek:=by
 refine⟨fun τ d τ' e=>?_,?_⟩
 ·cases e;exact .refl
 intro S M τ σ H Q d τ' r e q
 cases e
 exact q H r .refl
def e7(N':List Str)(own:Nat)(fr:List Nat)(scope:Scope)(N:List Str)(sc:Scope):Bool :=
 (scope.kind==.function)&&decide (N'.length=own+fr.length)&&(scope.names.all fun y=>y.2 != .cell)&&(scope.names.all fun y=>y.2 != .local||scope.names.lookup y.1==some .local) &&
 (scope.names.all fun y=>y.2 != .free||sc.names.lookup y.1==some .cell||sc.names.lookup y.1==some .free) &&
 (fr.zipIdx.all fun p=>match N'[own+p.2]?,N[p.1]? with|some x,some y=>decide (x=y)&&scope.names.lookup x==some .free|_,_=>false)
theorem II{X:Cx}{N':List Str}{own:Nat}{fr:List Nat}{scope:Scope}{N:List Str}{sc:Scope}(hN:X.N=N)(hs:X.env.scope=sc)(h:e7 N' own fr scope N sc=true):Z2 X N' own fr scope:=by
 unfold e7 at h
 simp only[Bool.and_eq_true]at h
 obtain⟨⟨⟨⟨⟨h1,h2⟩,h3⟩,h4⟩,h5⟩,h6⟩:=h
 subst hN hs
 refine⟨eq_of_beq h1,of_decide_eq_true h2,fun y hy=>?_,fun y hy e=>?_,fun x hx=>?_,fun k j e=>?_⟩
 ·have:=List.all_eq_true.mp h3 y hy
  intro z
  rw[z]at this
  simp at this
 ·have:=List.all_eq_true.mp h4 y hy
  rw[e]at this
  simpa using this
 ·have:=List.all_eq_true.mp h5 _ hx
  simpa using this
 ·have hm:(j,k)∈fr.zipIdx:=by
   rw[List.mem_zipIdx_iff_getElem?]
   exact e
  have:=List.all_eq_true.mp h6 _ hm
  dsimp only at this
  split at this
  ·rename_i x y hx hy
   rw[Bool.and_eq_true]at this
   have e1:x=y:=of_decide_eq_true this.1
   subst e1
   exact⟨x,hx,hy,eq_of_beq this.2⟩
  ·cases this
end DL
end
section
namespace DL
open PySem L2
theorem Bt{τ:DS}:fin [] τ=some []:=by cases τ<;>rfl
theorem DK{x:PyData}{ls:List L}{o:Option L}{τ:DS}:fin (.d x::ls) (o::τ)=(fin ls τ).map (.d x::·):=rfl
theorem DM{x:List PyData}{ls:List L}{o:Option L}{τ:DS}:fin (.c x::ls) (o::τ)=(fin ls τ).map (.c x::·):=rfl
theorem DJ{x xs:List PyData}{ls:List L}{τ:DS}:fin (.m x::ls) (some (.m xs)::τ)=(fin ls τ).map (.m xs::·):=rfl
theorem A6{fr:Bool}{np nl:Nat}{b:DB}{ls ls':List L}{d:PyData}{τ:DS}(h:b (ls.map some++List.replicate nl none)=some (.rt d τ))(hl:ls.length=np)(hf:fin ls τ=some ls'):BW fr np nl b ls=some (d,ls'):=by
 unfold BW
 rw[if_pos hl,h]
 show(fin ls τ).map _=_
 rw[hf]
 rfl
theorem AV{a b:DB}{τ τ1:DS}(h:a τ=some (.nx τ1)):AY a b τ=b τ1:=by
 unfold AY
 rw[h]
 rfl
theorem Ic{a b:DB}{τ τ1:DS}{d:PyData}(h:a τ=some (.rt d τ1)):AY a b τ=some (.rt d τ1):=by
 unfold AY
 rw[h]
 rfl
theorem BI{e:DX}{g:DG}{τ τ1 τ2:DS}{d:PyData}(h:e τ=some (d,τ1))(k:g d τ1=some τ2):Am e g τ=some (.nx τ2):=by
 unfold Am
 rw[h]
 show(g d τ1).map _=_
 rw[k]
 rfl
theorem Bp{e:DX}{τ τ1:DS}{d:PyData}(h:e τ=some (d,τ1)):A0 e τ=some (.rt d τ1):=by
 unfold A0
 rw[h]
 rfl
theorem Je{c:DT}{a b:DB}{τ τ1:DS}(h:c τ=some (true,τ1)):A4 c a b τ=a τ1:=by
 unfold A4
 rw[h]
 rfl
theorem EC{c:DT}{a b:DB}{τ τ1:DS}(h:c τ=some (false,τ1)):A4 c a b τ=b τ1:=by
 unfold A4
 rw[h]
 rfl
theorem AZ{G:List L->Option (PyData×List L)}{a:DA}{τ τ1:DS}{rs:List Ar}{ds:List PyData}{r:PyData}{ls:List L}(h:a τ=some (rs,τ1))(k:Cv rs=some ds)(g:G (ds.map L.d)=some (r,ls)):AU G a τ=some (r,τ1):=by
 unfold AU
 rw[h]
 show(Cv rs).bind _=_
 rw[k]
 show(G (ds.map L.d)).map _=_
 rw[g]
 rfl
theorem SX{i:Nat}{G:List L->Option (PyData×List L)}{a:DA}{τ τ1:DS}{rs:List Ar}{ds:List PyData}{r:PyData}{ls:List L}{xs:List PyData}(h:a τ=some (rs,τ1))(k:Cv rs=some ds)(m:τ1[i]?=some (some (.c xs)))(g:G (.c xs::ds.map L.d)=some (r,ls)):Bj i G a τ=some (r,τ1):=by
 unfold Bj
 rw[h]
 show(Cv rs).bind _=_
 rw[k]
 show(match τ1[i]? with|some (some (.c xs))=>_|_=>_)=_
 rw[m]
 show(G (.c xs::ds.map L.d)).map _=_
 rw[g]
 rfl
theorem Hd{it:DI}{g:DG}{b:DB}{τ τ1:DS}{ds:List PyData}(h:it τ=some (ds,τ1)):Ia it g b τ=Df g b ds τ1:=by
 unfold Ia
 rw[h]
 rfl
theorem UC{α:Type}{enc:α->PyData}{g:DG}{b:DB}(J:List α->DS->Prop):∀{xs pre:List α} {τ:DS},J pre τ->(∀x pre τ,x∈xs->J pre τ->∃τ1 τ2,g (enc x) τ=some τ1/\b τ1=some (.nx τ2)/\J (pre++[x]) τ2)->∃τ',Df g b (xs.map enc) τ=some (.nx τ')/\J (pre++xs) τ'
 |[],pre,τ,h0,_=>⟨τ,rfl,by rw[List.append_nil];exact h0⟩
 |x::xs,pre,τ,h0,h=>by
  obtain⟨τ1,τ2,e1,e2,h1⟩:=h x pre τ List.mem_cons_self h0
  obtain⟨τ',e3,h3⟩:=UC J (xs:=xs) (pre:=pre++[x]) (τ:=τ2) h1 (fun y p t hy hj=>h y p t (List.mem_cons_of_mem _ hy) hj)
  refine⟨τ',?_,by rw[List.append_assoc]at h3;exact h3⟩
  rw[List.map_cons,Df,e1]
  show(b τ1).bind _=_
  rw[e2]
  exact e3
theorem VI{α:Type}{enc:α->PyData}{g:DG}{c:DT}{e:DX}(J:DS->Prop)(p:α->Bool)(f:α->PyData):∀{xs:List α} {acc:List PyData} {τ:DS},J τ ->
  (∀x τ,x∈xs->J τ->∃τ1 τ2,g (enc x) τ=some τ1/\c τ1=some (p x,τ2)/\(p x=false->J τ2)/\(p x=true->∃τ3,e τ2=some (f x,τ3)/\J τ3))->∃τ',HY g c e (xs.map enc) acc τ=some (acc++(xs.filter p).map f,τ')
 |[],acc,τ,h0,_=>⟨τ,by simp[HY]⟩
 |x::xs,acc,τ,h0,h=>by
  obtain⟨τ1,τ2,e1,e2,hf,ht⟩:=h x τ List.mem_cons_self h0
  have hr:∀y t,y∈xs->J t->_:=fun y t hy hj=>h y t (List.mem_cons_of_mem _ hy) hj
  cases hp:p x with
  |false =>
   obtain⟨τ',e3⟩:=VI J p f (xs:=xs) (acc:=acc) (τ:=τ2) (hf hp) hr
   refine⟨τ',?_⟩
   rw[List.map_cons,HY,e1]
   show(c τ1).bind _=_
   rw[e2,hp]
   show HY g c e (xs.map enc) acc τ2=_
   rw[e3,List.filter_cons,hp]
   rfl
  |true =>
   obtain⟨τ3,e4,h4⟩:=ht hp
   obtain⟨τ',e3⟩:=VI J p f (xs:=xs) (acc:=acc++[f x]) (τ:=τ3) h4 hr
   refine⟨τ',?_⟩
   rw[List.map_cons,HY,e1]
   show(c τ1).bind _=_
   rw[e2,hp]
   show(e τ2).bind _=_
   rw[e4]
   show HY g c e (xs.map enc) (acc++[f x]) τ3=_
   rw[e3,List.filter_cons,hp,List.append_assoc]
   rfl
theorem gS{own:Nat}{fr:List Nat}{it:DI}{g:DG}{c:DT}{e:DX}{τ τ1 τb:DS}{ds acc:List PyData}(h:it τ=some (ds,τ1))(hz:ds.length<=sizeLine)(hm:(fr.all fun j=>!isM τ1 j)=true)(hl:HY g c e ds [] (Tq own fr τ1)=some (acc,τb)):dLC own fr it g c e τ=some (.list acc,τ1):=by
 unfold dLC
 rw[h]
 show(if ds.length<=sizeLine/\(fr.all fun j=>!isM τ1 j)=true then _ else _)=_
 rw[if_pos ⟨hz,hm⟩,hl]
 rfl
theorem sz{n:Nat}(h:n<=1000):n<=sizeLine:=Nat.le_trans h (by decide)
theorem sz'{n:Nat}(h:n<=1000):(n<=sizeLine)=True:=eq_true (sz h)
theorem cJ{m:Int}(h0:0<m)(h1:m<10 ^ 70):Bd 8000 m:=by
 have:Bd 240 m:=Bd.of (m:=10 ^ 70) (by omega) (by omega) (by decide)
 exact this.mono (by decide)
theorem b9{K:KW}{H:Hp}{a:Addr}{xs:List V}(h:SqL K H a xs):SqL K (hid (fun _=>False) H) a xs:=Same.seq (fun b o e=>hid_iff.mpr ⟨fun z=>z,e⟩) h
theorem WY{K:KW}{H:Hp}:∀ns:List Int,IsL K H (ns.map PyData.int) (ns.map V.int)
 |[]=>rfl
 |_::ns=>⟨_,_,rfl,rfl,WY ns⟩
structure Enc{α:Type}[DecidableEq α](enc:α->PyData):Prop where
 eqv:∀a b,PyData.eqv (enc a) (enc b)=decide (a=b)
 can:∀a,(enc a).canLay0=true
 dep:∀a,(enc a).depth<=20
 fix:∀a,GN (enc a)=true
section
variable {α:Type} [DecidableEq α] {enc:α->PyData}
theorem Enc.ok(h:Enc enc)(a:α):okD (enc a)=true:=by
 unfold okD SeqAt.shaped
 rw[Bool.and_eq_true]
 exact⟨h.can a,decide_eq_true (Nat.le_trans (h.dep a) (by decide))⟩
theorem Enc.canL(h:Enc enc):∀xs:List α,PyData.canLayAll0 (xs.map enc)=true
 |[]=>rfl
 |x::xs=>by
  rw[List.map_cons,PyData.canLayAll0,h.can,Enc.canL h xs];rfl
theorem Enc.depL(h:Enc enc):∀xs:List α,PyData.depthAll (xs.map enc)<=20
 |[]=>Nat.zero_le _
 |x::xs=>by
  rw[List.map_cons,PyData.depthAll]
  have:=h.dep x
  have:=Enc.depL h xs
  omega
theorem Enc.okL(h:Enc enc)(xs:List α):okD (.list (xs.map enc))=true:=by
 unfold okD SeqAt.shaped
 rw[Bool.and_eq_true,PyData.canLay0,PyData.depth]
 exact⟨h.canL xs,decide_eq_true (by have:=h.depL xs;omega)⟩
theorem Enc.eqvL(h:Enc enc):∀xs ys:List α,PyData.eqvAll (xs.map enc) (ys.map enc)=decide (xs=ys)
 |[],[]=>rfl
 |[],_::_=>rfl
 |_::_,[]=>rfl
 |x::xs,y::ys=>by
  rw[List.map_cons,List.map_cons,PyData.eqvAll,h.eqv,Enc.eqvL h xs ys]
  by_cases e:x=y
  ·subst e
   by_cases e':xs=ys
   ·subst e';simp
   ·simp[e']
  ·simp[e]
theorem Enc.eqL(h:Enc enc)(xs ys:List α):PyData.eqv (.list (xs.map enc)) (.list (ys.map enc))=decide (xs=ys):=by
 rw[PyData.eqv];exact h.eqvL xs ys
theorem Enc.any(h:Enc enc)(x:α):∀xs:List α,((xs.map enc).any fun y=>PyData.eqv y (enc x))=decide (x∈xs)
 |[]=>by simp
 |y::ys=>by
  rw[List.map_cons,List.any_cons,h.eqv,Enc.any h x ys]
  by_cases e:y=x
  ·subst e;simp
  ·have:¬x=y:=fun z=>e z.symm
   simp[e,this]
theorem Enc.fixL(h:Enc enc):∀xs:List α,fixDs (xs.map enc)=true
 |[]=>rfl
 |x::xs=>by rw[List.map_cons,fixDs,h.fix,Enc.fixL h xs];rfl
theorem Enc.fEq(h:Enc enc)(a b:α):DL.fEq (enc a) (enc b)=some (.bool (decide (a=b))):=by
 unfold DL.fEq;rw[h.ok,h.ok,h.eqv];rfl
theorem Enc.fNe(h:Enc enc)(a b:α):DL.fNe (enc a) (enc b)=some (.bool (!decide (a=b))):=by
 unfold DL.fNe;rw[h.ok,h.ok,h.eqv];rfl
theorem Enc.fEqL(h:Enc enc)(a b:List α):DL.fEq (.list (a.map enc)) (.list (b.map enc))=some (.bool (decide (a=b))):=by
 unfold DL.fEq;rw[h.okL,h.okL,h.eqL];rfl
theorem Enc.fNeL(h:Enc enc)(a b:List α):DL.fNe (.list (a.map enc)) (.list (b.map enc))=some (.bool (!decide (a=b))):=by
 unfold DL.fNe;rw[h.okL,h.okL,h.eqL];rfl
theorem Enc.fIn(h:Enc enc)(a:α)(xs:List α):DL.fIn false (enc a) (.list (xs.map enc))=some (.bool (decide (a∈xs))):=by
 simp only[DL.fIn,h.ok,h.okL,h.any,Bool.and_self,if_true,Bool.false_eq_true,if_false]
theorem Enc.fNotIn(h:Enc enc)(a:α)(xs:List α):DL.fIn true (enc a) (.list (xs.map enc))=some (.bool (!decide (a∈xs))):=by
 simp only[DL.fIn,h.ok,h.okL,h.any,Bool.and_self,if_true]
end
theorem encI:Enc (α:=Int) PyData.int:=⟨fun a b=>by rw[PyData.eqv];by_cases h:a=b<;>simp[h],fun _=>rfl,fun _=>by rw[PyData.depth];decide,fun _=>rfl⟩
def ec(p:Int×Int):PyData:=.tuple [.int p.1,.int p.2]
theorem encC:Enc ec:=by
 refine⟨fun a b=>?_,fun _=>rfl,fun a=>?_,fun _=>rfl⟩
 ·unfold ec
  simp only[PyData.eqv,PyData.eqvAll,Bool.and_true]
  obtain⟨a1,a2⟩:=a
  obtain⟨b1,b2⟩:=b
  by_cases h1:a1=b1
  ·by_cases h2:a2=b2<;>simp[h1,h2]
  ·simp[h1]
 ·unfold ec;simp[PyData.depth,PyData.depthAll]
structure Bx where
 x:Int
 y:Int
 w:Int
 h:Int
 deriving DecidableEq
def eb(b:Bx):PyData:=.tuple [.int b.x,.int b.y,.int b.w,.int b.h]
end DL
end
section
namespace DL
open PySem L2
def rng(lo:Int)(n:Nat):List Int:=(List.range n).map fun(k:Nat)=>lo+(k:Int)
theorem Tw(lo:Int)(n:Nat):Lm lo n=(rng lo n).map PyData.int:=by
 unfold Lm rng
 rw[List.map_map]
 rfl
theorem dG{lo v n:Int}:v∈rng lo n.toNat↔lo<=v/\v<lo+n:=by
 unfold rng
 rw[List.mem_map]
 constructor
 ·rintro⟨k,hk,rfl⟩
  rw[List.mem_range]at hk
  omega
 ·rintro⟨h1,h2⟩
  exact⟨(v-lo).toNat,by rw[List.mem_range];omega,by omega⟩
abbrev Cl:=Int×Int
def jT(x v:Int)(w:Nat):List Cl:=(rng x w).map fun u=>(u,v)
def cells(b:Bx):List Cl:=(rng b.y b.h.toNat).flatMap fun v=>jT b.x v b.w.toNat
def inB(b:Bx)(p:Cl):Prop:=b.x<=p.1/\p.1<b.x+b.w/\b.y<=p.2/\p.2<b.y+b.h
instance {b:Bx} {p:Cl}:Decidable (inB b p):=by unfold inB;infer_instance
def nM(o:Option L):Prop:=(∀xs,o≠some (.m xs))/\∀xs,o≠some (.k xs)
theorem CM:nM none:=⟨fun xs z=>(nomatch z),fun xs z=>(nomatch z)⟩
theorem C6{x:PyData}:nM (some (.d x)):=⟨fun xs z=>(nomatch z),fun xs z=>(nomatch z)⟩
theorem Em{i:Nat}{d:PyData}{τ:DS}{o:Option L}(h:τ[i]?=some o)(hn:nM o):dN i d τ=some (τ.set i (some (.d d))):=by
 unfold dN
 rw[h]
 cases o with
 |none=>rfl
 |some l=>cases l with
  |m xs=>exact absurd rfl (hn.1 xs)
  |k xs=>exact absurd rfl (hn.2 xs)
  |d x=>rfl
  |c x=>rfl
  |g x=>rfl
end DL
end
section
namespace DL
open PySem L2
variable {K:KW}
def isC(τ:DS)(j:Nat):Bool:=match τ[j]? with
 |some (some (.c _))=>true
 |_=>false
def dAS(i:Nat)(r:DA)(τ:DS):Option (List Ar×DS):=if (isM τ i||isC τ i)=true then (r τ).map fun q=>(.s i::q.1,q.2) else none
def mkL(τ:DS):List Ar->Option (List L)
 |[]=>some []
 |.d x::r=>(mkL τ r).map (.d x::·)
 |.s i::r=>match τ[i]? with
  |some (some (.m xs))=>(mkL τ r).map (.m xs::·)
  |some (some (.c xs))=>(mkL τ r).map (.c xs::·)
  |_=>none
def nMb:L->Bool
 |.m _=>false
 |.k _=>false
 |_=>true
def N0(k i:Nat)(G:List L->Option (PyData×List L))(a:DA)(τ:DS):Option (PyData×DS):=(a τ).bind fun p=>(mkL p.2 p.1).bind fun ls=>match p.1[k]?,ls[k]? with
 |some (.s j),some (.m _)=>if j=i/\(ls.set k (.d .none)).all nMb=true then (G ls).bind fun q=>match q.2[k]? with
   |some (.m xs)=>some (q.1,p.2.set i (some (.m xs)))
   |_=>none
  else none
 |_,_=>none
theorem P9{α:Type}{enc:α->PyData}{g:DG}{b:DB}{all:List α}(J:List α->DS->Prop)(h:∀pre x post τ,all=pre++x::post->J pre τ->∃τ1 τ2,g (enc x) τ=some τ1/\b τ1=some (.nx τ2)/\J (pre++[x]) τ2) :
  ∀{xs pre:List α} {τ:DS},all=pre++xs->J pre τ->∃τ',Df g b (xs.map enc) τ=some (.nx τ')/\J all τ'
 |[],pre,τ,e,h0=>⟨τ,rfl,by rw[e,List.append_nil];exact h0⟩
 |x::xs,pre,τ,e,h0=>by
  obtain⟨τ1,τ2,e1,e2,h1⟩:=h pre x xs τ e h0
  obtain⟨τ',e3,h3⟩:=P9 J h (xs:=xs) (pre:=pre++[x]) (τ:=τ2) (by rw[e,List.append_assoc];rfl) h1
  refine⟨τ',?_,h3⟩
  rw[List.map_cons,Df,e1]
  show(b τ1).bind _=_
  rw[e2]
  exact e3
theorem IH{α:Type}{enc:α->PyData}{g:DG}{b:DB}{xs:List α}{τ:DS}(J:List α->DS->Prop)(h0:J [] τ)(h:∀pre x post τ,xs=pre++x::post->J pre τ->∃τ1 τ2,g (enc x) τ=some τ1/\b τ1=some (.nx τ2)/\J (pre++[x]) τ2) :
  ∃τ',Df g b (xs.map enc) τ=some (.nx τ')/\J xs τ':=P9 J h (pre:=[]) rfl h0
theorem Tz{n:Int}{τ τ1:DS}{a:DA}(h:a τ=some ([.d (.int n)],τ1))(h0:-100000<=n)(h1:n<=100000):dR1 a τ=some ((rng 0 n.toNat).map PyData.int,τ1):=by
 unfold dR1
 rw[h]
 show(if -(2 ^ 62)<=n/\n<2 ^ 62 then some (Lm 0 n.toNat,τ1) else none)=_
 rw[if_pos (by omega),Tw]
theorem F7{α:Type}{xs pre post:List α}{x:α}(e:xs=pre++x::post):pre.length<xs.length:=by rw[e,List.length_append,List.length_cons];omega
theorem ZD{α:Type}{xs pre post:List α}{x:α}(e:xs=pre++x::post):x∈xs:=by rw[e];exact List.mem_append_right _ List.mem_cons_self
end DL
end
section
namespace DL
open PySem PySem.Spec L2 PyProof.Rows
section
variable {prog:Program} {w:World} {A:Around} {s:Shared} {R:Result->Shared->Prop}
variable {I:Addr} {fp wr:List Addr} {G:Array GenState->Array GenState->Prop} {n:Nat} {P:Nat->Value->Prop} {St:Nat->Shared->Prop}
end
section
variable {prog:Program} {w:World} {A:Around} {E:Value->Shared->Prop} {s:Shared}
variable {I:Addr} {fp wr:List Addr} {G:Array GenState->Array GenState->Prop} {n:Nat} {P:Nat->Value->Prop} {St:Nat->Shared->Prop}
end
variable {K:KW}
def Xx(f:DX)(τ:DS):Option (PyData×DS):=(f τ).bind fun p=>match p.1 with
 |.list xs=>some (.list xs.reverse,p.2)
 |_=>none
theorem JU:okM none=true:=rfl
theorem RO{x:PyData}:okM (some (.d x))=true:=rfl
theorem RP{x:List PyData}:okM (some (.c x))=true:=rfl
theorem RN{x:List PyData}:okM (some (.m x))=fixDs x:=rfl
theorem GS{o:Option L}(h:nM o):okM o=true:=by
 cases o with
 |none=>rfl
 |some l=>cases l with
  |m xs=>exact absurd rfl (h.1 xs)
  |k xs=>exact absurd rfl (h.2 xs)
  |d x=>rfl
  |c x=>rfl
  |g x=>rfl
end DL
end
section
namespace Srt
open PySem PySem.W PyProof.Rows
variable {n:Nat} {r:Nat->Nat->Bool}
end Srt
end
section
namespace Srt
open PySem PySem.W PyProof.Rows HT
section
variable {prog:Program} {w:World} {A:Around} {E:Value->Shared->Prop} {s:Shared}
end
end Srt
end
section
namespace DL
open PySem L2 PyProof.Rows
variable {K:KW}
end DL
end
section
namespace DL
open PySem L2
variable {K:KW}
abbrev DO:=DS->Option (Option Int×DS)
structure OO(K:KW)(t:TO)(f:DO):Prop where
 like:∀τ b τ',f τ=some (b,τ')->Like τ τ'
 run:∀S M τ σ H (Q:Option Int->Hp->Prop) b τ',R K S M τ σ H->f τ=some (b,τ')->(∀H',R K S M τ' σ H'->Chg M H H'->Q b H')->t σ H Q
def Kw:DO:=fun τ=>some (none,τ)
def dPt(f:DX):DO:=fun τ=>(f τ).bind fun p=>match p.1 with
 |.int i=>some (some i,p.2)
 |_=>none
theorem NC:OO K YG Kw:=⟨fun τ b τ' e=>by cases e;exact Like.refl,fun S M τ σ H Q b τ' r e q=>by cases e;exact q H r Chg.refl⟩
theorem Sv{fr:Bool}{t:TE}{f:DX}(h:E K t fr f):OO K (eI t) (dPt f):=by
 refine⟨fun τ b τ' e=>?_,?_⟩
 ·unfold dPt at e
  obtain⟨⟨x,τ1⟩,e1,e⟩:=oB e
  dsimp only at e
  split at e
  ·cases e;exact h.like _ _ _ e1
  ·cases e
 intro S M τ σ H Q b τ' r e q
 unfold dPt at e
 obtain⟨⟨x,τ1⟩,e1,e⟩:=oB e
 dsimp only at e
 split at e
 ·rename_i i
  cases e
  refine h.run S M τ σ H _ _ _ r e1 fun v H' r' c iv=>?_
  exact⟨i,(show v = .int i from r.isr iv),q H' r' c⟩
 ·cases e
def Vf(xs:List PyData)(lo hi:Option Int):List PyData:=(xs.drop (HT.sIx xs.length 0 lo)).take (HT.sIx xs.length xs.length hi-HT.sIx xs.length 0 lo)
theorem WZ{H:Hp}:∀{xs:List PyData} {vs:List V} (n:Nat),IsL K H xs vs->IsL K H (xs.drop n) (vs.drop n)
 |_,_,0,h=>h
 |[],_,n+1,h=>by rw[show _=[] from h];rfl
 |x::xs,_,n+1,⟨v,us,e,_,l⟩=>by subst e;exact WZ n l
theorem WW{H:Hp}:∀{xs:List PyData} {vs:List V} (n:Nat),IsL K H xs vs->IsL K H (xs.take n) (vs.take n)
 |_,_,0,h=>rfl
 |[],_,n+1,h=>by rw[show _=[] from h];rfl
 |x::xs,_,n+1,⟨v,us,e,i,l⟩=>by subst e;exact⟨v,_,rfl,i,WW n l⟩
theorem Yj{H:Hp}{xs:List PyData}{vs:List V}{lo hi:Option Int}(h:IsL K H xs vs):IsL K H (Vf xs lo hi) (Tn vs lo hi):=by
 unfold Vf Tn
 rw[h.length]
 exact WW _ (WZ _ h)
def dSl(f:DX)(lo hi:DO)(τ:DS):Option (PyData×DS):=(f τ).bind fun p=>(lo p.2).bind fun l=>(hi l.2).bind fun u=>match p.1 with
 |.list xs=>some (.list (Vf xs l.1 u.1),u.2)
 |_=>none
theorem ik{fr:Bool}{te:TE}{tl th:TO}{f:DX}{lo hi:DO}(h:E K te fr f)(hl:OO K tl lo)(hh:OO K th hi):E K (tSl (iH K) te tl th) true (dSl f lo hi):=by
 refine⟨fun τ d τ' e=>?_,?_⟩
 ·unfold dSl at e
  obtain⟨⟨x,τ1⟩,e1,e⟩:=oB e
  obtain⟨⟨l,τ2⟩,e2,e⟩:=oB e
  obtain⟨⟨u,τ3⟩,e3,e⟩:=oB e
  dsimp only at e
  split at e
  ·cases e;exact((h.like _ _ _ e1).trans (hl.like _ _ _ e2)).trans (hh.like _ _ _ e3)
  ·cases e
 intro S M τ σ H Q d τ' r e q
 unfold dSl at e
 obtain⟨⟨x,τ1⟩,e1,e⟩:=oB e
 obtain⟨⟨l,τ2⟩,e2,e⟩:=oB e
 obtain⟨⟨u,τ3⟩,e3,e⟩:=oB e
 dsimp only at e e2 e3
 cases x with
 |list xs =>
  cases e
  refine h.run S M τ σ H _ _ _ r e1 fun v1 H1 r1 c1 i1=>?_
  refine hl.run S M τ1 σ H1 _ _ _ r1 e2 fun H2 r2 c2=>?_
  refine hh.run S M τ2 σ H2 _ _ _ r2 e3 fun H3 r3 c3=>?_
  have i1':Is K (hid S H3) (.list xs) v1:=((r.isr i1).mono (c2.keep r1.sub).same).mono (c3.keep r2.sub).same
  obtain⟨a,vs,rfl,ha,la⟩:=i1'
  refine⟨a,vs,rfl,SqL.of (hid_iff.mp ha).2,fun p hp=>?_⟩
  have s:=CA hp (HO.lst (Tn vs l u))
  exact q _ _ (r3.same s) (((c1.trans c2).trans c3).trans (.of s)) ((OA hp (Yj la)).back r3 ((c1.trans c2).trans c3))
 |_=>cases e
end DL
end
section
namespace L2
open PySem PySem.Spec PyProof.Rows
section
variable {X:Cx} {pins:List (Addr×Obj)} {σ:L2.St} {H:Hp} {s:Shared}
theorem Inv.turned2{t':Nat}{i1 i2:Addr}{h':Heap}(I:Inv X pins σ H s)(k:∀b o,b≠i1->b≠i2->s.heap.get? b=some o->h'.get? b=some o)(f1:N5 X pins H i1)(f2:N5 X pins H i2):Inv X pins σ H { s with heap:=h',toks:=t' }:=by
 obtain⟨a0,a1,a2,a3,a4,a5⟩:=f1
 obtain⟨b0,b1,b2,b3,b4,b5⟩:=f2
 have n1:∀b u,H b=some u->b≠i1:=fun b u e z=>by rw[z,a0]at e;cases e
 have n2:∀b u,H b=some u->b≠i2:=fun b u e z=>by rw[z,b0]at e;cases e
 refine I.step (g':=s.gens) (d':=s.drawn) (ch:=[i1,i2]) (fun b hb=>?_) (fun b o _ _ hc e _=>k b o (fun z=>hc (by simp[z])) (fun z=>hc (by simp[z])) e) (fun b o _ _ hc e _=>⟨o.slots,k b o (fun z=>hc (by simp[z])) (fun z=>hc (by simp[z])) e⟩) (fun _ _ _ _ n=>n)
  (fun b o hc e=>⟨o,k b o (fun z=>hc (by simp[z])) (fun z=>hc (by simp[z])) e⟩) (fun _ _ e=>e) (fun _ _ _ e=>e) (fun b ps e=>⟨#[],by rw[e];simp⟩) (fun m hm=>?_) (fun b u e=>?_) I.bare
 ·have e:b=i1\/b=i2:=by simpa using hb
  rcases e with e|e
  ·subst e;exact⟨a3,a1,a4,a5⟩
  ·subst e;exact⟨b3,b1,b4,b5⟩
 ·obtain⟨o,es,ep,ho,r⟩:=hm
  exact⟨o,es,ep,k _ o (Ne.symm a1) (Ne.symm b1) ho,r⟩
 ·refine(I.hok b u e).stay (fun c v hc q=>k c v ?_ ?_ q) (fun _ q=>q) fun _ _ q=>q
  ·rcases hc with z|z
   ·rw[z];exact n1 b u e
   ·exact n1 c _ z
  ·rcases hc with z|z
   ·rw[z];exact n2 b u e
   ·exact n2 c _ z
end
def Ite(K:PySem.W.Frag)(a:Addr):It :=
 ⟨fun i H=>∃xs x,SqL K H a xs/\xs[i]?=some x,fun i H x H'=>∃(p:Addr) (v:V),H p=none/\x = .ref p/\(∀xs,SqL K H a xs->xs[i]?=some v)/\H'=upd H p (.tup [.int i,v]),fun i H=>∃xs,SqL K H a xs/\xs.length<=i⟩
theorem Y8{P:Program}{w:World}{K:PySem.W.Frag}{elts:List Expr}{c1}{pos:Pos}(a e it:Addr)(hei:e≠it):Turn P w K (.Tuple elts c1 pos) (Ite K a) [e,it] e (fun i h=>(∃old,IsEnum h e it i old)/\h.IsListIter it a i) where
 mem:=by simp
 obj:=fun i h st b hb=>by
  have q:b=e\/b=it:=by simpa using hb
  obtain⟨⟨old,he⟩,o,ho,c,d⟩:=st
  rcases q with rfl|rfl
  ·exact⟨_,he,fun v z=>by cases z⟩
  ·exact⟨o,ho,fun v z=>by rw[d]at z;cases z⟩
 keep:=fun i h h' st k=>⟨let ⟨old,he⟩:=st.1;⟨old,k e (by simp) _ he⟩,st.2.at fun o q=>k it (by simp) o q⟩
 item:=by
  intro X hP hw hK hc i pins s σ H E I hf st hg
  subst hP hw hK
  obtain⟨xs,x,hq,hx⟩:=hg
  obtain⟨its,rv,p,hz⟩:=I.list hq
  obtain⟨u,hu,ru⟩:=rv.get hx
  obtain⟨⟨old,he⟩,hit⟩:=st
  refine wpAny_pyNext_enum_item he hit p.isList (x:=u) (by simpa using hu) hei fun h1 ho hit1 ht hs1 k1=>?_
  refine⟨_,rfl,wpAny_letOwnedTupleGo_enum (s:={ s with heap:=h1,toks:=s.toks+1 }) ho fun h2 he2 sb=>?_⟩
  have fr:H s.heap.objs.size=none:=I.hok.fresh (Nat.le_refl _)
  have hlt1:e<s.heap.objs.size:=Heap.lt_size he
  have hlt2:it<s.heap.objs.size:=by obtain⟨o,q,_⟩:=hit;exact Heap.lt_size q
  have I1:=I.laid (t':=s.toks+1) (a:=s.heap.objs.size) (o:=.tup [.int i,x]) (h':=s.heap.push { cls:=.type "tuple",data:=.seq #[.int i s.toks,u] }) (fun b o q=>Heap.get?_push_of_some _ q) (Nat.le_refl _)
   ⟨by show 2<=sizeLine;decide,[.int i s.toks,u],.cons ⟨_,rfl⟩ (.cons ru .nil),_,Heap.get?_push_size _ rfl,rfl,_,rfl⟩
  have fp:∀b∈[e,it],N5 X pins (upd H s.heap.objs.size (.tup [.int i,x])) b:=fun b hb=>by
   obtain⟨q0,q⟩:=hf b hb
   refine⟨?_,q⟩
   rw[CI (fun z=>?_)]
   ·exact q0
   ·have q:b=e\/b=it:=by simpa using hb
    rcases q with rfl|rfl
    ·exact absurd hlt1 (by rw[z];exact Nat.lt_irrefl _)
    ·exact absurd hlt2 (by rw[z];exact Nat.lt_irrefl _)
  have I2 := I1.turned2 (t' := s.toks + 1) (h' := h2) (i1 := e) (i2 := it) (fun b o ne ni q => by
   have e2:h2.get? b=h1.get? b:=sb.2 b ne
   rw[e2]
   by_cases hb:b=s.heap.objs.size
   ·subst hb
    have q':some ({ cls:=.type "tuple",data:=.seq #[.int i s.toks,u] }:Obj)=some o:=(Heap.get?_push_size s.heap (o:={ cls:=.type "tuple",data:=.seq #[.int i s.toks,u] }) rfl).symm.trans q
    rw[ht];exact q'
   ·have q':(s.heap.push { cls:=.type "tuple",data:=.seq #[.int i s.toks,u] }).get? b=some o:=q
    rw[Heap.get?_push_ne _ _ _ hb]at q'
    exact k1 b o ne ni q') (fp e (by simp)) (fp it (by simp))
  refine⟨.ref s.heap.objs.size,_,I2,rfl,⟨s.heap.objs.size,x,fr,rfl,fun ys hy=>by rw[I.list_inj hy hq];exact hx,rfl⟩,⟨⟨u,?_⟩,?_⟩,fun b hb=>(fp b hb).1⟩
  ·have:((i+1:Nat):Int)=(i:Int)+1:=by omega
   rw[this];exact he2
  ·exact hit1.at fun o q=>by
    have e2:h2.get? it=h1.get? it:=sb.2 it (Ne.symm hei)
    rw[e2];exact q
 done:=by
  intro X hP hw hK hc i pins s σ H E I hf st hg
  subst hP hw hK
  obtain⟨xs,hq,hx⟩:=hg
  obtain⟨its,rv,p,hz⟩:=I.list hq
  obtain⟨⟨old,he⟩,hit⟩:=st
  obtain⟨f0,f1,f2,f3,f4,f5⟩:=hf it (by simp)
  have hl:=rv.length
  exact wpAny_pyNext_enum_end (I.ok.hd hc) he hit p.isList (by simp;omega) fun h' eb=>⟨rfl,I.turned (t':=s.toks) (fun b o hb e=>eb b o hb e) f0 f1 f3 f4 f5⟩
 self:=fun _ _ _ _ _ st h=>let ⟨old,he⟩:=st.1;wpAny_pyIter_enum he h
section
variable {X:Cx} {elts:List Expr} {tp:Pos}
def fD(K:PySem.W.Frag)(ta:TA):TI:=fun σ H R=>ta σ H fun vs H1=>∃a,vs=[.ref a]/\(∃xs,SqL K H1 a xs)/\R (Ite K a) H1
theorem cc{a:Expr}{ta:TA}{p pos:Pos}{c1}(hg:Gl X "enumerate")(hm:X.mg "enumerate"=none)(ha:PA X [a] ta)(hn:("enumerate":Str)≠"__name__")(hdb:(("enumerate":Str)==("__debug__":Str))=false)(hs:starEach [a] X.env=[(false,eval a X.env)]:=by rfl) :
  PI X (.Tuple elts c1 tp) (.Call (.Name "enumerate" p) [a] [] pos) (fD X.K ta):=by
 intro pins s σ H R I h
 refine Call_ (Rg I hg hm boot_enumerate (PyProof.Rows.callWith_type1 (thn (ha pos pins s σ H _ I h) fun us s1 ⟨vs,H1,I1,r1,q1⟩=>?_) hs rfl) hn hdb)
 obtain⟨l,e,⟨xs,hq⟩,q⟩:=q1
 subst e
 obtain⟨u,rfl,ru⟩:=NA r1
 cases ru
 obtain⟨its,rv,pl,hz⟩:=I1.list hq
 refine call_enumerate_list pl.isList fun h' he hit hsz hk=>?_
 refine wpAny_pyIter_enum (s:={ s1 with heap:=h' }) he ?_
 have I2:Inv X pins σ H1 { s1 with heap:=h' }:=I1.kept (t':=s1.toks) hk
 refine⟨s1.heap.objs.size+1,[s1.heap.objs.size+1,s1.heap.objs.size],_,_,H1,rfl,I2,Y8 l (s1.heap.objs.size+1) s1.heap.objs.size (Nat.succ_ne_self _),⟨⟨_,he⟩,hit⟩,fun b hb=>?_,q⟩
 have e:b=s1.heap.objs.size+1\/b=s1.heap.objs.size:=by simpa using hb
 rcases e with rfl|rfl
 ·exact I1.fpOk (Nat.le_succ _) (I1.hok.fresh (Nat.le_succ _))
 ·exact I1.fpOk (Nat.le_refl _) (I1.hok.fresh (Nat.le_refl _))
end
end L2
end
section
namespace DL
open PySem L2
variable {K:KW}
def jM(K:KW)(S:Addr->Prop)(J:It)(H:Hp)(ds:List PyData):Prop:=∀(S2:Addr->Prop) (H2:Hp),Keep S H S2 H2->(∀a,H2 a=none->¬S2 a)->(∀(i:Nat) (d:PyData),ds[i]?=some d->J.go i H2/\∀x H3,J.yld i H2 x H3->Same H2 H3/\Is K (hid S2 H3) d x)/\∀i,ds.length<=i->J.stop i H2
structure IT2(K:KW)(wi:TI)(f:DI):Prop where
 like:∀τ ds τ',f τ=some (ds,τ')->Like τ τ'
 run:∀S M τ σ H (Q:It->Hp->Prop) ds τ',R K S M τ σ H->f τ=some (ds,τ')->(∀J H',R K S M τ' σ H'->Chg M H H'->jM K S J H' ds->Q J H')->wi σ H Q
def MV(k:Nat):List PyData->List PyData
 |[]=>[]
 |d::r=>.tuple [.int k,d]::MV (k+1) r
theorem UJ:∀(k:Nat) (ds:List PyData),(MV k ds).length=ds.length
 |_,[]=>rfl
 |k,_::r=>by rw[MV,List.length_cons,List.length_cons,UJ]
theorem UK:∀{k:Nat} {ds:List PyData} {i:Nat} {x:PyData},(MV k ds)[i]?=some x->∃d,ds[i]?=some d/\x = .tuple [.int ((k+i:Nat):Int),d]
 |_,[],i,_,e=>by simp[MV]at e
 |k,d::r,0,x,e=>by simp[MV]at e;exact⟨d,rfl,e.symm⟩
 |k,d::r,i+1,x,e=>by
  rw[MV,List.getElem?_cons_succ]at e
  obtain⟨d',h1,h2⟩:=UK e
  exact⟨d',by rw[List.getElem?_cons_succ];exact h1,by rw[h2,show k+1+i=k+(i+1) by omega]⟩
def dIE(f:DX)(τ:DS):Option (List PyData×DS):=(f τ).bind fun p=>match p.1 with
 |.list ds=>some (MV 0 ds,p.2)
 |_=>none
theorem dM{fr:Bool}{t:TE}{f:DX}(h:E K t fr f):IT2 K (fD K (Gn t Mr)) (dIE f):=by
 refine⟨fun τ d τ' e=>?_,?_⟩
 ·unfold dIE at e
  obtain⟨⟨x,τ1⟩,e1,e⟩:=oB e
  dsimp only at e
  split at e
  ·cases e;exact h.like _ _ _ e1
  ·cases e
 intro S M τ σ H Q ds τ' r e q
 unfold dIE at e
 obtain⟨⟨x,τ1⟩,e1,e⟩:=oB e
 cases x with
 |list ds =>
  cases e
  refine h.weak.run S M τ σ H _ _ _ r e1 fun v H1 r1 c1 i1=>?_
  have i1':Is K (hid S H1) (.list ds) v:=i1
  obtain⟨a,vs,rfl,hl,ll⟩:=i1'
  refine⟨a,rfl,⟨vs,SqL.of (hid_iff.mp hl).2⟩,q _ H1 r1 c1 fun S2 H2 k nS=>?_⟩
  have hl2:=k.same _ _ hl
  have ll2:=ll.mono k.same
  refine⟨fun i d e=>?_,fun i hi=>⟨vs,SqL.of (hid_iff.mp hl2).2,by rw[ll.length];rw[UJ]at hi;exact hi⟩⟩
  obtain⟨d',e',rfl⟩:=UK e
  obtain⟨u,h1,h2⟩:=ll2.get e'
  refine⟨⟨vs,u,SqL.of (hid_iff.mp hl2).2,h1⟩,?_⟩
  rintro x H3 ⟨p,v,hp,rfl,y,rfl⟩
  have:=y vs (SqL.of (hid_iff.mp hl2).2)
  rw[h1]at this;cases this
  have s:=CA hp (HO.tup [.int i,u])
  refine⟨s,⟨p,[.int i,u],rfl,.inl (.inl (hid_iff.mpr ⟨nS p hp,Bk⟩)),?_⟩⟩
  rw[Nat.zero_add]
  exact⟨_,_,rfl,rfl,_,_,rfl,h2.mono (Same.keep s).same,rfl⟩
 |_=>cases e
end DL
end
section
namespace DL
open PySem L2 PyProof.Rows
variable {K:KW}
end DL
end
section
namespace DL
open PySem L2
variable {K:KW}
end DL
end
section
namespace Stb
open PySem
end Stb
end
section
namespace Stb
open PySem SetTable
end Stb
end
section
namespace Stb
open PySem SetTable
end Stb
end
section
namespace Stb
open PySem SetTable
end Stb
end
section
namespace Stb
open PySem SetTable
end Stb
end
section
namespace Stb
open PySem PyProof.Rows SetTable
section
variable {prog:Program} {w:World} {A:Around} {E:Value->Shared->Prop} {s:Shared}
end
end Stb
end
section
namespace Stb
open PySem PyProof.Rows SetTable
section
variable {prog:Program} {w:World} {A:Around} {E:Value->Shared->Prop} {s:Shared}
end
end Stb
end
section
namespace Stb
open PySem PyProof.Rows SetTable
section
variable {prog:Program} {w:World} {A:Around} {E:Value->Shared->Prop} {s:Shared}
end
end Stb
end
section
namespace Stb
open PySem PyProof.Rows SetTable
section
variable {prog:Program} {w:World} {A:Around} {R:Result->Shared->Prop} {I:Addr} {fp wr:List Addr} {G:Array GenState->Array GenState->Prop} {n:Nat} {P:Nat->Value->Prop} {St:Nat->Shared->Prop}
end
end Stb
end
section
namespace Stb
open PySem PyProof.Rows SetTable
section
variable {prog:Program} {w:World} {A:Around} {E:Value->Shared->Prop} {s:Shared}
end
end Stb
end
section
namespace Stb
open PySem PyProof.Rows SetTable
section
variable {prog:Program} {w:World} {A:Around} {E:Value->Shared->Prop} {s:Shared}
end
end Stb
end
section
namespace Stb
open PySem PyProof.Rows SetTable
section
variable {prog:Program} {w:World} {A:Around} {E:Value->Shared->Prop} {s:Shared}
end
end Stb
end
section
namespace Stb
open PySem PyProof.Rows SetTable
section
variable {prog:Program} {w:World} {A:Around} {E:Value->Shared->Prop} {s:Shared}
end
end Stb
end
section
namespace Stb
open PySem PyProof.Rows SetTable
section
variable {prog:Program} {w:World} {A:Around} {E:Value->Shared->Prop} {s:Shared}
end
end Stb
end
section
namespace DL
open PySem L2 PyProof.Rows
variable {K:PySem.W.Frag}
end DL
end
section
namespace DL
open PySem L2 PyProof.Rows
variable {K:KW}
end DL
end
section
namespace DL
open PySem L2
def fF(i:Nat)(τ:DS):Nat:=match τ[i]? with
 |some (some (.d (.int s)))=>s.toNat+1
 |_=>0
end DL
end
section
namespace Dwk
open PySem
variable {prog:Program} {w:World} {A:Around} {E:Value->Shared->Prop} {s:Shared}
end Dwk
end
section
namespace DL
open PySem L2 PyProof.Rows
variable {K:PySem.W.Frag}
section
variable {X:Cx} {pins:List (Addr×Obj)} {σ:L2.St} {H:Hp} {s:Shared}
end
end DL
end
section
namespace DL
open PySem L2 PyProof.Rows
variable {K:KW}
def NU:PyData->PyData->Option PyData
 |.tuple (x::xs),.tuple (y::ys)=>if xs.length+ys.length+2<=sizeLine then some (.tuple (x::xs++y::ys)) else none
 |_,_=>none
theorem NX:OR K false (eS K) NU:=by
 intro S H x y dx dy d Q hS ix iy e q
 unfold NU at e
 split at e
 ·rename_i x1 xs y1 ys
  split at e
  ·rename_i hz
   cases e
   obtain⟨a,vs,rfl,ha,la⟩:=ix
   obtain⟨b,us,rfl,hb,lb⟩:=iy
   have l1:=la.length
   have l2:=lb.length
   rw[List.length_cons]at l1 l2
   refine⟨a,b,vs,us,rfl,rfl,Same.tup same_hid ha,Same.tup same_hid hb,fun z=>(by subst z;cases l1),by omega,fun z=>(by subst z;cases l2),fun _ p hp=>?_⟩
   have s:=CA hp (HO.tup (vs++us))
   refine q _ _ s ⟨p,vs++us,rfl,.inl (.inl (hid_iff.mpr ⟨hS p hp,Bk⟩)),?_⟩
   exact(Jd la lb).mono (Same.keep s).same
  ·cases e
 ·cases e
end DL
end
section
namespace DL
open PySem L2
variable {K:KW}
end DL
end
section
namespace L2
open PySem
end L2
namespace DL
open PySem L2
variable {K:KW}
end DL
end
section
namespace EnG
open PySem PyProof.Rows
section
variable {prog:Program} {w:World} {A:Around} {E:Value->Shared->Prop} {s:Shared}
end
end EnG
namespace EnG
open PySem PyProof.Rows
open Sem (wp)
open AutoSeq1 (wpAny_loadPart')
section
variable {prog:Program} {w:World} {A:Around} {E:Value->Shared->Prop} {s:Shared}
end
end EnG
namespace L2
open PySem PySem.Spec PyProof.Rows EnG
section
variable {X:Cx} {elts:List Expr} {tp:Pos}
end
end L2
end
section
namespace DL
open PySem L2 PyProof.Rows
variable {K:KW}
def Gx:PyData->PyData->Option PyData
 |.str x,.str y=>if x.length+y.length<=sizeLine then some (.str (x++y)) else none
 |_,_=>none
theorem O9:OR K false (fun x y H Q=>∃i j,x = .str i/\y = .str j/\i.length+j.length<=sizeLine/\Q (.str (i++j)) H) Gx:=by
 intro S H x y dx dy d Q _ ix iy e q
 unfold Gx at e
 split at e
 ·split at e
  ·rename_i hz
   cases e
   cases (show x = .str _ from ix)
   cases (show y = .str _ from iy)
   exact⟨_,_,rfl,rfl,hz,q _ H (fun _ _ e=>e) rfl⟩
  ·cases e
 ·cases e
def TZ:PyData->PyData->Option PyData
 |.str z,.int i=>if z.length<=sizeLine then (atI z.cps.toList i).map fun c=>.str ⟨#[c]⟩ else none
 |_,_=>none
theorem bB:OR K false iK TZ:=by
 intro S H x y dx dy d Q _ ix iy e q
 unfold TZ at e
 split at e
 ·split at e
  ·rename_i hz
   obtain⟨c,e1,rfl⟩:=oM e
   cases (show x = .str _ from ix)
   cases (show y = .int _ from iy)
   exact⟨_,_,c,rfl,rfl,hz,e1,q _ H (fun _ _ e=>e) rfl⟩
  ·cases e
 ·cases e
def VT:List PyData->Option PyData
 |[.list xs]=>some (.tuple xs)
 |[.tuple xs]=>some (.tuple xs)
 |_=>none
theorem di:BR K false (fun xs H Q=>∃p ys,xs=[.ref p]/\((SqL K H p ys/\∀l,H l=none->Q (.ref l) (upd H l (.tup ys)))\/(SqT K H p ys/\Q (.ref p) H))) VT:=by
 intro S H vs ds d Q hS l e q
 unfold VT at e
 split at e
 ·cases e
  obtain⟨v,us,rfl,⟨a,ws,rfl,h,lw⟩,iu⟩:=l
  cases (show us=[] from iu)
  refine⟨a,ws,rfl,.inl ⟨SqL.of (hid_iff.mp h).2,fun p hp=>?_⟩⟩
  have s:=CA hp (HO.tup ws)
  exact q _ _ s ⟨p,ws,rfl,.inl (.inl (hid_iff.mpr ⟨hS p hp,Bk⟩)),lw.mono (Same.keep s).same⟩
 ·cases e
  obtain⟨v,us,rfl,⟨a,ws,rfl,h,lw⟩,iu⟩:=l
  cases (show us=[] from iu)
  exact⟨a,ws,rfl,.inr ⟨Same.tup same_hid h,q _ H (fun _ _ e=>e) ⟨a,ws,rfl,h,lw⟩⟩⟩
 ·cases e
end DL
end
section
namespace L2
open PySem PySem.Spec PyProof.Rows
section
variable {X:Cx} {pos:Pos}
end
end L2
namespace DL
open PySem L2
variable {K:KW}
end DL
end
section
namespace DL
open PySem L2
variable {K:KW}
end DL
end
section
namespace L2
open PySem PySem.Spec PyProof.Rows
section
variable {X:Cx}
def tS(i:Int):Str:=toString i
end
end L2
namespace DL
open PySem L2 PyProof.Rows
variable {K:KW}
def Kt:List PyData->Option PyData
 |[.int i]=>if i.natAbs.log2<1920 then some (.str (tS i)) else none
 |_=>none
theorem X3:BR K false (fun xs H Q=>∃i,xs=[.int i]/\i.natAbs.log2<1920/\Q (.str (toString i)) H) Kt:=by
 intro S H vs ds d Q _ l e q
 unfold Kt at e
 split at e
 ·split at e
  ·rename_i hz
   cases e
   obtain⟨v,us,rfl,iv,iu⟩:=l
   cases (show us=[] from iu)
   cases (show v = .int _ from iv)
   exact⟨_,rfl,hz,q _ H (fun _ _ e=>e) rfl⟩
  ·cases e
 ·cases e
end DL
end
section
namespace L2
open PySem PySem.Spec PyProof.Rows
structure Pt(N:Addr->Prop)(fs:List Addr)(h h':Heap):Prop where
 same:∀b o,h.get? b=some o->¬N b->b∉fs->h'.get? b=some o
 slot:∀b o,h.get? b=some o->¬N b->∃sl,h'.get? b=some { o with slots:=sl }
 size:h.objs.size<=h'.objs.size
theorem Pt.trans{N:Addr->Prop}{fs:List Addr}{h h1 h2:Heap}(a:Pt N fs h h1)(b:Pt N fs h1 h2):Pt N fs h h2 :=
 ⟨fun c o e n f=>b.same c o (a.same c o e n f) n f,fun c o e n=>let ⟨_,e1⟩:=a.slot c o e n;let ⟨sl,e2⟩:=b.slot c _ e1 n;⟨sl,e2⟩,Nat.le_trans a.size b.size⟩
theorem Yo{N:Addr->Prop}{fs:List Addr}{h h' base:Heap}(p:Pt N fs h h'):∀{l:List Env},(∀b∈frs l,¬N b)->h.FunFrames base l->h'.FunFrames base l
 |[],_,_=>trivial
 |env::r,hn,⟨hk,⟨L,o,hf,hb,ho,hd⟩,hr⟩=>by
  have hL:L∈frs (env::r):=by unfold frs;rw[List.filterMap_cons,hf];exact List.mem_cons_self
  obtain⟨sl,e⟩:=p.slot L o ho (hn L hL)
  exact⟨hk,⟨L,_,hf,hb,e,hd⟩,Yo p (fun b hb=>hn b (by unfold frs;rw[List.filterMap_cons,hf];exact List.mem_cons_of_mem _ hb)) hr⟩
def NoCtx(o:Obj):Prop:=∃vs,o.data = .fields vs/\vs[2]?=some Value.none
theorem NoCtx.set{o:Obj}{v:Value}(h:NoCtx o):NoCtx (o.mapFields (·.setIfInBounds 1 v)):=by
 obtain⟨vs,d,e⟩:=h
 exact⟨_,Obj.data_mapFields d _,by rw[Array.getElem?_setIfInBounds_ne (by decide)];exact e⟩
def XAt(N:Addr->Prop)(h:Heap)(e:Addr)(C:Addr)(fl:Value):Prop :=
 ∃oe vs T oT ts,h.get? e=some oe/\(oe.cls = .ref C/\oe.dict=none/\NoCtx oe)/\oe.data = .fields vs/\vs[1]?=some (.ref T)/\N T/\T≠e/\h.get? T=some oT/\oT.data = .fields ts/\ts[3]?=some fl
theorem bD(o:Obj)(f:Array Value->Array Value):(o.mapFields f).cls=o.cls/\(o.mapFields f).dict=o.dict:=by
 obtain⟨c,d,dt,sl⟩:=o
 cases dt<;>exact⟨rfl,rfl⟩
section
variable {M:Model} {A:Around} {E:Value->Shared->Prop} {s:Shared} {N:Addr->Prop} {base:Heap} {env:Env} {outer:List Env} {L e C:Addr} {Q:Unit->Shared->Prop}
theorem Vn{oe:Obj}{vs:Array Value}{head:Value}{hadNext:Bool}(hfr:A.frames=some (env::outer))(hl:s.heap.FunFrames base (env::outer))(hf:env.frame=some L)
  (hNf:∀b∈frs (env::outer),¬N b) (hNn:∀b,s.heap.objs.size<=b->N b) (hNe:N e) (he:s.heap.get? e=some oe) (hc:oe.cls = .ref C/\oe.dict=none/\NoCtx oe) (hd:oe.data = .fields vs) (hsz:1<vs.size)
  (h:∀h',Pt N (frs (env::outer)) s.heap h'->XAt N h' e C (rawInt L)->Q () { s with heap:=h' }) :
  wpAny M A (do let a <- frameOf env;let pl <- entryPlaceOf L hadNext;let b <- EntryCells.newEntry head a .none (rawInt L) .none pl;setField (.ref e) 1 b) Q E s:=by
 have hef:e∉frs (env::outer):=fun z=>hNf e z hNe
 refine wpAny_bind (wpAny_frameOf_fun hfr hl hf fun h1 hs1=>?_)
 refine wpAny_bind (wpAny_entryPlaceOf fun pl hpl=>?_)
 unfold EntryCells.newEntry newFields
 refine wpAny_bind (wpAny_newObj_type ?_ (hpl.sizeOk5 _ _ _ _ _))
 have he1:h1.get? e=some oe:=(hs1.2.1 e hef).trans he
 have hz1:h1.objs.size=s.heap.objs.size:=hs1.1
 generalize hot:({ cls:=.type "traceback",dict:=none,data:=.fields ([head,.ref L,.none,rawInt L,.none]++(if pl.isEmpty then List.replicate 6 Value.none else pl)).toArray }:Obj)=ot
 have hotd:ot.data = .fields ([head,.ref L,.none,rawInt L,.none]++(if pl.isEmpty then List.replicate 6 Value.none else pl)).toArray:=by rw[<- hot]
 have he2:=Heap.get?_push_of_some (h:=h1) ot he1
 refine wpAny_setField he2 hd hsz (h _ ?_ ?_)
 ·have hTe:h1.objs.size≠e:=Nat.ne_of_gt (Heap.lt_size he1)
  refine⟨fun b o eb nb fb=>?_,fun b o eb nb=>?_,?_⟩
  ·have hb:b≠e:=fun z=>nb (z▸hNe)
   rw[Heap.get?_update_other _ _ (Ne.symm hb)]
   exact Heap.get?_push_of_some _ ((hs1.2.1 b fb).trans eb)
  ·have hb:b≠e:=fun z=>nb (z▸hNe)
   obtain⟨sl,q⟩:=hs1.2.2 b o eb
   exact⟨sl,by rw[Heap.get?_update_other _ _ (Ne.symm hb)];exact Heap.get?_push_of_some _ q⟩
  ·rw[Heap.size_after_update,Heap.size_push,hz1];exact Nat.le_succ _
 ·have hTe:h1.objs.size≠e:=Nat.ne_of_gt (Heap.lt_size he1)
  have hd3:=Obj.data_mapFields hd (·.setIfInBounds 1 (Value.ref h1.objs.size))
  have he3:=Heap.get?_update_self (Obj.mapFields (·.setIfInBounds 1 (Value.ref h1.objs.size))) he2 (Obj.isFreed_of_fields hd3)
  have hT3:=(Heap.get?_update_other (h1.push ot) (Obj.mapFields (·.setIfInBounds 1 (Value.ref h1.objs.size))) (Ne.symm hTe)).trans (Heap.get?_push_size h1 (Obj.isFreed_of_fields hotd))
  refine⟨_,_,h1.objs.size,_,_,he3,⟨(bD _ _).1.trans hc.1,(bD _ _).2.trans hc.2.1,hc.2.2.set⟩,hd3,by simp[hsz],hNn _ (by rw[hz1];exact Nat.le_refl _),hTe,hT3,hotd,?_⟩
  first|(simp;done)|(rcases hpl with rfl|⟨_,_,_,_,_,_,_,rfl⟩<;>simp)
theorem Z4{oe:Obj}{vs:Array Value}(hfr:A.frames=some (env::outer))(hl:s.heap.FunFrames base (env::outer))(hf:env.frame=some L)
  (hNf:∀b∈frs (env::outer),¬N b) (hNn:∀b,s.heap.objs.size<=b->N b) (hNe:N e) (he:s.heap.get? e=some oe) (hc:oe.cls = .ref C/\oe.dict=none/\NoCtx oe) (hd:oe.data = .fields vs) (h1:vs[1]?=some .none)
  (h:∀h',Pt N (frs (env::outer)) s.heap h'->XAt N h' e C (rawInt L)->Q () { s with heap:=h' }):wpAny M A (noteFrame (.ref e) env) Q E s:=by
 unfold noteFrame
 simp only[hf]
 refine wpAny_bind (wpAny_field he hd h1 ?_)
 rw[if_neg (by decide)]
 exact Vn hfr hl hf hNf hNn hNe he hc hd (Array.getElem?_eq_some_iff.mp h1).1 h
theorem cV(hfr:A.frames=some (env::outer))(hl:s.heap.FunFrames base (env::outer))(hf:env.frame=some L)
  (hNf:∀b∈frs (env::outer),¬N b) (hNn:∀b,s.heap.objs.size<=b->N b) (hNe:N e) (x:XAt N s.heap e C .none)
  (h:∀h',Pt N (frs (env::outer)) s.heap h'->XAt N h' e C (rawInt L)->Q () { s with heap:=h' }):wpAny M A (noteFrame (.ref e) env) Q E s:=by
 obtain⟨oe,vs,T,oT,ts,he,hc,hd,h1,hNT,hTe,hT,hdT,h3⟩:=x
 unfold noteFrame
 simp only[hf]
 refine wpAny_bind (wpAny_field he hd h1 ?_)
 rw[if_pos (show(Value.ref T != Value.none)=true from by simp)]
 refine wpAny_bind (wpAny_field hT hdT h3 ?_)
 rw[if_neg (show ¬((Value.none==rawInt L)=true) from by simp[rawInt])]
 refine wpAny_bind (wpAny_setField hT hdT (Array.getElem?_eq_some_iff.mp h3).1 ?_)
 have other:∀b,b≠T->(s.heap.update T (Obj.mapFields (·.setIfInBounds 3 Value.none))).get? b=s.heap.get? b:=fun b hb=>Heap.get?_update_other _ _ (Ne.symm hb)
 have hsz:(s.heap.update T (Obj.mapFields (·.setIfInBounds 3 Value.none))).objs.size=s.heap.objs.size:=Heap.size_after_update ..
 have p1:Pt N (frs (env::outer)) s.heap (s.heap.update T (Obj.mapFields (·.setIfInBounds 3 Value.none))) :=
  ⟨fun b o eb nb _=>(other b fun z=>nb (z▸hNT)).trans eb,fun b o eb nb=>⟨o.slots,(other b fun z=>nb (z▸hNT)).trans eb⟩,Nat.le_of_eq hsz.symm⟩
 refine Vn (s:={ s with heap:=s.heap.update T (Obj.mapFields (·.setIfInBounds 3 Value.none)) }) (base:=base) hfr (Yo p1 hNf hl) hf hNf (fun b hb=>hNn b (by rw[<- hsz];exact hb)) hNe ((other e (Ne.symm hTe)).trans he) hc hd (Array.getElem?_eq_some_iff.mp h1).1 fun h' p2 x2=>?_
 exact h h' (p1.trans p2) x2
theorem UY{fl:Value}{fs:List Addr}(x:XAt N s.heap e C fl)(hNe:N e)(h:∀h',Pt N fs s.heap h'->XAt N h' e C .none->Q () { s with heap:=h' }):wpAny M A (setFlight (.ref e) none) Q E s:=by
 obtain⟨oe,vs,T,oT,ts,he,hc,hd,h1,hNT,hTe,hT,hdT,h3⟩:=x
 have hsz3:3<ts.size:=(Array.getElem?_eq_some_iff.mp h3).1
 have other:∀b,b≠T->(s.heap.update T (Obj.mapFields (·.setIfInBounds 3 ((none:Option Addr).elim Value.none fun f=>rawInt f)))).get? b=s.heap.get? b :=
  fun b hb=>Heap.get?_update_other _ _ (Ne.symm hb)
 unfold setFlight
 refine wpAny_bind (wpAny_field he hd h1 ?_)
 rw[if_pos (show(Value.ref T != Value.none)=true from by simp)]
 refine wpAny_setField hT hdT hsz3 (h _ ⟨fun b o eb nb _=>(other b fun z=>nb (z▸hNT)).trans eb,fun b o eb nb=>⟨o.slots,(other b fun z=>nb (z▸hNT)).trans eb⟩,Nat.le_of_eq (Heap.size_after_update ..).symm⟩ ?_)
 exact⟨oe,vs,T,_,_,(other e (Ne.symm hTe)).trans he,hc,hd,h1,hNT,hTe,Heap.get?_update_self _ hT (Obj.isFreed_of_fields (Obj.data_mapFields hdT _)),Obj.data_mapFields hdT _,by simp[hsz3]⟩
end
end L2
end
section
namespace L2
open PySem PySem.Spec PyProof.Rows
theorem ObjOk.some{P:Program}{w:World}{H:Hp}{h:Heap}{a:Addr}{o:HO}(x:ObjOk P w H h a o):∃u,h.get? a=Option.some u:=by
 cases o with
 |lst xs=>obtain⟨_,_,_,_,e⟩:=x;exact⟨_,e⟩
 |tup xs=>obtain⟨_,_,_,o,e,_⟩:=x;exact⟨_,e⟩
 |dK kvs=>obtain⟨_,_,_,_,o,_,_,e,_⟩:=x;exact⟨_,e⟩
 |dT kvs=>obtain⟨_,_,_,_,o,_,_,e,_⟩:=x;exact⟨_,e⟩
 |set S n=>obtain⟨o,_,_,_,e,_⟩:=x;exact⟨_,e⟩
 |ins C dx fs=>obtain⟨_,_,_,e,_⟩:=x;exact⟨_,e⟩
 |own y=>obtain⟨_,e⟩:=x;exact⟨_,e⟩
 |xd fs=>obtain⟨_,⟨_,_,_,e,_⟩,_⟩:=x;exact⟨_,e⟩
 |rng lo hi=>obtain⟨_,_,_,e⟩:=x;exact⟨_,e⟩
 |frz ob u=>obtain⟨e,_⟩:=x;exact⟨_,e⟩
 |tbl ps=>exact⟨_,(show h.get? a=Option.some _ from x)⟩
 |met f y=>exact⟨_,(show h.get? a=Option.some _ from x)⟩
 |ext φ=>obtain⟨_,⟨_,e⟩,_⟩:=x;exact⟨_,e⟩
def Nw(h:Heap)(H:Hp):Addr->Prop:=fun b=>h.get? b=none/\H b=none
theorem XAt.mono{N N':Addr->Prop}{h:Heap}{e C:Addr}{fl:Value}(x:XAt N h e C fl)(k:∀b,N b->N' b):XAt N' h e C fl:=by
 obtain⟨oe,vs,T,oT,ts,he,hc,hd,h1,hNT,r⟩:=x
 exact⟨oe,vs,T,oT,ts,he,hc,hd,h1,k T hNT,r⟩
theorem Nw.fresh{P:Program}{w:World}{h h':Heap}{H:Hp}(hok:HOk P w H h')(k:∀b o,h.get? b=some o->∃o',h'.get? b=some o'){b:Addr}(hb:h'.objs.size<=b):Nw h H b:=by
 refine⟨?_,hok.fresh hb⟩
 cases q:h.get? b with
 |none=>rfl
 |some o =>
  obtain⟨o',e⟩:=k b o q
  exact absurd (Nat.lt_of_lt_of_le (Heap.lt_size e) hb) (Nat.lt_irrefl _)
def CXr(P:Program)(w:World):CXT:=fun outer H s E e s'=>∃(ea C:Addr) (H':Hp),e = .ref ea/\s'.os=s.os/\AllBare s'.gens/\Un (frs outer) [] H H' s.heap s'.heap/\HOk P w H' s'.heap/\Nw s.heap H' ea/\XAt (Nw s.heap H') s'.heap ea C .none/\E (.ref C) none H'
def Wu(X:Cx)(C:Addr)(E:XK):Prop:=∀(pins:List (Addr×Obj)) (σ:St) (H:Hp) (s:Shared) (h':Heap) (e:Addr) (vs:List Value),Inv X pins σ H s->Heap.MadeExcOf s.heap h' e (.ref C) vs->E (.ref C) none H->X.xe (.ref e) { s with heap:=h' }
theorem eE{N:Addr->Prop}{fs gs:List Addr}{H H1:Hp}{h h1 h2:Heap}(u:Un fs [] H H1 h h1)(p:Pt N gs h1 h2)(hN:∀b o,h.get? b=some o->¬N b)(hg:∀b o,h.get? b=some o->b∈gs->b∈fs):Un fs [] H H1 h h2 where
 keep:=fun b o q n hb hx=>p.same b o (u.keep b o q n hb hx) (hN b o q) fun z=>hb (hg b o q z)
 slot:=fun b o q n hb hx=>by
  obtain⟨sl,e⟩:=u.slot b o q n hb hx
  obtain⟨sl',e'⟩:=p.slot b _ e (hN b o q)
  exact⟨sl',e'⟩
 free:=u.free
 there:=fun b o q hx=>by
  obtain⟨o',e⟩:=u.there b o q hx
  obtain⟨sl',e'⟩:=p.slot b _ e (hN b o q)
  exact⟨_,e'⟩
 tups:=u.tups
 frzs:=u.frzs
 tbls:=u.tbls
theorem bN{P:Program}{w:World}{N:Addr->Prop}{gs:List Addr}{H:Hp}{h h':Heap}(hok:HOk P w H h)(p:Pt N gs h h')(hN:∀b,N b->H b=none)(hg:∀b∈gs,H b=none):HOk P w H h':=fun a o e=>by
 have tr:∀b x u,H b=some x->h.get? b=some u->h'.get? b=some u:=fun b x u q e1=>p.same b u e1 (fun z=>by rw[hN b z]at q;cases q) fun z=>by rw[hg b z]at q;cases q
 refine(hok a o e).stay (fun b u hb q=>?_) (fun _ q=>q) fun _ _ q=>q
 rcases hb with rfl|hb
 ·exact tr b o u e q
 ·exact tr b _ u hb q
theorem GC{P:Program}{w:World}{K:PySem.W.Frag}{mg:Str->Option Value}{base:Heap}{N:List Str}{qual:Str}{scope:Scope}{f:Addr}{cd:Value}{A:Around}{outer:List Env}{s:Shared}{H:Hp}{E:XK}{C:Addr} :
  Wu (Py (CXr P w) P w K mg base N qual scope f cd A outer s H E) C E:=by
 intro pins σ H1 s1 h' e vs I hx hE
 have hst:=I.stack
 have hfree:=I.stkFree
 have hfr:=I.ok.frames
 have hun:Un (frs outer) [] H H1 s.heap s1.heap:=I.base
 have hok:HOk P w H1 s1.heap:=I.hok
 have hlt:s.heap.objs.size<=s1.heap.objs.size:=I.sz
 change s1.heap.FunFrames base (envOfC qual scope s.heap.objs.size f cd::outer)at hst
 change ∀b∈frs (envOfC qual scope s.heap.objs.size f cd::outer),H1 b=none at hfree
 change (A.deeper (envOfC qual scope s.heap.objs.size f cd)).frames=some (envOfC qual scope s.heap.objs.size f cd::outer)at hfr
 generalize henv:envOfC qual scope s.heap.objs.size f cd=env at hst hfree hfr
 show wpAny (model P w) (A.deeper (envOfC qual scope s.heap.objs.size f cd)) (leaving (envOfC qual scope s.heap.objs.size f cd) (.ref e)) (fun _ s''=>CXr P w outer H s E (.ref e) s'') (fun e' s''=>CXr P w outer H s E e' s'') { s1 with heap:=h' }
 have hf:env.frame=some s.heap.objs.size:=by rw[<- henv];rfl
 rw[henv]
 obtain⟨t,he,_,_⟩:=hx.there
 have hNf:∀b∈frs (env::outer),¬Nw s1.heap H1 b:=fun b hb z=>by
  obtain⟨_,o,ho,_⟩:=hst.mem hb
  rw[z.1]at ho;cases ho
 have hok':HOk P w H1 h':=hok.kept hx.keeps
 have hNn:∀b,h'.objs.size<=b->Nw s1.heap H1 b:=fun b hb=>Nw.fresh hok' (fun c o q=>⟨o,hx.keeps c o q⟩) hb
 have hNe:Nw s1.heap H1 e:=by
  refine⟨hx.new,?_⟩
  cases q:H1 e with
  |none=>rfl
  |some u =>
   obtain⟨v,r⟩:=ObjOk.some (hok e u q)
   rw[hx.new]at r;cases r
 have hun':Un (frs outer) [] H H1 s.heap h':=hun.trans (Un.kept hx.keeps)
 have hold:∀b o,s.heap.get? b=some o->¬Nw s1.heap H1 b:=fun b o q z=>by
  obtain⟨o',r⟩:=hun.there b o q (by simp)
  rw[z.1]at r;cases r
 have hmono : ∀ b, Nw s1.heap H1 b -> Nw s.heap H1 b := fun b z => ⟨by
  cases q:s.heap.get? b with
  |none=>rfl
  |some o=>exact absurd z (hold b o q),z.2⟩
 have hl':h'.FunFrames base (env::outer):=hst.of_keeps fun b o q _=>⟨o,hx.keeps b o q,rfl⟩
 unfold leaving
 refine wpAny_bind (Z4 (s:={ s1 with heap:=h' }) (base:=base) (N:=Nw s1.heap H1) (C:=C) hfr hl' hf hNf hNn hNe he ⟨rfl,rfl,_,rfl,rfl⟩ rfl rfl fun h2 p1 x1=>?_)
 refine UY (fs:=frs (env::outer)) x1 hNe fun h3 p2 x2=>?_
 have p:=p1.trans p2
 refine⟨e,C,H1,rfl,I.os,I.bare,eE hun' p hold (fun b o q z=>?_),bN hok' p (fun b z=>z.2) hfree,hmono e hNe,x2.mono hmono,hE⟩
 unfold frs at z
 rw[List.filterMap_cons,hf]at z
 rcases List.mem_cons.mp z with z|z
 ·exact absurd (Heap.lt_size q) (by rw[z];exact Nat.lt_irrefl _)
 ·exact z
theorem Zo{K:PySem.W.Frag}{h:Heap}{C:Addr}{bmB:List Value}{newId:String}(X:K.In h)(q:PySem.W.excIn K C bmB newId=true) :
  ∃bm N nm q bs hdct sn sub ab col dd k0 k1 k2 k3 k5 mN,h.get? C=some (excClassObj nm q C N bs bm hdct sn sub ab col dd k0 k1 k2 k3 k5 newId)/\h.Ns N mN/\mN "__init__"=none/\OwnTail h bmB bm:=by
 unfold PySem.W.excIn at q
 split at q
 ·rename_i dd cd sl ho
  split at q
  ·rename_i C' bm k0 k1 k2 k3 n k5 hm hs
   simp only[Bool.and_eq_true,beq_iff_eq,Bool.not_eq_true']at q
   obtain⟨⟨⟨⟨⟨rfl,rfl⟩,hdel⟩,ht⟩,hok⟩,hni⟩:=q
   obtain⟨nm,bs,mro,ns,qn,hd,sn,sub,ab,col,del⟩:=cd
   dsimp only at hm hdel hok hni
   subst hm hdel
   have hsl:sl=#[k0,k1,k2,k3,some (.builtin n),k5]:=by
    obtain⟨l⟩:=sl
    simp only at hs
    rw[hs]
   subst hsl
   exact⟨bm,ns,nm,qn,bs,hd,sn,sub,ab,col,dd,k0,k1,k2,k3,k5,_,X _ _ ho,.of_isNs (PySem.W.isNs_of_in X hok),PySem.W.nsMap_none_of_in X hok hni,PySem.W.tail_of_in X ht⟩
  ·cases q
 ·cases q
def aI(C:Addr)(E:XK)(ta:TA):TS:=fun _ σ H=>ta σ H fun vs H1=>vs.length<=sizeLine/\E (.ref C) none H1
theorem Kg{X:Cx}{C:Addr}{E:XK}{x:Str}{np cpos pos:Pos}{e₀:Expr}{Fs:List Expr}{ta:TA}{B newId initId:String}{bm:List Value}(ha:PA X (e₀::Fs) ta)(hR:Wu X C E)
  (hg:Gl X x) (hm:X.mg x=some (.ref C)) (hq:PySem.W.excIn X.K C bm newId=true) (FB:ExcBaseFacts B newId initId bm) (hh:X.A.handled=none)
  (hplain:(backTo cpos (starEach Fs X.env)).any (·.1)=false:=by rfl) (hd:(x==("__debug__":Str))=false:=by decide)
  (he:starEach (e₀::Fs) X.env=(false,eval e₀ X.env)::starEach Fs X.env:=by rfl):PS X (.Raise (some (.Call (.Name x np) (e₀::Fs) [] cpos)) none pos) (aI C E ta):=by
 intro pins s σ H D I h
 obtain⟨tl,N,nm,q,bs,hdct,sn,sub,ab,col,dd,k0,k1,k2,k3,k5,mN,hC,hN,hni,T⟩:=Zo I.ok.mod.kin hq
 refine wpAny_Raise_call_subT (C:=C) (nm:=nm) (q:=q) (N:=N) (bs:=bs) (bm:=tl) (hdct:=hdct) (sn:=sn) (sub:=sub) (ab:=ab) (col:=col) (dd:=dd) (k0:=k0) (k1:=k1) (k2:=k2) (k3:=k3) (k5:=k5)
  FB (mN:=mN) (T.hasType FB.hasBase) hh (by rw[he];show(false||(backTo cpos (starEach Fs X.env)).any (·.1))=false;rw[hplain];rfl) hni (LG I hg hm ⟨rfl,?_⟩ hd)
 have hz:=ha cpos pins s σ H _ I h
 rw[he]at hz ⊢
 refine Calls.evalArgs_plain (wpAny_mono hz (fun us s2 ⟨vs,H2,I2,r,z,hE⟩=>⟨rfl,by rw[<- r.length];exact z,I2.bk _ _ hC,hN.keeps I2.bk,T.keeps I2.bk,fun h' e hx=>hR pins σ H2 s2 h' e us I2 hx hE⟩) fun _ _ y=>y)
theorem Zp{M:Model}{A:Around}{E:Value->Shared->Prop}{s:Shared}{K:PySem.W.Frag}{e C D:Addr}{oe:Obj}{Q:Bool->Shared->Prop}(X:K.In s.heap)(he:s.heap.get? e=some oe)(hc:oe.cls = .ref C)
  (h1:PySem.W.typeIn K (.ref D)=some (.type "type")) (h2:(PySem.W.clsIn K D).isSome=true) (h3:PySem.W.subIn K (.ref C) (.ref D)=some true) (h4:PySem.W.subIn K (.ref D) (.type "BaseException")=some true)
  (h:Q true s):wpAny M A (excMatches (.ref e) (.ref D)) Q E s:=by
 have L1:=PySem.W.looks_typeIn (M:=M) X h1
 have L2:PySem.W.Looks M s.heap (isSubtype (.type "type") (.type "tuple")) false:=PySem.W.Looks.of_pure PySem.tc_notTuple
 have L3:=PySem.W.looks_subIn (M:=M) X h3
 have L4:=PySem.W.looks_subIn (M:=M) X h4
 have L5:PySem.W.Looks M s.heap (isType (.ref D)) true:=by
  unfold PySem.W.clsIn at h2
  split at h2
  ·rename_i c' d' cd' sl' ho
   intro A' Q' E' s' k q
   unfold isType loadHead
   exact wpAny_bind (wpAny_loadPart (k _ _ (X _ _ ho)) (wpAny_pure q))
  ·cases h2
 have L6:PySem.W.Looks M s.heap (typeOf (.ref e)) (.ref C):=hc▸(PySem.W.Looks.ld he).andThen .now
 unfold excMatches isInstance isExcClass
 refine wpAny_bind (wpAny_bind (L1.at (L2.at ?_)))
 simp only[Bool.false_eq_true,if_false]
 refine wpAny_bind (wpAny_pure ?_)
 simp only[List.forIn_cons,List.forIn_nil]
 refine wpAny_bind (wpAny_bind (wpAny_bind (wpAny_bind (L5.at ?_))))
 simp only[if_true]
 refine L4.at ?_
 simp only[Bool.not_true,Bool.false_eq_true,if_false]
 refine wpAny_pure (wpAny_pure ?_)
 refine wpAny_bind (L6.at (wpAny_bind (wpAny_bind (wpAny_bind (L3.at ?_)))))
 simp only[if_true]
 exact wpAny_pure (wpAny_pure (wpAny_pure h))
end L2
end
section
namespace L2
open PySem PySem.Spec PyProof.Rows
abbrev Cx.within(X:Cx)(ea:Addr)(oe:Obj):Cx:={ X with A:=X.A.mark (some (.ref ea)),calm:=false,pn:=X.pn++[(ea,oe)],xe:=fun _ _=>False }
theorem Inv.within{X:Cx}{pins:List (Addr×Obj)}{σ:St}{H:Hp}{s:Shared}{ea:Addr}{oe:Obj}(I:Inv X pins σ H s)(h:s.heap.get? ea=some oe/\H ea=none/\ea≠X.env.locals/\ea∉X.fs/\∀v,oe.data≠.cell v) :
  Inv (X.within ea oe) pins σ H s:=by
 have ok:=I.ok
 refine⟨⟨ok.mod,ok.kind,ok.glob,ok.blt,ok.above,ok.inj,ok.has,ok.cab,(fun z=>nomatch z),ok.frames,ok.stk,ok.exf,ok.bs,ok.bsz,ok.noex,ok.exfs,ok.funs,ok.frf⟩,I.os,I.bare,I.base,I.loc,I.cell,I.free,I.freeC,fun p hp=>?_,I.hok,I.len⟩
 rcases List.mem_append.mp hp with hp|hp
 ·rcases List.mem_append.mp hp with hp|hp
  ·exact I.pin p (List.mem_append_left _ hp)
  ·obtain rfl:=List.mem_singleton.mp hp
   exact h
 ·exact I.pin p (List.mem_append_right _ hp)
structure Got1(X:Cx)(pins:List (Addr×Obj))(σ:St)(H H':Hp)(s:Shared)(ea C:Addr)(fl:Value)(s3:Shared):Prop where
 os:s3.os=s.os
 bare:AllBare s3.gens
 un:Un (frs X.stack) [] H H' s.heap s3.heap
 hok:HOk X.prog X.w H' s3.heap
 new:Nw s.heap H' ea
 xat:XAt (Nw s.heap H') s3.heap ea C fl
section
variable {X:Cx} {pins:List (Addr×Obj)} {σ:St} {H H':Hp} {s s3:Shared} {ea C:Addr} {fl:Value}
theorem Got1.inv(g:Got1 X pins σ H H' s ea C fl s3)(I:Inv X pins σ H s):Inv X pins σ H' s3:=I.call' g.os g.un g.hok g.bare fun _ z=>nomatch z
theorem Got1.old{b:Addr}{o:Obj}(e:s.heap.get? b=some o):¬Nw s.heap H' b:=fun z=>by rw[z.1]at e;cases e
theorem Got1.fresh(g:Got1 X pins σ H H' s ea C fl s3):∀b,s3.heap.objs.size<=b->Nw s.heap H' b:=fun b hb=>Nw.fresh g.hok (fun c o q=>g.un.there c o q (by simp)) hb
theorem Got1.step{fl':Value}{h4:Heap}(g:Got1 X pins σ H H' s ea C fl s3)(I:Inv X pins σ H s)(p:Pt (Nw s.heap H') (frs X.stack) s3.heap h4)(x:XAt (Nw s.heap H') h4 ea C fl'):Got1 X pins σ H H' s ea C fl' { s3 with heap:=h4 } :=
 ⟨g.os,g.bare,eE g.un p (fun b o e=>Got1.old e) fun _ _ _ z=>z,bN g.hok p (fun b z=>z.2) (g.inv I).stkFree,g.new,x⟩
theorem Got1.pin2(g:Got1 X pins σ H H' s ea C fl s3)(I:Inv X pins σ H s):∃oe,(s3.heap.get? ea=some oe/\H' ea=none/\ea≠X.env.locals/\ea∉X.fs/\∀v,oe.data≠.cell v)/\oe.cls = .ref C/\oe.dict=none/\PySem.W.notCls oe=true/\NoCtx oe:=by
 obtain⟨oe,vs,T,oT,ts,he,hc,hd,_⟩:=g.xat
 refine⟨oe,⟨he,g.new.2,fun z=>?_,fun z=>?_,fun v=>by rw[hd];intro q;cases q⟩,hc.1,hc.2.1,?_,hc.2.2⟩
 ·obtain⟨m,⟨o,_,_,ho,_⟩,_⟩:=I.loc
  have:=g.new.1
  rw[z,ho]at this;cases this
 ·obtain⟨_,o,ho,_⟩:=I.funs.mem z
  have:=g.new.1
  rw[ho]at this;cases this
 ·obtain⟨c,d,dt,sl⟩:=oe
  cases hd
  rfl
theorem Got1.pin(g:Got1 X pins σ H H' s ea C fl s3)(I:Inv X pins σ H s):∃oe,(s3.heap.get? ea=some oe/\H' ea=none/\ea≠X.env.locals/\ea∉X.fs/\∀v,oe.data≠.cell v)/\oe.cls = .ref C/\oe.dict=none/\PySem.W.notCls oe=true:=by
 obtain⟨oe,a,b,c,d,_⟩:=g.pin2 I
 exact⟨oe,a,b,c,d⟩
theorem Got1.lands{M:Model}{A:Around}{E0:Value->Shared->Prop}{R:Shared->Prop}(g:Got1 X pins σ H H' s ea C .none s3)(I:Inv X pins σ H s)(hst:X.stack=X.env::X.outer/\X.env.frame=some X.env.locals)(hA:A.frames=some X.stack)
  (h:∀s4,Got1 X pins σ H H' s ea C .none s4->R s4) :
  wpAny M A (noteFrame (.ref ea) X.env) (fun _ s₂=>wpAny M A (setFlight (.ref ea) none) (fun _ s₃=>R s₃) E0 s₂) E0 s3:=by
 have J:=g.inv I
 have hl:=J.stack
 have hNf:∀b∈frs X.stack,¬Nw s.heap H' b:=fun b hb=>by
  obtain⟨_,o,ho,_⟩:=I.stack.mem hb
  exact Got1.old ho
 rw[hst.1]at hA hl
 refine cV (base:=X.base) (N:=Nw s.heap H') (C:=C) hA hl hst.2 (by rw[<- hst.1];exact hNf) g.fresh g.new g.xat fun h4 p x=>?_
 rw[<- hst.1]at p
 have g4:=g.step I p x
 refine UY (fs:=frs X.stack) x g.new fun h5 p5 x5=>?_
 exact h _ (g4.step I p5 x5)
theorem Got1.again{M:Model}{A:Around}{E0:Value->Shared->Prop}{R:Shared->Prop}(g:Got1 X pins σ H H' s ea C .none s3)(I:Inv X pins σ H s)
  (h:∀s4,Got1 X pins σ H H' s ea C .none s4->R s4):wpAny M A (setFlight (.ref ea) none) (fun _ s₃=>R s₃) E0 s3 :=
 UY (fs:=frs X.stack) g.xat g.new fun h5 p5 x5=>h _ (g.step I p5 x5)
end
structure Vl(K:PySem.W.Frag)(C D:Addr):Prop where
 ty:PySem.W.typeIn K (.ref D)=some (.type "type")
 cl:(PySem.W.clsIn K D).isSome=true
 sub:PySem.W.subIn K (.ref C) (.ref D)=some true
 exc:PySem.W.subIn K (.ref D) (.type "BaseException")=some true
section
variable {X:Cx} {k:Nat} {f C D':Addr} {fd:FuncData} {ps:List Str} {sp:Sp} {x cn:Str} {p pos p1 np hp p2:Pos} {e:Expr} {es:List Expr} {t:TA} {b₀:Stmt} {suite:List Stmt} {ts:Addr->TS}
end
end L2
end
section
namespace L2
open PySem PySem.Spec PyProof.Rows PySem.W
section
variable {prog:Program} {w:World} {A:Around} {E:Value->Shared->Prop} {s:Shared} {K:Frag} {x C:Addr} {ox:Obj}
structure XCls(K:Frag)(C:Addr):Prop where
 ga:findIn K (.ref C) "__getattribute__"=some (some (.builtin "BaseException.__getattribute__"))
 gt:findIn K (.ref C) "__getattr__"=some none
 cl:(clsIn K C).isSome=true
 ha:findIn K (.ref C) "__class__"=some (some (.builtin "object.__class__"))
 hn:specialIn K (.builtin "object.__class__") "__get__"=some (some (.builtin "getset_descriptor.__get__"))
 ht:takesIn K (.builtin "object.__class__")=some true
 ob:mroIn K C (.type "object")=some true
 be:mroIn K C (.type "BaseException")=some true
theorem XCls.cf(c:XCls K C):findObj K C none "__class__"=some (.bind (.builtin "getset_descriptor.__get__") (.builtin "object.__class__")):=by
 obtain⟨cd,hc⟩:=Option.isSome_iff_exists.mp c.cl
 unfold findObj
 rw[hc,Option.bind_some,c.ha,Option.bind_some]
 simp[c.hn,c.ht]
theorem Z7{tk:Tok}{Q:Fin->Shared->Prop}(c:XCls K C)(X:K.In s.heap)(I:InstAt s.heap x ox C none)(h:Q (.done (.ret (.ref C))) s) :
  wpAny (model prog w) A (Builtin.«object.__getattribute__» ⟨[.ref x,.str "__class__" tk],[]⟩) Q E s:=by
 obtain⟨hh,g,d,t,os⟩:=s
 have L0:=I.type (M:=model prog w)
 have L1:=looks_find (M:=model prog w) X I c.cf
 unfold Builtin.«object.__getattribute__»
 refine wpAny_bind (wpAny_pure ?_)
 refine wpAny_bind (wpAny_pure ?_)
 refine wpAny_bind (L0.at (wpAny_bind (L1.at ?_)))
 show wpAny _ _ (Builtin.ObjectAttr.bindTo (.builtin "getset_descriptor.__get__") (.builtin "object.__class__") (.ref x) (.ref C)) _ _ _
 unfold Builtin.ObjectAttr.bindTo
 refine wpAny_bind (wpAny_holding (wpAny_call (class_get X I c.ob ?_)))
 exact wpAny_pure h
theorem Z9{M:Model}{nv:Value}{Q:Unit->Shared->Prop}(c:XCls K C)(X:K.In s.heap)(I:InstAt s.heap x ox C none)(h:Q () s) :
  wpAny M A (checkBuiltinCall "BaseException.__getattribute__" ⟨[.ref x,nv],[]⟩) Q E s:=by
 obtain⟨hh,g,d,t,os⟩:=s
 have L0:=I.type (M:=M)
 have L1:=looks_mroIn (M:=M) X c.be
 have hk:builtinKind "BaseException.__getattribute__"=some .slot:=by decide +kernel
 have hsplit:splitId "BaseException.__getattribute__"=some ("BaseException","__getattribute__"):=by decide +kernel
 have ha:=F.args_bexc_ga (.ref x) nv
 simp only[checkBuiltinCall,hk,hsplit]
 refine wpAny_bind ?_
 unfold isInstance
 refine wpAny_bind (L0.at (L1.at ?_))
 repeat (first|assumption|wp_step)
theorem Z8{Q:Option Value->Shared->Prop}(c:XCls K C)(X:K.In s.heap)(I:InstAt s.heap x ox C none)(h:Q (some (.ref C)) { s with toks:=s.toks+1 }) :
  wpAny (model prog w) A (getAttr? (.ref x) "__class__") Q E s:=by
 obtain⟨hh,g,d,t,os⟩:=s
 have L0:=I.type (M:=model prog w)
 have L1:=looks_findIn (M:=model prog w) X c.ga
 have L2:=looks_findIn (M:=model prog w) X c.gt
 have fb:=F.excAttr_ValueError.ga.bind (.ref x)
 unfold getAttr? getAttrBy? getAttrBy
 refine wpAny_bind (wpAny_mkText (wpAny_bind (wpAny_attempt (wpAny_holding (wpAny_bind (L0.at (wpAny_bind (L1.at ?_))))))))
 have hx2:(onTheHeap (Value.ref C)&&Value.builtin "BaseException.__getattribute__"==Value.builtin "object.__getattribute__")=false:=by
  rw[show(Value.builtin "BaseException.__getattribute__"==Value.builtin "object.__getattribute__")=false by decide +kernel,Bool.and_false]
 simp only[hx2,Bool.false_eq_true,if_false]
 unfold getAttrByItsOwn hookBefore callGetattribute boundAndCalled
 rw[if_pos (show onTheHeap (Value.ref C)=true from rfl)]
 refine wpAny_bind (L2.at ?_)
 refine wpAny_bind (wpAny_attempt (wpAny_holding ?_))
 simp only[Bool.false_and,Bool.false_eq_true,if_false]
 rw[fb]
 refine wpAny_bind (wpAny_pure (wpAny_call (codeAny_call_builtin F.excAttr_ValueError.ga.plain F.entry_bexc_ga (Z9 c X I (Z7 c X I ?_)))))
 exact handed_on rfl (wpAny_pure h)
theorem WU(c:XCls K C):KitX K (.ref x) (.ref C) (fun h=>InstAt h x ox C none) where
 ty:=fun _ _ _ I=>I.type
 it:=fun _ _ X _=>by
  have hcl:=c.cl
  unfold clsIn at hcl
  split at hcl
  ·rename_i c' d' cd' sl' ho
   intro A' Q' E' s' k q
   unfold isType loadHead
   exact wpAny_bind (wpAny_loadPart (k _ _ (X _ _ ho)) (wpAny_pure q))
  ·cases hcl
 ne:=fun h tp dd its n sl X htp=>by
  refine Bool.eq_false_iff.mpr fun q=>?_
  have e:C=tp:=Value.ref.inj (beq_iff_eq.mp q)
  subst e
  have hcl:=c.cl
  unfold clsIn at hcl
  split at hcl
  ·rename_i c' d' cd' sl' ho
   have z:=(X _ _ ho).symm.trans htp
   cases z
  ·cases hcl
 ca:=fun X I k=>Z8 c X I k
end
section
variable {X:Cx} {ea C:Addr} {oe:Obj}
end
end L2
end
section
namespace L2
open PySem PySem.Spec PyProof.Rows
theorem Inv.gone{X:Cx}{pins:List (Addr×Obj)}{σ:St}{H:Hp}{s:Shared}{h':Heap}{m':Str->Option Value}{t':Nat}(I:Inv X pins σ H s)(hn:h'.Ns X.env.locals m')(hs:Heap.SameBut X.env.locals s.heap h') :
  Inv X pins (σ.map fun _=>none) H { s with heap:=h',toks:=t' }:=by
 refine⟨I.ok,I.os,I.bare,⟨fun b o e n hb hx=>?_,fun b o e n hb hx=>?_,I.base.free,fun b o e hx=>?_,I.base.tups,I.base.frzs,I.base.tbls⟩,⟨_,hn,fun j y v' e1 e2 e3=>?_⟩,fun y c e=>?_,I.free,I.freeC,fun p hp=>?_,fun b ob e=>?_,by simpa using I.len⟩
 ·exact(hs.2 b (Nat.ne_of_lt (Nat.lt_of_lt_of_le (Heap.lt_size e) I.ok.above))).trans (I.base.keep b o e n hb hx)
 ·obtain⟨sl,e1⟩:=I.base.slot b o e n hb hx
  exact⟨sl,(hs.2 b (Nat.ne_of_lt (Nat.lt_of_lt_of_le (Heap.lt_size e) I.ok.above))).trans e1⟩
 ·obtain⟨o',e1⟩:=I.base.there b o e hx
  exact⟨o',(hs.2 b (Nat.ne_of_lt (Nat.lt_of_lt_of_le (Heap.lt_size e) I.ok.above))).trans e1⟩
 ·rw[List.getElem?_map]at e2
  cases q:σ[j]? with
  |none=>rw[q]at e2;cases e2
  |some z=>rw[q]at e2;cases e2
 ·obtain⟨w',z⟩:=I.cell y c e
  exact⟨w',z.sameBut hs (I.cne y c e)⟩
 ·obtain⟨e,n,ne,nf,d⟩:=I.pin p hp
  exact⟨(hs.2 p.1 ne).trans e,n,ne,nf,d⟩
 ·refine(I.hok b ob e).stay (fun c w' hc q=>(hs.2 c ?_).trans q) (fun _ q=>q) fun _ _ q=>q
  rintro rfl
  rcases hc with rfl|hc
  ·rw[I.free]at e;cases e
  ·rw[I.free]at hc;cases hc
section
variable {X:Cx} {k i:Nat} {f C D':Addr} {fd:FuncData} {ps:List Str} {sp:Sp} {x cn n:Str} {p pos p1 np hp p2:Pos} {e:Expr} {es:List Expr} {t:TA} {b₀:Stmt} {suite:List Stmt} {ts:Addr->TS}
end
end L2
end
section
namespace L2
open PySem PySem.Spec PyProof.Rows
theorem Fun.okX{P:Program}{w:World}{K:PySem.W.Frag}{mg:Str->Option Value}{base:Heap}{x qual:Str}{st:Stmt}{f:Addr}{fd:FuncData}{N ps:List Str}{k:Nat}{sp:Sp}(F:Fun K x qual st f fd)(S:Ao N ps (AR st))(len:∀vs H Q E,sp vs H Q E->vs.length=ps.length)
  (hbody : ∀ (cdv : Value) (A : Around) (outer : List Env) (s : Shared) (H : Hp) (vs : List V) (Q : VK) (E : XK), Room k (A.deeper (envOfC qual (AR st) s.heap.objs.size f cdv)) -> sp vs H Q E ->
   ∃t,PSs (Py (CXr P w) P w K mg base N qual (AR st) f cdv A outer s H E) (E2 st) t/\t { nx:=fun _ H'=>Q .non H',rt:=Q } (start N vs) H):FnOk P w K mg base (CXr P w) (k+1) f fd ps sp:=by
 obtain⟨oc,od,kV,doc,pm,an,cdv,ct,osl,rfl,lk,hcd⟩:=F.ex
 exact fG lk hcd S len fun A outer s H vs Q E hr hsp=>hbody cdv A outer s H vs Q E hr hsp
end L2
namespace DL
open PySem L2
instance {i j:Int}:Decidable (fQ i j):=by unfold fQ Bd;infer_instance
end DL
end
section
namespace L2
open PySem PySem.Spec PyProof.Rows
def Its(x:Str):It:=⟨fun i _=>i<x.cps.size,fun i H v H'=>∃c,x.cps[i]?=some c/\H'=H/\v = .str ⟨#[c]⟩,fun i _=>x.cps.size<=i⟩
theorem Tu{P:Program}{w:World}{K:PySem.W.Frag}{tg:Expr}(x:Str)(t:Tok)(it:Addr)(n:String)
  (hn:["enumerate","zip","dict_itemiterator","dict_reverseitemiterator","odict_iterator","itertools.zip_longest","itertools.pairwise"].contains n=false)
  (nx : ∀ {A : Around} {E : Value -> Shared -> Prop} {s : Shared} {i c : Nat} {Q : Option Value -> Shared -> Prop}, s.heap.IsStrIter it n x t i -> x.cps[i]? = some c ->
   (∀h',h'.IsStrIter it n x t (i+1)->Heap.SameBut it s.heap h'->Q (some (.str ⟨#[c]⟩ s.toks)) { s with heap:=h',toks:=s.toks+1 })->wpAny (model P w) A (pyNext (.ref it)) Q E s)
  (en : ∀ {A : Around} {E : Value -> Shared -> Prop} {s : Shared} {i : Nat} {Q : Option Value -> Shared -> Prop}, A.handled = none -> s.heap.IsStrIter it n x t i -> x.cps[i]? = none ->
   (∀h',Heap.ExtBut it s.heap h'->Q none { s with heap:=h' })->wpAny (model P w) A (pyNext (.ref it)) Q E s)
  (sf:∀{A:Around} {E:Value->Shared->Prop} {s:Shared} {i:Nat} {Q:Value->Shared->Prop},s.heap.IsStrIter it n x t i->Q (.ref it) s->wpAny (model P w) A (pyIter (.ref it)) Q E s) :
  Turn P w K tg (Its x) [it] it (fun i h=>h.IsStrIter it n x t i) where
 mem:=by simp
 obj:=fun i h st b hb=>by
  have e:b=it:=by simpa using hb
  subst e
  obtain⟨o,e,c,d⟩:=st
  exact⟨o,e,fun v z=>by rw[d]at z;cases z⟩
 keep:=fun i h h' st k=>let ⟨o,e,r⟩:=st;⟨o,k it (by simp) o e,r⟩
 item:=by
  intro X hP hw hK hc i pins s σ H E I hf st hg
  subst hP hw hK
  have hlt:i<x.cps.size:=hg
  have hx:x.cps[i]?=some x.cps[i]:=Array.getElem?_eq_getElem hlt
  obtain⟨f0,f1,f2,f3,f4,f5⟩:=hf it (by simp)
  refine nx st hx fun h' st' sb=>?_
  have I1:Inv X pins σ H { s with heap:=h',toks:=s.toks+1 }:=I.turned (fun b o hb e=>(sb.2 b hb).trans e) f0 f1 f3 f4 f5
  obtain⟨o,e,c,d⟩:=id st'
  exact⟨_,rfl,Wb (s:={ s with heap:=h',toks:=s.toks+1 }) e c d hn ⟨.str ⟨#[x.cps[i]]⟩,H,I1,⟨_,rfl⟩,⟨_,hx,rfl,rfl⟩,st',fun b hb=>(hf b hb).1⟩⟩
 done:=by
  intro X hP hw hK hc i pins s σ H E I hf st hg
  subst hP hw hK
  obtain⟨f0,f1,f2,f3,f4,f5⟩:=hf it (by simp)
  exact en (I.ok.hd hc) st (Array.getElem?_eq_none hg) fun h' eb=>⟨rfl,I.turned (t':=s.toks) (fun b o hb e=>eb b o hb e) f0 f1 f3 f4 f5⟩
 self:=fun _ _ _ _ _ st h=>sf st h
theorem aE{P:Program}{w:World}{K:PySem.W.Frag}{tg:Expr}(x:Str)(t:Tok)(it:Addr):Turn P w K tg (Its x) [it] it (fun i h=>h.IsStrIter it (strIterType x) x t i):=by
 unfold strIterType
 split
 ·exact Tu x t it _ (by decide) (fun a b c=>wpAny_pyNext_ascii_item a b c) (fun a b c d=>wpAny_pyNext_ascii_end a b c d) (fun a b=>wpAny_pyIter_striter_ascii a b)
 ·exact Tu x t it _ (by decide) (fun a b c=>wpAny_pyNext_wide_item a b c) (fun a b c d=>wpAny_pyNext_wide_end a b c d) (fun a b=>wpAny_pyIter_striter_wide a b)
def iZ(tl:TE):TI:=fun σ H R=>tl σ H fun v H1=>∃x,v = .str x/\R (Its x) H1
theorem XG{X:Cx}{tg l:Expr}{tl:TE}(hl:PE X l tl):PI X tg l (iZ tl):=by
 intro pins s σ H R I h
 refine thn (hl pins s σ H _ I h) fun v s1 ⟨x,H1,I1,r1,q1⟩=>?_
 obtain⟨z,rfl,q⟩:=q1
 obtain⟨t,rfl⟩:=r1
 refine wpAny_pyIter_strU ?_
 refine⟨s1.heap.objs.size,[s1.heap.objs.size],_,_,H1,rfl,I1.kept (t':=s1.toks) fun b o e=>Heap.get?_push_of_some _ e,aE z t _,⟨_,Heap.get?_push_size _ rfl,rfl,rfl⟩,fun b hb=>?_,q⟩
 have e:b=s1.heap.objs.size:=by simpa using hb
 subst e
 exact I1.fpOk (Nat.le_refl _) (I1.hok.fresh (Nat.le_refl _))
end L2
namespace DL
open PySem L2 PyProof.Rows
variable {K:KW}
def chD(x:Str):List PyData:=x.cps.toList.map fun c=>.str ⟨#[c]⟩
def dIS(f:DX)(τ:DS):Option (List PyData×DS):=(f τ).bind fun p=>match p.1 with
 |.str x=>some (chD x,p.2)
 |_=>none
theorem Xg{fr:Bool}{t:TE}{f:DX}(h:E K t fr f):IT K (iZ t) (dIS f):=by
 refine⟨fun τ d τ' e=>?_,?_⟩
 ·unfold dIS at e
  obtain⟨⟨x,τ1⟩,e1,e⟩:=oB e
  dsimp only at e
  split at e
  ·cases e;exact h.like _ _ _ e1
  ·cases e
 intro S M τ σ H Q ds τ' r e q
 unfold dIS at e
 obtain⟨⟨x,τ1⟩,e1,e⟩:=oB e
 dsimp only at e
 split at e
 ·rename_i z
  cases e
  refine h.weak.run S M τ σ H _ _ _ r e1 fun v H1 r1 c1 i1=>?_
  cases (show v = .str z from i1)
  refine⟨z,rfl,q _ H1 r1 c1 fun S2 H2 k=>⟨fun i d e=>?_,fun i hi=>?_⟩⟩
  ·unfold chD at e
   rw[List.getElem?_map,Array.getElem?_toList]at e
   obtain⟨c,hc,rfl⟩:=oM e
   refine⟨(Array.getElem?_eq_some_iff.mp hc).1,fun x H3 ⟨c',hc',h1,h2⟩=>⟨h1,?_⟩⟩
   rw[hc]at hc';cases hc'
   exact h2
  ·show z.cps.size<=i
   unfold chD at hi
   simpa using hi
 ·cases e
def Xl:PyData->PyData->Option PyData
 |.str i,.str j=>some (.bool (!(Builtin.Str.occurrences j i 0 j.length 1).isEmpty))
 |_,_=>none
theorem iO:OR K false (fun x y H Q=>∃i j,x = .str i/\y = .str j/\Q (.bl (!(Builtin.Str.occurrences j i 0 j.length 1).isEmpty)) H) Xl:=by
 intro S H x y dx dy d Q _ ix iy e q
 unfold Xl at e
 split at e
 ·rename_i i j
  cases e
  exact⟨i,j,ix,iy,q _ H (fun _ _ e=>e) rfl⟩
 ·cases e
mutual
def Cz(K:KW):PyData->Value->Bool
 |.int i,.int j _=>decide (i=j)
 |.str x,.str y _=>decide (x=y)
 |.tuple ds,.ref a=>match K.fr.lookup a with
  |some ⟨.type "tuple",_,.seq its _,_⟩=>decide (its.size<=1000)&&constInL K ds its.toList
  |_=>false
 |_,_=>false
def constInL(K:KW):List PyData->List Value->Bool
 |[],[]=>true
 |d::ds,v::vs=>Cz K d v&&constInL K ds vs
 |_,_=>false
end
mutual
theorem SU:∀{d:PyData} {u:Value},Cz K d u=true->∃v,RelV v u/\∀H,Is K H d v
 |.int i,u,h=>by
  cases u<;>first|(unfold Cz at h;cases h;done)|(unfold Cz at h;cases of_decide_eq_true h;exact⟨.int i,⟨_,rfl⟩,fun _=>rfl⟩)
 |.str x,u,h=>by
  cases u<;>first|(unfold Cz at h;cases h;done)|(unfold Cz at h;cases of_decide_eq_true h;exact⟨.str x,⟨_,rfl⟩,fun _=>rfl⟩)
 |.tuple ds,.ref a,h=>by
  unfold Cz at h
  split at h
  ·rename_i dd its n sl ho
   obtain⟨h1,h2⟩:=Bool.and_eq_true_iff.mp h
   obtain⟨vs,r,hl⟩:=constL_is h2
   exact⟨.ref a,rfl,fun H=>⟨a,vs,rfl,.inr ⟨_,its,n,ho,rfl,rfl,Nat.le_trans (of_decide_eq_true h1) (by decide),r⟩,hl H⟩⟩
  ·cases h
 |.tuple ds,.none,h=>by unfold Cz at h;cases h
 |.tuple ds,.bool _,h=>by unfold Cz at h;cases h
 |.tuple ds,.int _ _,h=>by unfold Cz at h;cases h
 |.tuple ds,.str _ _,h=>by unfold Cz at h;cases h
 |.none,u,h=>by cases u<;>(unfold Cz at h;cases h)
 |.bool _,u,h=>by cases u<;>(unfold Cz at h;cases h)
 |.list _,u,h=>by cases u<;>(unfold Cz at h;cases h)
 |.dict _,u,h=>by cases u<;>(unfold Cz at h;cases h)
theorem constL_is:∀{ds:List PyData} {us:List Value},constInL K ds us=true->∃vs,Vals vs us/\∀H,IsL K H ds vs
 |[],[],_=>⟨[],.nil,fun _=>rfl⟩
 |d::ds,u::us,h=>by
  unfold constInL at h
  obtain⟨h1,h2⟩:=Bool.and_eq_true_iff.mp h
  obtain⟨v,r,i⟩:=SU h1
  obtain⟨vs,rs,is⟩:=constL_is h2
  exact⟨v::vs,.cons r rs,fun H=>⟨v,vs,rfl,i H,is H⟩⟩
 |[],_::_,h=>by cases h
 |_::_,[],h=>by cases h
end
def KdL(K:KW)(w:World):List DictEntry->List (Str×PyData)->Prop
 |[],[]=>True
 |e::es,p::tb=>(∃t,e.key = .str p.1 t)/\e.hash=hashStr w p.1/\Cz K p.2 e.val=true/\KdL K w es tb
 |_,_=>False
structure KD(K:KW)(w:World)(a:Addr)(tb:List (Str×PyData)):Prop where
 ex:∃es n,K.fr.lookup a=some ⟨.type "dict",none,.dict es n,#[]⟩/\KdL K w es.toList tb
def P1:List (Str×PyData)->Str->Option PyData
 |[],_=>none
 |p::r,k=>if p.1=k then some p.2 else P1 r k
theorem FC{k x:Str}{t:Tok}:Value.isStrOf k (.str x t)=decide (k=x):=by
 unfold Value.isStrOf
 by_cases h:k=x
 ·subst h
  rw[decide_eq_true rfl]
  first|exact beq_self_eq_true _|simp
 ·rw[decide_eq_false h]
  first|exact beq_eq_false_iff_ne.mpr (Ne.symm h)|(simp;exact Ne.symm h)
theorem Yi{w:World}:∀{es:List DictEntry} {tb:List (Str×PyData)},KdL K w es tb->∀e∈es,∃k,Value.isStrOf k e.key=true/\e.hash=hashStr w k
 |[],_,_,e,h=>nomatch h
 |x::es,[],h,_,_=>h.elim
 |x::es,p::tb,⟨⟨t,hk⟩,hh,_,r⟩,e,h=>by
  rcases List.mem_cons.mp h with rfl|h
  ·exact⟨p.1,by rw[hk,FC];exact decide_eq_true rfl,hh⟩
  ·exact Yi r e h
end DL
end
section
namespace DL
open PySem L2
variable {K:KW}
section
variable {S S':Addr->Prop} {H:Hp}
mutual
theorem Dp.is(k:TSm (hid S H) (hid S' H)):∀{d:PyData} {v:V} {F:List Addr},(∀a∈F,¬S' a)->Dp K S H d v F->Is K (hid S' H) d v
 |.none,_,_,_,h=>h.1
 |.bool _,_,_,_,h=>h.1
 |.int _,_,_,_,h=>h.1
 |.str _,_,_,_,h=>h.1
 |.tuple _,_,_,f,⟨a,vs,e,h,l⟩=>⟨a,vs,e,k.tup h,DpL.is k f l⟩
 |.list _,_,_,f,⟨a,vs,G,e,e2,h,l⟩=>⟨a,vs,e,hid_iff.mpr ⟨f a (by rw[e2];exact List.mem_cons_self ..),h⟩,DpL.is k (fun b hb=>f b (by rw[e2];exact List.mem_cons_of_mem _ hb)) l⟩
theorem DpL.is(k:TSm (hid S H) (hid S' H)):∀{ds:List PyData} {vs:List V} {F:List Addr},(∀a∈F,¬S' a)->DpL K S H ds vs F->IsL K (hid S' H) ds vs
 |[],_,_,_,h=>h.1
 |_::_,_,_,f,⟨x,xs,F1,F2,e,e2,h,l⟩=>⟨x,xs,e,Dp.is k (fun b hb=>f b (by rw[e2];exact List.mem_append_left _ hb)) h,DpL.is k (fun b hb=>f b (by rw[e2];exact List.mem_append_right _ hb)) l⟩
end
mutual
theorem Dp.lst:∀{d:PyData} {v:V} {F:List Addr},Dp K S H d v F->∀a∈F,∃vs,H a=some (.lst vs)
 |.none,_,_,h,a,q=>by rw[h.2]at q;cases q
 |.bool _,_,_,h,a,q=>by rw[h.2]at q;cases q
 |.int _,_,_,h,a,q=>by rw[h.2]at q;cases q
 |.str _,_,_,h,a,q=>by rw[h.2]at q;cases q
 |.tuple _,_,_,⟨_,vs,e,h,l⟩,a,q=>DpL.lst l a q
 |.list _,_,_,⟨b,vs,G,e,e2,h,l⟩,a,q=>by
  rw[e2]at q
  rcases List.mem_cons.mp q with rfl|q
  ·exact⟨vs,h⟩
  ·exact DpL.lst l a q
theorem DpL.lst:∀{ds:List PyData} {vs:List V} {F:List Addr},DpL K S H ds vs F->∀a∈F,∃vs,H a=some (.lst vs)
 |[],_,_,h,a,q=>by rw[h.2]at q;cases q
 |_::_,_,_,⟨x,xs,F1,F2,e,e2,h,l⟩,a,q=>by
  rw[e2]at q
  rcases List.mem_append.mp q with q|q
  ·exact Dp.lst h a q
  ·exact DpL.lst l a q
end
mutual
theorem Dp.fix:∀{d:PyData} {v:V},GN d=true->Is K (hid S H) d v->Dp K S H d v []
 |.none,_,_,h=>⟨h,rfl⟩
 |.bool _,_,_,h=>⟨h,rfl⟩
 |.int _,_,_,h=>⟨h,rfl⟩
 |.str _,_,_,h=>⟨h,rfl⟩
 |.tuple _,_,f,⟨a,vs,e,h,l⟩=>⟨a,vs,e,h,DpL.fix f l⟩
 |.list _,_,f,_=>absurd f Bool.false_ne_true
 |.dict _,_,f,_=>absurd f Bool.false_ne_true
theorem DpL.fix:∀{ds:List PyData} {vs:List V},fixDs ds=true->IsL K (hid S H) ds vs->DpL K S H ds vs []
 |[],_,_,h=>⟨h,rfl⟩
 |_::_,_,f,⟨x,xs,e,h,l⟩=>⟨x,xs,[],[],e,rfl,Dp.fix (by rw[fixDs,Bool.and_eq_true]at f;exact f.1) h,DpL.fix (by rw[fixDs,Bool.and_eq_true]at f;exact f.2) l⟩
end
mutual
theorem Dp.unfix:∀{d:PyData} {v:V} {F:List Addr},GN d=true->Dp K S H d v F->F=[]/\Is K (hid S H) d v
 |.none,_,_,_,h=>⟨h.2,h.1⟩
 |.bool _,_,_,_,h=>⟨h.2,h.1⟩
 |.int _,_,_,_,h=>⟨h.2,h.1⟩
 |.str _,_,_,_,h=>⟨h.2,h.1⟩
 |.tuple _,_,_,f,⟨a,vs,e,h,l⟩=>let ⟨z,y⟩:=DpL.unfix f l;⟨z,a,vs,e,h,y⟩
 |.list _,_,_,f,_=>absurd f Bool.false_ne_true
 |.dict _,_,_,f,_=>absurd f Bool.false_ne_true
theorem DpL.unfix:∀{ds:List PyData} {vs:List V} {F:List Addr},fixDs ds=true->DpL K S H ds vs F->F=[]/\IsL K (hid S H) ds vs
 |[],_,_,_,h=>⟨h.2,h.1⟩
 |_::_,_,_,f,⟨x,xs,F1,F2,e,e2,h,l⟩=>by
  rw[fixDs,Bool.and_eq_true]at f
  obtain⟨rfl,y1⟩:=Dp.unfix f.1 h
  obtain⟨rfl,y2⟩:=DpL.unfix f.2 l
  exact⟨e2,x,xs,e,y1,y2⟩
end
end
def mem(F:List Addr)(b:Addr):Prop:=b∈F
end DL
end
section
namespace DL
open PySem L2
variable {K:KW}
theorem RF.newG{F:Frm}{S M:Addr->Prop}{τ:DS}{σ:St}{H:Hp}(f:RF K F S M τ σ H){X:List Addr}{i:Nat}{d:PyData}{v:V}(hi:i<τ.length)(hnp:F.ar.length<=i)(hS:∀a∈X,S a)(hM:∀a∈X,¬M a)(hF:∀a∈X,F.H a=none)(hn:X.Nodup)
  (h:DpT K S H d v X):RF K F S (fun b=>M b\/b∈X) (τ.set i (some (.g d))) (σ.set i (some v)) H:=by
 have hs:i<σ.length:=by rw[f.r.len];exact hi
 have ne:∀j,j≠i->(τ.set i (some (.g d)))[j]?=τ[j]?:=fun j hj=>List.getElem?_set_ne (Ne.symm hj)
 have ne':∀j,j≠i->(σ.set i (some v))[j]?=σ[j]?:=fun j hj=>List.getElem?_set_ne (Ne.symm hj)
 have se:(τ.set i (some (.g d)))[i]?=some (some (.g d)):=List.getElem?_set_self hi
 have se':(σ.set i (some v))[i]?=some (some v):=List.getElem?_set_self hs
 have own:∀(j:Nat) (ys:Ow),(τ.set i (some (.g d)))[j]?=some (some ys.L)->j≠i/\τ[j]?=some (some ys.L):=fun j ys e=>by
  by_cases hj:j=i
  ·subst hj;rw[se]at e;exact absurd (Option.some.inj (Option.some.inj e)).symm Ow.not_g
  ·rw[ne j hj]at e;exact⟨hj,e⟩
 have jn:∀{j:Nat} {v:V},F.ar[j]?=some (some v)->j≠i:=fun {j v} e z=>by
  subst z
  have:=(List.getElem?_eq_some_iff.mp e).1
  omega
 refine⟨⟨by rw[List.length_set,List.length_set];exact f.r.len,fun j x e=>?_,fun j ys e=>?_,fun j ys e=>?_,fun j1 j2 ys zs b e1 e2 f1 f2=>?_,fun b h=>h.elim (f.r.sub b) (hS b),f.r.ex,?_⟩,f.sS,f.old,fun b h=>h.elim (f.new b) fun z=>.inr (hF b z),fun b h=>.inl (f.fm b h),f.fs,f.fsub,f.snew,fun j v e=>?_,fun j v e=>?_,f.fma⟩
 ·by_cases hj:j=i
  ·subst hj;rw[se]at e;cases e
  ·rw[ne j hj]at e
   rw[ne' j hj]
   exact f.r.dat j x e
 ·obtain⟨hj,e⟩:=own j ys e
  rw[ne' j hj]
  obtain⟨b,us,h1,h2,h3,h4⟩:=f.r.mt j ys e
  exact⟨b,us,h1,.inl h2,h3,h4⟩
 ·by_cases hj:j=i
  ·subst hj;rw[se]at e;cases e
  ·rw[ne j hj]at e
   rw[ne' j hj]
   exact f.r.cst j ys e
 ·obtain⟨h1,e1⟩:=own _ _ e1
  obtain⟨h2,e2⟩:=own _ _ e2
  rw[ne' j1 h1]at f1
  rw[ne' j2 h2]at f2
  exact f.r.inj _ _ _ _ b e1 e2 f1 f2
 ·obtain⟨φ,g⟩:=f.r.gr
  refine⟨fun j=>if j=i then X else φ j,fun j x e=>?_⟩
  by_cases hj:j=i
  ·subst hj
   rw[se]at e;cases e
   simp only[if_true]
   refine⟨⟨v,se',h⟩,hn,fun a ha=>.inr ha,fun j' o a z1 z2 ha=>?_,fun j' x' hj' z a ha=>?_⟩
   ·obtain⟨q1,q2⟩:=own j' o z1
    rw[ne' j' q1]at z2
    obtain⟨b,us,h1,h2,_⟩:=f.r.mt j' o q2
    rw[z2]at h1;cases h1
    exact hM a ha h2
   ·rw[if_neg hj']
    intro hq
    rw[ne j' hj']at z
    obtain⟨_,_,q4,_,_⟩:=g j' x' z
    exact hM a ha (q4 a hq)
  ·dsimp only
   simp only[if_neg hj]
   rw[ne j hj]at e
   obtain⟨⟨v',q1,q2⟩,q3,q4,q5,q6⟩:=g j x e
   refine⟨⟨v',by rw[ne' j hj];exact q1,q2⟩,q3,fun a ha=>.inl (q4 a ha),fun j' o a z1 z2=>?_,fun j' x' hj' z a ha=>?_⟩
   ·obtain⟨w1,w2⟩:=own j' o z1
    rw[ne' j' w1]at z2
    exact q5 j' o a w2 z2
   ·by_cases hj2:j'=i
    ·rw[if_pos hj2];exact fun hq=>hM a hq (q4 a ha)
    ·rw[if_neg hj2]
     rw[ne j' hj2]at z
     exact q6 j' x' hj' z a ha
 ·rw[ne' j (jn e)]
  exact f.par j v e
 ·rw[ne j (jn e)]
  exact f.pm j v e
variable {np:Nat}
end DL
end
section
namespace DL
open PySem L2
variable {K:KW}
end DL
end
section
namespace DL
open PySem L2
variable {K:KW}
end DL
end
section
namespace DL
open PySem L2
end DL
end
section
namespace DL
open PySem L2
variable {K:KW}
def Li(f:DX)(lo hi:DO)(τ:DS):Option (PyData×DS):=(f τ).bind fun p=>(lo p.2).bind fun l=>(hi l.2).bind fun u=>match p.1 with
 |.tuple xs=>if HT.sIx xs.length 0 l.1=0/\HT.sIx xs.length xs.length u.1=xs.length then none else some (.tuple (Vf xs l.1 u.1),u.2)
 |_=>none
theorem QD{fr:Bool}{te:TE}{tl th:TO}{f:DX}{lo hi:DO}(h:E K te fr f)(hl:OO K tl lo)(hh:OO K th hi):E K (tSl (iG K) te tl th) false (Li f lo hi):=by
 refine⟨fun τ d τ' e=>?_,?_⟩
 ·unfold Li at e
  obtain⟨⟨x,τ1⟩,e1,e⟩:=oB e
  obtain⟨⟨l,τ2⟩,e2,e⟩:=oB e
  obtain⟨⟨u,τ3⟩,e3,e⟩:=oB e
  dsimp only at e
  split at e
  ·split at e
   ·cases e
   ·cases e;exact((h.like _ _ _ e1).trans (hl.like _ _ _ e2)).trans (hh.like _ _ _ e3)
  ·cases e
 intro S M τ σ H Q d τ' r e q
 unfold Li at e
 obtain⟨⟨x,τ1⟩,e1,e⟩:=oB e
 obtain⟨⟨l,τ2⟩,e2,e⟩:=oB e
 obtain⟨⟨u,τ3⟩,e3,e⟩:=oB e
 dsimp only at e e2 e3
 cases x with
 |tuple xs =>
  dsimp only at e
  split at e
  ·cases e
  ·rename_i hw
   cases e
   refine h.run S M τ σ H _ _ _ r e1 fun v1 H1 r1 c1 i1=>?_
   refine hl.run S M τ1 σ H1 _ _ _ r1 e2 fun H2 r2 c2=>?_
   refine hh.run S M τ2 σ H2 _ _ _ r2 e3 fun H3 r3 c3=>?_
   have i1':Is K (hid S H3) (.tuple xs) v1:=((r.isr i1).mono (c2.keep r1.sub).same).mono (c3.keep r2.sub).same
   obtain⟨a,vs,rfl,ha,la⟩:=i1'
   refine⟨a,vs,rfl,Same.tup same_hid ha,by rw[la.length];exact hw,fun p hp=>?_⟩
   have s:=CA hp (HO.tup (Tn vs l u))
   exact q _ _ (r3.same s) (((c1.trans c2).trans c3).trans (.of s)) ⟨p,_,rfl,SqT.of (hid_iff.mpr ⟨r3.fresh hp,Bk⟩),(Yj la).mono (Same.keep s).same⟩
 |_=>cases e
end DL
end
section
namespace DL
open PySem L2 PyProof.Rows
def QT:List (Str×V)->Str->Option V
 |[],_=>none
 |t::r,k=>if t.1=k then some t.2 else QT r k
def RG(ts:List (Str×V))(k:Str)(v:V):List (Str×V):=if ts.any (fun t=>decide (t.1=k))=true then ts.map (fun t=>if t.1=k then (t.1,v) else t) else ts++[(k,v)]
theorem Rk{k:Str}:∀{ts:List (Str×V)} {vs:List (Key×Value)},KV (txK ts) vs->(match QT ts k with
  |some v=>∃u,valueAt vs (Sum.inr k)=some u/\RelV v u
  |none=>valueAt vs (Sum.inr k)=none)
 |[],vs,h=>by cases (show Paired _ [] vs from h);rfl
 |t::ts,vs,h=>by
  cases (show Paired _ ((Sum.inr t.1,t.2)::txK ts) vs from h) with
  |@cons _ q _ qs h1 h2 =>
   obtain⟨e1,e2⟩:=h1
   have ih:=Rk (k:=k) (ts:=ts) h2
   unfold QT
   by_cases e:t.1=k
   ·rw[if_pos e]
    have e':q.1=Sum.inr k:=by rw[<- e1,e]
    exact⟨q.2,by simp[valueAt,List.find?_cons,e'],e2⟩
   ·rw[if_neg e]
    have e':¬q.1=Sum.inr k:=fun z=>e (by have:=e1.trans z;exact Sum.inr.inj this)
    have:valueAt (q::qs) (Sum.inr k)=valueAt qs (Sum.inr k):=by simp[valueAt,List.find?_cons,e']
    rw[this];exact ih
theorem Yk{k:Str}{ts:List (Str×V)}{vs:List (Key×Value)}(h:KV (txK ts) vs):(valueAt vs (Sum.inr k)).isSome=(QT ts k).isSome:=by
 have g:=Rk (k:=k) h
 cases e:QT ts k with
 |none=>rw[e]at g;rw[show valueAt vs (Sum.inr k)=none from g];rfl
 |some v=>rw[e]at g;obtain⟨u,hu,_⟩:=g;rw[hu];rfl
theorem jH{k:Str}:∀{ts:List (Str×V)} {vs:List (Key×Value)},KV (txK ts) vs->(vs.any fun kv=>decide (kv.1=Sum.inr k))=ts.any fun t=>decide (t.1=k)
 |[],vs,h=>by cases (show Paired _ [] vs from h);rfl
 |t::ts,vs,h=>by
  cases (show Paired _ ((Sum.inr t.1,t.2)::txK ts) vs from h) with
  |@cons _ q _ qs h1 h2 =>
   rw[List.any_cons,List.any_cons,jH (k:=k) (ts:=ts) h2,<- h1.1]
   congr 1
   by_cases e:t.1=k
   ·rw[e];simp
   ·rw[decide_eq_false e,decide_eq_false (fun z=>e (Sum.inr.inj z))]
theorem iQ{k:Str}{v:V}{u:Value}(hv:RelV v u):∀{ts:List (Str×V)} {vs:List (Key×Value)},KV (txK ts) vs->KV (txK (ts.map fun t=>if t.1=k then (t.1,v) else t)) (vs.map fun kv=>if kv.1=Sum.inr k then (kv.1,u) else kv)
 |[],vs,h=>by cases (show Paired _ [] vs from h);exact .nil
 |t::ts,vs,h=>by
  cases (show Paired _ ((Sum.inr t.1,t.2)::txK ts) vs from h) with
  |@cons _ q _ qs h1 h2 =>
   refine .cons ?_ (iQ hv (ts:=ts) h2)
   obtain⟨e1,e2⟩:=h1
   dsimp only at e1 e2 ⊢
   by_cases e:t.1=k
   ·rw[if_pos e,if_pos (by rw[<- e1,e])];exact⟨e1,hv⟩
   ·rw[if_neg e,if_neg (fun z=>e (Sum.inr.inj (e1.trans z)))];exact⟨e1,e2⟩
theorem jE{k:Str}{v:V}{u:Value}(hv:RelV v u):∀{ts:List (Str×V)} {vs:List (Key×Value)},KV (txK ts) vs->KV (txK (ts++[(k,v)])) (vs++[(Sum.inr k,u)])
 |[],vs,h=>by cases (show Paired _ [] vs from h);exact .cons ⟨rfl,hv⟩ .nil
 |t::ts,vs,h=>by
  cases (show Paired _ ((Sum.inr t.1,t.2)::txK ts) vs from h) with
  |@cons _ q _ qs h1 h2=>exact .cons h1 (jE hv (ts:=ts) h2)
theorem aV{k:Str}{v:V}{u:Value}{ts:List (Str×V)}{vs:List (Key×Value)}(hv:RelV v u)(h:KV (txK ts) vs):KV (txK (RG ts k v)) (stored vs (Sum.inr k) u):=by
 unfold RG stored
 rw[jH h]
 split
 ·exact iQ hv h
 ·exact jE hv h
theorem jW{ts:List (Str×V)}{vs:List (Key×Value)}(h:KV (txK ts) vs):ts.length=vs.length:=by
 have:=Paired.length h
 unfold txK at this
 rw[List.length_map]at this
 exact this
theorem aW(ts:List (Str×V))(k:Str)(v:V):(RG ts k v).length<=ts.length+1:=by
 unfold RG
 split
 ·rw[List.length_map];omega
 ·rw[List.length_append];exact Nat.le_refl _
section
variable {X:Cx} {pins:List (Addr×Obj)} {σ:L2.St} {H:Hp} {s:Shared}
theorem Wj(I:Inv X pins σ H s){a:Addr}{ts:List (Str×V)}(h:H a=some (.dK (txK ts))):ts.length<=sizeLine/\(a==sysModules)=false/\∃vs,KV (txK ts) vs/\s.heap.DictOf (LB X.prog X.w) a vs:=by
 obtain⟨h1,h2,vs,h3,h4⟩:=(show ObjOk X.prog X.w H s.heap a (.dK (txK ts)) from I.hok a _ h)
 refine⟨?_,h2,vs,h3,h4⟩
 unfold txK at h1
 rw[List.length_map]at h1
 exact h1
end
theorem OQ{P:Program}{w:World}{k:Str}{u:Value}(h:RelV (.str k) u):(LB P w).is (Sum.inr k) u=true:=by
 obtain⟨t,rfl⟩:=h
 exact WQ P w k t
def fk:R2:=fun x y H Q=>∃a ts k v,x = .ref a/\y = .str k/\H a=some (.dK (txK ts))/\QT ts k=some v/\Q v H
theorem bI{X:Cx}:IxR X fk:=by
 intro value slice pins s σ H x y v u Q I rx ry h hs
 obtain⟨a,ts,k,z,rfl,rfl,hq,e,q⟩:=h
 cases rx
 obtain⟨h1,h2,vs,pr,dd⟩:=Wj I hq
 have g:=Rk (k:=k) pr
 rw[e]at g
 obtain⟨p,hp,rp⟩:=g
 exact tail_any dd.mapOf.typeIs PySem.F.slot_dict_getitem.lookup (wpAny_getItem_of (OQ ry) dd.mapOf hp ⟨z,H,I.tok _,rp,q⟩) hs
def fq(neg:Bool):R2:=fun y x H Q=>∃a ts k,x = .ref a/\y = .str k/\H a=some (.dK (txK ts))/\Q (.bl (neg != (QT ts k).isSome)) H
theorem aw{X:Cx}:OpR X (compareOp .In) (fq false):=by
 intro pins s σ H x y v u Q I rx ry h
 obtain⟨a,ts,k,rfl,rfl,hq,q⟩:=h
 cases ry
 obtain⟨h1,h2,vs,pr,dd⟩:=Wj I hq
 refine wpAny_in_of (OQ rx) h2 dd.mapOf ?_
 rw[Yk pr]
 exact⟨.bl _,H,I.tok _,rfl,by simpa using q⟩
theorem ZM{X:Cx}:OpR X (compareOp .NotIn) (fq true):=by
 intro pins s σ H x y v u Q I rx ry h
 obtain⟨a,ts,k,rfl,rfl,hq,q⟩:=h
 cases ry
 obtain⟨h1,h2,vs,pr,dd⟩:=Wj I hq
 refine wpAny_notIn_of (OQ rx) h2 dd.mapOf ?_
 rw[Yk pr]
 exact⟨.bl _,H,I.tok _,rfl,by simpa using q⟩
def eN:V->V->V->Hp->(Hp->Prop)->Prop:=fun o i v H Q=>∃a ts k,o = .ref a/\i = .str k/\H a=some (.dK (txK ts))/\ts.length<sizeLine/\Q (upd H a (.dK (txK (RG ts k v))))
theorem eM{X:Cx}:jK X eN:=by
 intro pins s σ H o i v ov iv u Q I ro ri rv h
 obtain⟨a,ts,k,rfl,rfl,hq,hl,q⟩:=h
 cases ro
 obtain⟨h1,h2,vs,pr,dd⟩:=Wj I hq
 have hz:vs.length<=sizeLine:=by rw[<- jW pr];exact h1
 refine wpAny_setItem_pairs (hsz:=hz) (OQ ri) dd fun h' dd' hs=>⟨_,?_,q⟩
 have he:∃q,h'.get? a=some q:=let ⟨q,_,_,hq,_⟩:=dd';⟨q,hq⟩
 refine I.write (x:=a) (e:=a) (by rw[hq];exact True.intro) (.inl rfl) (fun c z hc e=>(hs.2 c hc).trans e) he ?_
 have hl2:=aW ts k v
 exact⟨by unfold txK;rw[List.length_map];omega,h2,_,aV rv pr,dd'⟩
def eK:TE:=fun _ H Q=>∀p,H p=none->Q (.ref p) (upd H p (.dK (txK [])))
theorem YR{X:Cx}{pos:Pos}:PE X (.Dict [] [] pos) eK:=fun pins s σ H Q I h=>by
 have hb:sysModules<s.heap.objs.size:=Nat.lt_trans (by decide) (show mainGlobals<s.heap.objs.size from(I.mod.glob.keeps I.bk).lt)
 refine wpAny_Dict_empty ⟨.ref s.heap.objs.size,_,I.laid (a:=s.heap.objs.size) (o:=.dK (txK [])) (t':=s.toks) (fun _ _ q=>Heap.get?_push_of_some _ q) (Nat.le_refl _) ?_,rfl,h _ (I.hok.fresh (Nat.le_refl _))⟩
 exact⟨Nat.zero_le _,beq_eq_false_iff_ne.mpr (Ne.symm (Nat.ne_of_lt hb)),[],.nil,Heap.DictOf.new s.heap⟩
end DL
end
section
namespace DL
open PySem L2
variable {K:KW}
theorem Sd{S M:Addr->Prop}{τ:DS}{σ:St}{H:Hp}(r:R K S M τ σ H){i:Nat}{d:PyData}(hi:τ[i]?=some (some (.g d))) :
  ∃v F,σ[i]?=some (some v)/\DpT K S H d v F/\(∀a∈F,M a)/\∀(H':Hp) (d':PyData),Chg (fun b=>b∈F) H H'->(∀a∈F,∃o,H' a=some o)->DpT K S H' d' v F->R K S M (τ.set i (some (.g d'))) σ H':=by
 obtain⟨φ,g⟩:=r.gr
 obtain⟨⟨v,g1,g2⟩,g3,g4,g5,g6⟩:=g i d hi
 refine⟨v,φ i,g1,g2,g4,fun H' d' c ho hd=>?_⟩
 have hlt:i<τ.length:=(List.getElem?_eq_some_iff.mp hi).1
 have ne:∀j,j≠i->(τ.set i (some (.g d')))[j]?=τ[j]?:=fun j hj=>List.getElem?_set_ne (Ne.symm hj)
 have se:(τ.set i (some (.g d')))[i]?=some (some (.g d')):=List.getElem?_set_self hlt
 have k:Keep S H S H':=c.keep fun b hb=>r.sub b (g4 b hb)
 have own:∀(j:Nat) (ys:Ow),(τ.set i (some (.g d')))[j]?=some (some ys.L)->j≠i/\τ[j]?=some (some ys.L):=fun j ys e=>by
  by_cases hj:j=i
  ·subst hj;rw[se]at e;exact absurd (Option.some.inj (Option.some.inj e)).symm Ow.not_g
  ·rw[ne j hj]at e;exact⟨hj,e⟩
 refine⟨by rw[List.length_set];exact r.len,fun j x e=>?_,fun j ys e=>?_,fun j ys e=>?_,fun j1 j2 ys zs b e1 e2 f1 f2=>r.inj _ _ _ _ b (own _ _ e1).2 (own _ _ e2).2 f1 f2,r.sub,fun a h=>?_,?_⟩
 ·by_cases hj:j=i
  ·subst hj;rw[se]at e;cases e
  ·rw[ne j hj]at e
   obtain⟨u,h1,h2⟩:=r.dat j x e
   exact⟨u,h1,h2.mono k.same⟩
 ·obtain⟨hj,e⟩:=own j ys e
  obtain⟨b,us,h1,h2,h3,h4⟩:=r.mt j ys e
  exact⟨b,us,h1,h2,c b _ (g5 j ys b e h1) h3,h4.mono k.same⟩
 ·by_cases hj:j=i
  ·subst hj;rw[se]at e;cases e
  ·rw[ne j hj]at e
   obtain⟨b,us,h1,h2,h3⟩:=r.cst j ys e
   exact⟨b,us,h1,k.same.seq h2,h3.mono k.same⟩
 ·by_cases hb:a∈φ i
  ·exact ho a hb
  ·obtain⟨o,e⟩:=r.ex a h
   exact⟨o,c a o hb e⟩
 ·refine⟨φ,fun j x e=>?_⟩
  by_cases hj:j=i
  ·subst hj
   rw[se]at e;cases e
   refine⟨⟨v,g1,hd⟩,g3,g4,fun j' o a z1 z2=>g5 j' o a (own j' o z1).2 z2,fun j' x' hj' z=>?_⟩
   rw[ne j' hj']at z
   exact g6 j' x' hj' z
  ·rw[ne j hj]at e
   obtain⟨⟨v',q1,q2⟩,q3,q4,q5,q6⟩:=g j x e
   have on:∀a∈φ j,H' a=H a:=fun a ha=>by
    obtain⟨o,e'⟩:=r.ex a (r.sub a (q4 a ha))
    rw[e'];exact c a o (fun z=>q6 i d (Ne.symm hj) hi a ha z) e'
   refine⟨⟨v',q1,q2.mono (tsS k.same) on⟩,q3,q4,fun j' o a z1 z2=>q5 j' o a (own j' o z1).2 z2,fun j' x' hj' z=>?_⟩
   by_cases hj2:j'=i
   ·subst hj2;exact q6 j' d hj' hi
   ·rw[ne j' hj2]at z;exact q6 j' x' hj' z
def Yv(np i:Nat)(τ:DS):Option Out:=if np<=i/\i<τ.length then some (.nx (τ.set i (some (.g (.dict []))))) else none
theorem cL{np:Nat}{fr:Bool}{i:Nat}:B K np (Ua eK (NT i)) fr (Yv np i):=by
 intro F S M τ σ H D out hnp f ee q
 unfold Yv at ee
 split at ee
 ·rename_i hi
  cases ee
  intro a ha
  have s:=CA ha (HO.dK (txK []))
  have f1:=f.hide s ha ⟨_,Bk⟩
  have hM:¬M a:=fun z=>f.r.fresh ha (f.r.sub a z)
  refine q _ _ _ _ (f1.newG (X:=[a]) hi.2 (Nat.le_trans hnp hi.1) (fun b hb=>.inr (List.mem_singleton.mp hb)) (fun b hb=>by rw[List.mem_singleton.mp hb];exact hM) (fun b hb=>by rw[List.mem_singleton.mp hb];exact f.hnone ha) (by simp) ⟨a,[],rfl,rfl,Bk,rfl⟩) fun b o hn e=>⟨fun z=>z.elim hn (B6 e ha),s b o e⟩
 ·cases ee
def Mw:List (PyData×PyData)->Str->Option PyData
 |[],_=>none
 |(.str x,d)::r,k=>if x=k then some d else Mw r k
 |_::r,k=>Mw r k
theorem Q6{H:Hp}{k:Str}:∀{kvs:List (PyData×PyData)} {ts:List (Str×V)},IsX K H kvs ts->(match Mw kvs k with
  |some d=>∃v,QT ts k=some v/\Is K H d v/\GN d=true
  |none=>QT ts k=none)
 |[],_,h=>by rw[show _=[] from h];rfl
 |(_,d)::r,_,⟨t,tr,e,ek,f,h,l⟩=>by
  subst e ek
  have ih:=Q6 (k:=k) l
  unfold Mw QT
  by_cases e:t.1=k
  ·rw[if_pos e,if_pos e];exact⟨t.2,rfl,h,f⟩
  ·rw[if_neg e,if_neg e];exact ih
def Qr(i:Nat)(f:DX)(τ:DS):Option (PyData×DS):=match τ[i]? with
 |some (some (.g (.dict _)))=>(f τ).bind fun p=>match p.1,p.2[i]? with
  |.str k,some (some (.g (.dict kvs)))=>(Mw kvs k).map fun d=>(d,p.2)
  |_,_=>none
 |_=>none
theorem bY{i:Nat}{fr:Bool}{tb:TE}{f:DX}(h:E K tb fr f):E K (tOp fk (J9 i) tb) false (Qr i f):=by
 refine⟨fun τ d τ' e=>?_,?_⟩
 ·unfold Qr at e
  split at e
  ·obtain⟨⟨x,τ1⟩,e1,e⟩:=oB e
   dsimp only at e
   split at e
   ·obtain⟨z,e3,e⟩:=oM e
    cases e;exact h.like _ _ _ e1
   ·cases e
  ·cases e
 intro S M τ σ H Q d τ' r e q
 unfold Qr at e
 split at e
 ·rename_i kv0 h0
  obtain⟨⟨x,τ1⟩,e1,e⟩:=oB e
  dsimp only at e
  split at e
  ·rename_i k kvs hk
   obtain⟨z,e3,e⟩:=oM e
   cases e
   obtain⟨v0,F0,hv0,_⟩:=Sd r h0
   refine⟨v0,hv0,h.weak.run S M τ σ H _ _ _ r e1 fun u H1 r1 c1 i1=>?_⟩
   obtain⟨v1,F1,hv1,⟨a,ts,ea,_,hH,l⟩,_⟩:=Sd r1 hk
   rw[hv0]at hv1;cases hv1
   subst ea
   have g:=Q6 (k:=k) l
   rw[e3]at g
   obtain⟨v,gv,iv,_⟩:=g
   exact⟨a,ts,k,v,rfl,i1,hH,gv,q v H1 r1 c1 iv⟩
  ·cases e
 ·cases e
def Qs(neg:Bool)(f:DX)(i:Nat)(τ:DS):Option (PyData×DS):=(f τ).bind fun p=>match p.1,p.2[i]? with
 |.str k,some (some (.g (.dict kvs)))=>some (.bool (neg != (Mw kvs k).isSome),p.2)
 |_,_=>none
theorem bZ{neg:Bool}{i:Nat}{fr:Bool}{ta:TE}{f:DX}(h:E K ta fr f):E K (tOp (fq neg) ta (J9 i)) false (Qs neg f i):=by
 refine⟨fun τ d τ' e=>?_,?_⟩
 ·unfold Qs at e
  obtain⟨⟨x,τ1⟩,e1,e⟩:=oB e
  dsimp only at e
  split at e
  ·cases e;exact h.like _ _ _ e1
  ·cases e
 intro S M τ σ H Q d τ' r e q
 unfold Qs at e
 obtain⟨⟨x,τ1⟩,e1,e⟩:=oB e
 dsimp only at e
 split at e
 ·rename_i k kvs hk
  cases e
  refine h.weak.run S M τ σ H _ _ _ r e1 fun u H1 r1 c1 i1=>?_
  obtain⟨v1,F1,hv1,⟨a,ts,ea,_,hH,l⟩,_⟩:=Sd r1 hk
  subst ea
  have g:=Q6 (k:=k) l
  have eq:(QT ts k).isSome=(Mw kvs k).isSome:=by
   cases z:Mw kvs k with
   |none=>rw[z]at g;rw[show QT ts k=none from g];rfl
   |some y=>rw[z]at g;obtain⟨v,gv,_⟩:=g;rw[gv];rfl
  refine⟨.ref a,hv1,a,ts,k,rfl,i1,hH,?_⟩
  rw[eq]
  exact q _ H1 r1 c1 rfl
 ·cases e
def XC(kvs:List (PyData×PyData))(k:Str)(d:PyData):List (PyData×PyData):=if (Mw kvs k).isSome=true then kvs.map (fun p=>match p with
  |(.str x,y)=>if x=k then (.str x,d) else (.str x,y)
  |p=>p) else kvs++[(.str k,d)]
theorem jI{H:Hp}{k:Str}:∀{kvs:List (PyData×PyData)} {ts:List (Str×V)},IsX K H kvs ts->(ts.any fun t=>decide (t.1=k))=(Mw kvs k).isSome
 |[],_,h=>by rw[show _=[] from h];rfl
 |(_,d)::r,_,⟨t,tr,e,ek,f,h,l⟩=>by
  subst e ek
  unfold Mw
  rw[List.any_cons,jI (k:=k) l]
  by_cases e:t.1=k
  ·rw[if_pos e,decide_eq_true e];rfl
  ·rw[if_neg e,decide_eq_false e,Bool.false_or]
theorem iR{H:Hp}{k:Str}{d:PyData}{v:V}(fd:GN d=true)(hv:Is K H d v):∀{kvs:List (PyData×PyData)} {ts:List (Str×V)},IsX K H kvs ts->IsX K H (kvs.map fun p=>match p with
  |(.str x,y)=>if x=k then (.str x,d) else (.str x,y)
  |p=>p) (ts.map fun t=>if t.1=k then (t.1,v) else t)
 |[],_,h=>by rw[show _=[] from h];rfl
 |(_,y)::r,_,⟨t,tr,e,ek,f,h,l⟩=>by
  subst e ek
  have ih:=iR (k:=k) fd hv l
  rw[List.map_cons,List.map_cons]
  dsimp only
  by_cases e:t.1=k
  ·rw[if_pos e,if_pos e];exact⟨_,_,rfl,rfl,fd,hv,ih⟩
  ·rw[if_neg e,if_neg e];exact⟨_,_,rfl,rfl,f,h,ih⟩
theorem jF{H:Hp}{k:Str}{d:PyData}{v:V}(fd:GN d=true)(hv:Is K H d v):∀{kvs:List (PyData×PyData)} {ts:List (Str×V)},IsX K H kvs ts->IsX K H (kvs++[(.str k,d)]) (ts++[(k,v)])
 |[],_,h=>by rw[show _=[] from h];exact⟨_,_,rfl,rfl,fd,hv,rfl⟩
 |(_,y)::r,_,⟨t,tr,e,ek,f,h,l⟩=>by
  subst e ek
  exact⟨_,_,rfl,rfl,f,h,jF fd hv l⟩
theorem cZ{H:Hp}{k:Str}{d:PyData}{v:V}{kvs:List (PyData×PyData)}{ts:List (Str×V)}(fd:GN d=true)(hv:Is K H d v)(h:IsX K H kvs ts):IsX K H (XC kvs k d) (RG ts k v):=by
 unfold XC RG
 rw[jI h]
 split
 ·exact iR fd hv h
 ·exact jF fd hv h
theorem Yb{H:Hp}:∀{kvs:List (PyData×PyData)} {ts:List (Str×V)},IsX K H kvs ts->ts.length=kvs.length
 |[],_,h=>by rw[show _=[] from h];rfl
 |(_,_)::_,_,⟨t,tr,e,_,_,_,l⟩=>by subst e;rw[List.length_cons,List.length_cons,Yb l]
def QJ(i:Nat)(e k:DX)(τ:DS):Option Out:=(e τ).bind fun p=>match p.2[i]? with
 |some (some (.g (.dict _)))=>(k p.2).bind fun q=>match q.1,q.2[i]? with
  |.str x,some (some (.g (.dict kvs)))=>if GN p.1=true/\kvs.length<sizeLine then some (.nx (q.2.set i (some (.g (.dict (XC kvs x p.1)))))) else none
  |_,_=>none
 |_=>none
theorem cK{np:Nat}{fr f1 f2:Bool}{i:Nat}{te tk:TE}{e k:DX}(he:E K te f1 e)(hk:E K tk f2 k):B K np (Ua te (ie (J9 i) tk eN)) fr (QJ i e k):=by
 intro F S M τ σ H D out hnp f ee q
 unfold QJ at ee
 obtain⟨⟨x,τ1⟩,e1,ee⟩:=oB ee
 dsimp only at ee
 split at ee
 ·rename_i kv0 h0
  obtain⟨⟨y,τ2⟩,e2,ee⟩:=oB ee
  dsimp only at ee
  split at ee
  ·rename_i z kvs h2
   split at ee
   ·rename_i hc
    cases ee
    refine he.weak.run S M τ σ H _ x τ1 f.r e1 fun v H1 r1 c1 i1=>?_
    obtain⟨v0,F0,hv0,_⟩:=Sd r1 h0
    refine⟨v0,hv0,hk.weak.run S M τ1 σ H1 _ _ τ2 r1 e2 fun u H2 r2 c2 i2=>?_⟩
    obtain⟨v1,F1,hv1,⟨a,ts,ea,eF,hH,l⟩,hM,go⟩:=Sd r2 h2
    rw[hv0]at hv1;cases hv1
    subst ea eF
    have Sa:S a:=r2.sub a (hM a (List.mem_singleton_self a))
    refine⟨a,ts,z,rfl,i2,hH,by rw[Yb l];exact hc.2,?_⟩
    have iv:Is K (hid S H2) x v:=Is.mono (c2.keep r1.sub).same i1
    have c3:Chg (fun b=>b∈[a]) H2 (upd H2 a (.dK (txK (RG ts z v)))):=fun b o hn e=>by rw[CI (fun w=>hn (by rw[w];exact List.mem_singleton_self a))];exact e
    have r3:=go (upd H2 a (.dK (txK (RG ts z v)))) (.dict (XC kvs z x)) c3 (fun b hb=>by rw[List.mem_singleton.mp hb];exact⟨_,Bk⟩) ⟨a,RG ts z v,rfl,rfl,Bk,by rw[Q5 Sa];exact cZ hc.1 iv l⟩
    have c4:Chg M H (upd H2 a (.dK (txK (RG ts z v)))):=(c1.trans c2).trans fun b o hn e=>c3 b o (fun w=>hn (by rw[List.mem_singleton.mp w];exact hM a (List.mem_singleton_self a))) e
    have lk:=(he.like _ _ _ e1).trans (hk.like _ _ _ e2)
    refine q S M σ _ ⟨r3,f.sS,fun b o e n=>c4 b o (fun w=>(f.new b w).elim n fun y=>by rw[y]at e;cases e) (f.old b o e n),f.new,f.fm,f.fs,f.fsub,f.snew,f.par,fun j v' e=>?_,f.fma⟩ (c4.keep f.r.sub)
    obtain⟨o,ho'⟩:=f.pm j v' e
    obtain⟨o2,h2'⟩:=(lk.own j).mpr ⟨o,ho'⟩
    have hj:j≠i:=fun w=>by subst w;rw[h2]at h2';exact Ow.not_g (Option.some.inj (Option.some.inj h2')).symm
    exact⟨o2,by rw[List.getElem?_set_ne (Ne.symm hj)];exact h2'⟩
   ·cases ee
  ·cases ee
 ·cases ee
end DL
namespace L2
open PySem
theorem O1{X:Cx}{k:Nat}{ps:List Str}{sp:Sp}{x:Str}{p pos:Pos}(C:Cal X.prog X.w X.K X.mg X.base k x ps sp)(hr:Room k X.A)(hg:Gl X x)(hdb:(x==("__debug__":Str))=false:=by decide):PE X (.Call (.Name x p) [] [] pos) (P2 sp [] E0 Mr):=by
 obtain⟨f,fd,F,b,kp,m⟩:=C.ex
 exact ak F hr hg m kp b .nil ao hdb
end L2
end
section
namespace DL
open PySem L2
variable {K:KW}
end DL
end
section
namespace DL
open PySem L2
variable {K:KW} {np:Nat}
end DL
end
section
namespace DL
open PySem L2
variable {K:KW}
end DL
end
section
namespace DL
open PySem L2 PyProof.Rows
variable {K:KW}
def Ka:List PyData->Option (List Bool)
 |[]=>some []
 |.bool b::r=>(Ka r).map (b::·)
 |_::_=>none
theorem N3:∀{bs:List Bool} {us:List Value},Vals (bs.map V.bl) us->us=bs.map Value.bool
 |[],_,.nil=>rfl
 |b::bs,_,.cons z zs=>by rw[N3 zs,show _=Value.bool b from z];rfl
theorem SY{H:Hp}:∀{ds:List PyData} {vs:List V} {bs:List Bool},IsL K H ds vs->Ka ds=some bs->vs=bs.map V.bl
 |[],_,_,h,e=>by cases e;exact h
 |.bool b::r,_,_,⟨v,us,e1,iv,l⟩,e=>by
  obtain⟨ms,e2,e⟩:=oM e
  subst e
  cases (show v = .bl b from iv)
  rw[e1,SY l e2]
  rfl
 |.none::_,_,_,_,e=>by cases e
 |.int _::_,_,_,_,e=>by cases e
 |.str _::_,_,_,_,e=>by cases e
 |.list _::_,_,_,_,e=>by cases e
 |.tuple _::_,_,_,_,e=>by cases e
 |.dict _::_,_,_,_,e=>by cases e
theorem aS:∀bs:List Bool,(List.range bs.length).map (fun i=>bs.getD i false)=bs:=fun bs=>by
 refine List.ext_getElem (by simp) fun i h1 h2=>?_
 simp[List.getElem_map,h2]
theorem ZH(bs:List Bool):(List.range bs.length).all (fun i=>bs.getD i false)=bs.all id:=by
 have h:=congrArg (fun l:List Bool=>l.all id) (aS bs)
 rw[List.all_map]at h
 exact h
theorem ZG(bs:List Bool):(List.range bs.length).any (fun i=>bs.getD i false)=bs.any id:=by
 have h:=congrArg (fun l:List Bool=>l.any id) (aS bs)
 rw[List.any_map]at h
 exact h
theorem P0{P:Program}{w:World}{A:Around}(bs:List Bool):TruthOf P w A (fun i v=>(bs.map Value.bool).toArray[i]?=some v) (fun i=>bs.getD i false):=by
 intro i v s Q E hP hQ
 rw[List.getElem?_toArray,List.getElem?_map]at hP
 obtain⟨b,hb,rfl⟩:=oM hP
 refine wpAny_truthy_bool ?_
 have e:bs.getD i false=b:=by rw[List.getD_eq_getElem?_getD,hb];rfl
 dsimp only at hQ
 rwa [e]at hQ
def eV(K:KW):List V->Hp->VK->Prop:=fun xs H Q=>∃(a:Addr) (bs:List Bool),xs=[.ref a]/\SqL K H a (bs.map V.bl)/\Q (.bl (bs.all id)) H
def eU(K:KW):List V->Hp->VK->Prop:=fun xs H Q=>∃(a:Addr) (bs:List Bool),xs=[.ref a]/\SqL K H a (bs.map V.bl)/\Q (.bl (bs.any id)) H
theorem Rj{P:Program}{w:World}{A:Around}{E:Value->Shared->Prop}{s:Shared}{l:Addr}{items:Array Value}{Q:Value->Shared->Prop}(hl:s.heap.IsList l items)
  (h : ∀ s₂ : Shared, s₂ = { s with heap := s.heap.push { cls := .type "list_iterator", data := .fields #[.ref l, .int 0 0] } } ->
   (s₂.heap.IsListIter s.heap.objs.size l 0/\s₂.heap.IsList l items)->l≠s.heap.objs.size->Q (.ref s.heap.objs.size) s₂) :
  wpAny (model P w) A (pyIter (.ref l)) Q E s:=by
 have hlt:l<s.heap.objs.size:=by obtain⟨_,e,_⟩:=hl;exact Heap.lt_size e
 exact wpAny_pyIter_list hl (h _ rfl ⟨⟨_,Heap.get?_push_size _ rfl,rfl,rfl⟩,hl.push _⟩ (Nat.ne_of_lt hlt))
theorem Mq{X:Cx}(hc:X.calm=true):J8 X (.builtin "all") (eV (Mv X)):=by
 intro pins s σ H xs us Q I r h
 obtain⟨a,bs,rfl,hs,q⟩:=h
 obtain⟨u,rfl,ru⟩:=NA r
 cases ru
 obtain⟨its,rv,p,hz⟩:=I.list hs
 cases N3 rv
 have hl:=p.isList
 refine call_all_walk (Rj hl fun s₂ e st hlI=>?_)
 subst e
 refine⟨_,_,_,_,_,_,fun i=>bs.getD i false,rfl,Walks.list (A:=X.A.in1) (I.ok.hd hc) _ a hlI (bs.map Value.bool).toArray,st,P0 bs,fun h' tk hk=>?_⟩
 have hn:(bs.map Value.bool).toArray.size=bs.length:=by rw[List.size_toArray,List.length_map]
 rw[hn,ZH]
 exact⟨.bl (bs.all id),H,I.kept (old_kept hk),rfl,q⟩
theorem Zz{X:Cx}(hc:X.calm=true):J8 X (.builtin "any") (eU (Mv X)):=by
 intro pins s σ H xs us Q I r h
 obtain⟨a,bs,rfl,hs,q⟩:=h
 obtain⟨u,rfl,ru⟩:=NA r
 cases ru
 obtain⟨its,rv,p,hz⟩:=I.list hs
 cases N3 rv
 have hl:=p.isList
 refine call_any_walk (Rj hl fun s₂ e st hlI=>?_)
 subst e
 refine⟨_,_,_,_,_,_,fun i=>bs.getD i false,rfl,Walks.list (A:=X.A.in1) (I.ok.hd hc) _ a hlI (bs.map Value.bool).toArray,st,P0 bs,fun h' tk hk=>?_⟩
 have hn:(bs.map Value.bool).toArray.size=bs.length:=by rw[List.size_toArray,List.length_map]
 rw[hn,ZG]
 exact⟨.bl (bs.any id),H,I.kept (old_kept hk),rfl,q⟩
def QC:List PyData->Option PyData
 |[.list ds]=>(Ka ds).map fun bs=>.bool (bs.all id)
 |_=>none
def Wh:List PyData->Option PyData
 |[.list ds]=>(Ka ds).map fun bs=>.bool (bs.any id)
 |_=>none
theorem Vi:BR K false (eV K) QC:=by
 intro S H vs ds d Q _ l e q
 unfold QC at e
 split at e
 ·obtain⟨bs,e1,e⟩:=oM e
  cases e
  obtain⟨v,us,rfl,⟨a,ws,rfl,h,lw⟩,iu⟩:=l
  cases (show us=[] from iu)
  rw[SY lw e1]at h
  exact⟨a,bs,rfl,SqL.of (hid_iff.mp h).2,q _ H (fun _ _ e=>e) rfl⟩
 ·cases e
theorem gb:BR K false (eU K) Wh:=by
 intro S H vs ds d Q _ l e q
 unfold Wh at e
 split at e
 ·obtain⟨bs,e1,e⟩:=oM e
  cases e
  obtain⟨v,us,rfl,⟨a,ws,rfl,h,lw⟩,iu⟩:=l
  cases (show us=[] from iu)
  rw[SY lw e1]at h
  exact⟨a,bs,rfl,SqL.of (hid_iff.mp h).2,q _ H (fun _ _ e=>e) rfl⟩
 ·cases e
end DL
end
section
namespace L2
open PySem PySem.Spec PyProof.Rows
section
variable {X:Cx} {a b:Expr} {p pos:Pos} {e:Expr} {es:List Expr} {te:TE} {t:TA}
def jO(X:Cx)(T:Addr->Sp->Prop):Prop:=∀f sp,T f sp->∃k fd ps,FnOk X.prog X.w X.K X.mg X.base CX0 k f fd ps sp/\Room k X.A/\PySem.W.keepIn X.K (.ref f)=true/\Binds X.K fd ps []
def aN(T:Addr->Sp->Prop)(te:TE)(t:TA):TE:=fun σ H Q=>te σ H fun v H1=>∃f sp,v = .ref f/\T f sp/\P2 sp [] E0 t σ H1 Q
theorem ai{T:Addr->Sp->Prop}(hT:jO X T)(hf:PE X (.Subscript a b p) te)(ha:PA X (e::es) t)
  (he:starEach (e::es) X.env=(false,eval e X.env)::starEach es X.env:=by rfl) (hpl:(backTo pos (starEach es X.env)).any (·.1)=false:=by rfl) :
  PE X (.Call (.Subscript a b p) (e::es) [] pos) (aN T te t):=by
 intro pins s σ H Q I h
 have ev:eval (.Call (.Subscript a b p) (e::es) [] pos) X.env=(do callWith pos (<- eval (.Subscript a b p) X.env) [] (backTo pos (starEach (e::es) X.env)) (backToKw pos (keywordEach [] X.env))):=rfl
 rw[ev]
 refine wpAny_bind (thn (hf pins s σ H _ I h) fun u s1 ⟨x,H1,I1,rx,q⟩=>?_)
 obtain⟨f,sp,rfl,ht,q⟩:=q
 cases (show u=Value.ref f from rx)
 obtain⟨k,fd,ps,F,hr,hk,hb⟩:=hT f sp ht
 refine PySem.W.callWith_K (h₀:=X.base) I1.ok.mod.kin hk (thn (ha pos pins s1 σ H1 _ I1 q) fun us s2 ⟨vs,H2,I2,r,q2⟩=>⟨I2.kIn,?_⟩) he hpl
 exact XB F hr hb .nil ao I2 r q2
end
end L2
namespace DL
open PySem L2 PyProof.Rows
variable {K:KW}
def KfL(w:World):List DictEntry->List (Str×Addr)->Prop
 |[],[]=>True
 |e::es,p::tb=>(∃t,e.key = .str p.1 t)/\e.hash=hashStr w p.1/\e.val = .ref p.2/\KfL w es tb
 |_,_=>False
structure KF(K:KW)(w:World)(a:Addr)(tb:List (Str×Addr)):Prop where
 ex:∃es n,K.fr.lookup a=some ⟨.type "dict",none,.dict es n,#[]⟩/\KfL w es.toList tb
def GP{α:Type}:List (Str×α)->Str->Option α
 |[],_=>none
 |p::r,k=>if p.1=k then some p.2 else GP r k
theorem Ye{w:World}:∀{es:List DictEntry} {tb:List (Str×Addr)},KfL w es tb->∀e∈es,∃k,Value.isStrOf k e.key=true/\e.hash=hashStr w k
 |[],_,_,e,h=>nomatch h
 |x::es,[],h,_,_=>h.elim
 |x::es,p::tb,⟨⟨t,hk⟩,hh,_,r⟩,e,h=>by
  rcases List.mem_cons.mp h with rfl|h
  ·exact⟨p.1,by rw[hk,FC];exact decide_eq_true rfl,hh⟩
  ·exact Ye r e h
theorem Yf{w:World}{k:Str}:∀{es:List DictEntry} {tb:List (Str×Addr)},KfL w es tb->(es.find? fun e=>Value.isStrOf k e.key).map (·.val)=(GP tb k).map Value.ref
 |[],[],_=>rfl
 |[],_::_,h=>h.elim
 |_::_,[],h=>h.elim
 |x::es,p::tb,⟨⟨t,hk⟩,hh,hc,r⟩=>by
  unfold GP
  rw[List.find?_cons,hk,FC]
  by_cases e:p.1=k
  ·rw[if_pos e,decide_eq_true e.symm]
   show some x.val=_
   rw[hc];rfl
  ·rw[if_neg e,decide_eq_false (Ne.symm e)]
   exact Yf r
theorem e8{X:Cx}{pins:List (Addr×Obj)}{σ:L2.St}{H:Hp}{s:Shared}{a:Addr}{tb:List (Str×Addr)}(kf:KF (Mv X) X.w a tb)(I:Inv X pins σ H s):∃es:Array DictEntry,s.heap.MapOf (strKind X.prog X.w) a (fun k=>findBy Value.isStrOf es k)/\∀k,findBy Value.isStrOf es k=(GP tb k).map Value.ref:=by
 obtain⟨es,n,lk,hL⟩:=kf.ex
 have ho:=I.kIn _ _ lk
 refine⟨es,⟨_,es,n,ho,⟨rfl,rfl,rfl⟩,rfl,fun e he=>Ye hL e (Array.mem_toList_iff.mpr he),fun _=>rfl⟩,fun k=>?_⟩
 unfold findBy
 rw[<- Array.find?_toList]
 exact Yf hL
def rKf(a:Addr)(tb:List (Str×Addr)):R2:=fun x y H Q=>x = .ref a/\∃k f,y = .str k/\GP tb k=some f/\Q (.ref f) H
theorem iT{X:Cx}{a:Addr}{tb:List (Str×Addr)}(kf:KF (Mv X) X.w a tb):IxR X (rKf a tb):=by
 intro value slice pins s σ H x y v u Q I rx ry h hs
 obtain⟨rfl,k,f,rfl,hg,q⟩:=h
 cases rx
 obtain⟨t,rfl⟩:=ry
 obtain⟨es,hm,hf⟩:=e8 kf I
 exact tail_any hm.typeIs PySem.F.slot_dict_getitem.lookup (wpAny_getItem_of (k:=k) (key:=.str k t) (by show Value.isStrOf k (.str k t)=true;rw[FC];exact decide_eq_true rfl) hm (v:=.ref f) (by rw[hf,hg];rfl) ⟨.ref f,H,I.tok _,rfl,q⟩) hs
def eQ(a:Addr)(tb:List (Str×Addr))(neg:Bool):R2:=fun y x H Q=>x = .ref a/\∃k,y = .str k/\Q (.bl (neg != (GP tb k).isSome)) H
theorem cm{X:Cx}{a:Addr}{tb:List (Str×Addr)}(kf:KF (Mv X) X.w a tb)(hs:(a==sysModules)=false):OpR X (compareOp .In) (eQ a tb false):=by
 intro pins s σ H x y v u Q I rx ry h
 obtain⟨rfl,k,rfl,q⟩:=h
 cases ry
 obtain⟨t,rfl⟩:=rx
 obtain⟨es,hm,hf⟩:=e8 kf I
 refine wpAny_in_of (k:=k) (by show Value.isStrOf k (.str k t)=true;rw[FC];exact decide_eq_true rfl) hs hm ?_
 rw[hf,Option.isSome_map]
 exact⟨.bl _,H,I.tok _,rfl,by simpa using q⟩
theorem Yh{w:World}{k:Str}:∀{es:List DictEntry} {tb:List (Str×PyData)},KdL K w es tb->(es.find? fun e=>Value.isStrOf k e.key).isSome=(P1 tb k).isSome
 |[],[],_=>rfl
 |[],_::_,h=>h.elim
 |_::_,[],h=>h.elim
 |x::es,p::tb,⟨⟨t,hk⟩,hh,hc,r⟩=>by
  unfold P1
  rw[List.find?_cons,hk,FC]
  by_cases e:p.1=k
  ·rw[if_pos e,decide_eq_true e.symm];rfl
  ·rw[if_neg e,decide_eq_false (Ne.symm e)]
   exact Yh r
def eR(a:Addr)(tb:List (Str×PyData)):R2:=fun y x H Q=>x = .ref a/\∃k,y = .str k/\Q (.bl (P1 tb k).isSome) H
theorem cq{X:Cx}{a:Addr}{tb:List (Str×PyData)}(kd:KD (Mv X) X.w a tb)(hs:(a==sysModules)=false):OpR X (compareOp .In) (eR a tb):=by
 intro pins s σ H x y v u Q I rx ry h
 obtain⟨rfl,k,rfl,q⟩:=h
 cases ry
 obtain⟨t,rfl⟩:=rx
 obtain⟨es,n,lk,hL⟩:=kd.ex
 have ho:=I.kIn _ _ lk
 have hm:s.heap.MapOf (strKind X.prog X.w) a (fun k=>findBy Value.isStrOf es k):=⟨_,es,n,ho,⟨rfl,rfl,rfl⟩,rfl,fun e he=>Yi hL e (Array.mem_toList_iff.mpr he),fun _=>rfl⟩
 refine wpAny_in_of (k:=k) (by show Value.isStrOf k (.str k t)=true;rw[FC];exact decide_eq_true rfl) hs hm ?_
 have e:(findBy Value.isStrOf es k).isSome=(P1 tb k).isSome:=by
  unfold findBy
  rw[<- Array.find?_toList,Option.isSome_map]
  exact Yh hL
 rw[e]
 exact⟨.bl _,H,I.tok _,rfl,q⟩
def dg(tb:List (Str×PyData))(f:DX)(τ:DS):Option (PyData×DS):=(f τ).bind fun p=>match p.1 with
 |.str k=>some (.bool (P1 tb k).isSome,p.2)
 |_=>none
theorem iq{fa:Bool}{a:Addr}{tb:List (Str×PyData)}{t:TE}{f:DX}(h:E K t fa f):E K (tOp (eR a tb) t (tC (.ref a))) false (dg tb f):=by
 refine⟨fun τ d τ' e=>?_,?_⟩
 ·unfold dg at e
  obtain⟨⟨x,τ1⟩,e1,e⟩:=oB e
  dsimp only at e
  split at e
  ·cases e;exact h.like _ _ _ e1
  ·cases e
 intro S M τ σ H Q d τ' r e q
 unfold dg at e
 obtain⟨⟨x,τ1⟩,e1,e⟩:=oB e
 dsimp only at e
 split at e
 ·rename_i k
  cases e
  refine h.weak.run S M τ σ H _ _ _ r e1 fun v H1 r1 c1 i1=>?_
  cases (show v = .str k from i1)
  exact⟨rfl,k,rfl,q _ H1 r1 c1 rfl⟩
 ·cases e
abbrev Mir:=List L->Option (PyData×List L)
inductive TMs (T:Addr->Mir->Prop):List (Str×Addr)->List (Str×Mir)->Prop
 |nil:TMs T [] []
 |cons {k:Str} {f:Addr} {G:Mir} {tb:List (Str×Addr)} {tm:List (Str×Mir)} (h:T f G) (r:TMs T tb tm):TMs T ((k,f)::tb) ((k,G)::tm)
theorem TMs.get{T:Addr->Mir->Prop}{k:Str}{G:Mir}:∀{tb:List (Str×Addr)} {tm:List (Str×Mir)},TMs T tb tm->GP tm k=some G->∃f,GP tb k=some f/\T f G
 |_,_,.nil,h=>by cases h
 |_,_,.cons (k:=k') (f:=f) h r,e=>by
  unfold GP at e ⊢
  by_cases z:k'=k
  ·rw[if_pos z]at e ⊢
   cases e
   exact⟨f,rfl,h⟩
  ·rw[if_neg z]at e ⊢
   exact r.get e
theorem TMs.some{T:Addr->Mir->Prop}{k:Str}:∀{tb:List (Str×Addr)} {tm:List (Str×Mir)},TMs T tb tm->(GP tb k).isSome=(GP tm k).isSome
 |_,_,.nil=>rfl
 |_,_,.cons (k:=k') h r=>by
  unfold GP
  by_cases z:k'=k
  ·rw[if_pos z,if_pos z];rfl
  ·rw[if_neg z,if_neg z];exact r.some
def jP(P:Program)(w:World)(K:PySem.W.Frag)(mg:Str->Option Value)(base:Heap)(k:Nat):Addr->Mir->Prop:=fun f G=>∃x ps,Cal P w K mg base k x ps (spD ⟨K,w⟩ G false)/\mg x=some (.ref f)
theorem dR{X:Cx}{k:Nat}(hr:Room k X.A):jO X (fun f sp=>∃G,jP X.prog X.w X.K X.mg X.base k f G/\sp=spD ⟨X.K,X.w⟩ G false):=by
 rintro f sp ⟨G,⟨x,ps,C,hm⟩,rfl⟩
 obtain⟨f',fd,F,b,kp,m⟩:=C.ex
 rw[m]at hm
 cases hm
 exact⟨k,fd,ps,F,hr,kp,b⟩
def b8(tm:List (Str×Mir))(f:DX)(τ:DS):Option (PyData×DS):=(f τ).bind fun p=>match p.1 with
 |.str k=>some (.bool (GP tm k).isSome,p.2)
 |_=>none
theorem ir{T:Addr->Mir->Prop}{fa:Bool}{a:Addr}{tb:List (Str×Addr)}{tm:List (Str×Mir)}{t:TE}{f:DX}(hT:TMs T tb tm)(h:E K t fa f):E K (tOp (eQ a tb false) t (tC (.ref a))) false (b8 tm f):=by
 refine⟨fun τ d τ' e=>?_,?_⟩
 ·unfold b8 at e
  obtain⟨⟨x,τ1⟩,e1,e⟩:=oB e
  dsimp only at e
  split at e
  ·cases e;exact h.like _ _ _ e1
  ·cases e
 intro S M τ σ H Q d τ' r e q
 unfold b8 at e
 obtain⟨⟨x,τ1⟩,e1,e⟩:=oB e
 dsimp only at e
 split at e
 ·rename_i k
  cases e
  refine h.weak.run S M τ σ H _ _ _ r e1 fun v H1 r1 c1 i1=>?_
  cases (show v = .str k from i1)
  refine⟨rfl,k,rfl,q _ H1 r1 c1 ?_⟩
  show V.bl _=V.bl _
  rw[Bool.false_bne,hT.some]
 ·cases e
def SR(tm:List (Str×Mir))(f:DX)(a:DA)(τ:DS):Option (PyData×DS):=(f τ).bind fun p=>match p.1 with
 |.str k=>(GP tm k).bind fun G=>AU G a p.2
 |_=>none
theorem dZ{T:Addr->Mir->Prop}{fa:Bool}{ad:Addr}{tb:List (Str×Addr)}{tm:List (Str×Mir)}{t:TE}{f:DX}{ta:TA}{a:DA}(hT:TMs T tb tm)(h:E K t fa f)(ha:A K ta a) :
  E K (aN (fun f sp=>∃G,T f G/\sp=spD K G false) (tOp (rKf ad tb) (tC (.ref ad)) t) ta) false (SR tm f a):=by
 refine⟨fun τ d τ' e=>?_,?_⟩
 ·unfold SR at e
  obtain⟨⟨x,τ1⟩,e1,e⟩:=oB e
  dsimp only at e
  split at e
  ·obtain⟨G,e2,e⟩:=oB e
   exact(h.like _ _ _ e1).trans ((Aa (fr:=false) (G:=G) (X:=E0) ha).like _ _ _ e)
  ·cases e
 intro S M τ σ H Q d τ' r e q
 unfold SR at e
 obtain⟨⟨x,τ1⟩,e1,e⟩:=oB e
 dsimp only at e
 split at e
 ·rename_i k
  obtain⟨G,e2,e⟩:=oB e
  obtain⟨fn,hg,hT'⟩:=hT.get e2
  refine h.weak.run S M τ σ H _ _ _ r e1 fun v H1 r1 c1 i1=>?_
  cases (show v = .str k from i1)
  refine⟨rfl,k,fn,rfl,hg,fn,spD K G false,rfl,⟨G,hT',rfl⟩,?_⟩
  exact(Aa (fr:=false) (G:=G) (X:=E0) ha).run S M τ1 σ H1 Q d τ' r1 e fun v H' r' c' res=>q v H' r' (c1.trans c') (res.back r1 c1)
 ·cases e
end DL
end
section
namespace DL
open PySem L2
variable {K:KW} {np:Nat}
end DL
end
section
namespace DL
open PySem L2
variable {K:KW} {np:Nat}
end DL
end
section
namespace DL
open PySem L2
variable {K:KW} {np:Nat}
def gtP:List Nat->PyData->Option PyData
 |[],d=>some d
 |k::π,.list ds=>(ds[k]?).bind (gtP π)
 |k::π,.tuple ds=>(ds[k]?).bind (gtP π)
 |_::_,_=>none
def stP(x:PyData):List Nat->PyData->PyData
 |[],_=>x
 |k::π,.list ds=>.list (ds.set k (stP x π (ds.getD k .none)))
 |k::π,.tuple ds=>.tuple (ds.set k (stP x π (ds.getD k .none)))
 |_::_,d=>d
def jL(K:KW)(S:Addr->Prop)(H:Hp)(F:List Addr)(d:PyData)(v:V)(π:List Nat)(d':PyData)(u:V):Prop:=∃Fy,Dp K S H d' u Fy/\(∀a∈Fy,a∈F)/\Fy.Nodup/\((π=[]->u=v/\d'=d)/\(π≠[]->∀ds,d = .list ds->∀a,v = .ref a->a∉Fy)) /\
 ∀(H':Hp) (x:PyData) (Fx:List Addr),TSm (hid S H) (hid S H')->(∀a∈F,a∉Fy->H' a=H a)->Dp K S H' x u Fx->(∀a∈Fx,a∈Fy)->Fx.Nodup->∃F3,(∀a∈F3,a∈F)/\F3.Nodup/\Dp K S H' (stP x π d) v F3
abbrev DP:=PyData->DS->Option (List Nat×PyData×DS)
structure PT(K:KW)(r:Nat)(t:TE)(g:DP):Prop where
 like:∀d τ π d' τ',g d τ=some (π,d',τ')->Like τ τ'
 gp:∀d τ π d' τ',g d τ=some (π,d',τ')->∀π0 dr,gtP π0 dr=some d->gtP (π0++π) dr=some d'
 run:∀(S M:Addr->Prop) τ σ H (Q:VK) dr v F π0 d0 u0 π d' τ',R K (fun b=>S b/\b∉F) (fun b=>M b/\b∉F) τ σ H->σ[r]?=some (some u0)->(∀a∈F,∃vs,H a=some (.lst vs))->(∀a,M a->S a)->gtP π0 dr=some d0->jL K S H F dr v π0 d0 u0->g d0 τ=some (π,d',τ') ->
  (∀u H',R K (fun b=>S b/\b∉F) (fun b=>M b/\b∉F) τ' σ H'->Chg (fun b=>M b/\b∉F) H H'->jL K S H' F dr v (π0++π) d' u->Q u H')->t σ H Q
end DL
end
section
namespace DL
open PySem L2
variable {K:KW} {np:Nat}
end DL
end
section
namespace L2
open PySem DL
end L2
namespace DL
open PySem L2
variable {K:KW}
end DL
end
section
namespace Duh
open PySem
section
variable {K:Type} [DecidableEq K]
end
section
variable {prog:Program} {w:World} {K:Type} [DecidableEq K] {knd:HeapKind prog w K} {A:Around} {E:Value->Shared->Prop} {s:Shared}
end
end Duh
end
section
namespace DL
open PySem L2 PyProof.Rows
variable {K:KW}
instance (l:List Int):Decidable l.Nodup:=inferInstance
end DL
end
section
namespace DL
open PySem L2
variable {K:KW} {np:Nat}
end DL
end
section
namespace DL
open PySem L2
variable {K:KW} {np:Nat}
theorem fO{S:Addr->Prop}{τ:DS}{σ:St}{H:Hp}(hl:σ.length=τ.length)(hd:∀(i:Nat) (l:L),τ[i]?=some (some l)->∃x v,l = .d x/\σ[i]?=some (some v)/\Is K (hid S H) x v)(hs:∀a,S a->∃o,H a=some o):R K S (fun _=>False) τ σ H:=by
 have own:∀(i:Nat) (o:Ow),τ[i]?≠some (some o.L):=fun i o e=>by
  obtain⟨x,v,z,_⟩:=hd i _ e
  exact Ow.not_d z
 refine⟨hl,fun i z e=>?_,fun i o e=>absurd e (own i o),fun i z e=>?_,fun i j o p a e=>absurd e (own i o),fun _ h=>h.elim,hs,GR.nil fun i z e=>?_⟩
 ·obtain⟨x,v,y,h1,h2⟩:=hd i _ e
  cases y;exact⟨v,h1,h2⟩
 ·obtain⟨x,v,y,_⟩:=hd i _ e
  cases y
 ·obtain⟨x,v,y,_⟩:=hd i _ e
  cases y
end DL
end
section
namespace L2
open PySem PySem.Spec PyProof.Rows
def CRg(lo hi st:Int):Prop:=-1000000<=lo/\lo<=1000000/\-1000000<=hi/\hi<=1000000/\0<st/\st<=1000000
end L2
namespace DL
open PySem L2 PyProof.Rows
variable {K:KW}
instance {i j k:Int}:Decidable (CRg i j k):=by unfold CRg;infer_instance
def Wf:PyData->PyData->Option PyData
 |.str i,.str j=>some (.bool (!(!(Builtin.Str.occurrences j i 0 j.length 1).isEmpty)))
 |_,_=>none
theorem gC:OR K false (fun x y H Q=>∃i j,x = .str i/\y = .str j/\Q (.bl (!(!(Builtin.Str.occurrences j i 0 j.length 1).isEmpty))) H) Wf:=by
 intro S H x y dx dy d Q _ ix iy e q
 unfold Wf at e
 split at e
 ·rename_i i j
  cases e
  exact⟨i,j,ix,iy,q _ H (fun _ _ e=>e) rfl⟩
 ·cases e
end DL
end
section
namespace DL
open PySem L2 PyProof.Rows
abbrev TP:=L2.St->Hp->(List (Str×V)->Hp->Prop)->Prop
def gn:List (Str×V)->List (Value×Value)->Prop
 |[],[]=>True
 |t::ts,p::ps=>RelV (.str t.1) p.1/\RelV t.2 p.2/\gn ts ps
 |_,_=>False
def PD(X:Cx)(ks:List (Option Expr))(vs:List Expr)(pos:Pos)(t:TP):Prop:=∀(pins:List (Addr×Obj)) (s:Shared) (σ:L2.St) (H:Hp) (Q:List (Str×V)->Hp->Prop),Inv X pins σ H s->t σ H Q ->
 wpAny (model X.prog X.w) X.A (evalPairs (pairTrees ks vs X.env pos)) (fun ps s1=>∃(ts:List (Str×V)) (H1:Hp),Inv X pins σ H1 s1/\gn ts ps/\Q ts H1) X.xe s
def eG:TP:=fun _ H Q=>Q [] H
def aF(k:Str)(te:TE)(tp:TP):TP:=fun σ H Q=>te σ H fun x H1=>tp σ H1 fun ts H2=>Q ((k,x)::ts) H2
theorem XH{X:Cx}{pos:Pos}:PD X [] [] pos eG:=fun pins s σ H Q I h=>pairTrees_nil_walk ⟨[],H,I,True.intro,h⟩
theorem Ip{X:Cx}{kx v:Expr}{ks:List (Option Expr)}{vs:List Expr}{pos:Pos}{k:Str}{te:TE}{tp:TP}(hk:PE X kx (tC (.str k)))(hv:PE X v te)(hr:PD X ks vs pos tp):PD X (some kx::ks) (v::vs) pos (aF k te tp):=by
 intro pins s σ H Q I h
 refine pairTrees_cons_walk ?_
 refine thn (hk pins s σ H (fun x H1=>x = .str k/\H1=H) I ⟨rfl,rfl⟩) fun kv s1 ⟨x,H1,I1,rx,q1⟩=>?_
 obtain⟨rfl,rfl⟩:=q1
 refine thn (hv pins s1 σ _ _ I1 h) fun vv s2 ⟨y,H2,I2,ry,q2⟩=>?_
 exact thn (hr pins s2 σ H2 _ I2 q2) fun ps s3 ⟨ts,H3,I3,pr,q3⟩=>⟨(k,y)::ts,H3,I3,⟨rx,ry,pr⟩,q3⟩
def YH(tp:TP):TE:=fun σ H Q=>∀d,H d=none->tp σ (upd H d (.dK (txK []))) fun ts H2=>H2 d=some (.dK (txK []))/\ts.length<=15/\(ts.map (·.1)).Nodup/\Q (.ref d) (upd H2 d (.dK (txK ts)))
theorem jC{P:Program}{w:World}:∀{ts:List (Str×V)} {ps:List (Value×Value)},gn ts ps->∃kvs:List (Key×Value),Carries (LB P w) ps kvs/\KV (txK ts) kvs/\kvs.map (·.1)=ts.map fun t=>Sum.inr t.1
 |[],[],_=>⟨[],True.intro,.nil,rfl⟩
 |[],_::_,h=>h.elim
 |_::_,[],h=>h.elim
 |t::ts,p::ps,⟨h1,h2,h3⟩=>by
  obtain⟨kvs,c,kv,e⟩:=jC h3
  exact⟨(Sum.inr t.1,p.2)::kvs,⟨OQ h1,rfl,c⟩,.cons ⟨rfl,h2⟩ kv,by rw[List.map_cons,e];rfl⟩
theorem Rb:∀{kvs acc:List (Key×Value)},(kvs.map (·.1)).Nodup->(∀k∈kvs.map (·.1),k∉acc.map (·.1))->merged acc kvs=acc++kvs
 |[],acc,_,_=>by unfold merged;simp
 |kv::kvs,acc,nd,h=>by
  obtain⟨n1,n2⟩:=List.nodup_cons.mp (show(kv.1::kvs.map (·.1)).Nodup from nd)
  have hst:stored acc kv.1 kv.2=acc++[kv]:=by
   unfold stored
   have hn:(acc.any fun x=>decide (x.1=kv.1))=false:=by
    rw[List.any_eq_false]
    intro x hx z
    exact h kv.1 (List.mem_cons_self ..) (List.mem_map.mpr ⟨x,hx,of_decide_eq_true z⟩)
   rw[hn];rfl
  have:=Rb (kvs:=kvs) (acc:=acc++[kv]) n2 fun k hk z=>by
   rw[List.map_append]at z
   rcases List.mem_append.mp z with z|z
   ·exact h k (List.mem_cons_of_mem _ hk) z
   ·rw[List.mem_singleton.mp z]at hk
    exact n1 hk
  unfold merged at this ⊢
  rw[List.foldl_cons,hst,this]
  simp
theorem T2:∀{l:List Str},l.Nodup->(l.map fun k=>(Sum.inr k:Key)).Nodup
 |[],_=>List.nodup_nil
 |x::l,h=>by
  obtain⟨a,b⟩:=List.nodup_cons.mp h
  refine List.nodup_cons.mpr ⟨fun z=>?_,T2 b⟩
  obtain⟨y,hy,e⟩:=List.mem_map.mp z
  cases e
  exact a hy
theorem RK{X:Cx}{ks:List (Option Expr)}{vs:List Expr}{pos:Pos}{tp:TP}(hp:PD X ks vs pos tp)(hall:ks.all (·.isSome)=true:=by rfl)(hl:ks.length=vs.length:=by rfl)(h0:ks≠[]:=by simp)(hlen:ks.length<=15:=by decide):PE X (.Dict ks vs pos) (YH tp):=by
 intro pins s σ H Q I h
 have hb:sysModules<s.heap.objs.size:=Nat.lt_trans (by decide) (show mainGlobals<s.heap.objs.size from(I.mod.glob.keeps I.bk).lt)
 have hf:=I.hok.fresh (Nat.le_refl s.heap.objs.size)
 have I1:Inv X pins σ (upd H s.heap.objs.size (.dK (txK []))) { s with heap:=s.heap.push { cls:=.type "dict",data:=.dict #[] } } :=
  I.laid (a:=s.heap.objs.size) (o:=.dK (txK [])) (t':=s.toks) (fun _ _ q=>Heap.get?_push_of_some _ q) (Nat.le_refl _) ⟨Nat.zero_le _,beq_eq_false_iff_ne.mpr (Ne.symm (Nat.ne_of_lt hb)),[],.nil,Heap.DictOf.new s.heap⟩
 refine wpAny_Dict_walk (knd:=LB X.prog X.w) hall hl h0 hlen (thn (hp pins _ σ _ _ I1 (h _ hf)) fun ps s1 ⟨ts,H1,I2,pr,hd,hz,nd,q⟩=>?_)
 obtain⟨h1,h2,vs0,pr0,dd⟩:=Wj I2 hd
 have e0:vs0=[]:=by cases (show Paired _ [] vs0 from pr0);rfl
 subst e0
 obtain⟨kvs,hc,hkv,hkeys⟩:=jC (P:=X.prog) (w:=X.w) pr
 refine⟨kvs,hc,dd,fun h' dd' sb=>⟨.ref s.heap.objs.size,_,?_,rfl,q⟩⟩
 have em:merged [] kvs=kvs:=by
  rw[Rb (kvs:=kvs) (acc:=[]) ?_ (fun k _ z=>by cases z),List.nil_append]
  rw[hkeys,show(ts.map fun t=>(Sum.inr t.1:Key))=(ts.map (·.1)).map fun k=>(Sum.inr k:Key) by rw[List.map_map];rfl]
  exact T2 nd
 rw[em]at dd'
 have he:∃q,h'.get? s.heap.objs.size=some q:=let ⟨q,_,_,hq,_⟩:=dd';⟨q,hq⟩
 refine I2.write (x:=s.heap.objs.size) (e:=s.heap.objs.size) (by rw[hd];exact True.intro) (.inl rfl) (fun c z hc e=>(sb.2 c hc).trans e) he ?_
 exact⟨by unfold txK;rw[List.length_map];exact Nat.le_trans hz (by decide),h2,kvs,hkv,dd'⟩
variable {K:KW}
theorem R0{P:Addr->Prop}{σ:L2.St}{H:Hp}(h:∀a,P a->∃o,H a=some o):R K P (fun _=>False) (σ.map fun _=>none) σ H:=by
 have nn:∀(i:Nat) (l:L),(σ.map fun _=>(none:Option L))[i]?≠some (some l):=fun i l e=>by
  rw[List.getElem?_map]at e
  obtain⟨_,_,z⟩:=oM e
  cases z
 exact⟨by rw[List.length_map],fun i x e=>absurd e (nn i _),fun i o e=>absurd e (nn i _),fun i x e=>absurd e (nn i _),fun i j o p a e=>absurd e (nn i _),fun _ z=>z.elim,h,GR.nil fun i d e=>nn i _ e⟩
structure PC(K:KW)(tp:TP)(kds:List (PyData×PyData)):Prop where
 run:∀(P:Addr->Prop) (σ:L2.St) (H:Hp) (Q:List (Str×V)->Hp->Prop),(∀a,P a->∃o,H a=some o)->(∀ts H',Same H H'->IsX K (hid P H') kds ts->ts.length=kds.length->(ts.map fun t=>PyData.str t.1)=kds.map (·.1)->Q ts H')->tp σ H Q
theorem XI:PC K eG []:=⟨fun P σ H Q _ q=>q [] H (fun _ _ e=>e) rfl rfl rfl⟩
theorem Iq{fa:Bool}{k:Str}{te:TE}{tp:TP}{f:DX}{d:PyData}{r:List (PyData×PyData)}(he:E K te fa f)(hf:∀τ,f τ=some (d,τ))(hd:GN d=true)(hr:PC K tp r):PC K (aF k te tp) ((.str k,d)::r):=by
 refine⟨fun P σ H Q hP q=>?_⟩
 refine he.weak.run P (fun _=>False) (σ.map fun _=>none) σ H _ d _ (R0 hP) (hf _) fun v H1 r1 c1 i1=>?_
 have s1:Same H H1:=fun b o e=>c1 b o (fun z=>z) e
 refine hr.run P σ H1 _ (fun a ha=>let ⟨o,e⟩:=hP a ha;⟨o,s1 _ _ e⟩) fun ts H2 s2 ix hl hk=>?_
 exact q _ H2 (fun b o e=>s2 b o (s1 b o e)) ⟨(k,v),ts,rfl,rfl,hd,Is.mono (Same.keep s2).same (show Is K (hid P H1) d v from i1),ix⟩ (by rw[List.length_cons,List.length_cons,hl]) (by rw[List.map_cons,List.map_cons,hk])
theorem Tv{tp:TP}{kds:List (PyData×PyData)}(h:PC K tp kds)(hz:kds.length<=15)(nd:(kds.map (·.1)).Nodup){S:Addr->Prop}{σ:L2.St}{H:Hp}{Q:VK}(hS:∀a,S a->∃o,H a=some o)
  (q:∀d H3 ts,H d=none->Same H H3->H3 d=some (.dK (txK ts))->IsX K (hid (fun b=>S b\/b=d) H3) kds ts->Q (.ref d) H3):YH tp σ H Q:=by
 intro d hd
 have s1:=CA hd (HO.dK (txK []))
 refine h.run (fun b=>S b\/b=d) σ _ _ (fun a ha=>?_) fun ts H2 s2 ix hl hk=>?_
 ·rcases ha with ha|rfl
  ·obtain⟨o,e⟩:=hS a ha;exact⟨o,s1 _ _ e⟩
  ·exact⟨_,Bk⟩
 have ndt:(ts.map (·.1)).Nodup:=by
  rw[<- hk]at nd
  have:∀{l:List (Str×V)},(l.map fun t=>PyData.str t.1).Nodup->(l.map (·.1)).Nodup:=by
   intro l
   induction l with
   |nil=>intro _;exact List.nodup_nil
   |cons t l ih =>
    intro z
    obtain⟨a,b⟩:=List.nodup_cons.mp z
    refine List.nodup_cons.mpr ⟨fun y=>a ?_,ih b⟩
    obtain⟨u,hu,e⟩:=List.mem_map.mp y
    exact List.mem_map.mpr ⟨u,hu,by rw[e]⟩
  exact this nd
 refine⟨s2 _ _ Bk,by omega,ndt,q d _ ts hd (fun b o e=>?_) Bk ?_⟩
 ·have hb:b≠d:=fun z=>by rw[z,hd]at e;cases e
  rw[CI hb]
  exact s2 _ _ (s1 _ _ e)
 ·rw[Q5 (.inr rfl)];exact ix
def Yu(np i:Nat)(kds:List (PyData×PyData))(τ:DS):Option Out:=if np<=i/\i<τ.length then some (.nx (τ.set i (some (.g (.dict kds))))) else none
theorem gh{np:Nat}{fr:Bool}{i:Nat}{tp:TP}{kds:List (PyData×PyData)}(h:PC K tp kds)(hz:kds.length<=15)(nd:(kds.map (·.1)).Nodup):B K np (Ua (YH tp) (NT i)) fr (Yu np i kds):=by
 intro F S M τ σ H D out hnp f ee q
 unfold Yu at ee
 split at ee
 ·rename_i hi
  cases ee
  refine Tv h hz nd f.r.ex fun a H3 ts ha s h3 ix=>?_
  have f1:=f.hide s ha ⟨_,h3⟩
  have hM:¬M a:=fun z=>f.r.fresh ha (f.r.sub a z)
  refine q _ _ _ _ (f1.newG (X:=[a]) hi.2 (Nat.le_trans hnp hi.1) (fun b hb=>.inr (List.mem_singleton.mp hb)) (fun b hb=>by rw[List.mem_singleton.mp hb];exact hM) (fun b hb=>by rw[List.mem_singleton.mp hb];exact f.hnone ha) (by simp) ⟨a,ts,rfl,rfl,h3,ix⟩) fun b o hn e=>⟨fun z=>z.elim hn (B6 e ha),s b o e⟩
 ·cases ee
def Ot(kds:List (PyData×PyData))(f:DX)(τ:DS):Option (PyData×DS):=(f τ).bind fun p=>match p.1 with
 |.str k=>(Mw kds k).map fun d=>(d,p.2)
 |_=>none
theorem ba{fa:Bool}{tp:TP}{kds:List (PyData×PyData)}{tb:TE}{f:DX}(h:PC K tp kds)(hz:kds.length<=15)(nd:(kds.map (·.1)).Nodup)(hf:E K tb fa f):E K (tOp fk (YH tp) tb) false (Ot kds f):=by
 refine⟨fun τ d τ' e=>?_,?_⟩
 ·unfold Ot at e
  obtain⟨⟨x,τ1⟩,e1,e⟩:=oB e
  dsimp only at e
  split at e
  ·obtain⟨z,e3,e⟩:=oM e
   cases e;exact hf.like _ _ _ e1
  ·cases e
 intro S M τ σ H Q d τ' r e q
 unfold Ot at e
 obtain⟨⟨x,τ1⟩,e1,e⟩:=oB e
 dsimp only at e
 split at e
 ·rename_i k
  obtain⟨z,e3,e⟩:=oM e
  cases e
  refine Tv h hz nd r.ex fun a H3 ts ha s h3 ix=>?_
  have hM:¬M a:=fun z=>r.fresh ha (r.sub a z)
  refine hf.weak.run S M τ σ H3 _ _ _ (r.same s) e1 fun v H4 r4 c4 i4=>?_
  cases (show v = .str k from i4)
  have g:=Q6 (k:=k) ix
  rw[e3]at g
  obtain⟨u,gv,iv,fx⟩:=g
  refine⟨a,ts,k,u,rfl,rfl,c4 a _ hM h3,gv,q u H4 r4 (fun b o hn e=>c4 b o hn (s b o e)) ?_⟩
  have iv3:Is K (hid S H3) d u:=iv.mono (Jf fun b z=>.inl z)
  exact iv3.mono (c4.keep r.sub).same
 ·cases e
end DL
end
section
namespace L2
open PySem PySem.Spec PyProof.Rows
end L2
namespace DL
open PySem L2 PyProof.Rows
variable {K:KW}
end DL
namespace DL
open PySem L2 PyProof.Rows
theorem XZ{l:List Str}(h:l.Nodup):(l.map PyData.str).Nodup:=by
 induction l with
 |nil=>exact List.nodup_nil
 |cons x l ih =>
  obtain⟨a,b⟩:=List.nodup_cons.mp h
  refine List.nodup_cons.mpr ⟨fun z=>?_,ih b⟩
  obtain⟨y,hy,e⟩:=List.mem_map.mp z
  cases e
  exact a hy
end DL
end
section
namespace L2
open PySem PySem.Spec PyProof.Rows
theorem Tb:entryFor table "proto.unchain"=some Builtin.«proto.unchain»:=entryFor_of_fast (by kernel_rfl)
section
variable {prog:Program} {w:World} {A:Around} {E:Value->Shared->Prop} {s:Shared}
theorem RQ{it l ea:Addr}{oe:Obj}{i:Nat}{items}{Q:Option Value->Shared->Prop}(hh:A.handled=some (.ref ea))(hea:s.heap.get? ea=some oe)(hnc:NoCtx oe)(hne:ea≠it)
  (hit:s.heap.IsListIter it l i) (hl:s.heap.IsList l items) (hx:items[i]?=none)
  (hQ:∀h',Heap.ExtBut it s.heap h'->Q none { s with heap:=h' }):wpAny (model prog w) A (pyNext (.ref it)) Q E s:=by
 obtain⟨o,ho,hc,hd⟩:=id hit
 obtain⟨ol,hol,_,nl,hdl⟩:=hl
 unfold pyNext
 refine wpAny_bind (wpAny_attempt (wpAny_callSpecial?_slot (name := Str.ofString "__next__") hit.typeIs slot_listiter_next
  (wpAny_call_entry slot_listiter_next hit.typeIs entry_listiter_next ?_ (args_listiter_next _))))
 show wpAny _ _ (field (.ref it) 0 >>= _) _ _ s
 refine wpAny_bind (wpAny_field ho hd (x:=.ref l) rfl ?_)
 show wpAny _ _ (if (Value.ref l==Value.none)=true then _ else _) _ _ s
 rw[if_neg (show ¬((Value.ref l==Value.none)=true) from Bool.false_ne_true)]
 show wpAny _ _ (field (.ref it) 1 >>= _) _ _ s
 refine wpAny_bind (wpAny_field ho hd (x:=.int i 0) rfl ?_)
 show wpAny _ _ (seqItems? (.ref l) >>= _) _ _ s
 refine wpAny_bind (wpAny_seqItems hol hdl ?_)
 simp only[Int.toNat_natCast,hx]
 refine wpAny_bind (wpAny_rule (wpAny_bind (wpAny_setField ho hd (by simp) ?_)))
 show wpAny _ _ (newExc (.type "StopIteration") [] >>= _) _ _ _
 refine wpAny_bind ?_
 simp only[newExc,newTuple]
 refine wpAny_bind (wpAny_newObj_type ?_ (by size_fits))
 refine wpAny_bind (m:=firstArgMember _ _) (wpAny_of_eq (a:=Value.none) (by first|rfl|(simp only[firstArgMember];rfl)) ?_)
 refine wpAny_newObj_type ?_ (by size_fits)
 have e1:=(Heap.SameBut.update s.heap it (Obj.mapFields (·.setIfInBounds 0 Value.none))).extBut.push { cls:=.type "tuple",data:=.seq ([]:List Value).toArray }
 generalize (s.heap.update it (Obj.mapFields (·.setIfInBounds 0 Value.none))).push { cls:=.type "tuple",data:=.seq ([]:List Value).toArray }=g1 at e1 ⊢
 dsimp only
 have hlt:ea≠g1.objs.size:=Nat.ne_of_lt (Heap.lt_size (e1 ea oe hne hea))
 simp only[raiseNew]
 refine wpAny_bind (wpAny_handled ?_)
 rw[show A.in1.handled=some (.ref ea) from hh]
 dsimp only
 rw[if_pos (show(Value.ref ea != Value.ref g1.objs.size)=true from by simp[bne,hlt])]
 obtain⟨vs,d1,d2⟩:=hnc
 refine wpAny_bind (wpAny_holding (wpAny_runValue (codeAny_builtin Tb ?_)))
 unfold Builtin.«proto.unchain»
 dsimp only
 refine wpAny_bind (wpAny_field (Heap.get?_push_of_some _ (e1 ea oe hne hea)) d1 d2 ?_)
 rw[if_pos (show(Value.none==Value.none)=true from rfl)]
 refine wpAny_bind (wpAny_pure (wpAny_pure ?_))
 dsimp only
 refine wpAny_bind ?_
 unfold updateField
 refine wpAny_bind (wpAny_load (Heap.get?_push_size _ rfl) ?_)
 dsimp only
 rw[if_pos (by first|(simp;done)|(rw[Array.size_append];exact Nat.lt_of_lt_of_le (by decide:2<6) (Nat.le_add_right _ _)))]
 refine wpAny_update (Heap.get?_push_size _ rfl) (wpAny_throw ?_)
 refine wpAny_bind (wpAny_isInstance (T:="StopIteration") (b:=true) ⟨_,Heap.get?_update_self _ (Heap.get?_push_size _ rfl) rfl,rfl⟩ isSubtype_stop ?_)
 refine wpAny_pure (hQ _ fun b o hb e=>?_)
 have e2:=e1 b o hb e
 rw[Heap.get?_update_other _ _ (Nat.ne_of_gt (Heap.lt_size e2))]
 exact Heap.get?_push_of_some _ e2
end
theorem XJ{P:Program}{w:World}{K:PySem.W.Frag}{mg:Str->Option Value}{base:Heap}{N:List Str}{qual:Str}{scope:Scope}{f:Addr}{cd:Value}{A:Around}{outer:List Env}{s:Shared}{H:Hp}{E:XK} :
  Se (CXr P w) (Py (CXr P w) P w K mg base N qual scope f cd A outer s H E) E:=by
 intro pins σ H1 s1 e s2 I hx
 obtain⟨ea,C,H2,rfl,h1,h2,h3,h4,h5,h6,h7⟩:=hx
 have g:Got1 (Py (CXr P w) P w K mg base N qual scope f cd A outer s H E) pins σ H1 H2 s1 ea C .none s2:=⟨h1,h2,h3,h4,h5,h6⟩
 have hm:∀b,Nw s1.heap H2 b->Nw s.heap H2 b:=fun b z=>by
  refine⟨?_,z.2⟩
  cases q:s.heap.get? b with
  |none=>rfl
  |some o =>
   obtain⟨o',r⟩:=I.base.there b o q (by intro y;cases y)
   rw[z.1]at r
   cases r
 show wpAny (model P w) (A.deeper (envOfC qual scope s.heap.objs.size f cd)) (leaving (envOfC qual scope s.heap.objs.size f cd) (.ref ea)) (fun _ s''=>CXr P w outer H s E (.ref ea) s'') (fun e' s''=>CXr P w outer H s E e' s'') s2
 unfold leaving
 refine wpAny_bind (g.lands I ⟨rfl,rfl⟩ I.ok.frames fun s4 g4=>?_)
 have J:=g4.inv I
 exact⟨ea,C,H2,rfl,J.os,J.bare,J.base,J.hok,hm ea g4.new,g4.xat.mono hm,h7⟩
def HQ(ea:Addr)(oe:Obj)(X:Cx):Prop:=X.A.handled=some (.ref ea)/\X.H₀ ea=some (.frz oe (.own ea))/\NoCtx oe
theorem W7{ea:Addr}{oe:Obj}{P:Program}{w:World}{K:PySem.W.Frag}{tg:Expr}(a it:Addr):cP (HQ ea oe) P w K tg (Itl K a) [it] it (fun i h=>h.IsListIter it a i) where
 obj:=(Oy (P:=P) (w:=w) (K:=K) (tg:=tg) a it).obj
 keep:=(Oy (P:=P) (w:=w) (K:=K) (tg:=tg) a it).keep
 item:=by
  intro X hP hw hK hc i pins s σ H E I hf st hg
  subst hP hw hK
  obtain⟨xs,x,hq,hx⟩:=hg
  obtain⟨its,rv,p,hz⟩:=I.list hq
  obtain⟨u,hu,ru⟩:=rv.get hx
  obtain⟨f0,f1,f2,f3,f4,f5⟩:=hf it (by simp)
  refine wpAny_pyNext_list_item st p.isList (x:=u) (by simpa using hu) fun h' st' sb=>?_
  have I1:Inv X pins σ H { s with heap:=h' }:=I.turned (t':=s.toks) (fun b o hb e=>(sb.2 b hb).trans e) f0 f1 f3 f4 f5
  obtain⟨o,e,c,d⟩:=id st'
  exact⟨u,rfl,Wb (s:={ s with heap:=h' }) e c d (by decide) ⟨x,H,I1,ru,⟨rfl,fun ys hy=>by rw[I.list_inj hy hq];exact hx⟩,st',fun b hb=>(hf b hb).1⟩⟩
 done:=by
  intro X hP hw hK hc i pins s σ H E I hf st hg
  subst hP hw hK
  obtain⟨xs,hq,hx⟩:=hg
  obtain⟨its,rv,p,hz⟩:=I.list hq
  obtain⟨f0,f1,f2,f3,f4,f5⟩:=hf it (by simp)
  have hl:=rv.length
  have hea:=I.base.frzs _ _ _ hc.2.1
  exact RQ hc.1 (I.hok _ _ hea).1 hc.2.2 (B6 hea f0) st p.isList (by simp;omega) fun h' eb=>⟨rfl,I.turned (t':=s.toks) (fun b o hb e=>eb b o hb e) f0 f1 f3 f4 f5⟩
 self:=fun _ _ _ _ _ st h=>wpAny_pyIter_listiter st h
section
variable {X:Cx} {N':List Str} {own:Nat} {fr:List Nat} {scope:Scope} {elt tg iter:Expr} {ifs:List Expr} {pos:Pos}
theorem ZJ{ea:Addr}{oe:Obj}{tl:TE}{g:TG}{tc:TT}{te:TE}{i:Nat}{y:Str}{py spos:Pos}(hq:HQ ea oe X)(hN:X.N.Nodup)(hiN:X.N[i]?=some y)(hy:X.env.scope.names.lookup y=some .local)(ok:Z2 X N' own fr scope)(hl:PE X iter tl)
  (hg:∀cl fp s3 H3,PG (cxC X N' scope cl fp s3 H3) tg g) (ht:∀cl fp s3 H3,PTs (cxC X N' scope cl fp s3 H3) ifs tc) (he:∀cl fp s3 H3,PE (cxC X N' scope cl fp s3 H3) elt te)
  (hsw:swapsWith (.ListComp elt [⟨tg,iter,ifs,0⟩] scope pos) (some (.Name y py)) spos.line X.env=pure true)
  (hs:∀x,foldedSetIterable iter X.env x=pure x:=by intro _;rfl):PS X (.Assign [.Name y py] (.ListComp elt [⟨tg,iter,ifs,0⟩] scope pos) spos) (fun D σ H=>tLC own fr (Ym X.K tl) g tc te σ H fun v H'=>D.nx (σ.set i (some v)) H'):=by
 intro pins s σ H D I h
 obtain⟨cl,ecl,cl1,cl2⟩:=Vg (env:=X.env) (scope:=scope) fun x hx=>I.ok.has x (ok.free x hx)
 rw[exec_Assign_Name_used _ _ _ _ hsw]
 refine wpAny_bind (wpAny_standAt (wpAny_bind ?_))
 show wpAny _ _ (do let _ <- comprehension (.ListComp elt [⟨tg,iter,ifs,0⟩] scope pos) scope X.env _ (newList []) false (eval iter X.env) (some (assign (.Name y py) X.env))) _ _ s
 refine wpAny_bind (wpAny_mono (wpAny_comprehension_free (use := some (assign (.Name y py) X.env)) (Q := fun _ s' => SP X pins D .next s') rfl hs ecl ok.kind ok.names
  (thn (hl pins s σ H _ I h) fun v s1 h1=>?_)) (fun _ s' hq=>wpAny_pure (wpAny_pure hq)) fun _ _ e=>e)
 obtain⟨x,H1,I1,r1,a,e,⟨xs,hq1⟩,h2⟩:=h1
 subst e
 cases r1
 obtain⟨its,rv,p,hz⟩:=I1.list hq1
 refine wpAny_pyIter_list p.isList ?_
 have I2:Inv X pins σ H1 { s1 with heap:=s1.heap.push { cls:=.type "list_iterator",data:=.fields #[.ref a,.int 0 0] } }:=I1.kept (t':=s1.toks) fun b o e=>Heap.get?_push_of_some _ e
 refine SV (G:=HQ ea oe) (fp:=[s1.heap.objs.size]) (RR:=fun acc C=>compPost (model X.prog X.w) X.A X.xe (some (assign (.Name y py) X.env)) (fun _ s'=>SP X pins D .next s') acc C) (fun s3 H3 I3=>⟨hq.1,I3.base.frzs _ _ _ hq.2.1,hq.2.2⟩) ok I2 (W7 a _) ⟨_,Heap.get?_push_size _ rfl,rfl,rfl⟩ (fun b hb=>?_) cl1 cl2 (hg cl) (ht cl) (he cl) h2 ?_
 ·have e:b=s1.heap.objs.size:=by simpa using hb
  subst e
  exact I1.fpOk (Nat.le_refl _) (I1.hok.fresh (Nat.le_refl _))
 intro D' C s' H' J1 O q
 show wpAny _ _ (assign (.Name y py) X.env (.ref D')) _ _ _
 refine wpAny_assign_Name (Oz J1 hN hiN (.inl hy) (v:=.ref D') rfl (fun s'' J2 sb=>?_) (.inr hy))
 obtain⟨m,hn⟩:=O.ns
 obtain⟨a,sb,ha⟩:=sb
 have nea:C≠a:=by
  rcases ha with ha|ha
  ·rw[ha];exact O.ne
  ·exact fun z=>O.nc y a ha z.symm
 refine⟨m,hn.sameBut sb nea,fun h'' sb'=>?_⟩
 have O2:Own X pins C H' s'':=⟨⟨m,hn.sameBut sb nea⟩,O.hn,O.ne,O.ab,O.nc,O.np⟩
 exact⟨_,H',O2.go J2 sb',q⟩
end
abbrev Around.calmed(A:Around):Around:={ A with handled:=none }
abbrev cxH(P:Program)(w:World)(K:PySem.W.Frag)(mg:Str->Option Value)(base:Heap)(N:List Str)(qual:Str)(scope:Scope)(f:Addr)(cd:Value)(A:Around)(outer:List Env)(s:Shared)(H:Hp)(E:XK):Cx:={ Py CX0 P w K mg base N qual scope f cd A outer s H E with calm:=false,xe:=fun _ _=>False }
structure Y3(P:Program)(w:World)(K:PySem.W.Frag)(mg:Str->Option Value)(base:Heap)(k:Nat)(f:Addr)(fd:FuncData)(ps:List Str)(sp:Addr->Obj->Sp):Prop where
 len:∀ea oe vs H Q E,sp ea oe vs H Q E->vs.length=ps.length
 run:∀(ea:Addr) (oe:Obj) (A:Around) (outer:List Env) (s:Shared) (H:Hp) (args:Args) (us:List Value) (vs:List V) (Q:VK) (E:XK),Room k (Around.calmed A)->A.handled=some (.ref ea)->H ea=some (.frz oe (.own ea))->NoCtx oe->cR P w K mg base A outer s H->BindsTo s fd args (ps.zip us)->Vals vs us->sp ea oe vs H Q E ->
  codeAny (model P w) A (.call (.ref f) args) (CR CX0 outer P w H s Q E) s
theorem Fun.okH{P:Program}{w:World}{K:PySem.W.Frag}{mg:Str->Option Value}{base:Heap}{x qual:Str}{st:Stmt}{f:Addr}{fd:FuncData}{N ps:List Str}{k:Nat}{sp:Addr->Obj->Sp}(F:Fun K x qual st f fd)(S:Ao N ps (AR st))(len:∀ea oe vs H Q E,sp ea oe vs H Q E->vs.length=ps.length)
  (hbody : ∀ (ea : Addr) (oe : Obj) (cdv : Value) (A : Around) (outer : List Env) (s : Shared) (H : Hp) (vs : List V) (Q : VK) (E : XK), Room k (Around.calmed (A.deeper (envOfC qual (AR st) s.heap.objs.size f cdv))) -> HQ ea oe (cxH P w K mg base N qual (AR st) f cdv A outer s H E) -> sp ea oe vs H Q E ->
   ∃t,PSs (cxH P w K mg base N qual (AR st) f cdv A outer s H E) (E2 st) t/\t { nx:=fun _ H'=>Q .non H',rt:=Q } (start N vs) H):Y3 P w K mg base (k+1) f fd ps sp:=by
 obtain⟨oc,od,kV,doc,pm,an,cdv,ct,osl,rfl,lk,hcd⟩:=F.ex
 refine⟨len,fun ea oe A outer s H args us vs Q E hr hh hH hnc e0 hb r hsp=>?_⟩
 have hl:=len _ _ _ _ _ _ hsp
 have KX:K.In s.heap:=e0.mod.kin.keeps fun b o e=>(e0.bs b o e).1
 have lim:s.heap.NoLimit:=e0.mod.nolimit.keeps fun b o e=>(e0.bs b o e).1
 have hkind:∀y∈ps.zip us,(AR st).names.lookup y.1=some .local\/((AR st).names.lookup y.1=some .cell/\((cellsFrom (s.heap.objs.size+1) (AR st).names []).lookup y.1).isSome=true):=fun⟨n,v⟩ hy=>by
  rcases S.par n (List.of_mem_zip hy).1 with q|q
  ·exact .inl q
  ·exact .inr ⟨q,PySem.W.cellsFrom_some _ _ _ (.inl q)⟩
 refine codeAny_call_function hr.depth (KX _ _ lk) rfl S.co S.gen rfl (PySem.W.codeRec_of KX hcd) (hb _ _ _ _ ?_)
 refine wpAny_newFunctionEnv_cells S.kind hkind fun env he s1 x=>?_
 subst he
 refine⟨lim.keeps x.toInCall.keep,codeAny_func ?_⟩
 obtain⟨t,ht,hq⟩:=hbody ea oe cdv A outer s H vs Q E (Room.deeper (A:=Around.calmed A) hr _) ⟨hh,hH,hnc⟩ hsp
 have I0:Inv (Py CX0 P w K mg base N qual (AR st) f cdv (Around.calmed A) outer s H E) [] (start N vs) H s1:=UH S rfl ⟨e0.frames,e0.mod,e0.bs,e0.bsz,e0.funs,e0.frf,e0.hok,e0.bare⟩ hl r x
 have ok:=I0.ok
 have I:Inv (cxH P w K mg base N qual (AR st) f cdv A outer s H E) [] (start N vs) H s1:=⟨⟨ok.mod,ok.kind,ok.glob,ok.blt,ok.above,ok.inj,ok.has,ok.cab,(fun z=>nomatch z),ok.frames,ok.stk,ok.exf,ok.bs,ok.bsz,ok.noex,ok.exfs,ok.funs,ok.frf⟩,I0.os,I0.bare,I0.base,I0.loc,I0.cell,I0.free,I0.freeC,I0.pin,I0.hok,I0.len⟩
 refine wpAny_mono (ht [] s1 (start N vs) H _ I hq) (fun fl s' hs=>?_) fun e s' hs=>False.elim hs
 have fin:∀{σ':St} {H':Hp} {v:V} {u:Value},Inv (cxH P w K mg base N qual (AR st) f cdv A outer s H E) [] σ' H' s'->RelV v u->Q v H'->CE outer P w H s Q u s' :=
  fun {σ' H' v u} J rv q=>⟨v,H',J.os,J.bare,J.base,J.hok,rv,q⟩
 cases fl with
 |ret u =>
  obtain⟨v,σ',H',J,rv,q⟩:=hs
  exact fin J rv q
 |next =>
  obtain⟨σ',H',J,q⟩:=hs
  exact fin (v:=V.non) (u:=Value.none) J rfl q
 |brk =>
  obtain⟨_,_,_,q⟩:=hs
  exact False.elim q
 |cont =>
  obtain⟨_,_,_,q⟩:=hs
  exact False.elim q
section
variable {X:Cx} {k i j:Nat} {f ea C D':Addr} {oe:Obj} {fd:FuncData} {ps:List Str} {x cn n y:Str} {p pos p1 np hp p2 py:Pos} {e:Expr} {es:List Expr} {t:TA} {b₀:Stmt} {suite:List Stmt}
theorem aj{sp:Addr->Obj->Sp}(F:Y3 X.prog X.w X.K X.mg X.base k f fd ps sp)(hr:Room k (Around.calmed X.A))(hh:X.A.handled=some (.ref ea))(hnc:NoCtx oe)(hg:Gl X x)(hm:X.mg x=some (.ref f))(hk:PySem.W.keepIn X.K (.ref f)=true)(hb:Binds X.K fd ps [])
  (ha:PA X (e::es) t) (hdb:(x==("__debug__":Str))=false:=by decide) (he:starEach (e::es) X.env=(false,eval e X.env)::starEach es X.env:=by rfl) (hpl:(backTo pos (starEach es X.env)).any (·.1)=false:=by rfl) :
  PE X (.Call (.Name x p) (e::es) [] pos) (fun σ H Q=>t σ H fun vs H1=>H1 ea=some (.frz oe (.own ea))/\sp ea oe vs H1 Q E0):=by
 intro pins s σ H Q I h
 refine wpAny_Call_Name_kw (LG I hg hm ?_ hdb)
 refine PySem.W.callWith_K (h₀:=X.base) I.ok.mod.kin hk (thn (ha pos pins s σ H _ I h) fun us s1 ⟨vs,H1,I1,r,hH,q⟩=>⟨I1.kIn,?_⟩) he hpl
 have hl:us.length=ps.length:=by rw[<- r.length];exact F.len _ _ _ _ _ _ q
 refine wpAny_call (codeAny_mono (F.run ea oe X.A X.stack s1 H1 ⟨us,[]⟩ us vs Q E0 hr hh hH hnc I1.env0 (by have:=hb s1 us I1.kIn (by simpa using hl);simpa using this) r q) fun r s' hq=>?_)
 cases r with
 |error e=>exact False.elim hq
 |ok fl =>
  cases fl with
  |ret u=>exact I1.after hq
  |next=>exact False.elim hq
  |brk=>exact False.elim hq
  |cont=>exact False.elim hq
abbrev Cx.withinH(X:Cx)(ea:Addr):Cx:={ X with A:=X.A.mark (some (.ref ea)),calm:=false,xe:=fun _ _=>False }
theorem Inv.frzE{pins:List (Addr×Obj)}{σ:St}{H:Hp}{s:Shared}(I:Inv X pins σ H s)(ho:s.heap.get? ea=some oe)(hn:H ea=none)(hl:ea≠X.env.locals)(hd:∀v,oe.data≠.cell v)(hp:∀p∈X.pn++pins,p.1≠ea)(h0:X.s₀.heap.get? ea=none) :
  Inv (X.withinH ea) pins σ (upd H ea (.frz oe (.own ea))) s:=by
 have ok:=I.ok
 have ne:∀{b o},H b=some o->upd H ea (.frz oe (.own ea)) b=some o:=fun q=>by rw[CI (B6 q hn)];exact q
 refine⟨⟨ok.mod,ok.kind,ok.glob,ok.blt,ok.above,ok.inj,ok.has,ok.cab,(fun z=>nomatch z),ok.frames,ok.stk,ok.exf,ok.bs,ok.bsz,ok.noex,ok.exfs,ok.funs,ok.frf⟩,I.os,I.bare,⟨I.base.keep,I.base.slot,fun b o e q hx=>?_,I.base.there,fun b xs q=>ne (I.base.tups b xs q),fun b o u q=>ne (I.base.frzs b o u q),fun b ps q=>?_⟩,I.loc,I.cell,?_,fun y c q=>?_,fun p hp'=>?_,fun b o q=>?_,I.len⟩
 ·rw[CI (fun z=>by rw[z,h0]at e;cases e)];exact I.base.free b o e q hx
 ·obtain⟨m,z⟩:=I.base.tbls b ps q
  exact⟨m,ne z⟩
 ·rw[CI (Ne.symm hl)];exact I.free
 ·rw[CI];exact I.freeC y c q
  intro z
  obtain⟨v,o,h1,h2⟩:=I.cell y c q
  rw[z,ho]at h1;cases h1
  exact hd _ h2
 ·obtain⟨z1,z2,z3⟩:=I.pin p hp'
  exact⟨z1,by rw[CI (hp p hp')];exact z2,z3⟩
 ·by_cases z:b=ea
  ·subst z
   rw[Bk]at q
   cases q
   exact⟨ho,_,ho⟩
  ·rw[CI z]at q
   exact(I.hok b o q).stay (fun _ _ _ r=>r) (fun _ r=>ne r) fun _ _ r=>ne r
theorem Inv.withoutH{pins:List (Addr×Obj)}{σ:St}{H:Hp}{s:Shared}(ok:X.Ok)(I:Inv (X.withinH ea) pins σ H s):Inv X pins σ H s:=⟨ok,I.os,I.bare,I.base,I.loc,I.cell,I.free,I.freeC,I.pin,I.hok,I.len⟩
def YF(sp:Sp)(ta:TA)(C:Addr)(j i:Nat)(ts:Addr->Obj->TS):TS:=fun D σ H=>ta σ H fun vs H1=>sp vs H1 (fun v H2=>D.nx (σ.set j (some v)) H2) (fun c _ H2=>c = .ref C/\∀ea oe,H2 ea=none->oe.cls = .ref C->oe.dict=none->PySem.W.notCls oe=true->NoCtx oe ->
 ts ea oe { nx:=fun _ _=>False,rt:=D.rt } (σ.set i (some (.ref ea))) (upd H2 ea (.frz oe (.own ea))))
theorem ZI{sp:Sp}{ts:Addr->Obj->TS}(F:FnOk X.prog X.w X.K X.mg X.base (CXr X.prog X.w) k f fd ps sp)(hr:Room k X.A)(hg:Gl X x)(hm:X.mg x=some (.ref f))(hk:PySem.W.keepIn X.K (.ref f)=true)
  (hb:Binds X.K fd ps []) (ha:PA X.nox (e::es) t) (hst:X.stack=X.env::X.outer/\X.env.frame=some X.env.locals) (hxe:X.ex=[]) (hgD:Gl X cn) (hmD:X.mg cn=some (.ref D')) (hC:Vl X.K C D')
  (hN:X.N.Nodup) (hj:X.N[j]?=some y) (hly:X.env.scope.names.lookup y=some .local) (hi:X.N[i]?=some n) (hl:X.env.scope.names.lookup n=some .local)
  (hsu:∀ea oe,oe.cls = .ref C->oe.dict=none->PySem.W.notCls oe=true->NoCtx oe->PSs (X.withinH ea) (b₀::suite) (ts ea oe))
  (hdb:(x==("__debug__":Str))=false:=by decide) (hdc:(cn==("__debug__":Str))=false:=by decide) (he:starEach (e::es) X.env=(false,eval e X.env)::starEach es X.env:=by rfl) (hpl:(backTo pos (starEach es X.env)).any (·.1)=false:=by rfl)
  (hs:swapsWith (.Call (.Name x p) (e::es) [] pos) (some (.Name y py)) p1.line X.env=pure false:=by rfl) :
  PS X (.Try [.Assign [.Name y py] (.Call (.Name x p) (e::es) [] pos) p1] [.ExceptHandler (some (.Name cn np)) (some n) (b₀::suite) hp] [] [] p2) (YF sp t C j i ts):=by
 intro pins s σ H D I h
 refine wpAny_Try_except (wpAny_execs_cons (wpAny_Assign_Name ?_ hs))
 refine wpAny_Call_Name_kw (LG I hg hm ?_ hdb)
 refine PySem.W.callWith_K (h₀:=X.base) I.ok.mod.kin hk (wpAny_mono (ha pos pins s σ H _ (I.wish _) h) (fun us s1 ⟨vs,H1,I1,r,q⟩=>⟨I1.kIn,?_⟩) fun _ _ z=>False.elim z) he hpl
 have J:Inv X pins σ H1 s1:=I1.unwish
 have hlen:us.length=ps.length:=by rw[<- r.length];exact F.len _ _ _ _ q
 refine wpAny_call (codeAny_mono (F.run X.A X.stack s1 H1 ⟨us,[]⟩ us vs _ _ hr J.env0 (by have:=hb s1 us J.kIn (by simpa using hlen);simpa using this) r q) fun rr s3 hq=>?_)
 cases rr with
 |ok fl =>
  cases fl with
  |ret u =>
   obtain⟨v,H2,I2,rv,q2⟩:=J.after hq
   exact Kc I2 hN hj (.inl hly) rv (fun s4 I4=>wpAny_execs_nil (wpAny_execs_nil ⟨_,H2,I4,q2⟩)) (.inr hly)
  |next=>exact False.elim hq
  |brk=>exact False.elim hq
  |cont=>exact False.elim hq
 |error ee =>
  obtain⟨ea,C',H2,rfl,h1,h2,h3,h4,h5,h6,hc,hts⟩:=hq
  cases hc
  have g:Got1 X pins σ H1 H2 s1 ea C .none s3:=⟨h1,h2,h3,h4,h5,h6⟩
  refine g.lands J hst J.ok.frames fun s4 g4=>?_
  obtain⟨oe,hpin,hcls,hdict,hnc⟩:=g4.pin J
  have W4:=(g4.inv J).within hpin
  refine wpAny_handleBy_cons (codeAny_handlers_test ?_) (by intro q;cases q)
  refine LG (X:=X.within ea oe) W4 hgD hmD ?_ hdc
  refine Zp W4.kIn hpin.1 hcls hC.ty hC.cl hC.sub hC.exc ?_
  simp only[if_true]
  refine codeAny_handlers_suite_as (g4.again J fun s5 g5=>?_)
  obtain⟨oe5,hpin5,hcls5,hdict5,hnc5,hno5⟩:=g5.pin2 J
  have W5 : Inv (X.withinH ea) pins σ (upd H2 ea (.frz oe5 (.own ea))) s5 := (g5.inv J).frzE hpin5.1 hpin5.2.1 hpin5.2.2.1 hpin5.2.2.2.2 (fun p hp z => by
   have:=(J.pin p hp).1
   rw[z,g5.new.1]at this;cases this) (by
   cases q0:X.s₀.heap.get? ea with
   |none=>rfl
   |some o =>
    obtain⟨o',r0⟩:=J.base.there ea o q0 (by rw[hxe];intro z;cases z)
    rw[g5.new.1]at r0;cases r0)
  refine Kc (X:=X.withinH ea) (v:=.ref ea) W5 hN hi (.inl hl) rfl (fun s6 I6=>?_) (.inr hl)
  refine wpAny_mono (hsu ea oe5 hcls5 hdict5 hnc5 hno5 pins s6 (σ.set i (some (.ref ea))) _ _ I6 (hts ea oe5 hpin5.2.1 hcls5 hdict5 hnc5 hno5)) (fun fl s7 q=>?_) fun _ _ z=>False.elim z
  cases fl with
  |next=>obtain⟨_,_,_,z⟩:=q;exact z.elim
  |brk=>obtain⟨_,_,_,z⟩:=q;exact z.elim
  |cont=>obtain⟨_,_,_,z⟩:=q;exact z.elim
  |ret u =>
   obtain⟨v,σ',H',I7,rv,z⟩:=q
   have J7:=I7.withoutH J.ok
   obtain⟨m,hm7,_⟩:=id J7.loc
   refine wpAny_nameGoes hl hm7 (by rw[J.ok.kind];rfl) fun h' m' hn' hs'=>?_
   exact⟨v,_,H',J7.gone hn' hs',rv,z⟩
end
section
variable {X:Cx} {ea C c1:Addr} {oe:Obj} {b:Bool}
theorem Zy{T:String}(hc:oe.cls = .ref C)(hd:oe.dict=none)(hn:PySem.W.notCls oe=true)(c:XCls X.K C)(hk:PySem.W.kitOne X.K (.ref C) (.type T)=some b) :
  J8 X (.builtin "isinstance") (fun xs H Q=>xs=[.ref ea,.ty T]/\H ea=some (.frz oe (.own ea))/\Q (.bl b) H):=by
 intro pins s σ H Q us vs I rv h
 obtain⟨rfl,hH,q⟩:=h
 cases rv with
 |cons r1 rv =>
  cases rv with
  |cons r2 rv =>
   cases rv
   cases (show _=Value.ref ea from r1)
   cases (show _=Value.type T from r2)
   exact PySem.W.kia_one (WU c) I.kIn ⟨(I.hok _ _ hH).1,hc,hn,by rw[hd];trivial⟩ hk (fun z=>nomatch z) fun tk=>⟨.bl b,H,I.tok _,rfl,q⟩
theorem El(hc:oe.cls = .ref C)(hd:oe.dict=none)(hn:PySem.W.notCls oe=true)(c:XCls X.K C)(hk:PySem.W.kitOne X.K (.ref C) (.ref c1)=some b) :
  J8 X (.builtin "isinstance") (fun xs H Q=>xs=[.ref ea,.ref c1]/\H ea=some (.frz oe (.own ea))/\Q (.bl b) H):=by
 intro pins s σ H Q us vs I rv h
 obtain⟨rfl,hH,q⟩:=h
 cases rv with
 |cons r1 rv =>
  cases rv with
  |cons r2 rv =>
   cases rv
   cases (show _=Value.ref ea from r1)
   cases (show _=Value.ref c1 from r2)
   exact PySem.W.kia_one (WU c) I.kIn ⟨(I.hok _ _ hH).1,hc,hn,by rw[hd];trivial⟩ hk (fun z=>nomatch z) fun tk=>⟨.bl b,H,I.tok _,rfl,q⟩
end
end L2
end
section
namespace DL
open PySem L2
variable {K:KW} {np:Nat}
abbrev N4:=Out ⊕ Nat
abbrev DBX:=DS->Option N4
def GlX(K:KW)(Ex:Nat->Hp->Prop)(F:Frm)(fr:Bool)(S:Addr->Prop)(H:Hp)(D:Sf):N4->Prop
 |.inl o=>Gl K F fr S H D o
 |.inr n=>∀H',Same F.H H'->Ex n H'
def BX(K:KW)(np:Nat)(Ex:Nat->Hp->Prop)(t:TS)(fr:Bool)(f:DBX):Prop:=∀(F:Frm) S M τ σ H (D:Sf) out,F.ar.length<=np->(∀a,¬F.M a)->RF K F S M τ σ H->f τ=some out->GlX K Ex F fr S H D out->t D σ H
theorem GlX.trans{Ex:Nat->Hp->Prop}{F:Frm}{fr:Bool}{S S':Addr->Prop}{H H':Hp}{D:Sf}{o:N4}(q:GlX K Ex F fr S H D o)(k:Keep S H S' H'):GlX K Ex F fr S' H' D o:=by
 cases o with
 |inl o=>exact Gl.trans k q
 |inr n=>exact q
theorem RF.sm{F:Frm}{S M:Addr->Prop}{τ:DS}{σ:St}{H:Hp}(f:RF K F S M τ σ H)(hM:∀a,¬F.M a):Same F.H H:=fun b o e=>f.old b o e (hM b)
variable {Ex:Nat->Hp->Prop} {fr:Bool}
def xOf(b:DB)(τ:DS):Option N4:=(b τ).map .inl
theorem Sg{t:TS}{b:DB}(h:B K np t fr b):BX K np Ex t fr (xOf b):=by
 intro F S M τ σ H D out hnp hM f ee q
 obtain⟨o,e,rfl⟩:=oM ee
 exact h F S M τ σ H D o hnp f e q
def GO(n:Nat)(_:DS):Option N4:=some (.inr n)
theorem Mg{n:Nat}{C:Addr}{E:XK}{v:V}(h:∀H,Ex n H->E (.ref C) none H):BX K np Ex (aI C E (Gn (tC v) Mr)) fr (GO n):=by
 intro F S M τ σ H D out hnp hM f ee q
 cases ee
 exact⟨(by decide:1<=sizeLine),h H (q H (f.sm hM))⟩
def Fm(a b:DBX)(τ:DS):Option N4:=(a τ).bind fun o=>match o with
 |.inl (.nx τ')=>b τ'
 |o=>some o
theorem N6{t u:TS}{a b:DBX}(ha:BX K np Ex t fr a)(hb:BX K np Ex u fr b):BX K np Ex (W9 t u) fr (Fm a b):=by
 intro F S M τ σ H D out hnp hM f ee q
 unfold Fm at ee
 obtain⟨o,e1,ee⟩:=oB ee
 refine ha F S M τ σ H _ o hnp hM f e1 ?_
 cases o with
 |inr n=>cases ee;exact q
 |inl o =>
  cases o with
  |nx τ1=>exact fun S' M' σ' H' r k=>hb F S' M' τ1 σ' H' D out hnp hM r ee (q.trans k)
  |bk τ1=>cases ee;exact q
  |ct τ1=>cases ee;exact q
  |rt d τ1=>cases ee;exact q
def xIf(c:DT)(a b:DBX)(τ:DS):Option N4:=(c τ).bind fun p=>if p.1=true then a p.2 else b p.2
theorem Y5{tc:TT}{t u:TS}{c:DT}{a b:DBX}(hc:T K tc c)(ha:BX K np Ex t fr a)(hb:BX K np Ex u fr b):BX K np Ex (cX tc t u) fr (xIf c a b):=by
 intro F S M τ σ H D out hnp hM f ee q
 unfold xIf at ee
 obtain⟨⟨k,τ1⟩,e1,ee⟩:=oB ee
 refine hc.run S M τ σ H _ k τ1 f.r e1 fun H1 r1 c1=>?_
 have f1:=f.step r1 c1 (hc.like _ _ _ e1)
 cases k with
 |true=>exact ha F S M τ1 σ H1 D out hnp hM f1 ee (q.trans (c1.keep f.r.sub))
 |false=>exact hb F S M τ1 σ H1 D out hnp hM f1 ee (q.trans (c1.keep f.r.sub))
def N7(g:DG)(b:DBX):List PyData->DS->Option N4
 |[],τ=>some (.inl (.nx τ))
 |d::ds,τ=>(g d τ).bind fun τ1=>(b τ1).bind fun o=>match o with
  |.inl (.nx τ2)=>N7 g b ds τ2
  |.inl (.ct τ2)=>N7 g b ds τ2
  |.inl (.bk τ2)=>some (.inl (.nx τ2))
  |.inl (.rt d τ2)=>some (.inl (.rt d τ2))
  |.inr n=>some (.inr n)
def Y6(it:DI)(g:DG)(b:DBX)(τ:DS):Option N4:=(it τ).bind fun p=>N7 g b p.1 p.2
theorem fR{wi:TI}{tg:TG}{tb:TS}{it:DI}{g:DG}{b:DBX}(hi:IT2 K wi it)(hg:TG1 K tg g)(hb:BX K np Ex tb fr b):BX K np Ex (fh wi tg tb) fr (Y6 it g b):=by
 intro F S M τ σ H D out hnp hM f ee q
 unfold Y6 at ee
 obtain⟨⟨ds,τ1⟩,e1,ee⟩:=oB ee
 refine hi.run S M τ σ H _ ds τ1 f.r e1 fun J H1 r1 c1 iJ=>?_
 have f1:=f.step r1 c1 (hi.like _ _ _ e1)
 have q1:=q.trans (c1.keep f.r.sub)
 refine⟨fun i m σ' H'=>m=ds.length-i/\i<=ds.length/\∃S' M' τ',RF K F S' M' τ' σ' H'/\Keep S H1 S' H'/\N7 g b (ds.drop i) τ'=some out,⟨ds.length,by simp,Nat.zero_le _,S,M,τ1,f1,.refl,by simpa using ee⟩,?_⟩
 rintro i m σ' H' ⟨rfl,hil,S',M',τ',f',k',hl⟩
 obtain⟨I1,I2⟩:=iJ _ _ k' (fun _=>f'.r.fresh)
 by_cases hlt:i<ds.length
 ·right
  have ed:ds[i]?=some ds[i]:=List.getElem?_eq_getElem hlt
  obtain⟨go,yl⟩:=I1 i _ ed
  refine⟨go,fun σ2 H2=>∃S2 M2 τ2,RF K F S2 M2 τ2 σ2 H2/\Keep S H1 S2 H2/\N7 g b (ds.drop (i+1)) τ2=some out,fun σ2 H2 h=>⟨ds.length-(i+1),by omega,rfl,hlt,h⟩,fun x H2 y=>?_⟩
  obtain⟨sm,ix⟩:=yl x H2 y
  have f':=f'.step (f'.r.same sm) (.of sm) .refl
  have k':=k'.trans (Same.keep sm)
  rw[List.drop_eq_getElem_cons hlt,N7]at hl
  obtain⟨τ2,e2,hl⟩:=oB hl
  obtain⟨o,e3,hl⟩:=oB hl
  refine hg.run S' M' τ' σ' H2 x _ τ2 _ f'.r ix e2 fun σ3 r3 k3=>?_
  have f3:=f'.stay r3 (hg.ms _ _ _ e2) k3
  refine hb F S' M' τ2 σ3 H2 _ o hnp hM f3 e3 ?_
  cases o with
  |inr n=>cases hl;exact q1
  |inl o =>
   cases o with
   |nx τ4=>exact fun S4 M4 σ4 H4 f4 k4=>⟨S4,M4,τ4,f4,k'.trans k4,hl⟩
   |ct τ4=>exact fun S4 M4 σ4 H4 f4 k4=>⟨S4,M4,τ4,f4,k'.trans k4,hl⟩
   |bk τ4=>cases hl;exact fun S4 M4 σ4 H4 f4 k4=>q1 S4 M4 σ4 H4 f4 (k'.trans k4)
   |rt d τ4=>cases hl;exact fun S4 M4 σ4 H4 v f4 k4=>q1 S4 M4 σ4 H4 v f4 k4
 ·left
  have e:i=ds.length:=by omega
  subst e
  rw[List.drop_length,N7]at hl
  cases hl
  exact⟨I2 _ (Nat.le_refl _),q1 S' M' σ' H' f' k'⟩
def QK(np nl:Nat)(f:DBX)(ds:List PyData):Option (PyData ⊕ Nat):=if ds.length=np then (f ((ds.map L.d).map some++List.replicate nl none)).bind fun o=>match o with
 |.inl (.nx _)=>some (.inl .none)
 |.inl (.rt d _)=>some (.inl d)
 |.inr n=>some (.inr n)
 |_=>none
 else none
def spO(K:KW)(G:List PyData->Option (PyData ⊕ Nat))(cls:Nat->Addr):Sp:=fun vs H Q E=>∃(S:Addr->Prop) (ds:List PyData) (r:PyData ⊕ Nat),IsL K (hid S H) ds vs/\(∀a,S a->∃o,H a=some o)/\G ds=some r /\
 match r with
 |.inl d=>∀v H',Same H H'->Is K (hid S H') d v->Q v H'
 |.inr n=>∀H',Same H H'->E (.ref (cls n)) none H'
theorem YI{nl:Nat}{f:DBX}{cls:Nat->Addr}{ps:List Str}(hn:ps.length=np)(vs:List V)(H:Hp)(Q:VK)(E:XK)(h:spO K (QK np nl f) cls vs H Q E):vs.length=ps.length:=by
 obtain⟨S,ds,r,l,_,e,_⟩:=h
 unfold QK at e
 split at e
 ·rename_i h1
  rw[l.length,h1,hn]
 ·cases e
theorem Yp{nl:Nat}{t:TS}{f:DBX}{N:List Str}{cls:Nat->Addr}{vs:List V}{H:Hp}{Q:VK}{E:XK}(hb:BX K np (fun n H=>E (.ref (cls n)) none H) t false f)(hN:N.length=np+nl)(h:spO K (QK np nl f) cls vs H Q E):t { nx:=fun _ H'=>Q .non H',rt:=Q } (start N vs) H:=by
 obtain⟨S,ds,r,l,hS,e,q⟩:=h
 unfold QK at e
 split at e
 ·rename_i h1
  obtain⟨o,e1,e⟩:=oB e
  have est:start N vs=vs.map some++List.replicate nl none:=by
   unfold L2.start
   rw[hN,l.length,h1,Nat.add_sub_cancel_left]
  rw[est]
  have r0:R K S (fun _=>False) ((ds.map L.d).map some++List.replicate nl none) (vs.map some++List.replicate nl none) H:=by
   refine fO (by simp[l.length]) (fun i l' h=>?_) hS
   by_cases hi:i<ds.length
   ·rw[List.getElem?_append_left (by simpa using hi),List.getElem?_map,List.getElem?_map,List.getElem?_eq_getElem hi]at h
    cases h
    obtain⟨v,h2,h3⟩:=l.get (List.getElem?_eq_getElem hi)
    refine⟨_,v,rfl,?_,h3⟩
    rw[List.getElem?_append_left (by rw[List.length_map,l.length];exact hi),List.getElem?_map,h2];rfl
   ·rw[List.getElem?_append_right (by simpa using hi),List.getElem?_replicate]at h
    split at h<;>cases h
  have f0:RF K ⟨S,fun _=>False,H,[]⟩ S (fun _=>False) ((ds.map L.d).map some++List.replicate nl none) (vs.map some++List.replicate nl none) H :=
   ⟨r0,fun _ h=>h,fun _ _ h _=>h,fun _ h=>h.elim,fun _ h=>h.elim,hS,fun _ h=>h.elim,fun _ h=>.inl h,fun _ _ h=>(by simp at h),fun _ _ h=>(by simp at h),fun _ h=>h.elim⟩
  refine hb _ S _ _ _ H _ o (Nat.zero_le _) (fun _ h=>h) f0 e1 ?_
  cases o with
  |inr n=>cases e;exact q
  |inl o =>
   cases o with
   |nx τ'=>cases e;exact fun S' M' σ' H' f' k'=>q .non H' (f'.sm fun _ h=>h) rfl
   |bk τ'=>cases e
   |ct τ'=>cases e
   |rt d τ'=>cases e;exact fun S' M' σ' H' v f' r'=>q v H' (f'.sm fun _ h=>h) r'
 ·cases e
def SQ(G:List PyData->Option (PyData ⊕ Nat))(a:DA)(τ:DS):Option N4:=(a τ).bind fun p=>(Cv p.1).bind fun ds=>(G ds).map fun r=>match r with
 |.inl _=>.inl (.nx p.2)
 |.inr n=>.inr n
theorem fS{G:List PyData->Option (PyData ⊕ Nat)}{cls:Nat->Addr}{E:XK}{t:TA}{a:DA}(ha:A K t a):BX K np (fun n H=>E (.ref (cls n)) none H) (aM (P2 (spO K G cls) [] E t)) fr (SQ G a):=by
 intro F S M τ σ H D out hnp hM f ee q
 unfold SQ at ee
 obtain⟨⟨x,τ1⟩,e1,ee⟩:=oB ee
 obtain⟨ds,e2,ee⟩:=oB ee
 obtain⟨r,e3,ee⟩:=oM ee
 refine ha.run S M τ σ H _ x _ f.r e1 fun vs H1 r1 c1 i1=>?_
 have l:=Hz i1 e2
 have f1:=f.step r1 c1 (ha.like _ _ _ e1)
 show spO K G cls (vs++[]) H1 _ E
 rw[List.append_nil]
 refine⟨S,ds,r,l,r1.ex,e3,?_⟩
 cases r with
 |inr n=>cases ee;exact fun H' s=>q H' fun b o e=>s b o (f1.sm hM b o e)
 |inl d =>
  cases ee
  exact fun v H' s _=>q S M σ H' (f1.step (r1.same s) (.of s) .refl) ((c1.trans (.of s)).keep f.r.sub)
end DL
namespace L2
open PySem PySem.Spec PyProof.Rows PySem.W DL
def Z6(K:Frag)(C:Addr):Bool :=
 (match findIn K (.ref C) "__getattribute__" with|some (some (.builtin n))=>n=="BaseException.__getattribute__" | _=>false)&&(match findIn K (.ref C) "__getattr__" with|some none=>true|_=>false)&&(clsIn K C).isSome &&
 (match findIn K (.ref C) "__class__" with|some (some (.builtin n))=>n=="object.__class__" | _=>false)&&(match specialIn K (.builtin "object.__class__") "__get__" with|some (some (.builtin n))=>n=="getset_descriptor.__get__" | _=>false) &&
 (match takesIn K (.builtin "object.__class__") with|some b=>b|_=>false)&&(match mroIn K C (.type "object") with|some b=>b|_=>false)&&(match mroIn K C (.type "BaseException") with|some b=>b|_=>false)
theorem Z5{K:Frag}{C:Addr}(h:Z6 K C=true):XCls K C:=by
 unfold Z6 at h
 simp only[Bool.and_eq_true]at h
 obtain⟨⟨⟨⟨⟨⟨⟨h1,h2⟩,h3⟩,h4⟩,h5⟩,h6⟩,h7⟩,h8⟩:=h
 refine⟨?_,?_,h3,?_,?_,?_,?_,?_⟩
 ·split at h1<;>first|cases h1|(rename_i e;rw[e,beq_iff_eq.mp h1])
 ·split at h2<;>first|assumption|cases h2
 ·split at h4<;>first|cases h4|(rename_i e;rw[e,beq_iff_eq.mp h4])
 ·split at h5<;>first|cases h5|(rename_i e;rw[e,beq_iff_eq.mp h5])
 ·split at h6<;>first|(rename_i e;rw[e];exact congrArg some h6)|cases h6
 ·split at h7<;>first|(rename_i e;rw[e];exact congrArg some h7)|cases h7
 ·split at h8<;>first|(rename_i e;rw[e];exact congrArg some h8)|cases h8
def Yc(K:Frag)(C:Addr)(v:Value)(b:Bool):Bool:=match kitOne K (.ref C) v with|some c=>c==b|none=>false
theorem WV{K:Frag}{C:Addr}{v:Value}{b:Bool}(h:Yc K C v b=true):kitOne K (.ref C) v=some b:=by
 unfold Yc at h
 split at h
 ·rename_i c e
  rw[e,beq_iff_eq.mp h]
 ·cases h
def X2(K:Frag)(C D:Addr):Bool:=(match typeIn K (.ref D) with|some (.type n)=>n=="type" | _=>false)&&(clsIn K D).isSome&&(match subIn K (.ref C) (.ref D) with|some b=>b|_=>false)&&(match subIn K (.ref D) (.type "BaseException") with|some b=>b|_=>false)
theorem Zv{K:Frag}{C D:Addr}(h:X2 K C D=true):Vl K C D:=by
 unfold X2 at h
 simp only[Bool.and_eq_true]at h
 obtain⟨⟨⟨h1,h2⟩,h3⟩,h4⟩:=h
 refine⟨?_,h2,?_,?_⟩
 ·split at h1<;>first|cases h1|(rename_i e;rw[e,beq_iff_eq.mp h1])
 ·split at h3<;>first|(rename_i e;rw[e];exact congrArg some h3)|cases h3
 ·split at h4<;>first|(rename_i e;rw[e];exact congrArg some h4)|cases h4
def excAll(K:Frag)(D:Addr)(cs:List Addr)(m:Nat):Bool:=(List.range m).all fun n=>Z6 K (cs.getD n 0)&&X2 K (cs.getD n 0) D&&Yc K (cs.getD n 0) (.type "ValueError") true&&(List.range cs.length).all fun j=>Yc K (cs.getD n 0) (.ref (cs.getD j 0)) (n==j)
structure X9(K:Frag)(D:Addr)(cs:List Addr)(n:Nat):Prop where
 xc:XCls K (cs.getD n 0)
 ct:Vl K (cs.getD n 0) D
 ve:kitOne K (.ref (cs.getD n 0)) (.type "ValueError")=some true
 ks:∀j,j<cs.length->kitOne K (.ref (cs.getD n 0)) (.ref (cs.getD j 0))=some (n==j)
theorem excAll_ok{K:Frag}{D:Addr}{cs:List Addr}{m n:Nat}(h:excAll K D cs m=true)(hn:n<m):X9 K D cs n:=by
 unfold excAll at h
 have h1:=List.all_eq_true.mp h n (List.mem_range.mpr hn)
 simp only[Bool.and_eq_true]at h1
 obtain⟨⟨⟨a,b⟩,c⟩,d⟩:=h1
 exact⟨Z5 a,Zv b,WV c,fun j hj=>WV (List.all_eq_true.mp d j (List.mem_range.mpr hj))⟩
end L2
namespace DL
open PySem L2
abbrev ja(ea:Addr)(oe:Obj)(c:Addr)(b:Bool):List V->Hp->VK->Prop:=fun xs H Q=>xs=[.ref ea,.ref c]/\H ea=some (.frz oe (.own ea))/\Q (.bl b) H
abbrev tPr(ea:Addr)(oe:Obj)(s:Str)(c:Addr)(b:Bool):TE:=fg (Gn (tC (.str s)) (Gn (tCB (ja ea oe c b) (Gn (J9 0) (Gn (tC (.ref c)) Mr))) Mr))
abbrev prD(s:Str)(b:Bool):PyData:=.tuple [.str s,.bool b]
abbrev Zd:Addr->Prop:=fun _=>False
section
variable {K:KW} {ea c1 c2:Addr} {oe:Obj} {s1 s2:Str} {b1 b2:Bool} {σ:St} {H:Hp} {Q:VK}
theorem XD(h0:σ[0]?=some (some (.ref ea)))(hH:H ea=some (.frz oe (.own ea)))(q:∀p H',Same H H'->Is K (hid Zd H') (prD s1 b1) (.ref p)->Q (.ref p) H'):tPr ea oe s1 c1 b1 σ H Q :=
 ⟨.ref ea,h0,rfl,hH,(by decide:2<=sizeLine),fun p hp=>q p _ (CA hp _) ⟨p,_,rfl,.inl (.inl (hid_iff.mpr ⟨fun z=>z,Bk⟩)),_,_,rfl,rfl,_,_,rfl,rfl,rfl⟩⟩
theorem bE(h0:σ[0]?=some (some (.ref ea)))(hH:H ea=some (.frz oe (.own ea)))(q:∀p H',Same H H'->Is K (hid Zd H') (.list [prD s1 b1]) (.ref p)->Q (.ref p) H'):aL (Gn (tPr ea oe s1 c1 b1) Mr) σ H Q:=by
 show tPr ea oe s1 c1 b1 σ H (fun x H9=>([x]).length<=sizeLine/\∀p,H9 p=none->Q (.ref p) (upd H9 p (.lst ([x]))))
 exact XD (K:=K) h0 hH fun p1 H1 m1 i1=>⟨(by decide:1<=sizeLine),fun l hl=>q l _ (fun b o e=>CA hl _ b o (m1 b o e)) ⟨l,_,rfl,hid_iff.mpr ⟨fun z=>z,Bk⟩,_,_,rfl,i1.mono (Same.keep (S:=Zd) (CA hl _)).same,rfl⟩⟩
theorem OP(h0:σ[0]?=some (some (.ref ea)))(hH:H ea=some (.frz oe (.own ea)))(q:∀p H',Same H H'->Is K (hid Zd H') (.list [prD s1 b1,prD s2 b2]) (.ref p)->Q (.ref p) H'):aL (Gn (tPr ea oe s1 c1 b1) (Gn (tPr ea oe s2 c2 b2) Mr)) σ H Q:=by
 show tPr ea oe s1 c1 b1 σ H (fun x H1=>tPr ea oe s2 c2 b2 σ H1 fun y H9=>([x,y]).length<=sizeLine/\∀p,H9 p=none->Q (.ref p) (upd H9 p (.lst ([x,y]))))
 refine XD (K:=K) h0 hH fun p1 H1 m1 i1=>?_
 exact XD (K := K) h0 (m1 _ _ hH) fun p2 H2 m2 i2 => ⟨(by decide : 2 <= sizeLine), fun l hl => q l _ (fun b o e => CA hl _ b o (m2 b o (m1 b o e)))
  ⟨l,_,rfl,hid_iff.mpr ⟨fun z=>z,Bk⟩,_,_,rfl,(i1.mono (Same.keep (S:=Zd) m2).same).mono (Same.keep (S:=Zd) (CA hl _)).same,_,_,rfl,i2.mono (Same.keep (S:=Zd) (CA hl _)).same,rfl⟩⟩
theorem Q8{as bs:List PyData}{a b:Addr}(ha:Is K (hid Zd H) (.list as) (.ref a))(hb:Is K (hid Zd H) (.list bs) (.ref b))(hz:as.length+bs.length<=sizeLine)(q:∀p H',Same H H'->Is K (hid Zd H') (.list (as++bs)) (.ref p)->Q (.ref p) H'):fu (.ref a) (.ref b) H Q:=by
 obtain⟨_,vs,e1,h1,l1⟩:=ha
 obtain⟨_,us,e2,h2,l2⟩:=hb
 cases e1
 cases e2
 refine⟨a,b,vs,us,rfl,rfl,(hid_iff.mp h1).2,(hid_iff.mp h2).2,by rw[l1.length,l2.length];exact hz,fun p hp=>q p _ (CA hp _) ⟨p,_,rfl,hid_iff.mpr ⟨fun z=>z,Bk⟩,?_⟩⟩
 exact(Jd l1 l2).mono (Same.keep (S:=Zd) (CA hp _)).same
end
end DL
end
section
namespace L2
open PySem PySem.Spec PyProof.Rows
def DF(K:PySem.W.Frag)(x:Str)(st:Stmt)(f:Addr)(fd:FuncData):Prop:=PySem.W.nsIn K mainGlobals x=some (some (.ref f))/\Fun K x x st f fd
section
variable {K:PySem.W.Frag} {x:Str} {st:Stmt} {f:Addr} {fd:FuncData} {h:Heap} {mg:Str->Option Value}
theorem DF.mk{oc:Value}{od an:Option Addr}{osl:Array (Option Value)}{kV doc pm cdv ct:Value}(a:PySem.W.nsIn K mainGlobals x=some (some (.ref f)))(l:K.lookup f=some ⟨oc,od,.func (PySem.W.fnOf x x (Hu st) (E2 st) (AR st) .none kV doc pm an cdv ct),osl⟩)(c:PySem.W.codeIn K cdv x=true)(k:PySem.W.keepIn K (.ref f)=true):DF K x st f (PySem.W.fnOf x x (Hu st) (E2 st) (AR st) .none kV doc pm an cdv ct):=⟨a,gO l c k⟩
theorem DF.m(d:DF K x st f fd)(X:K.In h)(G:h.Ns mainGlobals mg):mg x=some (.ref f):=PySem.W.mg_of X G d.1
theorem DF.b{ps:List Str}(d:DF K x st f fd)(h:∀(kV doc pm:Value) (an:Option Addr) (cdv ct:Value) (us:List Value),us.length=ps.length->bindArgs (PySem.W.fnOf x x (Hu st) (E2 st) (AR st) .none kV doc pm an cdv ct) ⟨us,[]⟩=pure (ps.zip us)):Binds K fd ps []:=d.2.binds h
theorem DF.cal{P:Program}{w:World}{base:Heap}{k:Nat}{ps:List Str}{sp:Sp}(d:DF K x st f fd)(X:K.In h)(G:h.Ns mainGlobals mg)(o:FnOk P w K mg base CX0 k f fd ps sp)(b:∀(kV doc pm:Value) (an:Option Addr) (cdv ct:Value) (us:List Value),us.length=ps.length->bindArgs (PySem.W.fnOf x x (Hu st) (E2 st) (AR st) .none kV doc pm an cdv ct) ⟨us,[]⟩=pure (ps.zip us)):Cal P w K mg base k x ps sp:=Cal.of d.2 o (d.b b) (d.m X G)
end
instance {sc:Scope} {x:Str}:Decidable (Loc sc x):=by unfold Loc;infer_instance
theorem viL{sc:Scope}{x:Str}(h:Loc sc x):Vis sc x:=h.elim Or.inl fun h=>Or.inr (Or.inl h)
theorem pvL{X:Cx}(i:Nat){x:Str}{pos:Pos}(hN:X.N[i]?=some x)(hl:Loc X.env.scope x)(hd:(x==("__debug__":Str))=false/\(x==("__classdict__":Str))=false):PE X (.Name x pos) (J9 i):=af hN (viL hl) hd.1 hd.2
end L2
end
set_option maxHeartbeats 2000000
namespace My
open PySem L2 DL
local macro_rules|`(tactic| trivial)=>`(tactic| first|rfl|(intro _;rfl)|exact .inl rfl|exact .inr rfl|with_unfolding_all rfl|decide|assumption|(intro _ _ _ _ _ _ us hl;first|(match us,hl with|[_],_=>rfl)|(match us,hl with|[_,_],_=>rfl)|(match us,hl with|[_,_,_],_=>rfl)|(match us,hl with|[_,_,_,_],_=>rfl)|(match us,hl with|[],_=>rfl)))
local macro_rules|`(tactic| walk_at "dk")=>`(tactic| decide +kernel)
local macro_rules|`(⋯)=>`(by trivial)
local macro_rules|`(∅)=>`(by decide +kernel)
local macro_rules|`(tactic|walk_at $s:str)=>match s.getString.splitOn "|" with
 |[k,e]=>do
  let l:=if k=="a" then "BW,AY,Am,dN,Mf,Il,A0,Kv,Me,C3,dMt,Bs,LO,Nv,SO,A2,A4,X0,Xz,LV,Ia,EO,AD,dC,dOp,dUn,fI,CK,EM,fLt,fLe,fGt,fGe,He,S9,Oh,Jz,MU,Ai,AN,Ci,De,Bm,dIf,C9,dOr,Qq,C8,AI,AA,Cv,Be,IZ,BD,AU,N1,Bj,N0,dAS,mkL,nMb,isM,isC,Gm,FF,Fh,Ek,dIL,dIT,dR1,dR2,Cy,BE,dGT,Bt,DK,DM,DJ,B9,f1,f2,R8,R6,R5,R7,FO,Xx,Gk,E3,Cm,atI,ixN,JU,RO,RP,RN,GN,fixDs,sz',Option.bind_some,Option.bind_none,Option.map_some,Option.map_none,List.map_cons,List.map_nil,List.cons_append,List.nil_append,List.length_cons,List.length_nil,List.getElem?_cons_zero,List.getElem?_cons_succ,List.set_cons_zero,List.set_cons_succ,List.replicate_succ,List.replicate_zero,List.all_cons,List.all_nil,Bool.and_self,Bool.and_true,Bool.true_and,Bool.false_and,Bool.and_false,Bool.or_true,Bool.true_or,Bool.false_or,Bool.or_false,Bool.not_true,Bool.not_false,if_true,if_false,reduceIte,Bool.false_eq_true,Nat.reduceAdd,Nat.reduceLT,Nat.reduceSub,Nat.reduceMul,Int.reduceEq,Int.reduceSub,Int.reduceMul,Int.reducePow,Int.reduceDiv,Int.reduceMod,Nat.reduceLeDiff,Nat.reduceEqDiff,and_self,and_true,true_and,Int.natCast_add,Int.reduceAdd,Int.reduceLT,Int.reduceLE,Int.reduceToNat,Int.reduceNeg,Int.toNat_zero,Int.toNat_one,Int.zero_lt_one,Int.le_refl,Int.reduceNegSucc,Int.cast_ofNat_Int,Nat.zero_add,Nat.add_zero" else "BW,AY,Am,dN,A0,A2,A4,EO,AD,dC,dOp,fI,CK,EM,fLt,fLe,fGt,fGe,Ai,AN,AI,AA,Cv,Be,BD,AU,Bj,Bt,DK,DM,DJ,E3,Cm,atI,ixN,sz',Option.bind_some,Option.map_some,List.map_cons,List.map_nil,List.cons_append,List.nil_append,List.length_cons,List.length_nil,List.getElem?_cons_zero,List.getElem?_cons_succ,List.set_cons_zero,List.set_cons_succ,List.replicate_succ,List.replicate_zero,if_true,if_false,reduceIte,Bool.false_eq_true,Nat.reduceAdd,Nat.reduceLT,Int.reduceAdd,Int.reduceLT,Int.reduceLE,Int.reduceToNat,Nat.reduceLeDiff,and_self,Int.toNat_zero,Int.le_refl,Int.natCast_add,Int.cast_ofNat_Int,Nat.zero_add"
  let xs:=((if e.isEmpty then l else e++","++l).splitOn ",").map fun n=>Lean.mkIdent n.toName
  `(tactic|simp only[$[$(xs.toArray):ident],*])
 |_=>Lean.Macro.throwUnsupported
abbrev dbP(x:Str):Prop:=(x==("__debug__":Str))=false
abbrev clP(x:Str):Prop:=(x==("__classdict__":Str))=false
abbrev glP(s:Stmt)(x:Str):Prop:=(AR s).names.lookup x=some NameKind.globalImplicit
abbrev dcP(x:Str):Prop:=dbP x/\clP x
abbrev lcP(s:Stmt)(x:Str):Prop:=L2.Loc (AR s) x
def top(i:Nat):Stmt:=PySem.Challenge.pw_scenemend_k26_scenes_vetted.main.body.getD i (.Pass ⟨0,0,0,0⟩)
theorem Wr:dcP "FORMS":=∅
theorem Xv:dcP "HOLDERS":=∅
theorem Qp:dcP "MOST_HOLDERS":=∅
theorem Ve:dcP "MOST_ROWS":=∅
theorem Tj:dcP "NAME_SIGNS":=∅
theorem UP:dcP "Nested":=∅
theorem QI:dcP "NoHolder":=∅
theorem UO:dcP "NoPart":=∅
theorem bz:dcP "SIGNS":=∅
theorem SM:dcP "TooDeep":=∅
theorem SK:dcP "TooMany":=∅
theorem Wq:dcP "Twice":=∅
theorem Px:dcP "_law_are_rows":=∅
theorem SJ:dcP "_law_at":=∅
theorem QH:dcP "_law_big":=∅
theorem AK:dcP "_law_big_here":=∅
theorem FE:dcP "_law_bottom":=∅
theorem Mc:dcP "_law_bounds":=∅
theorem Xu:dcP "_law_by":=∅
theorem Ds:dcP "_law_by_name":=∅
theorem Oq:dcP "_law_cell":=∅
theorem Lb:dcP "_law_cell_at":=∅
theorem Ti:dcP "_law_chain":=∅
theorem Dc:dcP "_law_chain_here":=∅
theorem Qo:dcP "_law_chained":=∅
theorem A8:dcP "_law_data":=∅
theorem Qn:dcP "_law_data_of":=∅
theorem Wo:dcP "_law_due":=∅
theorem J6:dcP "_law_far":=∅
theorem KZ:dcP "_law_first":=∅
theorem LU:dcP "_law_good":=∅
theorem UN:dcP "_law_h":=∅
theorem Mb:dcP "_law_handed":=∅
theorem Vd:dcP "_law_high":=∅
theorem Jj:dcP "_law_holder":=∅
theorem Dr:dcP "_law_holders":=∅
theorem Qm:dcP "_law_is_data":=∅
theorem Hy:dcP "_law_is_of":=∅
theorem Hf:dcP "_law_is_paint":=∅
theorem Ig:dcP "_law_is_part":=∅
theorem SI:dcP "_law_is_row":=∅
theorem DQ:dcP "_law_k":=∅
theorem A7:dcP "_law_kind":=∅
theorem KY:dcP "_law_kinds":=∅
theorem Hx:dcP "_law_least":=∅
theorem SH:dcP "_law_leaves":=∅
theorem QG:dcP "_law_low":=∅
theorem Vc:dcP "_law_many":=∅
theorem IY:dcP "_law_met":=∅
theorem FP:dcP "_law_most":=∅
theorem Bz:dcP "_law_name":=∅
theorem Ql:dcP "_law_name_of":=∅
theorem Hw:dcP "_law_names":=∅
theorem BM:dcP "_law_one":=∅
theorem Th:dcP "_law_other":=∅
theorem Fz:dcP "_law_other_here":=∅
theorem Pw:dcP "_law_paint_of":=∅
theorem Tg:dcP "_law_prime":=∅
theorem Af:dcP "_law_row":=∅
theorem SG:dcP "_law_row_of":=∅
theorem BF:dcP "_law_rows":=∅
theorem EN:dcP "_law_script":=∅
theorem Eu:dcP "_law_shade":=∅
theorem Et:dcP "_law_share":=∅
theorem Ku:dcP "_law_share_of":=∅
theorem Tf:dcP "_law_shown":=∅
theorem JE:dcP "_law_sign":=∅
theorem Hv:dcP "_law_signs":=∅
theorem Oo:dcP "_law_size":=∅
theorem Fl:dcP "_law_size_of":=∅
theorem KU:dcP "_law_sizes":=∅
theorem Om:dcP "_law_some":=∅
theorem Nz:dcP "_law_stencil_of":=∅
theorem Fj:dcP "_law_step_of":=∅
theorem Xt:dcP "_law_sx":=∅
theorem Xs:dcP "_law_sy":=∅
theorem LR:dcP "_law_text":=∅
theorem BU:dcP "_law_thing":=∅
theorem Te:dcP "_law_tiles":=∅
theorem Vb:dcP "_law_told":=∅
theorem QF:dcP "_law_top":=∅
theorem SF:dcP "_law_up":=∅
theorem Fi:dcP "_law_up_here":=∅
theorem UM:dcP "_law_w":=∅
theorem Va:dcP "_law_wide":=∅
theorem Cd:dcP "_law_within":=∅
theorem Qk:dcP "_law_word_of":=∅
theorem Zt:dcP "_law_x":=∅
theorem Zs:dcP "_law_y":=∅
theorem Xr:dcP "abs":=∅
theorem Uz:("abs":Str)≠"__name__":=∅
theorem MZ:dcP "ahead":=∅
theorem VZ:dcP "all":=∅
theorem Qz:("all":Str)≠"__name__":=∅
theorem gX:dcP "any":=∅
theorem dB:("any":Str)≠"__name__":=∅
theorem M9:dcP "are_stencil_rows":=∅
theorem bx:dcP "big":=∅
theorem Ol:dcP "bool":=∅
theorem Lr:("bool":Str)≠"__name__":=∅
theorem Mp:dcP "bottom":=∅
theorem Oj:dcP "common_divisor":=∅
theorem Bg:dcP "data":=∅
theorem VY:dcP "enumerate":=∅
theorem Sw:("enumerate":Str)≠"__name__":=∅
theorem Yt:dcP "high":=∅
theorem UL:dcP "holder":=∅
theorem LQ:dcP "holders":=∅
theorem Td:dcP "holders_of":=∅
theorem bu:dcP "int":=∅
theorem YW:("int":Str)≠"__name__":=∅
theorem FT:dcP "is_bounded_share":=∅
theorem Xq:dcP "is_data":=∅
theorem VX:dcP "is_holder":=∅
theorem SE:dcP "is_name":=∅
theorem J5:dcP "is_paint":=∅
theorem J4:dcP "is_place":=∅
theorem Zr:dcP "is_row":=∅
theorem Wn:dcP "is_share":=∅
theorem Xp:dcP "is_sign":=∅
theorem NV:dcP "is_text_of":=∅
theorem Wm:dcP "is_tiles":=∅
theorem QE:dcP "is_truth":=∅
theorem MY:dcP "is_whole":=∅
theorem CP:dcP "is_within":=∅
theorem Qj:dcP "is_word_text":=∅
theorem A1:dcP "isinstance":=∅
theorem Av:("isinstance":Str)≠"__name__":=∅
theorem VW:dcP "kind":=∅
theorem B7:dcP "len":=∅
theorem Ba:("len":Str)≠"__name__":=∅
theorem Ys:dcP "list":=∅
theorem WI:("list":Str)≠"__name__":=∅
theorem br:dcP "low":=∅
theorem gW:dcP "max":=∅
theorem dA:("max":Str)≠"__name__":=∅
theorem gU:dcP "min":=∅
theorem c6:("min":Str)≠"__name__":=∅
theorem Mo:dcP "name":=∅
theorem gT:dcP "one":=∅
theorem bq:dcP "other":=∅
theorem bp:dcP "place":=∅
theorem df:dcP "rest":=∅
theorem Cf:dcP "row":=∅
theorem Wl:dcP "row_data":=∅
theorem Gi:dcP "row_found":=∅
theorem Cr:dcP "row_holder":=∅
theorem J3:dcP "row_kind":=∅
theorem MX:dcP "row_name":=∅
theorem Zq:dcP "row_of":=∅
theorem VV:dcP "row_shown":=∅
theorem bj:dcP "row_x":=∅
theorem bh:dcP "row_y":=∅
theorem J0:dcP "rows":=∅
theorem bg:dcP "shade":=∅
theorem bc:dcP "share":=∅
theorem Oi:dcP "sign":=∅
theorem Wk:dcP "signs":=∅
theorem SD:dcP "small":=∅
theorem Ny:dcP "str":=∅
theorem K7:("str":Str)≠"__name__":=∅
theorem BO:dcP "thing":=∅
theorem Xo:dcP "top":=∅
theorem Ji:dcP "tuple":=∅
theorem HL:("tuple":Str)≠"__name__":=∅
theorem Xn:dcP "vet_row":=∅
abbrev GB:Stmt:=top 60
theorem sc_L_cell_at:Ao ["_law_script","_law_k"] ["_law_script","_law_k"] (AR GB):=⟨rfl,rfl,rfl,∅,rfl,∅,∅⟩
theorem NQ:lcP GB "_law_script":=∅
theorem NP:lcP GB "_law_k":=∅
theorem Qi:glP GB "len":=∅
abbrev FI:Stmt:=top 61
theorem sc_L_big:Ao ["_law_script","_law_at","_law_by","_law_prime","_law_cell","_law_big_here","_law_k","_law_one"] ["_law_script","_law_at"] (AR FI):=⟨rfl,rfl,rfl,∅,rfl,∅,∅⟩
theorem UB:lcP FI "_law_script":=∅
theorem UA:lcP FI "_law_at":=∅
theorem T9:lcP FI "_law_by":=∅
theorem T8:lcP FI "_law_prime":=∅
theorem PM:lcP FI "_law_cell":=∅
theorem Mj:lcP FI "_law_big_here":=∅
theorem JI:lcP FI "_law_k":=∅
theorem T7:lcP FI "_law_one":=∅
theorem IV:glP FI "_law_cell_at":=∅
theorem TX:glP FI "range":=∅
abbrev Ct:Stmt:=top 89
theorem sc_L_chained:Ao ["_law_big_here","_law_rows","_law_name","_law_k","_law_kind","_law_data"] ["_law_big_here"] (AR Ct):=⟨rfl,rfl,rfl,∅,rfl,∅,∅⟩
theorem Ht:lcP Ct "_law_big_here":=∅
theorem KP:lcP Ct "_law_rows":=∅
theorem KO:lcP Ct "_law_name":=∅
theorem Ff:lcP Ct "_law_k":=∅
theorem KN:lcP Ct "_law_kind":=∅
theorem NO:lcP Ct "_law_data":=∅
theorem Of:glP Ct "range":=∅
theorem La:glP Ct "str":=∅
abbrev ET:Stmt:=top 67
theorem sc_L_name_of:Ao ["_law_big_here","_law_name","_law_size","_law_k"] ["_law_big_here"] (AR ET):=⟨rfl,rfl,rfl,∅,rfl,∅,∅⟩
theorem EB:lcP ET "_law_big_here":=∅
theorem Hq:lcP ET "_law_name":=∅
theorem NJ:lcP ET "_law_size":=∅
theorem S8:lcP ET "_law_k":=∅
theorem Od:glP ET "range":=∅
abbrev Jp:Stmt:=top 68
theorem sc_L_step_of:Ao ["_law_big_here"] ["_law_big_here"] (AR Jp):=⟨rfl,rfl,rfl,∅,rfl,∅,∅⟩
theorem FZ:lcP Jp "_law_big_here":=∅
abbrev Ll:Stmt:=top 75
theorem sc_L_up:Ao ["_law_rows","_law_name","_law_up_here","_law_by_name","_law_row"] ["_law_rows","_law_name"] (AR Ll):=⟨rfl,rfl,rfl,∅,rfl,∅,∅⟩
theorem bC:lcP Ll "_law_rows":=∅
theorem Lz:lcP Ll "_law_name":=∅
theorem RZ:lcP Ll "_law_up_here":=∅
theorem OJ:lcP Ll "_law_by_name":=∅
theorem RY:lcP Ll "_law_row":=∅
abbrev Hi:Stmt:=top 62
theorem sc_L_low:Ao ["_law_top","_law_bottom","_law_one","_law_other_here"] ["_law_top","_law_bottom"] (AR Hi):=⟨rfl,rfl,rfl,∅,rfl,∅,∅⟩
theorem T4:lcP Hi "_law_top":=∅
theorem T3:lcP Hi "_law_bottom":=∅
theorem PL:lcP Hi "_law_one":=∅
theorem UE:(AR Hi).names.lookup ("_law_one":Str)=some NameKind.local:=∅
theorem PJ:lcP Hi "_law_other_here":=∅
theorem UD:(AR Hi).names.lookup ("_law_other_here":Str)=some NameKind.local:=∅
theorem We:glP Hi "abs":=∅
abbrev FH:Stmt:=top 66
theorem sc_L_share_of:Ao ["_law_big_here","_law_bottom"] ["_law_big_here"] (AR FH):=⟨rfl,rfl,rfl,∅,rfl,∅,∅⟩
theorem Ca:lcP FH "_law_big_here":=∅
theorem EK:lcP FH "_law_bottom":=∅
theorem Lg:glP FH "_law_low":=∅
abbrev Ea:Stmt:=top 71
theorem sc_L_paint_of:Ao ["_law_big_here","_law_shade","_law_share"] ["_law_big_here"] (AR Ea):=⟨rfl,rfl,rfl,∅,rfl,∅,∅⟩
theorem DW:lcP Ea "_law_big_here":=∅
theorem JY:lcP Ea "_law_shade":=∅
theorem L7:lcP Ea "_law_share":=∅
theorem FD:glP Ea "_law_share_of":=∅
abbrev B1:Stmt:=top 70
theorem sc_L_stencil_of:Ao ["_law_big_here","_law_wide","_law_high","_law_rows","_law_j","_law_row","_law_i"] ["_law_big_here"] (AR B1):=⟨rfl,rfl,rfl,∅,rfl,∅,∅⟩
theorem CQ:lcP B1 "_law_big_here":=∅
theorem Kk:lcP B1 "_law_wide":=∅
theorem Kj:lcP B1 "_law_high":=∅
theorem HN:lcP B1 "_law_rows":=∅
theorem PH:lcP B1 "_law_j":=∅
theorem FJ:lcP B1 "_law_row":=∅
theorem PF:lcP B1 "_law_i":=∅
theorem IU:glP B1 "range":=∅
theorem MQ:glP B1 "tuple":=∅
abbrev H0:Stmt:=top 69
theorem sc_L_size_of:Ao ["_law_big_here","_law_most"] ["_law_big_here","_law_most"] (AR H0):=⟨rfl,rfl,rfl,∅,rfl,∅,∅⟩
theorem Fb:lcP H0 "_law_big_here":=∅
theorem NG:lcP H0 "_law_most":=∅
abbrev ES:Stmt:=top 72
theorem sc_L_word_of:Ao ["_law_big_here","_law_text","_law_size","_law_k"] ["_law_big_here"] (AR ES):=⟨rfl,rfl,rfl,∅,rfl,∅,∅⟩
theorem EA:lcP ES "_law_big_here":=∅
theorem Ho:lcP ES "_law_text":=∅
theorem NF:lcP ES "_law_size":=∅
theorem S7:lcP ES "_law_k":=∅
theorem Oa:glP ES "range":=∅
abbrev Bl:Stmt:=top 73
theorem sc_L_data_of:Ao ["_law_kind","_law_big_here","_law_data","_law_w","_law_h","_law_sx","_law_sy","_law_shade","_law_share","_law_text","_law_rows"] ["_law_kind","_law_big_here"] (AR Bl):=⟨rfl,rfl,rfl,∅,rfl,∅,∅⟩
theorem DH:lcP Bl "_law_kind":=∅
theorem Ag:lcP Bl "_law_big_here":=∅
theorem Ep:lcP Bl "_law_data":=∅
theorem Hs:lcP Bl "_law_w":=∅
theorem Hr:lcP Bl "_law_h":=∅
theorem NM:lcP Bl "_law_sx":=∅
theorem NL:lcP Bl "_law_sy":=∅
theorem Fe:lcP Bl "_law_shade":=∅
theorem Eo:lcP Bl "_law_share":=∅
theorem NK:lcP Bl "_law_text":=∅
theorem MC:lcP Bl "_law_rows":=∅
theorem Cp:glP Bl "_law_size_of":=∅
theorem Fg:glP Bl "_law_step_of":=∅
theorem Jn:glP Bl "_law_paint_of":=∅
theorem KS:glP Bl "_law_word_of":=∅
theorem JC:glP Bl "_law_stencil_of":=∅
abbrev Mi:Stmt:=top 74
theorem sc_L_kinds:Ao ["_law_leaves"] [] (AR Mi):=⟨rfl,rfl,rfl,∅,rfl,∅,∅⟩
theorem P8:lcP Mi "_law_leaves":=∅
abbrev Bh:Stmt:=top 76
theorem sc_L_row_of:Ao ["_law_rows","_law_big_here","_law_name","_law_holders","_law_row","_law_holder","_law_x","_law_y","_law_kind","_law_up_here","_law_shown","_law_data"] ["_law_rows","_law_big_here"] (AR Bh):=⟨rfl,rfl,rfl,∅,rfl,∅,∅⟩
theorem Iz:lcP Bh "_law_rows":=∅
theorem By:lcP Bh "_law_big_here":=∅
theorem OM:lcP Bh "_law_name":=∅
theorem Eg:lcP Bh "_law_holders":=∅
theorem Iy:lcP Bh "_law_row":=∅
theorem Iw:lcP Bh "_law_holder":=∅
theorem OL:lcP Bh "_law_x":=∅
theorem OK:lcP Bh "_law_y":=∅
theorem GX:lcP Bh "_law_kind":=∅
theorem VF:lcP Bh "_law_up_here":=∅
theorem NI:lcP Bh "_law_shown":=∅
theorem NH:lcP Bh "_law_data":=∅
theorem Kp:glP Bh "_law_name_of":=∅
theorem Jg:glP Bh "_law_up":=∅
theorem Gg:glP Bh "len":=∅
theorem Gv:glP Bh "_law_kinds":=∅
theorem GK:glP Bh "_law_step_of":=∅
theorem Kq:glP Bh "_law_data_of":=∅
theorem Uy:List.Nodup (["_law_row","_law_up_here"]:List Str):=∅
abbrev EI:Stmt:=top 90
theorem sc_L_other:Ao ["_law_rows","_law_row","_law_big_here","_law_kind","_law_names","_law_some"] ["_law_rows","_law_row","_law_big_here"] (AR EI):=⟨rfl,rfl,rfl,∅,rfl,∅,∅⟩
theorem WL:lcP EI "_law_rows":=∅
theorem GD:lcP EI "_law_row":=∅
theorem MA:lcP EI "_law_big_here":=∅
theorem Jt:lcP EI "_law_kind":=∅
theorem L9:lcP EI "_law_names":=∅
theorem L8:lcP EI "_law_some":=∅
theorem TR:glP EI "len":=∅
theorem WE:List.Nodup (["_law_one"]:List Str):=∅
abbrev K0:Stmt:=top 21
theorem sc_row_name:Ao ["row"] ["row"] (AR K0):=⟨rfl,rfl,rfl,∅,rfl,∅,∅⟩
theorem U1:lcP K0 "row":=∅
abbrev E4:Stmt:=top 53
theorem sc_row_found:Ao ["rows","name","row"] ["rows","name"] (AR E4):=⟨rfl,rfl,rfl,∅,rfl,∅,∅⟩
theorem Sz:lcP E4 "rows":=∅
theorem Sy:lcP E4 "name":=∅
theorem KG:lcP E4 "row":=∅
theorem MI:glP E4 "row_name":=∅
abbrev CY:Stmt:=top 34
theorem sc_is_text_of:Ao ["thing","signs","low","high"] ["thing","signs","low","high"] (AR CY):=⟨rfl,rfl,rfl,∅,rfl,∅,∅⟩
theorem JV:lcP CY "thing":=∅
theorem RW:lcP CY "low":=∅
theorem RV:lcP CY "high":=∅
theorem Pe:glP CY "len":=∅
theorem Pd:glP CY "str":=∅
theorem Kn:glP CY "isinstance":=∅
theorem Pf:glP CY "all":=∅
theorem RS:List.Nodup (["sign","signs"]:List Str):=∅
abbrev JF:Stmt:=top 35
theorem sc_is_name:Ao ["thing"] ["thing"] (AR JF):=⟨rfl,rfl,rfl,∅,rfl,∅,∅⟩
theorem WK:lcP JF "thing":=∅
theorem MN:glP JF "NAME_SIGNS":=∅
theorem MM:glP JF "is_text_of":=∅
abbrev G9:Stmt:=top 29
theorem sc_is_truth:Ao ["thing"] ["thing"] (AR G9):=⟨rfl,rfl,rfl,∅,rfl,∅,∅⟩
theorem U6:lcP G9 "thing":=∅
theorem Qa:glP G9 "bool":=∅
theorem Ld:glP G9 "isinstance":=∅
abbrev Fo:Stmt:=top 15
theorem sc_is_whole:Ao ["thing"] ["thing"] (AR Fo):=⟨rfl,rfl,rfl,∅,rfl,∅,∅⟩
theorem OH:lcP Fo "thing":=∅
theorem QZ:glP Fo "bool":=∅
theorem Gs:glP Fo "isinstance":=∅
theorem Rn:glP Fo "int":=∅
abbrev E5:Stmt:=top 30
theorem sc_is_within:Ao ["thing","low","high"] ["thing","low","high"] (AR E5):=⟨rfl,rfl,rfl,∅,rfl,∅,∅⟩
theorem ND:lcP E5 "thing":=∅
theorem S5:lcP E5 "low":=∅
theorem S0:lcP E5 "high":=∅
theorem MK:glP E5 "is_whole":=∅
abbrev CD:Stmt:=top 16
theorem sc_common_divisor:Ao ["one","other","big","small","rest"] ["one","other"] (AR CD):=⟨rfl,rfl,rfl,∅,rfl,∅,∅⟩
theorem Na:lcP CD "one":=∅
theorem NZ:lcP CD "other":=∅
theorem Ef:lcP CD "big":=∅
theorem DV:lcP CD "small":=∅
theorem JX:lcP CD "rest":=∅
theorem IQ:glP CD "abs":=∅
abbrev DR:Stmt:=top 17
theorem sc_is_share:Ao ["thing","top","bottom"] ["thing"] (AR DR):=⟨rfl,rfl,rfl,∅,rfl,∅,∅⟩
theorem Iv:lcP DR "thing":=∅
theorem Iu:lcP DR "top":=∅
theorem GV:lcP DR "bottom":=∅
theorem Ro:glP DR "len":=∅
theorem Ph:glP DR "tuple":=∅
theorem Lf:glP DR "isinstance":=∅
theorem Ii:glP DR "is_whole":=∅
theorem Jl:glP DR "common_divisor":=∅
abbrev DU:Stmt:=top 32
theorem sc_is_bounded_share:Ao ["thing"] ["thing"] (AR DU):=⟨rfl,rfl,rfl,∅,rfl,∅,∅⟩
theorem IB:lcP DU "thing":=∅
theorem JB:glP DU "is_share":=∅
abbrev HE:Stmt:=top 33
theorem sc_is_paint:Ao ["shade","share"] ["shade","share"] (AR HE):=⟨rfl,rfl,rfl,∅,rfl,∅,∅⟩
theorem VB:lcP HE "shade":=∅
theorem VA:lcP HE "share":=∅
theorem E1:glP HE "is_bounded_share":=∅
abbrev Fq:Stmt:=top 38
theorem sc_is_plate:Ao ["data"] ["data"] (AR Fq):=⟨rfl,rfl,rfl,∅,rfl,∅,∅⟩
theorem GW:lcP Fq "data":=∅
theorem M5:glP Fq "is_paint":=∅
theorem Ru:glP Fq "len":=∅
theorem IM:glP Fq "is_within":=∅
abbrev HG:Stmt:=top 39
theorem sc_is_band:Ao ["data"] ["data"] (AR HG):=⟨rfl,rfl,rfl,∅,rfl,∅,∅⟩
theorem IC:lcP HG "data":=∅
theorem Nq:glP HG "is_paint":=∅
theorem TN:glP HG "len":=∅
theorem Ik:glP HG "is_within":=∅
abbrev Ke:Stmt:=top 13
theorem sc_is_sign:Ao ["sign"] ["sign"] (AR Ke):=⟨rfl,rfl,rfl,∅,rfl,∅,∅⟩
theorem WJ:lcP Ke "sign":=∅
theorem Qb:glP Ke "SIGNS":=∅
abbrev CW:Stmt:=top 36
theorem sc_is_word_text:Ao ["thing"] ["thing"] (AR CW):=⟨rfl,rfl,rfl,∅,rfl,∅,∅⟩
theorem HM:lcP CW "thing":=∅
theorem Nk:glP CW "len":=∅
theorem Nj:glP CW "str":=∅
theorem Jk:glP CW "isinstance":=∅
theorem Nl:glP CW "all":=∅
theorem PB:List.Nodup (["sign"]:List Str):=∅
abbrev Gz:Stmt:=top 40
theorem sc_is_word:Ao ["data"] ["data"] (AR Gz):=⟨rfl,rfl,rfl,∅,rfl,∅,∅⟩
theorem Js:lcP Gz "data":=∅
theorem Nm:glP Gz "is_paint":=∅
theorem LJ:glP Gz "is_word_text":=∅
theorem TJ:glP Gz "len":=∅
abbrev Bn:Stmt:=top 37
theorem sc_are_stencil_rows:Ao ["thing"] ["thing"] (AR Bn):=⟨rfl,rfl,rfl,∅,rfl,∅,∅⟩
theorem Dv:lcP Bn "thing":=∅
theorem LK:glP Bn "len":=∅
theorem KQ:glP Bn "tuple":=∅
theorem IS:glP Bn "isinstance":=∅
theorem Gf:glP Bn "all":=∅
theorem Lq:List.Nodup (["row"]:List Str):=∅
theorem Lp:List.Nodup (["row","thing"]:List Str):=∅
abbrev EY:Stmt:=top 41
theorem sc_is_stencil:Ao ["data"] ["data"] (AR EY):=⟨rfl,rfl,rfl,∅,rfl,∅,∅⟩
theorem GU:lcP EY "data":=∅
theorem Le:glP EY "is_paint":=∅
theorem IL:glP EY "are_stencil_rows":=∅
theorem Pg:glP EY "len":=∅
abbrev JS:Stmt:=top 42
theorem sc_is_empty:Ao ["data"] ["data"] (AR JS):=⟨rfl,rfl,rfl,∅,rfl,∅,∅⟩
theorem VC:lcP JS "data":=∅
theorem Rw:glP JS "len":=∅
abbrev HF:Stmt:=top 43
theorem sc_is_glass:Ao ["data"] ["data"] (AR HF):=⟨rfl,rfl,rfl,∅,rfl,∅,∅⟩
theorem OI:lcP HF "data":=∅
theorem JA:glP HF "is_bounded_share":=∅
theorem Rv:glP HF "len":=∅
abbrev JR:Stmt:=top 31
theorem sc_is_place:Ao ["thing"] ["thing"] (AR JR):=⟨rfl,rfl,rfl,∅,rfl,∅,∅⟩
theorem U9:lcP JR "thing":=∅
theorem ML:glP JR "is_within":=∅
abbrev E6:Stmt:=top 44
theorem sc_is_window:Ao ["data"] ["data"] (AR E6):=⟨rfl,rfl,rfl,∅,rfl,∅,∅⟩
theorem FX:lcP E6 "data":=∅
theorem IK:glP E6 "is_place":=∅
theorem QY:glP E6 "len":=∅
theorem Gr:glP E6 "is_within":=∅
abbrev G4:Stmt:=top 45
theorem sc_is_turn:Ao ["data"] ["data"] (AR G4):=⟨rfl,rfl,rfl,∅,rfl,∅,∅⟩
theorem Lw:lcP G4 "data":=∅
theorem Nn:glP G4 "is_truth":=∅
theorem M0:glP G4 "is_within":=∅
theorem TL:glP G4 "len":=∅
abbrev F9:Stmt:=top 46
theorem sc_are_tiles:Ao ["data"] ["data"] (AR F9):=⟨rfl,rfl,rfl,∅,rfl,∅,∅⟩
theorem FY:lcP F9 "data":=∅
theorem Di:glP F9 "is_within":=∅
theorem Qd:glP F9 "len":=∅
abbrev FG:Stmt:=top 48
theorem sc_is_data:Ao ["kind","data"] ["kind","data"] (AR FG):=⟨rfl,rfl,rfl,∅,rfl,∅,∅⟩
theorem Lx:lcP FG "kind":=∅
theorem P6:lcP FG "data":=∅
theorem LZ:glP FG "FORMS":=∅
theorem Qc:glP FG "tuple":=∅
theorem IP:glP FG "isinstance":=∅
theorem TM:glP FG "str":=∅
abbrev Im:Stmt:=top 22
theorem sc_row_holder:Ao ["row"] ["row"] (AR Im):=⟨rfl,rfl,rfl,∅,rfl,∅,∅⟩
theorem RU:lcP Im "row":=∅
abbrev Jo:Stmt:=top 25
theorem sc_row_shown:Ao ["row"] ["row"] (AR Jo):=⟨rfl,rfl,rfl,∅,rfl,∅,∅⟩
theorem Sx:lcP Jo "row":=∅
abbrev K1:Stmt:=top 26
theorem sc_row_kind:Ao ["row"] ["row"] (AR K1):=⟨rfl,rfl,rfl,∅,rfl,∅,∅⟩
theorem U2:lcP K1 "row":=∅
abbrev K2:Stmt:=top 27
theorem sc_row_data:Ao ["row"] ["row"] (AR K2):=⟨rfl,rfl,rfl,∅,rfl,∅,∅⟩
theorem U3:lcP K2 "row":=∅
abbrev Qw:Stmt:=top 23
theorem sc_row_x:Ao ["row"] ["row"] (AR Qw):=⟨rfl,rfl,rfl,∅,rfl,∅,∅⟩
theorem ZZ:lcP Qw "row":=∅
abbrev Qv:Stmt:=top 24
theorem sc_row_y:Ao ["row"] ["row"] (AR Qv):=⟨rfl,rfl,rfl,∅,rfl,∅,∅⟩
theorem ZY:lcP Qv "row":=∅
abbrev Cg:Stmt:=top 49
theorem sc_is_row:Ao ["thing"] ["thing"] (AR Cg):=⟨rfl,rfl,rfl,∅,rfl,∅,∅⟩
theorem D1:lcP Cg "thing":=∅
theorem VP:glP Cg "len":=∅
theorem Rp:glP Cg "tuple":=∅
theorem M3:glP Cg "isinstance":=∅
theorem OW:glP Cg "row_name":=∅
theorem Ko:glP Cg "is_name":=∅
theorem Ij:glP Cg "row_holder":=∅
theorem Rq:glP Cg "row_y":=∅
theorem Jy:glP Cg "is_place":=∅
theorem Rr:glP Cg "row_x":=∅
theorem OY:glP Cg "row_data":=∅
theorem OX:glP Cg "row_kind":=∅
theorem Pj:glP Cg "is_data":=∅
theorem Np:glP Cg "row_shown":=∅
theorem OZ:glP Cg "is_truth":=∅
abbrev C4:Stmt:=top 55
theorem sc_holders_of:Ao ["rows","name","holders","row"] ["rows","name"] (AR C4):=⟨rfl,rfl,rfl,∅,rfl,∅,∅⟩
theorem Ly:lcP C4 "rows":=∅
theorem RX:lcP C4 "name":=∅
theorem JW:lcP C4 "holders":=∅
theorem EJ:lcP C4 "row":=∅
theorem Ge:glP C4 "row_found":=∅
theorem EL:glP C4 "row_holder":=∅
abbrev F8:Stmt:=top 28
theorem sc_is_holder:Ao ["row"] ["row"] (AR F8):=⟨rfl,rfl,rfl,∅,rfl,∅,∅⟩
theorem S6:lcP F8 "row":=∅
theorem MO:glP F8 "row_kind":=∅
theorem M6:glP F8 "HOLDERS":=∅
abbrev JQ:Stmt:=top 54
theorem sc_row_of:Ao ["rows","name","row"] ["rows","name"] (AR JQ):=⟨rfl,rfl,rfl,∅,rfl,∅,∅⟩
theorem Xc:lcP JQ "rows":=∅
theorem Xb:lcP JQ "name":=∅
theorem NY:lcP JQ "row":=∅
theorem Nh:glP JQ "row_found":=∅
abbrev Fp:Stmt:=top 56
theorem sc_is_tiles:Ao ["rows","name"] ["rows","name"] (AR Fp):=⟨rfl,rfl,rfl,∅,rfl,∅,∅⟩
theorem U8:lcP Fp "rows":=∅
theorem U7:lcP Fp "name":=∅
theorem OV:glP Fp "row_of":=∅
theorem M1:glP Fp "row_kind":=∅
abbrev Br:Stmt:=top 57
theorem sc_vet_row:Ao ["ahead","row","holder","holders"] ["ahead","row"] (AR Br):=⟨rfl,rfl,rfl,∅,rfl,∅,∅⟩
theorem Lv:lcP Br "ahead":=∅
theorem E8:lcP Br "row":=∅
theorem Lu:lcP Br "holder":=∅
theorem Ls:lcP Br "holders":=∅
theorem PZ:glP Br "is_row":=∅
theorem Pa:glP Br "NoPart":=∅
theorem Nd:glP Br "row_name":=∅
theorem Ih:glP Br "row_found":=∅
theorem QU:glP Br "Twice":=∅
theorem Dy:glP Br "row_holder":=∅
theorem Mz:glP Br "is_holder":=∅
theorem Ng:glP Br "NoHolder":=∅
theorem MH:glP Br "holders_of":=∅
theorem TC:glP Br "len":=∅
theorem LI:glP Br "MOST_HOLDERS":=∅
theorem OT:glP Br "TooDeep":=∅
theorem TF:glP Br "any":=∅
theorem Nf:glP Br "row_kind":=∅
theorem Pb:glP Br "Nested":=∅
theorem WC:List.Nodup (["name","ahead"]:List Str):=∅
abbrev Lk:Stmt:=top 58
theorem sc_vet:Ao ["rows","place","row"] ["rows"] (AR Lk):=⟨rfl,rfl,rfl,∅,rfl,∅,∅⟩
theorem U0:lcP Lk "rows":=∅
theorem YY:lcP Lk "place":=∅
theorem YX:lcP Lk "row":=∅
theorem QV:glP Lk "enumerate":=∅
theorem TB:glP Lk "vet_row":=∅
theorem Zm:glP Lk "len":=∅
theorem QW:glP Lk "MOST_ROWS":=∅
theorem TH:glP Lk "TooMany":=∅
abbrev B3:Stmt:=top 86
abbrev Dt:Stmt:=top 92
abbrev GA:Stmt:=top 87
theorem sc_L_chain:Ao ["_law_rows","_law_name","_law_by_name","_law_row","_law_chain_here"] ["_law_rows","_law_name"] (AR GA):=⟨rfl,rfl,rfl,∅,rfl,∅,∅⟩
theorem WO:lcP GA "_law_rows":=∅
theorem Jv:lcP GA "_law_name":=∅
theorem Ju:lcP GA "_law_by_name":=∅
theorem ME:lcP GA "_law_row":=∅
theorem MD:lcP GA "_law_chain_here":=∅
abbrev EZ:Stmt:=top 79
theorem sc_L_within:Ao ["_law_thing","_law_least","_law_most"] ["_law_thing","_law_least","_law_most"] (AR EZ):=⟨rfl,rfl,rfl,∅,rfl,∅,∅⟩
theorem K9:lcP EZ "_law_thing":=∅
theorem VE:lcP EZ "_law_least":=∅
theorem VD:lcP EZ "_law_most":=∅
theorem Qe:glP EZ "bool":=∅
theorem Gu:glP EZ "isinstance":=∅
theorem Ry:glP EZ "int":=∅
abbrev Du:Stmt:=top 80
theorem sc_L_is_part:Ao ["_law_thing"] ["_law_thing"] (AR Du):=⟨rfl,rfl,rfl,∅,rfl,∅,∅⟩
theorem DE:lcP Du "_law_thing":=∅
theorem GL:glP Du "_law_within":=∅
theorem Qh:glP Du "len":=∅
theorem Oe:glP Du "tuple":=∅
theorem LL:glP Du "isinstance":=∅
theorem MS:glP Du "_law_low":=∅
abbrev Eb:Stmt:=top 82
theorem sc_L_is_paint:Ao ["_law_data","_law_many"] ["_law_data","_law_many"] (AR Eb):=⟨rfl,rfl,rfl,∅,rfl,∅,∅⟩
theorem JZ:lcP Eb "_law_data":=∅
theorem Ra:lcP Eb "_law_many":=∅
theorem FQ:glP Eb "_law_is_part":=∅
theorem Po:glP Eb "len":=∅
abbrev En:Stmt:=top 81
theorem sc_L_is_of:Ao ["_law_thing","_law_signs","_law_least","_law_most"] ["_law_thing","_law_signs","_law_least","_law_most"] (AR En):=⟨rfl,rfl,rfl,∅,rfl,∅,∅⟩
theorem MB:lcP En "_law_thing":=∅
theorem WN:lcP En "_law_least":=∅
theorem WM:lcP En "_law_most":=∅
theorem TV:glP En "len":=∅
theorem TU:glP En "str":=∅
theorem MT:glP En "isinstance":=∅
theorem WG:List.Nodup (["_law_sign","_law_signs"]:List Str):=∅
abbrev CO:Stmt:=top 83
theorem sc_L_are_rows:Ao ["_law_thing","_law_sizes"] ["_law_thing"] (AR CO):=⟨rfl,rfl,rfl,∅,rfl,∅,∅⟩
theorem GY:lcP CO "_law_thing":=∅
theorem Ja:lcP CO "_law_sizes":=∅
theorem Rh:(AR CO).names.lookup ("_law_sizes":Str)=some NameKind.local:=∅
theorem Hc:glP CO "len":=∅
theorem Nu:glP CO "tuple":=∅
theorem Ks:glP CO "isinstance":=∅
theorem Pq:glP CO "min":=∅
theorem Pr:glP CO "max":=∅
theorem RT:List.Nodup (["_law_row"]:List Str):=∅
abbrev Bv:Stmt:=top 84
theorem sc_L_is_data:Ao ["_law_kind","_law_data","_law_bounds","_law_least","_law_most","_law_far"] ["_law_kind","_law_data"] (AR Bv):=⟨rfl,rfl,rfl,∅,rfl,∅,∅⟩
theorem CN:lcP Bv "_law_kind":=∅
theorem Bf:lcP Bv "_law_data":=∅
theorem KL:lcP Bv "_law_bounds":=∅
theorem KJ:lcP Bv "_law_least":=∅
theorem KI:lcP Bv "_law_most":=∅
theorem Fd:lcP Bv "_law_far":=∅
theorem KR:glP Bv "_law_is_part":=∅
theorem Ie:glP Bv "len":=∅
theorem Pp:glP Bv "bool":=∅
theorem LM:glP Bv "isinstance":=∅
theorem CT:glP Bv "_law_within":=∅
theorem LN:glP Bv "_law_is_of":=∅
theorem Dk:glP Bv "_law_is_paint":=∅
theorem Jm:glP Bv "_law_are_rows":=∅
abbrev D0:Stmt:=top 85
theorem sc_L_is_row:Ao ["_law_row","_law_signs"] ["_law_row"] (AR D0):=⟨rfl,rfl,rfl,∅,rfl,∅,∅⟩
theorem Eh:lcP D0 "_law_row":=∅
theorem LA:lcP D0 "_law_signs":=∅
theorem Gw:glP D0 "_law_is_of":=∅
theorem Qg:glP D0 "bool":=∅
theorem Lh:glP D0 "isinstance":=∅
theorem Gh:glP D0 "_law_within":=∅
theorem Kr:glP D0 "_law_is_data":=∅
abbrev C5:Stmt:=top 91
theorem sc_L_due:Ao ["_law_rows","_law_met","_law_row","_law_holder","_law_chain_here","_law_tiles"] ["_law_rows"] (AR C5):=⟨rfl,rfl,rfl,∅,rfl,∅,∅⟩
theorem T6:lcP C5 "_law_rows":=∅
theorem JH:lcP C5 "_law_met":=∅
theorem HP:lcP C5 "_law_row":=∅
theorem Zb:lcP C5 "_law_holder":=∅
theorem Zh:(AR C5).names.lookup ("_law_holder":Str)=some NameKind.local:=∅
theorem T5:lcP C5 "_law_chain_here":=∅
theorem Za:lcP C5 "_law_tiles":=∅
theorem Zg:(AR C5).names.lookup ("_law_tiles":Str)=some NameKind.local:=∅
theorem M8:glP C5 "_law_is_row":=∅
theorem Nt:glP C5 "_law_chain":=∅
theorem QB:glP C5 "len":=∅
theorem ZX:List.Nodup (["_law_one"]:List Str):=∅
theorem ZW:List.Nodup (["_law_one","_law_row"]:List Str):=∅
theorem ZV:List.Nodup (["_law_one"]:List Str):=∅
theorem ZU:List.Nodup (["_law_one"]:List Str):=∅
theorem ZT:List.Nodup (["_law_name","_law_chain_here"]:List Str):=∅
abbrev ER:Stmt:=top 93
theorem sc_law:Ao ["_law_script","_law_first","_law_rows","_law_good","_law_k","_law_big_here","_law_row","_law_rest","_law_handed"] ["_law_script"] (AR ER):=⟨rfl,rfl,rfl,∅,rfl,∅,∅⟩
theorem YZ:lcP ER "_law_script":=∅
theorem Q2:lcP ER "_law_first":=∅
theorem Ir:lcP ER "_law_rows":=∅
theorem Q1:lcP ER "_law_good":=∅
theorem U5:lcP ER "_law_k":=∅
theorem Q0:lcP ER "_law_big_here":=∅
theorem K8:lcP ER "_law_row":=∅
theorem dD:lcP ER "_law_rest":=∅
theorem U4:lcP ER "_law_handed":=∅
theorem MJ:glP ER "_law_big":=∅
theorem Ni:glP ER "_law_chained":=∅
theorem Rl:glP ER "list":=∅
theorem Wd:glP ER "range":=∅
theorem OU:glP ER "_law_row_of":=∅
theorem Zn:glP ER "str":=∅
theorem Pc:glP ER "_law_other":=∅
theorem QX:glP ER "_law_told":=∅
theorem Rm:glP ER "_law_due":=∅
theorem c0:List.Nodup (["_law_one"]:List Str):=∅
theorem cz:List.Nodup (["_law_one"]:List Str):=∅
def Kb:List (Str×PyData):=[("0",(.str "tolrks")),("1",(.str "rs")),("2",(.str "tmork")),("3",(.str "tmors")),("4",(.str "mlrs")),("5",(.str "tmols")),("6",(.str "tmolks")),("7",(.str "trs")),("8",(.str "tmolrks")),("9",(.str "tmolrs")),("a",(.str "tmlrks")),("b",(.str "molks")),("c",(.str "tolk")),("d",(.str "morks")),("e",(.str "tmolk")),("f",(.str "tmlk")),("-",(.str "m")),("_",(.str ""))]
def EX:List L->Option (PyData×List L):=BW false 2 0 (AY (A4 (AN (dOp fLt (AD 1) (Cm 0))) (A0 (E3 0 (AD 1))) A2) (A0 (dC (.int 0))))
def Jx:List L->Option (PyData×List L):=BW false 2 6 (AY (Am (Be (AA (dC (.int 48271)) (AA (dC (.int 69621)) (AA (dC (.int 16807)) (AA (dC (.int 39373)) (AA (dC (.int 21401)) (AA (dC (.int 60493)) (AA (dC (.int 87721)) (AA (dC (.int 31337)) AI))))))))) (dN 2)) (AY (Am (Be (AA (dC (.int 99991)) (AA (dC (.int 99989)) (AA (dC (.int 99971)) (AA (dC (.int 99961)) (AA (dC (.int 99929)) (AA (dC (.int 99923)) (AA (dC (.int 99907)) (AA (dC (.int 99901)) AI))))))))) (dN 3)) (AY (Am (Bj 0 EX (AA (AD 1) AI)) (dN 4)) (AY (A4 (AN (dOp fGe (AD 4) (dOp bW (dC (.int 10)) (dC (.int 18))))) (A0 (AD 4)) A2) (AY (Am (dC (.int 0)) (dN 5)) (AY (Ia (dR1 (AA (dC (.int 60)) AI)) (dN 6) (AY (Am (dOp CK (dOp CK (dOp BQ (Bj 0 EX (AA (dOp CK (AD 1) (dOp BQ (AD 6) (dC (.int 9)))) AI)) (dOp bW (dC (.int 10)) (dC (.int 18)))) (dC (.int 1))) (dOp R4 (AD 6) (AD 6))) (dN 7)) (Am (dOp CK (dOp R4 (AD 5) (dC (.int 7919))) (dOp BQ (dOp BQ (dOp R4 (AD 7) (dOp Ai (AD 2) (dOp BQ (AD 6) (dC (.int 8))))) (dOp Ai (AD 3) (dOp BQ (AD 6) (dC (.int 8))))) (dC (.int 7919)))) (dN 5)))) (A0 (AD 5))))))))
def GJ:List L->Option (PyData×List L):=BW true 1 5 (AY (Mf 1 1) (AY (Am (dC (.str "")) (dN 2)) (AY (Ia (dR1 (AA (dOp BQ (AD 0) (dC (.int 9))) AI)) (dN 3) (AY (Am (dOp Ai (Be (AA (dC (.str "group")) (AA (dC (.str "tiles")) (AA (dC (.str "group")) (AA (dC (.str "glass")) (AA (dC (.str "group")) AI)))))) (dOp BQ (dOp Bw (AD 0) (dC (.int 9))) (dC (.int 5)))) (dN 4)) (AY (Am (Ot [(.str "group",(.tuple [])),(.str "tiles",(.tuple [(.int 1),(.int 2),(.int 3),(.int (-1))])),(.str "glass",(.tuple [(.tuple [(.int 1),(.int 2)])]))] (AD 4)) (dN 5)) (AY (C3 (dMt 1 Bs (AA (Be (AA (dOp Gx (dC (.str "q")) (BD Kt (AA (AD 3) AI))) (AA (AD 2) (AA (AD 3) (AA (dUn He (AD 3)) (AA (dC (.bool true)) (AA (AD 4) (AA (AD 5) AI)))))))) AI))) (AY (Am (dOp Gx (dC (.str "q")) (BD Kt (AA (AD 3) AI))) (dN 2)) (Am (dOp Bw (AD 0) (dC (.int 5))) (dN 0))))))) (Kv 1 1))))
def IF:List L->Option (PyData×List L):=BW false 1 3 (AY (Am (dC (.str "")) (dN 1)) (AY (Am (dOp CK (dC (.int 1)) (dOp BQ (AD 0) (dC (.int 8)))) (dN 2)) (AY (Am (dOp Bw (AD 0) (dC (.int 8))) (dN 0)) (AY (Ia (dR1 (AA (AD 2) AI)) (dN 3) (AY (Am (dOp Gx (AD 1) (dOp TZ (dC (.str "abcdefghijklmnopqrstuvwxyz0123456789")) (dOp BQ (AD 0) (dC (.int 36))))) (dN 1)) (Am (dOp Bw (AD 0) (dC (.int 36))) (dN 0)))) (A0 (Be (AA (AD 1) (AA (AD 0) AI))))))))
def Ce:List L->Option (PyData×List L):=BW false 1 0 (AY (A4 (AN (dOp fEq (dOp BQ (AD 0) (dC (.int 6))) (dC (.int 0)))) (A0 (Be (AA (dOp EM (dOp BQ (dOp Bw (AD 0) (dC (.int 6))) (dC (.int 121))) (dC (.int 60))) (AA (dOp Bw (AD 0) (dC (.int 726))) AI)))) A2) (A0 (Be (AA (dOp EM (dOp BQ (dOp Bw (AD 0) (dC (.int 6))) (dC (.int 12))) (dC (.int 3))) (AA (dOp Bw (AD 0) (dC (.int 72))) AI)))))
def LF:List L->Option (PyData×List L):=BW true 2 3 (AY (Mf 2 2) (AY (Yv 2 3) (AY (Ia (dIL (AD 0)) (dN 4) (QJ 3 (AD 4) (dOp Ai (AD 4) (dC (.int 0))))) (AY (Md (fun _=>100) (Ci (AN (dOp fNe (AD 1) (dC (.str "")))) (AN (Qs false (AD 1) 3))) (AY (C3 (dMt 2 Bs (AA (AD 1) AI))) (Am (dOp Ai (Qr 3 (AD 1)) (dC (.int 1))) (dN 1)))) (Kv 2 2)))))
def Jw:List L->Option (PyData×List L):=BW false 2 2 (AY (EO 2 3 (AA (BD R8 (AA (AD 0) AI)) (AA (AD 1) AI))) (AY (Md (fF 3) (AN (dOp fGt (AD 3) (dC (.int 0)))) (EO 2 3 (AA (AD 3) (AA (dOp BQ (AD 2) (AD 3)) AI)))) (A0 (Be (AA (dOp Bw (AD 0) (AD 2)) (AA (dOp Bw (AD 1) (AD 2)) AI))))))
def FL:List L->Option (PyData×List L):=BW false 1 1 (AY (Am (dOp Ai (Be (AA (dC (.int 1)) (AA (dC (.int 1)) (AA (dC (.int 2)) (AA (dC (.int 3)) AI))))) (dOp BQ (AD 0) (dC (.int 4)))) (dN 1)) (AY (A4 (AN (dOp fEq (dOp BQ (dOp Bw (AD 0) (dC (.int 4))) (dC (.int 4))) (dC (.int 0)))) (Am (dOp CK (dC (.int 1)) (dOp BQ (dOp Bw (AD 0) (dC (.int 16))) (dC (.int 12)))) (dN 1)) A2) (AY (A4 (AN (dOp fEq (dOp BQ (dOp Bw (AD 0) (dC (.int 4))) (dC (.int 16))) (dC (.int 1)))) (Am (dOp CK (dC (.int 1)) (dOp BQ (dOp Bw (AD 0) (dC (.int 16))) (dC (.int 1000)))) (dN 1)) A2) (AY (Am (dOp Bw (AD 0) (dC (.int 16000))) (dN 0)) (A0 (Be (AA (AU Jw (AA (dOp BQ (AD 0) (dOp CK (AD 1) (dC (.int 1)))) (AA (AD 1) AI))) (AA (dOp Bw (AD 0) (dOp CK (AD 1) (dC (.int 1)))) AI))))))))
def Ej:List L->Option (PyData×List L):=BW false 1 2 (AY (Am (AU FL (AA (AD 0) AI)) (dGT (BE (dN 1) (BE (dN 0) Cy)))) (AY (A4 (AN (dOp fEq (dOp BQ (AD 0) (dC (.int 3))) (dC (.int 0)))) (A0 (Be (AA (AD 1) (AA (Be (AA (dC (.int 1)) (AA (dC (.int 1)) AI))) (AA (dOp Bw (AD 0) (dC (.int 3))) AI))))) A2) (AY (Am (AU FL (AA (dOp Bw (AD 0) (dC (.int 3))) AI)) (dGT (BE (dN 2) (BE (dN 0) Cy)))) (A0 (Be (AA (AD 1) (AA (AD 2) (AA (AD 0) AI))))))))
def FA:List L->Option (PyData×List L):=BW false 1 6 (AY (Am (dOp CK (dC (.int 1)) (dOp BQ (AD 0) (dC (.int 8)))) (dN 1)) (AY (Am (dOp CK (dC (.int 1)) (dOp BQ (dOp Bw (AD 0) (dC (.int 8))) (dC (.int 8)))) (dN 2)) (AY (Am (dOp Bw (AD 0) (dC (.int 64))) (dN 0)) (AY (Mf 1 3) (AY (Ia (dR1 (AA (AD 2) AI)) (dN 4) (AY (Am (dC (.str "")) (dN 5)) (AY (Ia (dR1 (AA (AD 1) AI)) (dN 6) (AY (Am (dOp Gx (AD 5) (dOp TZ (dC (.str "#.")) (dOp BQ (AD 0) (dC (.int 2))))) (dN 5)) (Am (dOp Bw (AD 0) (dC (.int 2))) (dN 0)))) (C3 (dMt 3 Bs (AA (AD 5) AI)))))) (A0 (Gm 3 (Be (AA (BD VT (AA (AD 3) AI)) (AA (AD 0) AI))))))))))
def Dw:List L->Option (PyData×List L):=BW false 2 0 (AY (A4 (AN (dOp fEq (dOp BQ (AD 0) (dC (.int 8))) (dC (.int 0)))) (A0 (Be (AA (dOp CK (dC (.int 1)) (dOp BQ (dOp Bw (AD 0) (dC (.int 8))) (AD 1))) (AA (dOp Bw (dOp Bw (AD 0) (dC (.int 8))) (AD 1)) AI)))) A2) (A0 (Be (AA (dOp CK (dC (.int 1)) (dOp BQ (dOp Bw (AD 0) (dC (.int 8))) (dC (.int 5)))) (AA (dOp Bw (AD 0) (dC (.int 40))) AI)))))
def ID:List L->Option (PyData×List L):=BW false 1 3 (AY (Am (dC (.str "")) (dN 1)) (AY (Am (dOp BQ (AD 0) (dC (.int 7))) (dN 2)) (AY (Am (dOp Bw (AD 0) (dC (.int 7))) (dN 0)) (AY (Ia (dR1 (AA (AD 2) AI)) (dN 3) (AY (Am (dOp Gx (AD 1) (dOp TZ (dC (.str "0123456789abcdef-_")) (dOp BQ (AD 0) (dC (.int 18))))) (dN 1)) (Am (dOp Bw (AD 0) (dC (.int 18))) (dN 0)))) (A0 (Be (AA (AD 1) (AA (AD 0) AI))))))))
def Bq:List L->Option (PyData×List L):=BW false 2 9 (AY (A4 (AN (dOp (fIn false) (AD 0) (Be (AA (dC (.str "group")) (AA (dC (.str "mask")) AI))))) (A0 (Be (AA (Be AI) (AA (AD 1) AI)))) A2) (AY (A4 (AN (dOp fEq (AD 0) (dC (.str "turn")))) (A0 (Be (AA (Be (AA (dOp BQ (AD 1) (dC (.int 4))) (AA (dOp fEq (dOp BQ (dOp Bw (AD 1) (dC (.int 4))) (dC (.int 2))) (dC (.int 1))) AI))) (AA (dOp Bw (AD 1) (dC (.int 8))) AI)))) A2) (AY (A4 (AN (dOp fEq (AD 0) (dC (.str "tiles")))) (AY (Am (Be (AA (dOp CK (dC (.int 1)) (dOp BQ (AD 1) (dC (.int 3)))) (AA (dOp CK (dC (.int 1)) (dOp BQ (dOp Bw (AD 1) (dC (.int 3))) (dC (.int 3)))) (AA (dOp EM (dOp BQ (dOp Bw (AD 1) (dC (.int 9))) (dC (.int 41))) (dC (.int 20))) (AA (dOp EM (dOp BQ (dOp Bw (AD 1) (dC (.int 369))) (dC (.int 41))) (dC (.int 20))) AI))))) (dN 2)) (AY (A4 (AN (dOp fGt (dOp BQ (dOp Bw (AD 1) (dC (.int 15129))) (dC (.int 4))) (dC (.int 0)))) (Am (dOp NU (Li (AD 2) Kw (dPt (dC (.int 2)))) (Be (AA (dOp BQ (dOp Ai (AD 2) (dC (.int 2))) (dC (.int 7))) (AA (dOp BQ (dOp Ai (AD 2) (dC (.int 3))) (dC (.int 7))) AI)))) (dN 2)) A2) (A0 (Be (AA (AD 2) (AA (dOp Bw (AD 1) (dC (.int 60516))) AI)))))) A2) (AY (A4 (AN (dOp fEq (AD 0) (dC (.str "window")))) (AY (Am (AU Dw (AA (AD 1) (AA (dC (.int 16)) AI))) (dGT (BE (dN 3) (BE (dN 1) Cy)))) (AY (Am (AU Dw (AA (AD 1) (AA (dC (.int 16)) AI))) (dGT (BE (dN 4) (BE (dN 1) Cy)))) (AY (Am (AU Ce (AA (AD 1) AI)) (dGT (BE (dN 5) (BE (dN 1) Cy)))) (AY (Am (AU Ce (AA (AD 1) AI)) (dGT (BE (dN 6) (BE (dN 1) Cy)))) (A0 (Be (AA (Be (AA (AD 3) (AA (AD 4) (AA (AD 5) (AA (AD 6) AI))))) (AA (AD 1) AI)))))))) A2) (AY (Am (AU Ej (AA (AD 1) AI)) (dGT (BE (dN 7) (BE (dN 8) (BE (dN 1) Cy))))) (AY (A4 (AN (dOp fEq (AD 0) (dC (.str "glass")))) (A0 (Be (AA (Be (AA (AD 8) AI)) (AA (AD 1) AI)))) A2) (AY (A4 (AN (dOp fEq (AD 0) (dC (.str "plate")))) (AY (Am (AU Dw (AA (AD 1) (AA (dC (.int 12)) AI))) (dGT (BE (dN 3) (BE (dN 1) Cy)))) (AY (Am (AU Dw (AA (AD 1) (AA (dC (.int 12)) AI))) (dGT (BE (dN 4) (BE (dN 1) Cy)))) (A0 (Be (AA (Be (AA (AD 3) (AA (AD 4) (AA (AD 7) (AA (AD 8) AI))))) (AA (AD 1) AI)))))) A2) (AY (A4 (AN (dOp fEq (AD 0) (dC (.str "band")))) (A0 (Be (AA (Be (AA (dOp EM (dOp BQ (AD 1) (dC (.int 25))) (dC (.int 12))) (AA (dOp EM (dOp BQ (dOp Bw (AD 1) (dC (.int 25))) (dC (.int 25))) (dC (.int 12))) (AA (AD 7) (AA (AD 8) AI))))) (AA (dOp Bw (AD 1) (dC (.int 625))) AI)))) A2) (AY (A4 (AN (dOp fEq (AD 0) (dC (.str "word")))) (AY (Am (AU ID (AA (AD 1) AI)) (dGT (BE (dN 9) (BE (dN 1) Cy)))) (A0 (Be (AA (Be (AA (AD 9) (AA (AD 7) (AA (AD 8) AI)))) (AA (AD 1) AI))))) A2) (AY (Am (AU FA (AA (AD 1) AI)) (dGT (BE (dN 10) (BE (dN 1) Cy)))) (A0 (Be (AA (Be (AA (AD 10) (AA (AD 7) (AA (AD 8) AI)))) (AA (AD 1) AI))))))))))))))
def Dm:List L->Option (PyData×List L):=BW false 0 1 (AY (Am (Be (AA (dC (.str "plate")) (AA (dC (.str "band")) (AA (dC (.str "word")) (AA (dC (.str "stencil")) (AA (dC (.str "plate")) (AA (dC (.str "stencil")) AI))))))) (dN 0)) (A0 (dOp NU (AD 0) (Be (AA (dC (.str "group")) (AA (dC (.str "glass")) (AA (dC (.str "window")) (AA (dC (.str "turn")) (AA (dC (.str "tiles")) (AA (dC (.str "mask")) AI))))))))))
def HW:List L->Option (PyData×List L):=BW false 2 10 (AY (Am (AU IF (AA (AD 1) AI)) (dGT (BE (dN 2) (BE (dN 1) Cy)))) (AY (Il 2 3 (IZ (AA (dC (.str "")) AI))) (AY (Ia (dIL (AD 0)) (dN 4) (A4 (Ci (AN (dOp (fIn false) (dOp Ai (AD 4) (dC (.int 5))) (Li (AU Dm AI) (dPt (dC (.int 6))) Kw))) (AN (dOp fLt (BD B9 (AA (AU LF (AA (AD 0) (AA (dOp Ai (AD 4) (dC (.int 0))) AI))) AI)) (dC (.int 7))))) (C3 (dMt 3 Bs (AA (dOp Ai (AD 4) (dC (.int 0))) AI))) A2)) (AY (Am (Gm 3 (dOp MU (AD 3) (dOp BQ (AD 1) (BD B9 (AA (AD 3) AI))))) (dN 5)) (AY (A4 (Fh 3 (AN (dOp fEq (dOp BQ (dOp Bw (AD 1) (BD B9 (AA (AD 3) AI))) (dC (.int 2))) (dC (.int 0))))) (Am (Gm 3 (dOp MU (AD 3) (dUn He (dC (.int 1))))) (dN 5)) A2) (AY (Am (Gm 3 (dOp Bw (dOp Bw (AD 1) (BD B9 (AA (AD 3) AI))) (dC (.int 2)))) (dN 1)) (AY (Am (AU Ce (AA (AD 1) AI)) (dGT (BE (dN 6) (BE (dN 1) Cy)))) (AY (Am (AU Ce (AA (AD 1) AI)) (dGT (BE (dN 7) (BE (dN 1) Cy)))) (AY (Am (dOp Ai (AU Dm AI) (dOp BQ (AD 1) (dC (.int 12)))) (dN 8)) (AY (Am (AU LF (AA (AD 0) (AA (AD 5) AI))) (dN 9)) (AY (A4 (Ci (AN (dOp fEq (AD 8) (dC (.str "tiles")))) (AN (dOp fNe (dLC 1 [9] (dIL (AD 0)) (dN 0) (Ci (AN (dOp (fIn false) (dOp Ai (AD 0) (dC (.int 0))) (AD 1))) (AN (dOp fEq (dOp Ai (AD 0) (dC (.int 5))) (dC (.str "tiles"))))) (AD 0)) (IZ AI)))) (Am (dC (.str "group")) (dN 8)) A2) (AY (Am (dOp fGt (dOp BQ (dOp Bw (AD 1) (dC (.int 12))) (dC (.int 8))) (dC (.int 0))) (dN 10)) (AY (Am (AU Bq (AA (AD 8) (AA (dOp Bw (AD 1) (dC (.int 96))) AI))) (dGT (BE (dN 11) (BE (dN 1) Cy)))) (A0 (Be (AA (Be (AA (AD 2) (AA (AD 5) (AA (AD 6) (AA (AD 7) (AA (AD 10) (AA (AD 8) (AA (AD 11) AI)))))))) (AA (AD 1) AI)))))))))))))))))
def HX:List L->Option (PyData×List L):=BW false 3 3 (AY (Am (dOp BQ (AD 2) (dC (.int 18))) (dN 3)) (AY (Am (dOp Wg (dLC 1 [] (dIL (AD 0)) (dN 0) Ek (dOp Ai (AD 0) (dC (.int 0)))) (IZ (AA (dC (.str "strange")) AI))) (dN 4)) (AY (Am (dOp MU (AD 4) (dOp BQ (dOp Bw (AD 2) (dC (.int 18))) (BD B9 (AA (AD 4) AI)))) (dN 5)) (AY (A4 (AN (dOp fEq (AD 3) (dC (.int 0)))) (A0 (dOp NU (Be (AA (AD 5) AI)) (Li (AD 1) (dPt (dC (.int 1))) Kw))) A2) (AY (A4 (AN (dOp fEq (AD 3) (dC (.int 1)))) (A0 (dOp NU (Be (AA (dOp Ai (AD 1) (dC (.int 0))) (AA (AD 5) AI))) (Li (AD 1) (dPt (dC (.int 2))) Kw))) A2) (AY (A4 (AN (dOp fEq (AD 3) (dC (.int 2)))) (A0 (dOp NU (dOp NU (Li (AD 1) Kw (dPt (dC (.int 2)))) (Be (AA (dOp CK (dC (.int 61)) (dOp BQ (dOp Bw (AD 2) (dC (.int 18))) (dC (.int 9)))) AI))) (Li (AD 1) (dPt (dC (.int 3))) Kw))) A2) (A0 (AD 1))))))))
def Cb:List L->Option (PyData×List L):=BW false 1 0 (A0 (dOp Ai (AD 0) (dC (.int 0))))
def B4:List L->Option (PyData×List L):=BW false 2 1 (AY (Ia (dIL (AD 0)) (dN 2) (A4 (AN (dOp fEq (AU Cb (AA (AD 2) AI)) (AD 1))) (A0 (AD 2)) A2)) (A0 (dC .none)))
def Co:List L->Option (PyData×List L):=BW false 4 0 (AY (A4 (De (Bm (AN (Gk "str" (AD 0)))) (Bm (AN (C8 fLe fLe (AD 2) (BD B9 (AA (AD 0) AI)) (AD 3))))) (A0 (dC (.bool false))) A2) (A0 (BD QC (AA (dLC 1 [1] (dIS (AD 0)) (dN 0) Ek (dOp Xl (AD 0) (AD 1))) AI))))
def Es:List L->Option (PyData×List L):=BW false 1 0 (A0 (AU Co (AA (AD 0) (AA (dC (.str "abcdefghijklmnopqrstuvwxyz0123456789")) (AA (dC (.int 1)) (AA (dC (.int 8)) AI))))))
def Jb:List L->Option (PyData×List L):=BW false 1 0 (A0 (Gk "bool" (AD 0)))
def Ft:List L->Option (PyData×List L):=BW false 1 0 (A0 (C9 (Gk "int" (AD 0)) (Qq (Gk "bool" (AD 0)))))
def BH:List L->Option (PyData×List L):=BW false 3 0 (A0 (C9 (AU Ft (AA (AD 0) AI)) (C8 fLe fLe (AD 1) (AD 0) (AD 2))))
def DN:List L->Option (PyData×List L):=BW false 2 3 (AY (Am (BD R8 (AA (AD 0) AI)) (dN 2)) (AY (Am (BD R8 (AA (AD 1) AI)) (dN 3)) (AY (Md (fF 3) (AN (dOp fNe (AD 3) (dC (.int 0)))) (AY (Am (dOp BQ (AD 2) (AD 3)) (dN 4)) (AY (Am (AD 3) (dN 2)) (Am (AD 4) (dN 3))))) (A0 (AD 2)))))
def Jc:List L->Option (PyData×List L):=BW false 1 2 (AY (A4 (De (Bm (AN (Gk "tuple" (AD 0)))) (AN (dOp fNe (BD B9 (AA (AD 0) AI)) (dC (.int 2))))) (A0 (dC (.bool false))) A2) (AY (Am (dOp Ai (AD 0) (dC (.int 0))) (dN 1)) (AY (Am (dOp Ai (AD 0) (dC (.int 1))) (dN 2)) (AY (A4 (De (Bm (AN (AU Ft (AA (AD 1) AI)))) (Bm (AN (AU Ft (AA (AD 2) AI))))) (A0 (dC (.bool false))) A2) (A0 (C9 (dOp fGe (AD 2) (dC (.int 1))) (C9 (C8 fLe fLe (dC (.int 0)) (AD 1) (AD 2)) (dOp fEq (AU DN (AA (AD 1) (AA (AD 2) AI))) (dC (.int 1))))))))))
def CC:List L->Option (PyData×List L):=BW false 1 0 (A0 (C9 (AU Jc (AA (AD 0) AI)) (dOp fLe (dOp Ai (AD 0) (dC (.int 1))) (dC (.int 1000)))))
def Cj:List L->Option (PyData×List L):=BW false 2 0 (A0 (C9 (AU CC (AA (AD 0) AI)) (AU CC (AA (AD 1) AI))))
def HS:List L->Option (PyData×List L):=BW false 1 0 (AY (A4 (De (AN (dOp fNe (BD B9 (AA (AD 0) AI)) (dC (.int 4)))) (Bm (AN (AU Cj (AA (dOp Ai (AD 0) (dC (.int 2))) (AA (dOp Ai (AD 0) (dC (.int 3))) AI)))))) (A0 (dC (.bool false))) A2) (A0 (C9 (AU BH (AA (dOp Ai (AD 0) (dC (.int 0))) (AA (dC (.int 1)) (AA (dC (.int 12)) AI)))) (AU BH (AA (dOp Ai (AD 0) (dC (.int 1))) (AA (dC (.int 1)) (AA (dC (.int 12)) AI)))))))
def JL:List L->Option (PyData×List L):=BW false 1 0 (AY (A4 (De (AN (dOp fNe (BD B9 (AA (AD 0) AI)) (dC (.int 4)))) (Bm (AN (AU Cj (AA (dOp Ai (AD 0) (dC (.int 2))) (AA (dOp Ai (AD 0) (dC (.int 3))) AI)))))) (A0 (dC (.bool false))) A2) (A0 (C9 (AU BH (AA (dOp Ai (AD 0) (dC (.int 0))) (AA (dUn He (dC (.int 12))) (AA (dC (.int 12)) AI)))) (AU BH (AA (dOp Ai (AD 0) (dC (.int 1))) (AA (dUn He (dC (.int 12))) (AA (dC (.int 12)) AI)))))))
def HR:List L->Option (PyData×List L):=BW false 1 0 (A0 (dg Kb (AD 0)))
def E9:List L->Option (PyData×List L):=BW false 1 0 (AY (A4 (De (Bm (AN (Gk "str" (AD 0)))) (AN (dOp fGt (BD B9 (AA (AD 0) AI)) (dC (.int 6))))) (A0 (dC (.bool false))) A2) (A0 (BD QC (AA (dLC 1 [] (dIS (AD 0)) (dN 0) Ek (AU HR (AA (AD 0) AI))) AI))))
def JJ:List L->Option (PyData×List L):=BW false 1 0 (A0 (C9 (dOp fEq (BD B9 (AA (AD 0) AI)) (dC (.int 3))) (C9 (AU E9 (AA (dOp Ai (AD 0) (dC (.int 0))) AI)) (AU Cj (AA (dOp Ai (AD 0) (dC (.int 1))) (AA (dOp Ai (AD 0) (dC (.int 2))) AI))))))
def DZ:List L->Option (PyData×List L):=BW false 1 0 (AY (A4 (De (Bm (AN (Gk "tuple" (AD 0)))) (Bm (AN (C8 fLe fLe (dC (.int 1)) (BD B9 (AA (AD 0) AI)) (dC (.int 8)))))) (A0 (dC (.bool false))) A2) (AY (A4 (Bm (AN (BD QC (AA (dLC 1 [] (dIT (AD 0)) (dN 0) Ek (AU Co (AA (AD 0) (AA (dC (.str "#.")) (AA (dC (.int 1)) (AA (dC (.int 8)) AI)))))) AI)))) (A0 (dC (.bool false))) A2) (A0 (BD QC (AA (dLC 1 [0] (dIT (AD 0)) (dN 0) Ek (dOp fEq (BD B9 (AA (AD 0) AI)) (BD B9 (AA (dOp Ai (AD 1) (dC (.int 0))) AI)))) AI)))))
def FK:List L->Option (PyData×List L):=BW false 1 0 (A0 (C9 (dOp fEq (BD B9 (AA (AD 0) AI)) (dC (.int 3))) (C9 (AU DZ (AA (dOp Ai (AD 0) (dC (.int 0))) AI)) (AU Cj (AA (dOp Ai (AD 0) (dC (.int 1))) (AA (dOp Ai (AD 0) (dC (.int 2))) AI))))))
def HV:List L->Option (PyData×List L):=BW false 1 0 (A0 (dOp fEq (BD B9 (AA (AD 0) AI)) (dC (.int 0))))
def HU:List L->Option (PyData×List L):=BW false 1 0 (A0 (C9 (dOp fEq (BD B9 (AA (AD 0) AI)) (dC (.int 1))) (AU CC (AA (dOp Ai (AD 0) (dC (.int 0))) AI))))
def CJ:List L->Option (PyData×List L):=BW false 1 0 (A0 (AU BH (AA (AD 0) (AA (dUn He (dC (.int 60))) (AA (dC (.int 60)) AI)))))
def GH:List L->Option (PyData×List L):=BW false 1 0 (AY (A4 (De (AN (dOp fNe (BD B9 (AA (AD 0) AI)) (dC (.int 4)))) (De (Bm (AN (AU CJ (AA (dOp Ai (AD 0) (dC (.int 2))) AI)))) (Bm (AN (AU CJ (AA (dOp Ai (AD 0) (dC (.int 3))) AI)))))) (A0 (dC (.bool false))) A2) (A0 (C9 (AU BH (AA (dOp Ai (AD 0) (dC (.int 0))) (AA (dC (.int 1)) (AA (dC (.int 16)) AI)))) (AU BH (AA (dOp Ai (AD 0) (dC (.int 1))) (AA (dC (.int 1)) (AA (dC (.int 16)) AI)))))))
def JK:List L->Option (PyData×List L):=BW false 1 0 (A0 (C9 (dOp fEq (BD B9 (AA (AD 0) AI)) (dC (.int 2))) (C9 (AU BH (AA (dOp Ai (AD 0) (dC (.int 0))) (AA (dC (.int 0)) (AA (dC (.int 3)) AI)))) (AU Jb (AA (dOp Ai (AD 0) (dC (.int 1))) AI)))))
def GI:List L->Option (PyData×List L):=BW false 1 0 (AY (A4 (De (AN (dOp fNe (BD B9 (AA (AD 0) AI)) (dC (.int 4)))) (De (Bm (AN (AU BH (AA (dOp Ai (AD 0) (dC (.int 0))) (AA (dC (.int 1)) (AA (dC (.int 3)) AI)))))) (Bm (AN (AU BH (AA (dOp Ai (AD 0) (dC (.int 1))) (AA (dC (.int 1)) (AA (dC (.int 3)) AI)))))))) (A0 (dC (.bool false))) A2) (A0 (C9 (AU BH (AA (dOp Ai (AD 0) (dC (.int 2))) (AA (dUn He (dC (.int 20))) (AA (dC (.int 20)) AI)))) (AU BH (AA (dOp Ai (AD 0) (dC (.int 3))) (AA (dUn He (dC (.int 20))) (AA (dC (.int 20)) AI)))))))
def F6:List (Str×Mir):=[("plate",HS),("band",JL),("word",JJ),("stencil",FK),("group",HV),("glass",HU),("window",GH),("turn",JK),("tiles",GI),("mask",HV)]
def Kl:List L->Option (PyData×List L):=BW false 2 0 (A0 (C9 (Gk "str" (AD 0)) (C9 (b8 F6 (AD 0)) (C9 (Gk "tuple" (AD 1)) (SR F6 (AD 0) (AA (AD 1) AI))))))
def Ay:List L->Option (PyData×List L):=BW false 1 0 (A0 (dOp Ai (AD 0) (dC (.int 1))))
def MF:List L->Option (PyData×List L):=BW false 1 0 (A0 (dOp Ai (AD 0) (dC (.int 4))))
def DY:List L->Option (PyData×List L):=BW false 1 0 (A0 (dOp Ai (AD 0) (dC (.int 5))))
def Nb:List L->Option (PyData×List L):=BW false 1 0 (A0 (dOp Ai (AD 0) (dC (.int 6))))
def ON:List L->Option (PyData×List L):=BW false 1 0 (A0 (dOp Ai (AD 0) (dC (.int 2))))
def Q3:List L->Option (PyData×List L):=BW false 1 0 (A0 (dOp Ai (AD 0) (dC (.int 3))))
def GZ:List L->Option (PyData×List L):=BW false 1 0 (AY (A4 (De (Bm (AN (Gk "tuple" (AD 0)))) (AN (dOp fNe (BD B9 (AA (AD 0) AI)) (dC (.int 7))))) (A0 (dC (.bool false))) A2) (AY (A4 (Bm (AN (AU Es (AA (AU Cb (AA (AD 0) AI)) AI)))) (A0 (dC (.bool false))) A2) (AY (A4 (Ci (AN (dOp fNe (AU Ay (AA (AD 0) AI)) (dC (.str "")))) (Bm (AN (AU Es (AA (AU Ay (AA (AD 0) AI)) AI))))) (A0 (dC (.bool false))) A2) (AY (A4 (De (Bm (AN (AU CJ (AA (AU ON (AA (AD 0) AI)) AI)))) (Bm (AN (AU CJ (AA (AU Q3 (AA (AD 0) AI)) AI))))) (A0 (dC (.bool false))) A2) (A0 (C9 (AU Jb (AA (AU MF (AA (AD 0) AI)) AI)) (AU Kl (AA (AU DY (AA (AD 0) AI)) (AA (AU Nb (AA (AD 0) AI)) AI)))))))))
def Ei:List L->Option (PyData×List L):=BW true 2 2 (AY (Mf 2 2) (AY (Am (AU B4 (AA (AD 0) (AA (AD 1) AI))) (dN 3)) (AY (Md (fun _=>100) (Ci (AN (dOp Jz (AD 3) (dC .none))) (AN (dOp fNe (AU Ay (AA (AD 3) AI)) (dC (.str ""))))) (AY (C3 (dMt 2 Bs (AA (AU Ay (AA (AD 3) AI)) AI))) (Am (AU B4 (AA (AD 0) (AA (AU Ay (AA (AD 3) AI)) AI))) (dN 3)))) (Kv 2 2))))
def EV:List L->Option (PyData×List L):=BW false 1 0 (A0 (dOp (fIn false) (AU DY (AA (AD 0) AI)) (dC (.tuple [(.str "group"),(.str "glass"),(.str "window"),(.str "turn"),(.str "tiles"),(.str "mask")]))))
def MG:List L->Option (PyData×List L):=BW false 2 1 (AY (Am (AU B4 (AA (AD 0) (AA (AD 1) AI))) (dN 2)) (AY (A4 (AN (dOp Oh (AD 2) (dC .none))) LV A2) (A0 (AD 2))))
def Fu:List L->Option (PyData×List L):=BW false 2 0 (A0 (dOp fEq (AU DY (AA (AU MG (AA (AD 0) (AA (AD 1) AI))) AI)) (dC (.str "tiles"))))
def GG:List PyData->Option (PyData ⊕ Nat):=QK 2 2 (Fm (xIf (Bm (AN (AU GZ (AA (AD 1) AI)))) (GO 0) (xOf A2)) (Fm (xIf (AN (dOp Jz (AU B4 (AA (AD 0) (AA (AU Cb (AA (AD 1) AI)) AI))) (dC .none))) (GO 1) (xOf A2)) (Fm (xOf (A4 (AN (dOp fEq (AU Ay (AA (AD 1) AI)) (dC (.str "")))) Me A2)) (Fm (xOf (Am (AU B4 (AA (AD 0) (AA (AU Ay (AA (AD 1) AI)) AI))) (dN 2))) (Fm (xIf (De (AN (dOp Oh (AD 2) (dC .none))) (Bm (AN (AU EV (AA (AD 2) AI))))) (GO 2) (xOf A2)) (Fm (xOf (Am (dOp Wg (IZ (AA (AU Ay (AA (AD 1) AI)) AI)) (AU Ei (AA (AD 0) (AA (AU Ay (AA (AD 1) AI)) AI)))) (dN 3))) (Fm (xIf (AN (dOp fGt (BD B9 (AA (AD 3) AI)) (dC (.int 6)))) (GO 3) (xOf A2)) (xIf (Ci (AN (dOp fEq (AU DY (AA (AD 1) AI)) (dC (.str "tiles")))) (AN (BD Wh (AA (dLC 1 [0] (dIL (AD 3)) (dN 0) Ek (AU Fu (AA (AD 1) (AA (AD 0) AI)))) AI)))) (GO 4) (xOf A2)))))))))
def NR:List PyData->Option (PyData ⊕ Nat):=QK 1 2 (Fm (Y6 (dIE (AD 0)) (dGT (BE (dN 1) (BE (dN 2) Cy))) (SQ GG (AA (dSl (AD 0) Kw (dPt (AD 1))) (AA (AD 2) AI)))) (Fm (xIf (AN (dOp fGt (BD B9 (AA (AD 0) AI)) (dC (.int 24)))) (GO 5) (xOf A2)) (xOf (A0 (dC (.bool true))))))
def whS(n:Nat):Str:=["NoPart","Twice","NoHolder","TooDeep","Nested","TooMany"].getD n ""
def IE:List L->Option (PyData×List L)
 |[.d x]=>match NR [x] with
  |some (.inl (.bool true))=>some (.str "good",[.d x])
  |some (.inr n)=>if n<6 then some (.str (whS n),[.d x]) else none
  |_=>none
 |_=>none
def JM:List L->Option (PyData×List L):=BW true 2 3 (AY (Yv 2 2) (AY (Ia (dIL (AD 0)) (dN 3) (QJ 2 (AD 3) (dOp Ai (AD 3) (dC (.int 0))))) (AY (Mf 2 4) (AY (Md (fun _=>100) (AN (Qs false (AD 1) 2)) (AY (C3 (dMt 4 Bs (AA (AD 1) AI))) (Am (dOp Ai (Qr 2 (AD 1)) (dC (.int 1))) (dN 1)))) (A0 (FF 4 (dSl (AD 4) (dPt (dC (.int 1))) Kw)))))))
def Bo:List L->Option (PyData×List L):=BW false 3 0 (A0 (C9 (Gk "int" (AD 0)) (C9 (Qq (Gk "bool" (AD 0))) (C8 fLe fLe (AD 1) (AD 0) (AD 2)))))
def EW:List L->Option (PyData×List L):=BW false 1 0 (AY (A4 (De (Bm (AN (Gk "tuple" (AD 0)))) (De (AN (dOp fNe (BD B9 (AA (AD 0) AI)) (dC (.int 2)))) (Bm (AN (AU Bo (AA (dOp Ai (AD 0) (dC (.int 1))) (AA (dC (.int 1)) (AA (dC (.int 1000)) AI)))))))) (A0 (dC (.bool false))) A2) (A0 (C9 (AU Bo (AA (dOp Ai (AD 0) (dC (.int 0))) (AA (dC (.int 0)) (AA (dOp Ai (AD 0) (dC (.int 1))) AI)))) (dOp fEq (AU Jw (AA (dOp Ai (AD 0) (dC (.int 0))) (AA (dOp Ai (AD 0) (dC (.int 1))) AI))) (AD 0)))))
def Cc:List L->Option (PyData×List L):=BW false 2 0 (A0 (C9 (dOp fEq (BD B9 (AA (AD 0) AI)) (AD 1)) (C9 (AU EW (AA (dOp Ai (AD 0) (dUn He (dC (.int 2)))) AI)) (AU EW (AA (dOp Ai (AD 0) (dUn He (dC (.int 1)))) AI)))))
def Dq:List L->Option (PyData×List L):=BW false 4 0 (AY (A4 (De (Bm (AN (Gk "str" (AD 0)))) (Bm (AN (C8 fLe fLe (AD 2) (BD B9 (AA (AD 0) AI)) (AD 3))))) (A0 (dC (.bool false))) A2) (A0 (dOp fEq (dLC 1 [1] (dIS (AD 0)) (dN 0) (AN (dOp Wf (AD 0) (AD 1))) (AD 0)) (IZ AI))))
def Gb:List L->Option (PyData×List L):=BW false 1 1 (AY (A4 (De (Bm (AN (Gk "tuple" (AD 0)))) (Bm (AN (C8 fLt fLt (dC (.int 0)) (BD B9 (AA (AD 0) AI)) (dC (.int 9)))))) (A0 (dC (.bool false))) A2) (AY (Am (dLC 1 [] (dIT (AD 0)) (dN 0) (AN (AU Dq (AA (AD 0) (AA (dC (.str "#.")) (AA (dC (.int 1)) (AA (dC (.int 8)) AI)))))) (BD B9 (AA (AD 0) AI))) (dN 1)) (A0 (C9 (dOp fEq (BD B9 (AA (AD 1) AI)) (BD B9 (AA (AD 0) AI))) (dOp fEq (BD Yq (AA (AD 1) AI)) (BD Yr (AA (AD 1) AI)))))))
def IG:List L->Option (PyData×List L):=BW false 2 4 (AY (A4 (De (AN (dOp fEq (AD 0) (dC (.str "group")))) (AN (dOp fEq (AD 0) (dC (.str "mask"))))) (A0 (dOp fEq (AD 1) (Be AI))) A2) (AY (A4 (AN (dOp fEq (AD 0) (dC (.str "glass")))) (A0 (C9 (dOp fEq (BD B9 (AA (AD 1) AI)) (dC (.int 1))) (AU EW (AA (dOp Ai (AD 1) (dC (.int 0))) AI)))) A2) (AY (A4 (AN (dOp fEq (AD 0) (dC (.str "turn")))) (A0 (C9 (dOp fEq (BD B9 (AA (AD 1) AI)) (dC (.int 2))) (C9 (AU Bo (AA (dOp Ai (AD 1) (dC (.int 0))) (AA (dC (.int 0)) (AA (dC (.int 3)) AI)))) (Gk "bool" (dOp Ai (AD 1) (dC (.int 1))))))) A2) (AY (A4 (AN (dOp fEq (AD 0) (dC (.str "word")))) (A0 (C9 (AU Cc (AA (AD 1) (AA (dC (.int 3)) AI))) (AU Dq (AA (dOp Ai (AD 1) (dC (.int 0))) (AA (dC (.str "0123456789abcdef-_")) (AA (dC (.int 0)) (AA (dC (.int 6)) AI))))))) A2) (AY (A4 (AN (dOp fEq (AD 0) (dC (.str "stencil")))) (A0 (C9 (AU Cc (AA (AD 1) (AA (dC (.int 3)) AI))) (AU Gb (AA (dOp Ai (AD 1) (dC (.int 0))) AI)))) A2) (AY (Yu 2 2 [(.str "plate",(.tuple [(.int 1),(.int 12)])),(.str "band",(.tuple [(.int (-12)),(.int 12)])),(.str "window",(.tuple [(.int 1),(.int 16)])),(.str "tiles",(.tuple [(.int 1),(.int 3)]))]) (AY (A4 (De (AN (Qs true (AD 0) 2)) (AN (dOp fNe (BD B9 (AA (AD 1) AI)) (dC (.int 4))))) (A0 (dC (.bool false))) A2) (AY (Am (Qr 2 (AD 0)) (dGT (BE (dN 3) (BE (dN 4) Cy)))) (AY (A4 (De (Bm (AN (AU Bo (AA (dOp Ai (AD 1) (dC (.int 0))) (AA (AD 3) (AA (AD 4) AI)))))) (Bm (AN (AU Bo (AA (dOp Ai (AD 1) (dC (.int 1))) (AA (AD 3) (AA (AD 4) AI))))))) (A0 (dC (.bool false))) A2) (AY (A4 (De (AN (dOp fEq (AD 0) (dC (.str "plate")))) (AN (dOp fEq (AD 0) (dC (.str "band"))))) (A0 (AU Cc (AA (AD 1) (AA (dC (.int 4)) AI)))) A2) (AY (Am (Ot [(.str "window",(.int 60)),(.str "tiles",(.int 20))] (AD 0)) (dN 5)) (A0 (C9 (AU Bo (AA (dOp Ai (AD 1) (dC (.int 2))) (AA (dUn He (AD 5)) (AA (AD 5) AI)))) (AU Bo (AA (dOp Ai (AD 1) (dC (.int 3))) (AA (dUn He (AD 5)) (AA (AD 5) AI)))))))))))))))))
def Fv:List L->Option (PyData×List L):=BW false 1 1 (AY (Am (dC (.str "abcdefghijklmnopqrstuvwxyz0123456789")) (dN 1)) (AY (A4 (De (Bm (AN (AU Dq (AA (dOp Ai (AD 0) (dC (.int 0))) (AA (AD 1) (AA (dC (.int 1)) (AA (dC (.int 8)) AI))))))) (Bm (AN (AU Dq (AA (dOp Ai (AD 0) (dC (.int 1))) (AA (AD 1) (AA (dC (.int 0)) (AA (dC (.int 8)) AI)))))))) (A0 (dC (.bool false))) A2) (AY (A4 (De (Bm (AN (AU Bo (AA (dOp Ai (AD 0) (dC (.int 2))) (AA (dUn He (dC (.int 60))) (AA (dC (.int 60)) AI)))))) (De (Bm (AN (AU Bo (AA (dOp Ai (AD 0) (dC (.int 3))) (AA (dUn He (dC (.int 60))) (AA (dC (.int 60)) AI)))))) (Bm (AN (Gk "bool" (dOp Ai (AD 0) (dC (.int 4)))))))) (A0 (dC (.bool false))) A2) (A0 (AU IG (AA (dOp Ai (AD 0) (dC (.int 5))) (AA (dOp Ai (AD 0) (dC (.int 6))) AI)))))))
def Ml:List L->Option (PyData×List L):=BW false 1 5 (AY (Mf 1 1) (AY (Ia (dIL (AD 0)) (dN 2) (AY (A4 (Bm (AN (AU Fv (AA (AD 2) AI)))) (A0 (dC (.str "NoPart"))) A2) (AY (A4 (Fh 1 (AN (dOp (fIn false) (dOp Ai (AD 2) (dC (.int 0))) (dLC 1 [] (dIL (AD 1)) (dN 0) Ek (dOp Ai (AD 0) (dC (.int 0))))))) (A0 (dC (.str "Twice"))) A2) (AY (Am (FF 1 (dLC 1 [2] (dIL (AD 1)) (dN 0) (AN (dOp fEq (dOp Ai (AD 0) (dC (.int 0))) (dOp Ai (AD 1) (dC (.int 1))))) (AD 0))) (dN 3)) (AY (A4 (Ci (AN (dOp fNe (dOp Ai (AD 2) (dC (.int 1))) (dC (.str "")))) (AN (dOp fEq (dLC 1 [] (dIL (AD 3)) (dN 0) (AN (dOp (fIn false) (dOp Ai (AD 0) (dC (.int 5))) (Li (AU Dm AI) (dPt (dC (.int 6))) Kw))) (AD 0)) (IZ AI)))) (A0 (dC (.str "NoHolder"))) A2) (AY (C3 (dMt 1 Bs (AA (AD 2) AI))) (AY (Am (FF 1 (AU JM (AA (AD 1) (AA (dOp Ai (AD 2) (dC (.int 0))) AI)))) (dN 4)) (AY (A4 (AN (dOp fGt (BD B9 (AA (AD 4) AI)) (dC (.int 6)))) (A0 (dC (.str "TooDeep"))) A2) (AY (Am (FF 1 (dLC 1 [] (dIL (AD 1)) (dN 0) (AN (dOp fEq (dOp Ai (AD 0) (dC (.int 5))) (dC (.str "tiles")))) (dOp Ai (AD 0) (dC (.int 0))))) (dN 5)) (A4 (Ci (AN (dOp fEq (dOp Ai (AD 2) (dC (.int 5))) (dC (.str "tiles")))) (AN (dOp fNe (dLC 1 [4] (dIL (AD 5)) (dN 0) (AN (dOp (fIn false) (AD 0) (AD 1))) (AD 0)) (IZ AI)))) (A0 (dC (.str "Nested"))) A2)))))))))) (AY (A4 (AN (dOp fGt (BD B9 (AA (AD 0) AI)) (dC (.int 24)))) (A0 (dC (.str "TooMany"))) A2) (A0 (dC (.str "good"))))))
def Rc:List L->Option (PyData×List L):=BW false 1 8 (AY (Am (Bj 0 Jx (AA (dC (.int 0)) AI)) (dN 1)) (AY (Mf 1 2) (AY (A4 (AN (dOp fEq (dOp BQ (AD 1) (dC (.int 3))) (dC (.int 1)))) (Il 1 2 (AU GJ (AA (dOp Bw (AD 1) (dC (.int 3))) AI))) A2) (AY (Il 1 3 (FF 2 (BD FO (AA (AD 2) AI)))) (AY (Ia (dR1 (AA (dOp BQ (dOp Bw (AD 1) (dC (.int 7))) (dC (.int 28))) AI)) (dN 4) (AY (Am (Bj 0 Jx (AA (dOp CK (dC (.int 1)) (AD 4)) AI)) (dN 5)) (AY (Am (Gm 3 (AU HW (AA (AD 3) (AA (dOp Bw (AD 5) (dC (.int 1800))) AI)))) (dGT (BE (dN 6) (BE (dN 7) Cy)))) (AY (A4 (Fh 2 (AN (dOp (fIn false) (dOp Ai (AD 6) (dC (.int 0))) (dLC 1 [] (dIL (AD 2)) (dN 0) Ek (dOp Ai (AD 0) (dC (.int 0))))))) (Am (dOp NU (Be (AA (dOp Gx (dC (.str "z")) (BD Kt (AA (AD 4) AI))) AI)) (Li (AD 6) (dPt (dC (.int 1))) Kw)) (dN 6)) A2) (AY (C3 (dMt 2 Bs (AA (Gm 2 (AU HX (AA (AD 2) (AA (AD 6) (AA (AD 5) AI))))) AI))) (A4 (Fh 3 (Ci (AN (dOp fGt (dOp BQ (AD 5) (dC (.int 18))) (dC (.int 2)))) (AN (dOp (fIn true) (dOp Ai (AD 6) (dC (.int 0))) (dLC 1 [] (dIL (AD 3)) (dN 0) Ek (dOp Ai (AD 0) (dC (.int 0)))))))) (C3 (dMt 3 Bs (AA (AD 6) AI))) A2)))))) (AY (Am (FF 2 (BD FO (AA (AD 2) AI))) (dN 8)) (A0 (Gm 2 (C9 (dOp fEq (AU IE (AA (AD 8) AI)) (AU Ml (AA (AD 2) AI))) (dOp fEq (AD 8) (AD 2)))))))))))
theorem CH{k:Nat}{A:Around}(hr:Room k A):A.units+64<cLine:=hr.units
theorem VM{k:Nat}{A:Around}(hr:Room k A):A.units+65<cLine:=by have:=hr.un;omega
section
variable {P:Program} {w:World} {K:PySem.W.Frag} {mg:Str->Option Value} {base:Heap} {f:Addr} {fd:FuncData}
theorem Uv(F:Fun K "_law_cell_at" "_law_cell_at" GB f fd)(z_len:mg "len"=none):FnOk P w K mg base CX0 1 f fd ["_law_script","_law_k"] (spD ⟨K,w⟩ EX false):=by
 have nd:=sc_L_cell_at.nd
 refine F.ok sc_L_cell_at (fun vs H Q E h=>BB Ak h) (fun cdv A outer s H vs Q E hr h=>?_)
 exact⟨_,(@AL _ _ _ _ _ (@BP _ _ _ _ _ _ _ _ (@Ah _ _ _ _ _ _ _ _ YU (pvL 1 rfl NP DQ) (Ad BL Qi z_len PySem.boot_len (AB (pvL 0 rfl NQ EN) AJ ⋯) Ba B7.1 ⋯ ⋯) (Ap _)) (@AO _ _ _ (@Ac _ _ _ _ (@Az _ _ _ _ _ _ _ OS (pvL 0 rfl NQ EN) (pvL 1 rfl NP DQ) (fun _ _=>rfl)))) As) (@AO _ _ _ (@Ac _ _ _ _ AH))),BA (N:=["_law_script","_law_k"]) (np:=2) (nl:=0) (Ab (CV (Aq (AW cy AF (gR (i:=0)))) (Ax (ip (i:=0) AF) (by decide)) BY) (Ax AM (by decide))) rfl h⟩
theorem a8(F:Fun K "_law_big" "_law_big" FI f fd)(c34:Cal P w K mg base 1 "_law_cell_at" ["_law_script","_law_k"] (spD ⟨K,w⟩ EX false))(z_range:mg "range"=none):FnOk P w K mg base CX0 2 f fd ["_law_script","_law_at"] (spD ⟨K,w⟩ Jx false):=by
 have nd:=sc_L_big.nd
 refine F.ok sc_L_big (fun vs H Q E h=>BB Ak h) (fun cdv A outer s H vs Q E hr h=>?_)
 exact⟨_,(@AL _ _ _ _ _ (@Au _ _ 2 _ _ _ _ nd rfl T9 (A9 (AB AH (AB AH (AB AH (AB AH (AB AH (AB AH (AB AH (AB AH AJ ⋯) ⋯) ⋯) ⋯) ⋯) ⋯) ⋯) ⋯)) ⋯ ⋯) (@AL _ _ _ _ _ (@Au _ _ 3 _ _ _ _ nd rfl T8 (A9 (AB AH (AB AH (AB AH (AB AH (AB AH (AB AH (AB AH (AB AH AJ ⋯) ⋯) ⋯) ⋯) ⋯) ⋯) ⋯) ⋯)) ⋯ ⋯) (@AL _ _ _ _ _ (@Au _ _ 4 _ _ _ _ nd rfl PM (AS c34 hr IV (AB (pvL 0 rfl UB EN) (AB (pvL 1 rfl UA SJ) AJ ⋯) ⋯) Lb.1 ⋯ ⋯) ⋯ ⋯) (@AL _ _ _ _ _ (@BP _ _ _ _ _ _ _ _ (@Ah _ _ _ _ _ _ _ _ eW (pvL 4 rfl PM Oq) (@Ae _ _ _ _ _ _ _ _ au AH AH) (Ap _)) (@AO _ _ _ (@Ac _ _ _ _ (pvL 4 rfl PM Oq))) As) (@AL _ _ _ _ _ (@Au _ _ 5 _ _ _ _ nd rfl Mj AH ⋯ ⋯) (@AL _ _ _ _ _ (@HI _ _ _ _ _ _ _ _ PassesOwn.never rfl (@HJ _ _ _ _ _ _ TX z_range (AB AH AJ ⋯) ⋯) (@Aw _ _ 6 _ nd rfl JI ⋯) (@AL _ _ _ _ _ (@Au _ _ 7 _ _ _ _ nd rfl T7 (@Ae _ _ _ _ _ _ _ _ E7 (@Ae _ _ _ _ _ _ _ _ E7 (@Ae _ _ _ _ _ _ _ _ BV (AS c34 hr IV (AB (pvL 0 rfl UB EN) (AB (@Ae _ _ _ _ _ _ _ _ E7 (pvL 1 rfl UA SJ) (@Ae _ _ _ _ _ _ _ _ BV (pvL 6 rfl JI DQ) AH)) AJ ⋯) ⋯) Lb.1 ⋯ ⋯) (@Ae _ _ _ _ _ _ _ _ au AH AH)) AH) (@Ae _ _ _ _ _ _ _ _ Ud (pvL 6 rfl JI DQ) (pvL 6 rfl JI DQ))) ⋯ ⋯) (@AO _ _ _ (@Au _ _ 5 _ _ _ _ nd rfl Mj (@Ae _ _ _ _ _ _ _ _ E7 (@Ae _ _ _ _ _ _ _ _ Ud (pvL 5 rfl Mj AK) AH) (@Ae _ _ _ _ _ _ _ _ BV (@Ae _ _ _ _ _ _ _ _ BV (@Ae _ _ _ _ _ _ _ _ Ud (pvL 7 rfl T7 BM) (@Az _ _ _ _ _ _ _ An (pvL 2 rfl T9 Xu) (@Ae _ _ _ _ _ _ _ _ BV (pvL 6 rfl JI DQ) AH) (fun _ _=>rfl))) (@Az _ _ _ _ _ _ _ An (pvL 3 rfl T8 Tg) (@Ae _ _ _ _ _ _ _ _ BV (pvL 6 rfl JI DQ) AH) (fun _ _=>rfl))) AH)) ⋯ ⋯))) ⋯) (@AO _ _ _ (@Ac _ _ _ _ (pvL 5 rfl Mj AK))))))))),BA (N:=["_law_script","_law_at","_law_by","_law_prime","_law_cell","_law_big_here","_law_k","_law_one"]) (np:=2) (nl:=6) (Ab (BC (Bu (AE AM (AE AM (AE AM (AE AM (AE AM (AE AM (AE AM (AE AM AQ))))))))) AX) (Ab (BC (Bu (AE AM (AE AM (AE AM (AE AM (AE AM (AE AM (AE AM (AE AM AQ))))))))) AX) (Ab (BC (Q7 (i:=0) (AE AF AQ)) AX) (Ab (CV (Aq (AW iP AF (AW eX AM AM))) (Ax AF (by decide)) BY) (Ab (BC AM AX) (Ab (Lc (HZ (AE AM AQ)) AX (Ab (BC (AW IA (AW IA (AW B2 (Q7 (i:=0) (AE (AW IA AF (AW B2 AF AM)) AQ)) (AW eX AM AM)) AM) (AW bA AF AF)) AX) (BC (AW IA (AW bA AF AM) (AW B2 (AW B2 (AW bA AF (AW A5 AF (AW B2 AF AM))) (AW A5 AF (AW B2 AF AM))) AM)) AX))) (Ax AF (by decide)))))))) rfl h⟩
theorem Uu(F:Fun K "_law_chained" "_law_chained" Ct f fd)(z_range:mg "range"=none)(z_str:mg "str"=none):FnOk P w K mg base CX0 1 f fd ["_law_big_here"] (spD ⟨K,w⟩ GJ true):=by
 have nd:=sc_L_chained.nd
 refine F.ok sc_L_chained (fun vs H Q E h=>BB Ak h) (fun cdv A outer s H vs Q E hr h=>?_)
 exact⟨_,(@AL _ _ _ _ _ (@Au _ _ 1 _ _ _ _ nd rfl KP (@Ee _ _ _ _ AJ) ⋯ ⋯) (@AL _ _ _ _ _ (@Au _ _ 2 _ _ _ _ nd rfl KO Aj ⋯ ⋯) (@AL _ _ _ _ _ (@HI _ _ _ _ _ _ _ _ PassesOwn.never rfl (@HJ _ _ _ _ _ _ Of z_range (AB (@Ae _ _ _ _ _ _ _ _ BV (pvL 0 rfl Ht AK) AH) AJ ⋯) ⋯) (@Aw _ _ 3 _ nd rfl Ff ⋯) (@AL _ _ _ _ _ (@Au _ _ 4 _ _ _ _ nd rfl KN (@Az _ _ _ _ _ _ _ An (A9 (AB Aj (AB Aj (AB Aj (AB Aj (AB Aj AJ ⋯) ⋯) ⋯) ⋯) ⋯)) (@Ae _ _ _ _ _ _ _ _ BV (@Ae _ _ _ _ _ _ _ _ A3 (pvL 0 rfl Ht AK) AH) AH) (fun _ _=>rfl)) ⋯ ⋯) (@AL _ _ _ _ _ (@Au _ _ 5 _ _ _ _ nd rfl NO (@Az _ _ _ _ _ _ _ bI (@RK _ _ _ _ _ (@Ip _ _ _ _ _ _ _ _ _ Aj (A9 AJ) (@Ip _ _ _ _ _ _ _ _ _ Aj (A9 (AB AH (AB AH (AB AH (AB (@JT _ _ _ _ _ _ Fn AH) AJ ⋯) ⋯) ⋯) ⋯)) (@Ip _ _ _ _ _ _ _ _ _ Aj (A9 (AB (A9 (AB AH (AB AH AJ ⋯) ⋯)) AJ ⋯)) XH))) ⋯ ⋯ (List.cons_ne_nil _ _) (by decide)) (pvL 4 rfl KN A7) (fun _ _=>rfl)) ⋯ ⋯) (@AL _ _ _ _ _ (@Hl _ _ _ _ (@OD _ _ _ _ _ _ _ _ _ _ _ _ PySem.F.plainAttrs_list PySem.F.slot_list_append PySem.F.type_list_append Er (pvL 1 rfl KP BF) (AB (A9 (AB (@Ae _ _ _ _ _ _ _ _ HK Aj (@JG _ _ _ _ _ _ _ _ _ LW La z_str PySem.Pv.boot_str (AB (pvL 3 rfl Ff DQ) AJ ⋯) K7 Ny.1 ⋯ ⋯)) (AB (pvL 2 rfl KO Bz) (AB (pvL 3 rfl Ff DQ) (AB (@JT _ _ _ _ _ _ Fn (pvL 3 rfl Ff DQ)) (AB Ez (AB (pvL 4 rfl KN A7) (AB (pvL 5 rfl NO A8) AJ ⋯) ⋯) ⋯) ⋯) ⋯) ⋯) ⋯)) AJ ⋯) ⋯ ⋯ ⋯ ⋯ ⋯) ⋯) (@AL _ _ _ _ _ (@Au _ _ 2 _ _ _ _ nd rfl KO (@Ae _ _ _ _ _ _ _ _ HK Aj (@JG _ _ _ _ _ _ _ _ _ LW La z_str PySem.Pv.boot_str (AB (pvL 3 rfl Ff DQ) AJ ⋯) K7 Ny.1 ⋯ ⋯)) ⋯ ⋯) (@AO _ _ _ (@Au _ _ 0 _ _ _ _ nd rfl Ht (@Ae _ _ _ _ _ _ _ _ A3 (pvL 0 rfl Ht AK) AH) ⋯ ⋯)))))) ⋯) (@AO _ _ _ (@Ac _ _ _ _ (pvL 1 rfl KP BF)))))),BA (N:=["_law_big_here","_law_rows","_law_name","_law_k","_law_kind","_law_data"]) (np:=1) (nl:=5) (Ab Sb (Ab (BC BS AX) (Ab (Lc (HZ (AE (AW B2 AF AM) AQ)) AX (Ab (BC (AW A5 (Bu (AE BS (AE BS (AE BS (AE BS (AE BS AQ)))))) (AW B2 (AW CB AF AM) AM)) AX) (Ab (BC (ba (Iq (Bu AQ) (fun _=>rfl) rfl (Iq (Bu (AE AM (AE AM (AE AM (AE (Nx JP AM) AQ))))) (fun _=>rfl) rfl (Iq (Bu (AE (Bu (AE AM (AE AM AQ))) AQ)) (fun _=>rfl) rfl XI))) (by decide) (XZ (l:=["group","tiles","glass"]) ∅) AF) AX) (Ab (LX (VU (i:=1) Ga (AE (Bu (AE (AW O9 BS (B0 X3 (AE AF AQ))) (AE AF (AE AF (AE (Nx JP AF) (AE Jh (AE AF (AE AF AQ)))))))) AQ))) (Ab (BC (AW O9 BS (B0 X3 (AE AF AQ))) AX) (BC (AW CB AF AM) AX)))))) (X5 (i:=1))))) rfl h⟩
theorem Uq(F:Fun K "_law_name_of" "_law_name_of" ET f fd)(z_range:mg "range"=none):FnOk P w K mg base CX0 1 f fd ["_law_big_here"] (spD ⟨K,w⟩ IF false):=by
 have nd:=sc_L_name_of.nd
 refine F.ok sc_L_name_of (fun vs H Q E h=>BB Ak h) (fun cdv A outer s H vs Q E hr h=>?_)
 exact⟨_,(@AL _ _ _ _ _ (@Au _ _ 1 _ _ _ _ nd rfl Hq Aj ⋯ ⋯) (@AL _ _ _ _ _ (@Au _ _ 2 _ _ _ _ nd rfl NJ (@Ae _ _ _ _ _ _ _ _ E7 AH (@Ae _ _ _ _ _ _ _ _ BV (pvL 0 rfl EB AK) AH)) ⋯ ⋯) (@AL _ _ _ _ _ (@Au _ _ 0 _ _ _ _ nd rfl EB (@Ae _ _ _ _ _ _ _ _ A3 (pvL 0 rfl EB AK) AH) ⋯ ⋯) (@AL _ _ _ _ _ (@HI _ _ _ _ _ _ _ _ PassesOwn.never rfl (@HJ _ _ _ _ _ _ Od z_range (AB (pvL 2 rfl NJ Oo) AJ ⋯) ⋯) (@Aw _ _ 3 _ nd rfl S8 ⋯) (@AL _ _ _ _ _ (@Au _ _ 1 _ _ _ _ nd rfl Hq (@Ae _ _ _ _ _ _ _ _ HK (pvL 1 rfl Hq Bz) (@Az _ _ _ _ _ _ _ Xe Aj (@Ae _ _ _ _ _ _ _ _ BV (pvL 0 rfl EB AK) AH) (fun _ _=>rfl))) ⋯ ⋯) (@AO _ _ _ (@Au _ _ 0 _ _ _ _ nd rfl EB (@Ae _ _ _ _ _ _ _ _ A3 (pvL 0 rfl EB AK) AH) ⋯ ⋯))) ⋯) (@AO _ _ _ (@Ac _ _ _ _ (A9 (AB (pvL 1 rfl Hq Bz) (AB (pvL 0 rfl EB AK) AJ ⋯) ⋯)))))))),BA (N:=["_law_big_here","_law_name","_law_size","_law_k"]) (np:=1) (nl:=3) (Ab (BC BS AX) (Ab (BC (AW IA AM (AW B2 AF AM)) AX) (Ab (BC (AW CB AF AM) AX) (Ab (Lc (HZ (AE AF AQ)) AX (Ab (BC (AW O9 AF (AW bB BS (AW B2 AF AM))) AX) (BC (AW CB AF AM) AX))) (Ax (Bu (AE AF (AE AF AQ))) (by decide)))))) rfl h⟩
theorem Um(F:Fun K "_law_step_of" "_law_step_of" Jp f fd):FnOk P w K mg base CX0 1 f fd ["_law_big_here"] (spD ⟨K,w⟩ Ce false):=by
 have nd:=sc_L_step_of.nd
 refine F.ok sc_L_step_of (fun vs H Q E h=>BB Ak h) (fun cdv A outer s H vs Q E hr h=>?_)
 exact⟨_,(@AL _ _ _ _ _ (@BP _ _ _ _ _ _ _ _ (@Ah _ _ _ _ _ _ _ _ (@BN _ (CH hr)) (@Ae _ _ _ _ _ _ _ _ BV (pvL 0 rfl FZ AK) AH) AH (Ap _)) (@AO _ _ _ (@Ac _ _ _ _ (A9 (AB (@Ae _ _ _ _ _ _ _ _ O6 (@Ae _ _ _ _ _ _ _ _ BV (@Ae _ _ _ _ _ _ _ _ A3 (pvL 0 rfl FZ AK) AH) AH) AH) (AB (@Ae _ _ _ _ _ _ _ _ A3 (pvL 0 rfl FZ AK) AH) AJ ⋯) ⋯)))) As) (@AO _ _ _ (@Ac _ _ _ _ (A9 (AB (@Ae _ _ _ _ _ _ _ _ O6 (@Ae _ _ _ _ _ _ _ _ BV (@Ae _ _ _ _ _ _ _ _ A3 (pvL 0 rfl FZ AK) AH) AH) AH) (AB (@Ae _ _ _ _ _ _ _ _ A3 (pvL 0 rfl FZ AK) AH) AJ ⋯) ⋯))))),BA (N:=["_law_big_here"]) (np:=1) (nl:=0) (Ab (CV (Aq (AW Cu (AW B2 AF AM) AM)) (Ax (Bu (AE (AW T1 (AW B2 (AW CB AF AM) AM) AM) (AE (AW CB AF AM) AQ))) (by decide)) BY) (Ax (Bu (AE (AW T1 (AW B2 (AW CB AF AM) AM) AM) (AE (AW CB AF AM) AQ))) (by decide))) rfl h⟩
theorem cv(F:Fun K "_law_up" "_law_up" Ll f fd):FnOk P w K mg base CX0 1 f fd ["_law_rows","_law_name"] (spD ⟨K,w⟩ LF true):=by
 have nd:=sc_L_up.nd
 refine F.ok sc_L_up (fun vs H Q E h=>BB Ak h) (fun cdv A outer s H vs Q E hr h=>?_)
 exact⟨_,(@AL _ _ _ _ _ (@Au _ _ 2 _ _ _ _ nd rfl RZ (@Ee _ _ _ _ AJ) ⋯ ⋯) (@AL _ _ _ _ _ (@Au _ _ 3 _ _ _ _ nd rfl OJ YR ⋯ ⋯) (@AL _ _ _ _ _ (@HI _ _ _ _ _ _ _ _ PassesOwn.never rfl (@Ed _ _ _ _ (pvL 0 rfl bC BF)) (@Aw _ _ 4 _ nd rfl RY ⋯) (@AO _ _ _ (@Ec _ _ _ _ _ _ (pvL 4 rfl RY Af) (@ae _ _ _ _ _ _ _ (pvL 3 rfl OJ Ds) (@Az _ _ _ _ _ _ _ An (pvL 4 rfl RY Af) AH (fun _ _=>rfl)) eM ⋯) ⋯ ⋯ ⋯)) ⋯) (@AL _ _ _ _ _ (@Ln _ _ _ _ _ _ PassesOwn.never (PW.pt (@KC _ _ _ _ _ _ _ (@Ah _ _ _ _ _ _ _ _ (@FR _ (CH hr)) (pvL 1 rfl Lz Bz) Aj (Ap _)) (@Hk _ _ _ _ (@Ah _ _ _ _ _ _ _ _ aw (pvL 1 rfl Lz Bz) (pvL 3 rfl OJ Ds) (by with_unfolding_all rfl))))) (@AL _ _ _ _ _ (@Hl _ _ _ _ (@OD _ _ _ _ _ _ _ _ _ _ _ _ PySem.F.plainAttrs_list PySem.F.slot_list_append PySem.F.type_list_append Er (pvL 2 rfl RZ Fi) (AB (pvL 1 rfl Lz Bz) AJ ⋯) ⋯ ⋯ ⋯ ⋯ ⋯) ⋯) (@AO _ _ _ (@Au _ _ 1 _ _ _ _ nd rfl Lz (@Az _ _ _ _ _ _ _ An (@Az _ _ _ _ _ _ _ bI (pvL 3 rfl OJ Ds) (pvL 1 rfl Lz Bz) (fun _ _=>rfl)) AH (fun _ _=>rfl)) ⋯ ⋯)))) (@AO _ _ _ (@Ac _ _ _ _ (pvL 2 rfl RZ Fi))))))),BA (N:=["_law_rows","_law_name","_law_up_here","_law_by_name","_law_row"]) (np:=2) (nl:=3) (Ab Sb (Ab cL (Ab (Lc (EF AF) AX (cK (i:=3) AF (AW A5 AF AM))) (Ab (Ox (NB (Aq (AW Mu AF BS)) (Aq (bZ (i:=3) AF))) (Ab (LX (VU (i:=2) Ga (AE AF AQ))) (BC (AW A5 (bY (i:=3) AF) AM) AX))) (X5 (i:=2)))))) rfl h⟩
theorem az(F:Fun K "_law_low" "_law_low" Hi f fd)(z_abs:mg "abs"=none):FnOk P w K mg base CX0 1 f fd ["_law_top","_law_bottom"] (spD ⟨K,w⟩ Jw false):=by
 have nd:=sc_L_low.nd
 refine F.ok sc_L_low (fun vs H Q E h=>BB Ak h) (fun cdv A outer s H vs Q E hr h=>?_)
 exact⟨_,(@AL _ _ _ _ _ (@aX _ _ 2 3 _ _ _ _ _ _ _ _ _ _ _ rfl nd rfl rfl (by decide) UE UD (AB (Ad SW We z_abs PyProof.Rows.boot_abs (AB (pvL 0 rfl T4 QF) AJ ⋯) Uz Xr.1 ⋯ ⋯) (AB (pvL 1 rfl T3 FE) AJ ⋯) ⋯) (by kernel_rfl) ⋯) (@AL _ _ _ _ _ (@Ln _ _ _ _ _ _ PassesOwn.never (@Ah _ _ _ _ _ _ _ _ OF (pvL 3 rfl PJ Fz) AH (Ap _)) (@AO _ _ _ (@aX _ _ 2 3 _ _ _ _ _ _ _ _ _ _ _ rfl nd rfl rfl (by decide) UE UD (AB (pvL 3 rfl PJ Fz) (AB (@Ae _ _ _ _ _ _ _ _ BV (pvL 2 rfl PL BM) (pvL 3 rfl PJ Fz)) AJ ⋯) ⋯) (by kernel_rfl) ⋯))) (@AO _ _ _ (@Ac _ _ _ _ (A9 (AB (@Ae _ _ _ _ _ _ _ _ A3 (pvL 0 rfl T4 QF) (pvL 2 rfl PL BM)) (AB (@Ae _ _ _ _ _ _ _ _ A3 (pvL 1 rfl T3 FE) (pvL 2 rfl PL BM)) AJ ⋯) ⋯)))))),BA (N:=["_law_top","_law_bottom","_law_one","_law_other_here"]) (np:=2) (nl:=2) (Ab (fN (i:=2) (j:=3) (AE (B0 cG (AE AF AQ)) (AE AF AQ))) (Ab (Ox (Aq (AW Ux AF AM)) (fN (i:=2) (j:=3) (AE AF (AE (AW B2 AF AF) AQ)))) (Ax (Bu (AE (AW CB AF AF) (AE (AW CB AF AF) AQ))) (by decide)))) rfl h⟩
theorem Sq(F:Fun K "_law_share_of" "_law_share_of" FH f fd)(c46:Cal P w K mg base 1 "_law_low" ["_law_top","_law_bottom"] (spD ⟨K,w⟩ Jw false)):FnOk P w K mg base CX0 2 f fd ["_law_big_here"] (spD ⟨K,w⟩ FL false):=by
 have nd:=sc_L_share_of.nd
 refine F.ok sc_L_share_of (fun vs H Q E h=>BB Ak h) (fun cdv A outer s H vs Q E hr h=>?_)
 exact⟨_,(@AL _ _ _ _ _ (@Au _ _ 1 _ _ _ _ nd rfl EK (@Az _ _ _ _ _ _ _ An (A9 (AB AH (AB AH (AB AH (AB AH AJ ⋯) ⋯) ⋯) ⋯)) (@Ae _ _ _ _ _ _ _ _ BV (pvL 0 rfl Ca AK) AH) (fun _ _=>rfl)) ⋯ ⋯) (@AL _ _ _ _ _ (@BP _ _ _ _ _ _ _ _ (@Ah _ _ _ _ _ _ _ _ (@BN _ (CH hr)) (@Ae _ _ _ _ _ _ _ _ BV (@Ae _ _ _ _ _ _ _ _ A3 (pvL 0 rfl Ca AK) AH) AH) AH (Ap _)) (@AO _ _ _ (@Au _ _ 1 _ _ _ _ nd rfl EK (@Ae _ _ _ _ _ _ _ _ E7 AH (@Ae _ _ _ _ _ _ _ _ BV (@Ae _ _ _ _ _ _ _ _ A3 (pvL 0 rfl Ca AK) AH) AH)) ⋯ ⋯)) As) (@AL _ _ _ _ _ (@BP _ _ _ _ _ _ _ _ (@Ah _ _ _ _ _ _ _ _ (@BN _ (CH hr)) (@Ae _ _ _ _ _ _ _ _ BV (@Ae _ _ _ _ _ _ _ _ A3 (pvL 0 rfl Ca AK) AH) AH) AH (Ap _)) (@AO _ _ _ (@Au _ _ 1 _ _ _ _ nd rfl EK (@Ae _ _ _ _ _ _ _ _ E7 AH (@Ae _ _ _ _ _ _ _ _ BV (@Ae _ _ _ _ _ _ _ _ A3 (pvL 0 rfl Ca AK) AH) AH)) ⋯ ⋯)) As) (@AL _ _ _ _ _ (@Au _ _ 0 _ _ _ _ nd rfl Ca (@Ae _ _ _ _ _ _ _ _ A3 (pvL 0 rfl Ca AK) AH) ⋯ ⋯) (@AO _ _ _ (@Ac _ _ _ _ (A9 (AB (AS c46 hr Lg (AB (@Ae _ _ _ _ _ _ _ _ BV (pvL 0 rfl Ca AK) (@Ae _ _ _ _ _ _ _ _ E7 (pvL 1 rfl EK FE) AH)) (AB (pvL 1 rfl EK FE) AJ ⋯) ⋯) QG.1 ⋯ ⋯) (AB (@Ae _ _ _ _ _ _ _ _ A3 (pvL 0 rfl Ca AK) (@Ae _ _ _ _ _ _ _ _ E7 (pvL 1 rfl EK FE) AH)) AJ ⋯) ⋯)))))))),BA (N:=["_law_big_here","_law_bottom"]) (np:=1) (nl:=1) (Ab (BC (AW A5 (Bu (AE AM (AE AM (AE AM (AE AM AQ))))) (AW B2 AF AM)) AX) (Ab (CV (Aq (AW Cu (AW B2 (AW CB AF AM) AM) AM)) (BC (AW IA AM (AW B2 (AW CB AF AM) AM)) AX) BY) (Ab (CV (Aq (AW Cu (AW B2 (AW CB AF AM) AM) AM)) (BC (AW IA AM (AW B2 (AW CB AF AM) AM)) AX) BY) (Ab (BC (AW CB AF AM) AX) (Ax (Bu (AE (Aa (AE (AW B2 AF (AW IA AF AM)) (AE AF AQ))) (AE (AW CB AF (AW IA AF AM)) AQ))) (by decide)))))) rfl h⟩
theorem Sr(F:Fun K "_law_paint_of" "_law_paint_of" Ea f fd)(c28:Cal P w K mg base 2 "_law_share_of" ["_law_big_here"] (spD ⟨K,w⟩ FL false)):FnOk P w K mg base CX0 3 f fd ["_law_big_here"] (spD ⟨K,w⟩ Ej false):=by
 have nd:=sc_L_paint_of.nd
 refine F.ok sc_L_paint_of (fun vs H Q E h=>BB Ak h) (fun cdv A outer s H vs Q E hr h=>?_)
 exact⟨_,(@AL _ _ _ _ _ (@Ec _ _ _ _ _ _ (AS c28 hr FD (AB (pvL 0 rfl DW AK) AJ ⋯) Ku.1 ⋯ ⋯) (Ew rfl (BJ (@Aw _ _ 1 _ nd rfl JY ⋯) (BJ (@Aw _ _ 0 _ nd rfl DW ⋯) Dg ⋯) ⋯) ⋯ ⋯) ⋯ ⋯ ⋯) (@AL _ _ _ _ _ (@BP _ _ _ _ _ _ _ _ (@Ah _ _ _ _ _ _ _ _ (@BN _ (CH hr)) (@Ae _ _ _ _ _ _ _ _ BV (pvL 0 rfl DW AK) AH) AH (Ap _)) (@AO _ _ _ (@Ac _ _ _ _ (A9 (AB (pvL 1 rfl JY Eu) (AB (A9 (AB AH (AB AH AJ ⋯) ⋯)) (AB (@Ae _ _ _ _ _ _ _ _ A3 (pvL 0 rfl DW AK) AH) AJ ⋯) ⋯) ⋯)))) As) (@AL _ _ _ _ _ (@Ec _ _ _ _ _ _ (AS c28 hr FD (AB (@Ae _ _ _ _ _ _ _ _ A3 (pvL 0 rfl DW AK) AH) AJ ⋯) Ku.1 ⋯ ⋯) (Ew rfl (BJ (@Aw _ _ 2 _ nd rfl L7 ⋯) (BJ (@Aw _ _ 0 _ nd rfl DW ⋯) Dg ⋯) ⋯) ⋯ ⋯) ⋯ ⋯ ⋯) (@AO _ _ _ (@Ac _ _ _ _ (A9 (AB (pvL 1 rfl JY Eu) (AB (pvL 2 rfl L7 Et) (AB (pvL 0 rfl DW AK) AJ ⋯) ⋯) ⋯))))))),BA (N:=["_law_big_here","_law_shade","_law_share"]) (np:=1) (nl:=2) (Ab (BC (Aa (AE AF AQ)) (Gq (Bb AX (Bb AX Ey)) (BK (BK Dh)))) (Ab (CV (Aq (AW Cu (AW B2 AF AM) AM)) (Ax (Bu (AE AF (AE (Bu (AE AM (AE AM AQ))) (AE (AW CB AF AM) AQ)))) (by decide)) BY) (Ab (BC (Aa (AE (AW CB AF AM) AQ)) (Gq (Bb AX (Bb AX Ey)) (BK (BK Dh)))) (Ax (Bu (AE AF (AE AF (AE AF AQ)))) (by decide))))) rfl h⟩
theorem QP(F:Fun K "_law_stencil_of" "_law_stencil_of" B1 f fd)(z_range:mg "range"=none)(z_tuple:mg "tuple"=none):FnOk P w K mg base CX0 1 f fd ["_law_big_here"] (spD ⟨K,w⟩ FA false):=by
 have nd:=sc_L_stencil_of.nd
 refine F.ok sc_L_stencil_of (fun vs H Q E h=>BB Ak h) (fun cdv A outer s H vs Q E hr h=>?_)
 exact⟨_,(@AL _ _ _ _ _ (@Au _ _ 1 _ _ _ _ nd rfl Kk (@Ae _ _ _ _ _ _ _ _ E7 AH (@Ae _ _ _ _ _ _ _ _ BV (pvL 0 rfl CQ AK) AH)) ⋯ ⋯) (@AL _ _ _ _ _ (@Au _ _ 2 _ _ _ _ nd rfl Kj (@Ae _ _ _ _ _ _ _ _ E7 AH (@Ae _ _ _ _ _ _ _ _ BV (@Ae _ _ _ _ _ _ _ _ A3 (pvL 0 rfl CQ AK) AH) AH)) ⋯ ⋯) (@AL _ _ _ _ _ (@Au _ _ 0 _ _ _ _ nd rfl CQ (@Ae _ _ _ _ _ _ _ _ A3 (pvL 0 rfl CQ AK) AH) ⋯ ⋯) (@AL _ _ _ _ _ (@Au _ _ 3 _ _ _ _ nd rfl HN (@Ee _ _ _ _ AJ) ⋯ ⋯) (@AL _ _ _ _ _ (@HI _ _ _ _ _ _ _ _ PassesOwn.never rfl (@HJ _ _ _ _ _ _ IU z_range (AB (pvL 2 rfl Kj Vd) AJ ⋯) ⋯) (@Aw _ _ 4 _ nd rfl PH ⋯) (@AL _ _ _ _ _ (@Au _ _ 5 _ _ _ _ nd rfl FJ Aj ⋯ ⋯) (@AL _ _ _ _ _ (@HI _ _ _ _ _ _ _ _ PassesOwn.never rfl (@HJ _ _ _ _ _ _ IU z_range (AB (pvL 1 rfl Kk Va) AJ ⋯) ⋯) (@Aw _ _ 6 _ nd rfl PF ⋯) (@AL _ _ _ _ _ (@Au _ _ 5 _ _ _ _ nd rfl FJ (@Ae _ _ _ _ _ _ _ _ HK (pvL 5 rfl FJ Af) (@Az _ _ _ _ _ _ _ Xe Aj (@Ae _ _ _ _ _ _ _ _ BV (pvL 0 rfl CQ AK) AH) (fun _ _=>rfl))) ⋯ ⋯) (@AO _ _ _ (@Au _ _ 0 _ _ _ _ nd rfl CQ (@Ae _ _ _ _ _ _ _ _ A3 (pvL 0 rfl CQ AK) AH) ⋯ ⋯))) ⋯) (@AO _ _ _ (@Hl _ _ _ _ (@OD _ _ _ _ _ _ _ _ _ _ _ _ PySem.F.plainAttrs_list PySem.F.slot_list_append PySem.F.type_list_append Er (pvL 3 rfl HN BF) (AB (pvL 5 rfl FJ Af) AJ ⋯) ⋯ ⋯ ⋯ ⋯ ⋯) ⋯)))) ⋯) (@AO _ _ _ (@Ac _ _ _ _ (A9 (AB (@JG _ _ _ _ _ _ _ _ _ To MQ z_tuple PySem.Pv.boot_tuple (AB (pvL 3 rfl HN BF) AJ ⋯) HL Ji.1 ⋯ ⋯) (AB (pvL 0 rfl CQ AK) AJ ⋯) ⋯))))))))),BA (N:=["_law_big_here","_law_wide","_law_high","_law_rows","_law_j","_law_row","_law_i"]) (np:=1) (nl:=6) (Ab (BC (AW IA AM (AW B2 AF AM)) AX) (Ab (BC (AW IA AM (AW B2 (AW CB AF AM) AM)) AX) (Ab (BC (AW CB AF AM) AX) (Ab Sb (Ab (Lc (HZ (AE AF AQ)) AX (Ab (BC BS AX) (Ab (Lc (HZ (AE AF AQ)) AX (Ab (BC (AW O9 AF (AW bB BS (AW B2 AF AM))) AX) (BC (AW CB AF AM) AX))) (LX (VU (i:=3) Ga (AE AF AQ)))))) (Ax (SA (i:=3) (Bu (AE (B0 di (AE AF AQ)) (AE AF AQ)))) (by decide))))))) rfl h⟩
theorem Uo(F:Fun K "_law_size_of" "_law_size_of" H0 f fd):FnOk P w K mg base CX0 1 f fd ["_law_big_here","_law_most"] (spD ⟨K,w⟩ Dw false):=by
 have nd:=sc_L_size_of.nd
 refine F.ok sc_L_size_of (fun vs H Q E h=>BB Ak h) (fun cdv A outer s H vs Q E hr h=>?_)
 exact⟨_,(@AL _ _ _ _ _ (@BP _ _ _ _ _ _ _ _ (@Ah _ _ _ _ _ _ _ _ (@BN _ (CH hr)) (@Ae _ _ _ _ _ _ _ _ BV (pvL 0 rfl Fb AK) AH) AH (Ap _)) (@AO _ _ _ (@Ac _ _ _ _ (A9 (AB (@Ae _ _ _ _ _ _ _ _ E7 AH (@Ae _ _ _ _ _ _ _ _ BV (@Ae _ _ _ _ _ _ _ _ A3 (pvL 0 rfl Fb AK) AH) (pvL 1 rfl NG FP))) (AB (@Ae _ _ _ _ _ _ _ _ A3 (@Ae _ _ _ _ _ _ _ _ A3 (pvL 0 rfl Fb AK) AH) (pvL 1 rfl NG FP)) AJ ⋯) ⋯)))) As) (@AO _ _ _ (@Ac _ _ _ _ (A9 (AB (@Ae _ _ _ _ _ _ _ _ E7 AH (@Ae _ _ _ _ _ _ _ _ BV (@Ae _ _ _ _ _ _ _ _ A3 (pvL 0 rfl Fb AK) AH) AH)) (AB (@Ae _ _ _ _ _ _ _ _ A3 (pvL 0 rfl Fb AK) AH) AJ ⋯) ⋯))))),BA (N:=["_law_big_here","_law_most"]) (np:=2) (nl:=0) (Ab (CV (Aq (AW Cu (AW B2 AF AM) AM)) (Ax (Bu (AE (AW IA AM (AW B2 (AW CB AF AM) AF)) (AE (AW CB (AW CB AF AM) AF) AQ))) (by decide)) BY) (Ax (Bu (AE (AW IA AM (AW B2 (AW CB AF AM) AM)) (AE (AW CB AF AM) AQ))) (by decide))) rfl h⟩
theorem Ul(F:Fun K "_law_word_of" "_law_word_of" ES f fd)(z_range:mg "range"=none):FnOk P w K mg base CX0 1 f fd ["_law_big_here"] (spD ⟨K,w⟩ ID false):=by
 have nd:=sc_L_word_of.nd
 refine F.ok sc_L_word_of (fun vs H Q E h=>BB Ak h) (fun cdv A outer s H vs Q E hr h=>?_)
 exact⟨_,(@AL _ _ _ _ _ (@Au _ _ 1 _ _ _ _ nd rfl Ho Aj ⋯ ⋯) (@AL _ _ _ _ _ (@Au _ _ 2 _ _ _ _ nd rfl NF (@Ae _ _ _ _ _ _ _ _ BV (pvL 0 rfl EA AK) AH) ⋯ ⋯) (@AL _ _ _ _ _ (@Au _ _ 0 _ _ _ _ nd rfl EA (@Ae _ _ _ _ _ _ _ _ A3 (pvL 0 rfl EA AK) AH) ⋯ ⋯) (@AL _ _ _ _ _ (@HI _ _ _ _ _ _ _ _ PassesOwn.never rfl (@HJ _ _ _ _ _ _ Oa z_range (AB (pvL 2 rfl NF Oo) AJ ⋯) ⋯) (@Aw _ _ 3 _ nd rfl S7 ⋯) (@AL _ _ _ _ _ (@Au _ _ 1 _ _ _ _ nd rfl Ho (@Ae _ _ _ _ _ _ _ _ HK (pvL 1 rfl Ho LR) (@Az _ _ _ _ _ _ _ Xe Aj (@Ae _ _ _ _ _ _ _ _ BV (pvL 0 rfl EA AK) AH) (fun _ _=>rfl))) ⋯ ⋯) (@AO _ _ _ (@Au _ _ 0 _ _ _ _ nd rfl EA (@Ae _ _ _ _ _ _ _ _ A3 (pvL 0 rfl EA AK) AH) ⋯ ⋯))) ⋯) (@AO _ _ _ (@Ac _ _ _ _ (A9 (AB (pvL 1 rfl Ho LR) (AB (pvL 0 rfl EA AK) AJ ⋯) ⋯)))))))),BA (N:=["_law_big_here","_law_text","_law_size","_law_k"]) (np:=1) (nl:=3) (Ab (BC BS AX) (Ab (BC (AW B2 AF AM) AX) (Ab (BC (AW CB AF AM) AX) (Ab (Lc (HZ (AE AF AQ)) AX (Ab (BC (AW O9 AF (AW bB BS (AW B2 AF AM))) AX) (BC (AW CB AF AM) AX))) (Ax (Bu (AE AF (AE AF AQ))) (by decide)))))) rfl h⟩
theorem Ut(F:Fun K "_law_data_of" "_law_data_of" Bl f fd)(c12:Cal P w K mg base 3 "_law_size_of" ["_law_big_here","_law_most"] (spD ⟨K,w⟩ Dw false))(c08:Cal P w K mg base 3 "_law_step_of" ["_law_big_here"] (spD ⟨K,w⟩ Ce false))(c56:Cal P w K mg base 3 "_law_paint_of" ["_law_big_here"] (spD ⟨K,w⟩ Ej false))(c64:Cal P w K mg base 3 "_law_word_of" ["_law_big_here"] (spD ⟨K,w⟩ ID false))(c47:Cal P w K mg base 3 "_law_stencil_of" ["_law_big_here"] (spD ⟨K,w⟩ FA false)):FnOk P w K mg base CX0 4 f fd ["_law_kind","_law_big_here"] (spD ⟨K,w⟩ Bq false):=by
 have nd:=sc_L_data_of.nd
 refine F.ok sc_L_data_of (fun vs H Q E h=>BB Ak h) (fun cdv A outer s H vs Q E hr h=>?_)
 exact⟨_,(@AL _ _ _ _ _ (@BP _ _ _ _ _ _ _ _ (@Ah _ _ _ _ _ _ _ _ (@Lo _ (VM hr)) (pvL 0 rfl DH A7) (A9 (AB Aj (AB Aj AJ ⋯) ⋯)) (by with_unfolding_all rfl)) (@AO _ _ _ (@Ac _ _ _ _ (A9 (AB (A9 AJ) (AB (pvL 1 rfl Ag AK) AJ ⋯) ⋯)))) As) (@AL _ _ _ _ _ (@BP _ _ _ _ _ _ _ _ (@Ah _ _ _ _ _ _ _ _ (@BN _ (CH hr)) (pvL 0 rfl DH A7) Aj (Ap _)) (@AO _ _ _ (@Ac _ _ _ _ (A9 (AB (A9 (AB (@Ae _ _ _ _ _ _ _ _ BV (pvL 1 rfl Ag AK) AH) (AB (@CL _ _ _ _ _ _ _ _ (@BN _ (CH hr)) (@Ae _ _ _ _ _ _ _ _ BV (@Ae _ _ _ _ _ _ _ _ A3 (pvL 1 rfl Ag AK) AH) AH) AH (Ap _)) AJ ⋯) ⋯)) (AB (@Ae _ _ _ _ _ _ _ _ A3 (pvL 1 rfl Ag AK) AH) AJ ⋯) ⋯)))) As) (@AL _ _ _ _ _ (@BP _ _ _ _ _ _ _ _ (@Ah _ _ _ _ _ _ _ _ (@BN _ (CH hr)) (pvL 0 rfl DH A7) Aj (Ap _)) (@AL _ _ _ _ _ (@Au _ _ 2 _ _ _ _ nd rfl Ep (A9 (AB (@Ae _ _ _ _ _ _ _ _ E7 AH (@Ae _ _ _ _ _ _ _ _ BV (pvL 1 rfl Ag AK) AH)) (AB (@Ae _ _ _ _ _ _ _ _ E7 AH (@Ae _ _ _ _ _ _ _ _ BV (@Ae _ _ _ _ _ _ _ _ A3 (pvL 1 rfl Ag AK) AH) AH)) (AB (@Ae _ _ _ _ _ _ _ _ O6 (@Ae _ _ _ _ _ _ _ _ BV (@Ae _ _ _ _ _ _ _ _ A3 (pvL 1 rfl Ag AK) AH) AH) AH) (AB (@Ae _ _ _ _ _ _ _ _ O6 (@Ae _ _ _ _ _ _ _ _ BV (@Ae _ _ _ _ _ _ _ _ A3 (pvL 1 rfl Ag AK) AH) AH) AH) AJ ⋯) ⋯) ⋯) ⋯)) ⋯ ⋯) (@AL _ _ _ _ _ (@BP _ _ _ _ _ _ _ _ (@Ah _ _ _ _ _ _ _ _ OF (@Ae _ _ _ _ _ _ _ _ BV (@Ae _ _ _ _ _ _ _ _ A3 (pvL 1 rfl Ag AK) AH) AH) AH (Ap _)) (@AO _ _ _ (@Au _ _ 2 _ _ _ _ nd rfl Ep (@Ae _ _ _ _ _ _ _ _ K6 (@FV _ _ _ _ _ _ _ _ _ _ Lj (pvL 2 rfl Ep A8) Hn (@Hm _ _ _ AH)) (A9 (AB (@Ae _ _ _ _ _ _ _ _ BV (@Az _ _ _ _ _ _ _ An (pvL 2 rfl Ep A8) AH (fun _ _=>rfl)) AH) (AB (@Ae _ _ _ _ _ _ _ _ BV (@Az _ _ _ _ _ _ _ An (pvL 2 rfl Ep A8) AH (fun _ _=>rfl)) AH) AJ ⋯) ⋯))) ⋯ ⋯)) As) (@AO _ _ _ (@Ac _ _ _ _ (A9 (AB (pvL 2 rfl Ep A8) (AB (@Ae _ _ _ _ _ _ _ _ A3 (pvL 1 rfl Ag AK) AH) AJ ⋯) ⋯)))))) As) (@AL _ _ _ _ _ (@BP _ _ _ _ _ _ _ _ (@Ah _ _ _ _ _ _ _ _ (@BN _ (CH hr)) (pvL 0 rfl DH A7) Aj (Ap _)) (@AL _ _ _ _ _ (@Ec _ _ _ _ _ _ (AS c12 hr Cp (AB (pvL 1 rfl Ag AK) (AB AH AJ ⋯) ⋯) Fl.1 ⋯ ⋯) (Ew rfl (BJ (@Aw _ _ 3 _ nd rfl Hs ⋯) (BJ (@Aw _ _ 1 _ nd rfl Ag ⋯) Dg ⋯) ⋯) ⋯ ⋯) ⋯ ⋯ ⋯) (@AL _ _ _ _ _ (@Ec _ _ _ _ _ _ (AS c12 hr Cp (AB (pvL 1 rfl Ag AK) (AB AH AJ ⋯) ⋯) Fl.1 ⋯ ⋯) (Ew rfl (BJ (@Aw _ _ 4 _ nd rfl Hr ⋯) (BJ (@Aw _ _ 1 _ nd rfl Ag ⋯) Dg ⋯) ⋯) ⋯ ⋯) ⋯ ⋯ ⋯) (@AL _ _ _ _ _ (@Ec _ _ _ _ _ _ (AS c08 hr Fg (AB (pvL 1 rfl Ag AK) AJ ⋯) Fj.1 ⋯ ⋯) (Ew rfl (BJ (@Aw _ _ 5 _ nd rfl NM ⋯) (BJ (@Aw _ _ 1 _ nd rfl Ag ⋯) Dg ⋯) ⋯) ⋯ ⋯) ⋯ ⋯ ⋯) (@AL _ _ _ _ _ (@Ec _ _ _ _ _ _ (AS c08 hr Fg (AB (pvL 1 rfl Ag AK) AJ ⋯) Fj.1 ⋯ ⋯) (Ew rfl (BJ (@Aw _ _ 6 _ nd rfl NL ⋯) (BJ (@Aw _ _ 1 _ nd rfl Ag ⋯) Dg ⋯) ⋯) ⋯ ⋯) ⋯ ⋯ ⋯) (@AO _ _ _ (@Ac _ _ _ _ (A9 (AB (A9 (AB (pvL 3 rfl Hs UM) (AB (pvL 4 rfl Hr UN) (AB (pvL 5 rfl NM Xt) (AB (pvL 6 rfl NL Xs) AJ ⋯) ⋯) ⋯) ⋯)) (AB (pvL 1 rfl Ag AK) AJ ⋯) ⋯)))))))) As) (@AL _ _ _ _ _ (@Ec _ _ _ _ _ _ (AS c56 hr Jn (AB (pvL 1 rfl Ag AK) AJ ⋯) Pw.1 ⋯ ⋯) (Ew rfl (BJ (@Aw _ _ 7 _ nd rfl Fe ⋯) (BJ (@Aw _ _ 8 _ nd rfl Eo ⋯) (BJ (@Aw _ _ 1 _ nd rfl Ag ⋯) Dg ⋯) ⋯) ⋯) ⋯ ⋯) ⋯ ⋯ ⋯) (@AL _ _ _ _ _ (@BP _ _ _ _ _ _ _ _ (@Ah _ _ _ _ _ _ _ _ (@BN _ (CH hr)) (pvL 0 rfl DH A7) Aj (Ap _)) (@AO _ _ _ (@Ac _ _ _ _ (A9 (AB (A9 (AB (pvL 8 rfl Eo Et) AJ ⋯)) (AB (pvL 1 rfl Ag AK) AJ ⋯) ⋯)))) As) (@AL _ _ _ _ _ (@BP _ _ _ _ _ _ _ _ (@Ah _ _ _ _ _ _ _ _ (@BN _ (CH hr)) (pvL 0 rfl DH A7) Aj (Ap _)) (@AL _ _ _ _ _ (@Ec _ _ _ _ _ _ (AS c12 hr Cp (AB (pvL 1 rfl Ag AK) (AB AH AJ ⋯) ⋯) Fl.1 ⋯ ⋯) (Ew rfl (BJ (@Aw _ _ 3 _ nd rfl Hs ⋯) (BJ (@Aw _ _ 1 _ nd rfl Ag ⋯) Dg ⋯) ⋯) ⋯ ⋯) ⋯ ⋯ ⋯) (@AL _ _ _ _ _ (@Ec _ _ _ _ _ _ (AS c12 hr Cp (AB (pvL 1 rfl Ag AK) (AB AH AJ ⋯) ⋯) Fl.1 ⋯ ⋯) (Ew rfl (BJ (@Aw _ _ 4 _ nd rfl Hr ⋯) (BJ (@Aw _ _ 1 _ nd rfl Ag ⋯) Dg ⋯) ⋯) ⋯ ⋯) ⋯ ⋯ ⋯) (@AO _ _ _ (@Ac _ _ _ _ (A9 (AB (A9 (AB (pvL 3 rfl Hs UM) (AB (pvL 4 rfl Hr UN) (AB (pvL 7 rfl Fe Eu) (AB (pvL 8 rfl Eo Et) AJ ⋯) ⋯) ⋯) ⋯)) (AB (pvL 1 rfl Ag AK) AJ ⋯) ⋯)))))) As) (@AL _ _ _ _ _ (@BP _ _ _ _ _ _ _ _ (@Ah _ _ _ _ _ _ _ _ (@BN _ (CH hr)) (pvL 0 rfl DH A7) Aj (Ap _)) (@AO _ _ _ (@Ac _ _ _ _ (A9 (AB (A9 (AB (@Ae _ _ _ _ _ _ _ _ O6 (@Ae _ _ _ _ _ _ _ _ BV (pvL 1 rfl Ag AK) AH) AH) (AB (@Ae _ _ _ _ _ _ _ _ O6 (@Ae _ _ _ _ _ _ _ _ BV (@Ae _ _ _ _ _ _ _ _ A3 (pvL 1 rfl Ag AK) AH) AH) AH) (AB (pvL 7 rfl Fe Eu) (AB (pvL 8 rfl Eo Et) AJ ⋯) ⋯) ⋯) ⋯)) (AB (@Ae _ _ _ _ _ _ _ _ A3 (pvL 1 rfl Ag AK) AH) AJ ⋯) ⋯)))) As) (@AL _ _ _ _ _ (@BP _ _ _ _ _ _ _ _ (@Ah _ _ _ _ _ _ _ _ (@BN _ (CH hr)) (pvL 0 rfl DH A7) Aj (Ap _)) (@AL _ _ _ _ _ (@Ec _ _ _ _ _ _ (AS c64 hr KS (AB (pvL 1 rfl Ag AK) AJ ⋯) Qk.1 ⋯ ⋯) (Ew rfl (BJ (@Aw _ _ 9 _ nd rfl NK ⋯) (BJ (@Aw _ _ 1 _ nd rfl Ag ⋯) Dg ⋯) ⋯) ⋯ ⋯) ⋯ ⋯ ⋯) (@AO _ _ _ (@Ac _ _ _ _ (A9 (AB (A9 (AB (pvL 9 rfl NK LR) (AB (pvL 7 rfl Fe Eu) (AB (pvL 8 rfl Eo Et) AJ ⋯) ⋯) ⋯)) (AB (pvL 1 rfl Ag AK) AJ ⋯) ⋯))))) As) (@AL _ _ _ _ _ (@Ec _ _ _ _ _ _ (AS c47 hr JC (AB (pvL 1 rfl Ag AK) AJ ⋯) Nz.1 ⋯ ⋯) (Ew rfl (BJ (@Aw _ _ 10 _ nd rfl MC ⋯) (BJ (@Aw _ _ 1 _ nd rfl Ag ⋯) Dg ⋯) ⋯) ⋯ ⋯) ⋯ ⋯ ⋯) (@AO _ _ _ (@Ac _ _ _ _ (A9 (AB (A9 (AB (pvL 10 rfl MC BF) (AB (pvL 7 rfl Fe Eu) (AB (pvL 8 rfl Eo Et) AJ ⋯) ⋯) ⋯)) (AB (pvL 1 rfl Ag AK) AJ ⋯) ⋯)))))))))))))),BA (N:=["_law_kind","_law_big_here","_law_data","_law_w","_law_h","_law_sx","_law_sy","_law_shade","_law_share","_law_text","_law_rows"]) (np:=2) (nl:=9) (Ab (CV (Aq (AW Uw AF (Bu (AE BS (AE BS AQ))))) (Ax (Bu (AE (Bu AQ) (AE AF AQ))) (by decide)) BY) (Ab (CV (Aq (AW Cu AF BS)) (Ax (Bu (AE (Bu (AE (AW B2 AF AM) (AE (AW Cu (AW B2 (AW CB AF AM) AM) AM) AQ))) (AE (AW CB AF AM) AQ))) (by decide)) BY) (Ab (CV (Aq (AW Cu AF BS)) (Ab (BC (Bu (AE (AW IA AM (AW B2 AF AM)) (AE (AW IA AM (AW B2 (AW CB AF AM) AM)) (AE (AW T1 (AW B2 (AW CB AF AM) AM) AM) (AE (AW T1 (AW B2 (AW CB AF AM) AM) AM) AQ))))) AX) (Ab (CV (Aq (AW Ux (AW B2 (AW CB AF AM) AM) AM)) (BC (AW NX (QD AF NC (Sv AM)) (Bu (AE (AW B2 (AW A5 AF AM) AM) (AE (AW B2 (AW A5 AF AM) AM) AQ)))) AX) BY) (Ax (Bu (AE AF (AE (AW CB AF AM) AQ))) (by decide)))) BY) (Ab (CV (Aq (AW Cu AF BS)) (Ab (BC (Aa (AE AF (AE AM AQ))) (Gq (Bb AX (Bb AX Ey)) (BK (BK Dh)))) (Ab (BC (Aa (AE AF (AE AM AQ))) (Gq (Bb AX (Bb AX Ey)) (BK (BK Dh)))) (Ab (BC (Aa (AE AF AQ)) (Gq (Bb AX (Bb AX Ey)) (BK (BK Dh)))) (Ab (BC (Aa (AE AF AQ)) (Gq (Bb AX (Bb AX Ey)) (BK (BK Dh)))) (Ax (Bu (AE (Bu (AE AF (AE AF (AE AF (AE AF AQ))))) (AE AF AQ))) (by decide)))))) BY) (Ab (BC (Aa (AE AF AQ)) (Gq (Bb AX (Bb AX (Bb AX Ey))) (BK (BK (BK Dh))))) (Ab (CV (Aq (AW Cu AF BS)) (Ax (Bu (AE (Bu (AE AF AQ)) (AE AF AQ))) (by decide)) BY) (Ab (CV (Aq (AW Cu AF BS)) (Ab (BC (Aa (AE AF (AE AM AQ))) (Gq (Bb AX (Bb AX Ey)) (BK (BK Dh)))) (Ab (BC (Aa (AE AF (AE AM AQ))) (Gq (Bb AX (Bb AX Ey)) (BK (BK Dh)))) (Ax (Bu (AE (Bu (AE AF (AE AF (AE AF (AE AF AQ))))) (AE AF AQ))) (by decide)))) BY) (Ab (CV (Aq (AW Cu AF BS)) (Ax (Bu (AE (Bu (AE (AW T1 (AW B2 AF AM) AM) (AE (AW T1 (AW B2 (AW CB AF AM) AM) AM) (AE AF (AE AF AQ))))) (AE (AW CB AF AM) AQ))) (by decide)) BY) (Ab (CV (Aq (AW Cu AF BS)) (Ab (BC (Aa (AE AF AQ)) (Gq (Bb AX (Bb AX Ey)) (BK (BK Dh)))) (Ax (Bu (AE (Bu (AE AF (AE AF (AE AF AQ)))) (AE AF AQ))) (by decide))) BY) (Ab (BC (Aa (AE AF AQ)) (Gq (Bb AX (Bb AX Ey)) (BK (BK Dh)))) (Ax (Bu (AE (Bu (AE AF (AE AF (AE AF AQ)))) (AE AF AQ))) (by decide)))))))))))) rfl h⟩
theorem XW(F:Fun K "_law_kinds" "_law_kinds" Mi f fd):FnOk P w K mg base CX0 1 f fd [] (spD ⟨K,w⟩ Dm false):=by
 have nd:=sc_L_kinds.nd
 refine F.ok sc_L_kinds (fun vs H Q E h=>BB Ak h) (fun cdv A outer s H vs Q E hr h=>?_)
 exact⟨_,(@AL _ _ _ _ _ (@Au _ _ 0 _ _ _ _ nd rfl P8 (A9 (AB Aj (AB Aj (AB Aj (AB Aj (AB Aj (AB Aj AJ ⋯) ⋯) ⋯) ⋯) ⋯) ⋯)) ⋯ ⋯) (@AO _ _ _ (@Ac _ _ _ _ (@Ae _ _ _ _ _ _ _ _ K6 (pvL 0 rfl P8 SH) (A9 (AB Aj (AB Aj (AB Aj (AB Aj (AB Aj (AB Aj AJ ⋯) ⋯) ⋯) ⋯) ⋯) ⋯)))))),BA (N:=["_law_leaves"]) (np:=0) (nl:=1) (Ab (BC (Bu (AE BS (AE BS (AE BS (AE BS (AE BS (AE BS AQ))))))) AX) (Ax (AW NX AF (Bu (AE BS (AE BS (AE BS (AE BS (AE BS (AE BS AQ)))))))) (by decide))) rfl h⟩
theorem V7(F:Fun K "_law_row_of" "_law_row_of" Bh f fd)(c65:Cal P w K mg base 4 "_law_name_of" ["_law_big_here"] (spD ⟨K,w⟩ IF false))(c92:Cal P w K mg base 4 "_law_up" ["_law_rows","_law_name"] (spD ⟨K,w⟩ LF true))(c21:Cal P w K mg base 4 "_law_kinds" [] (spD ⟨K,w⟩ Dm false))(c08:Cal P w K mg base 4 "_law_step_of" ["_law_big_here"] (spD ⟨K,w⟩ Ce false))(c66:Cal P w K mg base 4 "_law_data_of" ["_law_kind","_law_big_here"] (spD ⟨K,w⟩ Bq false))(z_len:mg "len"=none):FnOk P w K mg base CX0 5 f fd ["_law_rows","_law_big_here"] (spD ⟨K,w⟩ HW false):=by
 have nd:=sc_L_row_of.nd
 refine F.ok sc_L_row_of (fun vs H Q E h=>BB Ak h) (fun cdv A outer s H vs Q E hr h=>?_)
 exact⟨_,(@AL _ _ _ _ _ (@Ec _ _ _ _ _ _ (AS c65 hr Kp (AB (pvL 1 rfl By AK) AJ ⋯) Ql.1 ⋯ ⋯) (Ew rfl (BJ (@Aw _ _ 2 _ nd rfl OM ⋯) (BJ (@Aw _ _ 1 _ nd rfl By ⋯) Dg ⋯) ⋯) ⋯ ⋯) ⋯ ⋯ ⋯) (@AL _ _ _ _ _ (@Au _ _ 3 _ _ _ _ nd rfl Eg (@Ee _ _ _ _ (AB Aj AJ ⋯)) ⋯ ⋯) (@AL _ _ _ _ _ (@HI _ _ _ _ _ _ _ _ PassesOwn.never rfl (@Ed _ _ _ _ (pvL 0 rfl Iz BF)) (@Aw _ _ 4 _ nd rfl Iy ⋯) (@AO _ _ _ (@BP _ _ _ _ _ _ _ _ (PW.pt (@KC _ _ _ _ _ _ _ (@Ah _ _ _ _ _ _ _ _ (@Lo _ (VM hr)) (@Az _ _ _ _ _ _ _ An (pvL 4 rfl Iy Af) AH (fun _ _=>rfl)) (@FV _ _ _ _ _ _ _ _ _ _ Lj (@O1 _ _ _ _ _ _ _ c21 hr Gv KY.1) (@Hm _ _ _ AH) Hn) (by with_unfolding_all rfl)) (@Hk _ _ _ _ (@Ah _ _ _ _ _ _ _ _ YU (Ad BL Gg z_len PySem.boot_len (AB (AS c92 hr Jg (AB (pvL 0 rfl Iz BF) (AB (@Az _ _ _ _ _ _ _ An (pvL 4 rfl Iy Af) AH (fun _ _=>rfl)) AJ ⋯) ⋯) SF.1 ⋯ ⋯) AJ ⋯) Ba B7.1 ⋯ ⋯) AH (Ap _))))) (@AO _ _ _ (@Hl _ _ _ _ (@OD _ _ _ _ _ _ _ _ _ _ _ _ PySem.F.plainAttrs_list PySem.F.slot_list_append PySem.F.type_list_append Er (pvL 3 rfl Eg Dr) (AB (@Az _ _ _ _ _ _ _ An (pvL 4 rfl Iy Af) AH (fun _ _=>rfl)) AJ ⋯) ⋯ ⋯ ⋯ ⋯ ⋯) ⋯)) As)) ⋯) (@AL _ _ _ _ _ (@Au _ _ 5 _ _ _ _ nd rfl Iw (@Az _ _ _ _ _ _ _ OS (pvL 3 rfl Eg Dr) (@Ae _ _ _ _ _ _ _ _ BV (pvL 1 rfl By AK) (Ad BL Gg z_len PySem.boot_len (AB (pvL 3 rfl Eg Dr) AJ ⋯) Ba B7.1 ⋯ ⋯)) (fun _ _=>rfl)) ⋯ ⋯) (@AL _ _ _ _ _ (@BP _ _ _ _ _ _ _ _ (@Ah _ _ _ _ _ _ _ _ (@BN _ (CH hr)) (@Ae _ _ _ _ _ _ _ _ BV (@Ae _ _ _ _ _ _ _ _ A3 (pvL 1 rfl By AK) (Ad BL Gg z_len PySem.boot_len (AB (pvL 3 rfl Eg Dr) AJ ⋯) Ba B7.1 ⋯ ⋯)) AH) AH (Ap _)) (@AO _ _ _ (@Au _ _ 5 _ _ _ _ nd rfl Iw (@Az _ _ _ _ _ _ _ OS (pvL 3 rfl Eg Dr) (@JT _ _ _ _ _ _ Fn AH) (fun _ _=>rfl)) ⋯ ⋯)) As) (@AL _ _ _ _ _ (@Au _ _ 1 _ _ _ _ nd rfl By (@Ae _ _ _ _ _ _ _ _ A3 (@Ae _ _ _ _ _ _ _ _ A3 (pvL 1 rfl By AK) (Ad BL Gg z_len PySem.boot_len (AB (pvL 3 rfl Eg Dr) AJ ⋯) Ba B7.1 ⋯ ⋯)) AH) ⋯ ⋯) (@AL _ _ _ _ _ (@Ec _ _ _ _ _ _ (AS c08 hr GK (AB (pvL 1 rfl By AK) AJ ⋯) Fj.1 ⋯ ⋯) (Ew rfl (BJ (@Aw _ _ 6 _ nd rfl OL ⋯) (BJ (@Aw _ _ 1 _ nd rfl By ⋯) Dg ⋯) ⋯) ⋯ ⋯) ⋯ ⋯ ⋯) (@AL _ _ _ _ _ (@Ec _ _ _ _ _ _ (AS c08 hr GK (AB (pvL 1 rfl By AK) AJ ⋯) Fj.1 ⋯ ⋯) (Ew rfl (BJ (@Aw _ _ 7 _ nd rfl OK ⋯) (BJ (@Aw _ _ 1 _ nd rfl By ⋯) Dg ⋯) ⋯) ⋯ ⋯) ⋯ ⋯ ⋯) (@AL _ _ _ _ _ (@Au _ _ 8 _ _ _ _ nd rfl GX (@Az _ _ _ _ _ _ _ An (@O1 _ _ _ _ _ _ _ c21 hr Gv KY.1) (@Ae _ _ _ _ _ _ _ _ BV (pvL 1 rfl By AK) AH) (fun _ _=>rfl)) ⋯ ⋯) (@AL _ _ _ _ _ (@Au _ _ 9 _ _ _ _ nd rfl VF (AS c92 hr Jg (AB (pvL 0 rfl Iz BF) (AB (pvL 5 rfl Iw Jj) AJ ⋯) ⋯) SF.1 ⋯ ⋯) ⋯ ⋯) (@AL _ _ _ _ _ (@BP _ _ _ _ _ _ _ _ (PW.pt (@KC _ _ _ _ _ _ _ (@Ah _ _ _ _ _ _ _ _ (@BN _ (CH hr)) (pvL 8 rfl GX A7) Aj (Ap _)) (@Hk _ _ _ _ (@Ah _ _ _ _ _ _ _ _ (@FR _ (CH hr)) (@Kh _ ["_law_row","_law_up_here"] 1 [9] _ _ _ _ _ _ _ _ _ _ rfl (@II _ ["_law_row","_law_up_here"] 1 [9] _ ["_law_rows","_law_big_here","_law_name","_law_holders","_law_row","_law_holder","_law_x","_law_y","_law_kind","_law_up_here","_law_shown","_law_data"] (AR Bh) rfl rfl ∅) (@Ed _ _ _ _ (pvL 0 rfl Iz BF)) (fun cl fp s3 H3=>(@Aw _ _ 0 _ Uy rfl (CS ∅) (Or.inr (CZ ∅)))) (fun cl fp s3 H3=>(@Jr _ _ _ (PW.pt (@KC _ _ _ _ _ _ _ (@Ah _ _ _ _ _ _ _ _ (@Lo _ (VM hr)) (@Az _ _ _ _ _ _ _ An (pv 0 rfl (Bc ∅) Af.1 Af.2) AH (fun _ _=>rfl)) (pv 1 rfl (JO ∅) Fi.1 Fi.2) (by with_unfolding_all rfl)) (@Hk _ _ _ _ (@Ah _ _ _ _ _ _ _ _ (@BN _ (CH hr)) (@Az _ _ _ _ _ _ _ An (pv 0 rfl (Bc ∅) Af.1 Af.2) AH (fun _ _=>rfl)) Aj (Ap _))))))) (fun cl fp s3 H3=>(pv 0 rfl (Bc ∅) Af.1 Af.2)) ⋯) (@Ee _ _ _ _ AJ) (Ap _))))) (@AO _ _ _ (@Au _ _ 8 _ _ _ _ nd rfl GX Aj ⋯ ⋯)) As) (@AL _ _ _ _ _ (@Au _ _ 10 _ _ _ _ nd rfl NI (@CL _ _ _ _ _ _ _ _ OF (@Ae _ _ _ _ _ _ _ _ BV (@Ae _ _ _ _ _ _ _ _ A3 (pvL 1 rfl By AK) AH) AH) AH (Ap _)) ⋯ ⋯) (@AL _ _ _ _ _ (@Ec _ _ _ _ _ _ (AS c66 hr Kq (AB (pvL 8 rfl GX A7) (AB (@Ae _ _ _ _ _ _ _ _ A3 (pvL 1 rfl By AK) AH) AJ ⋯) ⋯) Qn.1 ⋯ ⋯) (Ew rfl (BJ (@Aw _ _ 11 _ nd rfl NH ⋯) (BJ (@Aw _ _ 1 _ nd rfl By ⋯) Dg ⋯) ⋯) ⋯ ⋯) ⋯ ⋯ ⋯) (@AO _ _ _ (@Ac _ _ _ _ (A9 (AB (A9 (AB (pvL 2 rfl OM Bz) (AB (pvL 5 rfl Iw Jj) (AB (pvL 6 rfl OL Zt) (AB (pvL 7 rfl OK Zs) (AB (pvL 10 rfl NI Tf) (AB (pvL 8 rfl GX A7) (AB (pvL 11 rfl NH A8) AJ ⋯) ⋯) ⋯) ⋯) ⋯) ⋯) ⋯)) (AB (pvL 1 rfl By AK) AJ ⋯) ⋯))))))))))))))))),BA (N:=["_law_rows","_law_big_here","_law_name","_law_holders","_law_row","_law_holder","_law_x","_law_y","_law_kind","_law_up_here","_law_shown","_law_data"]) (np:=2) (nl:=10) (Ab (BC (Aa (AE AF AQ)) (Gq (Bb AX (Bb AX Ey)) (BK (BK Dh)))) (Ab (X4 (R9 (AE BS AQ))) (Ab (Lc (EF AF) AX (CV (NB (Aq (AW Uw (AW A5 AF AM) (QD (Aa AQ) (Sv AM) NC))) (Aq (AW cy (B0 Cn (AE (Aa (AE AF (AE (AW A5 AF AM) AQ))) AQ)) AM))) (LX (VU (i:=3) Ga (AE (AW A5 AF AM) AQ))) BY)) (Ab (BC (SA (i:=3) (AW YV AF (AW B2 AF (B0 Cn (AE AF AQ))))) AX) (Ab (CV (YE (i:=3) (Aq (AW Cu (AW B2 (AW CB AF (B0 Cn (AE AF AQ))) AM) AM))) (BC (SA (i:=3) (AW YV AF (Nx JP AM))) AX) BY) (Ab (BC (SA (i:=3) (AW CB (AW CB AF (B0 Cn (AE AF AQ))) AM)) AX) (Ab (BC (Aa (AE AF AQ)) (Gq (Bb AX (Bb AX Ey)) (BK (BK Dh)))) (Ab (BC (Aa (AE AF AQ)) (Gq (Bb AX (Bb AX Ey)) (BK (BK Dh)))) (Ab (BC (AW A5 (Aa AQ) (AW B2 AF AM)) AX) (Ab (BC (Aa (AE AF (AE AF AQ))) AX) (Ab (CV (NB (Aq (AW Cu AF BS)) (Aq (AW Mu (MW (EF AF) AX (NB (Aq (AW Uw (AW A5 AF AM) AF)) (Aq (AW Cu (AW A5 AF AM) BS))) AF) (R9 AQ)))) (BC BS AX) BY) (Ab (BC (AW Ux (AW B2 (AW CB AF AM) AM) AM) AX) (Ab (BC (Aa (AE AF (AE (AW CB AF AM) AQ))) (Gq (Bb AX (Bb AX Ey)) (BK (BK Dh)))) (Ax (Bu (AE (Bu (AE AF (AE AF (AE AF (AE AF (AE AF (AE AF (AE AF AQ)))))))) (AE AF AQ))) (by decide))))))))))))))) rfl h⟩
theorem XU(F:Fun K "_law_other" "_law_other" EI f fd)(z_len:mg "len"=none):FnOk P w K mg base CX0 1 f fd ["_law_rows","_law_row","_law_big_here"] (spD ⟨K,w⟩ HX false):=by
 have nd:=sc_L_other.nd
 refine F.ok sc_L_other (fun vs H Q E h=>BB Ak h) (fun cdv A outer s H vs Q E hr h=>?_)
 exact⟨_,(@AL _ _ _ _ _ (@Au _ _ 3 _ _ _ _ nd rfl Jt (@Ae _ _ _ _ _ _ _ _ BV (pvL 2 rfl MA AK) AH) ⋯ ⋯) (@AL _ _ _ _ _ (@Au _ _ 4 _ _ _ _ nd rfl L9 (@Ae _ _ _ _ _ _ _ _ O7 (@Kh _ ["_law_one"] 1 [] _ _ _ _ _ _ _ _ _ _ rfl (@II _ ["_law_one"] 1 [] _ ["_law_rows","_law_row","_law_big_here","_law_kind","_law_names","_law_some"] (AR EI) rfl rfl ∅) (@Ed _ _ _ _ (pvL 0 rfl WL BF)) (fun cl fp s3 H3=>(@Aw _ _ 0 _ WE rfl (CS ∅) (Or.inr (CZ ∅)))) (fun cl fp s3 H3=>Io) (fun cl fp s3 H3=>(@Az _ _ _ _ _ _ _ An (pv 0 rfl (Bc ∅) BM.1 BM.2) AH (fun _ _=>rfl))) ⋯) (@Ee _ _ _ _ (AB Aj AJ ⋯))) ⋯ ⋯) (@AL _ _ _ _ _ (@Au _ _ 5 _ _ _ _ nd rfl L8 (@Az _ _ _ _ _ _ _ OS (pvL 4 rfl L9 Hw) (@Ae _ _ _ _ _ _ _ _ BV (@Ae _ _ _ _ _ _ _ _ A3 (pvL 2 rfl MA AK) AH) (Ad BL TR z_len PySem.boot_len (AB (pvL 4 rfl L9 Hw) AJ ⋯) Ba B7.1 ⋯ ⋯)) (fun _ _=>rfl)) ⋯ ⋯) (@AL _ _ _ _ _ (@BP _ _ _ _ _ _ _ _ (@Ah _ _ _ _ _ _ _ _ (@BN _ (CH hr)) (pvL 3 rfl Jt A7) AH (Ap _)) (@AO _ _ _ (@Ac _ _ _ _ (@Ae _ _ _ _ _ _ _ _ K6 (A9 (AB (pvL 5 rfl L8 Om) AJ ⋯)) (@FV _ _ _ _ _ _ _ _ _ _ Lj (pvL 1 rfl GD Af) (@Hm _ _ _ AH) Hn)))) As) (@AL _ _ _ _ _ (@BP _ _ _ _ _ _ _ _ (@Ah _ _ _ _ _ _ _ _ (@BN _ (CH hr)) (pvL 3 rfl Jt A7) AH (Ap _)) (@AO _ _ _ (@Ac _ _ _ _ (@Ae _ _ _ _ _ _ _ _ K6 (A9 (AB (@Az _ _ _ _ _ _ _ An (pvL 1 rfl GD Af) AH (fun _ _=>rfl)) (AB (pvL 5 rfl L8 Om) AJ ⋯) ⋯)) (@FV _ _ _ _ _ _ _ _ _ _ Lj (pvL 1 rfl GD Af) (@Hm _ _ _ AH) Hn)))) As) (@AL _ _ _ _ _ (@BP _ _ _ _ _ _ _ _ (@Ah _ _ _ _ _ _ _ _ (@BN _ (CH hr)) (pvL 3 rfl Jt A7) AH (Ap _)) (@AO _ _ _ (@Ac _ _ _ _ (@Ae _ _ _ _ _ _ _ _ K6 (@Ae _ _ _ _ _ _ _ _ K6 (@FV _ _ _ _ _ _ _ _ _ _ Lj (pvL 1 rfl GD Af) Hn (@Hm _ _ _ AH)) (A9 (AB (@Ae _ _ _ _ _ _ _ _ E7 AH (@Ae _ _ _ _ _ _ _ _ BV (@Ae _ _ _ _ _ _ _ _ A3 (pvL 2 rfl MA AK) AH) AH)) AJ ⋯))) (@FV _ _ _ _ _ _ _ _ _ _ Lj (pvL 1 rfl GD Af) (@Hm _ _ _ AH) Hn)))) As) (@AO _ _ _ (@Ac _ _ _ _ (pvL 1 rfl GD Af))))))))),BA (N:=["_law_rows","_law_row","_law_big_here","_law_kind","_law_names","_law_some"]) (np:=3) (nl:=3) (Ab (BC (AW B2 AF AM) AX) (Ab (BC (AW eg (MW (EF AF) AX N8 (AW A5 AF AM)) (R9 (AE BS AQ))) AX) (Ab (BC (AW YV AF (AW B2 (AW CB AF AM) (B0 Cn (AE AF AQ)))) AX) (Ab (CV (Aq (AW Cu AF AM)) (Ax (AW NX (Bu (AE AF AQ)) (QD AF (Sv AM) NC)) (by decide)) BY) (Ab (CV (Aq (AW Cu AF AM)) (Ax (AW NX (Bu (AE (AW A5 AF AM) (AE AF AQ))) (QD AF (Sv AM) NC)) (by decide)) BY) (Ab (CV (Aq (AW Cu AF AM)) (Ax (AW NX (AW NX (QD AF NC (Sv AM)) (Bu (AE (AW IA AM (AW B2 (AW CB AF AM) AM)) AQ))) (QD AF (Sv AM) NC)) (by decide)) BY) (Ax AF (by decide)))))))) rfl h⟩
theorem Vu(F:Fun K "row_name" "row_name" K0 f fd):FnOk P w K mg base CX0 1 f fd ["row"] (spD ⟨K,w⟩ Cb false):=by
 have nd:=sc_row_name.nd
 refine F.ok sc_row_name (fun vs H Q E h=>BB Ak h) (fun cdv A outer s H vs Q E hr h=>?_)
 exact⟨_,(@AO _ _ _ (@Ac _ _ _ _ (@Az _ _ _ _ _ _ _ An (pvL 0 rfl U1 Cf) AH (fun _ _=>rfl)))),BA (N:=["row"]) (np:=1) (nl:=0) (Ax (AW A5 AF AM) (by decide)) rfl h⟩
theorem Ug(F:Fun K "row_found" "row_found" E4 f fd)(c10:Cal P w K mg base 1 "row_name" ["row"] (spD ⟨K,w⟩ Cb false)):FnOk P w K mg base CX0 2 f fd ["rows","name"] (spD ⟨K,w⟩ B4 false):=by
 have nd:=sc_row_found.nd
 refine F.ok sc_row_found (fun vs H Q E h=>BB Ak h) (fun cdv A outer s H vs Q E hr h=>?_)
 exact⟨_,(@AL _ _ _ _ _ (@HI _ _ _ _ _ _ _ _ PassesOwn.never rfl (@Ed _ _ _ _ (pvL 0 rfl Sz J0)) (@Aw _ _ 2 _ nd rfl KG ⋯) (@AO _ _ _ (@BP _ _ _ _ _ _ _ _ (@Ah _ _ _ _ _ _ _ _ (@BN _ (CH hr)) (AS c10 hr MI (AB (pvL 2 rfl KG Cf) AJ ⋯) MX.1 ⋯ ⋯) (pvL 1 rfl Sy Mo) (Ap _)) (@AO _ _ _ (@Ac _ _ _ _ (pvL 2 rfl KG Cf))) As)) ⋯) (@AO _ _ _ (@Ac _ _ _ _ RJ))),BA (N:=["rows","name","row"]) (np:=2) (nl:=1) (Ab (Lc (EF AF) AX (CV (Aq (AW Cu (Aa (AE AF AQ)) AF)) (Ax AF (by decide)) BY)) (Ax Wi (by decide))) rfl h⟩
theorem Sm(F:Fun K "is_text_of" "is_text_of" CY f fd)(z_len:mg "len"=none)(z_str:mg "str"=none)(z_isinstance:mg "isinstance"=none)(z_all:mg "all"=none):FnOk P w K mg base CX0 1 f fd ["thing","signs","low","high"] (spD ⟨K,w⟩ Co false):=by
 have nd:=sc_is_text_of.nd
 refine F.ok sc_is_text_of (fun vs H Q E h=>BB Ak h) (fun cdv A outer s H vs Q E hr h=>?_)
 exact⟨_,(@AL _ _ _ _ _ (@BP _ _ _ _ _ _ _ _ (PW.pt (EU (B5 (B8 (Ad CU Kn z_isinstance PyProof.Rows.boot_isinstance (AB (pvL 0 rfl JV BO) (AB (Gp Pd z_str PySem.Pv.boot_str K7 Ny.1) AJ ⋯) ⋯) Av A1.1 ⋯ ⋯) ⋯)) (@Dj _ _ _ _ (B5 (@OB _ _ _ _ _ _ _ _ _ _ _ _ Ki Ki (pvL 2 rfl RW br) (Ad BL Pe z_len PySem.boot_len (AB (pvL 0 rfl JV BO) AJ ⋯) Ba B7.1 ⋯ ⋯) (pvL 3 rfl RV Yt) ⋯))))) (@AO _ _ _ (@Ac _ _ _ _ Ez)) As) (@AO _ _ _ (@Ac _ _ _ _ (Ad (@Mq _ rfl) Pf z_all PyProof.Rows.boot_all (AB (@Kh _ ["sign","signs"] 1 [1] _ _ _ _ _ _ _ _ _ _ rfl (@II _ ["sign","signs"] 1 [1] _ ["thing","signs","low","high"] (AR CY) rfl rfl ∅) (@XG _ _ _ _ (pvL 0 rfl JV BO)) (fun cl fp s3 H3=>(@Aw _ _ 0 _ RS rfl (CS ∅) (Or.inr (CZ ∅)))) (fun cl fp s3 H3=>Io) (fun cl fp s3 H3=>(@CL _ _ _ _ _ _ _ _ (@ZO _) (pv 0 rfl (Bc ∅) Oi.1 Oi.2) (pv 1 rfl (JO ∅) Wk.1 Wk.2) (by with_unfolding_all rfl))) ⋯) AJ ⋯) Qz VZ.1 ⋯ ⋯)))),BA (N:=["thing","signs","low","high"]) (np:=4) (nl:=0) (Ab (CV (Ib (Ck (Cs (IX (T:="str") AF))) (Ck (Aq (LP O8 O8 AF (B0 Cn (AE AF AQ)) AF)))) (Ax Jh (by decide)) BY) (Ax (B0 Vi (AE (MW (Xg AF) AX N8 (AW iO AF AF)) AQ)) (by decide))) rfl h⟩
theorem XR(F:Fun K "is_name" "is_name" JF f fd)(c18:Cal P w K mg base 1 "is_text_of" ["thing","signs","low","high"] (spD ⟨K,w⟩ Co false)){uv_NAME_SIGNS:Value}(kc_NAME_SIGNS:mg "NAME_SIGNS"=some uv_NAME_SIGNS)(kt_NAME_SIGNS:Cz ⟨K,w⟩ (.str "abcdefghijklmnopqrstuvwxyz0123456789") uv_NAME_SIGNS=true):FnOk P w K mg base CX0 2 f fd ["thing"] (spD ⟨K,w⟩ Es false):=by
 have nd:=sc_is_name.nd
 obtain⟨cv_NAME_SIGNS,rv_NAME_SIGNS,iv_NAME_SIGNS⟩:=SU kt_NAME_SIGNS
 refine F.ok sc_is_name (fun vs H Q E h=>BB Ak h) (fun cdv A outer s H vs Q E hr h=>?_)
 exact⟨_,(@AO _ _ _ (@Ac _ _ _ _ (AS c18 hr MM (AB (pvL 0 rfl WK BO) (AB (@EE _ _ cv_NAME_SIGNS _ _ MN kc_NAME_SIGNS rv_NAME_SIGNS Tj.1) (AB AH (AB AH AJ ⋯) ⋯) ⋯) ⋯) NV.1 ⋯ ⋯))),BA (N:=["thing"]) (np:=1) (nl:=0) (Ax (Aa (AE AF (AE (e_c iv_NAME_SIGNS) (AE AM (AE AM AQ))))) (by decide)) rfl h⟩
theorem Vy(F:Fun K "is_truth" "is_truth" G9 f fd)(z_bool:mg "bool"=none)(z_isinstance:mg "isinstance"=none):FnOk P w K mg base CX0 1 f fd ["thing"] (spD ⟨K,w⟩ Jb false):=by
 have nd:=sc_is_truth.nd
 refine F.ok sc_is_truth (fun vs H Q E h=>BB Ak h) (fun cdv A outer s H vs Q E hr h=>?_)
 exact⟨_,(@AO _ _ _ (@Ac _ _ _ _ (Ad CU Ld z_isinstance PyProof.Rows.boot_isinstance (AB (pvL 0 rfl U6 BO) (AB (Gp Qa z_bool PySem.Pv.boot_bool Lr Ol.1) AJ ⋯) ⋯) Av A1.1 ⋯ ⋯))),BA (N:=["thing"]) (np:=1) (nl:=0) (Ax (IX (T:="bool") AF) (by decide)) rfl h⟩
theorem Vx(F:Fun K "is_whole" "is_whole" Fo f fd)(z_bool:mg "bool"=none)(z_isinstance:mg "isinstance"=none)(z_int:mg "int"=none):FnOk P w K mg base CX0 1 f fd ["thing"] (spD ⟨K,w⟩ Ft false):=by
 have nd:=sc_is_whole.nd
 refine F.ok sc_is_whole (fun vs H Q E h=>BB Ak h) (fun cdv A outer s H vs Q E hr h=>?_)
 exact⟨_,(@AO _ _ _ (@Ac _ _ _ _ (CG (Ad CU Gs z_isinstance PyProof.Rows.boot_isinstance (AB (pvL 0 rfl OH BO) (AB (Gp Rn z_int PySem.Pv.boot_int YW bu.1) AJ ⋯) ⋯) Av A1.1 ⋯ ⋯) (C1 (@ag _ _ _ _ (Ad CU Gs z_isinstance PyProof.Rows.boot_isinstance (AB (pvL 0 rfl OH BO) (AB (Gp QZ z_bool PySem.Pv.boot_bool Lr Ol.1) AJ ⋯) ⋯) Av A1.1 ⋯ ⋯)))))),BA (N:=["thing"]) (np:=1) (nl:=0) (Ax (Cw (IX (T:="int") AF) (fJ (IX (T:="bool") AF))) (by decide)) rfl h⟩
theorem Uh(F:Fun K "is_within" "is_within" E5 f fd)(c15:Cal P w K mg base 1 "is_whole" ["thing"] (spD ⟨K,w⟩ Ft false)):FnOk P w K mg base CX0 2 f fd ["thing","low","high"] (spD ⟨K,w⟩ BH false):=by
 have nd:=sc_is_within.nd
 refine F.ok sc_is_within (fun vs H Q E h=>BB Ak h) (fun cdv A outer s H vs Q E hr h=>?_)
 exact⟨_,(@AO _ _ _ (@Ac _ _ _ _ (CG (AS c15 hr MK (AB (pvL 0 rfl ND BO) AJ ⋯) MY.1 ⋯ ⋯) (C1 (@RL _ _ _ _ _ _ _ _ _ _ _ _ Ki Ki (pvL 1 rfl S5 br) (pvL 0 rfl ND BO) (pvL 2 rfl S0 Yt) ⋯))))),BA (N:=["thing","low","high"]) (np:=3) (nl:=0) (Ax (Cw (Aa (AE AF AQ)) (LP O8 O8 AF AF AF)) (by decide)) rfl h⟩
theorem OG(F:Fun K "common_divisor" "common_divisor" CD f fd)(z_abs:mg "abs"=none):FnOk P w K mg base CX0 1 f fd ["one","other"] (spD ⟨K,w⟩ DN false):=by
 have nd:=sc_common_divisor.nd
 refine F.ok sc_common_divisor (fun vs H Q E h=>BB Ak h) (fun cdv A outer s H vs Q E hr h=>?_)
 exact⟨_,(@AL _ _ _ _ _ (@Au _ _ 2 _ _ _ _ nd rfl Ef (Ad SW IQ z_abs PyProof.Rows.boot_abs (AB (pvL 0 rfl Na gT) AJ ⋯) Uz Xr.1 ⋯ ⋯) ⋯ ⋯) (@AL _ _ _ _ _ (@Au _ _ 3 _ _ _ _ nd rfl DV (Ad SW IQ z_abs PyProof.Rows.boot_abs (AB (pvL 1 rfl NZ bq) AJ ⋯) Uz Xr.1 ⋯ ⋯) ⋯ ⋯) (@AL _ _ _ _ _ (@Ln _ _ _ _ _ _ PassesOwn.never (@Ah _ _ _ _ _ _ _ _ (@FR _ (CH hr)) (pvL 3 rfl DV SD) AH (Ap _)) (@AL _ _ _ _ _ (@Au _ _ 4 _ _ _ _ nd rfl JX (@Ae _ _ _ _ _ _ _ _ BV (pvL 2 rfl Ef bx) (pvL 3 rfl DV SD)) ⋯ ⋯) (@AL _ _ _ _ _ (@Au _ _ 2 _ _ _ _ nd rfl Ef (pvL 3 rfl DV SD) ⋯ ⋯) (@AO _ _ _ (@Au _ _ 3 _ _ _ _ nd rfl DV (pvL 4 rfl JX df) ⋯ ⋯))))) (@AO _ _ _ (@Ac _ _ _ _ (pvL 2 rfl Ef bx)))))),BA (N:=["one","other","big","small","rest"]) (np:=2) (nl:=3) (Ab (BC (B0 cG (AE AF AQ)) AX) (Ab (BC (B0 cG (AE AF AQ)) AX) (Ab (Ox (Aq (AW Mu AF AM)) (Ab (BC (AW B2 AF AF) AX) (Ab (BC AF AX) (BC AF AX)))) (Ax AF (by decide))))) rfl h⟩
theorem V0(F:Fun K "is_share" "is_share" DR f fd)(c15:Cal P w K mg base 1 "is_whole" ["thing"] (spD ⟨K,w⟩ Ft false))(c39:Cal P w K mg base 1 "common_divisor" ["one","other"] (spD ⟨K,w⟩ DN false))(z_len:mg "len"=none)(z_tuple:mg "tuple"=none)(z_isinstance:mg "isinstance"=none):FnOk P w K mg base CX0 2 f fd ["thing"] (spD ⟨K,w⟩ Jc false):=by
 have nd:=sc_is_share.nd
 refine F.ok sc_is_share (fun vs H Q E h=>BB Ak h) (fun cdv A outer s H vs Q E hr h=>?_)
 exact⟨_,(@AL _ _ _ _ _ (@BP _ _ _ _ _ _ _ _ (PW.pt (EU (B5 (B8 (Ad CU Lf z_isinstance PyProof.Rows.boot_isinstance (AB (pvL 0 rfl Iv BO) (AB (Gp Ph z_tuple PySem.Pv.boot_tuple HL Ji.1) AJ ⋯) ⋯) Av A1.1 ⋯ ⋯) ⋯)) (@Dj _ _ _ _ (@Ah _ _ _ _ _ _ _ _ (@FR _ (CH hr)) (Ad BL Ro z_len PySem.boot_len (AB (pvL 0 rfl Iv BO) AJ ⋯) Ba B7.1 ⋯ ⋯) AH (Ap _))))) (@AO _ _ _ (@Ac _ _ _ _ Ez)) As) (@AL _ _ _ _ _ (@Au _ _ 1 _ _ _ _ nd rfl Iu (@Az _ _ _ _ _ _ _ An (pvL 0 rfl Iv BO) AH (fun _ _=>rfl)) ⋯ ⋯) (@AL _ _ _ _ _ (@Au _ _ 2 _ _ _ _ nd rfl GV (@Az _ _ _ _ _ _ _ An (pvL 0 rfl Iv BO) AH (fun _ _=>rfl)) ⋯ ⋯) (@AL _ _ _ _ _ (@BP _ _ _ _ _ _ _ _ (PW.pt (EU (B5 (B8 (AS c15 hr Ii (AB (pvL 1 rfl Iu Xo) AJ ⋯) MY.1 ⋯ ⋯) ⋯)) (@Dj _ _ _ _ (B5 (B8 (AS c15 hr Ii (AB (pvL 2 rfl GV Mp) AJ ⋯) MY.1 ⋯ ⋯) ⋯))))) (@AO _ _ _ (@Ac _ _ _ _ Ez)) As) (@AO _ _ _ (@Ac _ _ _ _ (CG (@CL _ _ _ _ _ _ _ _ eW (pvL 2 rfl GV Mp) AH (Ap _)) (CG (@RL _ _ _ _ _ _ _ _ _ _ _ _ Ki Ki AH (pvL 1 rfl Iu Xo) (pvL 2 rfl GV Mp) ⋯) (C1 (@CL _ _ _ _ _ _ _ _ (@BN _ (CH hr)) (AS c39 hr Jl (AB (pvL 1 rfl Iu Xo) (AB (pvL 2 rfl GV Mp) AJ ⋯) ⋯) Oj.1 ⋯ ⋯) AH (Ap _))))))))))),BA (N:=["thing","top","bottom"]) (np:=1) (nl:=2) (Ab (CV (Ib (Ck (Cs (IX (T:="tuple") AF))) (Aq (AW Mu (B0 Cn (AE AF AQ)) AM))) (Ax Jh (by decide)) BY) (Ab (BC (AW A5 AF AM) AX) (Ab (BC (AW A5 AF AM) AX) (Ab (CV (Ib (Ck (Cs (Aa (AE AF AQ)))) (Ck (Cs (Aa (AE AF AQ))))) (Ax Jh (by decide)) BY) (Ax (Cw (AW iP AF AM) (Cw (LP O8 O8 AM AF AF) (AW Cu (Aa (AE AF (AE AF AQ))) AM))) (by decide)))))) rfl h⟩
theorem Ms(F:Fun K "is_bounded_share" "is_bounded_share" DU f fd)(c82:Cal P w K mg base 2 "is_share" ["thing"] (spD ⟨K,w⟩ Jc false)):FnOk P w K mg base CX0 3 f fd ["thing"] (spD ⟨K,w⟩ CC false):=by
 have nd:=sc_is_bounded_share.nd
 refine F.ok sc_is_bounded_share (fun vs H Q E h=>BB Ak h) (fun cdv A outer s H vs Q E hr h=>?_)
 exact⟨_,(@AO _ _ _ (@Ac _ _ _ _ (CG (AS c82 hr JB (AB (pvL 0 rfl IB BO) AJ ⋯) Wn.1 ⋯ ⋯) (C1 (@CL _ _ _ _ _ _ _ _ Ki (@Az _ _ _ _ _ _ _ An (pvL 0 rfl IB BO) AH (fun _ _=>rfl)) AH (Ap _)))))),BA (N:=["thing"]) (np:=1) (nl:=0) (Ax (Cw (Aa (AE AF AQ)) (AW O8 (AW A5 AF AM) AM)) (by decide)) rfl h⟩
theorem V3(F:Fun K "is_paint" "is_paint" HE f fd)(c03:Cal P w K mg base 3 "is_bounded_share" ["thing"] (spD ⟨K,w⟩ CC false)):FnOk P w K mg base CX0 4 f fd ["shade","share"] (spD ⟨K,w⟩ Cj false):=by
 have nd:=sc_is_paint.nd
 refine F.ok sc_is_paint (fun vs H Q E h=>BB Ak h) (fun cdv A outer s H vs Q E hr h=>?_)
 exact⟨_,(@AO _ _ _ (@Ac _ _ _ _ (CG (AS c03 hr E1 (AB (pvL 0 rfl VB bg) AJ ⋯) FT.1 ⋯ ⋯) (C1 (AS c03 hr E1 (AB (pvL 1 rfl VA bc) AJ ⋯) FT.1 ⋯ ⋯))))),BA (N:=["shade","share"]) (np:=2) (nl:=0) (Ax (Cw (Aa (AE AF AQ)) (Aa (AE AF AQ))) (by decide)) rfl h⟩
theorem V1(F:Fun K "is_plate" "is_plate" Fq f fd)(c05:Cal P w K mg base 4 "is_paint" ["shade","share"] (spD ⟨K,w⟩ Cj false))(c00:Cal P w K mg base 4 "is_within" ["thing","low","high"] (spD ⟨K,w⟩ BH false))(z_len:mg "len"=none):FnOk P w K mg base CX0 5 f fd ["data"] (spD ⟨K,w⟩ HS false):=by
 have nd:=sc_is_plate.nd
 refine F.ok sc_is_plate (fun vs H Q E h=>BB Ak h) (fun cdv A outer s H vs Q E hr h=>?_)
 exact⟨_,(@AL _ _ _ _ _ (@BP _ _ _ _ _ _ _ _ (PW.pt (EU (@Ah _ _ _ _ _ _ _ _ (@FR _ (CH hr)) (Ad BL Ru z_len PySem.boot_len (AB (pvL 0 rfl GW Bg) AJ ⋯) Ba B7.1 ⋯ ⋯) AH (Ap _)) (@Dj _ _ _ _ (B5 (B8 (AS c05 hr M5 (AB (@Az _ _ _ _ _ _ _ An (pvL 0 rfl GW Bg) AH (fun _ _=>rfl)) (AB (@Az _ _ _ _ _ _ _ An (pvL 0 rfl GW Bg) AH (fun _ _=>rfl)) AJ ⋯) ⋯) J5.1 ⋯ ⋯) ⋯))))) (@AO _ _ _ (@Ac _ _ _ _ Ez)) As) (@AO _ _ _ (@Ac _ _ _ _ (CG (AS c00 hr IM (AB (@Az _ _ _ _ _ _ _ An (pvL 0 rfl GW Bg) AH (fun _ _=>rfl)) (AB AH (AB AH AJ ⋯) ⋯) ⋯) CP.1 ⋯ ⋯) (C1 (AS c00 hr IM (AB (@Az _ _ _ _ _ _ _ An (pvL 0 rfl GW Bg) AH (fun _ _=>rfl)) (AB AH (AB AH AJ ⋯) ⋯) ⋯) CP.1 ⋯ ⋯)))))),BA (N:=["data"]) (np:=1) (nl:=0) (Ab (CV (Ib (Aq (AW Mu (B0 Cn (AE AF AQ)) AM)) (Ck (Cs (Aa (AE (AW A5 AF AM) (AE (AW A5 AF AM) AQ)))))) (Ax Jh (by decide)) BY) (Ax (Cw (Aa (AE (AW A5 AF AM) (AE AM (AE AM AQ)))) (Aa (AE (AW A5 AF AM) (AE AM (AE AM AQ))))) (by decide))) rfl h⟩
theorem XT(F:Fun K "is_band" "is_band" HG f fd)(c05:Cal P w K mg base 4 "is_paint" ["shade","share"] (spD ⟨K,w⟩ Cj false))(c00:Cal P w K mg base 4 "is_within" ["thing","low","high"] (spD ⟨K,w⟩ BH false))(z_len:mg "len"=none):FnOk P w K mg base CX0 5 f fd ["data"] (spD ⟨K,w⟩ JL false):=by
 have nd:=sc_is_band.nd
 refine F.ok sc_is_band (fun vs H Q E h=>BB Ak h) (fun cdv A outer s H vs Q E hr h=>?_)
 exact⟨_,(@AL _ _ _ _ _ (@BP _ _ _ _ _ _ _ _ (PW.pt (EU (@Ah _ _ _ _ _ _ _ _ (@FR _ (CH hr)) (Ad BL TN z_len PySem.boot_len (AB (pvL 0 rfl IC Bg) AJ ⋯) Ba B7.1 ⋯ ⋯) AH (Ap _)) (@Dj _ _ _ _ (B5 (B8 (AS c05 hr Nq (AB (@Az _ _ _ _ _ _ _ An (pvL 0 rfl IC Bg) AH (fun _ _=>rfl)) (AB (@Az _ _ _ _ _ _ _ An (pvL 0 rfl IC Bg) AH (fun _ _=>rfl)) AJ ⋯) ⋯) J5.1 ⋯ ⋯) ⋯))))) (@AO _ _ _ (@Ac _ _ _ _ Ez)) As) (@AO _ _ _ (@Ac _ _ _ _ (CG (AS c00 hr Ik (AB (@Az _ _ _ _ _ _ _ An (pvL 0 rfl IC Bg) AH (fun _ _=>rfl)) (AB (@JT _ _ _ _ _ _ Fn AH) (AB AH AJ ⋯) ⋯) ⋯) CP.1 ⋯ ⋯) (C1 (AS c00 hr Ik (AB (@Az _ _ _ _ _ _ _ An (pvL 0 rfl IC Bg) AH (fun _ _=>rfl)) (AB (@JT _ _ _ _ _ _ Fn AH) (AB AH AJ ⋯) ⋯) ⋯) CP.1 ⋯ ⋯)))))),BA (N:=["data"]) (np:=1) (nl:=0) (Ab (CV (Ib (Aq (AW Mu (B0 Cn (AE AF AQ)) AM)) (Ck (Cs (Aa (AE (AW A5 AF AM) (AE (AW A5 AF AM) AQ)))))) (Ax Jh (by decide)) BY) (Ax (Cw (Aa (AE (AW A5 AF AM) (AE (Nx JP AM) (AE AM AQ)))) (Aa (AE (AW A5 AF AM) (AE (Nx JP AM) (AE AM AQ))))) (by decide))) rfl h⟩
theorem XQ(F:Fun K "is_sign" "is_sign" Ke f fd){ad_SIGNS:Addr}(kc_SIGNS:mg "SIGNS"=some (.ref ad_SIGNS))(kd_SIGNS:KD ⟨K,w⟩ w ad_SIGNS Kb)(hs_SIGNS:(ad_SIGNS==sysModules)=false):FnOk P w K mg base CX0 1 f fd ["sign"] (spD ⟨K,w⟩ HR false):=by
 have nd:=sc_is_sign.nd
 refine F.ok sc_is_sign (fun vs H Q E h=>BB Ak h) (fun cdv A outer s H vs Q E hr h=>?_)
 exact⟨_,(@AO _ _ _ (@Ac _ _ _ _ (@CL _ _ _ _ _ _ _ _ (cq kd_SIGNS hs_SIGNS) (pvL 0 rfl WJ Oi) (@EE _ _ (.ref ad_SIGNS) _ _ Qb kc_SIGNS rfl bz.1) (by with_unfolding_all rfl)))),BA (N:=["sign"]) (np:=1) (nl:=0) (Ax (iq AF) (by decide)) rfl h⟩
theorem QO(F:Fun K "is_word_text" "is_word_text" CW f fd)(c93:Cal P w K mg base 1 "is_sign" ["sign"] (spD ⟨K,w⟩ HR false))(z_len:mg "len"=none)(z_str:mg "str"=none)(z_isinstance:mg "isinstance"=none)(z_all:mg "all"=none):FnOk P w K mg base CX0 2 f fd ["thing"] (spD ⟨K,w⟩ E9 false):=by
 have nd:=sc_is_word_text.nd
 refine F.ok sc_is_word_text (fun vs H Q E h=>BB Ak h) (fun cdv A outer s H vs Q E hr h=>?_)
 exact⟨_,(@AL _ _ _ _ _ (@BP _ _ _ _ _ _ _ _ (PW.pt (EU (B5 (B8 (Ad CU Jk z_isinstance PyProof.Rows.boot_isinstance (AB (pvL 0 rfl HM BO) (AB (Gp Nj z_str PySem.Pv.boot_str K7 Ny.1) AJ ⋯) ⋯) Av A1.1 ⋯ ⋯) ⋯)) (@Dj _ _ _ _ (@Ah _ _ _ _ _ _ _ _ OF (Ad BL Nk z_len PySem.boot_len (AB (pvL 0 rfl HM BO) AJ ⋯) Ba B7.1 ⋯ ⋯) AH (Ap _))))) (@AO _ _ _ (@Ac _ _ _ _ Ez)) As) (@AO _ _ _ (@Ac _ _ _ _ (Ad (@Mq _ rfl) Nl z_all PyProof.Rows.boot_all (AB (@Kh _ ["sign"] 1 [] _ _ _ _ _ _ _ _ _ _ rfl (@II _ ["sign"] 1 [] _ ["thing"] (AR CW) rfl rfl ∅) (@XG _ _ _ _ (pvL 0 rfl HM BO)) (fun cl fp s3 H3=>(@Aw _ _ 0 _ PB rfl (CS ∅) (Or.inr (CZ ∅)))) (fun cl fp s3 H3=>Io) (fun cl fp s3 H3=>(AS c93 hr (Jq ∅) (AB (pv 0 rfl (Bc ∅) Oi.1 Oi.2) AJ ⋯) Xp.1 ⋯ ⋯)) ⋯) AJ ⋯) Qz VZ.1 ⋯ ⋯)))),BA (N:=["thing"]) (np:=1) (nl:=0) (Ab (CV (Ib (Ck (Cs (IX (T:="str") AF))) (Aq (AW Ux (B0 Cn (AE AF AQ)) AM))) (Ax Jh (by decide)) BY) (Ax (B0 Vi (AE (MW (Xg AF) AX N8 (Aa (AE AF AQ))) AQ)) (by decide))) rfl h⟩
theorem XN(F:Fun K "is_word" "is_word" Gz f fd)(c05:Cal P w K mg base 4 "is_paint" ["shade","share"] (spD ⟨K,w⟩ Cj false))(c48:Cal P w K mg base 4 "is_word_text" ["thing"] (spD ⟨K,w⟩ E9 false))(z_len:mg "len"=none):FnOk P w K mg base CX0 5 f fd ["data"] (spD ⟨K,w⟩ JJ false):=by
 have nd:=sc_is_word.nd
 refine F.ok sc_is_word (fun vs H Q E h=>BB Ak h) (fun cdv A outer s H vs Q E hr h=>?_)
 exact⟨_,(@AO _ _ _ (@Ac _ _ _ _ (CG (@CL _ _ _ _ _ _ _ _ (@BN _ (CH hr)) (Ad BL TJ z_len PySem.boot_len (AB (pvL 0 rfl Js Bg) AJ ⋯) Ba B7.1 ⋯ ⋯) AH (Ap _)) (CG (AS c48 hr LJ (AB (@Az _ _ _ _ _ _ _ An (pvL 0 rfl Js Bg) AH (fun _ _=>rfl)) AJ ⋯) Qj.1 ⋯ ⋯) (C1 (AS c05 hr Nm (AB (@Az _ _ _ _ _ _ _ An (pvL 0 rfl Js Bg) AH (fun _ _=>rfl)) (AB (@Az _ _ _ _ _ _ _ An (pvL 0 rfl Js Bg) AH (fun _ _=>rfl)) AJ ⋯) ⋯) J5.1 ⋯ ⋯)))))),BA (N:=["data"]) (np:=1) (nl:=0) (Ax (Cw (AW Cu (B0 Cn (AE AF AQ)) AM) (Cw (Aa (AE (AW A5 AF AM) AQ)) (Aa (AE (AW A5 AF AM) (AE (AW A5 AF AM) AQ))))) (by decide)) rfl h⟩
theorem Mt(F:Fun K "are_stencil_rows" "are_stencil_rows" Bn f fd)(c18:Cal P w K mg base 1 "is_text_of" ["thing","signs","low","high"] (spD ⟨K,w⟩ Co false))(z_len:mg "len"=none)(z_tuple:mg "tuple"=none)(z_isinstance:mg "isinstance"=none)(z_all:mg "all"=none):FnOk P w K mg base CX0 2 f fd ["thing"] (spD ⟨K,w⟩ DZ false):=by
 have nd:=sc_are_stencil_rows.nd
 refine F.ok sc_are_stencil_rows (fun vs H Q E h=>BB Ak h) (fun cdv A outer s H vs Q E hr h=>?_)
 exact⟨_,(@AL _ _ _ _ _ (@BP _ _ _ _ _ _ _ _ (PW.pt (EU (B5 (B8 (Ad CU IS z_isinstance PyProof.Rows.boot_isinstance (AB (pvL 0 rfl Dv BO) (AB (Gp KQ z_tuple PySem.Pv.boot_tuple HL Ji.1) AJ ⋯) ⋯) Av A1.1 ⋯ ⋯) ⋯)) (@Dj _ _ _ _ (B5 (@OB _ _ _ _ _ _ _ _ _ _ _ _ Ki Ki AH (Ad BL LK z_len PySem.boot_len (AB (pvL 0 rfl Dv BO) AJ ⋯) Ba B7.1 ⋯ ⋯) AH ⋯))))) (@AO _ _ _ (@Ac _ _ _ _ Ez)) As) (@AL _ _ _ _ _ (@BP _ _ _ _ _ _ _ _ (B5 (B8 (Ad (@Mq _ rfl) Gf z_all PyProof.Rows.boot_all (AB (@Kh _ ["row"] 1 [] _ _ _ _ _ _ _ _ _ _ rfl (@II _ ["row"] 1 [] _ ["thing"] (AR Bn) rfl rfl ∅) (@XF _ _ _ _ (pvL 0 rfl Dv BO)) (fun cl fp s3 H3=>(@Aw _ _ 0 _ Lq rfl (CS ∅) (Or.inr (CZ ∅)))) (fun cl fp s3 H3=>Io) (fun cl fp s3 H3=>(AS c18 hr (Jq ∅) (AB (pv 0 rfl (Bc ∅) Cf.1 Cf.2) (AB Aj (AB AH (AB AH AJ ⋯) ⋯) ⋯) ⋯) NV.1 ⋯ ⋯)) ⋯) AJ ⋯) Qz VZ.1 ⋯ ⋯) ⋯)) (@AO _ _ _ (@Ac _ _ _ _ Ez)) As) (@AO _ _ _ (@Ac _ _ _ _ (Ad (@Mq _ rfl) Gf z_all PyProof.Rows.boot_all (AB (@Kh _ ["row","thing"] 1 [0] _ _ _ _ _ _ _ _ _ _ rfl (@II _ ["row","thing"] 1 [0] _ ["thing"] (AR Bn) rfl rfl ∅) (@XF _ _ _ _ (pvL 0 rfl Dv BO)) (fun cl fp s3 H3=>(@Aw _ _ 0 _ Lp rfl (CS ∅) (Or.inr (CZ ∅)))) (fun cl fp s3 H3=>Io) (fun cl fp s3 H3=>(@CL _ _ _ _ _ _ _ _ (@BN _ (CH hr)) (Ad BL (Jq ∅) z_len PySem.boot_len (AB (pv 0 rfl (Bc ∅) Cf.1 Cf.2) AJ ⋯) Ba B7.1 ⋯ ⋯) (Ad BL (Jq ∅) z_len PySem.boot_len (AB (@Az _ _ _ _ _ _ _ An (pv 1 rfl (JO ∅) BO.1 BO.2) AH (fun _ _=>rfl)) AJ ⋯) Ba B7.1 ⋯ ⋯) (Ap _))) ⋯) AJ ⋯) Qz VZ.1 ⋯ ⋯))))),BA (N:=["thing"]) (np:=1) (nl:=0) (Ab (CV (Ib (Ck (Cs (IX (T:="tuple") AF))) (Ck (Aq (LP O8 O8 AM (B0 Cn (AE AF AQ)) AM)))) (Ax Jh (by decide)) BY) (Ab (CV (Ck (Cs (B0 Vi (AE (MW (Xf AF) AX N8 (Aa (AE AF (AE BS (AE AM (AE AM AQ)))))) AQ)))) (Ax Jh (by decide)) BY) (Ax (B0 Vi (AE (MW (Xf AF) AX N8 (AW Cu (B0 Cn (AE AF AQ)) (B0 Cn (AE (AW A5 AF AM) AQ)))) AQ)) (by decide)))) rfl h⟩
theorem Sn(F:Fun K "is_stencil" "is_stencil" EY f fd)(c05:Cal P w K mg base 4 "is_paint" ["shade","share"] (spD ⟨K,w⟩ Cj false))(c29:Cal P w K mg base 4 "are_stencil_rows" ["thing"] (spD ⟨K,w⟩ DZ false))(z_len:mg "len"=none):FnOk P w K mg base CX0 5 f fd ["data"] (spD ⟨K,w⟩ FK false):=by
 have nd:=sc_is_stencil.nd
 refine F.ok sc_is_stencil (fun vs H Q E h=>BB Ak h) (fun cdv A outer s H vs Q E hr h=>?_)
 exact⟨_,(@AO _ _ _ (@Ac _ _ _ _ (CG (@CL _ _ _ _ _ _ _ _ (@BN _ (CH hr)) (Ad BL Pg z_len PySem.boot_len (AB (pvL 0 rfl GU Bg) AJ ⋯) Ba B7.1 ⋯ ⋯) AH (Ap _)) (CG (AS c29 hr IL (AB (@Az _ _ _ _ _ _ _ An (pvL 0 rfl GU Bg) AH (fun _ _=>rfl)) AJ ⋯) M9.1 ⋯ ⋯) (C1 (AS c05 hr Le (AB (@Az _ _ _ _ _ _ _ An (pvL 0 rfl GU Bg) AH (fun _ _=>rfl)) (AB (@Az _ _ _ _ _ _ _ An (pvL 0 rfl GU Bg) AH (fun _ _=>rfl)) AJ ⋯) ⋯) J5.1 ⋯ ⋯)))))),BA (N:=["data"]) (np:=1) (nl:=0) (Ax (Cw (AW Cu (B0 Cn (AE AF AQ)) AM) (Cw (Aa (AE (AW A5 AF AM) AQ)) (Aa (AE (AW A5 AF AM) (AE (AW A5 AF AM) AQ))))) (by decide)) rfl h⟩
theorem V5(F:Fun K "is_empty" "is_empty" JS f fd)(z_len:mg "len"=none):FnOk P w K mg base CX0 1 f fd ["data"] (spD ⟨K,w⟩ HV false):=by
 have nd:=sc_is_empty.nd
 refine F.ok sc_is_empty (fun vs H Q E h=>BB Ak h) (fun cdv A outer s H vs Q E hr h=>?_)
 exact⟨_,(@AO _ _ _ (@Ac _ _ _ _ (@CL _ _ _ _ _ _ _ _ (@BN _ (CH hr)) (Ad BL Rw z_len PySem.boot_len (AB (pvL 0 rfl VC Bg) AJ ⋯) Ba B7.1 ⋯ ⋯) AH (Ap _)))),BA (N:=["data"]) (np:=1) (nl:=0) (Ax (AW Cu (B0 Cn (AE AF AQ)) AM) (by decide)) rfl h⟩
theorem V4(F:Fun K "is_glass" "is_glass" HF f fd)(c03:Cal P w K mg base 3 "is_bounded_share" ["thing"] (spD ⟨K,w⟩ CC false))(z_len:mg "len"=none):FnOk P w K mg base CX0 4 f fd ["data"] (spD ⟨K,w⟩ HU false):=by
 have nd:=sc_is_glass.nd
 refine F.ok sc_is_glass (fun vs H Q E h=>BB Ak h) (fun cdv A outer s H vs Q E hr h=>?_)
 exact⟨_,(@AO _ _ _ (@Ac _ _ _ _ (CG (@CL _ _ _ _ _ _ _ _ (@BN _ (CH hr)) (Ad BL Rv z_len PySem.boot_len (AB (pvL 0 rfl OI Bg) AJ ⋯) Ba B7.1 ⋯ ⋯) AH (Ap _)) (C1 (AS c03 hr JA (AB (@Az _ _ _ _ _ _ _ An (pvL 0 rfl OI Bg) AH (fun _ _=>rfl)) AJ ⋯) FT.1 ⋯ ⋯))))),BA (N:=["data"]) (np:=1) (nl:=0) (Ax (Cw (AW Cu (B0 Cn (AE AF AQ)) AM) (Aa (AE (AW A5 AF AM) AQ))) (by decide)) rfl h⟩
theorem V2(F:Fun K "is_place" "is_place" JR f fd)(c00:Cal P w K mg base 2 "is_within" ["thing","low","high"] (spD ⟨K,w⟩ BH false)):FnOk P w K mg base CX0 3 f fd ["thing"] (spD ⟨K,w⟩ CJ false):=by
 have nd:=sc_is_place.nd
 refine F.ok sc_is_place (fun vs H Q E h=>BB Ak h) (fun cdv A outer s H vs Q E hr h=>?_)
 exact⟨_,(@AO _ _ _ (@Ac _ _ _ _ (AS c00 hr ML (AB (pvL 0 rfl U9 BO) (AB (@JT _ _ _ _ _ _ Fn AH) (AB AH AJ ⋯) ⋯) ⋯) CP.1 ⋯ ⋯))),BA (N:=["thing"]) (np:=1) (nl:=0) (Ax (Aa (AE AF (AE (Nx JP AM) (AE AM AQ)))) (by decide)) rfl h⟩
theorem Ui(F:Fun K "is_window" "is_window" E6 f fd)(c11:Cal P w K mg base 3 "is_place" ["thing"] (spD ⟨K,w⟩ CJ false))(c00:Cal P w K mg base 3 "is_within" ["thing","low","high"] (spD ⟨K,w⟩ BH false))(z_len:mg "len"=none):FnOk P w K mg base CX0 4 f fd ["data"] (spD ⟨K,w⟩ GH false):=by
 have nd:=sc_is_window.nd
 refine F.ok sc_is_window (fun vs H Q E h=>BB Ak h) (fun cdv A outer s H vs Q E hr h=>?_)
 exact⟨_,(@AL _ _ _ _ _ (@BP _ _ _ _ _ _ _ _ (PW.pt (EU (@Ah _ _ _ _ _ _ _ _ (@FR _ (CH hr)) (Ad BL QY z_len PySem.boot_len (AB (pvL 0 rfl FX Bg) AJ ⋯) Ba B7.1 ⋯ ⋯) AH (Ap _)) (EU (B5 (B8 (AS c11 hr IK (AB (@Az _ _ _ _ _ _ _ An (pvL 0 rfl FX Bg) AH (fun _ _=>rfl)) AJ ⋯) J4.1 ⋯ ⋯) ⋯)) (@Dj _ _ _ _ (B5 (B8 (AS c11 hr IK (AB (@Az _ _ _ _ _ _ _ An (pvL 0 rfl FX Bg) AH (fun _ _=>rfl)) AJ ⋯) J4.1 ⋯ ⋯) ⋯)))))) (@AO _ _ _ (@Ac _ _ _ _ Ez)) As) (@AO _ _ _ (@Ac _ _ _ _ (CG (AS c00 hr Gr (AB (@Az _ _ _ _ _ _ _ An (pvL 0 rfl FX Bg) AH (fun _ _=>rfl)) (AB AH (AB AH AJ ⋯) ⋯) ⋯) CP.1 ⋯ ⋯) (C1 (AS c00 hr Gr (AB (@Az _ _ _ _ _ _ _ An (pvL 0 rfl FX Bg) AH (fun _ _=>rfl)) (AB AH (AB AH AJ ⋯) ⋯) ⋯) CP.1 ⋯ ⋯)))))),BA (N:=["data"]) (np:=1) (nl:=0) (Ab (CV (Ib (Aq (AW Mu (B0 Cn (AE AF AQ)) AM)) (Ib (Ck (Cs (Aa (AE (AW A5 AF AM) AQ)))) (Ck (Cs (Aa (AE (AW A5 AF AM) AQ)))))) (Ax Jh (by decide)) BY) (Ax (Cw (Aa (AE (AW A5 AF AM) (AE AM (AE AM AQ)))) (Aa (AE (AW A5 AF AM) (AE AM (AE AM AQ))))) (by decide))) rfl h⟩
theorem XO(F:Fun K "is_turn" "is_turn" G4 f fd)(c23:Cal P w K mg base 2 "is_truth" ["thing"] (spD ⟨K,w⟩ Jb false))(c00:Cal P w K mg base 2 "is_within" ["thing","low","high"] (spD ⟨K,w⟩ BH false))(z_len:mg "len"=none):FnOk P w K mg base CX0 3 f fd ["data"] (spD ⟨K,w⟩ JK false):=by
 have nd:=sc_is_turn.nd
 refine F.ok sc_is_turn (fun vs H Q E h=>BB Ak h) (fun cdv A outer s H vs Q E hr h=>?_)
 exact⟨_,(@AO _ _ _ (@Ac _ _ _ _ (CG (@CL _ _ _ _ _ _ _ _ (@BN _ (CH hr)) (Ad BL TL z_len PySem.boot_len (AB (pvL 0 rfl Lw Bg) AJ ⋯) Ba B7.1 ⋯ ⋯) AH (Ap _)) (CG (AS c00 hr M0 (AB (@Az _ _ _ _ _ _ _ An (pvL 0 rfl Lw Bg) AH (fun _ _=>rfl)) (AB AH (AB AH AJ ⋯) ⋯) ⋯) CP.1 ⋯ ⋯) (C1 (AS c23 hr Nn (AB (@Az _ _ _ _ _ _ _ An (pvL 0 rfl Lw Bg) AH (fun _ _=>rfl)) AJ ⋯) QE.1 ⋯ ⋯)))))),BA (N:=["data"]) (np:=1) (nl:=0) (Ax (Cw (AW Cu (B0 Cn (AE AF AQ)) AM) (Cw (Aa (AE (AW A5 AF AM) (AE AM (AE AM AQ)))) (Aa (AE (AW A5 AF AM) AQ)))) (by decide)) rfl h⟩
theorem Uk(F:Fun K "are_tiles" "are_tiles" F9 f fd)(c00:Cal P w K mg base 2 "is_within" ["thing","low","high"] (spD ⟨K,w⟩ BH false))(z_len:mg "len"=none):FnOk P w K mg base CX0 3 f fd ["data"] (spD ⟨K,w⟩ GI false):=by
 have nd:=sc_are_tiles.nd
 refine F.ok sc_are_tiles (fun vs H Q E h=>BB Ak h) (fun cdv A outer s H vs Q E hr h=>?_)
 exact⟨_,(@AL _ _ _ _ _ (@BP _ _ _ _ _ _ _ _ (PW.pt (EU (@Ah _ _ _ _ _ _ _ _ (@FR _ (CH hr)) (Ad BL Qd z_len PySem.boot_len (AB (pvL 0 rfl FY Bg) AJ ⋯) Ba B7.1 ⋯ ⋯) AH (Ap _)) (EU (B5 (B8 (AS c00 hr Di (AB (@Az _ _ _ _ _ _ _ An (pvL 0 rfl FY Bg) AH (fun _ _=>rfl)) (AB AH (AB AH AJ ⋯) ⋯) ⋯) CP.1 ⋯ ⋯) ⋯)) (@Dj _ _ _ _ (B5 (B8 (AS c00 hr Di (AB (@Az _ _ _ _ _ _ _ An (pvL 0 rfl FY Bg) AH (fun _ _=>rfl)) (AB AH (AB AH AJ ⋯) ⋯) ⋯) CP.1 ⋯ ⋯) ⋯)))))) (@AO _ _ _ (@Ac _ _ _ _ Ez)) As) (@AO _ _ _ (@Ac _ _ _ _ (CG (AS c00 hr Di (AB (@Az _ _ _ _ _ _ _ An (pvL 0 rfl FY Bg) AH (fun _ _=>rfl)) (AB (@JT _ _ _ _ _ _ Fn AH) (AB AH AJ ⋯) ⋯) ⋯) CP.1 ⋯ ⋯) (C1 (AS c00 hr Di (AB (@Az _ _ _ _ _ _ _ An (pvL 0 rfl FY Bg) AH (fun _ _=>rfl)) (AB (@JT _ _ _ _ _ _ Fn AH) (AB AH AJ ⋯) ⋯) ⋯) CP.1 ⋯ ⋯)))))),BA (N:=["data"]) (np:=1) (nl:=0) (Ab (CV (Ib (Aq (AW Mu (B0 Cn (AE AF AQ)) AM)) (Ib (Ck (Cs (Aa (AE (AW A5 AF AM) (AE AM (AE AM AQ)))))) (Ck (Cs (Aa (AE (AW A5 AF AM) (AE AM (AE AM AQ)))))))) (Ax Jh (by decide)) BY) (Ax (Cw (Aa (AE (AW A5 AF AM) (AE (Nx JP AM) (AE AM AQ)))) (Aa (AE (AW A5 AF AM) (AE (Nx JP AM) (AE AM AQ))))) (by decide))) rfl h⟩
theorem XS(F:Fun K "is_data" "is_data" FG f fd)(d75:Cal P w K mg base 5 "is_plate" ["data"] (spD ⟨K,w⟩ HS false))(d78:Cal P w K mg base 5 "is_band" ["data"] (spD ⟨K,w⟩ JL false))(d79:Cal P w K mg base 5 "is_word" ["data"] (spD ⟨K,w⟩ JJ false))(d71:Cal P w K mg base 5 "is_stencil" ["data"] (spD ⟨K,w⟩ FK false))(d76:Cal P w K mg base 5 "is_empty" ["data"] (spD ⟨K,w⟩ HV false))(d77:Cal P w K mg base 5 "is_glass" ["data"] (spD ⟨K,w⟩ HU false))(d73:Cal P w K mg base 5 "is_window" ["data"] (spD ⟨K,w⟩ GH false))(d80:Cal P w K mg base 5 "is_turn" ["data"] (spD ⟨K,w⟩ JK false))(d74:Cal P w K mg base 5 "are_tiles" ["data"] (spD ⟨K,w⟩ GI false))(z_tuple:mg "tuple"=none)(z_isinstance:mg "isinstance"=none)(z_str:mg "str"=none){ad_FORMS:Addr}{ta_FORMS:List (Str×Addr)}(kc_FORMS:mg "FORMS"=some (.ref ad_FORMS))(kf_FORMS:KF ⟨K,w⟩ w ad_FORMS ta_FORMS)(hs_FORMS:(ad_FORMS==sysModules)=false)(tm_FORMS:TMs (jP P w K mg base 5) ta_FORMS F6):FnOk P w K mg base CX0 6 f fd ["kind","data"] (spD ⟨K,w⟩ Kl false):=by
 have nd:=sc_is_data.nd
 refine F.ok sc_is_data (fun vs H Q E h=>BB Ak h) (fun cdv A outer s H vs Q E hr h=>?_)
 exact⟨_,(@AO _ _ _ (@Ac _ _ _ _ (CG (Ad CU IP z_isinstance PyProof.Rows.boot_isinstance (AB (pvL 0 rfl Lx VW) (AB (Gp TM z_str PySem.Pv.boot_str K7 Ny.1) AJ ⋯) ⋯) Av A1.1 ⋯ ⋯) (CG (@CL _ _ _ _ _ _ _ _ (cm kf_FORMS hs_FORMS) (pvL 0 rfl Lx VW) (@EE _ _ (.ref ad_FORMS) _ _ LZ kc_FORMS rfl Wr.1) (by with_unfolding_all rfl)) (CG (Ad CU IP z_isinstance PyProof.Rows.boot_isinstance (AB (pvL 1 rfl P6 Bg) (AB (Gp Qc z_tuple PySem.Pv.boot_tuple HL Ji.1) AJ ⋯) ⋯) Av A1.1 ⋯ ⋯) (C1 (@ai _ _ _ _ _ _ _ _ _ _ (dR hr) (@Az _ _ _ _ _ _ _ (iT kf_FORMS) (@EE _ _ (.ref ad_FORMS) _ _ LZ kc_FORMS rfl Wr.1) (pvL 0 rfl Lx VW) (fun _ _=>rfl)) (AB (pvL 1 rfl P6 Bg) AJ ⋯) ⋯ ⋯))))))),BA (N:=["kind","data"]) (np:=2) (nl:=0) (Ax (Cw (IX (T:="str") AF) (Cw (ir tm_FORMS AF) (Cw (IX (T:="tuple") AF) (dZ tm_FORMS AF (AE AF AQ))))) (by decide)) rfl h⟩
theorem Sk(F:Fun K "row_holder" "row_holder" Im f fd):FnOk P w K mg base CX0 1 f fd ["row"] (spD ⟨K,w⟩ Ay false):=by
 have nd:=sc_row_holder.nd
 refine F.ok sc_row_holder (fun vs H Q E h=>BB Ak h) (fun cdv A outer s H vs Q E hr h=>?_)
 exact⟨_,(@AO _ _ _ (@Ac _ _ _ _ (@Az _ _ _ _ _ _ _ An (pvL 0 rfl RU Cf) AH (fun _ _=>rfl)))),BA (N:=["row"]) (np:=1) (nl:=0) (Ax (AW A5 AF AM) (by decide)) rfl h⟩
theorem Ue(F:Fun K "row_shown" "row_shown" Jo f fd):FnOk P w K mg base CX0 1 f fd ["row"] (spD ⟨K,w⟩ MF false):=by
 have nd:=sc_row_shown.nd
 refine F.ok sc_row_shown (fun vs H Q E h=>BB Ak h) (fun cdv A outer s H vs Q E hr h=>?_)
 exact⟨_,(@AO _ _ _ (@Ac _ _ _ _ (@Az _ _ _ _ _ _ _ An (pvL 0 rfl Sx Cf) AH (fun _ _=>rfl)))),BA (N:=["row"]) (np:=1) (nl:=0) (Ax (AW A5 AF AM) (by decide)) rfl h⟩
theorem Vv(F:Fun K "row_kind" "row_kind" K1 f fd):FnOk P w K mg base CX0 1 f fd ["row"] (spD ⟨K,w⟩ DY false):=by
 have nd:=sc_row_kind.nd
 refine F.ok sc_row_kind (fun vs H Q E h=>BB Ak h) (fun cdv A outer s H vs Q E hr h=>?_)
 exact⟨_,(@AO _ _ _ (@Ac _ _ _ _ (@Az _ _ _ _ _ _ _ An (pvL 0 rfl U2 Cf) AH (fun _ _=>rfl)))),BA (N:=["row"]) (np:=1) (nl:=0) (Ax (AW A5 AF AM) (by decide)) rfl h⟩
theorem Vw(F:Fun K "row_data" "row_data" K2 f fd):FnOk P w K mg base CX0 1 f fd ["row"] (spD ⟨K,w⟩ Nb false):=by
 have nd:=sc_row_data.nd
 refine F.ok sc_row_data (fun vs H Q E h=>BB Ak h) (fun cdv A outer s H vs Q E hr h=>?_)
 exact⟨_,(@AO _ _ _ (@Ac _ _ _ _ (@Az _ _ _ _ _ _ _ An (pvL 0 rfl U3 Cf) AH (fun _ _=>rfl)))),BA (N:=["row"]) (np:=1) (nl:=0) (Ax (AW A5 AF AM) (by decide)) rfl h⟩
theorem ay(F:Fun K "row_x" "row_x" Qw f fd):FnOk P w K mg base CX0 1 f fd ["row"] (spD ⟨K,w⟩ ON false):=by
 have nd:=sc_row_x.nd
 refine F.ok sc_row_x (fun vs H Q E h=>BB Ak h) (fun cdv A outer s H vs Q E hr h=>?_)
 exact⟨_,(@AO _ _ _ (@Ac _ _ _ _ (@Az _ _ _ _ _ _ _ An (pvL 0 rfl ZZ Cf) AH (fun _ _=>rfl)))),BA (N:=["row"]) (np:=1) (nl:=0) (Ax (AW A5 AF AM) (by decide)) rfl h⟩
theorem ax(F:Fun K "row_y" "row_y" Qv f fd):FnOk P w K mg base CX0 1 f fd ["row"] (spD ⟨K,w⟩ Q3 false):=by
 have nd:=sc_row_y.nd
 refine F.ok sc_row_y (fun vs H Q E h=>BB Ak h) (fun cdv A outer s H vs Q E hr h=>?_)
 exact⟨_,(@AO _ _ _ (@Ac _ _ _ _ (@Az _ _ _ _ _ _ _ An (pvL 0 rfl ZY Cf) AH (fun _ _=>rfl)))),BA (N:=["row"]) (np:=1) (nl:=0) (Ax (AW A5 AF AM) (by decide)) rfl h⟩
theorem ZQ(F:Fun K "is_row" "is_row" Cg f fd)(c51:Cal P w K mg base 6 "is_name" ["thing"] (spD ⟨K,w⟩ Es false))(c10:Cal P w K mg base 6 "row_name" ["row"] (spD ⟨K,w⟩ Cb false))(c01:Cal P w K mg base 6 "row_holder" ["row"] (spD ⟨K,w⟩ Ay false))(c11:Cal P w K mg base 6 "is_place" ["thing"] (spD ⟨K,w⟩ CJ false))(d08:Cal P w K mg base 6 "row_y" ["row"] (spD ⟨K,w⟩ Q3 false))(d09:Cal P w K mg base 6 "row_x" ["row"] (spD ⟨K,w⟩ ON false))(c94:Cal P w K mg base 6 "is_data" ["kind","data"] (spD ⟨K,w⟩ Kl false))(c83:Cal P w K mg base 6 "row_data" ["row"] (spD ⟨K,w⟩ Nb false))(c06:Cal P w K mg base 6 "row_kind" ["row"] (spD ⟨K,w⟩ DY false))(c23:Cal P w K mg base 6 "is_truth" ["thing"] (spD ⟨K,w⟩ Jb false))(c67:Cal P w K mg base 6 "row_shown" ["row"] (spD ⟨K,w⟩ MF false))(z_len:mg "len"=none)(z_tuple:mg "tuple"=none)(z_isinstance:mg "isinstance"=none):FnOk P w K mg base CX0 7 f fd ["thing"] (spD ⟨K,w⟩ GZ false):=by
 have nd:=sc_is_row.nd
 refine F.ok sc_is_row (fun vs H Q E h=>BB Ak h) (fun cdv A outer s H vs Q E hr h=>?_)
 exact⟨_,(@AL _ _ _ _ _ (@BP _ _ _ _ _ _ _ _ (PW.pt (EU (B5 (B8 (Ad CU M3 z_isinstance PyProof.Rows.boot_isinstance (AB (pvL 0 rfl D1 BO) (AB (Gp Rp z_tuple PySem.Pv.boot_tuple HL Ji.1) AJ ⋯) ⋯) Av A1.1 ⋯ ⋯) ⋯)) (@Dj _ _ _ _ (@Ah _ _ _ _ _ _ _ _ (@FR _ (CH hr)) (Ad BL VP z_len PySem.boot_len (AB (pvL 0 rfl D1 BO) AJ ⋯) Ba B7.1 ⋯ ⋯) AH (Ap _))))) (@AO _ _ _ (@Ac _ _ _ _ Ez)) As) (@AL _ _ _ _ _ (@BP _ _ _ _ _ _ _ _ (B5 (B8 (AS c51 hr Ko (AB (AS c10 hr OW (AB (pvL 0 rfl D1 BO) AJ ⋯) MX.1 ⋯ ⋯) AJ ⋯) SE.1 ⋯ ⋯) ⋯)) (@AO _ _ _ (@Ac _ _ _ _ Ez)) As) (@AL _ _ _ _ _ (@BP _ _ _ _ _ _ _ _ (PW.pt (@KC _ _ _ _ _ _ _ (@Ah _ _ _ _ _ _ _ _ (@FR _ (CH hr)) (AS c01 hr Ij (AB (pvL 0 rfl D1 BO) AJ ⋯) Cr.1 ⋯ ⋯) Aj (Ap _)) (@Hk _ _ _ _ (B5 (B8 (AS c51 hr Ko (AB (AS c01 hr Ij (AB (pvL 0 rfl D1 BO) AJ ⋯) Cr.1 ⋯ ⋯) AJ ⋯) SE.1 ⋯ ⋯) ⋯))))) (@AO _ _ _ (@Ac _ _ _ _ Ez)) As) (@AL _ _ _ _ _ (@BP _ _ _ _ _ _ _ _ (PW.pt (EU (B5 (B8 (AS c11 hr Jy (AB (AS d09 hr Rr (AB (pvL 0 rfl D1 BO) AJ ⋯) bj.1 ⋯ ⋯) AJ ⋯) J4.1 ⋯ ⋯) ⋯)) (@Dj _ _ _ _ (B5 (B8 (AS c11 hr Jy (AB (AS d08 hr Rq (AB (pvL 0 rfl D1 BO) AJ ⋯) bh.1 ⋯ ⋯) AJ ⋯) J4.1 ⋯ ⋯) ⋯))))) (@AO _ _ _ (@Ac _ _ _ _ Ez)) As) (@AO _ _ _ (@Ac _ _ _ _ (CG (AS c23 hr OZ (AB (AS c67 hr Np (AB (pvL 0 rfl D1 BO) AJ ⋯) VV.1 ⋯ ⋯) AJ ⋯) QE.1 ⋯ ⋯) (C1 (AS c94 hr Pj (AB (AS c06 hr OX (AB (pvL 0 rfl D1 BO) AJ ⋯) J3.1 ⋯ ⋯) (AB (AS c83 hr OY (AB (pvL 0 rfl D1 BO) AJ ⋯) Wl.1 ⋯ ⋯) AJ ⋯) ⋯) Xq.1 ⋯ ⋯))))))))),BA (N:=["thing"]) (np:=1) (nl:=0) (Ab (CV (Ib (Ck (Cs (IX (T:="tuple") AF))) (Aq (AW Mu (B0 Cn (AE AF AQ)) AM))) (Ax Jh (by decide)) BY) (Ab (CV (Ck (Cs (Aa (AE (Aa (AE AF AQ)) AQ)))) (Ax Jh (by decide)) BY) (Ab (CV (NB (Aq (AW Mu (Aa (AE AF AQ)) BS)) (Ck (Cs (Aa (AE (Aa (AE AF AQ)) AQ))))) (Ax Jh (by decide)) BY) (Ab (CV (Ib (Ck (Cs (Aa (AE (Aa (AE AF AQ)) AQ)))) (Ck (Cs (Aa (AE (Aa (AE AF AQ)) AQ))))) (Ax Jh (by decide)) BY) (Ax (Cw (Aa (AE (Aa (AE AF AQ)) AQ)) (Aa (AE (Aa (AE AF AQ)) (AE (Aa (AE AF AQ)) AQ)))) (by decide)))))) rfl h⟩
theorem So(F:Fun K "holders_of" "holders_of" C4 f fd)(c04:Cal P w K mg base 2 "row_found" ["rows","name"] (spD ⟨K,w⟩ B4 false))(c01:Cal P w K mg base 2 "row_holder" ["row"] (spD ⟨K,w⟩ Ay false)):FnOk P w K mg base CX0 3 f fd ["rows","name"] (spD ⟨K,w⟩ Ei true):=by
 have nd:=sc_holders_of.nd
 refine F.ok sc_holders_of (fun vs H Q E h=>BB Ak h) (fun cdv A outer s H vs Q E hr h=>?_)
 exact⟨_,(@AL _ _ _ _ _ (@Au _ _ 2 _ _ _ _ nd rfl JW (@Ee _ _ _ _ AJ) ⋯ ⋯) (@AL _ _ _ _ _ (@Au _ _ 3 _ _ _ _ nd rfl EJ (AS c04 hr Ge (AB (pvL 0 rfl Ly J0) (AB (pvL 1 rfl RX Mo) AJ ⋯) ⋯) Gi.1 ⋯ ⋯) ⋯ ⋯) (@AL _ _ _ _ _ (@Ln _ _ _ _ _ _ PassesOwn.never (PW.pt (@KC _ _ _ _ _ _ _ (@Ah _ _ _ _ _ _ _ _ YT (pvL 3 rfl EJ Cf) RJ (Ap _)) (@Hk _ _ _ _ (@Ah _ _ _ _ _ _ _ _ (@FR _ (CH hr)) (AS c01 hr EL (AB (pvL 3 rfl EJ Cf) AJ ⋯) Cr.1 ⋯ ⋯) Aj (Ap _))))) (@AL _ _ _ _ _ (@Hl _ _ _ _ (@OD _ _ _ _ _ _ _ _ _ _ _ _ PySem.F.plainAttrs_list PySem.F.slot_list_append PySem.F.type_list_append Er (pvL 2 rfl JW LQ) (AB (AS c01 hr EL (AB (pvL 3 rfl EJ Cf) AJ ⋯) Cr.1 ⋯ ⋯) AJ ⋯) ⋯ ⋯ ⋯ ⋯ ⋯) ⋯) (@AO _ _ _ (@Au _ _ 3 _ _ _ _ nd rfl EJ (AS c04 hr Ge (AB (pvL 0 rfl Ly J0) (AB (AS c01 hr EL (AB (pvL 3 rfl EJ Cf) AJ ⋯) Cr.1 ⋯ ⋯) AJ ⋯) ⋯) Gi.1 ⋯ ⋯) ⋯ ⋯)))) (@AO _ _ _ (@Ac _ _ _ _ (pvL 2 rfl JW LQ)))))),BA (N:=["rows","name","holders","row"]) (np:=2) (nl:=2) (Ab Sb (Ab (BC (Aa (AE AF (AE AF AQ))) AX) (Ab (Ox (NB (Aq (AW a9 AF Wi)) (Aq (AW Mu (Aa (AE AF AQ)) BS))) (Ab (LX (VU (i:=2) Ga (AE (Aa (AE AF AQ)) AQ))) (BC (Aa (AE AF (AE (Aa (AE AF AQ)) AQ))) AX))) (X5 (i:=2))))) rfl h⟩
theorem Uj(F:Fun K "is_holder" "is_holder" F8 f fd)(c06:Cal P w K mg base 1 "row_kind" ["row"] (spD ⟨K,w⟩ DY false)){uv_HOLDERS:Value}(kc_HOLDERS:mg "HOLDERS"=some uv_HOLDERS)(kt_HOLDERS:Cz ⟨K,w⟩ (.tuple [(.str "group"),(.str "glass"),(.str "window"),(.str "turn"),(.str "tiles"),(.str "mask")]) uv_HOLDERS=true):FnOk P w K mg base CX0 2 f fd ["row"] (spD ⟨K,w⟩ EV false):=by
 have nd:=sc_is_holder.nd
 obtain⟨cv_HOLDERS,rv_HOLDERS,iv_HOLDERS⟩:=SU kt_HOLDERS
 refine F.ok sc_is_holder (fun vs H Q E h=>BB Ak h) (fun cdv A outer s H vs Q E hr h=>?_)
 exact⟨_,(@AO _ _ _ (@Ac _ _ _ _ (@CL _ _ _ _ _ _ _ _ (@Lo _ (VM hr)) (AS c06 hr MO (AB (pvL 0 rfl S6 Cf) AJ ⋯) J3.1 ⋯ ⋯) (@EE _ _ cv_HOLDERS _ _ M6 kc_HOLDERS rv_HOLDERS Xv.1) (by with_unfolding_all rfl)))),BA (N:=["row"]) (np:=1) (nl:=0) (Ax (AW Uw (Aa (AE AF AQ)) (e_c iv_HOLDERS)) (by decide)) rfl h⟩
theorem ZP(F:Fun K "row_of" "row_of" JQ f fd)(c04:Cal P w K mg base 2 "row_found" ["rows","name"] (spD ⟨K,w⟩ B4 false)):FnOk P w K mg base CX0 3 f fd ["rows","name"] (spD ⟨K,w⟩ MG false):=by
 have nd:=sc_row_of.nd
 refine F.ok sc_row_of (fun vs H Q E h=>BB Ak h) (fun cdv A outer s H vs Q E hr h=>?_)
 exact⟨_,(@AL _ _ _ _ _ (@Au _ _ 2 _ _ _ _ nd rfl NY (AS c04 hr Nh (AB (pvL 0 rfl Xc J0) (AB (pvL 1 rfl Xb Mo) AJ ⋯) ⋯) Gi.1 ⋯ ⋯) ⋯ ⋯) (@AL _ _ _ _ _ (@BP _ _ _ _ _ _ _ _ (@Ah _ _ _ _ _ _ _ _ av (pvL 2 rfl NY Cf) RJ (Ap _)) (@AO _ _ _ aY) As) (@AO _ _ _ (@Ac _ _ _ _ (pvL 2 rfl NY Cf))))),BA (N:=["rows","name","row"]) (np:=2) (nl:=1) (Ab (BC (Aa (AE AF (AE AF AQ))) AX) (Ab (CV (Aq (AW eY AF Wi)) dq BY) (Ax AF (by decide)))) rfl h⟩
theorem Vz(F:Fun K "is_tiles" "is_tiles" Fp f fd)(c06:Cal P w K mg base 3 "row_kind" ["row"] (spD ⟨K,w⟩ DY false))(d02:Cal P w K mg base 3 "row_of" ["rows","name"] (spD ⟨K,w⟩ MG false)):FnOk P w K mg base CX0 4 f fd ["rows","name"] (spD ⟨K,w⟩ Fu false):=by
 have nd:=sc_is_tiles.nd
 refine F.ok sc_is_tiles (fun vs H Q E h=>BB Ak h) (fun cdv A outer s H vs Q E hr h=>?_)
 exact⟨_,(@AO _ _ _ (@Ac _ _ _ _ (@CL _ _ _ _ _ _ _ _ (@BN _ (CH hr)) (AS c06 hr M1 (AB (AS d02 hr OV (AB (pvL 0 rfl U8 J0) (AB (pvL 1 rfl U7 Mo) AJ ⋯) ⋯) Zq.1 ⋯ ⋯) AJ ⋯) J3.1 ⋯ ⋯) Aj (Ap _)))),BA (N:=["rows","name"]) (np:=2) (nl:=0) (Ax (AW Cu (Aa (AE (Aa (AE AF (AE AF AQ))) AQ)) BS) (by decide)) rfl h⟩
theorem XM{cls:Nat->Addr}(F:Fun K "vet_row" "vet_row" Br f fd)(d03:Cal P w K mg base 7 "is_row" ["thing"] (spD ⟨K,w⟩ GZ false))(c04:Cal P w K mg base 7 "row_found" ["rows","name"] (spD ⟨K,w⟩ B4 false))(c10:Cal P w K mg base 7 "row_name" ["row"] (spD ⟨K,w⟩ Cb false))(c01:Cal P w K mg base 7 "row_holder" ["row"] (spD ⟨K,w⟩ Ay false))(c68:Cal P w K mg base 7 "is_holder" ["row"] (spD ⟨K,w⟩ EV false))(c57:Cal P w K mg base 7 "holders_of" ["rows","name"] (spD ⟨K,w⟩ Ei true))(c84:Cal P w K mg base 7 "is_tiles" ["rows","name"] (spD ⟨K,w⟩ Fu false))(c06:Cal P w K mg base 7 "row_kind" ["row"] (spD ⟨K,w⟩ DY false))(z_len:mg "len"=none)(z_any:mg "any"=none){tk_MOST_HOLDERS:Tok}(kc_MOST_HOLDERS:mg "MOST_HOLDERS"=some (.int 6 tk_MOST_HOLDERS))(hm_NoPart:mg "NoPart"=some (.ref (cls 0)))(hq_NoPart:PySem.W.excIn K (cls 0) [.type "ValueError",.type "Exception",.type "BaseException",.type "object"] "ValueError.__new__"=true)(hm_Twice:mg "Twice"=some (.ref (cls 1)))(hq_Twice:PySem.W.excIn K (cls 1) [.type "ValueError",.type "Exception",.type "BaseException",.type "object"] "ValueError.__new__"=true)(hm_NoHolder:mg "NoHolder"=some (.ref (cls 2)))(hq_NoHolder:PySem.W.excIn K (cls 2) [.type "ValueError",.type "Exception",.type "BaseException",.type "object"] "ValueError.__new__"=true)(hm_TooDeep:mg "TooDeep"=some (.ref (cls 3)))(hq_TooDeep:PySem.W.excIn K (cls 3) [.type "ValueError",.type "Exception",.type "BaseException",.type "object"] "ValueError.__new__"=true)(hm_Nested:mg "Nested"=some (.ref (cls 4)))(hq_Nested:PySem.W.excIn K (cls 4) [.type "ValueError",.type "Exception",.type "BaseException",.type "object"] "ValueError.__new__"=true):FnOk P w K mg base (CXr P w) 8 f fd ["ahead","row"] (spO ⟨K,w⟩ GG cls):=by
 have nd:=sc_vet_row.nd
 refine F.okX sc_vet_row (YI rfl) (fun cdv A outer s H vs Q E hr h=>?_)
 exact⟨_,(@AL _ _ _ _ _ (@BP _ _ _ _ _ _ _ _ (B5 (B8 (AS d03 hr PZ (AB (pvL 1 rfl E8 Cf) AJ ⋯) Zr.1 ⋯ ⋯) ⋯)) (@AO _ _ _ (Kg (C:=cls 0) (E:=E) (AB Aj AJ ⋯) GC Pa hm_NoPart hq_NoPart PySem.F.excBase_ValueError hr.hd ⋯ UO.1 ⋯)) As) (@AL _ _ _ _ _ (@BP _ _ _ _ _ _ _ _ (@Ah _ _ _ _ _ _ _ _ YT (AS c04 hr Ih (AB (pvL 0 rfl Lv MZ) (AB (AS c10 hr Nd (AB (pvL 1 rfl E8 Cf) AJ ⋯) MX.1 ⋯ ⋯) AJ ⋯) ⋯) Gi.1 ⋯ ⋯) RJ (Ap _)) (@AO _ _ _ (Kg (C:=cls 1) (E:=E) (AB Aj AJ ⋯) GC QU hm_Twice hq_Twice PySem.F.excBase_ValueError hr.hd ⋯ Wq.1 ⋯)) As) (@AL _ _ _ _ _ (@BP _ _ _ _ _ _ _ _ (@Ah _ _ _ _ _ _ _ _ (@BN _ (CH hr)) (AS c01 hr Dy (AB (pvL 1 rfl E8 Cf) AJ ⋯) Cr.1 ⋯ ⋯) Aj (Ap _)) (@AO _ _ _ cb) As) (@AL _ _ _ _ _ (@Au _ _ 2 _ _ _ _ nd rfl Lu (AS c04 hr Ih (AB (pvL 0 rfl Lv MZ) (AB (AS c01 hr Dy (AB (pvL 1 rfl E8 Cf) AJ ⋯) Cr.1 ⋯ ⋯) AJ ⋯) ⋯) Gi.1 ⋯ ⋯) ⋯ ⋯) (@AL _ _ _ _ _ (@BP _ _ _ _ _ _ _ _ (PW.pt (EU (@Ah _ _ _ _ _ _ _ _ av (pvL 2 rfl Lu UL) RJ (Ap _)) (@Dj _ _ _ _ (B5 (B8 (AS c68 hr Mz (AB (pvL 2 rfl Lu UL) AJ ⋯) VX.1 ⋯ ⋯) ⋯))))) (@AO _ _ _ (Kg (C:=cls 2) (E:=E) (AB Aj AJ ⋯) GC Ng hm_NoHolder hq_NoHolder PySem.F.excBase_ValueError hr.hd ⋯ QI.1 ⋯)) As) (@AL _ _ _ _ _ (@Au _ _ 3 _ _ _ _ nd rfl Ls (@Ae _ _ _ _ _ _ _ _ O7 (@Ee _ _ _ _ (AB (AS c01 hr Dy (AB (pvL 1 rfl E8 Cf) AJ ⋯) Cr.1 ⋯ ⋯) AJ ⋯)) (AS c57 hr MH (AB (pvL 0 rfl Lv MZ) (AB (AS c01 hr Dy (AB (pvL 1 rfl E8 Cf) AJ ⋯) Cr.1 ⋯ ⋯) AJ ⋯) ⋯) Td.1 ⋯ ⋯)) ⋯ ⋯) (@AL _ _ _ _ _ (@BP _ _ _ _ _ _ _ _ (@Ah _ _ _ _ _ _ _ _ OF (Ad BL TC z_len PySem.boot_len (AB (pvL 3 rfl Ls LQ) AJ ⋯) Ba B7.1 ⋯ ⋯) (@EE _ _ (.int 6) _ _ LI kc_MOST_HOLDERS ⟨_,rfl⟩ Qp.1) (Ap _)) (@AO _ _ _ (Kg (C:=cls 3) (E:=E) (AB Aj AJ ⋯) GC OT hm_TooDeep hq_TooDeep PySem.F.excBase_ValueError hr.hd ⋯ SM.1 ⋯)) As) (@AO _ _ _ (@BP _ _ _ _ _ _ _ _ (PW.pt (@KC _ _ _ _ _ _ _ (@Ah _ _ _ _ _ _ _ _ (@BN _ (CH hr)) (AS c06 hr Nf (AB (pvL 1 rfl E8 Cf) AJ ⋯) J3.1 ⋯ ⋯) Aj (Ap _)) (@Hk _ _ _ _ (B8 (Ad (@Zz _ rfl) TF z_any PyProof.Rows.boot_any (AB (@Kh _ ["name","ahead"] 1 [0] _ _ _ _ _ _ _ _ _ _ rfl (@II _ ["name","ahead"] 1 [0] _ ["ahead","row","holder","holders"] (AR Br) rfl rfl ∅) (@Ed _ _ _ _ (pvL 3 rfl Ls LQ)) (fun cl fp s3 H3=>(@Aw _ _ 0 _ WC rfl (CS ∅) (Or.inr (CZ ∅)))) (fun cl fp s3 H3=>Io) (fun cl fp s3 H3=>(AS c84 hr (Jq ∅) (AB (pv 1 rfl (JO ∅) MZ.1 MZ.2) (AB (pv 0 rfl (Bc ∅) Mo.1 Mo.2) AJ ⋯) ⋯) Wm.1 ⋯ ⋯)) ⋯) AJ ⋯) dB gX.1 ⋯ ⋯) ⋯)))) (@AO _ _ _ (Kg (C:=cls 4) (E:=E) (AB Aj AJ ⋯) GC Pb hm_Nested hq_Nested PySem.F.excBase_ValueError hr.hd ⋯ UP.1 ⋯)) As))))))))),Yp (N:=["ahead","row","holder","holders"]) (np:=2) (nl:=2) (N6 (Y5 (Ck (Cs (Aa (AE AF AQ)))) (Mg fun _ h=>h) (Sg BY)) (N6 (Y5 (Aq (AW a9 (Aa (AE AF (AE (Aa (AE AF AQ)) AQ))) Wi)) (Mg fun _ h=>h) (Sg BY)) (N6 (Sg (CV (Aq (AW Cu (Aa (AE AF AQ)) BS)) gj BY)) (N6 (Sg (BC (Aa (AE AF (AE (Aa (AE AF AQ)) AQ))) AX)) (N6 (Y5 (Ib (Aq (AW eY AF Wi)) (Ck (Cs (Aa (AE AF AQ))))) (Mg fun _ h=>h) (Sg BY)) (N6 (Sg (BC (AW eg (R9 (AE (Aa (AE AF AQ)) AQ)) (Aa (AE AF (AE (Aa (AE AF AQ)) AQ)))) AX)) (N6 (Y5 (Aq (AW Ux (B0 Cn (AE AF AQ)) AM)) (Mg fun _ h=>h) (Sg BY)) (Y5 (NB (Aq (AW Cu (Aa (AE AF AQ)) BS)) (Cs (B0 gb (AE (MW (EF AF) AX N8 (Aa (AE AF (AE AF AQ)))) AQ)))) (Mg fun _ h=>h) (Sg BY))))))))) rfl h⟩
theorem gA{cls:Nat->Addr}(F:Fun K "vet" "vet" Lk f fd)(z_enumerate:mg "enumerate"=none)(z_len:mg "len"=none){tk_MOST_ROWS:Tok}(kc_MOST_ROWS:mg "MOST_ROWS"=some (.int 24 tk_MOST_ROWS))(hm_TooMany:mg "TooMany"=some (.ref (cls 5)))(hq_TooMany:PySem.W.excIn K (cls 5) [.type "ValueError",.type "Exception",.type "BaseException",.type "object"] "ValueError.__new__"=true){f_vet_row:Addr}{fd_vet_row:FuncData}(CF_vet_row:FnOk P w K mg base (CXr P w) 8 f_vet_row fd_vet_row ["ahead","row"] (spO ⟨K,w⟩ GG cls))(mf_vet_row:mg "vet_row"=some (.ref f_vet_row))(kf_vet_row:PySem.W.keepIn K (.ref f_vet_row)=true)(bf_vet_row:Binds K fd_vet_row ["ahead","row"] []):FnOk P w K mg base (CXr P w) 9 f fd ["rows"] (spO ⟨K,w⟩ NR cls):=by
 have nd:=sc_vet.nd
 refine F.okX sc_vet (YI rfl) (fun cdv A outer s H vs Q E hr h=>?_)
 exact⟨_,(@AL _ _ _ _ _ (@HI _ _ _ _ _ _ _ _ PassesOwn.leaving rfl (@cc _ _ _ _ _ _ _ _ QV z_enumerate (AB (pvL 0 rfl U0 J0) AJ ⋯) Sw VY.1 ⋯) (Ew rfl (BJ (@Aw _ _ 1 _ nd rfl YY ⋯) (BJ (@Aw _ _ 2 _ nd rfl YX ⋯) Dg ⋯) ⋯) ⋯ ⋯) (@AO _ _ _ (@Hl _ _ _ _ (YS CF_vet_row hr TB mf_vet_row kf_vet_row bf_vet_row .nil XJ (AB (@FV _ _ _ _ _ _ _ _ _ _ YJ (pvL 0 rfl U0 J0) Hn (@Hm _ _ _ (pvL 1 rfl YY bp))) (AB (pvL 2 rfl YX Cf) AJ ⋯) ⋯) Xn.1 ⋯ ⋯) ⋯)) ⋯) (@AL _ _ _ _ _ (@BP _ _ _ _ _ _ _ _ (@Ah _ _ _ _ _ _ _ _ OF (Ad BL Zm z_len PySem.boot_len (AB (pvL 0 rfl U0 J0) AJ ⋯) Ba B7.1 ⋯ ⋯) (@EE _ _ (.int 24) _ _ QW kc_MOST_ROWS ⟨_,rfl⟩ Ve.1) (Ap _)) (@AO _ _ _ (Kg (C:=cls 5) (E:=E) (AB Aj AJ ⋯) GC TH hm_TooMany hq_TooMany PySem.F.excBase_ValueError hr.hd ⋯ SK.1 ⋯)) As) (@AO _ _ _ (@Ac _ _ _ _ Ez)))),Yp (N:=["rows","place","row"]) (np:=1) (nl:=2) (N6 (fR (dM AF) (Gq (Bb AX (Bb AX Ey)) (BK (BK Dh))) (fS (AE (ik AF NC (Sv AF)) (AE AF AQ)))) (N6 (Y5 (Aq (AW Ux (B0 Cn (AE AF AQ)) AM)) (Mg fun _ h=>h) (Sg BY)) (Sg (Ax Jh (by decide))))) rfl h⟩
theorem sc_L_which:Ao ["_law_e","_law_kinds_here","_law_names"] ["_law_e"] (AR B3):=⟨rfl,rfl,rfl,∅,rfl,∅,∅⟩
theorem DD:lcP B3 "_law_e":=∅
theorem DC:lcP B3 "_law_kinds_here":=∅
theorem P7:lcP B3 "_law_names":=∅
theorem WT:(AR B3).names.lookup ("_law_names":Str)=some NameKind.local:=∅
theorem Qf:glP B3 "Twice":=∅
theorem BZ:glP B3 "isinstance":=∅
theorem Pl:glP B3 "NoPart":=∅
theorem Oc:glP B3 "TooDeep":=∅
theorem Nr:glP B3 "NoHolder":=∅
theorem Pn:glP B3 "Nested":=∅
theorem Pm:glP B3 "NoName":=∅
theorem Ob:glP B3 "TooMany":=∅
theorem Pk:glP B3 "NoStep":=∅
theorem M7:glP B3 "WrongKind":=∅
theorem MP:glP B3 "ValueError":=∅
theorem TQ:glP B3 "len":=∅
theorem WD:List.Nodup (["_law_pair"]:List Str):=∅
theorem W0:dcP "NoName":=∅
theorem Wz:dcP "NoStep":=∅
theorem RB:dcP "SceneError":=∅
theorem RA:dcP "ValueError":=∅
theorem Sh:dcP "WrongKind":=∅
theorem C0:dcP "_law_e":=∅
theorem C2:dcP "_law_kinds_here":=∅
theorem Hg:dcP "_law_pair":=∅
theorem JN:dcP "_law_told_here":=∅
theorem Q9:dcP "_law_which":=∅
theorem cW:dcP "vet":=∅
theorem QM:("ValueError":Str)≠"__name__":=∅
def spW(C:Addr)(n:Nat):Addr->Obj->Sp:=fun ea oe vs H Q _=>vs=[.ref ea]/\H ea=some (.frz oe (.own ea))/\(oe.cls = .ref C/\oe.dict=none/\PySem.W.notCls oe=true)/\∀H',Same H H'->Q (.str (whS n)) H'
def prs(n:Nat):List PyData:=[prD "NoPart" (n==0),prD "Twice" (n==1)]++[prD "NoHolder" (n==2),prD "TooDeep" (n==3)]++[prD "Nested" (n==4)]++[prD "TooMany" (n==5),prD "NoName" (n==6)]++[prD "WrongKind" (n==7),prD "NoStep" (n==8)]
def fL:DX:=dLC 1 [] (dIL (AD 1)) (dN 0) (AN (dOp Ai (AD 0) (dC (.int 1)))) (dOp Ai (AD 0) (dC (.int 0)))
theorem b7{n:Nat}(hn:n<6):fL [none,some (.d (.list (prs n))),none]=some (.list [.str (whS n)],[none,some (.d (.list (prs n))),none]):=by
 match n,hn with
 |0,_=>rfl
 |1,_=>rfl
 |2,_=>rfl
 |3,_=>rfl
 |4,_=>rfl
 |5,_=>rfl
theorem jD:bootBuiltins "ValueError"=some (.type "ValueError"):=by first|rfl|decide +kernel
theorem jJ{K:KW}{i:Nat}{x:PyData}{τ:DS}{σ:St}{H:Hp}{v:V}(hl:σ.length=τ.length)(ht:∀j l,τ[j]?=some (some l)->j=i/\l = .d x)(hv:σ[i]?=some (some v))(hx:Is K (hid Zd H) x v):R K Zd Zd τ σ H :=
 fO hl (fun j l e=>by obtain⟨rfl,rfl⟩:=ht j l e;exact⟨x,v,rfl,hv,hx⟩) fun _ h=>h.elim
theorem RM{cs:List Addr}{D:Addr}{n:Nat}(hl9:cs.length=9)(hn6:n<6)(F:Fun K "_law_which" "_law_which" B3 f fd)(o:X9 K D cs n)(hm0:mg "NoPart"=some (.ref (cs.getD 0 0)))(hm1:mg "Twice"=some (.ref (cs.getD 1 0)))(hm2:mg "NoHolder"=some (.ref (cs.getD 2 0)))(hm3:mg "TooDeep"=some (.ref (cs.getD 3 0)))(hm4:mg "Nested"=some (.ref (cs.getD 4 0)))(hm5:mg "TooMany"=some (.ref (cs.getD 5 0)))(hm6:mg "NoName"=some (.ref (cs.getD 6 0)))(hm7:mg "WrongKind"=some (.ref (cs.getD 7 0)))(hm8:mg "NoStep"=some (.ref (cs.getD 8 0)))(zi:mg "isinstance"=none)(zv:mg "ValueError"=none)(zl:mg "len"=none) :
  Y3 P w K mg base 1 f fd ["_law_e"] (spW (cs.getD n 0) n):=by
 have nd:=sc_L_which.nd
 refine F.okH sc_L_which (fun ea oe vs H Q E h=>by obtain⟨rfl,_⟩:=h;rfl) (fun ea oe cdv A outer s H vs Q E hr hq h=>?_)
 obtain⟨rfl,hH,⟨hc,hd,hn⟩,q⟩:=h
 have hu:=CH hr
 have ks:=fun j (hj:j<9)=>o.ks j (by rw[hl9];exact hj)
 refine⟨_,(@AL _ _ _ _ _ (@Au _ _ 1 _ _ _ _ nd rfl DC (@Ee _ _ _ _ (AB (A9 (AB Aj (AB (Ad (El (ea:=ea) hc hd hn o.xc (ks 0 (by decide))) BZ zi PyProof.Rows.boot_isinstance (AB (pvL 0 rfl DD C0) (AB (EE (v:=.ref (cs.getD 0 0)) Pl hm0 rfl UO.1) AJ ⋯) ⋯) Av A1.1 ⋯ ⋯) AJ ⋯) ⋯)) (AB (A9 (AB Aj (AB (Ad (El (ea:=ea) hc hd hn o.xc (ks 1 (by decide))) BZ zi PyProof.Rows.boot_isinstance (AB (pvL 0 rfl DD C0) (AB (EE (v:=.ref (cs.getD 1 0)) Qf hm1 rfl Wq.1) AJ ⋯) ⋯) Av A1.1 ⋯ ⋯) AJ ⋯) ⋯)) AJ ⋯) ⋯)) ⋯ ⋯) (@AL _ _ _ _ _ (@Au _ _ 1 _ _ _ _ nd rfl DC (@Ae _ _ _ _ _ _ _ _ O7 (pvL 1 rfl DC C2) (@Ee _ _ _ _ (AB (A9 (AB Aj (AB (Ad (El (ea:=ea) hc hd hn o.xc (ks 2 (by decide))) BZ zi PyProof.Rows.boot_isinstance (AB (pvL 0 rfl DD C0) (AB (EE (v:=.ref (cs.getD 2 0)) Nr hm2 rfl QI.1) AJ ⋯) ⋯) Av A1.1 ⋯ ⋯) AJ ⋯) ⋯)) (AB (A9 (AB Aj (AB (Ad (El (ea:=ea) hc hd hn o.xc (ks 3 (by decide))) BZ zi PyProof.Rows.boot_isinstance (AB (pvL 0 rfl DD C0) (AB (EE (v:=.ref (cs.getD 3 0)) Oc hm3 rfl SM.1) AJ ⋯) ⋯) Av A1.1 ⋯ ⋯) AJ ⋯) ⋯)) AJ ⋯) ⋯))) ⋯ ⋯) (@AL _ _ _ _ _ (@Au _ _ 1 _ _ _ _ nd rfl DC (@Ae _ _ _ _ _ _ _ _ O7 (pvL 1 rfl DC C2) (@Ee _ _ _ _ (AB (A9 (AB Aj (AB (Ad (El (ea:=ea) hc hd hn o.xc (ks 4 (by decide))) BZ zi PyProof.Rows.boot_isinstance (AB (pvL 0 rfl DD C0) (AB (EE (v:=.ref (cs.getD 4 0)) Pn hm4 rfl UP.1) AJ ⋯) ⋯) Av A1.1 ⋯ ⋯) AJ ⋯) ⋯)) AJ ⋯))) ⋯ ⋯) (@AL _ _ _ _ _ (@Au _ _ 1 _ _ _ _ nd rfl DC (@Ae _ _ _ _ _ _ _ _ O7 (pvL 1 rfl DC C2) (@Ee _ _ _ _ (AB (A9 (AB Aj (AB (Ad (El (ea:=ea) hc hd hn o.xc (ks 5 (by decide))) BZ zi PyProof.Rows.boot_isinstance (AB (pvL 0 rfl DD C0) (AB (EE (v:=.ref (cs.getD 5 0)) Ob hm5 rfl SK.1) AJ ⋯) ⋯) Av A1.1 ⋯ ⋯) AJ ⋯) ⋯)) (AB (A9 (AB Aj (AB (Ad (El (ea:=ea) hc hd hn o.xc (ks 6 (by decide))) BZ zi PyProof.Rows.boot_isinstance (AB (pvL 0 rfl DD C0) (AB (EE (v:=.ref (cs.getD 6 0)) Pm hm6 rfl W0.1) AJ ⋯) ⋯) Av A1.1 ⋯ ⋯) AJ ⋯) ⋯)) AJ ⋯) ⋯))) ⋯ ⋯) (@AL _ _ _ _ _ (@Au _ _ 1 _ _ _ _ nd rfl DC (@Ae _ _ _ _ _ _ _ _ O7 (pvL 1 rfl DC C2) (@Ee _ _ _ _ (AB (A9 (AB Aj (AB (Ad (El (ea:=ea) hc hd hn o.xc (ks 7 (by decide))) BZ zi PyProof.Rows.boot_isinstance (AB (pvL 0 rfl DD C0) (AB (EE (v:=.ref (cs.getD 7 0)) M7 hm7 rfl Sh.1) AJ ⋯) ⋯) Av A1.1 ⋯ ⋯) AJ ⋯) ⋯)) (AB (A9 (AB Aj (AB (Ad (El (ea:=ea) hc hd hn o.xc (ks 8 (by decide))) BZ zi PyProof.Rows.boot_isinstance (AB (pvL 0 rfl DD C0) (AB (EE (v:=.ref (cs.getD 8 0)) Pk hm8 rfl Wz.1) AJ ⋯) ⋯) Av A1.1 ⋯ ⋯) AJ ⋯) ⋯)) AJ ⋯) ⋯))) ⋯ ⋯) (@AL _ _ _ _ _ (@ZJ _ ["_law_pair"] 1 [] _ _ _ _ _ _ ea oe _ _ _ _ 2 _ _ _ hq nd rfl WT (@II _ ["_law_pair"] 1 [] _ ["_law_e","_law_kinds_here","_law_names"] (AR B3) rfl rfl ∅) (pvL 1 rfl DC C2) (fun cl fp s3 H3=>(@Aw _ _ 0 _ WD rfl (CS ∅) (Or.inr (CZ ∅)))) (fun cl fp s3 H3=>(@Jr _ _ _ (B8 (@Az _ _ _ _ _ _ _ (show IxR _ (cY K) from An) (pv 0 rfl (Bc ∅) Hg.1 Hg.2) AH (fun _ _=>rfl)) ⋯))) (fun cl fp s3 H3=>(@Az _ _ _ _ _ _ _ (show IxR _ (cY K) from An) (pv 0 rfl (Bc ∅) Hg.1 Hg.2) AH (fun _ _=>rfl))) ⋯ ⋯) (@AL _ _ _ _ _ (@BP _ _ _ _ _ _ _ _ (PW.pt (EU (@Ah _ _ _ _ _ _ _ _ (@FR _ hu) (Ad BL TQ zl PySem.boot_len (AB (pvL 2 rfl P7 Hw) AJ ⋯) Ba B7.1 ⋯ ⋯) AH (Ap _)) (@Dj _ _ _ _ (B5 (B8 (Ad (Zy (ea:=ea) hc hd hn o.xc o.ve) BZ zi PyProof.Rows.boot_isinstance (AB (pvL 0 rfl DD C0) (AB (Gp MP zv jD QM RA.1) AJ ⋯) ⋯) Av A1.1 ⋯ ⋯) ⋯))))) (@AO _ _ _ (@Ac _ _ _ _ Aj)) As) (@AO _ _ _ (@Ac _ _ _ _ (@Az _ _ _ _ _ _ _ OS (pvL 2 rfl P7 Hw) AH (fun _ _=>rfl))))))))))),?_⟩
 show W9 _ _ _ [some (V.ref ea),none,none] H
 dsimp only[W9,Ua,NT]
 refine OP (K:=⟨K,w⟩) rfl hH fun l1 H1 m1 i1=>?_
 have mk:∀{Ha Hb:Hp},Same Ha Hb->Same (hid Zd Ha) (hid Zd Hb):=fun m=>(Same.keep (S:=Zd) m).same
 refine⟨.ref l1,rfl,?_⟩
 refine OP (K:=⟨K,w⟩) rfl (m1 _ _ hH) fun l2 H2 m2 i2=>?_
 refine Q8 (i1.mono (mk m2)) i2 (by decide:4<=sizeLine) fun l3 H3 m3 i3=>?_
 have h3:=m3 _ _ (m2 _ _ (m1 _ _ hH))
 refine⟨.ref l3,rfl,?_⟩
 refine bE (K:=⟨K,w⟩) rfl h3 fun l4 H4 m4 i4=>?_
 refine Q8 (i3.mono (mk m4)) i4 (by decide:5<=sizeLine) fun l5 H5 m5 i5=>?_
 have h5:=m5 _ _ (m4 _ _ h3)
 refine⟨.ref l5,rfl,?_⟩
 refine OP (K:=⟨K,w⟩) rfl h5 fun l6 H6 m6 i6=>?_
 refine Q8 (i5.mono (mk m6)) i6 (by decide:7<=sizeLine) fun l7 H7 m7 i7=>?_
 have h7:=m7 _ _ (m6 _ _ h5)
 refine⟨.ref l7,rfl,?_⟩
 refine OP (K:=⟨K,w⟩) rfl h7 fun l8 H8 m8 i8=>?_
 refine Q8 (i7.mono (mk m8)) i8 (by decide:9<=sizeLine) fun l9 H9 m9 i9=>?_
 have h9:=m9 _ _ (m8 _ _ h7)
 have m19:Same H H9:=fun b o e=>m9 _ _ (m8 _ _ (m7 _ _ (m6 _ _ (m5 _ _ (m4 _ _ (m3 _ _ (m2 _ _ (m1 _ _ e))))))))
 have hE:DL.E (⟨K,w⟩:KW) (tLC 1 [] (Ym K (J9 1)) (NT 0) (tB (tOp _ (J9 0) (tC (.int 1)))) (tOp _ (J9 0) (tC (.int 0)))) true fL:=MW (EF AF) AX (Cs (AW A5 AF AM)) (AW A5 AF AM)
 have r9 : R (⟨K, w⟩ : KW) Zd Zd [none, some (.d (.list (prs n))), none] [some (V.ref ea), some (V.ref l9), none] H9 := jJ (i := 1) rfl (fun j l e => by
  match j,e with
  |0,e=>cases e
  |1,e=>cases e;exact⟨rfl,rfl⟩
  |2,e=>cases e
  |j+3,e=>cases e) rfl i9
 refine hE.weak.run Zd Zd _ [some (V.ref ea),some (V.ref l9),none] H9 _ _ _ r9 (b7 hn6) fun vn HA rA cA iA=>?_
 have sA:Same H9 HA:=fun b o e=>cA b o (fun z=>z) e
 have hA:=sA _ _ h9
 have r2 : R (⟨K, w⟩ : KW) Zd Zd [none, none, some (.d (.list [.str (whS n)]))] [some (V.ref ea), some (V.ref l9), some vn] HA := jJ (i := 2) rfl (fun j l e => by
  match j,e with
  |0,e=>cases e
  |1,e=>cases e
  |2,e=>cases e;exact⟨rfl,rfl⟩
  |j+3,e=>cases e) rfl iA
 have hT:T (⟨K,w⟩:KW) (Vp (tOp _ (tCB _ (Gn (J9 2) Mr)) (tC (.int 1)))) (AN (dOp fNe (BD B9 (AA (AD 2) AI)) (dC (.int 1)))):=Aq (AW Mu (B0 Cn (AE AF AQ)) AM)
 refine hT.run Zd Zd _ [some (V.ref ea),some (V.ref l9),some vn] HA _ false _ r2 rfl fun HB rB cB=>?_
 have sB:Same HA HB:=fun b o e=>cB b o (fun z=>z) e
 rw[if_neg Bool.false_ne_true]
 refine⟨.ref ea,rfl,rfl,sB _ _ hA,true,rfl,?_⟩
 dsimp only
 rw[if_neg (show ¬((!true)=true) from Bool.false_ne_true)]
 have hR:DL.E (⟨K,w⟩:KW) (tOp _ (J9 2) (tC (.int 0))) false (dOp MU (AD 2) (dC (.int 0))):=AW YV AF AM
 refine hR.run Zd Zd _ [some (V.ref ea),some (V.ref l9),some vn] HB _ (.str (whS n)) _ rB rfl fun v HC rC cC iC=>?_
 cases (show v = .str (whS n) from iC)
 exact q HC fun b o e=>cC b o (fun z=>z) (sB _ _ (sA _ _ (m19 _ _ e)))
theorem YA{ls ls':List L}{r:PyData}(h:IE ls=some (r,ls')):∃x:PyData,ls=[.d x]/\ls'=ls/\((NR [x]=some (.inl (.bool true))/\r = .str "good")\/∃n,n<6/\NR [x]=some (.inr n)/\r = .str (whS n)):=by
 unfold IE at h
 split at h
 ·rename_i x
  split at h
  ·rename_i e
   cases h
   exact⟨x,rfl,rfl,.inl ⟨e,rfl⟩⟩
  ·rename_i n e
   split at h
   ·rename_i hn
    cases h
    exact⟨x,rfl,rfl,.inr ⟨n,hn,e,rfl⟩⟩
   ·cases h
  ·cases h
 ·cases h
theorem sc_L_told:Ao ["_law_rows","_law_told_here","_law_e"] ["_law_rows"] (AR Dt):=⟨rfl,rfl,rfl,∅,rfl,∅,∅⟩
theorem jS:Vis (AR Dt) "_law_rows":=by unfold Vis;decide +kernel
theorem jR:Vis (AR Dt) "_law_told_here":=by unfold Vis;decide +kernel
theorem jQ:Vis (AR Dt) "_law_e":=by unfold Vis;decide +kernel
theorem jV:(AR Dt).names.lookup ("_law_told_here":Str)=some NameKind.local:=∅
theorem jU:(AR Dt).names.lookup ("_law_e":Str)=some NameKind.local:=∅
theorem gN:glP Dt "vet":=∅
theorem ib:glP Dt "SceneError":=∅
theorem ia:glP Dt "_law_which":=∅
theorem YQ{cs:List Addr}{D fv fw:Addr}{fdv fdw:FuncData}{n:Nat}(hl9:cs.length=9)(hn6:n<6)(CF:FnOk P w K mg base (CXr P w) 9 fv fdv ["rows"] (spO ⟨K,w⟩ NR fun n=>cs.getD n 0))(mf:mg "vet"=some (.ref fv))(kf:PySem.W.keepIn K (.ref fv)=true)(bf:Binds K fdv ["rows"] [])
  (FW:Y3 P w K mg base 1 fw fdw ["_law_e"] (spW (cs.getD n 0) n)) (mw:mg "_law_which"=some (.ref fw)) (kw:PySem.W.keepIn K (.ref fw)=true) (bw:Binds K fdw ["_law_e"] []) (mD:mg "SceneError"=some (.ref D)) (o:X9 K D cs n)
  {cdv:Value} {A:Around} {outer:List Env} {s:Shared} {H:Hp} {E:XK} (hr:Room 9 (A.deeper (PyProof.Rows.envOfC "_law_told" (AR Dt) s.heap.objs.size f cdv))) :
  PSs (Py CX0 P w K mg base ["_law_rows","_law_told_here","_law_e"] "_law_told" (AR Dt) f cdv A outer s H E).nox (E2 Dt)
   (W9 (YF (spO ⟨K, w⟩ NR fun n => cs.getD n 0) (Gn (J9 0) Mr) (cs.getD n 0) 1 2 (fun ea oe => ZC (fun σ H Q => Gn (J9 2) Mr σ H fun vs H1 => H1 ea = some (.frz oe (.own ea)) /\ spW (cs.getD n 0) n ea oe vs H1 Q E0)))
    (W9 (cX (Vp (tOp (fun x y H Q=>∃b c,x = .bl b/\y = .bl c/\Q (.bl (b==c)) H) (J9 1) (tC (.bl true)))) (ZC (tC (.str "good"))) aJ) (ZC (tC (.str "other"))))):=by
 have nd:=sc_L_told.nd
 have one:∀{X:Cx} {x:Stmt} {u:TS},PS X x u->PSs X [x] u:=fun h=>AO h
 exact @AL _ _ _ _ _ (ZI (C := cs.getD n 0) (j := 1) (i := 2) CF hr gN mf kf bf (AB (pv 0 rfl jS BF.1 BF.2) AJ ⋯) ⟨rfl, rfl⟩ rfl ib mD o.ct nd rfl jV rfl jU
   (fun ea oe hc hd hn hno=>one (@Ac _ _ _ _ (aj (ea:=ea) (oe:=oe) FW ⟨rfl,(hr.mono (by decide:1<=9)).dp,(hr.mono (by decide:1<=9)).un⟩ rfl hno ia mw kw bw (AB (pv 2 rfl jQ C0.1 C0.2) AJ ⋯) Q9.1 ⋯ ⋯)))
   cW.1 RB.1 ⋯ ⋯ ⋯)
  (@AL _ _ _ _ _ (@BP _ _ _ _ _ _ _ _ (@Ah _ _ _ _ _ _ _ _ fz (pv 1 rfl jR JN.1 JN.2) Ez (Ap _)) (@AO _ _ _ (@Ac _ _ _ _ Aj)) As) (@AO _ _ _ (@Ac _ _ _ _ Aj)))
theorem ZR{cs:List Addr}{D fv fw:Addr}{fdv fdw:FuncData}(F:Fun K "_law_told" "_law_told" Dt f fd)(hl9:cs.length=9)(CF:FnOk P w K mg base (CXr P w) 9 fv fdv ["rows"] (spO ⟨K,w⟩ NR fun n=>cs.getD n 0))(mf:mg "vet"=some (.ref fv))(kf:PySem.W.keepIn K (.ref fv)=true)(bf:Binds K fdv ["rows"] [])
  (Fw:Fun K "_law_which" "_law_which" B3 fw fdw) (mw:mg "_law_which"=some (.ref fw)) (kw:PySem.W.keepIn K (.ref fw)=true) (bw:Binds K fdw ["_law_e"] []) (mD:mg "SceneError"=some (.ref D)) (xa:L2.excAll K D cs 6=true) (hm0:mg "NoPart"=some (.ref (cs.getD 0 0))) (hm1:mg "Twice"=some (.ref (cs.getD 1 0))) (hm2:mg "NoHolder"=some (.ref (cs.getD 2 0))) (hm3:mg "TooDeep"=some (.ref (cs.getD 3 0))) (hm4:mg "Nested"=some (.ref (cs.getD 4 0))) (hm5:mg "TooMany"=some (.ref (cs.getD 5 0))) (hm6:mg "NoName"=some (.ref (cs.getD 6 0))) (hm7:mg "WrongKind"=some (.ref (cs.getD 7 0))) (hm8:mg "NoStep"=some (.ref (cs.getD 8 0))) (zi:mg "isinstance"=none) (zv:mg "ValueError"=none) (zl:mg "len"=none) :
  FnOk P w K mg base CX0 10 f fd ["_law_rows"] (spD ⟨K,w⟩ IE false):=by
 refine F.ok sc_L_told (fun vs H Q E h=>?_) (fun cdv A outer s H vs Q E hr h=>?_)
 ·obtain⟨S,M,ls,r,ls',hR,hG,_⟩:=h
  obtain⟨x,rfl,_⟩:=YA hG
  have:=hR.len
  simpa using this
 obtain⟨S,M,ls,r,ls',hR,hG,hq⟩:=h
 obtain⟨x,rfl,rfl,hx⟩:=YA hG
 obtain⟨v0,hv0,hi0⟩:=hR.dat 0 x rfl
 have hvs:vs=[v0]:=by
  match vs,hv0,hR.len with
  |[a],h0,_=>cases h0;rfl
  |[],h0,_=>cases h0
  |_::_::_,_,hl=>simp at hl
 subst hvs
 have fin:∀{r v H'},Same H H'->Is ⟨K,w⟩ (hid S H') r v->(∀v H',R ⟨K,w⟩ S M (([.d x]:List L).map some) ([v0].map some) H'->Chg M H H'->Res ⟨K,w⟩ false S H H' r v->Q v H')->Q v H':=fun sm i q=>q _ _ (hR.same sm) (.of sm) i
 have il:IsL (⟨K,w⟩:KW) (hid S H) [x] [v0]:=⟨_,_,rfl,hi0,rfl⟩
 rcases hx with ⟨hv,rfl⟩|⟨n,hn,hv,rfl⟩
 ·have o:=L2.excAll_ok xa (by decide:0<6)
  refine⟨_,YQ hl9 (by decide) CF mf kf bf (RM hl9 (by decide) Fw o hm0 hm1 hm2 hm3 hm4 hm5 hm6 hm7 hm8 zi zv zl) mw kw bw mD o hr,?_⟩
  refine⟨v0,rfl,S,[x],_,il,hR.ex,hv,fun v H' sm i'=>?_⟩
  cases (show v = .bl true from i')
  refine⟨.bl true,rfl,true,true,rfl,rfl,true,rfl,?_⟩
  exact fin (r:=.str "good") sm rfl hq
 ·have o:=L2.excAll_ok xa hn
  refine⟨_,YQ hl9 hn CF mf kf bf (RM hl9 hn Fw o hm0 hm1 hm2 hm3 hm4 hm5 hm6 hm7 hm8 zi zv zl) mw kw bw mD o hr,?_⟩
  refine⟨v0,rfl,S,[x],_,il,hR.ex,hv,fun H1 s1=>⟨rfl,fun ea oe he hc hd hn' hno=>?_⟩⟩
  have s2:=CA he (HO.frz oe (.own ea))
  exact⟨.ref ea,rfl,Bk,rfl,Bk,⟨hc,hd,hn'⟩,fun H2 s3=>fin (r:=.str (whS n)) (fun b o e=>s3 _ _ (s2 _ _ (s1 _ _ e))) rfl hq⟩
theorem XY(F:Fun K "_law_chain" "_law_chain" GA f fd):FnOk P w K mg base CX0 1 f fd ["_law_rows","_law_name"] (spD ⟨K,w⟩ JM true):=by
 have nd:=sc_L_chain.nd
 refine F.ok sc_L_chain (fun vs H Q E h=>BB Ak h) (fun cdv A outer s H vs Q E hr h=>?_)
 exact⟨_,(@AL _ _ _ _ _ (@Au _ _ 2 _ _ _ _ nd rfl Ju YR ⋯ ⋯) (@AL _ _ _ _ _ (@HI _ _ _ _ _ _ _ _ PassesOwn.never rfl (@Ed _ _ _ _ (pvL 0 rfl WO BF)) (@Aw _ _ 3 _ nd rfl ME ⋯) (@AO _ _ _ (@Ec _ _ _ _ _ _ (pvL 3 rfl ME Af) (@ae _ _ _ _ _ _ _ (pvL 2 rfl Ju Ds) (@Az _ _ _ _ _ _ _ An (pvL 3 rfl ME Af) AH (fun _ _=>rfl)) eM ⋯) ⋯ ⋯ ⋯)) ⋯) (@AL _ _ _ _ _ (@Au _ _ 4 _ _ _ _ nd rfl MD (@Ee _ _ _ _ AJ) ⋯ ⋯) (@AL _ _ _ _ _ (@Ln _ _ _ _ _ _ PassesOwn.never (@Ah _ _ _ _ _ _ _ _ aw (pvL 1 rfl Jv Bz) (pvL 2 rfl Ju Ds) (by with_unfolding_all rfl)) (@AL _ _ _ _ _ (@Hl _ _ _ _ (@OD _ _ _ _ _ _ _ _ _ _ _ _ PySem.F.plainAttrs_list PySem.F.slot_list_append PySem.F.type_list_append Er (pvL 4 rfl MD Dc) (AB (pvL 1 rfl Jv Bz) AJ ⋯) ⋯ ⋯ ⋯ ⋯ ⋯) ⋯) (@AO _ _ _ (@Au _ _ 1 _ _ _ _ nd rfl Jv (@Az _ _ _ _ _ _ _ An (@Az _ _ _ _ _ _ _ bI (pvL 2 rfl Ju Ds) (pvL 1 rfl Jv Bz) (fun _ _=>rfl)) AH (fun _ _=>rfl)) ⋯ ⋯)))) (@AO _ _ _ (@Ac _ _ _ _ (@FV _ _ _ _ _ _ _ _ _ _ YJ (pvL 4 rfl MD Dc) (@Hm _ _ _ AH) Hn))))))),BA (N:=["_law_rows","_law_name","_law_by_name","_law_row","_law_chain_here"]) (np:=2) (nl:=3) (Ab cL (Ab (Lc (EF AF) AX (cK (i:=2) AF (AW A5 AF AM))) (Ab Sb (Ab (Ox (Aq (bZ (i:=2) AF)) (Ab (LX (VU (i:=4) Ga (AE AF AQ))) (BC (AW A5 (bY (i:=2) AF) AM) AX))) (Ax (Pu (i:=4) (ik AF (Sv AM) NC)) (by decide)))))) rfl h⟩
theorem V6(F:Fun K "_law_within" "_law_within" EZ f fd)(z_bool:mg "bool"=none)(z_isinstance:mg "isinstance"=none)(z_int:mg "int"=none):FnOk P w K mg base CX0 1 f fd ["_law_thing","_law_least","_law_most"] (spD ⟨K,w⟩ Bo false):=by
 have nd:=sc_L_within.nd
 refine F.ok sc_L_within (fun vs H Q E h=>BB Ak h) (fun cdv A outer s H vs Q E hr h=>?_)
 exact⟨_,(@AO _ _ _ (@Ac _ _ _ _ (CG (Ad CU Gu z_isinstance PyProof.Rows.boot_isinstance (AB (pvL 0 rfl K9 BU) (AB (Gp Ry z_int PySem.Pv.boot_int YW bu.1) AJ ⋯) ⋯) Av A1.1 ⋯ ⋯) (CG (@ag _ _ _ _ (Ad CU Gu z_isinstance PyProof.Rows.boot_isinstance (AB (pvL 0 rfl K9 BU) (AB (Gp Qe z_bool PySem.Pv.boot_bool Lr Ol.1) AJ ⋯) ⋯) Av A1.1 ⋯ ⋯)) (C1 (@RL _ _ _ _ _ _ _ _ _ _ _ _ Ki Ki (pvL 1 rfl VE Hx) (pvL 0 rfl K9 BU) (pvL 2 rfl VD FP) ⋯)))))),BA (N:=["_law_thing","_law_least","_law_most"]) (np:=3) (nl:=0) (Ax (Cw (IX (T:="int") AF) (Cw (fJ (IX (T:="bool") AF)) (LP O8 O8 AF AF AF))) (by decide)) rfl h⟩
theorem Ur(F:Fun K "_law_is_part" "_law_is_part" Du f fd)(c02:Cal P w K mg base 1 "_law_within" ["_law_thing","_law_least","_law_most"] (spD ⟨K,w⟩ Bo false))(c46:Cal P w K mg base 1 "_law_low" ["_law_top","_law_bottom"] (spD ⟨K,w⟩ Jw false))(z_len:mg "len"=none)(z_tuple:mg "tuple"=none)(z_isinstance:mg "isinstance"=none):FnOk P w K mg base CX0 2 f fd ["_law_thing"] (spD ⟨K,w⟩ EW false):=by
 have nd:=sc_L_is_part.nd
 refine F.ok sc_L_is_part (fun vs H Q E h=>BB Ak h) (fun cdv A outer s H vs Q E hr h=>?_)
 exact⟨_,(@AL _ _ _ _ _ (@BP _ _ _ _ _ _ _ _ (PW.pt (EU (B5 (B8 (Ad CU LL z_isinstance PyProof.Rows.boot_isinstance (AB (pvL 0 rfl DE BU) (AB (Gp Oe z_tuple PySem.Pv.boot_tuple HL Ji.1) AJ ⋯) ⋯) Av A1.1 ⋯ ⋯) ⋯)) (EU (@Ah _ _ _ _ _ _ _ _ (@FR _ (CH hr)) (Ad BL Qh z_len PySem.boot_len (AB (pvL 0 rfl DE BU) AJ ⋯) Ba B7.1 ⋯ ⋯) AH (Ap _)) (@Dj _ _ _ _ (B5 (B8 (AS c02 hr GL (AB (@Az _ _ _ _ _ _ _ An (pvL 0 rfl DE BU) AH (fun _ _=>rfl)) (AB AH (AB AH AJ ⋯) ⋯) ⋯) Cd.1 ⋯ ⋯) ⋯)))))) (@AO _ _ _ (@Ac _ _ _ _ Ez)) As) (@AO _ _ _ (@Ac _ _ _ _ (CG (AS c02 hr GL (AB (@Az _ _ _ _ _ _ _ An (pvL 0 rfl DE BU) AH (fun _ _=>rfl)) (AB AH (AB (@Az _ _ _ _ _ _ _ An (pvL 0 rfl DE BU) AH (fun _ _=>rfl)) AJ ⋯) ⋯) ⋯) Cd.1 ⋯ ⋯) (C1 (@CL _ _ _ _ _ _ _ _ (@BN _ (CH hr)) (AS c46 hr MS (AB (@Az _ _ _ _ _ _ _ An (pvL 0 rfl DE BU) AH (fun _ _=>rfl)) (AB (@Az _ _ _ _ _ _ _ An (pvL 0 rfl DE BU) AH (fun _ _=>rfl)) AJ ⋯) ⋯) QG.1 ⋯ ⋯) (pvL 0 rfl DE BU) (Ap _))))))),BA (N:=["_law_thing"]) (np:=1) (nl:=0) (Ab (CV (Ib (Ck (Cs (IX (T:="tuple") AF))) (Ib (Aq (AW Mu (B0 Cn (AE AF AQ)) AM)) (Ck (Cs (Aa (AE (AW A5 AF AM) (AE AM (AE AM AQ)))))))) (Ax Jh (by decide)) BY) (Ax (Cw (Aa (AE (AW A5 AF AM) (AE AM (AE (AW A5 AF AM) AQ)))) (AW Cu (Aa (AE (AW A5 AF AM) (AE (AW A5 AF AM) AQ))) AF)) (by decide))) rfl h⟩
theorem Ss(F:Fun K "_law_is_paint" "_law_is_paint" Eb f fd)(c13:Cal P w K mg base 2 "_law_is_part" ["_law_thing"] (spD ⟨K,w⟩ EW false))(z_len:mg "len"=none):FnOk P w K mg base CX0 3 f fd ["_law_data","_law_many"] (spD ⟨K,w⟩ Cc false):=by
 have nd:=sc_L_is_paint.nd
 refine F.ok sc_L_is_paint (fun vs H Q E h=>BB Ak h) (fun cdv A outer s H vs Q E hr h=>?_)
 exact⟨_,(@AO _ _ _ (@Ac _ _ _ _ (CG (@CL _ _ _ _ _ _ _ _ (@BN _ (CH hr)) (Ad BL Po z_len PySem.boot_len (AB (pvL 0 rfl JZ A8) AJ ⋯) Ba B7.1 ⋯ ⋯) (pvL 1 rfl Ra Vc) (Ap _)) (CG (AS c13 hr FQ (AB (@Az _ _ _ _ _ _ _ An (pvL 0 rfl JZ A8) (@JT _ _ _ _ _ _ Fn AH) (fun _ _=>rfl)) AJ ⋯) Ig.1 ⋯ ⋯) (C1 (AS c13 hr FQ (AB (@Az _ _ _ _ _ _ _ An (pvL 0 rfl JZ A8) (@JT _ _ _ _ _ _ Fn AH) (fun _ _=>rfl)) AJ ⋯) Ig.1 ⋯ ⋯)))))),BA (N:=["_law_data","_law_many"]) (np:=2) (nl:=0) (Ax (Cw (AW Cu (B0 Cn (AE AF AQ)) AF) (Cw (Aa (AE (AW A5 AF (Nx JP AM)) AQ)) (Aa (AE (AW A5 AF (Nx JP AM)) AQ)))) (by decide)) rfl h⟩
theorem XX(F:Fun K "_law_is_of" "_law_is_of" En f fd)(z_len:mg "len"=none)(z_str:mg "str"=none)(z_isinstance:mg "isinstance"=none):FnOk P w K mg base CX0 1 f fd ["_law_thing","_law_signs","_law_least","_law_most"] (spD ⟨K,w⟩ Dq false):=by
 have nd:=sc_L_is_of.nd
 refine F.ok sc_L_is_of (fun vs H Q E h=>BB Ak h) (fun cdv A outer s H vs Q E hr h=>?_)
 exact⟨_,(@AL _ _ _ _ _ (@BP _ _ _ _ _ _ _ _ (PW.pt (EU (B5 (B8 (Ad CU MT z_isinstance PyProof.Rows.boot_isinstance (AB (pvL 0 rfl MB BU) (AB (Gp TU z_str PySem.Pv.boot_str K7 Ny.1) AJ ⋯) ⋯) Av A1.1 ⋯ ⋯) ⋯)) (@Dj _ _ _ _ (B5 (@OB _ _ _ _ _ _ _ _ _ _ _ _ Ki Ki (pvL 2 rfl WN Hx) (Ad BL TV z_len PySem.boot_len (AB (pvL 0 rfl MB BU) AJ ⋯) Ba B7.1 ⋯ ⋯) (pvL 3 rfl WM FP) ⋯))))) (@AO _ _ _ (@Ac _ _ _ _ Ez)) As) (@AO _ _ _ (@Ac _ _ _ _ (@CL _ _ _ _ _ _ _ _ (@BN _ (CH hr)) (@Kh _ ["_law_sign","_law_signs"] 1 [1] _ _ _ _ _ _ _ _ _ _ rfl (@II _ ["_law_sign","_law_signs"] 1 [1] _ ["_law_thing","_law_signs","_law_least","_law_most"] (AR En) rfl rfl ∅) (@XG _ _ _ _ (pvL 0 rfl MB BU)) (fun cl fp s3 H3=>(@Aw _ _ 0 _ WG rfl (CS ∅) (Or.inr (CZ ∅)))) (fun cl fp s3 H3=>(@Jr _ _ _ (@Ah _ _ _ _ _ _ _ _ (@Uc _) (pv 0 rfl (Bc ∅) JE.1 JE.2) (pv 1 rfl (JO ∅) Hv.1 Hv.2) (by with_unfolding_all rfl)))) (fun cl fp s3 H3=>(pv 0 rfl (Bc ∅) JE.1 JE.2)) ⋯) (@Ee _ _ _ _ AJ) (Ap _))))),BA (N:=["_law_thing","_law_signs","_law_least","_law_most"]) (np:=4) (nl:=0) (Ab (CV (Ib (Ck (Cs (IX (T:="str") AF))) (Ck (Aq (LP O8 O8 AF (B0 Cn (AE AF AQ)) AF)))) (Ax Jh (by decide)) BY) (Ax (AW Cu (MW (Xg AF) AX (Aq (AW gC AF AF)) AF) (R9 AQ)) (by decide))) rfl h⟩
theorem Su(F:Fun K "_law_are_rows" "_law_are_rows" CO f fd)(c09:Cal P w K mg base 1 "_law_is_of" ["_law_thing","_law_signs","_law_least","_law_most"] (spD ⟨K,w⟩ Dq false))(z_len:mg "len"=none)(z_tuple:mg "tuple"=none)(z_isinstance:mg "isinstance"=none)(z_min:mg "min"=none)(z_max:mg "max"=none):FnOk P w K mg base CX0 2 f fd ["_law_thing"] (spD ⟨K,w⟩ Gb false):=by
 have nd:=sc_L_are_rows.nd
 refine F.ok sc_L_are_rows (fun vs H Q E h=>BB Ak h) (fun cdv A outer s H vs Q E hr h=>?_)
 exact⟨_,(@AL _ _ _ _ _ (@BP _ _ _ _ _ _ _ _ (PW.pt (EU (B5 (B8 (Ad CU Ks z_isinstance PyProof.Rows.boot_isinstance (AB (pvL 0 rfl GY BU) (AB (Gp Nu z_tuple PySem.Pv.boot_tuple HL Ji.1) AJ ⋯) ⋯) Av A1.1 ⋯ ⋯) ⋯)) (@Dj _ _ _ _ (B5 (@OB _ _ _ _ _ _ _ _ _ _ _ _ YU YU AH (Ad BL Hc z_len PySem.boot_len (AB (pvL 0 rfl GY BU) AJ ⋯) Ba B7.1 ⋯ ⋯) AH ⋯))))) (@AO _ _ _ (@Ac _ _ _ _ Ez)) As) (@AL _ _ _ _ _ (@RH _ ["_law_row"] 1 [] _ _ _ _ _ _ _ _ _ _ 1 _ _ _ nd rfl Rh rfl (@II _ ["_law_row"] 1 [] _ ["_law_thing","_law_sizes"] (AR CO) rfl rfl ∅) (@XF _ _ _ _ (pvL 0 rfl GY BU)) (fun cl fp s3 H3=>(@Aw _ _ 0 _ RT rfl (CS ∅) (Or.inr (CZ ∅)))) (fun cl fp s3 H3=>(@Jr _ _ _ (B8 (AS c09 hr (Jq ∅) (AB (pv 0 rfl (Bc ∅) Af.1 Af.2) (AB Aj (AB AH (AB AH AJ ⋯) ⋯) ⋯) ⋯) Hy.1 ⋯ ⋯) ⋯))) (fun cl fp s3 H3=>(Ad BL (Jq ∅) z_len PySem.boot_len (AB (pv 0 rfl (Bc ∅) Af.1 Af.2) AJ ⋯) Ba B7.1 ⋯ ⋯)) ⋯ ⋯) (@AO _ _ _ (@Ac _ _ _ _ (CG (@CL _ _ _ _ _ _ _ _ (@BN _ (CH hr)) (Ad BL Hc z_len PySem.boot_len (AB (pvL 1 rfl Ja KU) AJ ⋯) Ba B7.1 ⋯ ⋯) (Ad BL Hc z_len PySem.boot_len (AB (pvL 0 rfl GY BU) AJ ⋯) Ba B7.1 ⋯ ⋯) (Ap _)) (C1 (@CL _ _ _ _ _ _ _ _ (@BN _ (CH hr)) (Ad (@Zw _ rfl) Pq z_min PyProof.Rows.boot_min (AB (pvL 1 rfl Ja KU) AJ ⋯) c6 gU.1 ⋯ ⋯) (Ad (@Zx _ rfl) Pr z_max PyProof.Rows.boot_max (AB (pvL 1 rfl Ja KU) AJ ⋯) dA gW.1 ⋯ ⋯) (Ap _)))))))),BA (N:=["_law_thing","_law_sizes"]) (np:=1) (nl:=1) (Ab (CV (Ib (Ck (Cs (IX (T:="tuple") AF))) (Ck (Aq (LP cy cy AM (B0 Cn (AE AF AQ)) AM)))) (Ax Jh (by decide)) BY) (Ab (cM (MW (Xf AF) AX (Cs (Aa (AE AF (AE BS (AE AM (AE AM AQ)))))) (B0 Cn (AE AF AQ)))) (Ax (Cw (AW Cu (B0 Cn (AE AF AQ)) (B0 Cn (AE AF AQ))) (AW Cu (B0 gY (AE AF AQ)) (B0 gZ (AE AF AQ)))) (by decide)))) rfl h⟩
theorem Us(F:Fun K "_law_is_data" "_law_is_data" Bv f fd)(c13:Cal P w K mg base 3 "_law_is_part" ["_law_thing"] (spD ⟨K,w⟩ EW false))(c02:Cal P w K mg base 3 "_law_within" ["_law_thing","_law_least","_law_most"] (spD ⟨K,w⟩ Bo false))(c09:Cal P w K mg base 3 "_law_is_of" ["_law_thing","_law_signs","_law_least","_law_most"] (spD ⟨K,w⟩ Dq false))(c19:Cal P w K mg base 3 "_law_is_paint" ["_law_data","_law_many"] (spD ⟨K,w⟩ Cc false))(c58:Cal P w K mg base 3 "_law_are_rows" ["_law_thing"] (spD ⟨K,w⟩ Gb false))(z_len:mg "len"=none)(z_bool:mg "bool"=none)(z_isinstance:mg "isinstance"=none):FnOk P w K mg base CX0 4 f fd ["_law_kind","_law_data"] (spD ⟨K,w⟩ IG false):=by
 have nd:=sc_L_is_data.nd
 refine F.ok sc_L_is_data (fun vs H Q E h=>BB Ak h) (fun cdv A outer s H vs Q E hr h=>?_)
 exact⟨_,(@AL _ _ _ _ _ (@BP _ _ _ _ _ _ _ _ (PW.pt (EU (@Ah _ _ _ _ _ _ _ _ (@BN _ (CH hr)) (pvL 0 rfl CN A7) Aj (Ap _)) (@Dj _ _ _ _ (@Ah _ _ _ _ _ _ _ _ (@BN _ (CH hr)) (pvL 0 rfl CN A7) Aj (Ap _))))) (@AO _ _ _ (@Ac _ _ _ _ (@CL _ _ _ _ _ _ _ _ (@BN _ (CH hr)) (pvL 1 rfl Bf A8) (A9 AJ) (Ap _)))) As) (@AL _ _ _ _ _ (@BP _ _ _ _ _ _ _ _ (@Ah _ _ _ _ _ _ _ _ (@BN _ (CH hr)) (pvL 0 rfl CN A7) Aj (Ap _)) (@AO _ _ _ (@Ac _ _ _ _ (CG (@CL _ _ _ _ _ _ _ _ (@BN _ (CH hr)) (Ad BL Ie z_len PySem.boot_len (AB (pvL 1 rfl Bf A8) AJ ⋯) Ba B7.1 ⋯ ⋯) AH (Ap _)) (C1 (AS c13 hr KR (AB (@Az _ _ _ _ _ _ _ An (pvL 1 rfl Bf A8) AH (fun _ _=>rfl)) AJ ⋯) Ig.1 ⋯ ⋯))))) As) (@AL _ _ _ _ _ (@BP _ _ _ _ _ _ _ _ (@Ah _ _ _ _ _ _ _ _ (@BN _ (CH hr)) (pvL 0 rfl CN A7) Aj (Ap _)) (@AO _ _ _ (@Ac _ _ _ _ (CG (@CL _ _ _ _ _ _ _ _ (@BN _ (CH hr)) (Ad BL Ie z_len PySem.boot_len (AB (pvL 1 rfl Bf A8) AJ ⋯) Ba B7.1 ⋯ ⋯) AH (Ap _)) (CG (AS c02 hr CT (AB (@Az _ _ _ _ _ _ _ An (pvL 1 rfl Bf A8) AH (fun _ _=>rfl)) (AB AH (AB AH AJ ⋯) ⋯) ⋯) Cd.1 ⋯ ⋯) (C1 (Ad CU LM z_isinstance PyProof.Rows.boot_isinstance (AB (@Az _ _ _ _ _ _ _ An (pvL 1 rfl Bf A8) AH (fun _ _=>rfl)) (AB (Gp Pp z_bool PySem.Pv.boot_bool Lr Ol.1) AJ ⋯) ⋯) Av A1.1 ⋯ ⋯)))))) As) (@AL _ _ _ _ _ (@BP _ _ _ _ _ _ _ _ (@Ah _ _ _ _ _ _ _ _ (@BN _ (CH hr)) (pvL 0 rfl CN A7) Aj (Ap _)) (@AO _ _ _ (@Ac _ _ _ _ (CG (AS c19 hr Dk (AB (pvL 1 rfl Bf A8) (AB AH AJ ⋯) ⋯) Hf.1 ⋯ ⋯) (C1 (AS c09 hr LN (AB (@Az _ _ _ _ _ _ _ An (pvL 1 rfl Bf A8) AH (fun _ _=>rfl)) (AB Aj (AB AH (AB AH AJ ⋯) ⋯) ⋯) ⋯) Hy.1 ⋯ ⋯))))) As) (@AL _ _ _ _ _ (@BP _ _ _ _ _ _ _ _ (@Ah _ _ _ _ _ _ _ _ (@BN _ (CH hr)) (pvL 0 rfl CN A7) Aj (Ap _)) (@AO _ _ _ (@Ac _ _ _ _ (CG (AS c19 hr Dk (AB (pvL 1 rfl Bf A8) (AB AH AJ ⋯) ⋯) Hf.1 ⋯ ⋯) (C1 (AS c58 hr Jm (AB (@Az _ _ _ _ _ _ _ An (pvL 1 rfl Bf A8) AH (fun _ _=>rfl)) AJ ⋯) Px.1 ⋯ ⋯))))) As) (@AL _ _ _ _ _ (@Au _ _ 2 _ _ _ _ nd rfl KL (@RK _ _ _ _ _ (@Ip _ _ _ _ _ _ _ _ _ Aj (A9 (AB AH (AB AH AJ ⋯) ⋯)) (@Ip _ _ _ _ _ _ _ _ _ Aj (A9 (AB (@JT _ _ _ _ _ _ Fn AH) (AB AH AJ ⋯) ⋯)) (@Ip _ _ _ _ _ _ _ _ _ Aj (A9 (AB AH (AB AH AJ ⋯) ⋯)) (@Ip _ _ _ _ _ _ _ _ _ Aj (A9 (AB AH (AB AH AJ ⋯) ⋯)) XH)))) ⋯ ⋯ (List.cons_ne_nil _ _) (by decide)) ⋯ ⋯) (@AL _ _ _ _ _ (@BP _ _ _ _ _ _ _ _ (PW.pt (EU (@Ah _ _ _ _ _ _ _ _ ZM (pvL 0 rfl CN A7) (pvL 2 rfl KL Mc) (by with_unfolding_all rfl)) (@Dj _ _ _ _ (@Ah _ _ _ _ _ _ _ _ (@FR _ (CH hr)) (Ad BL Ie z_len PySem.boot_len (AB (pvL 1 rfl Bf A8) AJ ⋯) Ba B7.1 ⋯ ⋯) AH (Ap _))))) (@AO _ _ _ (@Ac _ _ _ _ Ez)) As) (@AL _ _ _ _ _ (@Ec _ _ _ _ _ _ (@Az _ _ _ _ _ _ _ bI (pvL 2 rfl KL Mc) (pvL 0 rfl CN A7) (fun _ _=>rfl)) (Ew rfl (BJ (@Aw _ _ 3 _ nd rfl KJ ⋯) (BJ (@Aw _ _ 4 _ nd rfl KI ⋯) Dg ⋯) ⋯) ⋯ ⋯) ⋯ ⋯ ⋯) (@AL _ _ _ _ _ (@BP _ _ _ _ _ _ _ _ (PW.pt (EU (B5 (B8 (AS c02 hr CT (AB (@Az _ _ _ _ _ _ _ An (pvL 1 rfl Bf A8) AH (fun _ _=>rfl)) (AB (pvL 3 rfl KJ Hx) (AB (pvL 4 rfl KI FP) AJ ⋯) ⋯) ⋯) Cd.1 ⋯ ⋯) ⋯)) (@Dj _ _ _ _ (B5 (B8 (AS c02 hr CT (AB (@Az _ _ _ _ _ _ _ An (pvL 1 rfl Bf A8) AH (fun _ _=>rfl)) (AB (pvL 3 rfl KJ Hx) (AB (pvL 4 rfl KI FP) AJ ⋯) ⋯) ⋯) Cd.1 ⋯ ⋯) ⋯))))) (@AO _ _ _ (@Ac _ _ _ _ Ez)) As) (@AL _ _ _ _ _ (@BP _ _ _ _ _ _ _ _ (PW.pt (EU (@Ah _ _ _ _ _ _ _ _ (@BN _ (CH hr)) (pvL 0 rfl CN A7) Aj (Ap _)) (@Dj _ _ _ _ (@Ah _ _ _ _ _ _ _ _ (@BN _ (CH hr)) (pvL 0 rfl CN A7) Aj (Ap _))))) (@AO _ _ _ (@Ac _ _ _ _ (AS c19 hr Dk (AB (pvL 1 rfl Bf A8) (AB AH AJ ⋯) ⋯) Hf.1 ⋯ ⋯))) As) (@AL _ _ _ _ _ (@Au _ _ 5 _ _ _ _ nd rfl Fd (@Az _ _ _ _ _ _ _ bI (@RK _ _ _ _ _ (@Ip _ _ _ _ _ _ _ _ _ Aj AH (@Ip _ _ _ _ _ _ _ _ _ Aj AH XH)) ⋯ ⋯ (List.cons_ne_nil _ _) (by decide)) (pvL 0 rfl CN A7) (fun _ _=>rfl)) ⋯ ⋯) (@AO _ _ _ (@Ac _ _ _ _ (CG (AS c02 hr CT (AB (@Az _ _ _ _ _ _ _ An (pvL 1 rfl Bf A8) AH (fun _ _=>rfl)) (AB (@JT _ _ _ _ _ _ Fn (pvL 5 rfl Fd J6)) (AB (pvL 5 rfl Fd J6) AJ ⋯) ⋯) ⋯) Cd.1 ⋯ ⋯) (C1 (AS c02 hr CT (AB (@Az _ _ _ _ _ _ _ An (pvL 1 rfl Bf A8) AH (fun _ _=>rfl)) (AB (@JT _ _ _ _ _ _ Fn (pvL 5 rfl Fd J6)) (AB (pvL 5 rfl Fd J6) AJ ⋯) ⋯) ⋯) Cd.1 ⋯ ⋯)))))))))))))))),BA (N:=["_law_kind","_law_data","_law_bounds","_law_least","_law_most","_law_far"]) (np:=2) (nl:=4) (Ab (CV (Ib (Aq (AW Cu AF BS)) (Aq (AW Cu AF BS))) (Ax (AW Cu AF (Bu AQ)) (by decide)) BY) (Ab (CV (Aq (AW Cu AF BS)) (Ax (Cw (AW Cu (B0 Cn (AE AF AQ)) AM) (Aa (AE (AW A5 AF AM) AQ))) (by decide)) BY) (Ab (CV (Aq (AW Cu AF BS)) (Ax (Cw (AW Cu (B0 Cn (AE AF AQ)) AM) (Cw (Aa (AE (AW A5 AF AM) (AE AM (AE AM AQ)))) (IX (T:="bool") (AW A5 AF AM)))) (by decide)) BY) (Ab (CV (Aq (AW Cu AF BS)) (Ax (Cw (Aa (AE AF (AE AM AQ))) (Aa (AE (AW A5 AF AM) (AE BS (AE AM (AE AM AQ)))))) (by decide)) BY) (Ab (CV (Aq (AW Cu AF BS)) (Ax (Cw (Aa (AE AF (AE AM AQ))) (Aa (AE (AW A5 AF AM) AQ))) (by decide)) BY) (Ab (gh (Iq (Bu (AE AM (AE AM AQ))) (fun _=>rfl) rfl (Iq (Bu (AE (Nx JP AM) (AE AM AQ))) (fun _=>rfl) rfl (Iq (Bu (AE AM (AE AM AQ))) (fun _=>rfl) rfl (Iq (Bu (AE AM (AE AM AQ))) (fun _=>rfl) rfl XI)))) (by decide) (XZ (l:=["plate","band","window","tiles"]) ∅)) (Ab (CV (Ib (Aq (bZ (i:=2) AF)) (Aq (AW Mu (B0 Cn (AE AF AQ)) AM))) (Ax Jh (by decide)) BY) (Ab (BC (bY (i:=2) AF) (Gq (Bb AX (Bb AX Ey)) (BK (BK Dh)))) (Ab (CV (Ib (Ck (Cs (Aa (AE (AW A5 AF AM) (AE AF (AE AF AQ)))))) (Ck (Cs (Aa (AE (AW A5 AF AM) (AE AF (AE AF AQ))))))) (Ax Jh (by decide)) BY) (Ab (CV (Ib (Aq (AW Cu AF BS)) (Aq (AW Cu AF BS))) (Ax (Aa (AE AF (AE AM AQ))) (by decide)) BY) (Ab (BC (ba (Iq AM (fun _=>rfl) rfl (Iq AM (fun _=>rfl) rfl XI)) (by decide) (XZ (l:=["window","tiles"]) ∅) AF) AX) (Ax (Cw (Aa (AE (AW A5 AF AM) (AE (Nx JP AF) (AE AF AQ)))) (Aa (AE (AW A5 AF AM) (AE (Nx JP AF) (AE AF AQ))))) (by decide))))))))))))) rfl h⟩
theorem V8(F:Fun K "_law_is_row" "_law_is_row" D0 f fd)(c09:Cal P w K mg base 4 "_law_is_of" ["_law_thing","_law_signs","_law_least","_law_most"] (spD ⟨K,w⟩ Dq false))(c02:Cal P w K mg base 4 "_law_within" ["_law_thing","_law_least","_law_most"] (spD ⟨K,w⟩ Bo false))(c69:Cal P w K mg base 4 "_law_is_data" ["_law_kind","_law_data"] (spD ⟨K,w⟩ IG false))(z_bool:mg "bool"=none)(z_isinstance:mg "isinstance"=none):FnOk P w K mg base CX0 5 f fd ["_law_row"] (spD ⟨K,w⟩ Fv false):=by
 have nd:=sc_L_is_row.nd
 refine F.ok sc_L_is_row (fun vs H Q E h=>BB Ak h) (fun cdv A outer s H vs Q E hr h=>?_)
 exact⟨_,(@AL _ _ _ _ _ (@Au _ _ 1 _ _ _ _ nd rfl LA Aj ⋯ ⋯) (@AL _ _ _ _ _ (@BP _ _ _ _ _ _ _ _ (PW.pt (EU (B5 (B8 (AS c09 hr Gw (AB (@Az _ _ _ _ _ _ _ An (pvL 0 rfl Eh Af) AH (fun _ _=>rfl)) (AB (pvL 1 rfl LA Hv) (AB AH (AB AH AJ ⋯) ⋯) ⋯) ⋯) Hy.1 ⋯ ⋯) ⋯)) (@Dj _ _ _ _ (B5 (B8 (AS c09 hr Gw (AB (@Az _ _ _ _ _ _ _ An (pvL 0 rfl Eh Af) AH (fun _ _=>rfl)) (AB (pvL 1 rfl LA Hv) (AB AH (AB AH AJ ⋯) ⋯) ⋯) ⋯) Hy.1 ⋯ ⋯) ⋯))))) (@AO _ _ _ (@Ac _ _ _ _ Ez)) As) (@AL _ _ _ _ _ (@BP _ _ _ _ _ _ _ _ (PW.pt (EU (B5 (B8 (AS c02 hr Gh (AB (@Az _ _ _ _ _ _ _ An (pvL 0 rfl Eh Af) AH (fun _ _=>rfl)) (AB (@JT _ _ _ _ _ _ Fn AH) (AB AH AJ ⋯) ⋯) ⋯) Cd.1 ⋯ ⋯) ⋯)) (EU (B5 (B8 (AS c02 hr Gh (AB (@Az _ _ _ _ _ _ _ An (pvL 0 rfl Eh Af) AH (fun _ _=>rfl)) (AB (@JT _ _ _ _ _ _ Fn AH) (AB AH AJ ⋯) ⋯) ⋯) Cd.1 ⋯ ⋯) ⋯)) (@Dj _ _ _ _ (B5 (B8 (Ad CU Lh z_isinstance PyProof.Rows.boot_isinstance (AB (@Az _ _ _ _ _ _ _ An (pvL 0 rfl Eh Af) AH (fun _ _=>rfl)) (AB (Gp Qg z_bool PySem.Pv.boot_bool Lr Ol.1) AJ ⋯) ⋯) Av A1.1 ⋯ ⋯) ⋯)))))) (@AO _ _ _ (@Ac _ _ _ _ Ez)) As) (@AO _ _ _ (@Ac _ _ _ _ (AS c69 hr Kr (AB (@Az _ _ _ _ _ _ _ An (pvL 0 rfl Eh Af) AH (fun _ _=>rfl)) (AB (@Az _ _ _ _ _ _ _ An (pvL 0 rfl Eh Af) AH (fun _ _=>rfl)) AJ ⋯) ⋯) Qm.1 ⋯ ⋯)))))),BA (N:=["_law_row","_law_signs"]) (np:=1) (nl:=1) (Ab (BC BS AX) (Ab (CV (Ib (Ck (Cs (Aa (AE (AW A5 AF AM) (AE AF (AE AM (AE AM AQ))))))) (Ck (Cs (Aa (AE (AW A5 AF AM) (AE AF (AE AM (AE AM AQ)))))))) (Ax Jh (by decide)) BY) (Ab (CV (Ib (Ck (Cs (Aa (AE (AW A5 AF AM) (AE (Nx JP AM) (AE AM AQ)))))) (Ib (Ck (Cs (Aa (AE (AW A5 AF AM) (AE (Nx JP AM) (AE AM AQ)))))) (Ck (Cs (IX (T:="bool") (AW A5 AF AM)))))) (Ax Jh (by decide)) BY) (Ax (Aa (AE (AW A5 AF AM) (AE (AW A5 AF AM) AQ))) (by decide))))) rfl h⟩
theorem a7(F:Fun K "_law_due" "_law_due" C5 f fd)(c85:Cal P w K mg base 5 "_law_is_row" ["_law_row"] (spD ⟨K,w⟩ Fv false))(c21:Cal P w K mg base 5 "_law_kinds" [] (spD ⟨K,w⟩ Dm false))(c95:Cal P w K mg base 5 "_law_chain" ["_law_rows","_law_name"] (spD ⟨K,w⟩ JM true))(z_len:mg "len"=none):FnOk P w K mg base CX0 6 f fd ["_law_rows"] (spD ⟨K,w⟩ Ml false):=by
 have nd:=sc_L_due.nd
 refine F.ok sc_L_due (fun vs H Q E h=>BB Ak h) (fun cdv A outer s H vs Q E hr h=>?_)
 exact⟨_,(@AL _ _ _ _ _ (@Au _ _ 1 _ _ _ _ nd rfl JH (@Ee _ _ _ _ AJ) ⋯ ⋯) (@AL _ _ _ _ _ (@HI _ _ _ _ _ _ _ _ PassesOwn.never rfl (@Ed _ _ _ _ (pvL 0 rfl T6 BF)) (@Aw _ _ 2 _ nd rfl HP ⋯) (@AL _ _ _ _ _ (@BP _ _ _ _ _ _ _ _ (B5 (B8 (AS c85 hr M8 (AB (pvL 2 rfl HP Af) AJ ⋯) SI.1 ⋯ ⋯) ⋯)) (@AO _ _ _ (@Ac _ _ _ _ Aj)) As) (@AL _ _ _ _ _ (@BP _ _ _ _ _ _ _ _ (@Ah _ _ _ _ _ _ _ _ (@Lo _ (VM hr)) (@Az _ _ _ _ _ _ _ An (pvL 2 rfl HP Af) AH (fun _ _=>rfl)) (@Kh _ ["_law_one"] 1 [] _ _ _ _ _ _ _ _ _ _ rfl (@II _ ["_law_one"] 1 [] _ ["_law_rows","_law_met","_law_row","_law_holder","_law_chain_here","_law_tiles"] (AR C5) rfl rfl ∅) (@Ed _ _ _ _ (pvL 1 rfl JH IY)) (fun cl fp s3 H3=>(@Aw _ _ 0 _ ZX rfl (CS ∅) (Or.inr (CZ ∅)))) (fun cl fp s3 H3=>Io) (fun cl fp s3 H3=>(@Az _ _ _ _ _ _ _ An (pv 0 rfl (Bc ∅) BM.1 BM.2) AH (fun _ _=>rfl))) ⋯) (by with_unfolding_all rfl)) (@AO _ _ _ (@Ac _ _ _ _ Aj)) As) (@AL _ _ _ _ _ (@RH _ ["_law_one","_law_row"] 1 [2] _ _ _ _ _ _ _ _ _ _ 3 _ _ _ nd rfl Zh rfl (@II _ ["_law_one","_law_row"] 1 [2] _ ["_law_rows","_law_met","_law_row","_law_holder","_law_chain_here","_law_tiles"] (AR C5) rfl rfl ∅) (@Ed _ _ _ _ (pvL 1 rfl JH IY)) (fun cl fp s3 H3=>(@Aw _ _ 0 _ ZW rfl (CS ∅) (Or.inr (CZ ∅)))) (fun cl fp s3 H3=>(@Jr _ _ _ (@Ah _ _ _ _ _ _ _ _ (@BN _ (CH hr)) (@Az _ _ _ _ _ _ _ An (pv 0 rfl (Bc ∅) BM.1 BM.2) AH (fun _ _=>rfl)) (@Az _ _ _ _ _ _ _ An (pv 1 rfl (JO ∅) Af.1 Af.2) AH (fun _ _=>rfl)) (Ap _)))) (fun cl fp s3 H3=>(pv 0 rfl (Bc ∅) BM.1 BM.2)) ⋯ ⋯) (@AL _ _ _ _ _ (@BP _ _ _ _ _ _ _ _ (PW.pt (@KC _ _ _ _ _ _ _ (@Ah _ _ _ _ _ _ _ _ (@FR _ (CH hr)) (@Az _ _ _ _ _ _ _ An (pvL 2 rfl HP Af) AH (fun _ _=>rfl)) Aj (Ap _)) (@Hk _ _ _ _ (@Ah _ _ _ _ _ _ _ _ (@BN _ (CH hr)) (@Kh _ ["_law_one"] 1 [] _ _ _ _ _ _ _ _ _ _ rfl (@II _ ["_law_one"] 1 [] _ ["_law_rows","_law_met","_law_row","_law_holder","_law_chain_here","_law_tiles"] (AR C5) rfl rfl ∅) (@Ed _ _ _ _ (pvL 3 rfl Zb Jj)) (fun cl fp s3 H3=>(@Aw _ _ 0 _ ZV rfl (CS ∅) (Or.inr (CZ ∅)))) (fun cl fp s3 H3=>(@Jr _ _ _ (@Ah _ _ _ _ _ _ _ _ (@Lo _ (VM hr)) (@Az _ _ _ _ _ _ _ An (pv 0 rfl (Bc ∅) BM.1 BM.2) AH (fun _ _=>rfl)) (@FV _ _ _ _ _ _ _ _ _ _ Lj (@O1 _ _ _ _ _ _ _ c21 hr (Jq ∅) KY.1) (@Hm _ _ _ AH) Hn) (by with_unfolding_all rfl)))) (fun cl fp s3 H3=>(pv 0 rfl (Bc ∅) BM.1 BM.2)) ⋯) (@Ee _ _ _ _ AJ) (Ap _))))) (@AO _ _ _ (@Ac _ _ _ _ Aj)) As) (@AL _ _ _ _ _ (@Hl _ _ _ _ (@OD _ _ _ _ _ _ _ _ _ _ _ _ PySem.F.plainAttrs_list PySem.F.slot_list_append PySem.F.type_list_append Er (pvL 1 rfl JH IY) (AB (pvL 2 rfl HP Af) AJ ⋯) ⋯ ⋯ ⋯ ⋯ ⋯) ⋯) (@AL _ _ _ _ _ (@Au _ _ 4 _ _ _ _ nd rfl T5 (AS c95 hr Nt (AB (pvL 1 rfl JH IY) (AB (@Az _ _ _ _ _ _ _ An (pvL 2 rfl HP Af) AH (fun _ _=>rfl)) AJ ⋯) ⋯) Ti.1 ⋯ ⋯) ⋯ ⋯) (@AL _ _ _ _ _ (@BP _ _ _ _ _ _ _ _ (@Ah _ _ _ _ _ _ _ _ OF (Ad BL QB z_len PySem.boot_len (AB (pvL 4 rfl T5 Dc) AJ ⋯) Ba B7.1 ⋯ ⋯) AH (Ap _)) (@AO _ _ _ (@Ac _ _ _ _ Aj)) As) (@AL _ _ _ _ _ (@RH _ ["_law_one"] 1 [] _ _ _ _ _ _ _ _ _ _ 5 _ _ _ nd rfl Zg rfl (@II _ ["_law_one"] 1 [] _ ["_law_rows","_law_met","_law_row","_law_holder","_law_chain_here","_law_tiles"] (AR C5) rfl rfl ∅) (@Ed _ _ _ _ (pvL 1 rfl JH IY)) (fun cl fp s3 H3=>(@Aw _ _ 0 _ ZU rfl (CS ∅) (Or.inr (CZ ∅)))) (fun cl fp s3 H3=>(@Jr _ _ _ (@Ah _ _ _ _ _ _ _ _ (@BN _ (CH hr)) (@Az _ _ _ _ _ _ _ An (pv 0 rfl (Bc ∅) BM.1 BM.2) AH (fun _ _=>rfl)) Aj (Ap _)))) (fun cl fp s3 H3=>(@Az _ _ _ _ _ _ _ An (pv 0 rfl (Bc ∅) BM.1 BM.2) AH (fun _ _=>rfl))) ⋯ ⋯) (@AO _ _ _ (@BP _ _ _ _ _ _ _ _ (PW.pt (@KC _ _ _ _ _ _ _ (@Ah _ _ _ _ _ _ _ _ (@BN _ (CH hr)) (@Az _ _ _ _ _ _ _ An (pvL 2 rfl HP Af) AH (fun _ _=>rfl)) Aj (Ap _)) (@Hk _ _ _ _ (@Ah _ _ _ _ _ _ _ _ (@FR _ (CH hr)) (@Kh _ ["_law_name","_law_chain_here"] 1 [4] _ _ _ _ _ _ _ _ _ _ rfl (@II _ ["_law_name","_law_chain_here"] 1 [4] _ ["_law_rows","_law_met","_law_row","_law_holder","_law_chain_here","_law_tiles"] (AR C5) rfl rfl ∅) (@Ed _ _ _ _ (pvL 5 rfl Za Te)) (fun cl fp s3 H3=>(@Aw _ _ 0 _ ZT rfl (CS ∅) (Or.inr (CZ ∅)))) (fun cl fp s3 H3=>(@Jr _ _ _ (@Ah _ _ _ _ _ _ _ _ (@Lo _ (VM hr)) (pv 0 rfl (Bc ∅) Bz.1 Bz.2) (pv 1 rfl (JO ∅) Dc.1 Dc.2) (by with_unfolding_all rfl)))) (fun cl fp s3 H3=>(pv 0 rfl (Bc ∅) Bz.1 Bz.2)) ⋯) (@Ee _ _ _ _ AJ) (Ap _))))) (@AO _ _ _ (@Ac _ _ _ _ Aj)) As)))))))))) ⋯) (@AL _ _ _ _ _ (@BP _ _ _ _ _ _ _ _ (@Ah _ _ _ _ _ _ _ _ OF (Ad BL QB z_len PySem.boot_len (AB (pvL 0 rfl T6 BF) AJ ⋯) Ba B7.1 ⋯ ⋯) AH (Ap _)) (@AO _ _ _ (@Ac _ _ _ _ Aj)) As) (@AO _ _ _ (@Ac _ _ _ _ Aj))))),BA (N:=["_law_rows","_law_met","_law_row","_law_holder","_law_chain_here","_law_tiles"]) (np:=1) (nl:=5) (Ab Sb (Ab (Lc (EF AF) AX (Ab (CV (Ck (Cs (Aa (AE AF AQ)))) (Ax BS (by decide)) BY) (Ab (CV (YE (i:=1) (Aq (AW Uw (AW A5 AF AM) (MW (EF AF) AX N8 (AW A5 AF AM))))) (Ax BS (by decide)) BY) (Ab (cM (Pu (i:=1) (MW (EF AF) AX (Aq (AW Cu (AW A5 AF AM) (AW A5 AF AM))) AF))) (Ab (CV (NB (Aq (AW Mu (AW A5 AF AM) BS)) (Aq (AW Cu (MW (EF AF) AX (Aq (AW Uw (AW A5 AF AM) (QD (Aa AQ) (Sv AM) NC))) AF) (R9 AQ)))) (Ax BS (by decide)) BY) (Ab (LX (VU (i:=1) Ga (AE AF AQ))) (Ab (BC (Pu (i:=1) (Aa (AE AF (AE (AW A5 AF AM) AQ)))) AX) (Ab (CV (Aq (AW Ux (B0 Cn (AE AF AQ)) AM)) (Ax BS (by decide)) BY) (Ab (cM (Pu (i:=1) (MW (EF AF) AX (Aq (AW Cu (AW A5 AF AM) BS)) (AW A5 AF AM)))) (CV (NB (Aq (AW Cu (AW A5 AF AM) BS)) (Aq (AW Mu (MW (EF AF) AX (Aq (AW Uw AF AF)) AF) (R9 AQ)))) (Ax BS (by decide)) BY)))))))))) (Ab (CV (Aq (AW Ux (B0 Cn (AE AF AQ)) AM)) (Ax BS (by decide)) BY) (Ax BS (by decide))))) rfl h⟩
theorem gB(F:Fun K "law" "law" ER f fd)(c80:Cal P w K mg base 10 "_law_big" ["_law_script","_law_at"] (spD ⟨K,w⟩ Jx false))(c70:Cal P w K mg base 10 "_law_chained" ["_law_big_here"] (spD ⟨K,w⟩ GJ true))(c86:Cal P w K mg base 10 "_law_row_of" ["_law_rows","_law_big_here"] (spD ⟨K,w⟩ HW false))(c96:Cal P w K mg base 10 "_law_other" ["_law_rows","_law_row","_law_big_here"] (spD ⟨K,w⟩ HX false))(d04:Cal P w K mg base 10 "_law_told" ["_law_rows"] (spD ⟨K,w⟩ IE false))(d66:Cal P w K mg base 10 "_law_due" ["_law_rows"] (spD ⟨K,w⟩ Ml false))(z_list:mg "list"=none)(z_range:mg "range"=none)(z_str:mg "str"=none):FnOk P w K mg base CX0 11 f fd ["_law_script"] (spD ⟨K,w⟩ Rc false):=by
 have nd:=sc_law.nd
 refine F.ok sc_law (fun vs H Q E h=>BB Ak h) (fun cdv A outer s H vs Q E hr h=>?_)
 exact⟨_,(@AL _ _ _ _ _ (@Au _ _ 1 _ _ _ _ nd rfl Q2 (AS c80 hr MJ (AB (pvL 0 rfl YZ EN) (AB AH AJ ⋯) ⋯) QH.1 ⋯ ⋯) ⋯ ⋯) (@AL _ _ _ _ _ (@Au _ _ 2 _ _ _ _ nd rfl Ir (@Ee _ _ _ _ AJ) ⋯ ⋯) (@AL _ _ _ _ _ (@BP _ _ _ _ _ _ _ _ (@Ah _ _ _ _ _ _ _ _ (@BN _ (CH hr)) (@Ae _ _ _ _ _ _ _ _ BV (pvL 1 rfl Q2 KZ) AH) AH (Ap _)) (@AO _ _ _ (@Au _ _ 2 _ _ _ _ nd rfl Ir (AS c70 hr Ni (AB (@Ae _ _ _ _ _ _ _ _ A3 (pvL 1 rfl Q2 KZ) AH) AJ ⋯) Qo.1 ⋯ ⋯) ⋯ ⋯)) As) (@AL _ _ _ _ _ (@Au _ _ 3 _ _ _ _ nd rfl Q1 (@JG _ _ _ _ _ _ _ _ _ Ou Rl z_list PySem.Pv.boot_list (AB (pvL 2 rfl Ir BF) AJ ⋯) WI Ys.1 ⋯ ⋯) ⋯ ⋯) (@AL _ _ _ _ _ (@HI _ _ _ _ _ _ _ _ PassesOwn.never rfl (@HJ _ _ _ _ _ _ Wd z_range (AB (@Ae _ _ _ _ _ _ _ _ BV (@Ae _ _ _ _ _ _ _ _ A3 (pvL 1 rfl Q2 KZ) AH) AH) AJ ⋯) ⋯) (@Aw _ _ 4 _ nd rfl U5 ⋯) (@AL _ _ _ _ _ (@Au _ _ 5 _ _ _ _ nd rfl Q0 (AS c80 hr MJ (AB (pvL 0 rfl YZ EN) (AB (@Ae _ _ _ _ _ _ _ _ E7 AH (pvL 4 rfl U5 DQ)) AJ ⋯) ⋯) QH.1 ⋯ ⋯) ⋯ ⋯) (@AL _ _ _ _ _ (@Ec _ _ _ _ _ _ (AS c86 hr OU (AB (pvL 3 rfl Q1 LU) (AB (@Ae _ _ _ _ _ _ _ _ A3 (pvL 5 rfl Q0 AK) AH) AJ ⋯) ⋯) SG.1 ⋯ ⋯) (Ew rfl (BJ (@Aw _ _ 6 _ nd rfl K8 ⋯) (BJ (@Aw _ _ 7 _ nd rfl dD ⋯) Dg ⋯) ⋯) ⋯ ⋯) ⋯ ⋯ ⋯) (@AL _ _ _ _ _ (@BP _ _ _ _ _ _ _ _ (@Ah _ _ _ _ _ _ _ _ (@Lo _ (VM hr)) (@Az _ _ _ _ _ _ _ An (pvL 6 rfl K8 Af) AH (fun _ _=>rfl)) (@Kh _ ["_law_one"] 1 [] _ _ _ _ _ _ _ _ _ _ rfl (@II _ ["_law_one"] 1 [] _ ["_law_script","_law_first","_law_rows","_law_good","_law_k","_law_big_here","_law_row","_law_rest","_law_handed"] (AR ER) rfl rfl ∅) (@Ed _ _ _ _ (pvL 2 rfl Ir BF)) (fun cl fp s3 H3=>(@Aw _ _ 0 _ c0 rfl (CS ∅) (Or.inr (CZ ∅)))) (fun cl fp s3 H3=>Io) (fun cl fp s3 H3=>(@Az _ _ _ _ _ _ _ An (pv 0 rfl (Bc ∅) BM.1 BM.2) AH (fun _ _=>rfl))) ⋯) (by with_unfolding_all rfl)) (@AO _ _ _ (@Au _ _ 6 _ _ _ _ nd rfl K8 (@Ae _ _ _ _ _ _ _ _ K6 (A9 (AB (@Ae _ _ _ _ _ _ _ _ HK Aj (@JG _ _ _ _ _ _ _ _ _ LW Zn z_str PySem.Pv.boot_str (AB (pvL 4 rfl U5 DQ) AJ ⋯) K7 Ny.1 ⋯ ⋯)) AJ ⋯)) (@FV _ _ _ _ _ _ _ _ _ _ Lj (pvL 6 rfl K8 Af) (@Hm _ _ _ AH) Hn)) ⋯ ⋯)) As) (@AL _ _ _ _ _ (@Hl _ _ _ _ (@OD _ _ _ _ _ _ _ _ _ _ _ _ PySem.F.plainAttrs_list PySem.F.slot_list_append PySem.F.type_list_append Er (pvL 2 rfl Ir BF) (AB (AS c96 hr Pc (AB (pvL 2 rfl Ir BF) (AB (pvL 6 rfl K8 Af) (AB (pvL 5 rfl Q0 AK) AJ ⋯) ⋯) ⋯) Th.1 ⋯ ⋯) AJ ⋯) ⋯ ⋯ ⋯ ⋯ ⋯) ⋯) (@AO _ _ _ (@BP _ _ _ _ _ _ _ _ (PW.pt (@KC _ _ _ _ _ _ _ (@Ah _ _ _ _ _ _ _ _ OF (@Ae _ _ _ _ _ _ _ _ BV (pvL 5 rfl Q0 AK) AH) AH (Ap _)) (@Hk _ _ _ _ (@Ah _ _ _ _ _ _ _ _ (@ZN _ (VM hr)) (@Az _ _ _ _ _ _ _ An (pvL 6 rfl K8 Af) AH (fun _ _=>rfl)) (@Kh _ ["_law_one"] 1 [] _ _ _ _ _ _ _ _ _ _ rfl (@II _ ["_law_one"] 1 [] _ ["_law_script","_law_first","_law_rows","_law_good","_law_k","_law_big_here","_law_row","_law_rest","_law_handed"] (AR ER) rfl rfl ∅) (@Ed _ _ _ _ (pvL 3 rfl Q1 LU)) (fun cl fp s3 H3=>(@Aw _ _ 0 _ cz rfl (CS ∅) (Or.inr (CZ ∅)))) (fun cl fp s3 H3=>Io) (fun cl fp s3 H3=>(@Az _ _ _ _ _ _ _ An (pv 0 rfl (Bc ∅) BM.1 BM.2) AH (fun _ _=>rfl))) ⋯) (by with_unfolding_all rfl))))) (@AO _ _ _ (@Hl _ _ _ _ (@OD _ _ _ _ _ _ _ _ _ _ _ _ PySem.F.plainAttrs_list PySem.F.slot_list_append PySem.F.type_list_append Er (pvL 3 rfl Q1 LU) (AB (pvL 6 rfl K8 Af) AJ ⋯) ⋯ ⋯ ⋯ ⋯ ⋯) ⋯)) As)))))) ⋯) (@AL _ _ _ _ _ (@Au _ _ 8 _ _ _ _ nd rfl U4 (@JG _ _ _ _ _ _ _ _ _ Ou Rl z_list PySem.Pv.boot_list (AB (pvL 2 rfl Ir BF) AJ ⋯) WI Ys.1 ⋯ ⋯) ⋯ ⋯) (@AO _ _ _ (@Ac _ _ _ _ (CG (@CL _ _ _ _ _ _ _ _ (@BN _ (CH hr)) (AS d04 hr QX (AB (pvL 8 rfl U4 Mb) AJ ⋯) Vb.1 ⋯ ⋯) (AS d66 hr Rm (AB (pvL 2 rfl Ir BF) AJ ⋯) Wo.1 ⋯ ⋯) (Ap _)) (C1 (@CL _ _ _ _ _ _ _ _ (@BN _ (CH hr)) (pvL 8 rfl U4 Mb) (pvL 2 rfl Ir BF) (Ap _)))))))))))),BA (N:=["_law_script","_law_first","_law_rows","_law_good","_law_k","_law_big_here","_law_row","_law_rest","_law_handed"]) (np:=1) (nl:=8) (Ab (BC (Q7 (i:=0) (AE AM AQ)) AX) (Ab Sb (Ab (CV (Aq (AW Cu (AW B2 AF AM) AM)) (X4 (Aa (AE (AW CB AF AM) AQ))) BY) (Ab (X4 (Pu (i:=2) (B0 cF (AE AF AQ)))) (Ab (Lc (HZ (AE (AW B2 (AW CB AF AM) AM) AQ)) AX (Ab (BC (Q7 (i:=0) (AE (AW IA AM AF) AQ)) AX) (Ab (BC (SA (i:=3) (Aa (AE AF (AE (AW CB AF AM) AQ)))) (Gq (Bb AX (Bb AX Ey)) (BK (BK Dh)))) (Ab (CV (YE (i:=2) (Aq (AW Uw (AW A5 AF AM) (MW (EF AF) AX N8 (AW A5 AF AM))))) (BC (AW NX (Bu (AE (AW O9 BS (B0 X3 (AE AF AQ))) AQ)) (QD AF (Sv AM) NC)) AX) BY) (Ab (LX (VU (i:=2) Ga (AE (SA (i:=2) (Aa (AE AF (AE AF (AE AF AQ))))) AQ))) (CV (YE (i:=3) (NB (Aq (AW Ux (AW B2 AF AM) AM)) (Aq (AW Uw (AW A5 AF AM) (MW (EF AF) AX N8 (AW A5 AF AM)))))) (LX (VU (i:=3) Ga (AE AF AQ))) BY)))))) (Ab (BC (Pu (i:=2) (B0 cF (AE AF AQ))) AX) (Ax (SA (i:=2) (Cw (AW Cu (Aa (AE AF AQ)) (Aa (AE AF AQ))) (AW Cu AF AF))) (by decide)))))))) rfl h⟩
end
theorem C7{i j:Int}(h:0<j):BQ (.int i) (.int j)=some (.int (i % j)):=if_pos h
theorem ED{i j:Int}(h:0<j)(h1:j<10 ^ 70):Bw (.int i) (.int j)=some (.int (i / j)):=if_pos ⟨h,cJ h h1⟩
theorem gE{i j:Int}(h:CMulB i j):R4 (.int i) (.int j)=some (.int (i*j)):=if_pos h
theorem aZ:bW (.int 10) (.int 18)=some (.int 1000000000000000000):=rfl
theorem UX{ns:List Int}{k:Int}(h0:0<=k):∃v:Int,EX [.c (ns.map .int),.d (.int k)]=some (.int v,[.c (ns.map .int),.d (.int k)]):=by
 by_cases h:k<(ns.length:Int)
 ·have hk:k.toNat<ns.length:=by omega
  have e:(ns.map PyData.int)[k.toNat]?=some (.int ns[k.toNat]):=by simp[hk]
  exact⟨ns[k.toNat],by walk_at "b|EX,List.length_map,h0,h,decide_true,e"⟩
 ·exact⟨0,by walk_at "b|EX,List.length_map,h0,h,decide_false"⟩
theorem ff{xs:List Int}{k:Int}(h0:0<=k)(h:k<(xs.length:Int)):∃v:Int,atI (xs.map PyData.int) k=some (.int v)/\v∈xs:=by
 have hk:k.toNat<xs.length:=by omega
 refine⟨xs[k.toNat],?_,List.getElem_mem hk⟩
 unfold atI ixN
 rw[List.length_map,if_pos h0,if_pos h]
 simp[hk]
def by8:PyData:=.tuple ([48271,69621,16807,39373,21401,60493,87721,31337].map .int)
def pr8:PyData:=.tuple ([99991,99989,99971,99961,99929,99923,99907,99901].map .int)
theorem fP{ns:List Int}{k:Int}(h0:0<=k):∃(v:Int) (ls:List L),Jx [.c (ns.map .int),.d (.int k)]=some (.int v,ls):=by
 obtain⟨cell,hc⟩:=UX (ns:=ns) h0
 by_cases hb:(1000000000000000000:Int)<=cell
 ·exact⟨cell,_,by walk_at "b|Jx,hc,aZ,hb,decide_true";rfl⟩
 ·have lp:∃τ',Df (dN 6) (AY (Am (dOp CK (dOp CK (dOp BQ (Bj 0 EX (AA (dOp CK (AD 1) (dOp BQ (AD 6) (dC (.int 9)))) AI)) (dOp bW (dC (.int 10)) (dC (.int 18)))) (dC (.int 1))) (dOp R4 (AD 6) (AD 6))) (dN 7)) (Am (dOp CK (dOp R4 (AD 5) (dC (.int 7919))) (dOp BQ (dOp BQ (dOp R4 (AD 7) (dOp Ai (AD 2) (dOp BQ (AD 6) (dC (.int 8))))) (dOp Ai (AD 3) (dOp BQ (AD 6) (dC (.int 8))))) (dC (.int 7919)))) (dN 5)))
    ((rng 0 60).map PyData.int) [some (.c (ns.map .int)),some (.d (.int k)),some (.d by8),some (.d pr8),some (.d (.int cell)),some (.d (.int 0)),none,none]=some (.nx τ') /\
    ∃(b:Int) (o1 o2:Option L),nM o1/\nM o2/\τ'=[some (.c (ns.map .int)),some (.d (.int k)),some (.d by8),some (.d pr8),some (.d (.int cell)),some (.d (.int b)),o1,o2]:=by
   refine UC (enc:=PyData.int) (pre:=[]) (fun _ τ=>∃(b:Int) (o1 o2:Option L),nM o1/\nM o2/\τ=[some (.c (ns.map .int)),some (.d (.int k)),some (.d by8),some (.d pr8),some (.d (.int cell)),some (.d (.int b)),o1,o2]) ⟨0,none,none,CM,CM,rfl⟩ ?_
   rintro j _ τ hj ⟨b,o1,o2,n1,n2,rfl⟩
   have hj':=(dG (n:=60)).mp hj
   have h9:0<=j % 9:=Int.emod_nonneg _ (by decide)
   obtain⟨c,hc⟩:=UX (ns:=ns) (k:=k+j % 9) (by omega)
   obtain⟨u1,hu1,m1⟩:=ff (xs:=[48271,69621,16807,39373,21401,60493,87721,31337]) (k:=j % 8) (Int.emod_nonneg _ (by decide)) (Int.emod_lt_of_pos _ (by decide))
   obtain⟨u2,hu2,m2⟩:=ff (xs:=[99991,99989,99971,99961,99929,99923,99907,99901]) (k:=j % 8) (Int.emod_nonneg _ (by decide)) (Int.emod_lt_of_pos _ (by decide))
   have hu1':Ai by8 (.int (j % 8))=some (.int u1):=hu1
   have hu2':Ai pr8 (.int (j % 8))=some (.int u2):=hu2
   have m1':-(2 ^ 64)<u1/\u1<2 ^ 64:=by
    simp only[List.mem_cons,List.not_mem_nil,or_false]at m1
    omega
   have m2':0<u2:=by
    simp only[List.mem_cons,List.not_mem_nil,or_false]at m2
    omega
   have x1:R4 (.int j) (.int j)=some (.int (j*j)):=gE (.inl (.inl ⟨by omega,by omega⟩))
   have x2:R4 (.int b) (.int 7919)=some (.int (b*7919)):=gE (.inl (.inr ⟨by decide,by decide⟩))
   have x3:∀z:Int,R4 (.int z) (.int u1)=some (.int (z*u1)):=fun z=>gE (.inl (.inr m1'))
   have x4:∀z:Int,BQ (.int z) (.int u2)=some (.int (z % u2)):=fun z=>C7 m2'
   have x5:∀z:Int,BQ (.int z) (.int 7919)=some (.int (z % 7919)):=fun z=>C7 (by decide)
   have x6:∀z:Int,BQ (.int z) (.int 9)=some (.int (z % 9)):=fun z=>C7 (by decide)
   have x7:∀z:Int,BQ (.int z) (.int 8)=some (.int (z % 8)):=fun z=>C7 (by decide)
   have x8:∀z:Int,BQ (.int z) (.int 1000000000000000000)=some (.int (z % 1000000000000000000)):=fun z=>C7 (by decide)
   refine⟨_,[some (.c (ns.map .int)),some (.d (.int k)),some (.d by8),some (.d pr8),some (.d (.int cell)),some (.d (.int (b*7919+(c % 1000000000000000000+1+j*j)*u1 % u2 % 7919))),some (.d (.int j)),some (.d (.int (c % 1000000000000000000+1+j*j)))],Em rfl n1,?_,_,_,_,C6,C6,rfl⟩
   refine(AV (τ1:=[some (.c (ns.map .int)),some (.d (.int k)),some (.d by8),some (.d pr8),some (.d (.int cell)),some (.d (.int b)),some (.d (.int j)),some (.d (.int (c % 1000000000000000000+1+j*j)))]) (BI (d:=.int (c % 1000000000000000000+1+j*j)) (τ1:=[some (.c (ns.map .int)),some (.d (.int k)),some (.d by8),some (.d pr8),some (.d (.int cell)),some (.d (.int b)),some (.d (.int j)),o2]) ?_ (Em rfl n2))).trans ?_
   ·simp only[dOp,AD,dC,Bj,AA,AI,Cv,CK,fI,aZ,hc,x1,x6,x8,List.getElem?_cons_zero,List.getElem?_cons_succ,List.set_cons_zero,List.set_cons_succ,Option.bind_some,Option.map_some,List.map_cons,List.map_nil]
   ·simp only[Am,dN,dOp,AD,dC,CK,fI,hu1',hu2',x2,x3,x4,x5,x7,List.getElem?_cons_zero,List.getElem?_cons_succ,List.set_cons_zero,List.set_cons_succ,Option.bind_some,Option.map_some]
  obtain⟨τ',e,b,o1,o2,n1,n2,rfl⟩:=lp
  refine⟨b,[.c (ns.map .int),.d (.int k)],?_⟩
  have hr:dR1 (AA (dC (.int 60)) AI) [some (.c (ns.map .int)),some (.d (.int k)),some (.d by8),some (.d pr8),some (.d (.int cell)),some (.d (.int 0)),none,none]=some ((rng 0 60).map PyData.int,[some (.c (ns.map .int)),some (.d (.int k)),some (.d by8),some (.d pr8),some (.d (.int cell)),some (.d (.int 0)),none,none]):=by
   rw[<- Tw];rfl
  refine A6 (τ:=[some (.c (ns.map .int)),some (.d (.int k)),some (.d by8),some (.d pr8),some (.d (.int cell)),some (.d (.int b)),o1,o2]) ?_ rfl rfl
  refine(AV rfl).trans ((AV rfl).trans ((AV (τ1:=[some (.c (ns.map .int)),some (.d (.int k)),some (.d by8),some (.d pr8),some (.d (.int cell)),none,none,none]) (BI (SX (xs:=ns.map .int) rfl rfl rfl hc) rfl)).trans ?_))
  refine(AV (τ1:=[some (.c (ns.map .int)),some (.d (.int k)),some (.d by8),some (.d pr8),some (.d (.int cell)),none,none,none]) ?_).trans ((AV (τ1:=[some (.c (ns.map .int)),some (.d (.int k)),some (.d by8),some (.d pr8),some (.d (.int cell)),some (.d (.int 0)),none,none]) rfl).trans ((AV ((Hd hr).trans e)).trans rfl))
  walk_at "b|aZ,hb,decide_false"
def gI(a b:Int):Int:=(Int.gcd a b:Nat)
theorem bS{a b:Int}(ha:0<=a)(hb:0<b):gI b (a % b)=gI a b:=by
 unfold gI
 rw[Int.gcd_eq_natAbs_gcd_natAbs,Int.gcd_eq_natAbs_gcd_natAbs]
 have e:(a % b).natAbs=a.natAbs % b.natAbs:=by
  rw[Int.natAbs_emod_of_nonneg ha]
 rw[e,Nat.gcd_comm,<- Nat.gcd_rec,Nat.gcd_comm]
theorem Yn{a:Int}(ha:0<=a):gI a 0=a:=by
 unfold gI
 rw[Int.gcd_zero_right]
 omega
theorem bQ{a b:Int}(hb:0<b):0<gI a b:=by
 unfold gI
 have:0<Int.gcd a b:=Int.gcd_pos_of_ne_zero_right _ (by omega)
 omega
theorem ij{a b:Int}(hb:0<b):gI a b<=b:=by
 exact Int.gcd_le_right a hb
def frm(t b:Int):Cl:=(t / gI t b,b / gI t b)
def Pz(i:Int):Int:=if i<0 then -i else i
theorem cO{i:Int}(h:0<=i):Pz i=i:=by unfold Pz;rw[if_neg (by omega)]
theorem Y2(i:Int):0<=Pz i:=by unfold Pz;split<;>omega
theorem bT(a b:Int):gI (Pz a) b=gI a b:=by
 unfold gI Pz
 split
 ·rw[Int.neg_gcd]
 ·rfl
structure OkF(s:Cl):Prop where
 lo:0<=s.1
 hi:s.1<=s.2
 b1:1<=s.2
 b2:s.2<=1000
 zero:s.1=0->s=(0,1)
 red:∃t b:Int,0<b/\s=frm t b
theorem WS{d1 d2:PyData}:∀(n:Nat) (a b:Int),0<=a->0<=b->b.toNat<n ->
  dWh (AN (dOp fGt (AD 3) (dC (.int 0)))) (EO 2 3 (AA (AD 3) (AA (dOp BQ (AD 2) (AD 3)) AI))) n [some (.d d1),some (.d d2),some (.d (.int a)),some (.d (.int b))]=some (.nx [some (.d d1),some (.d d2),some (.d (.int (gI a b))),some (.d (.int 0))])
 |0,a,b,_,_,h=>absurd h (Nat.not_lt_zero _)
 |n+1,a,b,ha,hb,h=>by
  let st:Int->Int->DS:=fun x y=>[some (.d d1),some (.d d2),some (.d (.int x)),some (.d (.int y))]
  have t:AN (dOp fGt (AD 3) (dC (.int 0))) (st a b)=some (decide (0<b),st a b):=rfl
  unfold dWh
  rw[show AN (dOp fGt (AD 3) (dC (.int 0))) [some (.d d1),some (.d d2),some (.d (.int a)),some (.d (.int b))]=some (decide (0<b),st a b) from t]
  by_cases hz:b=0
  ·subst hz
   rw[Yn ha];rfl
  ·have hp:0<b:=by omega
   have md:=Int.emod_lt_of_pos a hp
   have mn:=Int.emod_nonneg a (show b≠0 by omega)
   have e:=WS (d1:=d1) (d2:=d2) n b (a % b) hb mn (by omega)
   rw[decide_eq_true hp]
   have bd:EO 2 3 (AA (AD 3) (AA (dOp BQ (AD 2) (AD 3)) AI)) (st a b)=some (.nx (st b (a % b))):=by
    have:AA (AD 3) (AA (dOp BQ (AD 2) (AD 3)) AI) (st a b)=some ([.d (.int b),.d (.int (a % b))],st a b):=by
     show(((((BQ (.int a) (.int b)).map fun d=>(d,st a b)).bind fun p=>_).map _))=_
     rw[C7 hp];rfl
    unfold EO
    rw[this];rfl
   show((EO _ _ _ (st a b)).bind _)=_
   rw[bd]
   show dWh _ _ n (st b (a % b))=_
   rw[<- bS ha hp]
   exact e
theorem bF{t b:Int}(hb:0<b)(hb2:b<10 ^ 70):Jw [.d (.int t),.d (.int b)]=some (ec (frm t b),[.d (.int t),.d (.int b)]):=by
 have gp:=bQ (a:=t) hb
 have gl:=ij (a:=t) hb
 have e:=WS (d1:=.int t) (d2:=.int b) (b.toNat+1) (Pz t) b (Y2 t) (by omega) (Nat.lt_succ_self _)
 rw[bT]at e
 let st:Option L->Option L->DS:=fun o p=>[some (.d (.int t)),some (.d (.int b)),o,p]
 unfold Jw
 refine A6 (τ:=st (some (.d (.int (gI t b)))) (some (.d (.int 0)))) ?_ rfl rfl
 refine(AV (τ1:=st (some (.d (.int (Pz t)))) (some (.d (.int b)))) rfl).trans ?_
 refine(AV e).trans ?_
 refine Bp (τ1:=st (some (.d (.int (gI t b)))) (some (.d (.int 0)))) ?_
 have d1:=ED (i:=t) gp (by omega)
 have d2:=ED (i:=b) gp (by omega)
 walk_at "b|st,d1,d2,ec,frm"
theorem bV{t b:Int}(h0:0<=t)(h1:t<=b)(h2:1<=b)(h3:b<=1000):OkF (frm t b):=by
 have gp:=bQ (a:=t) (show 0<b by omega)
 have db:gI t b ∣ b:=by unfold gI;exact Int.gcd_dvd_right ..
 obtain⟨q,hq⟩:=db
 have eb:b / gI t b=q:=Int.ediv_eq_of_eq_mul_right (by omega) hq
 have q1:1<=q:=by
  rcases Int.lt_or_le q 1 with z|z
  ·have:gI t b*q<=0:=Int.mul_nonpos_of_nonneg_of_nonpos (by omega) (by omega)
   omega
  ·exact z
 have tl:t / gI t b<=b / gI t b:=Int.ediv_le_ediv gp h1
 have bl:b / gI t b<=b:=Int.ediv_le_self _ (by omega)
 refine⟨Int.ediv_nonneg h0 (by omega),tl,by show 1<=b / gI t b;omega,by show b / gI t b<=1000;omega,fun z=>?_,t,b,by omega,rfl⟩
 have z:t / gI t b=0:=z
 have dt:gI t b ∣ t:=by unfold gI;exact Int.gcd_dvd_left ..
 obtain⟨r,hr⟩:=dt
 have er:t / gI t b=r:=Int.ediv_eq_of_eq_mul_right (by omega) hr
 have r0:r=0:=by omega
 have t0:t=0:=by rw[hr,r0,Int.mul_zero]
 have g0:gI t b=b:=by
  rw[t0];unfold gI
  rw[Int.gcd_zero_left];omega
 unfold frm
 rw[g0,t0,Int.zero_ediv,Int.ediv_self (by omega)]
theorem P4(v:Int):∃(s:Cl) (w:Int) (ls:List L),FL [.d (.int v)]=some (.tuple [ec s,.int w],ls)/\OkF s:=by
 obtain⟨b0,e0,hb0⟩:=ff (xs:=[1,1,2,3]) (k:=v % 4) (by omega) (by show v % 4<4;omega)
 have hb0:1<=b0/\b0<=1000:=by
  rcases List.mem_cons.mp hb0 with rfl|hb0
  ·decide
  ·rcases List.mem_cons.mp hb0 with rfl|hb0
   ·decide
   ·rcases List.mem_cons.mp hb0 with rfl|hb0
    ·decide
    ·rw[List.mem_singleton.mp hb0];decide
 let st:Int->Option L->DS:=fun x o=>[some (.d (.int x)),o]
 have fin:∀b:Int,1<=b->b<=1000->∃(s:Cl) (w:Int),AY (Am (dOp Bw (AD 0) (dC (.int 16000))) (dN 0)) (A0 (Be (AA (AU Jw (AA (dOp BQ (AD 0) (dOp CK (AD 1) (dC (.int 1)))) (AA (AD 1) AI))) (AA (dOp Bw (AD 0) (dOp CK (AD 1) (dC (.int 1)))) AI)))) (st v (some (.d (.int b))))=some (.rt (.tuple [ec s,.int w]) (st (v / 16000) (some (.d (.int b)))))/\OkF s:=fun b h1 h2=>by
  have m0:=Int.emod_nonneg (v / 16000) (show b+1≠0 by omega)
  have m1:=Int.emod_lt_of_pos (v / 16000) (show 0<b+1 by omega)
  refine⟨frm (v / 16000 % (b+1)) b,v / 16000 / (b+1),?_,bV m0 (by omega) h1 h2⟩
  have l:=bF (t:=v / 16000 % (b+1)) (b:=b) (by omega) (by omega)
  have d1:=ED (i:=v) (j:=16000) (by decide) (by decide)
  have d2:=C7 (i:=v / 16000) (j:=b+1) (by omega)
  have d3:=ED (i:=v / 16000) (j:=b+1) (by omega) (by omega)
  walk_at "b|st,l,d1,d2,d3"
 have c2:∀b:Int,1<=b->b<=1000->∃b',1<=b'/\b'<=1000/\A4 (AN (dOp fEq (dOp BQ (dOp Bw (AD 0) (dC (.int 4))) (dC (.int 16))) (dC (.int 1)))) (Am (dOp CK (dC (.int 1)) (dOp BQ (dOp Bw (AD 0) (dC (.int 16))) (dC (.int 1000)))) (dN 1)) A2 (st v (some (.d (.int b))))=some (.nx (st v (some (.d (.int b'))))):=fun b h1 h2=>by
  have d1:=ED (i:=v) (j:=4) (by decide) (by decide)
  have d2:=C7 (i:=v / 4) (j:=16) (by decide)
  have d3:=ED (i:=v) (j:=16) (by decide) (by decide)
  have d4:=C7 (i:=v / 16) (j:=1000) (by decide)
  by_cases h:v / 4 % 16=1
  ·refine⟨1+v / 16 % 1000,by omega,by omega,?_⟩
   have q:fEq (.int (v / 4 % 16)) (.int 1)=some (.bool true):=by rw[encI.fEq,decide_eq_true h]
   walk_at "b|st,d1,d2,q,d3,d4"
  ·refine⟨b,h1,h2,?_⟩
   have q:fEq (.int (v / 4 % 16)) (.int 1)=some (.bool false):=by rw[encI.fEq,decide_eq_false h]
   walk_at "b|st,d1,d2,q"
 have c1:∀b:Int,1<=b->b<=1000->∃b',1<=b'/\b'<=1000/\A4 (AN (dOp fEq (dOp BQ (dOp Bw (AD 0) (dC (.int 4))) (dC (.int 4))) (dC (.int 0)))) (Am (dOp CK (dC (.int 1)) (dOp BQ (dOp Bw (AD 0) (dC (.int 16))) (dC (.int 12)))) (dN 1)) A2 (st v (some (.d (.int b))))=some (.nx (st v (some (.d (.int b'))))):=fun b h1 h2=>by
  have d1:=ED (i:=v) (j:=4) (by decide) (by decide)
  have d2:=C7 (i:=v / 4) (j:=4) (by decide)
  have d3:=ED (i:=v) (j:=16) (by decide) (by decide)
  have d4:=C7 (i:=v / 16) (j:=12) (by decide)
  by_cases h:v / 4 % 4=0
  ·refine⟨1+v / 16 % 12,by omega,by omega,?_⟩
   have q:fEq (.int (v / 4 % 4)) (.int 0)=some (.bool true):=by rw[encI.fEq,decide_eq_true h]
   walk_at "b|st,d1,d2,q,d3,d4"
  ·refine⟨b,h1,h2,?_⟩
   have q:fEq (.int (v / 4 % 4)) (.int 0)=some (.bool false):=by rw[encI.fEq,decide_eq_false h]
   walk_at "b|st,d1,d2,q"
 obtain⟨b1,g1,g2,e1⟩:=c1 b0 hb0.1 hb0.2
 obtain⟨b2,g3,g4,e2⟩:=c2 b1 g1 g2
 obtain⟨s,w,e3,hs⟩:=fin b2 g3 g4
 refine⟨s,w,[.d (.int v)],?_,hs⟩
 unfold FL
 refine A6 (τ:=st (v / 16000) (some (.d (.int b2)))) ?_ rfl rfl
 refine(AV (τ1:=st v (some (.d (.int b0)))) (BI (d:=.int b0) (τ1:=st v none) ?_ rfl)).trans ((AV e1).trans ((AV e2).trans e3))
 have m:=C7 (i:=v) (j:=4) (by decide)
 show(((BQ (.int v) (.int 4)).map fun d=>(d,st v none)).bind fun q=>(Ai (.tuple ([1,1,2,3].map PyData.int)) q.1).map fun d=>(d,q.2))=_
 rw[m]
 show((atI ([1,1,2,3].map PyData.int) (v % 4)).map fun d=>(d,st v none))=_
 rw[e0];rfl
theorem acc{f:DX}{a:DA}{τ τ1 τ2:DS}{d:PyData}{rs:List Ar}(h:f τ=some (d,τ1))(k:a τ1=some (rs,τ2)):AA f a τ=some (.d d::rs,τ2):=by
 unfold AA
 rw[h]
 show((a τ1).map _)=_
 rw[k];rfl
theorem tst{f:DX}{τ τ1:DS}{b:Bool}(h:f τ=some (.bool b,τ1)):AN f τ=some (b,τ1):=by
 unfold AN
 rw[h];rfl
theorem Gy{t:DT}{τ τ1:DS}{b:Bool}(h:t τ=some (b,τ1)):Bm t τ=some (!b,τ1):=by
 unfold Bm
 rw[h];rfl
theorem op2{F:PyData->PyData->Option PyData}{f g:DX}{τ τ1 τ2:DS}{x y r:PyData}(h:f τ=some (x,τ1))(k:g τ1=some (y,τ2))(e:F x y=some r):dOp F f g τ=some (r,τ2):=by
 unfold dOp
 rw[h]
 show((g τ1).bind _)=_
 rw[k]
 show((F x y).map _)=_
 rw[e];rfl
theorem Qu{i:Nat}{f:DT}{τ τ1:DS}{b:Bool}{xs:List PyData}(hi:τ[i]?=some (some (.m xs)))(hf:f (τ.set i (some (.d (.list xs))))=some (b,τ1))(hx:τ1.all okM=true):Fh i f τ=some (b,τ1.set i (some (.m xs))):=by
 unfold Fh
 rw[hi]
 dsimp only
 rw[hf]
 dsimp only[Option.bind]
 rw[if_pos hx]
theorem K5{x y:DT}{τ τ1 τ2:DS}(h1:x τ=some (false,τ1))(h2:y τ1=some (false,τ2)):De x y τ=some (false,τ2):=by
 unfold De
 rw[h1];exact h2
theorem YL{np i:Nat}{e:DX}{τ τ1:DS}{xs:List PyData}(h:e τ=some (.list xs,τ1))(h1:np<=i)(h2:i<τ1.length)(h3:τ1.all okM=true):Il np i e τ=some (.nx (τ1.set i (some (.m xs)))):=by
 unfold Il
 rw[h]
 dsimp only[Option.bind]
 rw[if_pos ⟨h1,h2,h3⟩]
theorem ZA{a b:DT}{τ:DS}{p q:Bool}(h1:a τ=some (p,τ))(h2:b τ=some (q,τ)):Ci a b τ=some (p&&q,τ):=by
 unfold Ci
 rw[h1]
 cases p with
 |true=>exact h2
 |false=>rfl
theorem FU{a b:DX}{τ τ1:DS}(h:a τ=some (.bool true,τ1)):C9 a b τ=b τ1:=by
 unfold C9
 rw[tst h];rfl
abbrev Tx:={ s:Str // PyData.strOk s=true }
def eT(t:Tx):PyData:=.str t.1
theorem encT:Enc eT:=by
 refine⟨fun a b=>?_,fun a=>?_,fun a=>?_,fun _=>rfl⟩
 ·unfold eT
  rw[PyData.eqv]
  by_cases h:a=b
  ·subst h;simp
  ·rw[decide_eq_false h]
   exact beq_eq_false_iff_ne.mpr fun z=>h (Subtype.ext z)
 ·show PyData.canLay0 (.str a.1)=true
  rw[PyData.canLay0];exact a.2
 ·show PyData.depth (.str a.1)<=20
  rw[PyData.depth];decide
def t0:Tx:=⟨"",∅⟩
inductive Dz where
 |plate (w h:Int) (a b:Cl)
 |band (w h:Int) (a b:Cl)
 |word (t:Tx) (a b:Cl)
 |stencil (rs:List Tx) (a b:Cl)
 |group
 |glass (a:Cl)
 |window (w h x y:Int)
 |turn (q:Int) (f:Bool)
 |tiles (a b x y:Int)
 |mask
 deriving DecidableEq
def kz:Dz->Nat
 |.plate ..=>0
 |.band ..=>1
 |.word ..=>2
 |.stencil ..=>3
 |.group=>4
 |.glass _=>5
 |.window ..=>6
 |.turn ..=>7
 |.tiles ..=>8
 |.mask=>9
def kS:Nat->Tx
 |0=>⟨"plate",∅⟩
 |1=>⟨"band",∅⟩
 |2=>⟨"word",∅⟩
 |3=>⟨"stencil",∅⟩
 |4=>⟨"group",∅⟩
 |5=>⟨"glass",∅⟩
 |6=>⟨"window",∅⟩
 |7=>⟨"turn",∅⟩
 |8=>⟨"tiles",∅⟩
 |_=>⟨"mask",∅⟩
theorem gL:∀i j:Fin 10,kS i=kS j->i=j:=∅
theorem NS(d:Dz):kz d<10:=by cases d<;>simp[kz]
theorem LH{i j:Nat}(hi:i<10)(hj:j<10)(h:kS i=kS j):i=j:=Fin.mk.inj (gL ⟨i,hi⟩ ⟨j,hj⟩ h)
def eD:Dz->PyData
 |.plate w h a b=>.tuple [.int w,.int h,ec a,ec b]
 |.band w h a b=>.tuple [.int w,.int h,ec a,ec b]
 |.word t a b=>.tuple [eT t,ec a,ec b]
 |.stencil rs a b=>.tuple [.tuple (rs.map eT),ec a,ec b]
 |.group=>.tuple []
 |.glass a=>.tuple [ec a]
 |.window w h x y=>.tuple [.int w,.int h,.int x,.int y]
 |.turn q f=>.tuple [.int q,.bool f]
 |.tiles a b x y=>.tuple [.int a,.int b,.int x,.int y]
 |.mask=>.tuple []
structure Rz where
 n:Tx
 h:Tx
 x:Int
 y:Int
 s:Bool
 d:Dz
 deriving DecidableEq
def eZ(r:Rz):PyData:=.tuple [eT r.n,eT r.h,.int r.x,.int r.y,.bool r.s,eT (kS (kz r.d)),eD r.d]
theorem ecq(a b:Cl):PyData.eqv (ec a) (ec b)=decide (a=b):=encC.eqv a b
theorem iW(a b:Int):PyData.eqv (.int a) (.int b)=decide (a=b):=encI.eqv a b
theorem fM(a b:Bool):PyData.eqv (.bool a) (.bool b)=decide (a=b):=by rw[PyData.eqv];cases a<;>cases b<;>rfl
theorem jd(a b:Int):(a==b)=decide (a=b):=rfl
theorem je(a b:Bool):(a==b)=decide (a=b):=by cases a<;>cases b<;>rfl
theorem eDq:∀a b:Dz,kz a=kz b->PyData.eqv (eD a) (eD b)=decide (a=b):=by
 intro a b h
 cases a<;>cases b<;>first
  |(exfalso;simp[kz]at h;done)
  |(simp only[eD,PyData.eqv,PyData.eqvAll,ecq,iW,fM,jd,je,encT.eqv,encT.eqvL,Bool.and_true,Dz.plate.injEq,Dz.band.injEq,Dz.word.injEq,Dz.stencil.injEq,Dz.glass.injEq,Dz.window.injEq,Dz.turn.injEq,Dz.tiles.injEq,Bool.decide_and,decide_true])
theorem fK:∀rs:List Tx,PyData.depthAll (rs.map eT)<=1
 |[]=>by rw[List.map_nil,PyData.depthAll];decide
 |r::rs=>by
  have:=fK rs
  rw[List.map_cons,PyData.depthAll]
  unfold eT at *
  simp only[PyData.depth]
  omega
theorem encZ:Enc eZ:=by
 refine⟨fun a b=>?_,fun a=>?_,fun a=>?_,fun a=>?_⟩
 ·unfold eZ
  simp only[PyData.eqv,PyData.eqvAll,iW,fM,encT.eqv,Bool.and_true]
  obtain⟨a1,a2,a3,a4,a5,a6⟩:=a
  obtain⟨b1,b2,b3,b4,b5,b6⟩:=b
  simp only[Rz.mk.injEq,Bool.decide_and]
  by_cases h:kz a6=kz b6
  ·rw[eDq a6 b6 h,h,decide_eq_true rfl,Bool.true_and]
   simp[Bool.beq_eq_decide_eq]
  ·have h1:kS (kz a6)≠kS (kz b6):=fun z=>h (LH (NS _) (NS _) z)
   have h2:a6≠b6:=fun z=>h (by rw[z])
   rw[decide_eq_false h1,decide_eq_false h2]
   simp
 ·show PyData.canLay0 (.tuple _)=true
  simp only[PyData.canLay0,PyData.canLayAll0,encT.can,Bool.true_and,Bool.and_true]
  cases a.d<;>simp only[eD,PyData.canLay0,PyData.canLayAll0,encT.can,encC.can,encT.canL,Bool.true_and,Bool.and_true]
 ·have hc:=encC.dep
  have key:PyData.depth (eD a.d)<=10:=by
   cases a.d with
   |stencil rs x y =>
    have:=fK rs
    simp only[eD,ec,PyData.depth,PyData.depthAll]
    omega
   |word t x y=>simp[eD,eT,ec,PyData.depth,PyData.depthAll]
   |_=>simp[eD,ec,PyData.depth,PyData.depthAll]
  show PyData.depth (.tuple _)<=20
  simp only[PyData.depth,PyData.depthAll,eT]
  omega
 ·show GN (.tuple _)=true
  simp only[GN,fixDs,encT.fix,Bool.true_and,Bool.and_true]
  cases a.d<;>simp only[eD,GN,fixDs,encT.fix,encC.fix,encT.fixL,Bool.true_and,Bool.and_true]
theorem N9(n:Nat):(rng 0 n).map PyData.int=(List.range n).map fun(k:Nat)=>PyData.int (k:Int):=by
 unfold rng
 rw[List.map_map]
 refine List.map_congr_left fun k _=>?_
 show PyData.int (0+(k:Int))=_
 rw[Int.zero_add]
theorem gc{i:Nat}{f:DX}{τ τ1:DS}{d:PyData}{xs:List PyData}(hi:τ[i]?=some (some (.m xs)))(hf:f (τ.set i (some (.d (.list xs))))=some (d,τ1))(hx:(GN d&&τ1.all okM)=true):Gm i f τ=some (d,τ1.set i (some (.m xs))):=by
 unfold Gm
 rw[hi]
 show(f _).bind _=_
 rw[hf]
 show(if _ then _ else _)=_
 rw[if_pos hx]
theorem Gj{F:List PyData->Option PyData}{f:DX}{τ τ1:DS}{d r:PyData}(h:f τ=some (d,τ1))(e:F [d]=some r):BD F (AA f AI) τ=some (r,τ1):=by
 unfold BD
 rw[acc h rfl]
 show((F [d]).map _)=_
 rw[e];rfl
theorem Vk{i:Nat}{a:DA}{τ τ1:DS}{d:PyData}{xs:List PyData}(h:a τ=some ([.d d],τ1))(m:τ1[i]?=some (some (.m xs)))(hz:xs.length<900):C3 (dMt i Bs a) τ=some (.nx (τ1.set i (some (.m (xs++[d]))))):=by
 have hs:xs.length<sizeLine:=Nat.lt_of_lt_of_le hz (by decide)
 unfold C3 dMt
 rw[h]
 show((match τ1[i]? with|some (some (.m xs))=>_|_=>_):Option (PyData×DS)).map _=_
 rw[m]
 show((if xs.length<sizeLine then some (PyData.none,xs++[d]) else none).map _).map _=_
 rw[if_pos hs]
 rfl
theorem W8{a:DA}{τ τ1:DS}{rs:List Ar}{ds:List PyData}(h:a τ=some (rs,τ1))(k:Cv rs=some ds)(hz:ds.length<=1000):Be a τ=some (.tuple ds,τ1):=by
 unfold Be
 rw[h]
 show(Cv rs).bind _=_
 rw[k]
 show(if ds.length<=sizeLine then _ else _)=_
 rw[if_pos (sz hz)]
theorem fU{c:DT}{b:DB}{n:Nat}{τ τ1:DS}(h:c τ=some (false,τ1)):dWh c b (n+1) τ=some (.nx τ1):=by
 rw[dWh,h];rfl
theorem fT{c:DT}{b:DB}{n:Nat}{τ τ1 τ2:DS}(h:c τ=some (true,τ1))(k:b τ1=some (.nx τ2)):dWh c b (n+1) τ=dWh c b n τ2:=by
 rw[dWh,h]
 show(b τ1).bind _=_
 rw[k];rfl
theorem Z0{i:Nat}{f:DX}{τ:DS}{xs:List PyData}{d:PyData}(hi:τ[i]?=some (some (.m xs)))(hf:f (τ.set i (some (.d (.list xs))))=some (d,τ.set i (some (.d (.list xs)))))(hd:GN d=true)(hok:(τ.set i (some (.d (.list xs)))).all okM=true):Gm i f τ=some (d,τ):=by
 unfold Gm
 rw[hi]
 dsimp only
 rw[hf]
 dsimp only[Option.bind]
 rw[hd,hok,Bool.and_self,if_pos rfl,List.set_set]
 congr 2
 obtain⟨hlt,he⟩:=List.getElem?_eq_some_iff.mp hi
 rw[<- he,List.set_getElem_self]
theorem Z1{i:Nat}{f:DX}{τ:DS}{xs ys:List PyData}(hi:τ[i]?=some (some (.m xs)))(hf:f (τ.set i (some (.d (.list xs))))=some (.list ys,τ.set i (some (.d (.list xs)))))(hd:fixDs ys=true)(hok:(τ.set i (some (.d (.list xs)))).all okM=true):FF i f τ=some (.list ys,τ):=by
 unfold FF
 rw[hi]
 dsimp only
 rw[hf]
 dsimp only[Option.bind]
 rw[hd,hok,Bool.and_self,if_pos rfl,List.set_set]
 congr 2
 obtain⟨hlt,he⟩:=List.getElem?_eq_some_iff.mp hi
 rw[<- he,List.set_getElem_self]
def IJ(al s:Str):Prop:=∀c∈s.cps.toList,c∈al.cps.toList
def alN:Str:="abcdefghijklmnopqrstuvwxyz0123456789"
def alW:Str:="0123456789abcdef-_"
def alS:Str:="#."
theorem VL{al s:Str}(ha:PyData.strOk al=true)(h:IJ al s):PyData.strOk s=true:=by
 unfold PyData.strOk at *
 rw[Array.all_eq_true_iff_forall_mem]at *
 exact fun c hc=>ha c (Array.mem_toList_iff.mp (h c (Array.mem_toList_iff.mpr hc)))
theorem ixA{al:Str}{m:Int}(h0:0<m)(hl:(al.length:Int)=m)(hz:m<=100)(v:Int):∃c,c∈al.cps.toList/\TZ (.str al) (.int (v % m))=some (.str ⟨#[c]⟩):=by
 have hk0:=Int.emod_nonneg v (show m≠0 by omega)
 have hk1:=Int.emod_lt_of_pos v h0
 have e:al.cps.toList.length=al.length:=rfl
 have hk:(v % m).toNat<al.cps.toList.length:=by omega
 refine⟨al.cps.toList[(v % m).toNat],List.getElem_mem hk,?_⟩
 show(if al.length<=sizeLine then _ else _)=_
 rw[if_pos (sz (by omega))]
 unfold atI ixN
 rw[if_pos hk0,if_pos (by omega)]
 show(al.cps.toList[(v % m).toNat]?).map _=_
 rw[List.getElem?_eq_getElem hk];rfl
theorem jB{s:Str}{c:Nat}(h:s.length<=100):Gx (.str s) (.str ⟨#[c]⟩)=some (.str (s++(⟨#[c]⟩:Str))):=by
 show(if s.length+1<=sizeLine then _ else _)=_
 rw[if_pos (sz (by omega))]
theorem Yy(s:Str)(c:Nat):(s++(⟨#[c]⟩:Str)).length=s.length+1:=by
 show(s.cps++#[c]).size=_
 rw[Array.size_append];rfl
theorem cE{al s:Str}{c:Nat}(h:IJ al s)(hc:c∈al.cps.toList):IJ al (s++(⟨#[c]⟩:Str)):=by
 intro x hx
 have:x∈(s.cps++#[c]).toList:=hx
 rw[Array.toList_append]at this
 rcases List.mem_append.mp this with z|z
 ·exact h x z
 ·rw[List.mem_singleton.mp z];exact hc
theorem bL(al:Str):IJ al "":=by
 intro c hc
 have:(Str.cps "").toList=[]:=∅
 rw[this]at hc;cases hc
def sgB(al:Str)(m:Int):DB:=AY (Am (dOp Gx (AD 1) (dOp TZ (dC (.str al)) (dOp BQ (AD 0) (dC (.int m))))) (dN 1)) (Am (dOp Bw (AD 0) (dC (.int m))) (dN 0))
theorem YK{al:Str}{m:Int}(h0:0<m)(hl:(al.length:Int)=m)(hz:m<=100)(n:Int)(n0:0<=n)(n1:n<=50)(v:Int):∃(u:Int) (s:Str) (o:Option L),nM o/\(s.length:Int)=n/\IJ al s /\
  Df (dN 3) (sgB al m) ((rng 0 n.toNat).map PyData.int) [some (.d (.int v)),some (.d (.str "")),some (.d (.int n)),none]=some (.nx [some (.d (.int u)),some (.d (.str s)),some (.d (.int n)),o]):=by
 let st:Int->Str->Option L->DS:=fun u s o=>[some (.d (.int u)),some (.d (.str s)),some (.d (.int n)),o]
 have lp:∃τ',Df (dN 3) (sgB al m) ((List.range n.toNat).map fun(k:Nat)=>PyData.int (k:Int)) (st v "" none)=some (.nx τ')/\∃u s o,nM o/\s.length=(List.range n.toNat).length/\IJ al s/\τ'=st u s o:=by
  refine IH (fun(pre:List Nat) τ=>∃u s o,nM o/\s.length=pre.length/\IJ al s/\τ=st u s o) ⟨v,"",none,CM,∅,bL al,rfl⟩ ?_
  rintro pre k post τ hp ⟨u,s,o,ho,hr,hall,rfl⟩
  have hl':=F7 hp
  rw[List.length_range]at hl'
  let K:Option L:=some (.d (.int (k:Int)))
  obtain⟨c,hc,ej⟩:=ixA h0 hl hz u
  let s':=s++(⟨#[c]⟩:Str)
  have s1:Am (dOp Gx (AD 1) (dOp TZ (dC (.str al)) (dOp BQ (AD 0) (dC (.int m))))) (dN 1) (st u s K)=some (.nx (st u s' K)) :=
   BI (d:=.str s') (τ1:=st u s K) (op2 (x:=.str s) (y:=.str ⟨#[c]⟩) (τ1:=st u s K) rfl (op2 (x:=.str al) (y:=.int (u % m)) (τ1:=st u s K) rfl (op2 (x:=.int u) (y:=.int m) (τ1:=st u s K) rfl rfl (C7 h0)) ej) (jB (by omega))) rfl
  have s2:Am (dOp Bw (AD 0) (dC (.int m))) (dN 0) (st u s' K)=some (.nx (st (u / m) s' K)) :=
   BI (d:=.int (u / m)) (τ1:=st u s' K) (op2 (x:=.int u) (y:=.int m) (τ1:=st u s' K) rfl rfl (ED h0 (by omega))) rfl
  exact⟨st u s K,_,Em (o:=o) rfl ho,(AV s1).trans s2,u / m,s',K,C6,by rw[Yy,List.length_append,hr];rfl,cE hall hc,rfl⟩
 obtain⟨τ',e,u,s,o,ho,hl,hall,rfl⟩:=lp
 rw[<- N9]at e
 rw[List.length_range]at hl
 exact⟨u,s,o,ho,by omega,hall,e⟩
theorem Xa(v:Int):∃(t:Tx) (w:Int) (ls:List L),IF [.d (.int v)]=some (.tuple [eT t,.int w],ls)/\1<=t.1.length/\t.1.length<=8/\IJ alN t.1:=by
 obtain⟨u,s,o,ho,hl,ha,e⟩:=YK (al:=alN) (m:=36) (by decide) ∅ (by decide) (1+v % 8) (by omega) (by omega) (v / 8)
 refine⟨⟨s,VL ∅ ha⟩,u,[.d (.int v)],?_,by show 1<=s.length;omega,by show s.length<=8;omega,ha⟩
 unfold IF
 let I:Int->Option L:=fun i=>some (.d (.int i))
 let T:Option L:=some (.d (.str ""))
 refine A6 (τ:=[I u,some (.d (.str s)),I (1+v % 8),o]) ?_ rfl rfl
 have z2:Am (dOp CK (dC (.int 1)) (dOp BQ (AD 0) (dC (.int 8)))) (dN 2) [I v,T,none,none]=some (.nx [I v,T,I (1+v % 8),none]):=by
  have d:=C7 (i:=v) (j:=8) (by decide)
  walk_at "b|I,T,d"
 have z3:Am (dOp Bw (AD 0) (dC (.int 8))) (dN 0) [I v,T,I (1+v % 8),none]=some (.nx [I (v / 8),T,I (1+v % 8),none]):=by
  have d:=ED (i:=v) (j:=8) (by decide) (by decide)
  walk_at "b|I,T,d"
 refine(AV rfl).trans ((AV z2).trans ((AV z3).trans ?_))
 exact(AV ((Hd (Tz (n:=1+v % 8) (τ1:=[I (v / 8),T,I (1+v % 8),none]) rfl (by omega) (by omega))).trans e)).trans rfl
theorem Wy(v:Int):∃(t:Tx) (w:Int) (ls:List L),ID [.d (.int v)]=some (.tuple [eT t,.int w],ls)/\t.1.length<=6/\IJ alW t.1:=by
 obtain⟨u,s,o,ho,hl,ha,e⟩:=YK (al:=alW) (m:=18) (by decide) ∅ (by decide) (v % 7) (by omega) (by omega) (v / 7)
 refine⟨⟨s,VL ∅ ha⟩,u,[.d (.int v)],?_,by show s.length<=6;omega,ha⟩
 unfold ID
 let I:Int->Option L:=fun i=>some (.d (.int i))
 let T:Option L:=some (.d (.str ""))
 refine A6 (τ:=[I u,some (.d (.str s)),I (v % 7),o]) ?_ rfl rfl
 have z2:Am (dOp BQ (AD 0) (dC (.int 7))) (dN 2) [I v,T,none,none]=some (.nx [I v,T,I (v % 7),none]):=by
  have d:=C7 (i:=v) (j:=7) (by decide)
  walk_at "b|I,T,d"
 have z3:Am (dOp Bw (AD 0) (dC (.int 7))) (dN 0) [I v,T,I (v % 7),none]=some (.nx [I (v / 7),T,I (v % 7),none]):=by
  have d:=ED (i:=v) (j:=7) (by decide) (by decide)
  walk_at "b|I,T,d"
 refine(AV rfl).trans ((AV z2).trans ((AV z3).trans ?_))
 exact(AV ((Hd (Tz (n:=v % 7) (τ1:=[I (v / 7),T,I (v % 7),none]) rfl (by omega) (by omega))).trans e)).trans rfl
theorem Kx(v:Int):∃(x w:Int) (ls:List L),Ce [.d (.int v)]=some (.tuple [.int x,.int w],ls)/\-60<=x/\x<=60:=by
 have d1:=C7 (i:=v) (j:=6) (by decide)
 have d2:=ED (i:=v) (j:=6) (by decide) (by decide)
 have d3:=C7 (i:=v / 6) (j:=121) (by decide)
 have d4:=C7 (i:=v / 6) (j:=12) (by decide)
 have d5:=ED (i:=v) (j:=726) (by decide) (by decide)
 have d6:=ED (i:=v) (j:=72) (by decide) (by decide)
 by_cases h:v % 6=0
 ·refine⟨v / 6 % 121-60,v / 726,[.d (.int v)],?_,by omega,by omega⟩
  have q:fEq (.int (v % 6)) (.int 0)=some (.bool true):=by rw[encI.fEq,decide_eq_true h]
  walk_at "b|Ce,d1,d2,d3,d5,q"
 ·refine⟨v / 6 % 12-3,v / 72,[.d (.int v)],?_,by omega,by omega⟩
  have q:fEq (.int (v % 6)) (.int 0)=some (.bool false):=by rw[encI.fEq,decide_eq_false h]
  walk_at "b|Ce,d1,d2,d4,d6,q"
theorem Ky(v m:Int)(m0:5<=m)(m1:m<=100):∃(x w:Int) (ls:List L),Dw [.d (.int v),.d (.int m)]=some (.tuple [.int x,.int w],ls)/\1<=x/\x<=m:=by
 have d1:=C7 (i:=v) (j:=8) (by decide)
 have d2:=ED (i:=v) (j:=8) (by decide) (by decide)
 have d3:=C7 (i:=v / 8) (j:=m) (by omega)
 have d4:=ED (i:=v / 8) (j:=m) (by omega) (by omega)
 have d5:=C7 (i:=v / 8) (j:=5) (by decide)
 have d6:=ED (i:=v) (j:=40) (by decide) (by decide)
 have g0:=Int.emod_nonneg (v / 8) (show m≠0 by omega)
 have g1:=Int.emod_lt_of_pos (v / 8) (show 0<m by omega)
 by_cases h:v % 8=0
 ·refine⟨1+v / 8 % m,v / 8 / m,[.d (.int v),.d (.int m)],?_,by omega,by omega⟩
  have q:fEq (.int (v % 8)) (.int 0)=some (.bool true):=by rw[encI.fEq,decide_eq_true h]
  walk_at "b|Dw,d1,d2,d3,d4,q"
 ·refine⟨1+v / 8 % 5,v / 40,[.d (.int v),.d (.int m)],?_,by omega,by omega⟩
  have q:fEq (.int (v % 8)) (.int 0)=some (.bool false):=by rw[encI.fEq,decide_eq_false h]
  walk_at "b|Dw,d1,d2,d5,d6,q"
theorem Vt(v:Int):∃(a b:Cl) (w:Int) (ls:List L),Ej [.d (.int v)]=some (.tuple [ec a,ec b,.int w],ls)/\OkF a/\OkF b:=by
 obtain⟨a,u,l1,e1,oa⟩:=P4 v
 obtain⟨b,w,l2,e2,ob⟩:=P4 (u / 3)
 have d1:=C7 (i:=u) (j:=3) (by decide)
 have d2:=ED (i:=u) (j:=3) (by decide) (by decide)
 by_cases h:u % 3=0
 ·refine⟨a,(1,1),u / 3,[.d (.int v)],?_,oa,?_⟩
  ·have q:fEq (.int (u % 3)) (.int 0)=some (.bool true):=by rw[encI.fEq,decide_eq_true h]
   walk_at "a|Ej,e1,q,d1,d2"
   rfl
  ·have:=bV (t:=1) (b:=1) (by decide) (by decide) (by decide) (by decide)
   rwa [show frm 1 1=(1,1) by decide]at this
 ·refine⟨a,b,w,[.d (.int v)],?_,oa,ob⟩
  have q:fEq (.int (u % 3)) (.int 0)=some (.bool false):=by rw[encI.fEq,decide_eq_false h]
  walk_at "a|Ej,e1,e2,q,d1,d2"
theorem jc:∀rs:List Tx,fixDs (rs.map eT)=true:=encT.fixL
theorem Si(v:Int):∃(R:List Tx) (w:Nat) (v':Int) (ls:List L),FA [.d (.int v)]=some (.tuple [.tuple (R.map eT),.int v'],ls)/\1<=R.length/\R.length<=8/\1<=w/\w<=8/\∀r∈R,r.1.length=w/\IJ alS r.1:=by
 generalize hw:(1+v % 8:Int)=W
 generalize hh:(1+v / 8 % 8:Int)=Hh
 have w1:1<=W:=by omega
 have w2:W<=8:=by omega
 have h1:1<=Hh:=by omega
 have h2:Hh<=8:=by omega
 let I:Int->Option L:=fun i=>some (.d (.int i))
 let st:Int->List Tx->Option L->Option L->Option L->DS:=fun u R o4 o5 o6=>[I u,I W,I Hh,some (.m (R.map eT)),o4,o5,o6]
 let S:Str->Option L:=fun r=>some (.d (.str r))
 let Bi:DB:=AY (Am (dOp Gx (AD 5) (dOp TZ (dC (.str "#.")) (dOp BQ (AD 0) (dC (.int 2))))) (dN 5)) (Am (dOp Bw (AD 0) (dC (.int 2))) (dN 0))
 have inner:∀(u:Int) (R:List Tx) (o4 o6:Option L),nM o6->∃τ',Df (dN 6) Bi ((List.range W.toNat).map fun(k:Nat)=>PyData.int (k:Int)) (st u R o4 (S "") o6)=some (.nx τ')/\∃u' r o,nM o/\r.length=(List.range W.toNat).length/\IJ alS r/\τ'=st u' R o4 (S r) o:=by
  intro u R o4 o6 n6
  refine IH (fun(pre:List Nat) τ=>∃u' r o,nM o/\r.length=pre.length/\IJ alS r/\τ=st u' R o4 (S r) o) ⟨u,"",o6,n6,∅,bL _,rfl⟩ ?_
  rintro pre k post τ hp ⟨u',r,o,ho,hr,hall,rfl⟩
  have hl:=F7 hp
  rw[List.length_range]at hl
  let K:Option L:=I (k:Int)
  let τ1:=st u' R o4 (S r) K
  obtain⟨c,hc,ej⟩:=ixA (al:=alS) (m:=2) (by decide) ∅ (by decide) u'
  let r':=r++(⟨#[c]⟩:Str)
  have s1:Am (dOp Gx (AD 5) (dOp TZ (dC (.str "#.")) (dOp BQ (AD 0) (dC (.int 2))))) (dN 5) τ1=some (.nx (st u' R o4 (S r') K)) :=
   BI (d:=.str r') (τ1:=τ1) (op2 (x:=.str r) (y:=.str ⟨#[c]⟩) (τ1:=τ1) rfl (op2 (x:=.str "#.") (y:=.int (u' % 2)) (τ1:=τ1) rfl (op2 (x:=.int u') (y:=.int 2) (τ1:=τ1) rfl rfl (C7 (by decide))) ej) (jB (by omega))) rfl
  have s2:Am (dOp Bw (AD 0) (dC (.int 2))) (dN 0) (st u' R o4 (S r') K)=some (.nx (st (u' / 2) R o4 (S r') K)) :=
   BI (d:=.int (u' / 2)) (τ1:=st u' R o4 (S r') K) (op2 (x:=.int u') (y:=.int 2) (τ1:=st u' R o4 (S r') K) rfl rfl (ED (by decide) (by decide))) rfl
  exact⟨τ1,_,Em (o:=o) rfl ho,(AV s1).trans s2,u' / 2,r',K,C6,by rw[Yy,List.length_append,hr];rfl,cE hall hc,rfl⟩
 have outer:∃τ',Df (dN 4) (AY (Am (dC (.str "")) (dN 5)) (AY (Ia (dR1 (AA (AD 1) AI)) (dN 6) Bi) (C3 (dMt 3 Bs (AA (AD 5) AI))))) ((List.range Hh.toNat).map fun(k:Nat)=>PyData.int (k:Int)) (st (v / 64) [] none none none)=some (.nx τ')/\∃u R o4 o5 o6,nM o4/\nM o5/\nM o6/\R.length=(List.range Hh.toNat).length/\(∀r∈R,r.1.length=W.toNat/\IJ alS r.1)/\τ'=st u R o4 o5 o6:=by
  refine IH (fun(pre:List Nat) τ=>∃u R o4 o5 o6,nM o4/\nM o5/\nM o6/\R.length=pre.length/\(∀r∈R,r.1.length=W.toNat/\IJ alS r.1)/\τ=st u R o4 o5 o6) ⟨v / 64,[],none,none,none,CM,CM,CM,rfl,(fun r hr=>by cases hr),rfl⟩ ?_
  rintro pre k post τ hp ⟨u,R,o4,o5,o6,n4,n5,n6,hR,hall,rfl⟩
  have hl:=F7 hp
  rw[List.length_range]at hl
  let K:Option L:=I (k:Int)
  have s1:Am (dC (.str "")) (dN 5) (st u R K o5 o6)=some (.nx (st u R K (S "") o6)):=BI (d:=.str "") (τ1:=st u R K o5 o6) rfl (Em (o:=o5) rfl n5)
  obtain⟨τ',e,u',r,o,ho,hr,hal,rfl⟩:=inner u R K o6 n6
  rw[<- N9]at e
  let rt:Tx:=⟨r,VL ∅ hal⟩
  have s2:Ia (dR1 (AA (AD 1) AI)) (dN 6) Bi (st u R K (S "") o6)=some (.nx (st u' R K (S r) o)):=(Hd (Tz (n:=W) (τ1:=st u R K (S "") o6) rfl (by omega) (by omega))).trans e
  have s3:C3 (dMt 3 Bs (AA (AD 5) AI)) (st u' R K (S r) o)=some (.nx (st u' (R++[rt]) K (S r) o)):=by
   refine(Vk (i:=3) (d:=eT rt) (xs:=R.map eT) (τ1:=st u' R K (S r) o) rfl rfl (by rw[List.length_map];omega)).trans ?_
   show some (Out.nx [_,_,_,some (.m (R.map eT++[eT rt])),_,_,_])=_
   rw[show R.map eT++[eT rt]=(R++[rt]).map eT by rw[List.map_append];rfl]
  refine⟨st u R K o5 o6,st u' (R++[rt]) K (S r) o,Em (o:=o4) rfl n4,(AV s1).trans ((AV s2).trans s3),u',R++[rt],K,S r,o,C6,C6,ho,by rw[List.length_append,List.length_append,hR];rfl,fun x hx=>?_,rfl⟩
  rcases List.mem_append.mp hx with z|z
  ·exact hall x z
  ·rw[List.mem_singleton.mp z]
   rw[List.length_range]at hr
   exact⟨hr,hal⟩
 obtain⟨τ',e,u,R,o4,o5,o6,n4,n5,n6,hR,hall,rfl⟩:=outer
 rw[<- N9]at e
 rw[List.length_range]at hR
 unfold FA
 let s0:DS:=[I v,none,none,none,none,none,none]
 let s1:DS:=[I v,I W,none,none,none,none,none]
 let s2:DS:=[I v,I W,I Hh,none,none,none,none]
 let s3:DS:=[I (v / 64),I W,I Hh,none,none,none,none]
 have z1:Am (dOp CK (dC (.int 1)) (dOp BQ (AD 0) (dC (.int 8)))) (dN 1) s0=some (.nx s1) :=
  BI (d:=.int W) (τ1:=s0) (op2 (x:=.int 1) (y:=.int (v % 8)) (τ1:=s0) rfl (op2 (x:=.int v) (y:=.int 8) (τ1:=s0) rfl rfl (C7 (by decide))) (by rw[<- hw];rfl)) rfl
 have z2:Am (dOp CK (dC (.int 1)) (dOp BQ (dOp Bw (AD 0) (dC (.int 8))) (dC (.int 8)))) (dN 2) s1=some (.nx s2) :=
  BI (d:=.int Hh) (τ1:=s1) (op2 (x:=.int 1) (y:=.int (v / 8 % 8)) (τ1:=s1) rfl (op2 (x:=.int (v / 8)) (y:=.int 8) (τ1:=s1) (op2 (x:=.int v) (y:=.int 8) (τ1:=s1) rfl rfl (ED (by decide) (by decide))) rfl (C7 (by decide))) (by rw[<- hh];rfl)) rfl
 have z3:Am (dOp Bw (AD 0) (dC (.int 64))) (dN 0) s2=some (.nx s3) :=
  BI (d:=.int (v / 64)) (τ1:=s2) (op2 (x:=.int v) (y:=.int 64) (τ1:=s2) rfl rfl (ED (by decide) (by decide))) rfl
 have z4:Mf 1 3 s3=some (.nx (st (v / 64) [] none none none)):=rfl
 refine⟨R,W.toNat,u,_,A6 (τ:=st u R o4 o5 o6) ?_ rfl rfl,by omega,by omega,by omega,by omega,hall⟩
 refine(AV z1).trans ((AV z2).trans ((AV z3).trans ((AV z4).trans ?_)))
 refine(AV ((Hd (Tz (n:=Hh) (τ1:=st (v / 64) [] none none none) rfl (by omega) (by omega))).trans e)).trans (Bp (τ1:=st u R o4 o5 o6) ?_)
 let τd:DS:=[I u,I W,I Hh,some (.d (.list (R.map eT))),o4,o5,o6]
 refine gc (i:=3) (xs:=R.map eT) (τ1:=τd) rfl ?_ ?_
 ·unfold Be
  show((AA (BD VT (AA (AD 3) AI)) (AA (AD 0) AI) τd).bind _)=_
  rw[acc (Gj (d:=.list (R.map eT)) (r:=.tuple (R.map eT)) rfl rfl) (acc (τ1:=τd) (d:=.int u) rfl rfl)]
  rfl
 ·show((fixDs (R.map eT)&&(true&&true))&&(true&&(true&&(true&&(true&&(okM o4&&(okM o5&&(okM o6&&true))))))))=true
  rw[jc,GS n4,GS n5,GS n6];rfl
def Wv:Dz->Prop
 |.plate w h a b=>1<=w/\w<=12/\1<=h/\h<=12/\OkF a/\OkF b
 |.band w h a b=>-12<=w/\w<=12/\-12<=h/\h<=12/\OkF a/\OkF b
 |.word t a b=>t.1.length<=6/\IJ alW t.1/\OkF a/\OkF b
 |.stencil R a b=>1<=R.length/\R.length<=8/\(∃w,1<=w/\w<=8/\∀r∈R,r.1.length=w/\IJ alS r.1)/\OkF a/\OkF b
 |.group=>True
 |.glass a=>OkF a
 |.window w h x y=>1<=w/\w<=16/\1<=h/\h<=16/\-60<=x/\x<=60/\-60<=y/\y<=60
 |.turn q _=>0<=q/\q<=3
 |.tiles a b x y=>1<=a/\a<=3/\1<=b/\b<=3/\-20<=x/\x<=20/\-20<=y/\y<=20
 |.mask=>True
theorem inT(t:Tx)(ts:List Tx):fIn false (eT t) (.tuple (ts.map eT))=some (.bool (decide (t∈ts))):=by
 simp only[DL.fIn,encT.ok,encT.okL,encT.any,Bool.and_self,if_true,Bool.false_eq_true,if_false]
 exact congrArg (fun b=>some (PyData.bool b)) (decide_eq_decide.mpr Iff.rfl)
theorem sk{i j:Nat}(hi:i<10)(hj:j<10)(h:i≠j){a:DB}{τ:DS}(e:τ[0]?=some (some (.d (eT (kS i))))):A4 (AN (dOp fEq (AD 0) (dC (eT (kS j))))) a A2 τ=some (.nx τ):=by
 refine(EC (τ1:=τ) (tst (op2 (x:=eT (kS i)) (y:=eT (kS j)) (τ1:=τ) (by unfold AD;rw[e]) rfl ?_))).trans rfl
 rw[encT.fEq,decide_eq_false fun z=>h (LH hi hj z)]
theorem tk{i:Nat}{a:DB}{τ:DS}(e:τ[0]?=some (some (.d (eT (kS i))))):A4 (AN (dOp fEq (AD 0) (dC (eT (kS i))))) a A2 τ=a τ:=by
 refine Je (τ1:=τ) (tst (op2 (x:=eT (kS i)) (y:=eT (kS i)) (τ1:=τ) (by unfold AD;rw[e]) rfl ?_))
 rw[encT.fEq,decide_eq_true rfl]
theorem Xw{i:Nat}(hi:i<10)(v:Int):∃(d:Dz) (w:Int) (ls:List L),Bq [.d (eT (kS i)),.d (.int v)]=some (.tuple [eD d,.int w],ls)/\kz d=i/\Wv d:=by
 let I:Int->Option L:=fun i=>some (.d (.int i))
 let K:Option L:=some (.d (eT (kS i)))
 let N:Option L:=none
 let LS:List L:=[.d (eT (kS i)),.d (.int v)]
 let τ0:DS:=[K,I v,N,N,N,N,N,N,N,N,N]
 have g1:AN (dOp (fIn false) (AD 0) (Be (AA (dC (.str "group")) (AA (dC (.str "mask")) AI)))) τ0=some (decide (kS i∈[kS 4,kS 9]),τ0) :=
  tst (op2 (x:=eT (kS i)) (y:=.tuple ([kS 4,kS 9].map eT)) (τ1:=τ0) rfl rfl (inT _ _))
 have g0:i≠4->i≠9->∀a:DB,A4 (AN (dOp (fIn false) (AD 0) (Be (AA (dC (.str "group")) (AA (dC (.str "mask")) AI))))) a A2 τ0=some (.nx τ0):=fun h4 h9 a=>by
  refine(EC (τ1:=τ0) (g1.trans ?_)).trans rfl
  rw[decide_eq_false]
  intro z
  rcases List.mem_cons.mp z with z|z
  ·exact h4 (LH hi (by decide) z)
  ·exact h9 (LH hi (by decide) (List.mem_singleton.mp z))
 have g2:i=4\/i=9->Bq [.d (eT (kS i)),.d (.int v)]=some (.tuple [.tuple [],.int v],[.d (eT (kS i)),.d (.int v)]):=fun h=>by
  unfold Bq
  refine A6 (τ:=τ0) ((Ic ((Je (τ1:=τ0) (g1.trans ?_)).trans rfl))) rfl rfl
  rw[decide_eq_true]
  rcases h with rfl|rfl
  ·exact List.mem_cons_self
  ·exact List.mem_cons_of_mem _ List.mem_cons_self
 have q1:i=4->∃(d:Dz) (w:Int) (ls:List L),Bq [.d (eT (kS i)),.d (.int v)]=some (.tuple [eD d,.int w],ls)/\kz d=i/\Wv d:=fun h=>⟨.group,v,_,g2 (.inl h),by rw[h];rfl,trivial⟩
 have q2:i=9->∃(d:Dz) (w:Int) (ls:List L),Bq [.d (eT (kS i)),.d (.int v)]=some (.tuple [eD d,.int w],ls)/\kz d=i/\Wv d:=fun h=>⟨.mask,v,_,g2 (.inr h),by rw[h];rfl,trivial⟩
 by_cases h4:i=4
 ·exact q1 h4
 by_cases h9:i=9
 ·exact q2 h9
 have G0:=g0 h4 h9
 by_cases h7:i=7
 ·subst h7
  have d1:=C7 (i:=v) (j:=4) (by decide)
  have d2:=ED (i:=v) (j:=4) (by decide) (by decide)
  have d3:=C7 (i:=v / 4) (j:=2) (by decide)
  have d4:=ED (i:=v) (j:=8) (by decide) (by decide)
  have d5:fEq (.int (v / 4 % 2)) (.int 1)=some (.bool (decide (v / 4 % 2=1))):=encI.fEq _ _
  refine⟨.turn (v % 4) (decide (v / 4 % 2=1)),v / 8,LS,?_,rfl,by show 0<=v % 4;omega,by show v % 4<=3;omega⟩
  unfold Bq
  refine A6 (τ:=τ0) ((AV (G0 _)).trans (Ic ((tk (i:=7) (τ:=τ0) rfl).trans (Bp (τ1:=τ0) ?_)))) rfl rfl
  walk_at "b|τ0,K,I,N,d1,d2,d3,d4,d5,eD"
 have G1:∀a:DB,A4 (AN (dOp fEq (AD 0) (dC (.str "turn")))) a A2 τ0=some (.nx τ0):=fun a=>sk hi (j:=7) (by decide) h7 rfl
 by_cases h8:i=8
 ·subst h8
  have d1:=C7 (i:=v) (j:=3) (by decide)
  have d2:=ED (i:=v) (j:=3) (by decide) (by decide)
  have d3:=C7 (i:=v / 3) (j:=3) (by decide)
  have d4:=ED (i:=v) (j:=9) (by decide) (by decide)
  have d5:=C7 (i:=v / 9) (j:=41) (by decide)
  have d6:=ED (i:=v) (j:=369) (by decide) (by decide)
  have d7:=C7 (i:=v / 369) (j:=41) (by decide)
  have d8:=ED (i:=v) (j:=15129) (by decide) (by decide)
  have d9:=C7 (i:=v / 15129) (j:=4) (by decide)
  have da:=ED (i:=v) (j:=60516) (by decide) (by decide)
  generalize ha:1+v % 3=a
  generalize hb:1+v / 3 % 3=b
  generalize hx:v / 9 % 41-20=x
  generalize hy:v / 369 % 41-20=y
  have db:=C7 (i:=x) (j:=7) (by decide)
  have dc:=C7 (i:=y) (j:=7) (by decide)
  let T:Int->Int->Option L:=fun x y=>some (.d (.tuple [.int a,.int b,.int x,.int y]))
  let τ1:Int->Int->DS:=fun x y=>[K,I v,T x y,N,N,N,N,N,N,N,N]
  have s1:Am (Be (AA (dOp CK (dC (.int 1)) (dOp BQ (AD 1) (dC (.int 3)))) (AA (dOp CK (dC (.int 1)) (dOp BQ (dOp Bw (AD 1) (dC (.int 3))) (dC (.int 3)))) (AA (dOp EM (dOp BQ (dOp Bw (AD 1) (dC (.int 9))) (dC (.int 41))) (dC (.int 20))) (AA (dOp EM (dOp BQ (dOp Bw (AD 1) (dC (.int 369))) (dC (.int 41))) (dC (.int 20))) AI))))) (dN 2) τ0=some (.nx (τ1 x y)):=by
   walk_at "b|τ0,τ1,T,K,I,N,d1,d2,d3,d4,d5,d6,d7,ha,hb,hx,hy"
  have fin:∀x y:Int,A0 (Be (AA (AD 2) (AA (dOp Bw (AD 1) (dC (.int 60516))) AI))) (τ1 x y)=some (.rt (.tuple [.tuple [.int a,.int b,.int x,.int y],.int (v / 60516)]) (τ1 x y)):=fun x y=>by
   walk_at "b|τ0,τ1,T,K,I,N,da"
  by_cases hp:v / 15129 % 4>0
  ·refine⟨.tiles a b (x % 7) (y % 7),v / 60516,LS,?_,rfl,?_⟩
   ·unfold Bq
    refine A6 (τ:=τ1 (x % 7) (y % 7)) ((AV (G0 _)).trans ((AV (G1 _)).trans (Ic ((tk (i:=8) (τ:=τ0) rfl).trans ((AV s1).trans ((AV (τ1:=τ1 (x % 7) (y % 7)) ?_).trans (fin _ _))))))) rfl rfl
    refine(Je (τ1:=τ1 x y) ?_).trans ?_
    ·walk_at "b|τ1,T,K,I,N,d8,d9,hp,decide_true"
    ·have e1:Li (AD 2) Kw (dPt (dC (.int 2))) (τ1 x y)=some (.tuple [.int a,.int b],τ1 x y):=rfl
     refine BI (d:=.tuple [.int a,.int b,.int (x % 7),.int (y % 7)]) (τ1:=τ1 x y) (op2 e1 (y:=.tuple [.int (x % 7),.int (y % 7)]) (τ2:=τ1 x y) ?_ rfl) rfl
     walk_at "b|τ1,T,K,I,N,db,dc"
   ·exact⟨by omega,by omega,by omega,by omega,by omega,by omega,by omega,by omega⟩
  ·refine⟨.tiles a b x y,v / 60516,LS,?_,rfl,?_⟩
   ·unfold Bq
    refine A6 (τ:=τ1 x y) ((AV (G0 _)).trans ((AV (G1 _)).trans (Ic ((tk (i:=8) (τ:=τ0) rfl).trans ((AV s1).trans ((AV (τ1:=τ1 x y) ?_).trans (fin _ _))))))) rfl rfl
    refine(EC (τ1:=τ1 x y) ?_).trans rfl
    walk_at "b|τ1,T,K,I,N,d8,d9,hp,decide_false"
   ·exact⟨by omega,by omega,by omega,by omega,by omega,by omega,by omega,by omega⟩
 have G2:∀a:DB,A4 (AN (dOp fEq (AD 0) (dC (.str "tiles")))) a A2 τ0=some (.nx τ0):=fun a=>sk hi (j:=8) (by decide) h8 rfl
 by_cases h6:i=6
 ·subst h6
  obtain⟨w,v1,l1,e1,w0,w1⟩:=Ky v 16 (by decide) (by decide)
  obtain⟨h,v2,l2,e2,h0,h1⟩:=Ky v1 16 (by decide) (by decide)
  obtain⟨x,v3,l3,e3,x0,x1⟩:=Kx v2
  obtain⟨y,v4,l4,e4,y0,y1⟩:=Kx v3
  refine⟨.window w h x y,v4,LS,?_,rfl,w0,w1,h0,h1,x0,x1,y0,y1⟩
  unfold Bq
  let st:Int->Option L->Option L->Option L->Option L->DS:=fun v a b c d=>[K,I v,N,a,b,c,d,N,N,N,N]
  refine A6 (τ:=st v4 (I w) (I h) (I x) (I y)) ((AV (G0 _)).trans ((AV (G1 _)).trans ((AV (G2 _)).trans (Ic ((tk (i:=6) (τ:=τ0) rfl).trans ?_))))) rfl rfl
  refine(AV (τ1:=st v1 (I w) N N N) (BI (AZ (τ1:=τ0) (rs:=[.d (.int v),.d (.int 16)]) (ds:=[.int v,.int 16]) rfl rfl e1) rfl)).trans ?_
  refine(AV (τ1:=st v2 (I w) (I h) N N) (BI (AZ (τ1:=st v1 (I w) N N N) (rs:=[.d (.int v1),.d (.int 16)]) (ds:=[.int v1,.int 16]) rfl rfl e2) rfl)).trans ?_
  refine(AV (τ1:=st v3 (I w) (I h) (I x) N) (BI (AZ (τ1:=st v2 (I w) (I h) N N) (rs:=[.d (.int v2)]) (ds:=[.int v2]) rfl rfl e3) rfl)).trans ?_
  exact(AV (τ1:=st v4 (I w) (I h) (I x) (I y)) (BI (AZ (τ1:=st v3 (I w) (I h) (I x) N) (rs:=[.d (.int v3)]) (ds:=[.int v3]) rfl rfl e4) rfl)).trans rfl
 have G3:∀a:DB,A4 (AN (dOp fEq (AD 0) (dC (.str "window")))) a A2 τ0=some (.nx τ0):=fun a=>sk hi (j:=6) (by decide) h6 rfl
 obtain⟨p,q,v',lp,ep,op,oq⟩:=Vt v
 let A:Option L:=some (.d (ec p))
 let B:Option L:=some (.d (ec q))
 let st:Int->Option L->Option L->Option L->Option L->DS:=fun v a b c d=>[K,I v,N,a,b,N,N,A,B,c,d]
 let τ1:=st v' N N N N
 have P:Am (AU Ej (AA (AD 1) AI)) (dGT (BE (dN 7) (BE (dN 8) (BE (dN 1) Cy)))) τ0=some (.nx τ1):=BI (AZ (τ1:=τ0) (rs:=[.d (.int v)]) (ds:=[.int v]) rfl rfl ep) rfl
 by_cases h5:i=5
 ·subst h5
  refine⟨.glass q,v',LS,?_,rfl,oq⟩
  unfold Bq
  exact A6 (τ:=τ1) ((AV (G0 _)).trans ((AV (G1 _)).trans ((AV (G2 _)).trans ((AV (G3 _)).trans ((AV P).trans (Ic ((tk (i:=5) (τ:=τ1) rfl).trans rfl))))))) rfl rfl
 have G5:∀a:DB,A4 (AN (dOp fEq (AD 0) (dC (.str "glass")))) a A2 τ1=some (.nx τ1):=fun a=>sk hi (j:=5) (by decide) h5 rfl
 by_cases hh:i=0
 ·subst hh
  obtain⟨w,v1,l1,e1,w0,w1⟩:=Ky v' 12 (by decide) (by decide)
  obtain⟨h,v2,l2,e2,h0,h1⟩:=Ky v1 12 (by decide) (by decide)
  refine⟨.plate w h p q,v2,LS,?_,rfl,w0,w1,h0,h1,op,oq⟩
  unfold Bq
  refine A6 (τ:=st v2 (I w) (I h) N N) ((AV (G0 _)).trans ((AV (G1 _)).trans ((AV (G2 _)).trans ((AV (G3 _)).trans ((AV P).trans ((AV (G5 _)).trans (Ic ((tk (i:=0) (τ:=τ1) rfl).trans ?_)))))))) rfl rfl
  refine(AV (τ1:=st v1 (I w) N N N) (BI (AZ (τ1:=τ1) (rs:=[.d (.int v'),.d (.int 12)]) (ds:=[.int v',.int 12]) rfl rfl e1) rfl)).trans ?_
  exact(AV (τ1:=st v2 (I w) (I h) N N) (BI (AZ (τ1:=st v1 (I w) N N N) (rs:=[.d (.int v1),.d (.int 12)]) (ds:=[.int v1,.int 12]) rfl rfl e2) rfl)).trans rfl
 have G6:∀a:DB,A4 (AN (dOp fEq (AD 0) (dC (.str "plate")))) a A2 τ1=some (.nx τ1):=fun a=>sk hi (j:=0) (by decide) hh rfl
 by_cases h1:i=1
 ·subst h1
  have d1:=C7 (i:=v') (j:=25) (by decide)
  have d2:=ED (i:=v') (j:=25) (by decide) (by decide)
  have d3:=C7 (i:=v' / 25) (j:=25) (by decide)
  have d4:=ED (i:=v') (j:=625) (by decide) (by decide)
  refine⟨.band (v' % 25-12) (v' / 25 % 25-12) p q,v' / 625,LS,?_,rfl,by omega,by omega,by omega,by omega,op,oq⟩
  unfold Bq
  refine A6 (τ:=τ1) ((AV (G0 _)).trans ((AV (G1 _)).trans ((AV (G2 _)).trans ((AV (G3 _)).trans ((AV P).trans ((AV (G5 _)).trans ((AV (G6 _)).trans (Ic ((tk (i:=1) (τ:=τ1) rfl).trans (Bp (τ1:=τ1) ?_)))))))))) rfl rfl
  walk_at "b|τ1,st,K,I,N,A,B,d1,d2,d3,d4,eD"
 have G7:∀a:DB,A4 (AN (dOp fEq (AD 0) (dC (.str "band")))) a A2 τ1=some (.nx τ1):=fun a=>sk hi (j:=1) (by decide) h1 rfl
 by_cases h2:i=2
 ·subst h2
  obtain⟨t,v1,l1,e1,t6,ta⟩:=Wy v'
  refine⟨.word t p q,v1,LS,?_,rfl,t6,ta,op,oq⟩
  unfold Bq
  refine A6 (τ:=st v1 N N (some (.d (eT t))) N) ((AV (G0 _)).trans ((AV (G1 _)).trans ((AV (G2 _)).trans ((AV (G3 _)).trans ((AV P).trans ((AV (G5 _)).trans ((AV (G6 _)).trans ((AV (G7 _)).trans (Ic ((tk (i:=2) (τ:=τ1) rfl).trans ?_)))))))))) rfl rfl
  exact(AV (τ1:=st v1 N N (some (.d (eT t))) N) (BI (AZ (τ1:=τ1) (rs:=[.d (.int v')]) (ds:=[.int v']) rfl rfl e1) rfl)).trans rfl
 have G8:∀a:DB,A4 (AN (dOp fEq (AD 0) (dC (.str "word")))) a A2 τ1=some (.nx τ1):=fun a=>sk hi (j:=2) (by decide) h2 rfl
 have h3:i=3:=by omega
 subst h3
 obtain⟨R,w,v1,l1,e1,r1,r2,w1,w2,hr⟩:=Si v'
 refine⟨.stencil R p q,v1,LS,?_,rfl,r1,r2,⟨w,w1,w2,hr⟩,op,oq⟩
 unfold Bq
 refine A6 (τ:=st v1 N N N (some (.d (.tuple (R.map eT))))) ((AV (G0 _)).trans ((AV (G1 _)).trans ((AV (G2 _)).trans ((AV (G3 _)).trans ((AV P).trans ((AV (G5 _)).trans ((AV (G6 _)).trans ((AV (G7 _)).trans ((AV (G8 _)).trans ?_))))))))) rfl rfl
 exact(AV (τ1:=st v1 N N N (some (.d (.tuple (R.map eT))))) (BI (AZ (τ1:=τ1) (rs:=[.d (.int v')]) (ds:=[.int v']) rfl rfl e1) rfl)).trans rfl
theorem lcg{α:Type}{enc:α->PyData}{rs:List α}{τ:DS}{fr:List Nat}{it:DI}{ex:DS}{c:DT}{e:DX}(p:α->Bool)(f:α->PyData)(h:it τ=some (rs.map enc,τ))(hz:rs.length<=1000)(hm:(fr.all fun j=>!isM τ j)=true)(hb:Tq 1 fr τ=none::ex)
  (hc:∀r∈rs,c (some (.d (enc r))::ex)=some (p r,some (.d (enc r))::ex)) (he:∀r∈rs,p r=true->e (some (.d (enc r))::ex)=some (f r,some (.d (enc r))::ex)):dLC 1 fr it (dN 0) c e τ=some (.list ((rs.filter p).map f),τ):=by
 obtain ⟨τb, el⟩ := VI (enc := enc) (g := dN 0) (c := c) (e := e) (fun τ => ∃ o1, nM o1 /\ τ = o1 :: ex) p f (xs := rs) (acc := []) (τ := none :: ex) ⟨none, CM, rfl⟩ (by
  rintro x τ hx ⟨o1,n1,rfl⟩
  exact⟨some (.d (enc x))::ex,some (.d (enc x))::ex,Em (o:=o1) rfl n1,hc x hx,fun _=>⟨_,C6,rfl⟩,fun hp=>⟨some (.d (enc x))::ex,he x hx hp,_,C6,rfl⟩⟩)
 rw[List.nil_append]at el
 exact gS (ds:=rs.map enc) (τ1:=τ) (τb:=τb) h (by rw[List.length_map];exact sz hz) hm (by rw[hb];exact el)
theorem FN{α:Type}(l:List α):l.filter (fun _=>true)=l:=List.filter_eq_self.mpr fun _ _=>rfl
structure OkRow(r:Rz):Prop where
 n1:1<=r.n.1.length
 n8:r.n.1.length<=8
 na:IJ alN r.n.1
 x0:-60<=r.x
 x1:r.x<=60
 y0:-60<=r.y
 y1:r.y<=60
 d:Wv r.d
def OkR:List Rz->Prop
 |[]=>True
 |r::a=>OkR a/\OkRow r/\(∀q∈a,q.n≠r.n)/\(r.h=t0\/∃q∈a,q.n=r.h)
def hsR:List Rz->Tx->List Tx
 |[],_=>[]
 |r::a,n=>if r.n=n then n::hsR a r.h else hsR a n
def Cq(rs:List Rz)(t:Tx):Option Rz:=rs.find? fun r=>decide (r.n=t)
theorem OkRow.ne{r:Rz}(h:OkRow r):r.n≠t0:=fun z=>by
 have:=h.n1
 rw[z]at this
 exact absurd this ∅
theorem OkR.all{a:List Rz}(ok:OkR a):∀r∈a,OkRow r:=by
 induction a with
 |nil=>intro r hr;cases hr
 |cons q a ih =>
  intro r hr
  rcases List.mem_cons.mp hr with h|h
  ·rw[h];exact ok.2.1
  ·exact ih ok.1 r h
theorem OkR.suf{p q:List Rz}(ok:OkR (p++q)):OkR q:=by
 induction p with
 |nil=>exact ok
 |cons x p ih=>exact ih ok.1
theorem OkR.inj{a:List Rz}(ok:OkR a):∀r∈a,∀q∈a,r.n=q.n->r=q:=by
 induction a with
 |nil=>intro r hr;cases hr
 |cons x a ih =>
  intro r hr q hq e
  rcases List.mem_cons.mp hr with h1|h1<;>rcases List.mem_cons.mp hq with h2|h2
  ·rw[h1,h2]
  ·rw[h1]at e;exact absurd e.symm (ok.2.2.1 q h2)
  ·rw[h2]at e;exact absurd e (ok.2.2.1 r h1)
  ·exact ih ok.1 r h1 q h2 e
theorem PX:∀{a:List Rz},OkR a->hsR a t0=[]
 |[],_=>rfl
 |r::a,⟨h,o,_⟩=>by
  unfold hsR
  rw[if_neg o.ne];exact PX h
theorem VN:∀{a:List Rz} {n:Tx},(∃q∈a,q.n=n)->∃l,hsR a n=n::l
 |[],_,⟨_,h,_⟩=>by cases h
 |r::a,n,⟨q,hq,e⟩=>by
  unfold hsR
  by_cases h:r.n=n
  ·rw[if_pos h];exact⟨_,rfl⟩
  ·rw[if_neg h]
   rcases List.mem_cons.mp hq with rfl|hq
   ·exact absurd e h
   ·exact VN ⟨q,hq,e⟩
theorem Q4:∀(a:List Rz) (n:Tx),(hsR a n).length<=a.length
 |[],_=>Nat.le_refl _
 |r::a,n=>by
  unfold hsR
  split
  ·have:=Q4 a r.h
   simp only[List.length_cons];omega
  ·have:=Q4 a n
   simp only[List.length_cons];omega
abbrev OkZ(rs:List Rz):Prop:=OkR rs.reverse
theorem IW{rs:List Rz}(ok:OkZ rs){r:Rz}(hr:r∈rs):Cq rs r.n=some r:=by
 unfold Cq
 cases e:rs.find? fun q=>decide (q.n=r.n) with
 |none=>exact absurd (List.find?_eq_none.mp e r hr) (by simp)
 |some q =>
  have h1:=List.find?_some e
  have h2:=List.mem_of_find?_eq_some e
  rw[OkR.inj ok q (List.mem_reverse.mpr h2) r (List.mem_reverse.mpr hr) (of_decide_eq_true h1)]
theorem R1{rs:List Rz}{n:Tx}(h:∀q∈rs,q.n≠n):Cq rs n=none:=List.find?_eq_none.mpr fun q hq=>by simpa using h q hq
theorem VQ{rs:List Rz}(ok:OkZ rs):Cq rs t0=none:=R1 fun q hq=>(OkR.all ok q (List.mem_reverse.mpr hq)).ne
def kvZ(rs:List Rz):List (PyData×PyData):=rs.map fun r=>(eT r.n,eZ r)
theorem PY(t:Tx):∀rs:List Rz,Mw (kvZ rs) t.1=(Cq rs t).map eZ
 |[]=>rfl
 |r::rs=>by
  show(if r.n.1=t.1 then some (eZ r) else Mw (kvZ rs) t.1)=_
  unfold Cq
  rw[List.find?_cons]
  by_cases h:r.n=t
  ·rw[if_pos (by rw[h]),decide_eq_true h];rfl
  ·rw[if_neg (fun z=>h (Subtype.ext z)),decide_eq_false h];exact PY t rs
theorem aU{rs:List Rz}{r:Rz}(h:∀q∈rs,q.n≠r.n):XC (kvZ rs) r.n.1 (eZ r)=kvZ (rs++[r]):=by
 unfold XC
 rw[PY,R1 h]
 show(if (none:Option PyData).isSome=true then _ else _)=_
 rw[if_neg (by decide)]
 unfold kvZ
 rw[List.map_append];rfl
theorem Vq{rs pre post:List Rz}{r:Rz}(ok:OkZ rs)(e:rs=pre++r::post):∀q∈pre,q.n≠r.n:=by
 have:OkR (post.reverse++(r::pre.reverse)):=by
  have:=ok
  unfold OkZ at this
  rw[e]at this
  simpa using this
 exact fun q hq=>this.suf.2.2.1 q (List.mem_reverse.mpr hq)
theorem dU(a b:Tx):fNe (eT a) (eT b)=some (.bool (!decide (a=b))):=encT.fNe a b
theorem Ta(a b:Tx):fEq (eT a) (eT b)=some (.bool (decide (a=b))):=encT.fEq a b
theorem YO{i:Nat}{e k:DX}{τ τ1 τ2:DS}{d:PyData}{x:Str}{kv0 kvs:List (PyData×PyData)}(he:e τ=some (d,τ1))(h1:τ1[i]?=some (some (.g (.dict kv0))))(hk:k τ1=some (.str x,τ2))(h2:τ2[i]?=some (some (.g (.dict kvs))))(hf:GN d=true)(hz:kvs.length<=1000) :
  QJ i e k τ=some (.nx (τ2.set i (some (.g (.dict (XC kvs x d)))))):=by
 unfold QJ
 rw[he]
 dsimp only[Option.bind]
 rw[h1]
 dsimp only
 rw[hk]
 dsimp only
 rw[h2]
 dsimp only
 rw[if_pos ⟨hf,Nat.lt_of_le_of_lt hz (by decide)⟩]
theorem bM{i:Nat}{f:DX}{τ τ1:DS}{x:Str}{kvs:List (PyData×PyData)}(hf:f τ=some (.str x,τ1))(h:τ1[i]?=some (some (.g (.dict kvs)))):Qs false f i τ=some (.bool (Mw kvs x).isSome,τ1):=by
 unfold Qs
 rw[hf]
 dsimp only[Option.bind]
 rw[h]
 dsimp only
 rw[Bool.false_bne]
theorem bJ{i:Nat}{f:DX}{τ τ1:DS}{x:Str}{kv0 kvs:List (PyData×PyData)}{d:PyData}(h0:τ[i]?=some (some (.g (.dict kv0))))(hf:f τ=some (.str x,τ1))(h:τ1[i]?=some (some (.g (.dict kvs))))(hd:Mw kvs x=some d):Qr i f τ=some (d,τ1):=by
 unfold Qr
 rw[h0]
 dsimp only
 rw[hf]
 dsimp only[Option.bind]
 rw[h]
 dsimp only
 rw[hd];rfl
theorem aB{c:DT}{b:DB}{n:Nat}{τ:DS}{o:Option Out}(h:dWh c b n τ=o):Md (fun _=>n) c b τ=o:=h
theorem eB{rs:List Rz}(ok:OkZ rs)(hl:rs.length<=40){a:Tx}(ha:a=t0\/∃q∈rs,q.n=a):∃ls,LF [.d (.list (rs.map eZ)),.d (eT a)]=some (.list ((hsR rs.reverse a).map eT),ls):=by
 let R:Option L:=some (.d (.list (rs.map eZ)))
 let T:Tx->Option L:=fun a=>some (.d (eT a))
 let M:List Tx->Option L:=fun l=>some (.m (l.map eT))
 let G:List Rz->Option L:=fun l=>some (.g (.dict (kvZ l)))
 let st:List Rz->Option L->DS:=fun l o=>[R,T a,M [],G l,o]
 have lp:∃τ',Df (dN 4) (QJ 3 (AD 4) (dOp Ai (AD 4) (dC (.int 0)))) (rs.map eZ) (st [] none)=some (.nx τ')/\∃o,nM o/\τ'=st rs o:=by
  refine IH (fun pre τ=>∃o,nM o/\τ=st pre o) ⟨none,CM,rfl⟩ ?_
  rintro pre r post τ e ⟨o,ho,rfl⟩
  have hz:=F7 e
  refine⟨st pre (some (.d (eZ r))),st (pre++[r]) (some (.d (eZ r))),Em (o:=o) rfl ho,?_,_,C6,rfl⟩
  refine(YO (d:=eZ r) (x:=r.n.1) (kv0:=kvZ pre) (kvs:=kvZ pre) (τ1:=st pre (some (.d (eZ r)))) (τ2:=st pre (some (.d (eZ r)))) rfl rfl (op2 (x:=eZ r) (y:=.int 0) (τ1:=st pre (some (.d (eZ r)))) rfl rfl rfl) rfl (encZ.fix r) ?_).trans ?_
  ·rw[show(kvZ pre).length=pre.length from List.length_map ..];omega
  ·rw[aU (Vq ok e)];rfl
 obtain⟨τ',e1,o,ho,rfl⟩:=lp
 let C:DT:=Ci (AN (dOp fNe (AD 1) (dC (.str "")))) (AN (Qs false (AD 1) 3))
 let B:DB:=AY (C3 (dMt 2 Bs (AA (AD 1) AI))) (Am (dOp Ai (Qr 3 (AD 1)) (dC (.int 1))) (dN 1))
 let sw:Tx->List Tx->DS:=fun a l=>[R,T a,M l,G rs,o]
 have cT:∀b l,C (sw b l)=some (!decide (b=t0)&&(Cq rs b).isSome,sw b l):=fun b l=>by
  refine ZA (tst (op2 (x:=eT b) (y:=eT t0) (τ1:=sw b l) rfl rfl (dU b t0))) (tst ?_)
  rw[bM (x:=b.1) (kvs:=kvZ rs) (τ1:=sw b l) rfl rfl,PY,Option.isSome_map]
 have wl:∀(ah post:List Rz) (b:Tx) (l:List Tx) (n:Nat),rs.reverse=post++ah->(b=t0\/∃q∈ah,q.n=b)->ah.length<n->l.length+ah.length<=60->∃b',dWh C B n (sw b l)=some (.nx (sw b' (l++hsR ah b))):=by
  have stop:∀(ah:List Rz) (l:List Tx) (n:Nat),OkR ah->0<n->∃b',dWh C B n (sw t0 l)=some (.nx (sw b' (l++hsR ah t0))):=fun ah l n oa hn=>by
   obtain⟨n,rfl⟩:∃m,n=m+1:=⟨n-1,by omega⟩
   refine⟨t0,?_⟩
   rw[PX oa,List.append_nil]
   refine fU (τ1:=sw t0 l) ?_
   rw[cT,decide_eq_true rfl];rfl
  intro ah
  induction ah with
  |nil =>
   intro post b l n e hb hn _
   rcases hb with rfl|⟨q,hq,_⟩
   ·exact stop [] l n trivial (by omega)
   ·cases hq
  |cons r ah ih =>
   intro post b l n e hb hn hz
   have okr:OkR (r::ah):=(show OkR (post++r::ah) from e▸ok).suf
   rcases hb with rfl|⟨q,hq,hqb⟩
   ·exact stop (r::ah) l n okr (by omega)
   simp only[List.length_cons]at hn hz
   by_cases h:r.n=b
   ·obtain⟨n,rfl⟩:∃m,n=m+1:=⟨n-1,by omega⟩
    have hr:r∈rs:=List.mem_reverse.mp (e▸List.mem_append_right _ List.mem_cons_self)
    have hf:Cq rs b=some r:=h▸IW ok hr
    obtain⟨b',e2⟩:=ih (post++[r]) r.h (l++[b]) n (by rw[e];simp) okr.2.2.2 (by omega) (by rw[List.length_append];simp only[List.length_cons,List.length_nil];omega)
    refine⟨b',(fT (τ1:=sw b l) (τ2:=sw r.h (l++[b])) ?_ ?_).trans (e2.trans ?_)⟩
    ·rw[cT,hf,decide_eq_false (h▸okr.2.1.ne)];rfl
    ·have s1:C3 (dMt 2 Bs (AA (AD 1) AI)) (sw b l)=some (.nx (sw b (l++[b]))):=by
      refine(Vk (i:=2) (d:=eT b) (xs:=l.map eT) (τ1:=sw b l) rfl rfl (by rw[List.length_map];omega)).trans ?_
      show some (Out.nx [R,T b,some (.m (l.map eT++[eT b])),G rs,o])=_
      rw[show l.map eT++[eT b]=(l++[b]).map eT by rw[List.map_append];rfl]
     refine(AV s1).trans (BI (d:=eT r.h) (τ1:=sw b (l++[b])) (op2 (x:=eZ r) (y:=.int 1) (τ1:=sw b (l++[b])) (bJ (x:=b.1) (kv0:=kvZ rs) (kvs:=kvZ rs) (τ1:=sw b (l++[b])) rfl rfl rfl (by rw[PY,hf];rfl)) rfl rfl) rfl)
    ·rw[show hsR (r::ah) b=b::hsR ah r.h from by rw[hsR,if_pos h],List.append_assoc]
     rfl
   ·have:∃q∈ah,q.n=b:=by
     rcases List.mem_cons.mp hq with rfl|hq
     ·exact absurd hqb h
     ·exact⟨q,hq,hqb⟩
    obtain⟨b',e2⟩:=ih (post++[r]) b l n (by rw[e];simp) (.inr this) (by omega) (by omega)
    refine⟨b',e2.trans ?_⟩
    rw[show hsR (r::ah) b=hsR ah b from by rw[hsR,if_neg h]]
 obtain⟨b',e2⟩:=wl rs.reverse [] a [] 100 rfl (ha.imp id fun⟨q,hq,e⟩=>⟨q,List.mem_reverse.mpr hq,e⟩) (by rw[List.length_reverse];omega) (by rw[List.length_reverse,List.length_nil];omega)
 rw[List.nil_append]at e2
 refine⟨[.d (.list (rs.map eZ)),.d (eT a)],?_⟩
 unfold LF
 refine A6 (τ:=sw b' (hsR rs.reverse a)) ?_ rfl rfl
 exact(AV (τ1:=[R,T a,M [],none,none]) rfl).trans ((AV (τ1:=st [] none) rfl).trans ((AV ((Hd (ds:=rs.map eZ) (τ1:=st [] none) rfl).trans e1)).trans ((AV (τ1:=sw b' (hsR rs.reverse a)) (aB e2)).trans rfl)))
theorem jA(xs:List PyData):Vf xs (some 1) none=xs.tail:=by
 unfold Vf
 have e:HT.sIx xs.length 0 (some 1)=min 1 xs.length:=by
  show(if (1:Int)<0 then (1+(xs.length:Int)).toNat else min (1:Int).toNat xs.length)=_
  rw[if_neg (by decide)];rfl
 rw[e]
 show(xs.drop (min 1 xs.length)).take (xs.length-min 1 xs.length)=_
 cases xs with
 |nil=>rfl
 |cons x xs =>
  rw[show min 1 (x::xs).length=1 by simp only[List.length_cons];omega]
  show xs.take (xs.length+1-1)=xs
  rw[Nat.add_sub_cancel,List.take_length]
theorem cD{rs:List Rz}(ok:OkZ rs)(hl:rs.length<=40){a:Tx}(ha:∃q∈rs,q.n=a):∃ls,JM [.d (.list (rs.map eZ)),.d (eT a)]=some (.list ((hsR rs.reverse a).tail.map eT),ls):=by
 let R:Option L:=some (.d (.list (rs.map eZ)))
 let T:Tx->Option L:=fun a=>some (.d (eT a))
 let M:List Tx->Option L:=fun l=>some (.m (l.map eT))
 let G:List Rz->Option L:=fun l=>some (.g (.dict (kvZ l)))
 let st:List Rz->Option L->DS:=fun l o=>[R,T a,G l,o,none]
 have lp:∃τ',Df (dN 3) (QJ 2 (AD 3) (dOp Ai (AD 3) (dC (.int 0)))) (rs.map eZ) (st [] none)=some (.nx τ')/\∃o,nM o/\τ'=st rs o:=by
  refine IH (fun pre τ=>∃o,nM o/\τ=st pre o) ⟨none,CM,rfl⟩ ?_
  rintro pre r post τ e ⟨o,ho,rfl⟩
  have hz:=F7 e
  refine⟨st pre (some (.d (eZ r))),st (pre++[r]) (some (.d (eZ r))),Em (o:=o) rfl ho,?_,_,C6,rfl⟩
  refine(YO (d:=eZ r) (x:=r.n.1) (kv0:=kvZ pre) (kvs:=kvZ pre) (τ1:=st pre (some (.d (eZ r)))) (τ2:=st pre (some (.d (eZ r)))) rfl rfl (op2 (x:=eZ r) (y:=.int 0) (τ1:=st pre (some (.d (eZ r)))) rfl rfl rfl) rfl (encZ.fix r) ?_).trans ?_
  ·rw[show(kvZ pre).length=pre.length from List.length_map ..];omega
  ·rw[aU (Vq ok e)];rfl
 obtain⟨τ',e1,o,ho,rfl⟩:=lp
 let C:DT:=AN (Qs false (AD 1) 2)
 let B:DB:=AY (C3 (dMt 4 Bs (AA (AD 1) AI))) (Am (dOp Ai (Qr 2 (AD 1)) (dC (.int 1))) (dN 1))
 let sw:Tx->List Tx->DS:=fun a l=>[R,T a,G rs,o,M l]
 have cT:∀b l,C (sw b l)=some ((Cq rs b).isSome,sw b l):=fun b l=>by
  refine tst ?_
  rw[bM (x:=b.1) (kvs:=kvZ rs) (τ1:=sw b l) rfl rfl,PY,Option.isSome_map]
 have wl:∀(ah post:List Rz) (b:Tx) (l:List Tx) (n:Nat),rs.reverse=post++ah->(b=t0\/∃q∈ah,q.n=b)->ah.length<n->l.length+ah.length<=60->∃b',dWh C B n (sw b l)=some (.nx (sw b' (l++hsR ah b))):=by
  have stop:∀(ah:List Rz) (l:List Tx) (n:Nat),OkR ah->0<n->∃b',dWh C B n (sw t0 l)=some (.nx (sw b' (l++hsR ah t0))):=fun ah l n oa hn=>by
   obtain⟨n,rfl⟩:∃m,n=m+1:=⟨n-1,by omega⟩
   refine⟨t0,?_⟩
   rw[PX oa,List.append_nil]
   refine fU (τ1:=sw t0 l) ?_
   rw[cT,VQ ok];rfl
  intro ah
  induction ah with
  |nil =>
   intro post b l n e hb hn _
   rcases hb with rfl|⟨q,hq,_⟩
   ·exact stop [] l n trivial (by omega)
   ·cases hq
  |cons r ah ih =>
   intro post b l n e hb hn hz
   have okr:OkR (r::ah):=(show OkR (post++r::ah) from e▸ok).suf
   rcases hb with rfl|⟨q,hq,hqb⟩
   ·exact stop (r::ah) l n okr (by omega)
   simp only[List.length_cons]at hn hz
   by_cases h:r.n=b
   ·obtain⟨n,rfl⟩:∃m,n=m+1:=⟨n-1,by omega⟩
    have hr:r∈rs:=List.mem_reverse.mp (e▸List.mem_append_right _ List.mem_cons_self)
    have hf:Cq rs b=some r:=h▸IW ok hr
    obtain⟨b',e2⟩:=ih (post++[r]) r.h (l++[b]) n (by rw[e];simp) okr.2.2.2 (by omega) (by rw[List.length_append];simp only[List.length_cons,List.length_nil];omega)
    refine⟨b',(fT (τ1:=sw b l) (τ2:=sw r.h (l++[b])) ?_ ?_).trans (e2.trans ?_)⟩
    ·rw[cT,hf];rfl
    ·have s1:C3 (dMt 4 Bs (AA (AD 1) AI)) (sw b l)=some (.nx (sw b (l++[b]))):=by
      refine(Vk (i:=4) (d:=eT b) (xs:=l.map eT) (τ1:=sw b l) rfl rfl (by rw[List.length_map];omega)).trans ?_
      show some (Out.nx [R,T b,G rs,o,some (.m (l.map eT++[eT b]))])=_
      rw[show l.map eT++[eT b]=(l++[b]).map eT by rw[List.map_append];rfl]
     exact(AV s1).trans (BI (d:=eT r.h) (τ1:=sw b (l++[b])) (op2 (x:=eZ r) (y:=.int 1) (τ1:=sw b (l++[b])) (bJ (x:=b.1) (kv0:=kvZ rs) (kvs:=kvZ rs) (τ1:=sw b (l++[b])) rfl rfl rfl (by rw[PY,hf];rfl)) rfl rfl) rfl)
    ·rw[show hsR (r::ah) b=b::hsR ah r.h from by rw[hsR,if_pos h],List.append_assoc]
     rfl
   ·have:∃q∈ah,q.n=b:=by
     rcases List.mem_cons.mp hq with rfl|hq
     ·exact absurd hqb h
     ·exact⟨q,hq,hqb⟩
    obtain⟨b',e2⟩:=ih (post++[r]) b l n (by rw[e];simp) (.inr this) (by omega) (by omega)
    refine⟨b',e2.trans ?_⟩
    rw[show hsR (r::ah) b=hsR ah b from by rw[hsR,if_neg h]]
 obtain⟨b',e2⟩:=wl rs.reverse [] a [] 100 rfl (.inr (let ⟨q,hq,e⟩:=ha;⟨q,List.mem_reverse.mpr hq,e⟩)) (by rw[List.length_reverse];omega) (by rw[List.length_reverse,List.length_nil];omega)
 rw[List.nil_append]at e2
 refine⟨[.d (.list (rs.map eZ)),.d (eT a)],?_⟩
 unfold JM
 let xs:=(hsR rs.reverse a).map eT
 refine A6 (τ:=sw b' (hsR rs.reverse a)) ?_ rfl rfl
 refine(AV (τ1:=st [] none) rfl).trans ((AV ((Hd (ds:=rs.map eZ) (τ1:=st [] none) rfl).trans e1)).trans ((AV (τ1:=sw a []) rfl).trans ((AV (τ1:=sw b' (hsR rs.reverse a)) (aB e2)).trans (Bp ?_))))
 rw[List.map_tail,<- jA]
 have hok:okM o=true:=GS ho
 refine Z1 (i:=4) (xs:=xs) rfl rfl ?_ ?_
 ·rw[jA,<- List.map_tail];exact encT.fixL _
 ·show(true&&(true&&(true&&(okM o&&(true&&true)))))=true
  rw[hok];rfl
def oZ:Option Rz->PyData
 |none=>.none
 |some r=>eZ r
theorem Vr(r:Rz):Cb [.d (eZ r)]=some (eT r.n,[.d (eZ r)]):=rfl
theorem Hj(r:Rz):Ay [.d (eZ r)]=some (eT r.h,[.d (eZ r)]):=rfl
theorem GQ(rs:List Rz)(a:Tx):∃ls,B4 [.d (.list (rs.map eZ)),.d (eT a)]=some (oZ (Cq rs a),ls):=by
 let R:Option L:=some (.d (.list (rs.map eZ)))
 let A:Option L:=some (.d (eT a))
 let B:DB:=A4 (AN (dOp fEq (AU Cb (AA (AD 2) AI)) (AD 1))) (A0 (AD 2)) A2
 have tt:∀r:Rz,AN (dOp fEq (AU Cb (AA (AD 2) AI)) (AD 1)) [R,A,some (.d (eZ r))]=some (decide (r.n=a),[R,A,some (.d (eZ r))]):=fun r =>
  tst (op2 (x:=eT r.n) (y:=eT a) (τ1:=[R,A,some (.d (eZ r))]) (AZ (τ1:=[R,A,some (.d (eZ r))]) (ds:=[eZ r]) rfl rfl (Vr r)) rfl (Ta _ _))
 have lp:∀(xs:List Rz) (o:Option L),nM o->(∀r,Cq xs a=some r->Df (dN 2) B (xs.map eZ) [R,A,o]=some (.rt (eZ r) [R,A,some (.d (eZ r))]))/\(Cq xs a=none->∃o',Df (dN 2) B (xs.map eZ) [R,A,o]=some (.nx [R,A,o'])):=by
  intro xs
  induction xs with
  |nil=>exact fun o ho=>⟨fun r h=>(by cases h),fun _=>⟨o,rfl⟩⟩
  |cons x xs ih =>
   intro o ho
   have e0:dN 2 (eZ x) [R,A,o]=some [R,A,some (.d (eZ x))]:=Em (o:=o) rfl ho
   have un:Df (dN 2) B ((x::xs).map eZ) [R,A,o]=(B [R,A,some (.d (eZ x))]).bind fun o=>match o with
     |.nx τ2=>Df (dN 2) B (xs.map eZ) τ2
     |.ct τ2=>Df (dN 2) B (xs.map eZ) τ2
     |.bk τ2=>some (.nx τ2)
     |.rt d τ2=>some (.rt d τ2):=by
    rw[List.map_cons,Df,e0];rfl
   by_cases h:x.n=a
   ·have eb:B [R,A,some (.d (eZ x))]=some (.rt (eZ x) [R,A,some (.d (eZ x))]):=(Je (τ1:=[R,A,some (.d (eZ x))]) (by rw[tt,decide_eq_true h])).trans rfl
    have ef:Cq (x::xs) a=some x:=by unfold Cq;rw[List.find?_cons,decide_eq_true h]
    refine⟨fun r hr=>?_,fun hn=>?_⟩
    ·rw[ef]at hr;cases hr
     rw[un,eb];rfl
    ·rw[ef]at hn;cases hn
   ·have eb:B [R,A,some (.d (eZ x))]=some (.nx [R,A,some (.d (eZ x))]):=(EC (τ1:=[R,A,some (.d (eZ x))]) (by rw[tt,decide_eq_false h])).trans rfl
    have ef:Cq (x::xs) a=Cq xs a:=by unfold Cq;rw[List.find?_cons,decide_eq_false h]
    obtain⟨i1,i2⟩:=ih (some (.d (eZ x))) C6
    rw[un,eb,ef]
    exact⟨i1,i2⟩
 obtain⟨l1,l2⟩:=lp rs none CM
 refine⟨[.d (.list (rs.map eZ)),.d (eT a)],?_⟩
 unfold B4
 cases h:Cq rs a with
 |some r=>exact A6 (τ:=[R,A,some (.d (eZ r))]) (Ic ((Hd (ds:=rs.map eZ) (τ1:=[R,A,none]) rfl).trans (l1 r h))) rfl rfl
 |none =>
  obtain⟨o',e⟩:=l2 h
  exact A6 (τ:=[R,A,o']) ((AV ((Hd (ds:=rs.map eZ) (τ1:=[R,A,none]) rfl).trans e)).trans rfl) rfl rfl
theorem ZF{rs:List Rz}(ok:OkZ rs){r:Rz}(hr:r∈rs):∃ls,MG [.d (.list (rs.map eZ)),.d (eT r.n)]=some (eZ r,ls):=by
 obtain⟨ls,e⟩:=GQ rs r.n
 rw[IW ok hr]at e
 let τ:DS:=[some (.d (.list (rs.map eZ))),some (.d (eT r.n)),some (.d (eZ r))]
 refine⟨[.d (.list (rs.map eZ)),.d (eT r.n)],?_⟩
 unfold MG
 exact A6 (τ:=τ) ((AV (τ1:=τ) (BI (AZ (τ1:=[some (.d (.list (rs.map eZ))),some (.d (eT r.n)),none]) (ds:=[.list (rs.map eZ),eT r.n]) rfl rfl e) rfl)).trans ((AV (τ1:=τ) ((EC (τ1:=τ) (tst (op2 (x:=eZ r) (y:=.none) (τ1:=τ) rfl rfl rfl))).trans rfl)).trans rfl)) rfl rfl
theorem Xk{rs:List Rz}(ok:OkZ rs)(hl:rs.length<=40){a:Tx}(ha:a=t0\/∃q∈rs,q.n=a):∃ls,Ei [.d (.list (rs.map eZ)),.d (eT a)]=some (.list ((hsR rs.reverse a).tail.map eT),ls):=by
 let R:Option L:=some (.d (.list (rs.map eZ)))
 let A:Option L:=some (.d (eT a))
 let M:List Tx->Option L:=fun l=>some (.m (l.map eT))
 let sw:Tx->List Tx->DS:=fun b l=>[R,A,M l,some (.d (oZ (Cq rs b)))]
 let C:DT:=Ci (AN (dOp Jz (AD 3) (dC .none))) (AN (dOp fNe (AU Ay (AA (AD 3) AI)) (dC (.str ""))))
 let B:DB:=AY (C3 (dMt 2 Bs (AA (AU Ay (AA (AD 3) AI)) AI))) (Am (AU B4 (AA (AD 0) (AA (AU Ay (AA (AD 3) AI)) AI))) (dN 3))
 have cN:∀b l,Cq rs b=none->C (sw b l)=some (false,sw b l):=fun b l h=>by
  have e:sw b l=[R,A,M l,some (.d .none)]:=by show[R,A,M l,some (.d (oZ (Cq rs b)))]=_;rw[h];rfl
  rw[e];rfl
 have cS:∀b l r,Cq rs b=some r->C (sw b l)=some (!decide (r.h=t0),sw b l):=fun b l r h=>by
  have e:sw b l=[R,A,M l,some (.d (eZ r))]:=by show[R,A,M l,some (.d (oZ (Cq rs b)))]=_;rw[h];rfl
  rw[e]
  exact(ZA (p:=true) (τ:=[R,A,M l,some (.d (eZ r))]) rfl (tst (op2 (x:=eT r.h) (y:=eT t0) (τ1:=[R,A,M l,some (.d (eZ r))]) (AZ (τ1:=[R,A,M l,some (.d (eZ r))]) (ds:=[eZ r]) rfl rfl (Hj r)) rfl (dU _ _)))).trans (by rw[Bool.true_and])
 have stop:∀(b:Tx) (l:List Tx) (n:Nat),0<n->(C (sw b l)=some (false,sw b l))->dWh C B n (sw b l)=some (.nx (sw b l)):=fun b l n hn h=>by
  obtain⟨n,rfl⟩:∃m,n=m+1:=⟨n-1,by omega⟩
  exact fU h
 have wl:∀(ah post:List Rz) (b:Tx) (l:List Tx) (n:Nat),rs.reverse=post++ah->(b=t0\/∃q∈ah,q.n=b)->ah.length<n->l.length+ah.length<=60->∃b',dWh C B n (sw b l)=some (.nx (sw b' (l++(hsR ah b).tail))):=by
  intro ah
  induction ah with
  |nil =>
   intro post b l n e hb hn _
   rcases hb with rfl|⟨q,hq,_⟩
   ·exact⟨t0,by rw[show(hsR [] t0).tail=[] from rfl,List.append_nil];exact stop _ _ _ (by omega) (cN _ _ (VQ ok))⟩
   ·cases hq
  |cons r ah ih =>
   intro post b l n e hb hn hz
   have okr:OkR (r::ah):=(show OkR (post++r::ah) from e▸ok).suf
   rcases hb with rfl|⟨q,hq,hqb⟩
   ·exact⟨t0,by rw[PX okr,List.tail_nil,List.append_nil];exact stop _ _ _ (by omega) (cN _ _ (VQ ok))⟩
   simp only[List.length_cons]at hn hz
   by_cases h:r.n=b
   ·have hr:r∈rs:=List.mem_reverse.mp (e▸List.mem_append_right _ List.mem_cons_self)
    have hf:Cq rs b=some r:=h▸IW ok hr
    rw[show(hsR (r::ah) b).tail=hsR ah r.h from by rw[hsR,if_pos h,List.tail_cons]]
    rcases okr.2.2.2 with hh|hh
    ·refine⟨b,?_⟩
     rw[hh,PX okr.1,List.append_nil]
     exact stop _ _ _ (by omega) (by rw[cS b l r hf,hh,decide_eq_true rfl];rfl)
    ·have hne:r.h≠t0:=fun z=>by
      obtain⟨q,hq,hz⟩:=hh
      exact(OkR.all okr.1 q hq).ne (hz.trans z)
     obtain⟨tl,htl⟩:=VN hh
     obtain⟨n,rfl⟩:∃m,n=m+1:=⟨n-1,by omega⟩
     obtain⟨b',e2⟩:=ih (post++[r]) r.h (l++[r.h]) n (by rw[e];simp) (.inr hh) (by omega) (by rw[List.length_append];simp only[List.length_cons,List.length_nil];omega)
     refine⟨b',(fT (τ1:=sw b l) (τ2:=sw r.h (l++[r.h])) ?_ ?_).trans (e2.trans ?_)⟩
     ·rw[cS b l r hf,decide_eq_false hne];rfl
     ·obtain⟨lf,ef⟩:=GQ rs r.h
      let s2:List Tx->DS:=fun l=>[R,A,M l,some (.d (eZ r))]
      have es:sw b l=s2 l:=by show[R,A,M l,some (.d (oZ (Cq rs b)))]=_;rw[hf];rfl
      rw[es]
      have hx:∀l,AU Ay (AA (AD 3) AI) (s2 l)=some (eT r.h,s2 l):=fun l=>AZ (τ1:=s2 l) (ds:=[eZ r]) rfl rfl (Hj r)
      have s1:C3 (dMt 2 Bs (AA (AU Ay (AA (AD 3) AI)) AI)) (s2 l)=some (.nx (s2 (l++[r.h]))):=by
       refine(Vk (i:=2) (d:=eT r.h) (xs:=l.map eT) (τ1:=s2 l) (acc (hx l) rfl) rfl (by rw[List.length_map];omega)).trans ?_
       show some (Out.nx [R,A,some (.m (l.map eT++[eT r.h])),some (.d (eZ r))])=_
       rw[show l.map eT++[eT r.h]=(l++[r.h]).map eT by rw[List.map_append];rfl]
      exact(AV s1).trans (BI (d:=oZ (Cq rs r.h)) (τ1:=s2 (l++[r.h])) (AZ (τ1:=s2 (l++[r.h])) (rs:=[.d (.list (rs.map eZ)),.d (eT r.h)]) (ds:=[.list (rs.map eZ),eT r.h]) (acc (τ1:=s2 (l++[r.h])) rfl (acc (hx _) rfl)) rfl ef) rfl)
     ·rw[htl,List.tail_cons,List.append_assoc]
      rfl
   ·have:∃q∈ah,q.n=b:=by
     rcases List.mem_cons.mp hq with rfl|hq
     ·exact absurd hqb h
     ·exact⟨q,hq,hqb⟩
    obtain⟨b',e2⟩:=ih (post++[r]) b l n (by rw[e];simp) (.inr this) (by omega) (by omega)
    refine⟨b',e2.trans ?_⟩
    rw[show hsR (r::ah) b=hsR ah b from by rw[hsR,if_neg h]]
 obtain⟨b',e2⟩:=wl rs.reverse [] a [] 100 rfl (ha.imp id fun⟨q,hq,e⟩=>⟨q,List.mem_reverse.mpr hq,e⟩) (by rw[List.length_reverse];omega) (by rw[List.length_reverse,List.length_nil];omega)
 rw[List.nil_append]at e2
 obtain⟨lf,ef⟩:=GQ rs a
 refine⟨[.d (.list (rs.map eZ)),.d (eT a)],?_⟩
 unfold Ei
 refine A6 (τ:=sw b' (hsR rs.reverse a).tail) ?_ rfl rfl
 exact(AV (τ1:=[R,A,M [],none]) rfl).trans ((AV (τ1:=sw a []) (BI (AZ (τ1:=[R,A,M [],none]) (rs:=[.d (.list (rs.map eZ)),.d (eT a)]) (ds:=[.list (rs.map eZ),eT a]) rfl rfl ef) rfl)).trans ((AV (τ1:=sw b' (hsR rs.reverse a).tail) (aB e2)).trans rfl))
theorem F5{α:Type}{enc:α->PyData}{xs:List α}{k:Int}(h0:0<=k)(h1:k<(xs.length:Int)):∃a,atI (xs.map enc) k=some (enc a)/\xs[k.toNat]?=some a:=by
 have hk:k.toNat<xs.length:=by omega
 refine⟨xs[k.toNat],?_,List.getElem?_eq_getElem hk⟩
 unfold atI ixN
 rw[List.length_map,if_pos h0,if_pos h1]
 simp[hk]
theorem du{α:Type}{enc:α->PyData}{xs:List α}(h:0<xs.length):∃a∈xs,atI (xs.map enc) (-1)=some (enc a):=by
 have hk:xs.length-1<xs.length:=by omega
 refine⟨xs[xs.length-1],List.getElem_mem hk,?_⟩
 unfold atI ixN
 rw[List.length_map,if_neg (by decide),if_pos (by omega)]
 show(xs.map enc)[((-1:Int)+(xs.length:Int)).toNat]?=_
 rw[show((-1:Int)+(xs.length:Int)).toNat=xs.length-1 by omega]
 simp[hk]
def KH:List Tx:=[kS 4,kS 5,kS 6,kS 7,kS 8,kS 9]
def KA:List Nat:=[0,1,2,3,0,3,4,5,6,7,8,9]
theorem Yd{τ:DS}:Li (AU Dm AI) (dPt (dC (.int 6))) Kw τ=some (.tuple (KH.map eT),τ):=rfl
theorem Xd{i:Nat}(hi:i<10):kS i∈KH↔4<=i:=by
 have:∀i:Fin 10,decide (kS i∈KH)=decide (4<=i.1):=∅
 have:=this ⟨i,hi⟩
 rwa [decide_eq_decide]at this
theorem inL(t:Tx)(ts:List Tx):fIn false (eT t) (.list (ts.map eT))=some (.bool (decide (t∈ts))) :=
 (encT.fIn t ts).trans (congrArg (fun b=>some (PyData.bool b)) (decide_eq_decide.mpr Iff.rfl))
theorem jb(t:Tx)(ts:List Tx):fIn true (eT t) (.list (ts.map eT))=some (.bool (!decide (t∈ts))) :=
 (encT.fNotIn t ts).trans (congrArg (fun b=>some (PyData.bool (!b))) (decide_eq_decide.mpr Iff.rfl))
theorem Ww{rs:List Rz}(ok:OkZ rs)(hl:rs.length<=40)(v:Int):∃(r:Rz) (w:Int) (ls:List L),HW [.d (.list (rs.map eZ)),.d (.int v)]=some (.tuple [eZ r,.int w],ls)/\OkRow r /\
  (r.h=t0\/∃q∈rs,q.n=r.h/\4<=kz q.d/\(hsR rs.reverse q.n).length<7)/\(kz r.d=8->∀q∈rs,q.n∈hsR rs.reverse r.h->kz q.d≠8):=by
 let D:PyData:=.list (rs.map eZ)
 let R:Option L:=some (.d D)
 let I:Int->Option L:=fun i=>some (.d (.int i))
 let T:Tx->Option L:=fun a=>some (.d (eT a))
 let M:List Tx->Option L:=fun l=>some (.m (l.map eT))
 obtain⟨nm,u,l1,e1,n1,n8,na⟩:=Xa v
 let p:Rz->Bool:=fun r=>decide (kS (kz r.d)∈KH)&&decide (((hsR rs.reverse r.n).length:Int)<7)
 let hsO:List Rz->List Tx:=fun l=>t0::(l.filter p).map (·.n)
 let ex:DS:=[none,none,none,none,none,none]
 let s3:List Tx->Option L->DS:=fun hs o4=>R::I u::T nm::M hs::o4::none::ex
 have lp:∃τ',Df (dN 4) (A4 (Ci (AN (dOp (fIn false) (dOp Ai (AD 4) (dC (.int 5))) (Li (AU Dm AI) (dPt (dC (.int 6))) Kw))) (AN (dOp fLt (BD B9 (AA (AU LF (AA (AD 0) (AA (dOp Ai (AD 4) (dC (.int 0))) AI))) AI)) (dC (.int 7))))) (C3 (dMt 3 Bs (AA (dOp Ai (AD 4) (dC (.int 0))) AI))) A2) (rs.map eZ) (s3 (hsO []) none)=some (.nx τ')/\∃o,nM o/\τ'=s3 (hsO rs) o:=by
  refine IH (fun pre τ=>∃o,nM o/\τ=s3 (hsO pre) o) ⟨none,CM,rfl⟩ ?_
  rintro pre r post τ e ⟨o,ho,rfl⟩
  have hz:=F7 e
  have hr:r∈rs:=ZD e
  let τ1:=s3 (hsO pre) (some (.d (eZ r)))
  obtain⟨lu,eu⟩:=eB ok hl (a:=r.n) (.inr ⟨r,hr,rfl⟩)
  have c1:AN (dOp (fIn false) (dOp Ai (AD 4) (dC (.int 5))) (Li (AU Dm AI) (dPt (dC (.int 6))) Kw)) τ1=some (decide (kS (kz r.d)∈KH),τ1) :=
   tst (op2 (x:=eT (kS (kz r.d))) (y:=.tuple (KH.map eT)) (τ1:=τ1) (op2 (x:=eZ r) (y:=.int 5) (τ1:=τ1) rfl rfl rfl) Yd (inT _ _))
  have c2:AN (dOp fLt (BD B9 (AA (AU LF (AA (AD 0) (AA (dOp Ai (AD 4) (dC (.int 0))) AI))) AI)) (dC (.int 7))) τ1=some (decide (((hsR rs.reverse r.n).length:Int)<7),τ1):=by
   refine tst (op2 (x:=.int ((hsR rs.reverse r.n).length:Int)) (y:=.int 7) (τ1:=τ1) (Gj (d:=.list ((hsR rs.reverse r.n).map eT)) (AZ (τ1:=τ1) (rs:=[.d D,.d (eT r.n)]) (ds:=[D,eT r.n]) (acc (τ1:=τ1) rfl (acc (τ1:=τ1) (op2 (x:=eZ r) (y:=.int 0) (τ1:=τ1) rfl rfl rfl) rfl)) rfl eu) ?_) rfl rfl)
   show some (PyData.int (((hsR rs.reverse r.n).map eT).length:Int))=_
   rw[List.length_map]
  have c:=ZA c1 c2
  refine⟨τ1,s3 (hsO (pre++[r])) (some (.d (eZ r))),Em (o:=o) rfl ho,?_,_,C6,rfl⟩
  cases hp:p r with
  |true =>
   refine(Je (τ1:=τ1) (c.trans (by rw[show(_&&_)=true from hp]))).trans ?_
   have hpl:(pre.filter p).length<=pre.length:=List.length_filter_le ..
   refine(Vk (i:=3) (d:=eT r.n) (xs:=(hsO pre).map eT) (τ1:=τ1) (acc (τ1:=τ1) (op2 (x:=eZ r) (y:=.int 0) (τ1:=τ1) rfl rfl rfl) rfl) rfl ?_).trans ?_
   ·rw[List.length_map]
    show((pre.filter p).map (·.n)).length+1<900
    rw[List.length_map];omega
   ·have:(hsO pre).map eT++[eT r.n]=(hsO (pre++[r])).map eT:=by
     show eT t0::((pre.filter p).map (·.n)).map eT++[eT r.n]=eT t0::(((pre++[r]).filter p).map (·.n)).map eT
     rw[List.filter_append,List.filter_cons,hp]
     simp
    show some (Out.nx (R::I u::T nm::some (.m ((hsO pre).map eT++[eT r.n]))::some (.d (eZ r))::none::ex))=_
    rw[this]
  |false =>
   refine(EC (τ1:=τ1) (c.trans (by rw[show(_&&_)=false from hp]))).trans ?_
   have:hsO (pre++[r])=hsO pre:=by
    show t0::((pre++[r]).filter p).map (·.n)=t0::(pre.filter p).map (·.n)
    rw[List.filter_append,List.filter_cons,hp]
    simp
   rw[this];rfl
 obtain⟨τ',e3,o4,ho4,rfl⟩:=lp
 generalize hhs:hsO rs=hs at e3
 have hs0:0<hs.length:=by rw[<- hhs];exact Nat.succ_pos _
 have hs1:hs.length<=41:=by
  rw[<- hhs]
  show((rs.filter p).map (·.n)).length+1<=41
  have hpl:(rs.filter p).length<=rs.length:=List.length_filter_le ..
  rw[List.length_map];omega
 have hsm:∀h∈hs,h=t0\/∃q∈rs,q.n=h/\4<=kz q.d/\(hsR rs.reverse q.n).length<7:=fun h hh=>by
  rw[<- hhs]at hh
  rcases List.mem_cons.mp hh with rfl|hh
  ·exact .inl rfl
  ·obtain⟨q,hq,rfl⟩:=List.mem_map.mp hh
   obtain⟨hq1,hq2⟩:=List.mem_filter.mp hq
   have hq2:(decide (kS (kz q.d)∈KH)&&decide (((hsR rs.reverse q.n).length:Int)<7))=true:=hq2
   rw[Bool.and_eq_true,decide_eq_true_eq,decide_eq_true_eq,Xd (NS _)]at hq2
   exact .inr ⟨q,hq1,rfl,hq2.1,by omega⟩
 have okm4:okM o4=true:=GS ho4
 let s5:Int->Option L->DS:=fun u o5=>R::I u::T nm::M hs::o4::o5::ex
 let b5:Int->Option L->DS:=fun u o5=>R::I u::T nm::some (.d (.list (hs.map eT)))::o4::o5::ex
 have hok:∀u o5,okM o5=true->(b5 u o5).all okM=true:=fun u o5 h=>by
  show(true&&(true&&(true&&(true&&(okM o4&&(okM o5&&true))))))=true
  rw[okm4,h];rfl
 have ln:∀u o5,BD B9 (AA (AD 3) AI) (b5 u o5)=some (.int (hs.length:Int),b5 u o5):=fun u o5=>by
  refine Gj (d:=.list (hs.map eT)) (τ1:=b5 u o5) rfl ?_
  show some (PyData.int ((hs.map eT).length:Int))=_
  rw[List.length_map]
 have n0:(0:Int)<(hs.length:Int):=by omega
 have k0:=Int.emod_nonneg u (show(hs.length:Int)≠0 by omega)
 have k1:=Int.emod_lt_of_pos u n0
 obtain⟨ha,ea,ha2⟩:=F5 (enc:=eT) (xs:=hs) k0 k1
 have ha3:ha∈hs:=List.mem_of_getElem? ha2
 have z4:Am (Gm 3 (dOp MU (AD 3) (dOp BQ (AD 1) (BD B9 (AA (AD 3) AI))))) (dN 5) (s5 u none)=some (.nx (s5 u (T ha))):=by
  refine BI (d:=eT ha) (τ1:=s5 u none) (Z0 (i:=3) (xs:=hs.map eT) rfl ?_ rfl (hok u none rfl)) rfl
  exact op2 (x:=.list (hs.map eT)) (y:=.int (u % (hs.length:Int))) (τ1:=b5 u none) rfl (op2 (x:=.int u) (y:=.int (hs.length:Int)) (τ1:=b5 u none) rfl (ln u none) (C7 n0)) ea
 have z5:∃h∈hs,A4 (Fh 3 (AN (dOp fEq (dOp BQ (dOp Bw (AD 1) (BD B9 (AA (AD 3) AI))) (dC (.int 2))) (dC (.int 0))))) (Am (Gm 3 (dOp MU (AD 3) (dUn He (dC (.int 1))))) (dN 5)) A2 (s5 u (T ha))=some (.nx (s5 u (T h))):=by
  have c:Fh 3 (AN (dOp fEq (dOp BQ (dOp Bw (AD 1) (BD B9 (AA (AD 3) AI))) (dC (.int 2))) (dC (.int 0)))) (s5 u (T ha))=some (decide (u / (hs.length:Int) % 2=0),s5 u (T ha)):=by
   refine Qu (i:=3) (xs:=hs.map eT) (τ1:=b5 u (T ha)) rfl (tst (op2 (x:=.int (u / (hs.length:Int) % 2)) (y:=.int 0) (τ1:=b5 u (T ha)) (op2 (x:=.int (u / (hs.length:Int))) (y:=.int 2) (τ1:=b5 u (T ha)) (op2 (x:=.int u) (y:=.int (hs.length:Int)) (τ1:=b5 u (T ha)) rfl (ln u _) (ED n0 (by omega))) rfl (C7 (by decide))) rfl (encI.fEq _ _))) (hok u _ rfl)
  by_cases h:u / (hs.length:Int) % 2=0
  ·obtain⟨hb,hb1,eb⟩:=du (enc:=eT) hs0
   refine⟨hb,hb1,(Je (τ1:=s5 u (T ha)) (by rw[c,decide_eq_true h])).trans ?_⟩
   refine BI (d:=eT hb) (τ1:=s5 u (T ha)) (Z0 (i:=3) (xs:=hs.map eT) rfl ?_ rfl (hok u _ rfl)) rfl
   exact op2 (x:=.list (hs.map eT)) (y:=.int (-1)) (τ1:=b5 u (T ha)) rfl rfl eb
  ·exact⟨ha,ha3,(EC (τ1:=s5 u (T ha)) (by rw[c,decide_eq_false h])).trans rfl⟩
 obtain⟨h,hh,z5⟩:=z5
 generalize hu2:u / (hs.length:Int) / 2=u2
 have z6:Am (Gm 3 (dOp Bw (dOp Bw (AD 1) (BD B9 (AA (AD 3) AI))) (dC (.int 2)))) (dN 1) (s5 u (T h))=some (.nx (s5 u2 (T h))):=by
  refine BI (d:=.int u2) (τ1:=s5 u (T h)) (Z0 (i:=3) (xs:=hs.map eT) rfl ?_ rfl (hok u _ rfl)) rfl
  rw[<- hu2]
  exact op2 (x:=.int (u / (hs.length:Int))) (y:=.int 2) (τ1:=b5 u (T h)) (op2 (x:=.int u) (y:=.int (hs.length:Int)) (τ1:=b5 u (T h)) rfl (ln u _) (ED n0 (by omega))) rfl (ED (by decide) (by decide))
 obtain⟨x,u3,l3,ex3,x0,x1⟩:=Kx u2
 obtain⟨y,u4,l4,ey4,y0,y1⟩:=Kx u3
 let s9:Int->Option L->Option L->Option L->Option L->Option L->Option L->DS:=fun u o6 o7 o8 o9 o10 o11=>[R,I u,T nm,M hs,o4,T h,o6,o7,o8,o9,o10,o11]
 have z7:Am (AU Ce (AA (AD 1) AI)) (dGT (BE (dN 6) (BE (dN 1) Cy))) (s9 u2 none none none none none none)=some (.nx (s9 u3 (I x) none none none none none)) :=
  BI (AZ (τ1:=s9 u2 none none none none none none) (rs:=[.d (.int u2)]) (ds:=[.int u2]) rfl rfl ex3) rfl
 have z8:Am (AU Ce (AA (AD 1) AI)) (dGT (BE (dN 7) (BE (dN 1) Cy))) (s9 u3 (I x) none none none none none)=some (.nx (s9 u4 (I x) (I y) none none none none)) :=
  BI (AZ (τ1:=s9 u3 (I x) none none none none none) (rs:=[.d (.int u3)]) (ds:=[.int u3]) rfl rfl ey4) rfl
 have m12:BQ (.int u4) (.int 12)=some (.int (u4 % 12)):=C7 (by decide)
 obtain⟨j,ej,ej2⟩:=F5 (enc:=fun i=>eT (kS i)) (xs:=KA) (k:=u4 % 12) (by omega) (by show u4 % 12<12;omega)
 have hj:j<10:=by
  have:=List.mem_of_getElem? ej2
  have q:∀i∈KA,i<10:=by decide
  exact q j this
 let t8:Nat->DS:=fun j=>s9 u4 (I x) (I y) (T (kS j)) none none none
 have z9:Am (dOp Ai (AU Dm AI) (dOp BQ (AD 1) (dC (.int 12)))) (dN 8) (s9 u4 (I x) (I y) none none none none)=some (.nx (t8 j)) :=
  BI (d:=eT (kS j)) (τ1:=s9 u4 (I x) (I y) none none none none) (op2 (x:=.tuple (KA.map fun i=>eT (kS i))) (y:=.int (u4 % 12)) (τ1:=s9 u4 (I x) (I y) none none none none) rfl (op2 (x:=.int u4) (y:=.int 12) (τ1:=s9 u4 (I x) (I y) none none none none) rfl rfl m12) ej) rfl
 have hup:h=t0\/∃q∈rs,q.n=h:=(hsm h hh).imp id fun⟨q,a,b,_⟩=>⟨q,a,b⟩
 obtain⟨lu,eu⟩:=eB ok hl hup
 let up:=hsR rs.reverse h
 let U:Option L:=some (.d (.list (up.map eT)))
 let ta:Nat->DS:=fun j=>s9 u4 (I x) (I y) (T (kS j)) U none none
 have za:Am (AU LF (AA (AD 0) (AA (AD 5) AI))) (dN 9) (t8 j)=some (.nx (ta j)) :=
  BI (AZ (τ1:=t8 j) (rs:=[.d D,.d (eT h)]) (ds:=[D,eT h]) rfl rfl eu) rfl
 let pt:Rz->Bool:=fun r=>decide (r.n∈up)&&decide (kS (kz r.d)=kS 8)
 have zb:∃j',j'<10/\(j'=8->rs.filter pt=[])/\A4 (Ci (AN (dOp fEq (AD 8) (dC (.str "tiles")))) (AN (dOp fNe (dLC 1 [9] (dIL (AD 0)) (dN 0) (Ci (AN (dOp (fIn false) (dOp Ai (AD 0) (dC (.int 0))) (AD 1))) (AN (dOp fEq (dOp Ai (AD 0) (dC (.int 5))) (dC (.str "tiles"))))) (AD 0)) (IZ AI)))) (Am (dC (.str "group")) (dN 8)) A2 (ta j)=some (.nx (ta j')):=by
  have c1:AN (dOp fEq (AD 8) (dC (.str "tiles"))) (ta j)=some (decide (kS j=kS 8),ta j):=tst (op2 (x:=eT (kS j)) (y:=eT (kS 8)) (τ1:=ta j) rfl rfl (Ta _ _))
  have lc:dLC 1 [9] (dIL (AD 0)) (dN 0) (Ci (AN (dOp (fIn false) (dOp Ai (AD 0) (dC (.int 0))) (AD 1))) (AN (dOp fEq (dOp Ai (AD 0) (dC (.int 5))) (dC (.str "tiles"))))) (AD 0) (ta j)=some (.list ((rs.filter pt).map eZ),ta j):=by
   refine lcg (enc:=eZ) (rs:=rs) (ex:=[U]) pt eZ rfl (by omega) rfl rfl (fun r hr=>?_) (fun r hr _=>rfl)
   let τ:DS:=[some (.d (eZ r)),U]
   exact ZA (τ:=τ) (tst (op2 (x:=eT r.n) (y:=.list (up.map eT)) (τ1:=τ) (op2 (x:=eZ r) (y:=.int 0) (τ1:=τ) rfl rfl rfl) rfl (inL _ _))) (tst (op2 (x:=eT (kS (kz r.d))) (y:=eT (kS 8)) (τ1:=τ) (op2 (x:=eZ r) (y:=.int 5) (τ1:=τ) rfl rfl rfl) rfl (Ta _ _)))
  have c2:AN (dOp fNe (dLC 1 [9] (dIL (AD 0)) (dN 0) (Ci (AN (dOp (fIn false) (dOp Ai (AD 0) (dC (.int 0))) (AD 1))) (AN (dOp fEq (dOp Ai (AD 0) (dC (.int 5))) (dC (.str "tiles"))))) (AD 0)) (IZ AI)) (ta j)=some (!decide (rs.filter pt=[]),ta j) :=
   tst (op2 (x:=.list ((rs.filter pt).map eZ)) (y:=.list (([]:List Rz).map eZ)) (τ1:=ta j) lc rfl (encZ.fNeL _ _))
  have c:=ZA c1 c2
  by_cases hc:(decide (kS j=kS 8)&&!decide (rs.filter pt=[]))=true
  ·exact⟨4,by decide,fun z=>absurd z (by decide),(Je (τ1:=ta j) (by rw[c,hc])).trans rfl⟩
  ·have hc:=Bool.eq_false_iff.mpr hc
   refine⟨j,hj,fun z=>?_,(EC (τ1:=ta j) (by rw[c,hc])).trans rfl⟩
   rw[z,decide_eq_true rfl,Bool.true_and,Bool.not_eq_false',decide_eq_true_eq]at hc
   exact hc
 obtain⟨k,hk,hk8,zb⟩:=zb
 generalize hsh:decide (u4 / 12 % 8>0)=sh
 let S:Option L:=some (.d (.bool sh))
 have zc:Am (dOp fGt (dOp BQ (dOp Bw (AD 1) (dC (.int 12))) (dC (.int 8))) (dC (.int 0))) (dN 10) (ta k)=some (.nx (s9 u4 (I x) (I y) (T (kS k)) U S none)):=by
  refine BI (d:=.bool sh) (τ1:=ta k) (op2 (x:=.int (u4 / 12 % 8)) (y:=.int 0) (τ1:=ta k) (op2 (x:=.int (u4 / 12)) (y:=.int 8) (τ1:=ta k) (op2 (x:=.int u4) (y:=.int 12) (τ1:=ta k) rfl rfl (ED (by decide) (by decide))) rfl (C7 (by decide))) rfl ?_) rfl
  rw[<- hsh];rfl
 obtain⟨d,w,ld,ed,kd,okd⟩:=Xw hk (u4 / 96)
 let tz:DS:=s9 w (I x) (I y) (T (kS k)) U S (some (.d (eD d)))
 have zd:Am (AU Bq (AA (AD 8) (AA (dOp Bw (AD 1) (dC (.int 96))) AI))) (dGT (BE (dN 11) (BE (dN 1) Cy))) (s9 u4 (I x) (I y) (T (kS k)) U S none)=some (.nx tz) :=
  BI (AZ (τ1:=s9 u4 (I x) (I y) (T (kS k)) U S none) (rs:=[.d (eT (kS k)),.d (.int (u4 / 96))]) (ds:=[eT (kS k),.int (u4 / 96)]) (acc (τ1:=s9 u4 (I x) (I y) (T (kS k)) U S none) rfl (acc (op2 (x:=.int u4) (y:=.int 96) (τ1:=s9 u4 (I x) (I y) (T (kS k)) U S none) rfl rfl (ED (by decide) (by decide))) rfl)) rfl ed) rfl
 refine⟨⟨nm,h,x,y,sh,d⟩,w,[.d D,.d (.int v)],?_,⟨n1,n8,na,x0,x1,y0,y1,okd⟩,hsm h hh,fun hd8 q hq hqu z=>?_⟩
 ·unfold HW
  refine A6 (τ:=tz) ?_ rfl rfl
  refine(AV (τ1:=R::I u::T nm::none::none::none::ex) (BI (AZ (τ1:=R::I v::none::none::none::none::ex) (rs:=[.d (.int v)]) (ds:=[.int v]) rfl rfl e1) rfl)).trans ?_
  refine(AV (τ1:=s3 (hsO []) none) rfl).trans ((AV ((Hd (ds:=rs.map eZ) (τ1:=s3 (hsO []) none) rfl).trans e3)).trans ?_)
  refine(AV z4).trans ((AV z5).trans ((AV z6).trans ((AV z7).trans ((AV z8).trans ((AV z9).trans ((AV za).trans ((AV zb).trans ((AV zc).trans ((AV zd).trans (Bp ?_))))))))))
  have ez:eZ ⟨nm,h,x,y,sh,d⟩ = .tuple [eT nm,eT h,.int x,.int y,.bool sh,eT (kS k),eD d]:=by rw[<- kd];rfl
  rw[ez];rfl
 ·have f:=hk8 (kd▸hd8)
  have : q ∈ rs.filter pt := List.mem_filter.mpr ⟨hq, by
   show(decide (q.n∈up)&&decide (kS (kz q.d)=kS 8))=true
   rw[decide_eq_true hqu,z,decide_eq_true rfl];rfl⟩
  rw[f]at this;cases this
theorem Wc{d1 d2:PyData}:∀(n:Nat) (a b:Int) (o:Option L),nM o->0<=a->0<=b->b.toNat<n->∃o',nM o' /\
  dWh (AN (dOp fNe (AD 3) (dC (.int 0)))) (AY (Am (dOp BQ (AD 2) (AD 3)) (dN 4)) (AY (Am (AD 3) (dN 2)) (Am (AD 4) (dN 3)))) n [some (.d d1),some (.d d2),some (.d (.int a)),some (.d (.int b)),o]=some (.nx [some (.d d1),some (.d d2),some (.d (.int (gI a b))),some (.d (.int 0)),o'])
 |0,a,b,o,_,_,_,h=>absurd h (Nat.not_lt_zero _)
 |n+1,a,b,o,ho,ha,hb,h=>by
  let st:Int->Int->Option L->DS:=fun x y z=>[some (.d d1),some (.d d2),some (.d (.int x)),some (.d (.int y)),z]
  have t:AN (dOp fNe (AD 3) (dC (.int 0))) (st a b o)=some (!decide (b=0),st a b o):=by
   show(((fNe (.int b) (.int 0)).map fun d=>(d,st a b o)).bind _)=_
   rw[encI.fNe];rfl
  unfold dWh
  rw[show AN (dOp fNe (AD 3) (dC (.int 0))) [some (.d d1),some (.d d2),some (.d (.int a)),some (.d (.int b)),o]=some (!decide (b=0),st a b o) from t]
  by_cases hz:b=0
  ·subst hz
   exact⟨o,ho,by rw[Yn ha];rfl⟩
  ·have hp:0<b:=by omega
   have md:=Int.emod_lt_of_pos a hp
   have mn:=Int.emod_nonneg a (show b≠0 by omega)
   obtain⟨o',ho',e⟩:=Wc (d1:=d1) (d2:=d2) n b (a % b) (some (.d (.int (a % b)))) C6 hb mn (by omega)
   refine⟨o',ho',?_⟩
   rw[decide_eq_false hz]
   have bd:AY (Am (dOp BQ (AD 2) (AD 3)) (dN 4)) (AY (Am (AD 3) (dN 2)) (Am (AD 4) (dN 3))) (st a b o)=some (.nx (st b (a % b) (some (.d (.int (a % b)))))):=by
    refine(AV (τ1:=st a b (some (.d (.int (a % b))))) (BI (d:=.int (a % b)) (τ1:=st a b o) ?_ (Em rfl ho))).trans rfl
    show((BQ (.int a) (.int b)).map fun d=>(d,st a b o))=_
    rw[C7 hp];rfl
   show((AY _ _ (st a b o)).bind _)=_
   rw[bd]
   show dWh _ _ n (st b (a % b) _)=_
   rw[<- bS ha hp]
   exact e
theorem Xm{t b:Int}(hb:0<b):DN [.d (.int t),.d (.int b)]=some (.int (gI t b),[.d (.int t),.d (.int b)]):=by
 obtain⟨o,ho,e⟩:=Wc (d1:=.int t) (d2:=.int b) (b.toNat+1) (Pz t) b none CM (Y2 t) (by omega) (Nat.lt_succ_self _)
 rw[bT]at e
 unfold DN
 refine A6 (τ:=[some (.d (.int t)),some (.d (.int b)),some (.d (.int (gI t b))),some (.d (.int 0)),o]) ?_ rfl rfl
 refine(AV (τ1:=[some (.d (.int t)),some (.d (.int b)),some (.d (.int (Pz t))),none,none]) rfl).trans ?_
 refine(AV (τ1:=[some (.d (.int t)),some (.d (.int b)),some (.d (.int (Pz t))),some (.d (.int b)),none]) ?_).trans ?_
 ·have:Pz b=b:=cO (by omega)
  show some (Out.nx [_,_,_,some (.d (.int (Pz b))),_])=_
  rw[this]
 ·exact(AV e).trans rfl
theorem bR{s:Cl}(h:OkF s):gI s.1 s.2=1:=by
 obtain⟨t,b,hb,rfl⟩:=h.red
 have hg:0<Int.gcd t b:=Int.gcd_pos_of_ne_zero_right _ (by omega)
 show((Int.gcd (t / (Int.gcd t b:Nat)) (b / (Int.gcd t b:Nat)):Nat):Int)=1
 rw[Int.gcd_ediv_gcd_ediv_gcd hg];rfl
theorem aA(x:Int):Ft [.d (.int x)]=some (.bool true,[.d (.int x)]):=rfl
theorem Dl{x a b:Int}(h1:a<=x)(h2:x<=b):BH [.d (.int x),.d (.int a),.d (.int b)]=some (.bool true,[.d (.int x),.d (.int a),.d (.int b)]):=by
 walk_at "a|BH,aA,h1,h2,decide_true"
theorem OC{x:Int}(h1:-60<=x)(h2:x<=60):CJ [.d (.int x)]=some (.bool true,[.d (.int x)]):=by
 have w:=Dl h1 h2
 walk_at "a|CJ,w"
theorem aP{s:Cl}(h:OkF s):∃ls,Jc [.d (ec s)]=some (.bool true,ls):=by
 have b1:=h.b1
 have lo:=h.lo
 have hi:=h.hi
 have dv:=Xm (t:=s.1) (b:=s.2) (by omega)
 rw[bR h]at dv
 let I:Int->Option L:=fun i=>some (.d (.int i))
 let τ:DS:=[some (.d (ec s)),I s.1,I s.2]
 refine⟨[.d (ec s)],?_⟩
 unfold Jc
 refine A6 (τ:=τ) ?_ rfl rfl
 refine(AV (τ1:=[some (.d (ec s)),none,none]) rfl).trans ((AV (τ1:=[some (.d (ec s)),I s.1,none]) rfl).trans ((AV (τ1:=τ) rfl).trans ((AV (τ1:=τ) rfl).trans (Bp ?_))))
 have c1:dOp fGe (AD 2) (dC (.int 1)) τ=some (.bool true,τ):=op2 (x:=.int s.2) (y:=.int 1) (τ1:=τ) rfl rfl (by show some (PyData.bool (decide (s.2≥1)))=_;rw[decide_eq_true (by omega)])
 have c2:C8 fLe fLe (dC (.int 0)) (AD 1) (AD 2) τ=some (.bool true,τ):=by
  walk_at "a|τ,I,lo,hi,decide_true"
 have c3:dOp fEq (AU DN (AA (AD 1) (AA (AD 2) AI))) (dC (.int 1)) τ=some (.bool true,τ):=op2 (x:=.int 1) (y:=.int 1) (τ1:=τ) (AZ (τ1:=τ) (rs:=[.d (.int s.1),.d (.int s.2)]) (ds:=[.int s.1,.int s.2]) rfl rfl dv) rfl (by rw[encI.fEq,decide_eq_true rfl])
 exact(FU c1).trans ((FU c2).trans c3)
theorem N2{s:Cl}(h:OkF s):∃ls,CC [.d (ec s)]=some (.bool true,ls):=by
 obtain⟨l1,e1⟩:=aP h
 have b2:=h.b2
 let τ:DS:=[some (.d (ec s))]
 refine⟨[.d (ec s)],?_⟩
 unfold CC
 refine A6 (τ:=τ) (Bp ((FU (AZ (τ1:=τ) (ds:=[ec s]) rfl rfl e1)).trans (op2 (x:=.int s.2) (y:=.int 1000) (τ1:=τ) rfl rfl ?_))) rfl rfl
 show some (PyData.bool (decide (s.2<=1000)))=_
 rw[decide_eq_true b2]
theorem OE{a b:Cl}(ha:OkF a)(hb:OkF b):∃ls,Cj [.d (ec a),.d (ec b)]=some (.bool true,ls):=by
 obtain⟨l1,e1⟩:=N2 ha
 obtain⟨l2,e2⟩:=N2 hb
 let τ:DS:=[some (.d (ec a)),some (.d (ec b))]
 refine⟨[.d (ec a),.d (ec b)],?_⟩
 unfold Cj
 exact A6 (τ:=τ) (Bp ((FU (AZ (τ1:=τ) (ds:=[ec a]) rfl rfl e1)).trans (AZ (τ1:=τ) (ds:=[ec b]) rfl rfl e2))) rfl rfl
def inB(al:Str)(c:Nat):Bool:=match Xl (.str ⟨#[c]⟩) (.str al) with
 |some (.bool b)=>b
 |_=>false
theorem gM{al:Str}{c:Nat}(h:inB al c=true):Xl (.str ⟨#[c]⟩) (.str al)=some (.bool true):=by
 unfold inB at h
 split at h
 ·rename_i b e;rw[e,h]
 ·cases h
theorem Yl:∀c∈alN.cps.toList,inB alN c=true:=∅
theorem fA:∀c∈alS.cps.toList,inB alS c=true:=∅
theorem iX:∀c∈alW.cps.toList,inB alW c=true:=∅
theorem iD:∀c∈alW.cps.toList,(P1 Kb ⟨#[c]⟩).isSome=true:=∅
theorem Yz{α:Type}:∀l:List α,Ka (l.map fun _=>PyData.bool true)=some (l.map fun _=>true)
 |[]=>rfl
 |a::l=>by
  rw[List.map_cons,Ka,Yz l];rfl
theorem Y0{α:Type}(l:List α):QC [.list (l.map fun _=>PyData.bool true)]=some (.bool true):=by
 show(Ka (l.map fun _=>PyData.bool true)).map _=_
 rw[Yz]
 show some (PyData.bool ((l.map fun _=>true).all id))=_
 rw[show((l.map fun _=>true).all id)=true by simp]
def eC(c:Nat):PyData:=.str ⟨#[c]⟩
theorem PR{t:Tx}(h:t.1.length<=100):B9 [eT t]=some (.int (t.1.length:Nat)):=by
 show(if t.1.length<=sizeLine then _ else _)=_
 rw[if_pos (sz (by omega))]
theorem RC{al:Str}{t:Tx}{lo hi:Int}(ha:IJ al t.1)(hal:∀c∈al.cps.toList,inB al c=true)(h1:lo<=(t.1.length:Nat))(h2:((t.1.length:Nat):Int)<=hi)(hz:t.1.length<=100) :
  ∃ls,Co [.d (eT t),.d (.str al),.d (.int lo),.d (.int hi)]=some (.bool true,ls):=by
 let A:Option L:=some (.d (.str al))
 let τ:DS:=[some (.d (eT t)),A,some (.d (.int lo)),some (.d (.int hi))]
 refine⟨[.d (eT t),.d (.str al),.d (.int lo),.d (.int hi)],?_⟩
 unfold Co
 refine A6 (τ:=τ) ?_ rfl rfl
 have ln:BD B9 (AA (AD 0) AI) τ=some (.int (t.1.length:Nat),τ):=Gj (d:=eT t) (τ1:=τ) rfl (PR hz)
 have c1:Bm (AN (C8 fLe fLe (AD 2) (BD B9 (AA (AD 0) AI)) (AD 3))) τ=some (false,τ):=by
  refine Gy (b:=true) (tst ?_)
  unfold C8
  show((BD B9 (AA (AD 0) AI) τ).bind _)=_
  rw[ln]
  walk_at "a|τ,A,h1,h2,decide_true"
 refine(AV (τ1:=τ) ((EC (τ1:=τ) (K5 (τ1:=τ) rfl c1)).trans rfl)).trans (Bp ?_)
 have lc:dLC 1 [1] (dIS (AD 0)) (dN 0) Ek (dOp Xl (AD 0) (AD 1)) τ=some (.list (t.1.cps.toList.map fun _=>PyData.bool true),τ):=by
  have := lcg (enc := eC) (rs := t.1.cps.toList) (τ := τ) (fr := [1]) (it := dIS (AD 0)) (ex := [A]) (c := Ek) (e := dOp Xl (AD 0) (AD 1)) (fun _ => true) (fun _ => .bool true) rfl (by show t.1.length <= 1000; omega) rfl rfl (fun r _ => rfl) (fun c hc _ =>
   op2 (x:=eC c) (y:=.str al) (τ1:=[some (.d (eC c)),A]) rfl rfl (gM (hal c (ha c hc))))
  rw[this,FN]
 exact Gj lc (Y0 _)
theorem Nc{t:Tx}(ha:IJ alN t.1)(h1:1<=t.1.length)(h2:t.1.length<=8):∃ls,Es [.d (eT t)]=some (.bool true,ls):=by
 obtain⟨l1,e1⟩:=RC (lo:=1) (hi:=8) ha Yl (by omega) (by omega) (by omega)
 refine⟨[.d (eT t)],?_⟩
 unfold Es
 exact A6 (τ:=[some (.d (eT t))]) (Bp (AZ (τ1:=[some (.d (eT t))]) (rs:=[.d (eT t),.d (.str alN),.d (.int 1),.d (.int 8)]) (ds:=[eT t,.str alN,.int 1,.int 8]) rfl rfl e1)) rfl rfl
theorem UZ{t:Tx}(ha:IJ alW t.1)(h2:t.1.length<=6):∃ls,E9 [.d (eT t)]=some (.bool true,ls):=by
 let τ:DS:=[some (.d (eT t))]
 refine⟨[.d (eT t)],?_⟩
 unfold E9
 refine A6 (τ:=τ) ?_ rfl rfl
 have c1:AN (dOp fGt (BD B9 (AA (AD 0) AI)) (dC (.int 6))) τ=some (false,τ):=by
  refine tst (op2 (x:=.int (t.1.length:Nat)) (y:=.int 6) (τ1:=τ) (Gj (d:=eT t) (τ1:=τ) rfl (PR (by omega))) rfl ?_)
  show some (PyData.bool (decide (((t.1.length:Nat):Int)>6)))=_
  rw[decide_eq_false (by omega)]
 refine(AV (τ1:=τ) ((EC (τ1:=τ) (K5 (τ1:=τ) rfl c1)).trans rfl)).trans (Bp ?_)
 have sg:∀c∈t.1.cps.toList,HR [.d (eC c)]=some (.bool true,[.d (eC c)]):=fun c hc=>by
  unfold HR
  refine A6 (τ:=[some (.d (eC c))]) (Bp ?_) rfl rfl
  show some (PyData.bool (P1 Kb ⟨#[c]⟩).isSome,_)=_
  rw[iD c (ha c hc)];rfl
 have lc:dLC 1 [] (dIS (AD 0)) (dN 0) Ek (AU HR (AA (AD 0) AI)) τ=some (.list (t.1.cps.toList.map fun _=>PyData.bool true),τ):=by
  have := lcg (enc := eC) (rs := t.1.cps.toList) (τ := τ) (fr := []) (it := dIS (AD 0)) (ex := []) (c := Ek) (e := AU HR (AA (AD 0) AI)) (fun _ => true) (fun _ => .bool true) rfl (by show t.1.length <= 1000; omega) rfl rfl (fun r _ => rfl) (fun c hc _ =>
   AZ (τ1:=[some (.d (eC c))]) (ds:=[eC c]) rfl rfl (sg c hc))
  rw[this,FN]
 exact Gj lc (Y0 _)
theorem QN{R:List Tx}{w:Nat}(r1:1<=R.length)(r8:R.length<=8)(w1:1<=w)(w8:w<=8)(h:∀r∈R,r.1.length=w/\IJ alS r.1):∃ls,DZ [.d (.tuple (R.map eT))]=some (.bool true,ls):=by
 let D:Option L:=some (.d (.tuple (R.map eT)))
 let τ:DS:=[D]
 refine⟨[.d (.tuple (R.map eT))],?_⟩
 unfold DZ
 refine A6 (τ:=τ) ?_ rfl rfl
 have hn:(1:Int)<=(R.length:Nat):=by omega
 have hn8:((R.length:Nat):Int)<=8:=by omega
 have ln:BD B9 (AA (AD 0) AI) τ=some (.int (R.length:Nat),τ):=Gj (d:=.tuple (R.map eT)) (τ1:=τ) rfl (by show some (PyData.int ((R.map eT).length:Nat))=_;rw[List.length_map])
 have c1:Bm (AN (C8 fLe fLe (dC (.int 1)) (BD B9 (AA (AD 0) AI)) (dC (.int 8)))) τ=some (false,τ):=by
  refine Gy (b:=true) (tst ?_)
  unfold C8
  rw[show dC (.int 1) τ=some (.int 1,τ) from rfl]
  dsimp only[Option.bind]
  rw[ln]
  walk_at "a|hn,hn8,decide_true"
 have lc:dLC 1 [] (dIT (AD 0)) (dN 0) Ek (AU Co (AA (AD 0) (AA (dC (.str "#.")) (AA (dC (.int 1)) (AA (dC (.int 8)) AI))))) τ=some (.list (R.map fun _=>PyData.bool true),τ):=by
  have := lcg (enc := eT) (rs := R) (τ := τ) (fr := []) (it := dIT (AD 0)) (ex := []) (c := Ek) (e := AU Co (AA (AD 0) (AA (dC (.str "#.")) (AA (dC (.int 1)) (AA (dC (.int 8)) AI))))) (fun _ => true) (fun _ => .bool true) rfl (by omega) rfl rfl (fun r _ => rfl) (fun r hr _ => by
   obtain⟨h1,h2⟩:=h r hr
   obtain⟨l1,e1⟩:=RC (lo:=1) (hi:=8) h2 fA (by omega) (by omega) (by omega)
   exact AZ (τ1:=[some (.d (eT r))]) (rs:=[.d (eT r),.d (.str alS),.d (.int 1),.d (.int 8)]) (ds:=[eT r,.str alS,.int 1,.int 8]) rfl rfl e1)
  rw[this,FN]
 have lc2:dLC 1 [0] (dIT (AD 0)) (dN 0) Ek (dOp fEq (BD B9 (AA (AD 0) AI)) (BD B9 (AA (dOp Ai (AD 1) (dC (.int 0))) AI))) τ=some (.list (R.map fun _=>PyData.bool true),τ):=by
  obtain⟨z,zs,rfl⟩:∃z zs,R=z::zs:=by
   cases R with
   |nil=>simp at r1
   |cons z zs=>exact⟨z,zs,rfl⟩
  have := lcg (enc := eT) (rs := z :: zs) (τ := τ) (fr := [0]) (it := dIT (AD 0)) (ex := [D]) (c := Ek) (e := dOp fEq (BD B9 (AA (AD 0) AI)) (BD B9 (AA (dOp Ai (AD 1) (dC (.int 0))) AI))) (fun _ => true) (fun _ => .bool true) rfl (by omega) rfl rfl (fun r _ => rfl) (fun r hr _ => by
   have h1:=(h r hr).1
   have h2:=(h z List.mem_cons_self).1
   let t:DS:=[some (.d (eT r)),D]
   obtain⟨a,ea,ha2⟩:=F5 (enc:=eT) (xs:=z::zs) (k:=0) (by decide) (by simp only[List.length_cons];omega)
   cases (Option.some.inj ha2)
   refine op2 (x:=.int (r.1.length:Nat)) (y:=.int (z.1.length:Nat)) (τ1:=t) (Gj (d:=eT r) (τ1:=t) rfl (PR (by omega))) (Gj (d:=eT z) (τ1:=t) (op2 (x:=.tuple ((z::zs).map eT)) (y:=.int 0) (τ1:=t) rfl rfl ea) (PR (by omega))) ?_
   rw[encI.fEq,h1,h2,decide_eq_true rfl])
  rw[this,FN]
 have c2:Bm (AN (BD QC (AA (dLC 1 [] (dIT (AD 0)) (dN 0) Ek (AU Co (AA (AD 0) (AA (dC (.str "#.")) (AA (dC (.int 1)) (AA (dC (.int 8)) AI)))))) AI))) τ=some (false,τ):=Gy (b:=true) (tst (Gj lc (Y0 _)))
 exact(AV (τ1:=τ) ((EC (τ1:=τ) (K5 (τ1:=τ) rfl c1)).trans rfl)).trans ((AV (τ1:=τ) ((EC (τ1:=τ) c2).trans rfl)).trans (Bp (Gj lc2 (Y0 _))))
def GF:Nat->Mir
 |0=>HS
 |1=>JL
 |2=>JJ
 |3=>FK
 |4=>HV
 |5=>HU
 |6=>GH
 |7=>JK
 |8=>GI
 |_=>HV
theorem aG{i:Nat}(hi:i<10):∀{l:List Nat},i∈l->(∀j∈l,j<10)->GP (l.map fun j=>((kS j).1,GF j)) (kS i).1=some (GF i)
 |[],h,_=>by cases h
 |j::l,h,hl=>by
  rw[List.map_cons,GP]
  by_cases e:j=i
  ·subst e;rw[if_pos rfl]
  ·rw[if_neg fun z=>e (LH (hl j List.mem_cons_self) hi (Subtype.ext z))]
   rcases List.mem_cons.mp h with z|z
   ·exact absurd z.symm e
   ·exact aG hi z fun k hk=>hl k (List.mem_cons_of_mem _ hk)
theorem ten{i:Nat}(hi:i<10):i∈[0,1,2,3,4,5,6,7,8,9]:=by
 have:∀i:Fin 10,i.1∈[0,1,2,3,4,5,6,7,8,9]:=by decide
 exact this ⟨i,hi⟩
theorem Vo{i:Nat}(hi:i<10):GP F6 (kS i).1=some (GF i):=aG (l:=[0,1,2,3,4,5,6,7,8,9]) hi (ten hi) (by decide)
theorem dS(d:Dz)(ok:Wv d):∃ls,GF (kz d) [.d (eD d)]=some (.bool true,ls):=by
 cases d with
 |plate w h a b =>
  obtain⟨w0,w1,h0,h1,oa,ob⟩:=ok
  obtain⟨lp,ep⟩:=OE oa ob
  have e1:=Dl w0 w1
  have e2:=Dl h0 h1
  let τ:DS:=[some (.d (eD (.plate w h a b)))]
  refine⟨[.d (eD (.plate w h a b))],?_⟩
  show HS _=_
  unfold HS
  refine A6 (τ:=τ) ?_ rfl rfl
  have c:=Gy (tst (AZ (G:=Cj) (a:=AA (dOp Ai (AD 0) (dC (.int 2))) (AA (dOp Ai (AD 0) (dC (.int 3))) AI)) (τ:=τ) (τ1:=τ) (rs:=[.d (ec a),.d (ec b)]) (ds:=[ec a,ec b]) rfl rfl ep))
  refine(AV (τ1:=τ) ((EC (τ1:=τ) (K5 (τ1:=τ) rfl c)).trans rfl)).trans (Bp ?_)
  exact(FU (AZ (τ1:=τ) (rs:=[.d (.int w),.d (.int 1),.d (.int 12)]) (ds:=[.int w,.int 1,.int 12]) rfl rfl e1)).trans (AZ (τ1:=τ) (rs:=[.d (.int h),.d (.int 1),.d (.int 12)]) (ds:=[.int h,.int 1,.int 12]) rfl rfl e2)
 |band w h a b =>
  obtain⟨w0,w1,h0,h1,oa,ob⟩:=ok
  obtain⟨lp,ep⟩:=OE oa ob
  have e1:=Dl w0 w1
  have e2:=Dl h0 h1
  let τ:DS:=[some (.d (eD (.band w h a b)))]
  refine⟨[.d (eD (.band w h a b))],?_⟩
  show JL _=_
  unfold JL
  refine A6 (τ:=τ) ?_ rfl rfl
  have c:=Gy (tst (AZ (G:=Cj) (a:=AA (dOp Ai (AD 0) (dC (.int 2))) (AA (dOp Ai (AD 0) (dC (.int 3))) AI)) (τ:=τ) (τ1:=τ) (rs:=[.d (ec a),.d (ec b)]) (ds:=[ec a,ec b]) rfl rfl ep))
  refine(AV (τ1:=τ) ((EC (τ1:=τ) (K5 (τ1:=τ) rfl c)).trans rfl)).trans (Bp ?_)
  exact(FU (AZ (τ1:=τ) (rs:=[.d (.int w),.d (.int (-12)),.d (.int 12)]) (ds:=[.int w,.int (-12),.int 12]) rfl rfl e1)).trans (AZ (τ1:=τ) (rs:=[.d (.int h),.d (.int (-12)),.d (.int 12)]) (ds:=[.int h,.int (-12),.int 12]) rfl rfl e2)
 |word t a b =>
  obtain⟨h6,ha,oa,ob⟩:=ok
  obtain⟨lp,ep⟩:=OE oa ob
  obtain⟨lt,et⟩:=UZ ha h6
  let τ:DS:=[some (.d (eD (.word t a b)))]
  refine⟨[.d (eD (.word t a b))],?_⟩
  show JJ _=_
  unfold JJ
  refine A6 (τ:=τ) (Bp ?_) rfl rfl
  exact(FU (τ1:=τ) rfl).trans ((FU (AZ (τ1:=τ) (rs:=[.d (eT t)]) (ds:=[eT t]) rfl rfl et)).trans (AZ (τ1:=τ) (rs:=[.d (ec a),.d (ec b)]) (ds:=[ec a,ec b]) rfl rfl ep))
 |stencil R a b =>
  obtain⟨r1,r8,⟨w,w1,w8,hr⟩,oa,ob⟩:=ok
  obtain⟨lp,ep⟩:=OE oa ob
  obtain⟨lt,et⟩:=QN r1 r8 w1 w8 hr
  let τ:DS:=[some (.d (eD (.stencil R a b)))]
  refine⟨[.d (eD (.stencil R a b))],?_⟩
  show FK _=_
  unfold FK
  refine A6 (τ:=τ) (Bp ?_) rfl rfl
  exact(FU (τ1:=τ) rfl).trans ((FU (AZ (τ1:=τ) (rs:=[.d (.tuple (R.map eT))]) (ds:=[.tuple (R.map eT)]) rfl rfl et)).trans (AZ (τ1:=τ) (rs:=[.d (ec a),.d (ec b)]) (ds:=[ec a,ec b]) rfl rfl ep))
 |group=>exact⟨_,rfl⟩
 |mask=>exact⟨_,rfl⟩
 |glass a =>
  obtain⟨lb,eb⟩:=N2 (show OkF a from ok)
  let τ:DS:=[some (.d (eD (.glass a)))]
  refine⟨[.d (eD (.glass a))],?_⟩
  show HU _=_
  unfold HU
  exact A6 (τ:=τ) (Bp ((FU (τ1:=τ) rfl).trans (AZ (τ1:=τ) (rs:=[.d (ec a)]) (ds:=[ec a]) rfl rfl eb))) rfl rfl
 |window w h x y =>
  obtain⟨w0,w1,h0,h1,x0,x1,y0,y1⟩:=ok
  have e1:=Dl w0 w1
  have e2:=Dl h0 h1
  have e3:=OC x0 x1
  have e4:=OC y0 y1
  let τ:DS:=[some (.d (eD (.window w h x y)))]
  refine⟨[.d (eD (.window w h x y))],?_⟩
  show GH _=_
  unfold GH
  refine A6 (τ:=τ) ?_ rfl rfl
  have c1:=Gy (tst (AZ (G:=CJ) (a:=AA (dOp Ai (AD 0) (dC (.int 2))) AI) (τ:=τ) (τ1:=τ) (rs:=[.d (.int x)]) (ds:=[.int x]) rfl rfl e3))
  have c2:=Gy (tst (AZ (G:=CJ) (a:=AA (dOp Ai (AD 0) (dC (.int 3))) AI) (τ:=τ) (τ1:=τ) (rs:=[.d (.int y)]) (ds:=[.int y]) rfl rfl e4))
  refine(AV (τ1:=τ) ((EC (τ1:=τ) (K5 (τ1:=τ) rfl (K5 c1 c2))).trans rfl)).trans (Bp ?_)
  exact(FU (AZ (τ1:=τ) (rs:=[.d (.int w),.d (.int 1),.d (.int 16)]) (ds:=[.int w,.int 1,.int 16]) rfl rfl e1)).trans (AZ (τ1:=τ) (rs:=[.d (.int h),.d (.int 1),.d (.int 16)]) (ds:=[.int h,.int 1,.int 16]) rfl rfl e2)
 |turn q f =>
  obtain⟨q0,q1⟩:=ok
  have e1:=Dl q0 q1
  let τ:DS:=[some (.d (eD (.turn q f)))]
  refine⟨[.d (eD (.turn q f))],?_⟩
  show JK _=_
  unfold JK
  exact A6 (τ:=τ) (Bp ((FU (τ1:=τ) rfl).trans ((FU (AZ (τ1:=τ) (rs:=[.d (.int q),.d (.int 0),.d (.int 3)]) (ds:=[.int q,.int 0,.int 3]) rfl rfl e1)).trans rfl))) rfl rfl
 |tiles a b x y =>
  obtain⟨a0,a1,b0,b1,x0,x1,y0,y1⟩:=ok
  have e1:=Dl a0 a1
  have e2:=Dl b0 b1
  have e3:=Dl x0 x1
  have e4:=Dl y0 y1
  let τ:DS:=[some (.d (eD (.tiles a b x y)))]
  refine⟨[.d (eD (.tiles a b x y))],?_⟩
  show GI _=_
  unfold GI
  refine A6 (τ:=τ) ?_ rfl rfl
  have c1:=Gy (tst (AZ (G:=BH) (a:=AA (dOp Ai (AD 0) (dC (.int 0))) (AA (dC (.int 1)) (AA (dC (.int 3)) AI))) (τ:=τ) (τ1:=τ) (rs:=[.d (.int a),.d (.int 1),.d (.int 3)]) (ds:=[.int a,.int 1,.int 3]) rfl rfl e1))
  have c2:=Gy (tst (AZ (G:=BH) (a:=AA (dOp Ai (AD 0) (dC (.int 1))) (AA (dC (.int 1)) (AA (dC (.int 3)) AI))) (τ:=τ) (τ1:=τ) (rs:=[.d (.int b),.d (.int 1),.d (.int 3)]) (ds:=[.int b,.int 1,.int 3]) rfl rfl e2))
  refine(AV (τ1:=τ) ((EC (τ1:=τ) (K5 (τ1:=τ) rfl (K5 c1 c2))).trans rfl)).trans (Bp ?_)
  exact(FU (AZ (τ1:=τ) (rs:=[.d (.int x),.d (.int (-20)),.d (.int 20)]) (ds:=[.int x,.int (-20),.int 20]) rfl rfl e3)).trans (AZ (τ1:=τ) (rs:=[.d (.int y),.d (.int (-20)),.d (.int 20)]) (ds:=[.int y,.int (-20),.int 20]) rfl rfl e4)
theorem Xj(d:Dz)(ok:Wv d):∃ls,Kl [.d (eT (kS (kz d))),.d (eD d)]=some (.bool true,ls):=by
 obtain⟨lf,ef⟩:=dS d ok
 let τ:DS:=[some (.d (eT (kS (kz d)))),some (.d (eD d))]
 refine⟨[.d (eT (kS (kz d))),.d (eD d)],?_⟩
 unfold Kl
 refine A6 (τ:=τ) (Bp ?_) rfl rfl
 have c2:b8 F6 (AD 0) τ=some (.bool true,τ):=by
  show some (PyData.bool (GP F6 (kS (kz d)).1).isSome,τ)=_
  rw[Vo (NS d)];rfl
 have c3:Gk "tuple" (AD 1) τ=some (.bool true,τ):=by cases d<;>rfl
 have c4:SR F6 (AD 0) (AA (AD 1) AI) τ=some (.bool true,τ):=by
  show((GP F6 (kS (kz d)).1).bind fun G=>AU G (AA (AD 1) AI) τ)=_
  rw[Vo (NS d)]
  exact AZ (G:=GF (kz d)) (a:=AA (AD 1) AI) (τ:=τ) (τ1:=τ) (rs:=[.d (eD d)]) (ds:=[eD d]) rfl rfl ef
 exact(FU (τ1:=τ) rfl).trans ((FU c2).trans ((FU c3).trans c4))
structure OkN(t:Tx):Prop where
 n1:1<=t.1.length
 n8:t.1.length<=8
 na:IJ alN t.1
theorem UG{r:Rz}(hh:r.h=t0\/OkN r.h):Ci (AN (dOp fNe (AU Ay (AA (AD 0) AI)) (dC (.str "")))) (Bm (AN (AU Es (AA (AU Ay (AA (AD 0) AI)) AI)))) [some (.d (eZ r))]=some (false,[some (.d (eZ r))]):=by
 let τ:DS:=[some (.d (eZ r))]
 have t1:AN (dOp fNe (AU Ay (AA (AD 0) AI)) (dC (.str ""))) τ=some (!decide (r.h=t0),τ):=tst (op2 (x:=eT r.h) (y:=eT t0) (τ1:=τ) rfl rfl (dU _ _))
 by_cases h:r.h=t0
 ·rw[decide_eq_true h]at t1
  unfold Ci
  rw[t1];rfl
 ·have hn:=hh.resolve_left h
  obtain⟨l3,e5⟩:=Nc hn.na hn.n1 hn.n8
  rw[decide_eq_false h]at t1
  exact(ZA t1 (Gy (tst (AZ (G:=Es) (a:=AA (AU Ay (AA (AD 0) AI)) AI) (τ:=τ) (τ1:=τ) (rs:=[.d (eT r.h)]) (ds:=[eT r.h]) rfl rfl e5)))).trans rfl
theorem Zk{r:Rz}(ok:OkRow r)(hh:r.h=t0\/OkN r.h):∃ls,GZ [.d (eZ r)]=some (.bool true,ls):=by
 obtain⟨l1,e1⟩:=Nc ok.na ok.n1 ok.n8
 obtain⟨l2,e2⟩:=Xj r.d ok.d
 have e3:=OC ok.x0 ok.x1
 have e4:=OC ok.y0 ok.y1
 let τ:DS:=[some (.d (eZ r))]
 refine⟨[.d (eZ r)],?_⟩
 unfold GZ
 refine A6 (τ:=τ) ?_ rfl rfl
 have c1:=Gy (tst (AZ (G:=Es) (a:=AA (AU Cb (AA (AD 0) AI)) AI) (τ:=τ) (τ1:=τ) (rs:=[.d (eT r.n)]) (ds:=[eT r.n]) rfl rfl e1))
 have c2:=UG hh
 have c3:=Gy (tst (AZ (G:=CJ) (a:=AA (AU ON (AA (AD 0) AI)) AI) (τ:=τ) (τ1:=τ) (rs:=[.d (.int r.x)]) (ds:=[.int r.x]) rfl rfl e3))
 have c4:=Gy (tst (AZ (G:=CJ) (a:=AA (AU Q3 (AA (AD 0) AI)) AI) (τ:=τ) (τ1:=τ) (rs:=[.d (.int r.y)]) (ds:=[.int r.y]) rfl rfl e4))
 refine(AV (τ1:=τ) rfl).trans ((AV (τ1:=τ) ((EC (τ1:=τ) c1).trans rfl)).trans ((AV (τ1:=τ) ((EC (τ1:=τ) c2).trans rfl)).trans ((AV (τ1:=τ) ((EC (τ1:=τ) (K5 c3 c4)).trans rfl)).trans (Bp ?_))))
 exact(FU (τ1:=τ) rfl).trans (AZ (τ1:=τ) (rs:=[.d (eT (kS (kz r.d))),.d (eD r.d)]) (ds:=[eT (kS (kz r.d)),eD r.d]) rfl rfl e2)
theorem orB{a b:DT}{τ:DS}{p q:Bool}(h:a τ=some (p,τ))(k:p=false->b τ=some (q,τ)):De a b τ=some (p||q,τ):=by
 unfold De
 rw[h]
 cases p with
 |true=>rfl
 |false=>exact(k rfl).trans rfl
theorem YD{a b:DT}{τ:DS}{p q:Bool}(h:a τ=some (p,τ))(k:p=true->b τ=some (q,τ)):Ci a b τ=some (p&&q,τ):=by
 unfold Ci
 rw[h]
 cases p with
 |false=>rfl
 |true=>exact(k rfl).trans rfl
theorem eqI(i j:Int):fEq (.int i) (.int j)=some (.bool (decide (i=j))):=encI.fEq i j
theorem cH{α:Type}(p:α->Bool):∀l:List α,Ka (l.map fun c=>PyData.bool (p c))=some (l.map p)
 |[]=>rfl
 |a::l=>by
  rw[List.map_cons,Ka,cH p l];rfl
theorem ifT{c:DT}{b:DB}{τ:DS}(h:c τ=some (true,τ)):AY (A4 c (A0 (dC (.bool false))) A2) b τ=some (.rt (.bool false) τ):=by
 unfold AY
 rw[Je h];rfl
theorem skT{c:DT}{a b:DB}{τ:DS}(h:c τ=some (false,τ)):AY (A4 c a A2) b τ=b τ:=AV ((EC h).trans rfl)
theorem tkT{c:DT}{a b:DB}{τ τ':DS}{d:PyData}(h:c τ=some (true,τ))(k:a τ=some (.rt d τ')):AY (A4 c a A2) b τ=some (.rt d τ'):=by
 unfold AY
 rw[Je h,k];rfl
theorem chB{F:PyData->PyData->Option PyData}{p:Int->Int->Bool}(hF:∀i j,F (.int i) (.int j)=some (.bool (p i j))){a b c:DX}{τ:DS}{i j k:Int}(h1:a τ=some (.int i,τ))(h2:b τ=some (.int j,τ))(h3:c τ=some (.int k,τ)):C8 F F a b c τ=some (.bool (p i j&&p j k),τ):=by
 unfold C8
 rw[h1,Option.bind_some,h2,Option.bind_some]
 dsimp only
 rw[hF,Option.bind_some]
 cases hp:p i j with
 |false=>rfl
 |true =>
  dsimp only
  rw[h3,Option.bind_some]
  dsimp only
  rw[hF];rfl
theorem LwI(x lo hi:Int):Bo [.d (.int x),.d (.int lo),.d (.int hi)]=some (.bool (decide (lo<=x)&&decide (x<=hi)),[.d (.int x),.d (.int lo),.d (.int hi)]):=by
 let τ:DS:=[some (.d (.int x)),some (.d (.int lo)),some (.d (.int hi))]
 unfold Bo
 exact A6 (τ:=τ) (Bp ((FU (τ1:=τ) rfl).trans ((FU (τ1:=τ) rfl).trans (chB (p:=fun i j=>decide (i<=j)) (fun _ _=>rfl) rfl rfl rfl)))) rfl rfl
theorem LwT{x lo hi:Int}(h1:lo<=x)(h2:x<=hi):Bo [.d (.int x),.d (.int lo),.d (.int hi)]=some (.bool true,[.d (.int x),.d (.int lo),.d (.int hi)]):=by rw[LwI,decide_eq_true h1,decide_eq_true h2];rfl
theorem cQ{al:Str}{t:Tx}{lo hi:Int}(ha:IJ al t.1)(hal:∀c∈al.cps.toList,inB al c=true)(h1:lo<=(t.1.length:Nat))(h2:((t.1.length:Nat):Int)<=hi)(hz:t.1.length<=100):Dq [.d (eT t),.d (.str al),.d (.int lo),.d (.int hi)]=some (.bool true,[.d (eT t),.d (.str al),.d (.int lo),.d (.int hi)]):=by
 let A:Option L:=some (.d (.str al))
 let τ:DS:=[some (.d (eT t)),A,some (.d (.int lo)),some (.d (.int hi))]
 unfold Dq
 refine A6 (τ:=τ) ?_ rfl rfl
 refine(skT (K5 (τ1:=τ) rfl (Gy (b:=true) (tst ((chB (p:=fun i j=>decide (i<=j)) (fun _ _=>rfl) (i:=lo) (j:=(t.1.length:Nat)) (k:=hi) rfl (Gj (d:=eT t) (τ1:=τ) rfl (PR hz)) rfl).trans (by rw[decide_eq_true h1,decide_eq_true h2];rfl)))))).trans (Bp ?_)
 have lc:=lcg (enc:=eC) (rs:=t.1.cps.toList) (τ:=τ) (fr:=[1]) (it:=dIS (AD 0)) (ex:=[A]) (c:=AN (dOp Wf (AD 0) (AD 1))) (e:=AD 0) (fun _=>false) eC rfl (by show t.1.length<=1000;omega) rfl rfl (fun c hc=>tst (op2 (x:=eC c) (y:=.str al) (τ1:=[some (.d (eC c)),A]) rfl rfl ((show Wf (eC c) (.str al)=some (.bool (!inB al c)) from rfl).trans (by rw[hal c (ha c hc)];rfl)))) (fun c _ _=>rfl)
 rw[show t.1.cps.toList.filter (fun _=>false)=[] by simp]at lc
 exact op2 (x:=.list []) (y:=.list []) (τ1:=τ) lc rfl rfl
theorem bU{s:Cl}(h:OkF s):frm s.1 s.2=s:=by
 unfold frm
 rw[bR h,Int.ediv_one,Int.ediv_one]
theorem X7{s:Cl}(h:OkF s):EW [.d (ec s)]=some (.bool true,[.d (ec s)]):=by
 let τ:DS:=[some (.d (ec s))]
 have b1:=h.b1
 have b2:=h.b2
 unfold EW
 refine A6 (τ:=τ) ?_ rfl rfl
 refine(skT (K5 (τ1:=τ) rfl (K5 (τ1:=τ) rfl (Gy (b:=true) (tst (AZ (τ1:=τ) (ds:=[.int s.2,.int 1,.int 1000]) rfl rfl (LwT b1 b2))))))).trans (Bp ?_)
 refine(FU (τ1:=τ) (AZ (τ1:=τ) (ds:=[.int s.1,.int 0,.int s.2]) rfl rfl (LwT h.lo h.hi))).trans ?_
 refine op2 (x:=ec (frm s.1 s.2)) (y:=ec s) (τ1:=τ) (AZ (τ1:=τ) (ds:=[.int s.1,.int s.2]) rfl rfl (bF (by omega) (by omega))) rfl ?_
 rw[bU h]
 exact(encC.fEq s s).trans (by rw[decide_eq_true rfl])
theorem X8{l:List PyData}{n:Nat}{a b:Cl}(ha:OkF a)(hb:OkF b)(e:fEq (.int (l.length:Nat)) (.int (n:Nat))=some (.bool true))(i2:Ai (.tuple l) (.int (-2))=some (ec a))(i1:Ai (.tuple l) (.int (-1))=some (ec b)):Cc [.d (.tuple l),.d (.int (n:Nat))]=some (.bool true,[.d (.tuple l),.d (.int (n:Nat))]):=by
 let τ:DS:=[some (.d (.tuple l)),some (.d (.int (n:Nat)))]
 unfold Cc
 exact A6 (τ:=τ) (Bp ((FU (τ1:=τ) (op2 (x:=.int (l.length:Nat)) (y:=.int (n:Nat)) (τ1:=τ) (Gj (d:=.tuple l) (τ1:=τ) rfl rfl) rfl e)).trans ((FU (τ1:=τ) (AZ (τ1:=τ) (ds:=[ec a]) (acc (op2 (x:=.tuple l) (y:=.int (-2)) (τ1:=τ) rfl rfl i2) rfl) rfl (X7 ha))).trans (AZ (τ1:=τ) (ds:=[ec b]) (acc (op2 (x:=.tuple l) (y:=.int (-1)) (τ1:=τ) rfl rfl i1) rfl) rfl (X7 hb))))) rfl rfl
theorem PV:∀ns:List Int,QA (ns.map PyData.int)=some ns
 |[]=>rfl
 |a::l=>by
  rw[List.map_cons,QA,PV l];rfl
theorem gu{R:List Tx}{w:Nat}(r1:1<=R.length)(r8:R.length<=8)(w1:1<=w)(w8:w<=8)(h:∀r∈R,r.1.length=w/\IJ alS r.1):Gb [.d (.tuple (R.map eT))]=some (.bool true,[.d (.tuple (R.map eT))]):=by
 let ns:List Int:=R.map fun _=>(w:Int)
 let S:PyData:=.list (ns.map .int)
 let τ:DS:=[some (.d (.tuple (R.map eT))),none]
 let τ2:DS:=[some (.d (.tuple (R.map eT))),some (.d S)]
 have ln:B9 [.tuple (R.map eT)]=some (.int (R.length:Nat)):=by show some (PyData.int ((R.map eT).length:Nat))=_;rw[List.length_map]
 have lS:B9 [S]=some (.int (R.length:Nat)):=by show some (PyData.int ((ns.map PyData.int).length:Nat))=_;rw[List.length_map,List.length_map]
 have hne:ns≠[]:=fun z=>by
  have:=congrArg List.length z
  rw[List.length_map,List.length_nil]at this
  omega
 have all:∀n∈ns,n=(w:Int):=fun n hn=>by obtain⟨_,_,rfl⟩:=List.mem_map.mp hn;rfl
 unfold Gb
 refine A6 (τ:=τ2) ?_ rfl rfl
 refine(skT (K5 (τ1:=τ) rfl (Gy (b:=true) (tst ((chB (p:=fun i j=>decide (i<j)) (fun _ _=>rfl) (i:=0) (j:=(R.length:Nat)) (k:=9) rfl (Gj (d:=.tuple (R.map eT)) (τ1:=τ) rfl ln) rfl).trans (by rw[decide_eq_true (by omega),decide_eq_true (by omega)];rfl)))))).trans ((AV (τ1:=τ2) (BI (d:=S) (τ1:=τ) ?_ rfl)).trans (Bp ?_))
 ·have := lcg (enc := eT) (rs := R) (τ := τ) (fr := []) (it := dIT (AD 0)) (ex := []) (c := AN (AU Dq (AA (AD 0) (AA (dC (.str "#.")) (AA (dC (.int 1)) (AA (dC (.int 8)) AI)))))) (e := BD B9 (AA (AD 0) AI)) (fun _ => true) (fun _ => PyData.int (w : Int)) rfl (by omega) rfl rfl (fun r hr => by
   obtain⟨e,ha⟩:=h r hr
   exact tst (AZ (τ1:=[some (.d (eT r))]) (rs:=[.d (eT r),.d (.str alS),.d (.int 1),.d (.int 8)]) (ds:=[eT r,.str alS,.int 1,.int 8]) rfl rfl (cQ ha fA (by omega) (by omega) (by omega)))) (fun r hr _=>Gj (d:=eT r) (τ1:=[some (.d (eT r))]) rfl (by rw[PR (by rw[(h r hr).1];omega),(h r hr).1]))
  refine this.trans ?_
  rw[FN]
  show some (PyData.list _,_)=some (PyData.list ((List.map (fun _=>(w:Int)) R).map PyData.int),_)
  rw[List.map_map];rfl
 ·refine(FU (τ1:=τ2) (op2 (x:=.int (R.length:Nat)) (y:=.int (R.length:Nat)) (τ1:=τ2) (Gj (d:=S) (τ1:=τ2) rfl lS) (Gj (d:=.tuple (R.map eT)) (τ1:=τ2) rfl ln) ((eqI _ _).trans (by rw[decide_eq_true rfl])))).trans ?_
  have mn:Yq [S]=some (.int (QQ ns)):=by
   show(QA (ns.map PyData.int)).bind _=_
   rw[PV]
   show(if ns=[] then none else _)=_
   rw[if_neg hne]
  have mx:Yr [S]=some (.int (QR ns)):=by
   show(QA (ns.map PyData.int)).bind _=_
   rw[PV]
   show(if ns=[] then none else _)=_
   rw[if_neg hne]
  exact op2 (x:=.int (QQ ns)) (y:=.int (QR ns)) (τ1:=τ2) (Gj (d:=S) (τ1:=τ2) rfl mn) (Gj (d:=S) (τ1:=τ2) rfl mx) ((eqI _ _).trans (by rw[all _ (PN hne).1,all _ (PQ hne).1,decide_eq_true rfl]))
def Ri:List (PyData×PyData):=[(.str "plate",(.tuple [(.int 1),(.int 12)])),(.str "band",(.tuple [(.int (-12)),(.int 12)])),(.str "window",(.tuple [(.int 1),(.int 16)])),(.str "tiles",(.tuple [(.int 1),(.int 3)]))]
theorem kqn{i j:Nat}(hi:i<10)(hj:j<10)(τ:DS):AN (dOp fEq (AD 0) (dC (eT (kS j)))) (some (.d (eT (kS i)))::τ)=some (decide (i=j),some (.d (eT (kS i)))::τ) :=
 tst (op2 (x:=eT (kS i)) (y:=eT (kS j)) (τ1:=some (.d (eT (kS i)))::τ) rfl rfl ((Ta _ _).trans (congrArg (fun b=>some (PyData.bool b)) (decide_eq_decide.mpr ⟨LH hi hj,fun z=>by rw[z]⟩))))
abbrev rC1:DT:=De (Bm (AN (AU Bo (AA (dOp Ai (AD 1) (dC (.int 0))) (AA (AD 3) (AA (AD 4) AI)))))) (Bm (AN (AU Bo (AA (dOp Ai (AD 1) (dC (.int 1))) (AA (AD 3) (AA (AD 4) AI))))))
abbrev rC2:DT:=De (AN (dOp fEq (AD 0) (dC (.str "plate")))) (AN (dOp fEq (AD 0) (dC (.str "band"))))
abbrev rA3:DB:=Am (Ot [(.str "window",(.int 60)),(.str "tiles",(.int 20))] (AD 0)) (dN 5)
abbrev rR3:DB:=A0 (C9 (AU Bo (AA (dOp Ai (AD 1) (dC (.int 2))) (AA (dUn He (AD 5)) (AA (AD 5) AI)))) (AU Bo (AA (dOp Ai (AD 1) (dC (.int 3))) (AA (dUn He (AD 5)) (AA (AD 5) AI)))))
def iF:DB:=AY (Yu 2 2 Ri) (AY (A4 (De (AN (Qs true (AD 0) 2)) (AN (dOp fNe (BD B9 (AA (AD 1) AI)) (dC (.int 4))))) (A0 (dC (.bool false))) A2) (AY (Am (Qr 2 (AD 0)) (dGT (BE (dN 3) (BE (dN 4) Cy)))) (AY (A4 rC1 (A0 (dC (.bool false))) A2) (AY (A4 rC2 (A0 (AU Cc (AA (AD 1) (AA (dC (.int 4)) AI)))) A2) (AY rA3 rR3)))))
def st0(k:Tx)(l:List PyData):DS:=[some (.d (eT k)),some (.d (.tuple l)),none,none,none,none]
def stW(i:Nat)(l:List PyData)(lo hi:Int)(o:Option L):DS:=[some (.d (eT (kS i))),some (.d (.tuple l)),some (.g (.dict Ri)),some (.d (.int lo)),some (.d (.int hi)),o]
theorem Qx{i:Nat}{a b lo hi:Int}{c d:PyData}(ha:lo<=a/\a<=hi)(hb:lo<=b/\b<=hi)(g:∀o,Qr 2 (AD 0) [some (.d (eT (kS i))),some (.d (.tuple [.int a,.int b,c,d])),some (.g (.dict Ri)),none,none,o]=some (.tuple [.int lo,.int hi],[some (.d (eT (kS i))),some (.d (.tuple [.int a,.int b,c,d])),some (.g (.dict Ri)),none,none,o]))
  (gi:Qs true (AD 0) 2 [some (.d (eT (kS i))),some (.d (.tuple [.int a,.int b,c,d])),some (.g (.dict Ri)),none,none,none]=some (.bool false,[some (.d (eT (kS i))),some (.d (.tuple [.int a,.int b,c,d])),some (.g (.dict Ri)),none,none,none])) :
  iF (st0 (kS i) [.int a,.int b,c,d])=AY (A4 rC2 (A0 (AU Cc (AA (AD 1) (AA (dC (.int 4)) AI)))) A2) (AY rA3 rR3) (stW i [.int a,.int b,c,d] lo hi none):=by
 let W:=stW i [.int a,.int b,c,d] lo hi none
 let G:DS:=[some (.d (eT (kS i))),some (.d (.tuple [.int a,.int b,c,d])),some (.g (.dict Ri)),none,none,none]
 exact(AV (τ1:=G) rfl).trans ((skT (K5 (τ1:=G) (tst gi) rfl)).trans ((AV (τ1:=W) (BI (g none) rfl)).trans (skT (K5 (τ1:=W) (Gy (b:=true) (tst (AZ (τ1:=W) (ds:=[.int a,.int lo,.int hi]) rfl rfl (LwT ha.1 ha.2)))) (Gy (b:=true) (tst (AZ (τ1:=W) (ds:=[.int b,.int lo,.int hi]) rfl rfl (LwT hb.1 hb.2))))))))
theorem RE{i:Nat}(hi2:i<2){a b lo hi:Int}{c d:Cl}(hc:OkF c)(hd:OkF d):AY (A4 rC2 (A0 (AU Cc (AA (AD 1) (AA (dC (.int 4)) AI)))) A2) (AY rA3 rR3) (stW i [.int a,.int b,ec c,ec d] lo hi none)=some (.rt (.bool true) (stW i [.int a,.int b,ec c,ec d] lo hi none)):=by
 let W:=stW i [.int a,.int b,ec c,ec d] lo hi none
 refine tkT ?_ (Bp (AZ (τ1:=W) (ds:=[.tuple [.int a,.int b,ec c,ec d],.int 4]) rfl rfl (X8 (n:=4) hc hd rfl rfl rfl)))
 have k0:=kqn (i:=i) (j:=0) (by omega) (by decide) [some (.d (.tuple [.int a,.int b,ec c,ec d])),some (.g (.dict Ri)),some (.d (.int lo)),some (.d (.int hi)),none]
 have k1:=kqn (i:=i) (j:=1) (by omega) (by decide) [some (.d (.tuple [.int a,.int b,ec c,ec d])),some (.g (.dict Ri)),some (.d (.int lo)),some (.d (.int hi)),none]
 refine(orB k0 fun _=>k1).trans ?_
 match i,hi2 with
 |0,_=>rfl
 |1,_=>rfl
theorem Vs{i:Nat}(hi6:i=6\/i=8){a b lo hi far c d:Int}(hc:-far<=c/\c<=far)(hd:-far<=d/\d<=far)(gf:Ot [(.str "window",(.int 60)),(.str "tiles",(.int 20))] (AD 0) (stW i [.int a,.int b,.int c,.int d] lo hi none)=some (.int far,stW i [.int a,.int b,.int c,.int d] lo hi none)) :
  AY (A4 rC2 (A0 (AU Cc (AA (AD 1) (AA (dC (.int 4)) AI)))) A2) (AY rA3 rR3) (stW i [.int a,.int b,.int c,.int d] lo hi none)=some (.rt (.bool true) (stW i [.int a,.int b,.int c,.int d] lo hi (some (.d (.int far))))):=by
 let W2:=stW i [.int a,.int b,.int c,.int d] lo hi (some (.d (.int far)))
 have k0:=kqn (i:=i) (j:=0) (by omega) (by decide) [some (.d (.tuple [.int a,.int b,.int c,.int d])),some (.g (.dict Ri)),some (.d (.int lo)),some (.d (.int hi)),none]
 have k1:=kqn (i:=i) (j:=1) (by omega) (by decide) [some (.d (.tuple [.int a,.int b,.int c,.int d])),some (.g (.dict Ri)),some (.d (.int lo)),some (.d (.int hi)),none]
 refine(skT ((orB k0 fun _=>k1).trans (by rw[decide_eq_false (by omega),decide_eq_false (by omega)];rfl))).trans ((AV (τ1:=W2) (BI gf rfl)).trans (Bp ((FU (τ1:=W2) (AZ (τ1:=W2) (ds:=[.int c,.int (-far),.int far]) rfl rfl (LwT hc.1 hc.2))).trans (AZ (τ1:=W2) (ds:=[.int d,.int (-far),.int far]) rfl rfl (LwT hd.1 hd.2)))))
theorem gx(d:Dz)(ok:Wv d):∃ls,IG [.d (eT (kS (kz d))),.d (eD d)]=some (.bool true,ls):=by
 have c:∀(i:Nat),i<10->∀(l:List PyData) (j:Nat),j<10->AN (dOp fEq (AD 0) (dC (eT (kS j)))) (st0 (kS i) l)=some (decide (i=j),st0 (kS i) l):=fun i hi l j hj=>kqn hi hj _
 have c1:∀(i:Nat),i<10->∀l,De (AN (dOp fEq (AD 0) (dC (.str "group")))) (AN (dOp fEq (AD 0) (dC (.str "mask")))) (st0 (kS i) l)=some (decide (i=4)||decide (i=9),st0 (kS i) l):=fun i hi l=>orB (c i hi l 4 (by decide)) fun _=>c i hi l 9 (by decide)
 have five:∀(i:Nat) (hi:i<10) (l:List PyData) {x1 x2 x3 x4 x5:DB} {r:DB},(i≠4/\i≠9/\i≠5/\i≠7/\i≠2/\i≠3)->AY (A4 (De (AN (dOp fEq (AD 0) (dC (.str "group")))) (AN (dOp fEq (AD 0) (dC (.str "mask"))))) x1 A2) (AY (A4 (AN (dOp fEq (AD 0) (dC (.str "glass")))) x2 A2) (AY (A4 (AN (dOp fEq (AD 0) (dC (.str "turn")))) x3 A2) (AY (A4 (AN (dOp fEq (AD 0) (dC (.str "word")))) x4 A2) (AY (A4 (AN (dOp fEq (AD 0) (dC (.str "stencil")))) x5 A2) r)))) (st0 (kS i) l)=r (st0 (kS i) l):=fun i hi l {x1 x2 x3 x4 x5 r} h =>
  (skT ((c1 i hi l).trans (by rw[decide_eq_false h.1,decide_eq_false h.2.1];rfl))).trans ((skT ((c i hi l 5 (by decide)).trans (by rw[decide_eq_false h.2.2.1]))).trans ((skT ((c i hi l 7 (by decide)).trans (by rw[decide_eq_false h.2.2.2.1]))).trans ((skT ((c i hi l 2 (by decide)).trans (by rw[decide_eq_false h.2.2.2.2.1]))).trans (skT ((c i hi l 3 (by decide)).trans (by rw[decide_eq_false h.2.2.2.2.2]))))))
 unfold IG
 cases d with
 |group=>exact⟨_,A6 (τ:=st0 (kS 4) []) (tkT (c1 4 (by decide) []) rfl) rfl rfl⟩
 |mask=>exact⟨_,A6 (τ:=st0 (kS 9) []) (tkT (c1 9 (by decide) []) rfl) rfl rfl⟩
 |glass a =>
  let τ:=st0 (kS 5) [ec a]
  exact⟨_,A6 (τ:=τ) ((skT (c1 5 (by decide) _)).trans (tkT (c 5 (by decide) _ 5 (by decide)) (Bp ((FU (τ1:=τ) rfl).trans (AZ (τ1:=τ) (ds:=[ec a]) rfl rfl (X7 ok)))))) rfl rfl⟩
 |turn q f =>
  let τ:=st0 (kS 7) [.int q,.bool f]
  exact⟨_,A6 (τ:=τ) ((skT (c1 7 (by decide) _)).trans ((skT (c 7 (by decide) _ 5 (by decide))).trans (tkT (c 7 (by decide) _ 7 (by decide)) (Bp ((FU (τ1:=τ) rfl).trans ((FU (τ1:=τ) (AZ (τ1:=τ) (ds:=[.int q,.int 0,.int 3]) rfl rfl (LwT ok.1 ok.2))).trans rfl)))))) rfl rfl⟩
 |word t a b =>
  let τ:=st0 (kS 2) [eT t,ec a,ec b]
  obtain⟨t6,ta,oa,ob⟩:=ok
  exact⟨_,A6 (τ:=τ) ((skT (c1 2 (by decide) _)).trans ((skT (c 2 (by decide) _ 5 (by decide))).trans ((skT (c 2 (by decide) _ 7 (by decide))).trans (tkT (c 2 (by decide) _ 2 (by decide)) (Bp ((FU (τ1:=τ) (AZ (τ1:=τ) (ds:=[.tuple [eT t,ec a,ec b],.int 3]) rfl rfl (X8 (n:=3) oa ob rfl rfl rfl))).trans (AZ (τ1:=τ) (rs:=[.d (eT t),.d (.str alW),.d (.int 0),.d (.int 6)]) (ds:=[eT t,.str alW,.int 0,.int 6]) rfl rfl (cQ ta iX (by omega) (by omega) (by omega))))))))) rfl rfl⟩
 |stencil R a b =>
  let τ:=st0 (kS 3) [.tuple (R.map eT),ec a,ec b]
  obtain⟨r1,r8,⟨w,w1,w8,hw⟩,oa,ob⟩:=ok
  exact⟨_,A6 (τ:=τ) ((skT (c1 3 (by decide) _)).trans ((skT (c 3 (by decide) _ 5 (by decide))).trans ((skT (c 3 (by decide) _ 7 (by decide))).trans ((skT (c 3 (by decide) _ 2 (by decide))).trans (tkT (c 3 (by decide) _ 3 (by decide)) (Bp ((FU (τ1:=τ) (AZ (τ1:=τ) (ds:=[.tuple [.tuple (R.map eT),ec a,ec b],.int 3]) rfl rfl (X8 (n:=3) oa ob rfl rfl rfl))).trans (AZ (τ1:=τ) (ds:=[.tuple (R.map eT)]) rfl rfl (gu r1 r8 w1 w8 hw))))))))) rfl rfl⟩
 |plate w h a b =>
  obtain⟨w1,w2,h1,h2,oa,ob⟩:=ok
  exact⟨_,A6 (τ:=stW 0 [.int w,.int h,ec a,ec b] 1 12 none) ((five 0 (by decide) [.int w,.int h,ec a,ec b] (by decide)).trans ((Qx (i:=0) ⟨w1,w2⟩ ⟨h1,h2⟩ (fun _=>rfl) rfl).trans (RE (by decide) oa ob))) rfl rfl⟩
 |band w h a b =>
  obtain⟨w1,w2,h1,h2,oa,ob⟩:=ok
  exact⟨_,A6 (τ:=stW 1 [.int w,.int h,ec a,ec b] (-12) 12 none) ((five 1 (by decide) [.int w,.int h,ec a,ec b] (by decide)).trans ((Qx (i:=1) ⟨w1,w2⟩ ⟨h1,h2⟩ (fun _=>rfl) rfl).trans (RE (by decide) oa ob))) rfl rfl⟩
 |window w h x y =>
  obtain⟨w1,w2,h1,h2,x1,x2,y1,y2⟩:=ok
  exact⟨_,A6 (τ:=stW 6 [.int w,.int h,.int x,.int y] 1 16 (some (.d (.int 60)))) ((five 6 (by decide) [.int w,.int h,.int x,.int y] (by decide)).trans ((Qx (i:=6) ⟨w1,w2⟩ ⟨h1,h2⟩ (fun _=>rfl) rfl).trans (Vs (.inl rfl) ⟨x1,x2⟩ ⟨y1,y2⟩ rfl))) rfl rfl⟩
 |tiles w h x y =>
  obtain⟨w1,w2,h1,h2,x1,x2,y1,y2⟩:=ok
  exact⟨_,A6 (τ:=stW 8 [.int w,.int h,.int x,.int y] 1 3 (some (.d (.int 20)))) ((five 8 (by decide) [.int w,.int h,.int x,.int y] (by decide)).trans ((Qx (i:=8) ⟨w1,w2⟩ ⟨h1,h2⟩ (fun _=>rfl) rfl).trans (Vs (.inr rfl) ⟨x1,x2⟩ ⟨y1,y2⟩ rfl))) rfl rfl⟩
structure OkL(r:Rz):Prop where
 c:OkRow { r with x:=0 }
 x0:-60<=r.x
 h:r.h=t0\/OkN r.h
theorem OkL.row{r:Rz}(h:OkL r)(hx:r.x<=60):OkRow r:=⟨h.c.n1,h.c.n8,h.c.na,h.x0,hx,h.c.y0,h.c.y1,h.c.d⟩
theorem OkL.of{r:Rz}(h:OkRow r)(hh:r.h=t0\/OkN r.h):OkL r:=⟨⟨h.n1,h.n8,h.na,by show(-60:Int)<=0;decide,by show(0:Int)<=60;decide,h.y0,h.y1,h.d⟩,h.x0,hh⟩
theorem jZ{r:Rz}(ok:OkL r):∃ls,Fv [.d (eZ r)]=some (.bool (decide (r.x<=60)),ls):=by
 let τ:DS:=[some (.d (eZ r)),some (.d (.str alN))]
 obtain⟨l1,e1⟩:=gx r.d ok.c.d
 have n1:1<=r.n.1.length:=ok.c.n1
 have n8:r.n.1.length<=8:=ok.c.n8
 have hn:Dq [.d (eT r.h),.d (.str alN),.d (.int 0),.d (.int 8)]=some (.bool true,[.d (eT r.h),.d (.str alN),.d (.int 0),.d (.int 8)]):=by
  rcases ok.h with h|h
  ·rw[h]
   exact cQ (fun c hc=>absurd hc (by show ¬c∈([]:List Nat);exact List.not_mem_nil)) Yl ∅ ∅ ∅
  ·have h1:=h.n1
   have h8:=h.n8
   exact cQ h.na Yl (by omega) (by omega) (by omega)
 have y0:-60<=r.y:=ok.c.y0
 have y1:r.y<=60:=ok.c.y1
 refine⟨[.d (eZ r)],?_⟩
 unfold Fv
 refine A6 (τ:=τ) ?_ rfl rfl
 refine(AV (τ1:=τ) rfl).trans ((skT (K5 (τ1:=τ) (Gy (b:=true) (tst (AZ (τ1:=τ) (rs:=[.d (eT r.n),.d (.str alN),.d (.int 1),.d (.int 8)]) (ds:=[eT r.n,.str alN,.int 1,.int 8]) rfl rfl (cQ ok.c.na Yl (by omega) (by omega) (by omega))))) (Gy (b:=true) (tst (AZ (τ1:=τ) (rs:=[.d (eT r.h),.d (.str alN),.d (.int 0),.d (.int 8)]) (ds:=[eT r.h,.str alN,.int 0,.int 8]) rfl rfl hn))))).trans ?_)
 have cx:Bm (AN (AU Bo (AA (dOp Ai (AD 0) (dC (.int 2))) (AA (dUn He (dC (.int 60))) (AA (dC (.int 60)) AI))))) τ=some (!decide (r.x<=60),τ):=Gy (tst ((AZ (τ1:=τ) (ds:=[.int r.x,.int (-60),.int 60]) rfl rfl (LwI r.x (-60) 60)).trans (by rw[decide_eq_true ok.x0];rfl)))
 by_cases hx:r.x<=60
 ·rw[decide_eq_true hx]at cx ⊢
  exact(skT (K5 (τ1:=τ) cx (K5 (τ1:=τ) (Gy (b:=true) (tst (AZ (τ1:=τ) (ds:=[.int r.y,.int (-60),.int 60]) rfl rfl (LwT y0 y1)))) rfl))).trans (Bp (AZ (τ1:=τ) (rs:=[.d (eT (kS (kz r.d))),.d (eD r.d)]) (ds:=[eT (kS (kz r.d)),eD r.d]) rfl rfl e1))
 ·rw[decide_eq_false hx]at cx ⊢
  exact ifT ((orB (q:=true) cx fun z=>nomatch z).trans rfl)
theorem jY{r:Rz}(ok:OkL r):∃ls,GZ [.d (eZ r)]=some (.bool (decide (r.x<=60)),ls):=by
 by_cases hx:r.x<=60
 ·rw[decide_eq_true hx]
  exact Zk (ok.row hx) ok.h
 rw[decide_eq_false hx]
 obtain⟨l1,e1⟩:=Nc ok.c.na ok.c.n1 ok.c.n8
 let τ:DS:=[some (.d (eZ r))]
 refine⟨[.d (eZ r)],?_⟩
 unfold GZ
 refine A6 (τ:=τ) ?_ rfl rfl
 have c1:=Gy (tst (AZ (G:=Es) (a:=AA (AU Cb (AA (AD 0) AI)) AI) (τ:=τ) (τ1:=τ) (rs:=[.d (eT r.n)]) (ds:=[eT r.n]) rfl rfl e1))
 have c2:=UG ok.h
 have cx:CJ [.d (.int r.x)]=some (.bool false,[.d (.int r.x)]):=by
  let τ:DS:=[some (.d (.int r.x)),some (.d (.int (-60))),some (.d (.int 60))]
  have e:BH [.d (.int r.x),.d (.int (-60)),.d (.int 60)]=some (.bool false,[.d (.int r.x),.d (.int (-60)),.d (.int 60)]):=by
   unfold BH
   exact A6 (τ:=τ) (Bp ((FU (τ1:=τ) rfl).trans ((chB (p:=fun i j=>decide (i<=j)) (fun _ _=>rfl) rfl rfl rfl).trans (by rw[decide_eq_false hx,Bool.and_false])))) rfl rfl
  unfold CJ
  exact A6 (τ:=[some (.d (.int r.x))]) (Bp (AZ (τ1:=[some (.d (.int r.x))]) (ds:=[.int r.x,.int (-60),.int 60]) rfl rfl e)) rfl rfl
 have c3:=Gy (tst (AZ (G:=CJ) (a:=AA (AU ON (AA (AD 0) AI)) AI) (τ:=τ) (τ1:=τ) (rs:=[.d (.int r.x)]) (ds:=[.int r.x]) rfl rfl cx))
 exact(AV (τ1:=τ) rfl).trans ((AV (τ1:=τ) ((EC (τ1:=τ) c1).trans rfl)).trans ((AV (τ1:=τ) ((EC (τ1:=τ) c2).trans rfl)).trans (ifT ((orB (q:=true) c3 fun z=>nomatch z).trans rfl))))
theorem Y4{c:DT}{n:Nat}{b r:DBX}{τ τ':DS}(h:c τ=some (true,τ')):Fm (xIf c (GO n) b) r τ=some (.inr n):=by
 unfold Fm xIf
 rw[h];rfl
theorem Vm{c:DT}{a r:DBX}{τ τ':DS}(h:c τ=some (false,τ')):Fm (xIf c a (xOf A2)) r τ=r τ':=by
 unfold Fm xIf
 rw[h];rfl
theorem Z3{b:DB}{r:DBX}{τ τ':DS}(h:b τ=some (.nx τ')):Fm (xOf b) r τ=r τ':=by
 unfold Fm xOf
 rw[h];rfl
theorem gz{b:DB}{r:DBX}{τ τ':DS}{d:PyData}(h:b τ=some (.rt d τ')):Fm (xOf b) r τ=some (.inl (.rt d τ')):=by
 unfold Fm xOf
 rw[h];rfl
theorem hJ{c:DT}{n:Nat}{p:Bool}{τ τ':DS}(h:c τ=some (p,τ')):xIf c (GO n) (xOf A2) τ=some (if p=true then .inr n else .inl (.nx τ')):=by
 unfold xIf
 rw[h]
 cases p<;>rfl
theorem Mm{m:Tx}:∀{a:List Rz} {n:Tx},m∈hsR a n->∃q∈a,q.n=m
 |[],_,h=>by cases h
 |r::a,n,h=>by
  rw[hsR]at h
  by_cases e:r.n=n
  ·rw[if_pos e]at h
   rcases List.mem_cons.mp h with z|z
   ·exact⟨r,List.mem_cons_self,e.trans z.symm⟩
   ·obtain⟨q,hq,hm⟩:=Mm z
    exact⟨q,List.mem_cons_of_mem _ hq,hm⟩
  ·rw[if_neg e]at h
   obtain⟨q,hq,hm⟩:=Mm h
   exact⟨q,List.mem_cons_of_mem _ hq,hm⟩
theorem OkRow.nm{r:Rz}(h:OkRow r):OkN r.n:=⟨h.n1,h.n8,h.na⟩
theorem jG{α:Type}(p:α->Bool)(l:List α):Wh [.list (l.map fun c=>PyData.bool (p c))]=some (.bool (l.any p)):=by
 show(Ka (l.map fun c=>PyData.bool (p c))).map _=_
 rw[cH]
 show some (PyData.bool ((l.map p).any id))=_
 rw[List.any_map];rfl
theorem Wa(q:Rz):∃ls,EV [.d (eZ q)]=some (.bool (decide (4<=kz q.d)),ls):=by
 let τ:DS:=[some (.d (eZ q))]
 refine⟨[.d (eZ q)],?_⟩
 unfold EV
 refine A6 (τ:=τ) (Bp (op2 (x:=eT (kS (kz q.d))) (y:=.tuple (KH.map eT)) (τ1:=τ) rfl rfl ?_)) rfl rfl
 rw[inT]
 exact congrArg (fun b=>some (PyData.bool b)) (decide_eq_decide.mpr (Xd (NS _)))
theorem Xi{rs:List Rz}(ok:OkZ rs){q:Rz}(hq:q∈rs):∃ls,Fu [.d (.list (rs.map eZ)),.d (eT q.n)]=some (.bool (decide (kz q.d=8)),ls):=by
 obtain⟨l1,e1⟩:=ZF ok hq
 let τ:DS:=[some (.d (.list (rs.map eZ))),some (.d (eT q.n))]
 refine⟨[.d (.list (rs.map eZ)),.d (eT q.n)],?_⟩
 unfold Fu
 refine A6 (τ:=τ) (Bp (op2 (x:=eT (kS (kz q.d))) (y:=eT (kS 8)) (τ1:=τ) (AZ (τ1:=τ) (rs:=[.d (eZ q)]) (ds:=[eZ q]) (ls:=[.d (eZ q)]) (acc (τ1:=τ) (AZ (τ1:=τ) (rs:=[.d (.list (rs.map eZ)),.d (eT q.n)]) (ds:=[.list (rs.map eZ),eT q.n]) rfl rfl e1) rfl) rfl rfl) rfl ?_)) rfl rfl
 rw[Ta]
 exact congrArg (fun b=>some (PyData.bool b)) (decide_eq_decide.mpr ⟨LH (NS _) (by decide),fun z=>by rw[z]⟩)
def tls(met:List Rz)(h:Tx):Bool:=(hsR met.reverse h).any fun t=>match Cq met t with|some q=>decide (kz q.d=8)|none=>false
def stp(met:List Rz)(r:Rz):Option Nat :=
 if r.x<=60 then
  if (Cq met r.n).isSome=true then some 1
  else if r.h=t0 then none
  else match Cq met r.h with
   |none=>some 2
   |some q=>if 4<=kz q.d then if 6<(hsR met.reverse r.h).length then some 3 else if kz r.d=8/\tls met r.h=true then some 4 else none else some 2
 else some 0
def ouX:Option Nat->PyData ⊕ Nat
 |some n=>.inr n
 |none=>.inl .none
def enX:N4->Option (PyData ⊕ Nat)
 |.inl (.nx _)=>some (.inl .none)
 |.inl (.rt d _)=>some (.inl d)
 |.inr n=>some (.inr n)
 |_=>none
theorem TY{np nl:Nat}{f:DBX}{ds:List PyData}{o:N4}{v:PyData ⊕ Nat}(h:f ((ds.map L.d).map some++List.replicate nl none)=some o)(hl:ds.length=np)(hv:enX o=some v):QK np nl f ds=some v:=by
 unfold QK
 rw[if_pos hl,h,Option.bind_some]
 cases o with
 |inr n=>exact hv
 |inl o=>cases o<;>exact hv
theorem Mn{rs:List Rz}{t:Tx}{q:Rz}(h:Cq rs t=some q):q∈rs/\q.n=t:=⟨List.mem_of_find?_eq_some h,of_decide_eq_true (p:=q.n=t) (List.find?_some (p:=fun r:Rz=>decide (r.n=t)) h)⟩
abbrev vC1:DT:=Bm (AN (AU GZ (AA (AD 1) AI)))
abbrev vC2:DT:=AN (dOp Jz (AU B4 (AA (AD 0) (AA (AU Cb (AA (AD 1) AI)) AI))) (dC .none))
abbrev vC3:DT:=AN (dOp fEq (AU Ay (AA (AD 1) AI)) (dC (.str "")))
abbrev vA4:DB:=Am (AU B4 (AA (AD 0) (AA (AU Ay (AA (AD 1) AI)) AI))) (dN 2)
abbrev vC5:DT:=De (AN (dOp Oh (AD 2) (dC .none))) (Bm (AN (AU EV (AA (AD 2) AI))))
abbrev vA6:DB:=Am (dOp Wg (IZ (AA (AU Ay (AA (AD 1) AI)) AI)) (AU Ei (AA (AD 0) (AA (AU Ay (AA (AD 1) AI)) AI)))) (dN 3)
theorem Y7{met:List Rz}{r:Rz}(ok:OkZ met)(okl:OkL r)(hl:met.length<=40):GG [.list (met.map eZ),eZ r]=some (ouX (stp met r)):=by
 let D:PyData:=.list (met.map eZ)
 let st:Option L->Option L->DS:=fun a b=>[some (.d D),some (.d (eZ r)),a,b]
 let τ0:=st none none
 obtain⟨lr,er⟩:=jY okl
 have c1:=Gy (tst (AZ (G:=GZ) (a:=AA (AD 1) AI) (τ:=τ0) (τ1:=τ0) (rs:=[.d (eZ r)]) (ds:=[eZ r]) rfl rfl er))
 unfold GG stp
 by_cases hx:r.x<=60
 case neg =>
  rw[decide_eq_false hx]at c1
  rw[if_neg hx]
  exact TY (Y4 (τ':=τ0) c1) rfl rfl
 rw[decide_eq_true hx]at c1
 rw[if_pos hx]
 obtain⟨l2,e2⟩:=GQ met r.n
 have c2:AN (dOp Jz (AU B4 (AA (AD 0) (AA (AU Cb (AA (AD 1) AI)) AI))) (dC .none)) τ0=some ((Cq met r.n).isSome,τ0) :=
  tst (op2 (x:=oZ (Cq met r.n)) (y:=.none) (τ1:=τ0) (AZ (τ1:=τ0) (rs:=[.d D,.d (eT r.n)]) (ds:=[D,eT r.n]) rfl rfl e2) rfl (by cases Cq met r.n<;>rfl))
 by_cases h1:(Cq met r.n).isSome=true
 case pos =>
  rw[h1]at c2
  rw[if_pos h1]
  exact TY ((Vm (τ':=τ0) c1).trans (Y4 (τ':=τ0) c2)) rfl rfl
 rw[if_neg h1]
 rw[Bool.not_eq_true]at h1
 rw[h1]at c2
 have c3:AN (dOp fEq (AU Ay (AA (AD 1) AI)) (dC (.str ""))) τ0=some (decide (r.h=t0),τ0):=tst (op2 (x:=eT r.h) (y:=eT t0) (τ1:=τ0) (AZ (τ1:=τ0) (ds:=[eZ r]) rfl rfl (Hj r)) rfl (Ta _ _))
 by_cases h:r.h=t0
 case pos =>
  rw[decide_eq_true h]at c3
  rw[if_pos h]
  exact TY ((Vm (τ':=τ0) c1).trans ((Vm (τ':=τ0) c2).trans (gz (τ':=τ0) (d:=.none) ((Je (τ1:=τ0) c3).trans rfl)))) rfl rfl
 rw[decide_eq_false h]at c3
 rw[if_neg h]
 obtain⟨l3,e3⟩:=GQ met r.h
 let τ1:=st (some (.d (oZ (Cq met r.h)))) none
 have hx:∀a b,AU Ay (AA (AD 1) AI) (st a b)=some (eT r.h,st a b):=fun a b=>AZ (τ1:=st a b) (ds:=[eZ r]) rfl rfl (Hj r)
 have z4:Am (AU B4 (AA (AD 0) (AA (AU Ay (AA (AD 1) AI)) AI))) (dN 2) τ0=some (.nx τ1):=BI (d:=oZ (Cq met r.h)) (τ1:=τ0) (AZ (τ1:=τ0) (rs:=[.d D,.d (eT r.h)]) (ds:=[D,eT r.h]) (ls:=l3) (acc (τ1:=τ0) rfl (acc (hx _ _) rfl)) rfl e3) rfl
 have pre:∀{Fs:DBX} {o:N4},Fs τ1=some o->Fm (xIf vC1 (GO 0) (xOf A2)) (Fm (xIf vC2 (GO 1) (xOf A2)) (Fm (xOf (A4 vC3 Me A2)) (Fm (xOf vA4) Fs))) τ0=some o:=fun {Fs o} k=>(Vm (τ':=τ0) c1).trans ((Vm (τ':=τ0) c2).trans ((Z3 (τ':=τ0) ((EC (τ1:=τ0) c3).trans rfl)).trans ((Z3 z4).trans k)))
 cases hq:Cq met r.h with
 |none =>
  refine TY (pre (Y4 (τ':=τ1) ?_)) rfl rfl
  show De (AN (dOp Oh (AD 2) (dC .none))) _ (st (some (.d (oZ (Cq met r.h)))) none)=some (true,st (some (.d (oZ (Cq met r.h)))) none)
  rw[hq];rfl
 |some q =>
  dsimp only
  obtain⟨hqm,hqn⟩:=Mn hq
  have e1:τ1=st (some (.d (eZ q))) none:=by show st (some (.d (oZ (Cq met r.h)))) none=_;rw[hq];rfl
  obtain⟨l4,e4⟩:=Wa q
  have c5:De (AN (dOp Oh (AD 2) (dC .none))) (Bm (AN (AU EV (AA (AD 2) AI)))) τ1=some (!decide (4<=kz q.d),τ1):=by
   rw[e1]
   exact orB (p:=false) rfl fun _=>Gy (tst (AZ (G:=EV) (a:=AA (AD 2) AI) (τ1:=st (some (.d (eZ q))) none) (rs:=[.d (eZ q)]) (ds:=[eZ q]) rfl rfl e4))
  by_cases h4:4<=kz q.d
  case neg =>
   rw[decide_eq_false h4]at c5
   rw[if_neg h4]
   exact TY (pre (Y4 (τ':=τ1) c5)) rfl rfl
  rw[decide_eq_true h4]at c5
  rw[if_pos h4]
  obtain⟨l5,e5⟩:=Xk ok hl (a:=r.h) (.inr ⟨q,hqm,hqn⟩)
  obtain⟨tl,htl⟩:=VN (a:=met.reverse) (n:=r.h) ⟨q,List.mem_reverse.mpr hqm,hqn⟩
  let H:PyData:=.list ((hsR met.reverse r.h).map eT)
  let τ2:=st (some (.d (oZ (Cq met r.h)))) (some (.d H))
  have hlen:=Q4 met.reverse r.h
  rw[List.length_reverse]at hlen
  have z6:Am (dOp Wg (IZ (AA (AU Ay (AA (AD 1) AI)) AI)) (AU Ei (AA (AD 0) (AA (AU Ay (AA (AD 1) AI)) AI)))) (dN 3) τ1=some (.nx τ2):=by
   refine BI (d:=H) (τ1:=τ1) (op2 (x:=.list [eT r.h]) (y:=.list ((hsR met.reverse r.h).tail.map eT)) (τ1:=τ1) ?_ (AZ (τ1:=τ1) (rs:=[.d D,.d (eT r.h)]) (ds:=[D,eT r.h]) (acc (τ1:=τ1) rfl (acc (hx _ _) rfl)) rfl e5) ?_) rfl
   ·unfold IZ
    rw[acc (hx _ _) rfl];rfl
   ·show(if [eT r.h].length+((hsR met.reverse r.h).tail.map eT).length<=sizeLine then some (PyData.list ([eT r.h]++(hsR met.reverse r.h).tail.map eT)) else none)=_
    rw[if_pos (sz (by rw[List.length_map,List.length_tail];simp only[List.length_cons,List.length_nil];omega))]
    show some (PyData.list _)=some (PyData.list _)
    rw[htl];rfl
  have c7:AN (dOp fGt (BD B9 (AA (AD 3) AI)) (dC (.int 6))) τ2=some (decide (6<(hsR met.reverse r.h).length),τ2):=by
   refine tst (op2 (x:=.int ((hsR met.reverse r.h).length:Nat)) (y:=.int 6) (τ1:=τ2) (Gj (d:=H) (τ1:=τ2) rfl (by show some (PyData.int (((hsR met.reverse r.h).map eT).length:Nat))=_;rw[List.length_map])) rfl ?_)
   show some (PyData.bool (decide ((((hsR met.reverse r.h).length:Nat):Int)>6)))=_
   exact congrArg (fun b=>some (PyData.bool b)) (decide_eq_decide.mpr (by omega))
  have pre2:∀{Fs:DBX} {o:N4},Fs τ2=some o->Fm (xIf vC1 (GO 0) (xOf A2)) (Fm (xIf vC2 (GO 1) (xOf A2)) (Fm (xOf (A4 vC3 Me A2)) (Fm (xOf vA4) (Fm (xIf vC5 (GO 2) (xOf A2)) (Fm (xOf vA6) Fs))))) τ0=some o:=fun {Fs o} k=>pre ((Vm (τ':=τ1) c5).trans ((Z3 z6).trans k))
  by_cases h6:6<(hsR met.reverse r.h).length
  case pos =>
   rw[decide_eq_true h6]at c7
   rw[if_pos h6]
   exact TY (pre2 (Y4 (τ':=τ2) c7)) rfl rfl
  rw[decide_eq_false h6]at c7
  rw[if_neg h6]
  have t1:AN (dOp fEq (AU DY (AA (AD 1) AI)) (dC (.str "tiles"))) τ2=some (decide (kz r.d=8),τ2):=tst (op2 (x:=eT (kS (kz r.d))) (y:=eT (kS 8)) (τ1:=τ2) rfl rfl ((Ta _ _).trans (congrArg (fun b=>some (PyData.bool b)) (decide_eq_decide.mpr ⟨LH (NS _) (by decide),fun z=>by rw[z]⟩))))
  have c8:Ci (AN (dOp fEq (AU DY (AA (AD 1) AI)) (dC (.str "tiles")))) (AN (BD Wh (AA (dLC 1 [0] (dIL (AD 3)) (dN 0) Ek (AU Fu (AA (AD 1) (AA (AD 0) AI)))) AI))) τ2=some (decide (kz r.d=8)&&tls met r.h,τ2):=by
   refine YD t1 fun _=>tst (Gj (d:=.list ((hsR met.reverse r.h).map fun t=>PyData.bool (match Cq met t with|some q=>decide (kz q.d=8)|none=>false))) (τ1:=τ2) ?_ (jG _ _))
   have := lcg (enc := eT) (rs := hsR met.reverse r.h) (τ := τ2) (fr := [0]) (it := dIL (AD 3)) (ex := [some (.d D)]) (c := Ek) (e := AU Fu (AA (AD 1) (AA (AD 0) AI))) (fun _ => true) (fun t => PyData.bool (match Cq met t with | some q => decide (kz q.d = 8) | none => false)) rfl (by omega) rfl rfl (fun _ _ => rfl) (fun m hm _ => by
    obtain⟨p,hp,rfl⟩:=Mm hm
    have hp':=List.mem_reverse.mp hp
    obtain⟨lt,et⟩:=Xi ok hp'
    rw[IW ok hp']
    exact AZ (τ1:=[some (.d (eT p.n)),some (.d D)]) (rs:=[.d D,.d (eT p.n)]) (ds:=[D,eT p.n]) rfl rfl et)
   rw[this,FN]
  refine TY (pre2 ((Vm (τ':=τ2) c7).trans (hJ c8))) rfl ?_
  by_cases h8:kz r.d=8/\tls met r.h=true
  ·rw[if_pos h8,h8.2,decide_eq_true h8.1];rfl
  ·rw[if_neg h8]
   have:(decide (kz r.d=8)&&tls met r.h)=false:=by
    rw[Bool.eq_false_iff]
    intro z
    rw[Bool.and_eq_true]at z
    exact h8 ⟨of_decide_eq_true z.1,z.2⟩
   rw[this];rfl
theorem dh(xs:List PyData)(k:Nat):Vf xs none (some (k:Int))=xs.take k:=by
 unfold Vf
 have e:HT.sIx xs.length xs.length (some (k:Int))=min k xs.length:=by
  show(if (k:Int)<0 then ((k:Int)+(xs.length:Int)).toNat else min (k:Int).toNat xs.length)=_
  rw[if_neg (by omega),Int.toNat_natCast]
 rw[e]
 show(xs.drop 0).take (min k xs.length-0)=_
 rw[List.drop_zero,Nat.sub_zero,List.take_eq_take_iff]
 omega
def goF(met:List Rz):List Rz->Option Nat
 |[]=>none
 |r::rs=>match stp met r with
  |some n=>some n
  |none=>goF (met++[r]) rs
def Ts(rs:List Rz):Option Nat:=match goF [] rs with
 |some n=>some n
 |none=>if 24<rs.length then some 5 else none
theorem aO{met:List Rz}{r:Rz}(ok:OkZ met)(okl:OkL r)(h:stp met r=none):OkZ (met++[r]):=by
 show OkR (met++[r]).reverse
 rw[List.reverse_append]
 show OkR met.reverse/\OkRow r/\(∀q∈met.reverse,q.n≠r.n)/\(r.h=t0\/∃q∈met.reverse,q.n=r.h)
 unfold stp at h
 split at h
 ·rename_i hx
  refine⟨ok,okl.row hx,?_⟩
  split at h
  ·cases h
  ·rename_i h1
   refine⟨fun q hq e=>h1 ?_,?_⟩
   ·rw[<- e,IW ok (List.mem_reverse.mp hq)];rfl
   ·split at h
    ·rename_i h0;exact .inl h0
    ·split at h
     ·cases h
     ·rename_i q hq
      obtain⟨h2,h3⟩:=Mn hq
      exact .inr ⟨q,List.mem_reverse.mpr h2,h3⟩
 ·cases h
def vG:DG:=dGT (BE (dN 1) (BE (dN 2) Cy))
def vB:DBX:=SQ GG (AA (dSl (AD 0) Kw (dPt (AD 1))) (AA (AD 2) AI))
def ouL(D:PyData)(a b:Option L):Option Nat->N4
 |some n=>.inr n
 |none=>.inl (.nx [some (.d D),a,b])
theorem aC{rs:List Rz}(hl:rs.length<=40):∀(post pre:List Rz) (a b:Option L),nM a->nM b->rs=pre++post->OkZ pre->(∀r∈post,OkL r)->∃a' b',N7 vG vB (MV pre.length (post.map eZ)) [some (.d (.list (rs.map eZ))),a,b]=some (ouL (.list (rs.map eZ)) a' b' (goF pre post)):=by
 intro post
 induction post with
 |nil=>exact fun pre a b _ _ _ _ _=>⟨a,b,rfl⟩
 |cons r post ih =>
  intro pre a b ha hb e ok h
  have okl:=h r List.mem_cons_self
  let D:PyData:=.list (rs.map eZ)
  let st:Option L->Option L->DS:=fun a b=>[some (.d D),a,b]
  let t:=st (some (.d (.int (pre.length:Nat)))) (some (.d (eZ r)))
  have g1:vG (.tuple [.int (pre.length:Nat),eZ r]) (st a b)=some t:=by
   show(dN 1 (.int (pre.length:Nat)) (st a b)).bind _=_
   rw[Em (o:=a) rfl ha]
   show(dN 2 (eZ r) (st (some (.d (.int (pre.length:Nat)))) b)).bind _=_
   rw[Em (o:=b) rfl hb];rfl
  have sl:dSl (AD 0) Kw (dPt (AD 1)) t=some (.list (pre.map eZ),t):=by
   show some (PyData.list (Vf (rs.map eZ) none (some ((pre.length:Nat):Int))),t)=_
   rw[dh,e,List.map_append,List.take_left' (by rw[List.length_map])]
  have pl:pre.length<=40:=by rw[e,List.length_append]at hl;omega
  have b1:vB t=some (match ouX (stp pre r) with|.inl _=>.inl (.nx t)|.inr n=>.inr n):=by
   unfold vB SQ
   rw[acc sl rfl]
   show Option.map _ (GG [PyData.list (pre.map eZ),eZ r])=_
   rw[Y7 ok okl pl];rfl
  rw[List.map_cons,MV,N7]
  rw[g1,Option.bind_some,b1,Option.bind_some,goF]
  cases hs:stp pre r with
  |some n=>exact⟨none,none,rfl⟩
  |none =>
   dsimp only[ouX]
   have:=ih (pre++[r]) (some (.d (.int (pre.length:Nat)))) (some (.d (eZ r))) C6 C6 (by rw[e];simp) (aO ok okl hs) fun q hq=>h q (List.mem_cons_of_mem _ hq)
   rw[List.length_append]at this
   exact this
theorem hU{rs:List Rz}(h:∀r∈rs,OkL r)(hl:rs.length<=40):NR [.list (rs.map eZ)]=some (match Ts rs with|some n=>.inr n|none=>.inl (.bool true)):=by
 let D:PyData:=.list (rs.map eZ)
 obtain⟨a,b,e⟩:=aC hl rs [] none none CM CM rfl trivial h
 have e1:Y6 (dIE (AD 0)) vG vB [some (.d D),none,none]=some (ouL D a b (goF [] rs)):=by
  unfold Y6
  rw[show dIE (AD 0) [some (.d D),none,none]=some (MV 0 (rs.map eZ),[some (.d D),none,none]) from rfl,Option.bind_some]
  exact e
 have sq:∀{f:DBX},Fm (Y6 (dIE (AD 0)) vG vB) f [some (.d D),none,none]=match goF [] rs with|some n=>some (.inr n)|none=>f [some (.d D),a,b]:=fun {f}=>by
  unfold Fm
  rw[e1,Option.bind_some]
  cases goF [] rs<;>rfl
 unfold NR Ts
 cases hg:goF [] rs with
 |some n =>
  refine TY (o:=.inr n) ?_ rfl rfl
  refine sq.trans ?_
  rw[hg]
 |none =>
  have c:AN (dOp fGt (BD B9 (AA (AD 0) AI)) (dC (.int 24))) [some (.d D),a,b]=some (decide (24<rs.length),[some (.d D),a,b]):=by
   refine tst (op2 (x:=.int (rs.length:Nat)) (y:=.int 24) (τ1:=[some (.d D),a,b]) (Gj (d:=D) (τ1:=[some (.d D),a,b]) rfl (by show some (PyData.int ((rs.map eZ).length:Nat))=_;rw[List.length_map])) rfl ?_)
   show some (PyData.bool (decide (((rs.length:Nat):Int)>24)))=_
   exact congrArg (fun b=>some (PyData.bool b)) (decide_eq_decide.mpr (by omega))
  by_cases h24:24<rs.length
  ·rw[decide_eq_true h24]at c
   refine TY (o:=.inr 5) ?_ rfl (by dsimp only;rw[if_pos h24];rfl)
   refine sq.trans ?_
   rw[hg]
   exact Y4 c
  ·rw[decide_eq_false h24]at c
   refine TY (o:=.inl (.rt (.bool true) [some (.d D),a,b])) ?_ rfl (by dsimp only;rw[if_neg h24];rfl)
   refine sq.trans ?_
   rw[hg]
   exact(Vm c).trans rfl
theorem fi{met:List Rz}{r:Rz}{n:Nat}(h:stp met r=some n):n<6:=by
 unfold stp at h
 repeat' split at h
 all_goals first|(cases h;decide)|cases h
theorem bP:∀{rs met:List Rz} {n:Nat},goF met rs=some n->n<6
 |[],_,_,h=>by cases h
 |r::rs,met,n,h=>by
  rw[goF]at h
  split at h
  ·rename_i m e
   cases h
   exact fi e
  ·exact bP h
theorem Y1{rs:List Rz}{n:Nat}(h:Ts rs=some n):n<6:=by
 unfold Ts at h
 split at h
 ·rename_i m e
  cases h
  exact bP e
 ·split at h
  ·cases h;decide
  ·cases h
def Y9:Option Nat->Str
 |some n=>whS n
 |none=>"good"
theorem fY{rs:List Rz}(h:∀r∈rs,OkL r)(hl:rs.length<=40):IE [.d (.list (rs.map eZ))]=some (.str (Y9 (Ts rs)),[.d (.list (rs.map eZ))]):=by
 unfold IE
 dsimp only
 rw[hU h hl]
 cases ha:Ts rs with
 |none=>rfl
 |some n =>
  dsimp only
  rw[if_pos (Y1 ha)];rfl
theorem gP{rs:List Rz}{t:Tx}:(Cq rs t).isSome=decide (t∈rs.map (·.n)):=by
 by_cases h:t∈rs.map (·.n)
 ·rw[decide_eq_true h]
  obtain⟨q,hq,e⟩:=List.mem_map.mp h
  cases hf:Cq rs t with
  |some _=>rfl
  |none=>exact absurd (decide_eq_true e) (List.find?_eq_none.mp hf q hq)
 ·rw[decide_eq_false h,R1 fun q hq e=>h (List.mem_map.mpr ⟨q,hq,e⟩)];rfl
def hld(rs:List Rz)(t:Tx):List Rz:=(rs.filter fun q=>decide (q.n=t)).filter fun q=>decide (4<=kz q.d)
theorem dQ{rs:List Rz}(ok:OkZ rs)(t:Tx):(hld rs t).isEmpty=match Cq rs t with|some q=>!decide (4<=kz q.d)|none=>true:=by
 cases hf:Cq rs t with
 |none =>
  have:rs.filter (fun q=>decide (q.n=t))=[]:=List.filter_eq_nil_iff.mpr fun q hq=>List.find?_eq_none.mp hf q hq
  unfold hld
  rw[this];rfl
 |some q =>
  obtain⟨hq,e⟩:=Mn hf
  dsimp only
  by_cases h4:4<=kz q.d
  ·rw[decide_eq_true h4]
   have hm:q∈hld rs t:=List.mem_filter.mpr ⟨List.mem_filter.mpr ⟨hq,decide_eq_true e⟩,decide_eq_true h4⟩
   cases hh:hld rs t with
   |nil=>rw[hh]at hm;cases hm
   |cons a b=>rfl
  ·rw[decide_eq_false h4]
   have:hld rs t=[]:=List.filter_eq_nil_iff.mpr fun p hp=>by
    obtain⟨hp1,hp2⟩:=List.mem_filter.mp hp
    have ep:=of_decide_eq_true hp2
    have:p=q:=OkR.inj ok p (List.mem_reverse.mpr hp1) q (List.mem_reverse.mpr hq) (ep.trans e.symm)
    rw[this,decide_eq_false h4];decide
   rw[this];rfl
theorem gQ(l:List Rz):fEq (.list (l.map eZ)) (.list [])=some (.bool l.isEmpty):=by
 have:=encZ.fEqL l []
 rw[List.map_nil]at this
 rw[this]
 cases l<;>rfl
theorem gD(l:List Tx):fNe (.list (l.map eT)) (.list [])=some (.bool (!l.isEmpty)):=by
 have:=encT.fNeL l []
 rw[List.map_nil]at this
 rw[this]
 cases l<;>rfl
theorem fZ{met:List Rz}{r:Rz}(ok:OkZ (met++[r]))(okm:OkZ met)(h:Tx):tls met h=!((((met++[r]).filter fun q=>decide (kz q.d=8)).map (·.n)).filter fun t=>decide (t∈hsR met.reverse h)).isEmpty:=by
 have er:(met++[r]).reverse=r::met.reverse:=by simp
 have ok':OkR (r::met.reverse):=er▸(show OkR (met++[r]).reverse from ok)
 by_cases ht:tls met h=true
 ·rw[ht]
  obtain⟨t,ht1,ht2⟩:=List.any_eq_true.mp ht
  cases hf:Cq met t with
  |none=>rw[hf]at ht2;cases ht2
  |some q =>
   rw[hf]at ht2
   obtain⟨hq,e⟩:=Mn hf
   have hm:t∈((((met++[r]).filter fun q=>decide (kz q.d=8)).map (·.n)).filter fun t=>decide (t∈hsR met.reverse h)):=List.mem_filter.mpr ⟨List.mem_map.mpr ⟨q,List.mem_filter.mpr ⟨List.mem_append_left _ hq,ht2⟩,e⟩,decide_eq_true ht1⟩
   cases hl:((((met++[r]).filter fun q=>decide (kz q.d=8)).map (·.n)).filter fun t=>decide (t∈hsR met.reverse h)) with
   |nil=>rw[hl]at hm;cases hm
   |cons a b=>rfl
 ·rw[Bool.not_eq_true]at ht
  rw[ht]
  cases hl:((((met++[r]).filter fun q=>decide (kz q.d=8)).map (·.n)).filter fun t=>decide (t∈hsR met.reverse h)) with
  |nil=>rfl
  |cons a b =>
   exfalso
   have hm:a∈((((met++[r]).filter fun q=>decide (kz q.d=8)).map (·.n)).filter fun t=>decide (t∈hsR met.reverse h)):=by rw[hl];exact List.mem_cons_self
   obtain⟨h1,h2⟩:=List.mem_filter.mp hm
   obtain⟨q,h3,h4⟩:=List.mem_map.mp h1
   obtain⟨h5,h6⟩:=List.mem_filter.mp h3
   obtain⟨p,hp,ep⟩:=Mm (of_decide_eq_true h2)
   have hqm:q∈met:=by
    rcases List.mem_append.mp h5 with z|z
    ·exact z
    ·rw[List.mem_singleton.mp z]at h4
     exact absurd (ep.trans h4.symm) (ok'.2.2.1 p hp)
   have:tls met h=true:=List.any_eq_true.mpr ⟨a,of_decide_eq_true h2,by rw[<- h4,IW okm hqm];exact h6⟩
   rw[this]at ht;cases ht
abbrev uC1:DT:=Bm (AN (AU Fv (AA (AD 2) AI)))
abbrev uC2:DT:=Fh 1 (AN (dOp (fIn false) (dOp Ai (AD 2) (dC (.int 0))) (dLC 1 [] (dIL (AD 1)) (dN 0) Ek (dOp Ai (AD 0) (dC (.int 0))))))
abbrev uA3:DB:=Am (FF 1 (dLC 1 [2] (dIL (AD 1)) (dN 0) (AN (dOp fEq (dOp Ai (AD 0) (dC (.int 0))) (dOp Ai (AD 1) (dC (.int 1))))) (AD 0))) (dN 3)
abbrev uC4:DT:=Ci (AN (dOp fNe (dOp Ai (AD 2) (dC (.int 1))) (dC (.str "")))) (AN (dOp fEq (dLC 1 [] (dIL (AD 3)) (dN 0) (AN (dOp (fIn false) (dOp Ai (AD 0) (dC (.int 5))) (Li (AU Dm AI) (dPt (dC (.int 6))) Kw))) (AD 0)) (IZ AI)))
abbrev uA5:DB:=C3 (dMt 1 Bs (AA (AD 2) AI))
abbrev uA6:DB:=Am (FF 1 (AU JM (AA (AD 1) (AA (dOp Ai (AD 2) (dC (.int 0))) AI)))) (dN 4)
abbrev uC7:DT:=AN (dOp fGt (BD B9 (AA (AD 4) AI)) (dC (.int 6)))
abbrev uA8:DB:=Am (FF 1 (dLC 1 [] (dIL (AD 1)) (dN 0) (AN (dOp fEq (dOp Ai (AD 0) (dC (.int 5))) (dC (.str "tiles")))) (dOp Ai (AD 0) (dC (.int 0))))) (dN 5)
abbrev uC9:DT:=Ci (AN (dOp fEq (dOp Ai (AD 2) (dC (.int 5))) (dC (.str "tiles")))) (AN (dOp fNe (dLC 1 [4] (dIL (AD 5)) (dN 0) (AN (dOp (fIn false) (AD 0) (AD 1))) (AD 0)) (IZ AI)))
abbrev uR(c:DT)(n:Nat):DB:=A4 c (A0 (dC (.str (whS n)))) A2
def uB:DB:=AY (uR uC1 0) (AY (uR uC2 1) (AY uA3 (AY (uR uC4 2) (AY uA5 (AY uA6 (AY (uR uC7 3) (AY uA8 (uR uC9 4))))))))
def uS(D:PyData)(met:List Rz)(o2 o3 o4 o5:Option L):DS:=[some (.d D),some (.m (met.map eZ)),o2,o3,o4,o5]
theorem u_t{c:DT}{n:Nat}{r:DB}{τ:DS}(h:c τ=some (true,τ)):AY (uR c n) r τ=some (.rt (.str (whS n)) τ):=Ic ((Je h).trans rfl)
theorem u_f{c:DT}{n:Nat}{r:DB}{τ:DS}(h:c τ=some (false,τ)):AY (uR c n) r τ=r τ:=AV ((EC h).trans rfl)
def ouD(τ:DS):Option Nat->Out
 |some n=>.rt (.str (whS n)) τ
 |none=>.nx τ
theorem R3(l:List Rz):fixDs (l.map eZ)=true:=by
 induction l with
 |nil=>rfl
 |cons a l ih =>
  show(GN (eZ a)&&fixDs (l.map eZ))=true
  rw[encZ.fix,ih];rfl
theorem fH(l:List Tx):fixDs (l.map eT)=true:=by
 induction l with
 |nil=>rfl
 |cons a l ih =>
  show(true&&fixDs (l.map eT))=true
  rw[ih];rfl
theorem de{D:PyData}{met:List Rz}{r:Rz}(ok:OkZ met)(okl:OkL r)(hl:met.length<=39){o3 o4 o5:Option L}(n3:nM o3)(n4:nM o4)(n5:nM o5):∃m a b c,nM a/\nM b/\nM c/\uB (uS D met (some (.d (eZ r))) o3 o4 o5)=some (ouD (uS D m (some (.d (eZ r))) a b c) (stp met r))/\(stp met r=none->m=met++[r]):=by
 let X:Option L:=some (.d (eZ r))
 let st:List Rz->Option L->Option L->Option L->DS:=fun m a b c=>uS D m X a b c
 let bt:List Rz->Option L->Option L->Option L->DS:=fun m a b c=>[some (.d D),some (.d (.list (m.map eZ))),X,a,b,c]
 have hok:∀m a b c,nM a->nM b->nM c->(bt m a b c).all okM=true:=fun m a b c h4 h5 h6=>by
  show(true&&(true&&(true&&(okM a&&(okM b&&(okM c&&true))))))=true
  rw[GS h4,GS h5,GS h6];rfl
 let τ0:=st met o3 o4 o5
 obtain⟨lr,el⟩:=jZ okl
 have c1:=Gy (tst (AZ (G:=Fv) (a:=AA (AD 2) AI) (τ:=τ0) (τ1:=τ0) (rs:=[.d (eZ r)]) (ds:=[eZ r]) rfl rfl el))
 unfold uB
 by_cases hx:r.x<=60
 case neg =>
  rw[decide_eq_false hx]at c1
  have es:stp met r=some 0:=by unfold stp;rw[if_neg hx]
  rw[es]
  exact⟨met,o3,o4,o5,n3,n4,n5,u_t c1,fun z=>nomatch z⟩
 rw[decide_eq_true hx]at c1
 have c2:uC2 τ0=some (decide (r.n∈met.map (·.n)),τ0):=by
  let τd:=bt met o3 o4 o5
  have lc:dLC 1 [] (dIL (AD 1)) (dN 0) Ek (dOp Ai (AD 0) (dC (.int 0))) τd=some (.list ((met.map (·.n)).map eT),τd):=by
   have:=lcg (enc:=eZ) (rs:=met) (τ:=τd) (fr:=[]) (it:=dIL (AD 1)) (ex:=[]) (c:=Ek) (e:=dOp Ai (AD 0) (dC (.int 0))) (fun _=>true) (fun r=>eT r.n) rfl (by omega) rfl rfl (fun r _=>rfl) (fun r _ _=>rfl)
   rw[this,FN,List.map_map];rfl
  exact Qu (i:=1) (xs:=met.map eZ) (τ1:=τd) rfl (tst (op2 (x:=eT r.n) (y:=.list ((met.map (·.n)).map eT)) (τ1:=τd) (op2 (x:=eZ r) (y:=.int 0) (τ1:=τd) rfl rfl rfl) lc (inL _ _))) (hok met o3 o4 o5 n3 n4 n5)
 rw[<- gP]at c2
 by_cases h1:(Cq met r.n).isSome=true
 case pos =>
  rw[h1]at c2
  have es:stp met r=some 1:=by unfold stp;rw[if_pos hx,if_pos h1]
  rw[es]
  exact⟨met,o3,o4,o5,n3,n4,n5,(u_f c1).trans (u_t c2),fun z=>nomatch z⟩
 have h1':=h1
 rw[Bool.not_eq_true]at h1'
 rw[h1']at c2
 let HH:List Rz:=met.filter fun q=>decide (q.n=r.h)
 let O3:Option L:=some (.d (.list (HH.map eZ)))
 have z3:uA3 τ0=some (.nx (st met O3 o4 o5)):=by
  refine BI (d:=.list (HH.map eZ)) (τ1:=τ0) (Z1 (i:=1) (xs:=met.map eZ) rfl ?_ (R3 _) (hok met o3 o4 o5 n3 n4 n5)) (Em (o:=o3) rfl n3)
  have:=lcg (enc:=eZ) (rs:=met) (τ:=bt met o3 o4 o5) (fr:=[2]) (it:=dIL (AD 1)) (ex:=[some (.d (eZ r))]) (c:=AN (dOp fEq (dOp Ai (AD 0) (dC (.int 0))) (dOp Ai (AD 1) (dC (.int 1))))) (e:=AD 0) (fun q=>decide (q.n=r.h)) eZ rfl (by omega) rfl rfl (fun q _=>tst (op2 (x:=eT q.n) (y:=eT r.h) (τ1:=[some (.d (eZ q)),some (.d (eZ r))]) rfl rfl (Ta _ _))) (fun q _ _=>rfl)
  exact this
 let τ1:=st met O3 o4 o5
 have c4:uC4 τ1=some (!decide (r.h=t0)&&(hld met r.h).isEmpty,τ1):=by
  refine YD (tst (op2 (x:=eT r.h) (y:=eT t0) (τ1:=τ1) rfl rfl (dU _ _))) fun _=>tst (op2 (x:=.list ((hld met r.h).map eZ)) (y:=.list []) (τ1:=τ1) ?_ rfl (gQ _))
  have hz:HH.length<=met.length:=List.length_filter_le ..
  exact lcg (enc := eZ) (rs := HH) (τ := τ1) (fr := []) (it := dIL (AD 3)) (ex := []) (c := AN (dOp (fIn false) (dOp Ai (AD 0) (dC (.int 5))) (Li (AU Dm AI) (dPt (dC (.int 6))) Kw))) (e := AD 0) (fun q => decide (4 <= kz q.d)) eZ rfl (by omega) rfl rfl (fun q _ => tst (op2 (x := eT (kS (kz q.d))) (y := .tuple (KH.map eT)) (τ1 := [some (.d (eZ q))]) rfl Yd (by
   rw[inT]
   exact congrArg (fun b=>some (PyData.bool b)) (decide_eq_decide.mpr (Xd (NS _)))))) (fun q _ _=>rfl)
 rw[dQ ok]at c4
 have pre4:∀{Fs:DB} {o:Option Out},Fs τ1=o->AY (uR uC1 0) (AY (uR uC2 1) (AY uA3 Fs)) τ0=o:=fun k=>(u_f c1).trans ((u_f c2).trans ((AV z3).trans k))
 by_cases h2:(!decide (r.h=t0)&&(match Cq met r.h with|some q=>!decide (4<=kz q.d)|none=>true))=true
 case pos =>
  rw[h2]at c4
  have es:stp met r=some 2:=by
   rw[Bool.and_eq_true,Bool.not_eq_true',decide_eq_false_iff_not]at h2
   unfold stp
   rw[if_pos hx,if_neg h1,if_neg h2.1]
   cases hf:Cq met r.h with
   |none=>rfl
   |some q =>
    have h4:=h2.2
    rw[hf]at h4
    dsimp only at h4 ⊢
    rw[if_neg (by simpa using h4)]
  rw[es]
  exact⟨met,O3,o4,o5,C6,n4,n5,pre4 (u_t c4),fun z=>nomatch z⟩
 have h2':=h2
 rw[Bool.not_eq_true]at h2'
 rw[h2']at c4
 -- the row is met
 have hq:r.h=t0\/∃q,Cq met r.h=some q/\4<=kz q.d:=by
  by_cases h0:r.h=t0
  ·exact .inl h0
  ·right
   rw[decide_eq_false h0]at h2'
   cases hf:Cq met r.h with
   |none=>rw[hf]at h2';cases h2'
   |some q =>
    rw[hf]at h2'
    refine⟨q,rfl,?_⟩
    have:(!decide (4<=kz q.d))=false:=h2'
    simpa using this
 have er:(met++[r]).reverse=r::met.reverse:=by simp
 have ok2:OkZ (met++[r]):=by
  show OkR (met++[r]).reverse
  rw[er]
  refine⟨ok,okl.row hx,fun q hq e=>h1 ?_,hq.imp id fun⟨q,hf,_⟩=>⟨q,List.mem_reverse.mpr (Mn hf).1,(Mn hf).2⟩⟩
  rw[<- e,IW ok (List.mem_reverse.mp hq)];rfl
 have z5:uA5 τ1=some (.nx (st (met++[r]) O3 o4 o5)):=by
  refine(Vk (i:=1) (d:=eZ r) (xs:=met.map eZ) (τ1:=τ1) rfl rfl (by rw[List.length_map];omega)).trans ?_
  show some (Out.nx [some (.d D),some (.m (met.map eZ++[eZ r])),X,O3,o4,o5])=_
  rw[show met.map eZ++[eZ r]=(met++[r]).map eZ by rw[List.map_append];rfl];rfl
 let hs:=hsR met.reverse r.h
 have hlen:hs.length<=met.length:=by have:=Q4 met.reverse r.h;rw[List.length_reverse]at this;exact this
 let O4:Option L:=some (.d (.list (hs.map eT)))
 have z6:uA6 (st (met++[r]) O3 o4 o5)=some (.nx (st (met++[r]) O3 O4 o5)):=by
  obtain⟨l6,e6⟩:=cD ok2 (by rw[List.length_append];exact Nat.succ_le_succ hl) (a:=r.n) ⟨r,List.mem_append_right _ (List.mem_singleton.mpr rfl),rfl⟩
  rw[er,hsR,if_pos rfl]at e6
  refine BI (d:=.list (hs.map eT)) (τ1:=st (met++[r]) O3 o4 o5) (Z1 (i:=1) (xs:=(met++[r]).map eZ) rfl ?_ (fH _) (hok (met++[r]) O3 o4 o5 C6 n4 n5)) (Em (o:=o4) rfl n4)
  exact AZ (τ1:=bt (met++[r]) O3 o4 o5) (rs:=[.d (.list ((met++[r]).map eZ)),.d (eT r.n)]) (ds:=[.list ((met++[r]).map eZ),eT r.n]) rfl rfl e6
 let τ3:=st (met++[r]) O3 O4 o5
 have c7:uC7 τ3=some (decide (6<hs.length),τ3):=by
  refine tst (op2 (x:=.int (hs.length:Nat)) (y:=.int 6) (τ1:=τ3) (Gj (d:=.list (hs.map eT)) (τ1:=τ3) rfl (by show some (PyData.int ((hs.map eT).length:Nat))=_;rw[List.length_map])) rfl ?_)
  show some (PyData.bool (decide (((hs.length:Nat):Int)>6)))=_
  exact congrArg (fun b=>some (PyData.bool b)) (decide_eq_decide.mpr (by omega))
 have pre7:∀{Fs:DB} {o:Option Out},Fs τ3=o->AY (uR uC1 0) (AY (uR uC2 1) (AY uA3 (AY (uR uC4 2) (AY uA5 (AY uA6 Fs))))) τ0=o:=fun k=>pre4 ((u_f c4).trans ((AV z5).trans ((AV z6).trans k)))
 have es0:stp met r=if 6<hs.length then some 3 else if kz r.d=8/\tls met r.h=true then some 4 else none:=by
  unfold stp
  rw[if_pos hx,if_neg h1]
  rcases hq with h0|⟨q,hf,h4⟩
  ·have hn:hs=[]:=by show hsR met.reverse r.h=[];rw[h0];exact PX ok
   have ht:tls met r.h=false:=by unfold tls;rw[show hsR met.reverse r.h=[] from hn];rfl
   rw[if_pos h0,hn,ht]
   rw[if_neg (by simp),if_neg (by simp)]
  ·have h0:r.h≠t0:=fun z=>by
    rw[z,VQ ok]at hf
    cases hf
   rw[if_neg h0,hf]
   dsimp only
   rw[if_pos h4]
 by_cases h6:6<hs.length
 case pos =>
  rw[decide_eq_true h6]at c7
  rw[es0,if_pos h6]
  exact⟨met++[r],O3,O4,o5,C6,C6,n5,pre7 (u_t c7),fun z=>nomatch z⟩
 rw[decide_eq_false h6]at c7
 rw[es0,if_neg h6]
 let TT:List Tx:=((met++[r]).filter fun q=>decide (kz q.d=8)).map (·.n)
 let O5:Option L:=some (.d (.list (TT.map eT)))
 have k8:∀q:Rz,fEq (eT (kS (kz q.d))) (eT (kS 8))=some (.bool (decide (kz q.d=8))):=fun q=>(Ta _ _).trans (congrArg (fun b=>some (PyData.bool b)) (decide_eq_decide.mpr ⟨LH (NS _) (by decide),fun z=>by rw[z]⟩))
 have z8:uA8 τ3=some (.nx (st (met++[r]) O3 O4 O5)):=by
  refine BI (d:=.list (TT.map eT)) (τ1:=τ3) (Z1 (i:=1) (xs:=(met++[r]).map eZ) rfl ?_ (fH _) (hok (met++[r]) O3 O4 o5 C6 C6 n5)) (Em (o:=o5) rfl n5)
  have:=lcg (enc:=eZ) (rs:=met++[r]) (τ:=bt (met++[r]) O3 O4 o5) (fr:=[]) (it:=dIL (AD 1)) (ex:=[]) (c:=AN (dOp fEq (dOp Ai (AD 0) (dC (.int 5))) (dC (.str "tiles")))) (e:=dOp Ai (AD 0) (dC (.int 0))) (fun q=>decide (kz q.d=8)) (fun q=>eT q.n) rfl (by rw[List.length_append];simp only[List.length_cons,List.length_nil];omega) rfl rfl (fun q _=>tst (op2 (x:=eT (kS (kz q.d))) (y:=eT (kS 8)) (τ1:=[some (.d (eZ q))]) rfl rfl (k8 q))) (fun q _ _=>rfl)
  show dLC 1 [] (dIL (AD 1)) (dN 0) _ _ (bt (met++[r]) O3 O4 o5)=some (.list (TT.map eT),bt (met++[r]) O3 O4 o5)
  rw[this]
  show some (PyData.list _,_)=some (PyData.list ((List.map (fun q:Rz=>q.n) _).map eT),_)
  rw[List.map_map];rfl
 let τ4:=st (met++[r]) O3 O4 O5
 have c9:uC9 τ4=some (decide (kz r.d=8)&&tls met r.h,τ4):=by
  rw[fZ ok2 ok r.h]
  refine YD (tst (op2 (x:=eT (kS (kz r.d))) (y:=eT (kS 8)) (τ1:=τ4) rfl rfl (k8 r))) fun _=>tst (op2 (x:=.list ((TT.filter fun t=>decide (t∈hs)).map eT)) (y:=.list []) (τ1:=τ4) ?_ rfl (gD _))
  have hz:TT.length<=met.length+1:=by
   show(List.map (fun q:Rz=>q.n) _).length<=_
   rw[List.length_map]
   refine Nat.le_trans (List.length_filter_le ..) ?_
   rw[List.length_append];exact Nat.le_refl _
  exact lcg (enc:=eT) (rs:=TT) (τ:=τ4) (fr:=[4]) (it:=dIL (AD 5)) (ex:=[O4]) (c:=AN (dOp (fIn false) (AD 0) (AD 1))) (e:=AD 0) (fun t=>decide (t∈hs)) eT rfl (by omega) rfl rfl (fun t _=>tst (op2 (x:=eT t) (y:=.list (hs.map eT)) (τ1:=[some (.d (eT t)),O4]) rfl rfl (inL _ _))) (fun q _ _=>rfl)
 by_cases h8:kz r.d=8/\tls met r.h=true
 ·rw[if_pos h8]
  rw[decide_eq_true h8.1,h8.2]at c9
  exact⟨met++[r],O3,O4,O5,C6,C6,C6,pre7 ((u_f c7).trans ((AV z8).trans ((Je c9).trans rfl))),fun z=>nomatch z⟩
 ·rw[if_neg h8]
  have:(decide (kz r.d=8)&&tls met r.h)=false:=by
   rw[Bool.eq_false_iff]
   intro z
   rw[Bool.and_eq_true]at z
   exact h8 ⟨of_decide_eq_true z.1,z.2⟩
  rw[this]at c9
  exact⟨met++[r],O3,O4,O5,C6,C6,C6,pre7 ((u_f c7).trans ((AV z8).trans ((EC c9).trans rfl))),fun _=>rfl⟩
theorem bb{D:PyData}:∀(post met:List Rz) (o2 o3 o4 o5:Option L),nM o2->nM o3->nM o4->nM o5->OkZ met->(∀r∈post,OkL r)->met.length+post.length<=40->∃m a b c d,Df (dN 2) uB (post.map eZ) (uS D met o2 o3 o4 o5)=some (ouD (uS D m a b c d) (goF met post)):=by
 intro post
 induction post with
 |nil=>exact fun met o2 o3 o4 o5 _ _ _ _ _ _ _=>⟨met,o2,o3,o4,o5,rfl⟩
 |cons r post ih =>
  intro met o2 o3 o4 o5 n2 n3 n4 n5 ok h hl
  have okl:=h r List.mem_cons_self
  rw[List.length_cons]at hl
  obtain⟨m,a,b,c,ha,hb,hc,e,hm⟩:=de (D:=D) ok okl (by omega) n3 n4 n5
  have e1:dN 2 (eZ r) (uS D met o2 o3 o4 o5)=some (uS D met (some (.d (eZ r))) o3 o4 o5):=Em (o:=o2) rfl n2
  rw[List.map_cons,Df,e1,Option.bind_some,e,Option.bind_some,goF]
  cases hs:stp met r with
  |some n=>exact⟨m,_,a,b,c,rfl⟩
  |none =>
   rw[hm hs]
   exact ih (met++[r]) _ a b c C6 ha hb hc (aO ok okl hs) (fun q hq=>h q (List.mem_cons_of_mem _ hq)) (by rw[List.length_append];simp only[List.length_cons,List.length_nil];omega)
theorem iz{rs:List Rz}(h:∀r∈rs,OkL r)(hl:rs.length<=40):∃ls,Ml [.d (.list (rs.map eZ))]=some (.str (Y9 (Ts rs)),ls):=by
 let D:PyData:=.list (rs.map eZ)
 refine⟨[.d D],?_⟩
 obtain⟨m,a,b,c,d,e⟩:=bb (D:=D) rs [] none none none none CM CM CM CM trivial h (by simpa using hl)
 have e1:Ia (dIL (AD 0)) (dN 2) uB (uS D [] none none none none)=some (ouD (uS D m a b c d) (goF [] rs)):=(Hd (ds:=rs.map eZ) (τ1:=uS D [] none none none none) rfl).trans e
 unfold Ml Ts
 cases hg:goF [] rs with
 |some n =>
  rw[hg]at e1
  exact A6 (τ:=uS D m a b c d) ((AV (τ1:=uS D [] none none none none) rfl).trans (Ic e1)) rfl rfl
 |none =>
  rw[hg]at e1
  let τ:=uS D m a b c d
  have c24:AN (dOp fGt (BD B9 (AA (AD 0) AI)) (dC (.int 24))) τ=some (decide (24<rs.length),τ):=by
   refine tst (op2 (x:=.int (rs.length:Nat)) (y:=.int 24) (τ1:=τ) (Gj (d:=D) (τ1:=τ) rfl (by show some (PyData.int ((rs.map eZ).length:Nat))=_;rw[List.length_map])) rfl ?_)
   show some (PyData.bool (decide (((rs.length:Nat):Int)>24)))=_
   exact congrArg (fun b=>some (PyData.bool b)) (decide_eq_decide.mpr (by omega))
  dsimp only
  by_cases h24:24<rs.length
  ·rw[decide_eq_true h24]at c24
   rw[if_pos h24]
   exact A6 (τ:=τ) ((AV (τ1:=uS D [] none none none none) rfl).trans ((AV e1).trans (u_t (n:=5) c24))) rfl rfl
  ·rw[decide_eq_false h24]at c24
   rw[if_neg h24]
   exact A6 (τ:=τ) ((AV (τ1:=uS D [] none none none none) rfl).trans ((AV e1).trans ((u_f (n:=5) c24).trans rfl))) rfl rfl
def nD(p:Str)(k:Nat):Str:=match Kt [.int (k:Int)] with
 |some (.str s)=>p++s
 |_=>""
def V9(p:Str)(k:Nat):Bool:=(match Kt [.int (k:Int)] with
 |some (.str s)=>decide (s.length<=7)
 |_=>false)&&PyData.strOk (nD p k)&&decide (1<=(nD p k).length)&&decide ((nD p k).length<=8)&&(nD p k).cps.toList.all fun c=>alN.cps.toList.contains c
theorem okQ:∀k:_root_.Fin 30,V9 "q" k.1=true:=∅
theorem okZ:∀k:_root_.Fin 30,V9 "z" k.1=true:=∅
theorem fy:∀i j:_root_.Fin 9,nD "q" i.1=nD "q" j.1->i=j:=∅
theorem VG{p:Str}{k:Nat}(h:V9 p k=true):PyData.strOk (nD p k)=true/\1<=(nD p k).length/\(nD p k).length<=8/\IJ alN (nD p k)/\∃s,Kt [.int (k:Int)]=some (.str s)/\s.length<=7/\nD p k=p++s:=by
 unfold V9 at h
 simp only[Bool.and_eq_true,decide_eq_true_eq,List.all_eq_true]at h
 obtain⟨⟨⟨⟨h1,h2⟩,h3⟩,h4⟩,h5⟩:=h
 refine⟨h2,h3,h4,fun c hc=>by simpa using h5 c hc,?_⟩
 unfold nD
 split at h1
 ·rename_i s e
  rw[e]
  exact⟨s,rfl,of_decide_eq_true h1,rfl⟩
 ·cases h1
def nT(p:Str)(k:Nat):Tx:=if h:V9 p k=true then ⟨nD p k,(VG h).1⟩ else t0
theorem Ya{p:Str}{k:Nat}(h:V9 p k=true):(nT p k).1=nD p k:=by unfold nT;rw[dif_pos h]
theorem ey{p:Str}{k:Nat}(h:V9 p k=true):OkN (nT p k):=by
 obtain⟨_,h1,h8,ha,_⟩:=VG h
 refine⟨?_,?_,?_⟩<;>rw[Ya h]<;>assumption
theorem eo{p:Str}{k i:Nat}{τ:DS}(hp:p.length<=10)(h:V9 p k=true)(hi:AD i τ=some (.int (k:Int),τ)):dOp Gx (dC (.str p)) (BD Kt (AA (AD i) AI)) τ=some (eT (nT p k),τ):=by
 obtain⟨_,_,_,_,s,e,hs,e2⟩:=VG h
 refine op2 (x:=.str p) (y:=.str s) (τ1:=τ) rfl (Gj hi e) ?_
 show(if p.length+s.length<=sizeLine then some (PyData.str (p++s)) else none)=some (.str (nT p k).1)
 rw[if_pos (sz (by omega)),Ya h,e2]
theorem OkR.L{a:List Rz}(ok:OkR a):∀r∈a,OkL r:=by
 intro r hr
 have okr:=OkR.all ok r hr
 refine OkL.of okr ?_
 obtain⟨p,q,rfl⟩:=List.append_of_mem hr
 obtain⟨okq,_,_,hh⟩:=OkR.suf (p:=p) ok
 exact hh.imp id fun⟨q',hq,e⟩=>e▸(OkR.all okq q' hq).nm
def kc:Nat->Nat
 |1=>8
 |3=>5
 |_=>4
def dj:Nat->Dz
 |1=>.tiles 1 2 3 (-1)
 |3=>.glass (1,2)
 |_=>.group
abbrev xKD:List (PyData×PyData):=[(.str "group",(.tuple [])),(.str "tiles",(.tuple [(.int 1),(.int 2),(.int 3),(.int (-1))])),(.str "glass",(.tuple [(.tuple [(.int 1),(.int 2)])]))]
theorem i0(j:Nat):Wv (dj j)/\kz (dj j)=kc j:=by
 unfold dj kc
 split
 ·exact⟨⟨by decide,by decide,by decide,by decide,by decide,by decide,by decide,by decide⟩,rfl⟩
 ·exact⟨⟨by decide,by decide,by decide,by decide,fun h=>absurd h (by decide),1,2,by decide,∅⟩,rfl⟩
 ·exact⟨trivial,rfl⟩
abbrev xA1:DB:=Am (dOp Ai (Be (AA (dC (.str "group")) (AA (dC (.str "tiles")) (AA (dC (.str "group")) (AA (dC (.str "glass")) (AA (dC (.str "group")) AI)))))) (dOp BQ (dOp Bw (AD 0) (dC (.int 9))) (dC (.int 5)))) (dN 4)
abbrev xA2:DB:=Am (Ot xKD (AD 4)) (dN 5)
abbrev xA3:DB:=C3 (dMt 1 Bs (AA (Be (AA (dOp Gx (dC (.str "q")) (BD Kt (AA (AD 3) AI))) (AA (AD 2) (AA (AD 3) (AA (dUn He (AD 3)) (AA (dC (.bool true)) (AA (AD 4) (AA (AD 5) AI)))))))) AI))
abbrev xA4:DB:=Am (dOp Gx (dC (.str "q")) (BD Kt (AA (AD 3) AI))) (dN 2)
abbrev xA5:DB:=Am (dOp Bw (AD 0) (dC (.int 5))) (dN 0)
theorem five{P:Nat->Prop}(h0:P 0)(h1:P 1)(h2:P 2)(h3:P 3)(h4:P 4){j:Nat}(hj:j<5):P j:=by
 match j,hj with
 |0,_=>exact h0
 |1,_=>exact h1
 |2,_=>exact h2
 |3,_=>exact h3
 |4,_=>exact h4
theorem X1(v:Int):∃(rs:List Rz) (ls:List L),GJ [.d (.int v)]=some (.list (rs.map eZ),ls)/\OkZ rs/\rs.length<=8:=by
 let st:Int->List Rz->Tx->Option L->Option L->Option L->DS:=fun v rs nm a b c=>[some (.d (.int v)),some (.m (rs.map eZ)),some (.d (eT nm)),a,b,c]
 have h9:=Int.emod_nonneg v (by decide:(9:Int)≠0)
 have h9':=Int.emod_lt_of_pos v (by decide:(0:Int)<9)
 have lp:∃τ',Df (dN 3) (AY xA1 (AY xA2 (AY xA3 (AY xA4 xA5)))) ((List.range (v % 9).toNat).map fun(k:Nat)=>PyData.int (k:Int)) (st v [] t0 none none none)=some (.nx τ')/\∃u rs nm a b c,nM a/\nM b/\nM c/\OkZ rs/\rs.map (·.n)=(List.range (v % 9).toNat).map (nT "q")/\(nm=t0\/∃q∈rs,q.n=nm)/\τ'=st u rs nm a b c:=by
  refine(IH (fun(pre:List Nat) τ=>∃u rs nm a b c,nM a/\nM b/\nM c/\OkZ rs/\rs.map (·.n)=pre.map (nT "q")/\(nm=t0\/∃q∈rs,q.n=nm)/\τ=st u rs nm a b c) ⟨v,[],t0,none,none,none,CM,CM,CM,trivial,rfl,.inl rfl,rfl⟩ ?_)
  rintro pre k post τ e ⟨u,rs,nm,a,b,c,na,nb,nc,ok,hn,hnm,rfl⟩
  have hz:=F7 e
  rw[List.length_range]at hz
  have hpre:pre=List.range k:=by
   have hk:k=pre.length:=by
    have:=congrArg (fun l:List Nat=>l[pre.length]?) e
    simp only[List.getElem?_append_right (Nat.le_refl _),Nat.sub_self,List.getElem?_cons_zero,List.getElem?_range hz]at this
    exact(Option.some.inj this).symm
   have:=congrArg (List.take pre.length) e
   rw[List.take_left' rfl,List.take_range,Nat.min_eq_left (Nat.le_of_lt hz)]at this
   rw[hk];exact this.symm
  have hk9:k<9:=by
   have:=congrArg List.length hpre
   rw[List.length_range]at this
   omega
  have okk:=okQ ⟨k,by omega⟩
  have rl:rs.length=k:=by
   have:=congrArg List.length hn
   rw[List.length_map,List.length_map,hpre,List.length_range]at this
   exact this
  let I:Option L:=some (.d (.int (k:Int)))
  have j0:=Int.emod_nonneg (u / 9) (by decide:(5:Int)≠0)
  have j1:=Int.emod_lt_of_pos (u / 9) (by decide:(0:Int)<5)
  generalize hj:(u / 9 % 5).toNat=j
  have hj5:j<5:=by omega
  have ej:u / 9 % 5=(j:Int):=by omega
  have z1:xA1 (st u rs nm I b c)=some (.nx (st u rs nm I (some (.d (eT (kS (kc j))))) c)):=by
   refine BI (d:=eT (kS (kc j))) (τ1:=st u rs nm I b c) (op2 (x:=.tuple [.str "group",.str "tiles",.str "group",.str "glass",.str "group"]) (y:=.int (j:Int)) (τ1:=st u rs nm I b c) rfl (op2 (x:=.int (u / 9)) (y:=.int 5) (τ1:=st u rs nm I b c) (op2 (x:=.int u) (y:=.int 9) (τ1:=st u rs nm I b c) rfl rfl (ED (by decide) (by decide))) rfl (by rw[C7 (by decide),ej])) ?_) (Em (o:=b) rfl nb)
   exact five (P:=fun j=>Ai (.tuple [.str "group",.str "tiles",.str "group",.str "glass",.str "group"]) (.int (j:Int))=some (eT (kS (kc j)))) rfl rfl rfl rfl rfl hj5
  have z2:xA2 (st u rs nm I (some (.d (eT (kS (kc j))))) c)=some (.nx (st u rs nm I (some (.d (eT (kS (kc j))))) (some (.d (eD (dj j)))))):=by
   refine BI (d:=eD (dj j)) (τ1:=st u rs nm I (some (.d (eT (kS (kc j))))) c) ?_ (Em (o:=c) rfl nc)
   exact five (P:=fun j=>Ot xKD (AD 4) (st u rs nm I (some (.d (eT (kS (kc j))))) c)=some (eD (dj j),st u rs nm I (some (.d (eT (kS (kc j))))) c)) rfl rfl rfl rfl rfl hj5
  let K4:Option L:=some (.d (eT (kS (kc j))))
  let D5:Option L:=some (.d (eD (dj j)))
  let r:Rz:=⟨nT "q" k,nm,(k:Int),-(k:Int),true,dj j⟩
  obtain⟨dk,kk⟩:=i0 j
  have er:eZ r = .tuple [eT (nT "q" k),eT nm,.int (k:Int),.int (-(k:Int)),.bool true,eT (kS (kc j)),eD (dj j)]:=by
   show PyData.tuple [_,_,_,_,_,eT (kS (kz (dj j))),_]=_
   rw[kk]
  have cat:∀rs:List Rz,dOp Gx (dC (.str "q")) (BD Kt (AA (AD 3) AI)) (st u rs nm I K4 D5)=some (eT (nT "q" k),st u rs nm I K4 D5):=fun rs=>eo (by decide) okk rfl
  have z3:xA3 (st u rs nm I K4 D5)=some (.nx (st u (rs++[r]) nm I K4 D5)):=by
   refine(Vk (i:=1) (d:=eZ r) (xs:=rs.map eZ) (τ1:=st u rs nm I K4 D5) (acc (W8 (ds:=[eT (nT "q" k),eT nm,.int (k:Int),.int (-(k:Int)),.bool true,eT (kS (kc j)),eD (dj j)]) (acc (cat rs) rfl) rfl (by decide:7<=1000) |>.trans (by rw[er])) rfl) rfl (by rw[List.length_map];omega)).trans ?_
   show some (Out.nx [some (.d (.int u)),some (.m (rs.map eZ++[eZ r])),some (.d (eT nm)),I,K4,D5])=_
   rw[show rs.map eZ++[eZ r]=(rs++[r]).map eZ by rw[List.map_append];rfl]
  have z4:xA4 (st u (rs++[r]) nm I K4 D5)=some (.nx (st u (rs++[r]) (nT "q" k) I K4 D5)):=BI (cat _) rfl
  have z5:xA5 (st u (rs++[r]) (nT "q" k) I K4 D5)=some (.nx (st (u / 5) (rs++[r]) (nT "q" k) I K4 D5)):=BI (op2 (x:=.int u) (y:=.int 5) (τ1:=st u (rs++[r]) (nT "q" k) I K4 D5) rfl rfl (ED (by decide) (by decide))) rfl
  have no:=ey okk
  refine⟨st u rs nm I b c,st (u / 5) (rs++[r]) (nT "q" k) I K4 D5,Em (o:=a) rfl na,(AV z1).trans ((AV z2).trans ((AV z3).trans ((AV z4).trans z5))),u / 5,rs++[r],nT "q" k,I,K4,D5,C6,C6,C6,?_,?_,.inr ⟨r,List.mem_append_right _ (List.mem_singleton.mpr rfl),rfl⟩,rfl⟩
  ·show OkR (rs++[r]).reverse
   rw[show(rs++[r]).reverse=r::rs.reverse by simp]
   refine⟨ok,⟨no.n1,no.n8,no.na,by show(-60:Int)<=(k:Int);omega,by show(k:Int)<=60;omega,by show(-60:Int)<=-(k:Int);omega,by show -(k:Int)<=60;omega,dk⟩,fun q hq e=>?_,hnm.imp id fun⟨q,hq,e⟩=>⟨q,List.mem_reverse.mpr hq,e⟩⟩
   have hm:q.n∈rs.map (·.n):=List.mem_map.mpr ⟨q,List.mem_reverse.mp hq,rfl⟩
   rw[hn,hpre]at hm
   obtain⟨i,hi,ei⟩:=List.mem_map.mp hm
   have hi':=List.mem_range.mp hi
   have e2:(nT "q" i).1=(nT "q" k).1:=by rw[ei,show q.n=nT "q" k from e]
   rw[Ya (okQ ⟨i,by omega⟩),Ya okk]at e2
   have:=congrArg Fin.val (fy ⟨i,by omega⟩ ⟨k,hk9⟩ e2)
   have:i=k:=this
   omega
  ·rw[List.map_append,List.map_append,hn];rfl
 obtain⟨τ',e,u,rs,nm,a,b,c,na,nb,nc,ok,hn,_,rfl⟩:=lp
 rw[<- N9]at e
 refine⟨rs,[.d (.int v)],?_,ok,?_⟩
 ·unfold GJ
  refine A6 (τ:=st u rs nm a b c) ?_ rfl rfl
  exact(AV (τ1:=[some (.d (.int v)),some (.m []),none,none,none,none]) rfl).trans ((AV (τ1:=st v [] t0 none none none) rfl).trans ((AV ((Hd (Tz (n:=v % 9) (τ1:=st v [] t0 none none none) (acc (op2 (x:=.int v) (y:=.int 9) (τ1:=st v [] t0 none none none) rfl rfl (C7 (by decide))) rfl) (by omega) (by omega))).trans e)).trans rfl))
 ·have:=congrArg List.length hn
  rw[List.length_map,List.length_map,List.length_range]at this
  omega
def sT:Tx:=⟨"strange",∅⟩
theorem iE:OkN sT:=⟨∅,∅,by unfold IJ;decide +kernel⟩
theorem aq{rs:List Rz}{r:Rz}(hl:rs.length<=40)(hn:∀q∈rs,OkN q.n)(ok:OkRow r)(hh:r.h=t0\/OkN r.h)(v:Int):∃(r':Rz) (ls:List L),HX [.d (.list (rs.map eZ)),.d (eZ r),.d (.int v)]=some (eZ r',ls)/\OkL r':=by
 let D:PyData:=.list (rs.map eZ)
 let NN:List Tx:=rs.map (·.n)++[sT]
 have okN:∀t∈NN,OkN t:=fun t ht=>by
  rcases List.mem_append.mp ht with h|h
  ·obtain⟨q,hq,rfl⟩:=List.mem_map.mp h
   exact hn q hq
  ·rw[List.mem_singleton.mp h];exact iE
 have nl:NN.length=rs.length+1:=by show(rs.map (·.n)++[sT]).length=_;rw[List.length_append,List.length_map];rfl
 let st:Option L->Option L->Option L->DS:=fun a b c=>[some (.d D),some (.d (eZ r)),some (.d (.int v)),a,b,c]
 let A:Option L:=some (.d (.int (v % 18)))
 let B:Option L:=some (.d (.list (NN.map eT)))
 have z1:Am (dOp BQ (AD 2) (dC (.int 18))) (dN 3) (st none none none)=some (.nx (st A none none)):=BI (op2 (x:=.int v) (y:=.int 18) (τ1:=st none none none) rfl rfl (C7 (by decide))) rfl
 have z2:Am (dOp Wg (dLC 1 [] (dIL (AD 0)) (dN 0) Ek (dOp Ai (AD 0) (dC (.int 0)))) (IZ (AA (dC (.str "strange")) AI))) (dN 4) (st A none none)=some (.nx (st A B none)):=by
  have lc:dLC 1 [] (dIL (AD 0)) (dN 0) Ek (dOp Ai (AD 0) (dC (.int 0))) (st A none none)=some (.list ((rs.map (·.n)).map eT),st A none none):=by
   have:=lcg (enc:=eZ) (rs:=rs) (τ:=st A none none) (fr:=[]) (it:=dIL (AD 0)) (ex:=[]) (c:=Ek) (e:=dOp Ai (AD 0) (dC (.int 0))) (fun _=>true) (fun r=>eT r.n) rfl (by omega) rfl rfl (fun r _=>rfl) (fun r _ _=>rfl)
   rw[this,FN,List.map_map];rfl
  refine BI (d:=.list (NN.map eT)) (op2 (x:=.list ((rs.map (·.n)).map eT)) (y:=.list [eT sT]) (τ1:=st A none none) lc rfl ?_) rfl
  show(if ((rs.map (·.n)).map eT).length+[eT sT].length<=sizeLine then some (PyData.list ((rs.map (·.n)).map eT++[eT sT])) else none)=some (.list ((rs.map (·.n)++[sT]).map eT))
  rw[if_pos (sz (by rw[List.length_map,List.length_map];simp only[List.length_cons,List.length_nil];omega)),List.map_append];rfl
 have m0:=Int.emod_nonneg (v / 18) (by omega:((rs.length:Int)+1)≠0)
 have m1:=Int.emod_lt_of_pos (v / 18) (by omega:(0:Int)<(rs.length:Int)+1)
 obtain⟨s,es,hs⟩:=F5 (enc:=eT) (xs:=NN) (k:=v / 18 % ((rs.length:Int)+1)) m0 (by rw[nl];push_cast;exact m1)
 have oks:OkN s:=okN s (List.mem_of_getElem? hs)
 let C:Option L:=some (.d (eT s))
 have z3:Am (dOp MU (AD 4) (dOp BQ (dOp Bw (AD 2) (dC (.int 18))) (BD B9 (AA (AD 4) AI)))) (dN 5) (st A B none)=some (.nx (st A B C)):=by
  refine BI (d:=eT s) (op2 (x:=.list (NN.map eT)) (y:=.int (v / 18 % ((rs.length:Int)+1))) (τ1:=st A B none) rfl (op2 (x:=.int (v / 18)) (y:=.int ((rs.length:Int)+1)) (τ1:=st A B none) (op2 (x:=.int v) (y:=.int 18) (τ1:=st A B none) rfl rfl (ED (by decide) (by decide))) (Gj (d:=.list (NN.map eT)) (τ1:=st A B none) rfl (by show some (PyData.int ((NN.map eT).length:Nat))=_;rw[List.length_map,nl];push_cast;rfl)) (C7 (by omega))) es) rfl
 let τ:=st A B C
 have q:∀n:Int,AN (dOp fEq (AD 3) (dC (.int n))) τ=some (decide (v % 18=n),τ):=fun n=>tst (op2 (x:=.int (v % 18)) (y:=.int n) (τ1:=τ) rfl rfl (eqI _ _))
 have fin:∀{d:PyData} {b:DB},b τ=some (.rt d τ)->BW false 3 3 (AY (Am (dOp BQ (AD 2) (dC (.int 18))) (dN 3)) (AY (Am (dOp Wg (dLC 1 [] (dIL (AD 0)) (dN 0) Ek (dOp Ai (AD 0) (dC (.int 0)))) (IZ (AA (dC (.str "strange")) AI))) (dN 4)) (AY (Am (dOp MU (AD 4) (dOp BQ (dOp Bw (AD 2) (dC (.int 18))) (BD B9 (AA (AD 4) AI)))) (dN 5)) b))) [.d D,.d (eZ r),.d (.int v)]=some (d,[.d D,.d (eZ r),.d (.int v)]):=fun k=>A6 (τ:=τ) ((AV z1).trans ((AV z2).trans ((AV z3).trans k))) rfl rfl
 unfold HX
 by_cases h0:v % 18=0
 ·refine⟨{ r with n:=s },_,fin (tkT (by rw[q,decide_eq_true h0]) rfl),⟨⟨oks.n1,oks.n8,oks.na,by show(-60:Int)<=0;decide,by show(0:Int)<=60;decide,ok.y0,ok.y1,ok.d⟩,ok.x0,hh⟩⟩
 by_cases h1:v % 18=1
 ·refine⟨{ r with h:=s },_,fin ((skT (by rw[q,decide_eq_false h0])).trans (tkT (by rw[q,decide_eq_true h1]) rfl)),⟨⟨ok.n1,ok.n8,ok.na,by show(-60:Int)<=0;decide,by show(0:Int)<=60;decide,ok.y0,ok.y1,ok.d⟩,ok.x0,.inr oks⟩⟩
 by_cases h2:v % 18=2
 ·have k0:=Int.emod_nonneg (v / 18) (by decide:(9:Int)≠0)
  refine⟨{ r with x:=61+v / 18 % 9 },_,fin ((skT (by rw[q,decide_eq_false h0])).trans ((skT (by rw[q,decide_eq_false h1])).trans (tkT (by rw[q,decide_eq_true h2]) (Bp ?_)))),⟨⟨ok.n1,ok.n8,ok.na,by show(-60:Int)<=0;decide,by show(0:Int)<=60;decide,ok.y0,ok.y1,ok.d⟩,by show(-60:Int)<=61+v / 18 % 9;omega,hh⟩⟩
  have x1:Be (AA (dOp CK (dC (.int 61)) (dOp BQ (dOp Bw (AD 2) (dC (.int 18))) (dC (.int 9)))) AI) τ=some (.tuple [.int (61+v / 18 % 9)],τ):=W8 (ds:=[.int (61+v / 18 % 9)]) (acc (op2 (x:=.int 61) (y:=.int (v / 18 % 9)) (τ1:=τ) rfl (op2 (x:=.int (v / 18)) (y:=.int 9) (τ1:=τ) (op2 (x:=.int v) (y:=.int 18) (τ1:=τ) rfl rfl (ED (by decide) (by decide))) rfl (C7 (by decide))) rfl) rfl) rfl (by decide:1<=1000)
  exact op2 (x:=.tuple [eT r.n,eT r.h,.int (61+v / 18 % 9)]) (y:=.tuple [.int r.y,.bool r.s,eT (kS (kz r.d)),eD r.d]) (τ1:=τ) (op2 (x:=.tuple [eT r.n,eT r.h]) (y:=.tuple [.int (61+v / 18 % 9)]) (τ1:=τ) rfl x1 rfl) rfl rfl
 ·exact⟨r,_,fin ((skT (by rw[q,decide_eq_false h0])).trans ((skT (by rw[q,decide_eq_false h1])).trans ((skT (by rw[q,decide_eq_false h2])).trans rfl))),OkL.of ok hh⟩
abbrev wB1:DB:=Am (Bj 0 Jx (AA (dOp CK (dC (.int 1)) (AD 4)) AI)) (dN 5)
abbrev wB2:DB:=Am (Gm 3 (AU HW (AA (AD 3) (AA (dOp Bw (AD 5) (dC (.int 1800))) AI)))) (dGT (BE (dN 6) (BE (dN 7) Cy)))
abbrev wC3:DT:=Fh 2 (AN (dOp (fIn false) (dOp Ai (AD 6) (dC (.int 0))) (dLC 1 [] (dIL (AD 2)) (dN 0) Ek (dOp Ai (AD 0) (dC (.int 0))))))
abbrev wA3:DB:=Am (dOp NU (Be (AA (dOp Gx (dC (.str "z")) (BD Kt (AA (AD 4) AI))) AI)) (Li (AD 6) (dPt (dC (.int 1))) Kw)) (dN 6)
abbrev wB4:DB:=C3 (dMt 2 Bs (AA (Gm 2 (AU HX (AA (AD 2) (AA (AD 6) (AA (AD 5) AI))))) AI))
abbrev wC5:DT:=Fh 3 (Ci (AN (dOp fGt (dOp BQ (AD 5) (dC (.int 18))) (dC (.int 2)))) (AN (dOp (fIn true) (dOp Ai (AD 6) (dC (.int 0))) (dLC 1 [] (dIL (AD 3)) (dN 0) Ek (dOp Ai (AD 0) (dC (.int 0)))))))
abbrev wA5:DB:=C3 (dMt 3 Bs (AA (AD 6) AI))
def wS(C:Option L)(v:Int)(rs gs:List Rz)(o4 o5 o6 o7 o8:Option L):DS:=[C,some (.d (.int v)),some (.m (rs.map eZ)),some (.m (gs.map eZ)),o4,o5,o6,o7,o8]
theorem WH{rs:List Rz}(hl:rs.length<=40){i:Nat}{τ:DS}(hi:dIL (AD i) τ=some (rs.map eZ,τ))(hb:Tq 1 [] τ=[none]):dLC 1 [] (dIL (AD i)) (dN 0) Ek (dOp Ai (AD 0) (dC (.int 0))) τ=some (.list ((rs.map (·.n)).map eT),τ):=by
 have:=lcg (enc:=eZ) (rs:=rs) (τ:=τ) (fr:=[]) (it:=dIL (AD i)) (ex:=[]) (c:=Ek) (e:=dOp Ai (AD 0) (dC (.int 0))) (fun _=>true) (fun r=>eT r.n) hi (by omega) rfl hb (fun r _=>rfl) (fun r _ _=>rfl)
 rw[this,FN,List.map_map];rfl
theorem dm{ns:List Int}{v:Int}{rs gs:List Rz}{k:Nat}(hk:k<28)(hr:∀r∈rs,OkL r)(hg:OkZ gs)(hrl:rs.length<=8+k)(hgl:gs.length<=8+k){o5 o6 o7:Option L}(n5:nM o5)(n6:nM o6)(n7:nM o7) :
  ∃rs' gs' a b c,nM a/\nM b/\nM c/\(∀r∈rs',OkL r)/\OkZ gs'/\rs'.length=rs.length+1/\gs'.length<=gs.length+1 /\
   AY wB1 (AY wB2 (AY (A4 wC3 wA3 A2) (AY wB4 (A4 wC5 wA5 A2)))) (wS (some (.c (ns.map .int))) v rs gs (some (.d (.int (k:Int)))) o5 o6 o7 none)=some (.nx (wS (some (.c (ns.map .int))) v rs' gs' (some (.d (.int (k:Int)))) a b c none)):=by
 let C:Option L:=some (.c (ns.map .int))
 let I:Int->Option L:=fun i=>some (.d (.int i))
 let st:List Rz->List Rz->Option L->Option L->Option L->DS:=fun rs gs a b c=>wS C v rs gs (I (k:Int)) a b c none
 let b2:List Rz->List Rz->Option L->Option L->Option L->DS:=fun rs gs a b c=>[C,I v,some (.d (.list (rs.map eZ))),some (.m (gs.map eZ)),I (k:Int),a,b,c,none]
 let b3:List Rz->List Rz->Option L->Option L->Option L->DS:=fun rs gs a b c=>[C,I v,some (.m (rs.map eZ)),some (.d (.list (gs.map eZ))),I (k:Int),a,b,c,none]
 have ok2:∀rs gs a b c,nM a->nM b->nM c->(b2 rs gs a b c).all okM=true:=fun rs gs a b c h4 h5 h6=>by
  show(true&&(true&&(true&&(fixDs (gs.map eZ)&&(true&&(okM a&&(okM b&&(okM c&&(true&&true)))))))))=true
  rw[GS h4,GS h5,GS h6,R3];rfl
 have ok3:∀rs gs a b c,nM a->nM b->nM c->(b3 rs gs a b c).all okM=true:=fun rs gs a b c h4 h5 h6=>by
  show(true&&(true&&(fixDs (rs.map eZ)&&(true&&(true&&(okM a&&(okM b&&(okM c&&(true&&true)))))))))=true
  rw[GS h4,GS h5,GS h6,R3];rfl
 obtain⟨u,l1,e1⟩:=fP (ns:=ns) (k:=1+(k:Int)) (by omega)
 obtain⟨r,w,l2,e2,okr,hh,_⟩:=Ww hg (by omega) (u / 1800)
 have hh':r.h=t0\/OkN r.h:=hh.imp id fun⟨q,hq,e,_⟩=>e▸(OkR.all hg q (List.mem_reverse.mpr hq)).nm
 have z1:wB1 (st rs gs o5 o6 o7)=some (.nx (st rs gs (I u) o6 o7)):=BI (d:=.int u) (τ1:=st rs gs o5 o6 o7) (SX (xs:=ns.map .int) (τ1:=st rs gs o5 o6 o7) (rs:=[.d (.int (1+(k:Int)))]) (ds:=[.int (1+(k:Int))]) rfl rfl rfl e1) (Em (o:=o5) rfl n5)
 let X:Rz->Option L:=fun r=>some (.d (eZ r))
 have z2:wB2 (st rs gs (I u) o6 o7)=some (.nx (st rs gs (I u) (X r) (I w))):=by
  refine BI (d:=.tuple [eZ r,.int w]) (τ1:=st rs gs (I u) o6 o7) (Z0 (i:=3) (xs:=gs.map eZ) rfl ?_ ?_ (ok3 rs gs (I u) o6 o7 C6 n6 n7)) ?_
  ·exact AZ (τ1:=b3 rs gs (I u) o6 o7) (rs:=[.d (.list (gs.map eZ)),.d (.int (u / 1800))]) (ds:=[.list (gs.map eZ),.int (u / 1800)]) (acc (τ1:=b3 rs gs (I u) o6 o7) rfl (acc (op2 (x:=.int u) (y:=.int 1800) (τ1:=b3 rs gs (I u) o6 o7) rfl rfl (ED (by decide) (by decide))) rfl)) rfl e2
  ·show(GN (eZ r)&&(true&&true))=true
   rw[encZ.fix];rfl
  ·show(dN 6 (eZ r) (st rs gs (I u) o6 o7)).bind _=_
   rw[Em (o:=o6) rfl n6]
   show(dN 7 (.int w) (st rs gs (I u) (X r) o7)).bind _=_
   rw[Em (o:=o7) rfl n7];rfl
 have c3:wC3 (st rs gs (I u) (X r) (I w))=some (decide (r.n∈rs.map (·.n)),st rs gs (I u) (X r) (I w)) :=
  Qu (i:=2) (xs:=rs.map eZ) (τ1:=b2 rs gs (I u) (X r) (I w)) rfl (tst (op2 (x:=eT r.n) (y:=.list ((rs.map (·.n)).map eT)) (τ1:=b2 rs gs (I u) (X r) (I w)) (op2 (x:=eZ r) (y:=.int 0) (τ1:=b2 rs gs (I u) (X r) (I w)) rfl rfl rfl) (WH (by omega) rfl rfl) (inL _ _))) (ok2 rs gs (I u) (X r) (I w) C6 C6 C6)
 have okz:=okZ ⟨k,by omega⟩
 have zn:=ey okz
 have z3:∃r1:Rz,OkRow r1/\(r1.h=t0\/OkN r1.h)/\r1.h=r.h/\A4 wC3 wA3 A2 (st rs gs (I u) (X r) (I w))=some (.nx (st rs gs (I u) (X r1) (I w))):=by
  by_cases hn:r.n∈rs.map (·.n)
  ·rw[decide_eq_true hn]at c3
   refine⟨{ r with n:=nT "z" k },⟨zn.n1,zn.n8,zn.na,okr.x0,okr.x1,okr.y0,okr.y1,okr.d⟩,hh',rfl,(Je c3).trans (BI (d:=eZ { r with n:=nT "z" k }) (τ1:=st rs gs (I u) (X r) (I w)) ?_ rfl)⟩
   exact op2 (x:=.tuple [eT (nT "z" k)]) (y:=.tuple [eT r.h,.int r.x,.int r.y,.bool r.s,eT (kS (kz r.d)),eD r.d]) (τ1:=st rs gs (I u) (X r) (I w)) (W8 (ds:=[eT (nT "z" k)]) (acc (eo (by decide) okz rfl) rfl) rfl (by decide:1<=1000)) rfl rfl
  ·rw[decide_eq_false hn]at c3
   exact⟨r,okr,hh',rfl,(EC c3).trans rfl⟩
 obtain⟨r1,ok1,hh1,eh,z3⟩:=z3
 obtain⟨r2,l4,e4,okl2⟩:=aq (rs:=rs) (by omega) (fun q hq=>⟨(hr q hq).c.n1,(hr q hq).c.n8,(hr q hq).c.na⟩) ok1 hh1 u
 have z4:wB4 (st rs gs (I u) (X r1) (I w))=some (.nx (st (rs++[r2]) gs (I u) (X r1) (I w))):=by
  have bo:Gm 2 (AU HX (AA (AD 2) (AA (AD 6) (AA (AD 5) AI)))) (st rs gs (I u) (X r1) (I w))=some (eZ r2,st rs gs (I u) (X r1) (I w)) :=
   Z0 (i:=2) (xs:=rs.map eZ) rfl (AZ (τ1:=b2 rs gs (I u) (X r1) (I w)) (rs:=[.d (.list (rs.map eZ)),.d (eZ r1),.d (.int u)]) (ds:=[.list (rs.map eZ),eZ r1,.int u]) rfl rfl e4) (encZ.fix _) (ok2 rs gs (I u) (X r1) (I w) C6 C6 C6)
  refine(Vk (i:=2) (d:=eZ r2) (xs:=rs.map eZ) (τ1:=st rs gs (I u) (X r1) (I w)) (acc bo rfl) rfl (by rw[List.length_map];omega)).trans ?_
  show some (Out.nx [C,I v,some (.m (rs.map eZ++[eZ r2])),some (.m (gs.map eZ)),I (k:Int),I u,X r1,I w,none])=_
  rw[show rs.map eZ++[eZ r2]=(rs++[r2]).map eZ by rw[List.map_append];rfl];rfl
 let rs2:=rs++[r2]
 have hr2:∀q∈rs2,OkL q:=fun q hq=>(List.mem_append.mp hq).elim (hr q) fun z=>by rw[List.mem_singleton.mp z];exact okl2
 have c5:wC5 (st rs2 gs (I u) (X r1) (I w))=some (decide (u % 18>2)&&!decide (r1.n∈gs.map (·.n)),st rs2 gs (I u) (X r1) (I w)) :=
  Qu (i:=3) (xs:=gs.map eZ) (τ1:=b3 rs2 gs (I u) (X r1) (I w)) rfl (YD (tst (op2 (x:=.int (u % 18)) (y:=.int 2) (τ1:=b3 rs2 gs (I u) (X r1) (I w)) (op2 (x:=.int u) (y:=.int 18) (τ1:=b3 rs2 gs (I u) (X r1) (I w)) rfl rfl (C7 (by decide))) rfl rfl)) fun _=>tst (op2 (x:=eT r1.n) (y:=.list ((gs.map (·.n)).map eT)) (τ1:=b3 rs2 gs (I u) (X r1) (I w)) (op2 (x:=eZ r1) (y:=.int 0) (τ1:=b3 rs2 gs (I u) (X r1) (I w)) rfl rfl rfl) (WH (by omega) rfl rfl) (jb _ _))) (ok3 rs2 gs (I u) (X r1) (I w) C6 C6 C6)
 have rl2:rs2.length=rs.length+1:=by show(rs++[r2]).length=_;rw[List.length_append];rfl
 have pre:∀{o:Option Out},A4 wC5 wA5 A2 (st rs2 gs (I u) (X r1) (I w))=o->AY wB1 (AY wB2 (AY (A4 wC3 wA3 A2) (AY wB4 (A4 wC5 wA5 A2)))) (st rs gs o5 o6 o7)=o:=fun h=>(AV z1).trans ((AV z2).trans ((AV z3).trans ((AV z4).trans h)))
 cases hc:(decide (u % 18>2)&&!decide (r1.n∈gs.map (·.n))) with
 |false =>
  rw[hc]at c5
  exact⟨rs2,gs,I u,X r1,I w,C6,C6,C6,hr2,hg,rl2,Nat.le_succ _,pre ((EC c5).trans rfl)⟩
 |true =>
  rw[hc]at c5
  rw[Bool.and_eq_true,Bool.not_eq_true',decide_eq_false_iff_not]at hc
  refine⟨rs2,gs++[r1],I u,X r1,I w,C6,C6,C6,hr2,?_,rl2,by rw[List.length_append];exact Nat.le_refl _,pre ((Je c5).trans ?_)⟩
  ·show OkR (gs++[r1]).reverse
   rw[show(gs++[r1]).reverse=r1::gs.reverse by simp]
   exact⟨hg,ok1,fun q hq z=>hc.2 (List.mem_map.mpr ⟨q,List.mem_reverse.mp hq,z⟩),by rw[eh];exact hh.imp id fun⟨q,hq,e,_⟩=>⟨q,List.mem_reverse.mpr hq,e⟩⟩
  ·refine(Vk (i:=3) (d:=eZ r1) (xs:=gs.map eZ) (τ1:=st rs2 gs (I u) (X r1) (I w)) rfl rfl (by rw[List.length_map];omega)).trans ?_
   show some (Out.nx [C,I v,some (.m (rs2.map eZ)),some (.m (gs.map eZ++[eZ r1])),I (k:Int),I u,X r1,I w,none])=_
   rw[show gs.map eZ++[eZ r1]=(gs++[r1]).map eZ by rw[List.map_append];rfl];rfl
theorem bX{s:Str}(h:PyData.strOk s=true):fEq (.str s) (.str s)=some (.bool true):=(Ta ⟨s,h⟩ ⟨s,h⟩).trans (by rw[decide_eq_true rfl])
theorem fV:∀n:_root_.Fin 6,PyData.strOk (whS n.1)=true:=∅
theorem dY{o:Option Nat}(h:∀n,o=some n->n<6):fEq (.str (Y9 o)) (.str (Y9 o))=some (.bool true):=by
 cases o with
 |none=>exact bX ∅
 |some n=>exact bX (fV ⟨n,h n rfl⟩)
theorem WR(ns:List Int)(h63:ns.length<=63):∃ls,Rc [.c (ns.map .int)]=some (.bool true,ls):=by
 let C:Option L:=some (.c (ns.map .int))
 let I:Int->Option L:=fun i=>some (.d (.int i))
 obtain⟨v,l1,e1⟩:=fP (ns:=ns) (k:=0) (by decide)
 let s1:Option L->Option L->DS:=fun a b=>[C,I v,a,b,none,none,none,none,none]
 have z1:Am (Bj 0 Jx (AA (dC (.int 0)) AI)) (dN 1) [C,none,none,none,none,none,none,none,none]=some (.nx (s1 none none)):=BI (d:=.int v) (τ1:=[C,none,none,none,none,none,none,none,none]) (SX (xs:=ns.map .int) (τ1:=[C,none,none,none,none,none,none,none,none]) (rs:=[.d (.int 0)]) (ds:=[.int 0]) rfl rfl rfl e1) rfl
 let M:List Rz->Option L:=fun rs=>some (.m (rs.map eZ))
 have c3:AN (dOp fEq (dOp BQ (AD 1) (dC (.int 3))) (dC (.int 1))) (s1 (M []) none)=some (decide (v % 3=1),s1 (M []) none):=tst (op2 (x:=.int (v % 3)) (y:=.int 1) (τ1:=s1 (M []) none) (op2 (x:=.int v) (y:=.int 3) (τ1:=s1 (M []) none) rfl rfl (C7 (by decide))) rfl (eqI _ _))
 have z3:∃rs,OkZ rs/\rs.length<=8/\A4 (AN (dOp fEq (dOp BQ (AD 1) (dC (.int 3))) (dC (.int 1)))) (Il 1 2 (AU GJ (AA (dOp Bw (AD 1) (dC (.int 3))) AI))) A2 (s1 (M []) none)=some (.nx (s1 (M rs) none)):=by
  by_cases hv:v % 3=1
  ·rw[decide_eq_true hv]at c3
   obtain⟨rs,l3,e3,ok,hl⟩:=X1 (v / 3)
   exact⟨rs,ok,hl,(Je c3).trans (YL (xs:=rs.map eZ) (τ1:=s1 (M []) none) (AZ (τ1:=s1 (M []) none) (rs:=[.d (.int (v / 3))]) (ds:=[.int (v / 3)]) (acc (op2 (x:=.int v) (y:=.int 3) (τ1:=s1 (M []) none) rfl rfl (ED (by decide) (by decide))) rfl) rfl e3) (by decide) (by decide:2<9) rfl)⟩
  ·rw[decide_eq_false hv]at c3
   exact⟨[],trivial,Nat.zero_le _,(EC c3).trans rfl⟩
 obtain⟨rs0,ok0,hl0,z3⟩:=z3
 have z4:Il 1 3 (FF 2 (BD FO (AA (AD 2) AI))) (s1 (M rs0) none)=some (.nx (wS C v rs0 rs0 none none none none none)) :=
  YL (xs := rs0.map eZ) (τ1 := s1 (M rs0) none) (Z1 (i := 2) (xs := rs0.map eZ) rfl (Gj (d := .list (rs0.map eZ)) (τ1 := s1 (some (.d (.list (rs0.map eZ)))) none) rfl rfl) (R3 _) rfl) (by decide) (by decide : 3 < 9) (by
   show(true&&(true&&(fixDs (rs0.map eZ)&&(true&&(true&&(true&&(true&&(true&&(true&&true)))))))))=true
   rw[R3];rfl)
 have m0:=Int.emod_nonneg (v / 7) (by decide:(28:Int)≠0)
 have m1:=Int.emod_lt_of_pos (v / 7) (by decide:(0:Int)<28)
 have lp:∃τ',Df (dN 4) (AY wB1 (AY wB2 (AY (A4 wC3 wA3 A2) (AY wB4 (A4 wC5 wA5 A2))))) ((List.range (v / 7 % 28).toNat).map fun(k:Nat)=>PyData.int (k:Int)) (wS C v rs0 rs0 none none none none none)=some (.nx τ')/\∃rs gs a b c d,nM a/\nM b/\nM c/\nM d/\(∀r∈rs,OkL r)/\OkZ gs/\rs.length<=8+(List.range (v / 7 % 28).toNat).length/\gs.length<=8+(List.range (v / 7 % 28).toNat).length/\τ'=wS C v rs gs a b c d none:=by
  refine(IH (fun(pre:List Nat) τ=>∃rs gs a b c d,nM a/\nM b/\nM c/\nM d/\(∀r∈rs,OkL r)/\OkZ gs/\rs.length<=8+pre.length/\gs.length<=8+pre.length/\τ=wS C v rs gs a b c d none) ⟨rs0,rs0,none,none,none,none,CM,CM,CM,CM,fun r hr=>OkR.L ok0 r (List.mem_reverse.mpr hr),ok0,hl0,hl0,rfl⟩ ?_)
  rintro pre k post τ e ⟨rs,gs,a,b,c,d,na,nb,nc,nd,hr,hg,hrl,hgl,rfl⟩
  have hz:=F7 e
  rw[List.length_range]at hz
  have hk:k=pre.length:=by
   have:=congrArg (fun l:List Nat=>l[pre.length]?) e
   simp only[List.getElem?_append_right (Nat.le_refl _),Nat.sub_self,List.getElem?_cons_zero,List.getElem?_range hz]at this
   exact(Option.some.inj this).symm
  obtain⟨rs',gs',a',b',c',na',nb',nc',hr',hg',hrl',hgl',eb⟩:=dm (ns:=ns) (v:=v) (k:=k) (by omega) hr hg (by omega) (by omega) nb nc nd
  exact⟨wS C v rs gs (some (.d (.int (k:Int)))) b c d none,_,Em (o:=a) rfl na,eb,rs',gs',_,a',b',c',C6,na',nb',nc',hr',hg',by rw[List.length_append];simp only[List.length_cons,List.length_nil];omega,by rw[List.length_append];simp only[List.length_cons,List.length_nil];omega,rfl⟩
 obtain⟨τ',e,rs,gs,a,b,c,d,na,nb,nc,nd,hr,hg,hrl,hgl,rfl⟩:=lp
 rw[<- N9]at e
 rw[List.length_range]at hrl hgl
 have hl:rs.length<=40:=by omega
 let H:Option L:=some (.d (.list (rs.map eZ)))
 have okb:∀o:Option L,nM o->([C,I v,H,some (.m (gs.map eZ)),a,b,c,d,o]:DS).all okM=true:=fun o ho=>by
  show(true&&(true&&(true&&(fixDs (gs.map eZ)&&(okM a&&(okM b&&(okM c&&(okM d&&(okM o&&true)))))))))=true
  rw[GS na,GS nb,GS nc,GS nd,GS ho,R3];rfl
 have z8:Am (FF 2 (BD FO (AA (AD 2) AI))) (dN 8) (wS C v rs gs a b c d none)=some (.nx (wS C v rs gs a b c d H)) :=
  BI (d:=.list (rs.map eZ)) (τ1:=wS C v rs gs a b c d none) (Z1 (i:=2) (xs:=rs.map eZ) rfl (Gj (d:=.list (rs.map eZ)) (τ1:=[C,I v,H,some (.m (gs.map eZ)),a,b,c,d,none]) rfl rfl) (R3 _) (okb none CM)) rfl
 obtain⟨l9,e9⟩:=iz hr hl
 have z9:A0 (Gm 2 (C9 (dOp fEq (AU IE (AA (AD 8) AI)) (AU Ml (AA (AD 2) AI))) (dOp fEq (AD 8) (AD 2)))) (wS C v rs gs a b c d H)=some (.rt (.bool true) (wS C v rs gs a b c d H)):=by
  let τb:DS:=[C,I v,H,some (.m (gs.map eZ)),a,b,c,d,H]
  refine Bp (Z0 (i:=2) (xs:=rs.map eZ) rfl ?_ rfl (okb H C6))
  show C9 _ _ τb=some (.bool true,τb)
  refine(FU (τ1:=τb) (op2 (x:=.str (Y9 (Ts rs))) (y:=.str (Y9 (Ts rs))) (τ1:=τb) (AZ (τ1:=τb) (rs:=[.d (.list (rs.map eZ))]) (ds:=[.list (rs.map eZ)]) rfl rfl (fY hr hl)) (AZ (τ1:=τb) (rs:=[.d (.list (rs.map eZ))]) (ds:=[.list (rs.map eZ)]) rfl rfl e9) (dY fun n hn=>Y1 hn))).trans ?_
  exact op2 (x:=.list (rs.map eZ)) (y:=.list (rs.map eZ)) (τ1:=τb) rfl rfl ((encZ.fEqL rs rs).trans (by rw[decide_eq_true rfl]))
 refine⟨[.c (ns.map .int)],?_⟩
 unfold Rc
 refine A6 (τ:=wS C v rs gs a b c d H) ?_ rfl rfl
 exact(AV z1).trans ((AV (τ1:=s1 (M []) none) rfl).trans ((AV z3).trans ((AV z4).trans ((AV ((Hd (Tz (n:=v / 7 % 28) (τ1:=wS C v rs0 rs0 none none none none none) (acc (op2 (x:=.int (v / 7)) (y:=.int 28) (τ1:=wS C v rs0 rs0 none none none none none) (op2 (x:=.int v) (y:=.int 7) (τ1:=wS C v rs0 rs0 none none none none none) rfl rfl (ED (by decide) (by decide))) rfl (C7 (by decide))) rfl) (by omega) (by omega))).trans e)).trans ((AV z8).trans z9)))))
theorem all_mk{l:PySem.W.OpenLaw}{w:World}{K:PySem.W.Frag}{h:Heap}{mg:Str->Option Value}{fa:Addr}(X:K.In h)(G:h.Ns mainGlobals mg)(hfa:mg "law"=some (.ref fa))
  {f0:Addr} {g0:FuncData} (d0:DF K "_law_cell_at" GB f0 g0)
  {f1:Addr} {g1:FuncData} (d1:DF K "_law_big" FI f1 g1)
  {f2:Addr} {g2:FuncData} (d2:DF K "_law_chained" Ct f2 g2)
  {f3:Addr} {g3:FuncData} (d3:DF K "_law_name_of" ET f3 g3)
  {f4:Addr} {g4:FuncData} (d4:DF K "_law_step_of" Jp f4 g4)
  {f5:Addr} {g5:FuncData} (d5:DF K "_law_up" Ll f5 g5)
  {f6:Addr} {g6:FuncData} (d6:DF K "_law_low" Hi f6 g6)
  {f7:Addr} {g7:FuncData} (d7:DF K "_law_share_of" FH f7 g7)
  {f8:Addr} {g8:FuncData} (d8:DF K "_law_paint_of" Ea f8 g8)
  {f9:Addr} {g9:FuncData} (d9:DF K "_law_stencil_of" B1 f9 g9)
  {f10:Addr} {g10:FuncData} (d10:DF K "_law_size_of" H0 f10 g10)
  {f11:Addr} {g11:FuncData} (d11:DF K "_law_word_of" ES f11 g11)
  {f12:Addr} {g12:FuncData} (d12:DF K "_law_data_of" Bl f12 g12)
  {f13:Addr} {g13:FuncData} (d13:DF K "_law_kinds" Mi f13 g13)
  {f14:Addr} {g14:FuncData} (d14:DF K "_law_row_of" Bh f14 g14)
  {f15:Addr} {g15:FuncData} (d15:DF K "_law_other" EI f15 g15)
  {f16:Addr} {g16:FuncData} (d16:DF K "row_name" K0 f16 g16)
  {f17:Addr} {g17:FuncData} (d17:DF K "row_found" E4 f17 g17)
  {f18:Addr} {g18:FuncData} (d18:DF K "is_text_of" CY f18 g18)
  {f19:Addr} {g19:FuncData} (d19:DF K "is_name" JF f19 g19)
  {f20:Addr} {g20:FuncData} (d20:DF K "is_truth" G9 f20 g20)
  {f21:Addr} {g21:FuncData} (d21:DF K "is_whole" Fo f21 g21)
  {f22:Addr} {g22:FuncData} (d22:DF K "is_within" E5 f22 g22)
  {f23:Addr} {g23:FuncData} (d23:DF K "common_divisor" CD f23 g23)
  {f24:Addr} {g24:FuncData} (d24:DF K "is_share" DR f24 g24)
  {f25:Addr} {g25:FuncData} (d25:DF K "is_bounded_share" DU f25 g25)
  {f26:Addr} {g26:FuncData} (d26:DF K "is_paint" HE f26 g26)
  {f27:Addr} {g27:FuncData} (d27:DF K "is_plate" Fq f27 g27)
  {f28:Addr} {g28:FuncData} (d28:DF K "is_band" HG f28 g28)
  {f29:Addr} {g29:FuncData} (d29:DF K "is_sign" Ke f29 g29)
  {f30:Addr} {g30:FuncData} (d30:DF K "is_word_text" CW f30 g30)
  {f31:Addr} {g31:FuncData} (d31:DF K "is_word" Gz f31 g31)
  {f32:Addr} {g32:FuncData} (d32:DF K "are_stencil_rows" Bn f32 g32)
  {f33:Addr} {g33:FuncData} (d33:DF K "is_stencil" EY f33 g33)
  {f34:Addr} {g34:FuncData} (d34:DF K "is_empty" JS f34 g34)
  {f35:Addr} {g35:FuncData} (d35:DF K "is_glass" HF f35 g35)
  {f36:Addr} {g36:FuncData} (d36:DF K "is_place" JR f36 g36)
  {f37:Addr} {g37:FuncData} (d37:DF K "is_window" E6 f37 g37)
  {f38:Addr} {g38:FuncData} (d38:DF K "is_turn" G4 f38 g38)
  {f39:Addr} {g39:FuncData} (d39:DF K "are_tiles" F9 f39 g39)
  {f40:Addr} {g40:FuncData} (d40:DF K "is_data" FG f40 g40)
  {f41:Addr} {g41:FuncData} (d41:DF K "row_holder" Im f41 g41)
  {f42:Addr} {g42:FuncData} (d42:DF K "row_shown" Jo f42 g42)
  {f43:Addr} {g43:FuncData} (d43:DF K "row_kind" K1 f43 g43)
  {f44:Addr} {g44:FuncData} (d44:DF K "row_data" K2 f44 g44)
  {f45:Addr} {g45:FuncData} (d45:DF K "row_x" Qw f45 g45)
  {f46:Addr} {g46:FuncData} (d46:DF K "row_y" Qv f46 g46)
  {f47:Addr} {g47:FuncData} (d47:DF K "is_row" Cg f47 g47)
  {f48:Addr} {g48:FuncData} (d48:DF K "holders_of" C4 f48 g48)
  {f49:Addr} {g49:FuncData} (d49:DF K "is_holder" F8 f49 g49)
  {f50:Addr} {g50:FuncData} (d50:DF K "row_of" JQ f50 g50)
  {f51:Addr} {g51:FuncData} (d51:DF K "is_tiles" Fp f51 g51)
  {f52:Addr} {g52:FuncData} (d52:DF K "vet_row" Br f52 g52)
  {f53:Addr} {g53:FuncData} (d53:DF K "vet" Lk f53 g53)
  {f54:Addr} {g54:FuncData} (d54:DF K "_law_which" B3 f54 g54)
  {f55:Addr} {g55:FuncData} (d55:DF K "_law_told" Dt f55 g55)
  {f56:Addr} {g56:FuncData} (d56:DF K "_law_chain" GA f56 g56)
  {f57:Addr} {g57:FuncData} (d57:DF K "_law_within" EZ f57 g57)
  {f58:Addr} {g58:FuncData} (d58:DF K "_law_is_part" Du f58 g58)
  {f59:Addr} {g59:FuncData} (d59:DF K "_law_is_paint" Eb f59 g59)
  {f60:Addr} {g60:FuncData} (d60:DF K "_law_is_of" En f60 g60)
  {f61:Addr} {g61:FuncData} (d61:DF K "_law_are_rows" CO f61 g61)
  {f62:Addr} {g62:FuncData} (d62:DF K "_law_is_data" Bv f62 g62)
  {f63:Addr} {g63:FuncData} (d63:DF K "_law_is_row" D0 f63 g63)
  {f64:Addr} {g64:FuncData} (d64:DF K "_law_due" C5 f64 g64)
  {f65:Addr} {g65:FuncData} (d65:DF K "law" ER f65 g65)
  (z_ValueError:PySem.W.nsIn K mainGlobals "ValueError"=some none)
  (z_abs:PySem.W.nsIn K mainGlobals "abs"=some none)
  (z_all:PySem.W.nsIn K mainGlobals "all"=some none)
  (z_any:PySem.W.nsIn K mainGlobals "any"=some none)
  (z_bool:PySem.W.nsIn K mainGlobals "bool"=some none)
  (z_enumerate:PySem.W.nsIn K mainGlobals "enumerate"=some none)
  (z_int:PySem.W.nsIn K mainGlobals "int"=some none)
  (z_isinstance:PySem.W.nsIn K mainGlobals "isinstance"=some none)
  (z_len:PySem.W.nsIn K mainGlobals "len"=some none)
  (z_list:PySem.W.nsIn K mainGlobals "list"=some none)
  (z_max:PySem.W.nsIn K mainGlobals "max"=some none)
  (z_min:PySem.W.nsIn K mainGlobals "min"=some none)
  (z_range:PySem.W.nsIn K mainGlobals "range"=some none)
  (z_str:PySem.W.nsIn K mainGlobals "str"=some none)
  (z_tuple:PySem.W.nsIn K mainGlobals "tuple"=some none)
  {ad_FORMS:Addr} {es_FORMS:Array DictEntry} {nn_FORMS:Nat} (kn_FORMS:PySem.W.nsIn K mainGlobals "FORMS"=some (some (.ref ad_FORMS))) (kl_FORMS:K.lookup ad_FORMS=some ⟨.type "dict",none,.dict es_FORMS nn_FORMS,#[]⟩) (kq_FORMS:KfL w es_FORMS.toList [("plate",f27),("band",f28),("word",f31),("stencil",f33),("group",f34),("glass",f35),("window",f37),("turn",f38),("tiles",f39),("mask",f34)]) (hs_FORMS:(ad_FORMS==sysModules)=false)
  {uv_HOLDERS:Value} (kn_HOLDERS:PySem.W.nsIn K mainGlobals "HOLDERS"=some (some uv_HOLDERS)) (kt_HOLDERS:Cz ⟨K,w⟩ (.tuple [(.str "group"),(.str "glass"),(.str "window"),(.str "turn"),(.str "tiles"),(.str "mask")]) uv_HOLDERS=true)
  {tk_MOST_HOLDERS:Tok} (kn_MOST_HOLDERS:PySem.W.nsIn K mainGlobals "MOST_HOLDERS"=some (some (.int 6 tk_MOST_HOLDERS)))
  {tk_MOST_ROWS:Tok} (kn_MOST_ROWS:PySem.W.nsIn K mainGlobals "MOST_ROWS"=some (some (.int 24 tk_MOST_ROWS)))
  {uv_NAME_SIGNS:Value} (kn_NAME_SIGNS:PySem.W.nsIn K mainGlobals "NAME_SIGNS"=some (some uv_NAME_SIGNS)) (kt_NAME_SIGNS:Cz ⟨K,w⟩ (.str "abcdefghijklmnopqrstuvwxyz0123456789") uv_NAME_SIGNS=true)
  {ad_SIGNS:Addr} {es_SIGNS:Array DictEntry} {nn_SIGNS:Nat} (kn_SIGNS:PySem.W.nsIn K mainGlobals "SIGNS"=some (some (.ref ad_SIGNS))) (kl_SIGNS:K.lookup ad_SIGNS=some ⟨.type "dict",none,.dict es_SIGNS nn_SIGNS,#[]⟩) (kq_SIGNS:KdL ⟨K,w⟩ w es_SIGNS.toList Kb) (hs_SIGNS:(ad_SIGNS==sysModules)=false)
  {c_NoPart:Addr} (ac_NoPart:PySem.W.nsIn K mainGlobals "NoPart"=some (some (.ref c_NoPart))) (qc_NoPart:PySem.W.excIn K c_NoPart [.type "ValueError",.type "Exception",.type "BaseException",.type "object"] "ValueError.__new__"=true)
  {c_Twice:Addr} (ac_Twice:PySem.W.nsIn K mainGlobals "Twice"=some (some (.ref c_Twice))) (qc_Twice:PySem.W.excIn K c_Twice [.type "ValueError",.type "Exception",.type "BaseException",.type "object"] "ValueError.__new__"=true)
  {c_NoHolder:Addr} (ac_NoHolder:PySem.W.nsIn K mainGlobals "NoHolder"=some (some (.ref c_NoHolder))) (qc_NoHolder:PySem.W.excIn K c_NoHolder [.type "ValueError",.type "Exception",.type "BaseException",.type "object"] "ValueError.__new__"=true)
  {c_TooDeep:Addr} (ac_TooDeep:PySem.W.nsIn K mainGlobals "TooDeep"=some (some (.ref c_TooDeep))) (qc_TooDeep:PySem.W.excIn K c_TooDeep [.type "ValueError",.type "Exception",.type "BaseException",.type "object"] "ValueError.__new__"=true)
  {c_Nested:Addr} (ac_Nested:PySem.W.nsIn K mainGlobals "Nested"=some (some (.ref c_Nested))) (qc_Nested:PySem.W.excIn K c_Nested [.type "ValueError",.type "Exception",.type "BaseException",.type "object"] "ValueError.__new__"=true)
  {c_TooMany:Addr} (ac_TooMany:PySem.W.nsIn K mainGlobals "TooMany"=some (some (.ref c_TooMany))) (qc_TooMany:PySem.W.excIn K c_TooMany [.type "ValueError",.type "Exception",.type "BaseException",.type "object"] "ValueError.__new__"=true)
  {c_NoName:Addr} (ac_NoName:PySem.W.nsIn K mainGlobals "NoName"=some (some (.ref c_NoName))) (qc_NoName:PySem.W.excIn K c_NoName [.type "ValueError",.type "Exception",.type "BaseException",.type "object"] "ValueError.__new__"=true)
  {c_WrongKind:Addr} (ac_WrongKind:PySem.W.nsIn K mainGlobals "WrongKind"=some (some (.ref c_WrongKind))) (qc_WrongKind:PySem.W.excIn K c_WrongKind [.type "ValueError",.type "Exception",.type "BaseException",.type "object"] "ValueError.__new__"=true)
  {c_NoStep:Addr} (ac_NoStep:PySem.W.nsIn K mainGlobals "NoStep"=some (some (.ref c_NoStep))) (qc_NoStep:PySem.W.excIn K c_NoStep [.type "ValueError",.type "Exception",.type "BaseException",.type "object"] "ValueError.__new__"=true)
  {cSE:Addr}
  (aSE:PySem.W.nsIn K mainGlobals "SceneError"=some (some (.ref cSE)))
  (xaK:L2.excAll K cSE [c_NoPart,c_Twice,c_NoHolder,c_TooDeep,c_Nested,c_TooMany,c_NoName,c_WrongKind,c_NoStep] 6=true)
  : ∃fd:FuncData,(∀(s:Shared) (v:Value),BindsTo s fd ⟨[v],[]⟩ [("_law_script",v)])/\∀base:Heap,K.In base->base.Ns mainGlobals mg->FnOk l.prog w K mg base CX0 11 fa fd ["_law_script"] (spD ⟨K,w⟩ Rc false):=by
 have e:=hfa.symm.trans (d65.m X G)
 cases e
 obtain⟨_,⟨_,_,kV,dc,pm,an,cd,ct,_,rfl,_,_⟩,_⟩:=id d65
 have y_ValueError:=PySem.W.mg_none_of X G z_ValueError
 have y_abs:=PySem.W.mg_none_of X G z_abs
 have y_all:=PySem.W.mg_none_of X G z_all
 have y_any:=PySem.W.mg_none_of X G z_any
 have y_bool:=PySem.W.mg_none_of X G z_bool
 have y_enumerate:=PySem.W.mg_none_of X G z_enumerate
 have y_int:=PySem.W.mg_none_of X G z_int
 have y_isinstance:=PySem.W.mg_none_of X G z_isinstance
 have y_len:=PySem.W.mg_none_of X G z_len
 have y_list:=PySem.W.mg_none_of X G z_list
 have y_max:=PySem.W.mg_none_of X G z_max
 have y_min:=PySem.W.mg_none_of X G z_min
 have y_range:=PySem.W.mg_none_of X G z_range
 have y_str:=PySem.W.mg_none_of X G z_str
 have y_tuple:=PySem.W.mg_none_of X G z_tuple
 have kc_FORMS:=PySem.W.mg_of X G kn_FORMS
 have kf_FORMS:KF ⟨K,w⟩ w ad_FORMS [("plate",f27),("band",f28),("word",f31),("stencil",f33),("group",f34),("glass",f35),("window",f37),("turn",f38),("tiles",f39),("mask",f34)]:=⟨⟨es_FORMS,nn_FORMS,kl_FORMS,kq_FORMS⟩⟩
 have kc_HOLDERS:=PySem.W.mg_of X G kn_HOLDERS
 have kc_MOST_HOLDERS:=PySem.W.mg_of X G kn_MOST_HOLDERS
 have kc_MOST_ROWS:=PySem.W.mg_of X G kn_MOST_ROWS
 have kc_NAME_SIGNS:=PySem.W.mg_of X G kn_NAME_SIGNS
 have kc_SIGNS:=PySem.W.mg_of X G kn_SIGNS
 have kd_SIGNS:KD ⟨K,w⟩ w ad_SIGNS Kb:=⟨⟨es_SIGNS,nn_SIGNS,kl_SIGNS,kq_SIGNS⟩⟩
 refine⟨PySem.W.fnOf "law" "law" (Hu ER) (E2 ER) (AR ER) .none kV dc pm an cd ct,fun s v=>.of_eq rfl,fun base _ _=>?_⟩
 have co:∀{x st f fd k ps sp},DF K x st f fd->FnOk l.prog w K mg base CX0 k f fd ps sp->(∀(kV doc pm:Value) (an:Option Addr) (cdv ct:Value) (us:List Value),us.length=ps.length->bindArgs (PySem.W.fnOf x x (Hu st) (E2 st) (AR st) .none kV doc pm an cdv ct) ⟨us,[]⟩=pure (ps.zip us))->Cal l.prog w K mg base k x ps sp:=fun d o b=>d.cal X G o b
 let cls:Nat->Addr:=fun n=>[c_NoPart,c_Twice,c_NoHolder,c_TooDeep,c_Nested,c_TooMany,c_NoName,c_WrongKind,c_NoStep].getD n 0
 have c71:=co d0 (Uv d0.2 y_len) ⋯
 have c72:=co d2 (Uu d2.2 y_range y_str) ⋯
 have c73:=co d3 (Uq d3.2 y_range) ⋯
 have c35:=co d4 (Um d4.2) ⋯
 have d72:=co d5 (cv d5.2) ⋯
 have c81:=co d6 (az d6.2 y_abs) ⋯
 have c49:=co d9 (QP d9.2 y_range y_tuple) ⋯
 have c74:=co d10 (Uo d10.2) ⋯
 have c75:=co d11 (Ul d11.2 y_range) ⋯
 have c52:=co d13 (XW d13.2) ⋯
 have c97:=co d15 (XU d15.2 y_len) ⋯
 have c25:=co d16 (Vu d16.2) ⋯
 have c30:=co d18 (Sm d18.2 y_len y_str y_isinstance y_all) ⋯
 have c41:=co d20 (Vy d20.2 y_bool y_isinstance) ⋯
 have c42:=co d21 (Vx d21.2 y_bool y_isinstance y_int) ⋯
 have c40:=co d23 (OG d23.2 y_abs) ⋯
 have c98:=co d29 (XQ d29.2 kc_SIGNS kd_SIGNS hs_SIGNS) ⋯
 have c26:=co d34 (V5 d34.2 y_len) ⋯
 have c20:=co d41 (Sk d41.2) ⋯
 have c76:=co d42 (Ue d42.2) ⋯
 have c16:=co d43 (Vv d43.2) ⋯
 have c87:=co d44 (Vw d44.2) ⋯
 have d67:=co d45 (ay d45.2) ⋯
 have d68:=co d46 (ax d46.2) ⋯
 have c99:=co d56 (XY d56.2) ⋯
 have c27:=co d57 (V6 d57.2 y_bool y_isinstance y_int) ⋯
 have c31:=co d60 (XX d60.2 y_len y_str y_isinstance) ⋯
 have d69:=co d1 (a8 d1.2 (c71.mono (by decide)) y_range) ⋯
 have c59:=co d7 (Sq d7.2 (c81.mono (by decide))) ⋯
 have c22:=co d17 (Ug d17.2 (c25.mono (by decide))) ⋯
 have d00:=co d19 (XR d19.2 (c30.mono (by decide)) kc_NAME_SIGNS kt_NAME_SIGNS) ⋯
 have c07:=co d22 (Uh d22.2 (c42.mono (by decide))) ⋯
 have c88:=co d24 (V0 d24.2 (c42.mono (by decide)) (c40.mono (by decide)) y_len y_tuple y_isinstance) ⋯
 have c50:=co d30 (QO d30.2 (c98.mono (by decide)) y_len y_str y_isinstance y_all) ⋯
 have c32:=co d32 (Mt d32.2 (c30.mono (by decide)) y_len y_tuple y_isinstance y_all) ⋯
 have c77:=co d49 (Uj d49.2 (c16.mono (by decide)) kc_HOLDERS kt_HOLDERS) ⋯
 have c36:=co d58 (Ur d58.2 (c27.mono (by decide)) (c81.mono (by decide)) y_len y_tuple y_isinstance) ⋯
 have c60:=co d61 (Su d61.2 (c31.mono (by decide)) y_len y_tuple y_isinstance y_min y_max) ⋯
 have c61:=co d8 (Sr d8.2 (c59.mono (by decide))) ⋯
 have c14:=co d25 (Ms d25.2 (c88.mono (by decide))) ⋯
 have c43:=co d36 (V2 d36.2 (c07.mono (by decide))) ⋯
 have c53:=co d38 (XO d38.2 (c41.mono (by decide)) (c07.mono (by decide)) y_len) ⋯
 have c37:=co d39 (Uk d39.2 (c07.mono (by decide)) y_len) ⋯
 have c62:=co d48 (So d48.2 (c22.mono (by decide)) (c20.mono (by decide))) ⋯
 have d05:=co d50 (ZP d50.2 (c22.mono (by decide))) ⋯
 have c63:=co d59 (Ss d59.2 (c36.mono (by decide)) y_len) ⋯
 have c78:=co d12 (Ut d12.2 (c74.mono (by decide)) (c35.mono (by decide)) (c61.mono (by decide)) (c75.mono (by decide)) (c49.mono (by decide))) ⋯
 have c17:=co d26 (V3 d26.2 (c14.mono (by decide))) ⋯
 have c44:=co d35 (V4 d35.2 (c14.mono (by decide)) y_len) ⋯
 have c38:=co d37 (Ui d37.2 (c43.mono (by decide)) (c07.mono (by decide)) y_len) ⋯
 have c89:=co d51 (Vz d51.2 (c16.mono (by decide)) (d05.mono (by decide))) ⋯
 have c79:=co d62 (Us d62.2 (c36.mono (by decide)) (c27.mono (by decide)) (c31.mono (by decide)) (c63.mono (by decide)) (c60.mono (by decide)) y_len y_bool y_isinstance) ⋯
 have c90:=co d14 (V7 d14.2 (c73.mono (by decide)) (d72.mono (by decide)) (c52.mono (by decide)) (c35.mono (by decide)) (c78.mono (by decide)) y_len) ⋯
 have c45:=co d27 (V1 d27.2 (c17.mono (by decide)) (c07.mono (by decide)) y_len) ⋯
 have c54:=co d28 (XT d28.2 (c17.mono (by decide)) (c07.mono (by decide)) y_len) ⋯
 have c55:=co d31 (XN d31.2 (c17.mono (by decide)) (c50.mono (by decide)) y_len) ⋯
 have c33:=co d33 (Sn d33.2 (c17.mono (by decide)) (c32.mono (by decide)) y_len) ⋯
 have c91:=co d63 (V8 d63.2 (c31.mono (by decide)) (c27.mono (by decide)) (c79.mono (by decide)) y_bool y_isinstance) ⋯
 have d01:=co d40 (XS d40.2 (c45.mono (by decide)) (c54.mono (by decide)) (c55.mono (by decide)) (c33.mono (by decide)) (c26.mono (by decide)) (c44.mono (by decide)) (c38.mono (by decide)) (c53.mono (by decide)) (c37.mono (by decide)) y_tuple y_isinstance y_str kc_FORMS kf_FORMS hs_FORMS (.cons ⟨_,_,c45.mono (by decide),d27.m X G⟩ (.cons ⟨_,_,c54.mono (by decide),d28.m X G⟩ (.cons ⟨_,_,c55.mono (by decide),d31.m X G⟩ (.cons ⟨_,_,c33.mono (by decide),d33.m X G⟩ (.cons ⟨_,_,c26.mono (by decide),d34.m X G⟩ (.cons ⟨_,_,c44.mono (by decide),d35.m X G⟩ (.cons ⟨_,_,c38.mono (by decide),d37.m X G⟩ (.cons ⟨_,_,c53.mono (by decide),d38.m X G⟩ (.cons ⟨_,_,c37.mono (by decide),d39.m X G⟩ (.cons ⟨_,_,c26.mono (by decide),d34.m X G⟩ .nil))))))))))) ⋯
 have d70:=co d64 (a7 d64.2 (c91.mono (by decide)) (c52.mono (by decide)) (c99.mono (by decide)) y_len) ⋯
 have d06:=co d47 (ZQ d47.2 (d00.mono (by decide)) (c25.mono (by decide)) (c20.mono (by decide)) (c43.mono (by decide)) (d68.mono (by decide)) (d67.mono (by decide)) (d01.mono (by decide)) (c87.mono (by decide)) (c16.mono (by decide)) (c41.mono (by decide)) (c76.mono (by decide)) y_len y_tuple y_isinstance) ⋯
 have X_vet_row:FnOk l.prog w K mg base (CXr l.prog w) 8 f52 _ ["ahead","row"] (spO ⟨K,w⟩ GG cls):=XM (cls:=cls) d52.2 (d06.mono (by decide)) (c22.mono (by decide)) (c25.mono (by decide)) (c20.mono (by decide)) (c77.mono (by decide)) (c62.mono (by decide)) (c89.mono (by decide)) (c16.mono (by decide)) y_len y_any kc_MOST_HOLDERS (PySem.W.mg_of X G ac_NoPart) qc_NoPart (PySem.W.mg_of X G ac_Twice) qc_Twice (PySem.W.mg_of X G ac_NoHolder) qc_NoHolder (PySem.W.mg_of X G ac_TooDeep) qc_TooDeep (PySem.W.mg_of X G ac_Nested) qc_Nested
 have X_vet:FnOk l.prog w K mg base (CXr l.prog w) 9 f53 _ ["rows"] (spO ⟨K,w⟩ NR cls):=gA (cls:=cls) d53.2 y_enumerate y_len kc_MOST_ROWS (PySem.W.mg_of X G ac_TooMany) qc_TooMany (X_vet_row.mono (by decide)) (d52.m X G) d52.2.kp (d52.b ⋯)
 have d07:=co d55 (ZR d55.2 (cs:=[c_NoPart,c_Twice,c_NoHolder,c_TooDeep,c_Nested,c_TooMany,c_NoName,c_WrongKind,c_NoStep]) rfl X_vet (d53.m X G) d53.2.kp (d53.b ⋯) d54.2 (d54.m X G) d54.2.kp (d54.b ⋯) (PySem.W.mg_of X G aSE) xaK (PySem.W.mg_of X G ac_NoPart) (PySem.W.mg_of X G ac_Twice) (PySem.W.mg_of X G ac_NoHolder) (PySem.W.mg_of X G ac_TooDeep) (PySem.W.mg_of X G ac_Nested) (PySem.W.mg_of X G ac_TooMany) (PySem.W.mg_of X G ac_NoName) (PySem.W.mg_of X G ac_WrongKind) (PySem.W.mg_of X G ac_NoStep) y_isinstance y_ValueError y_len) ⋯
 exact gB d65.2 (d69.mono (by decide)) (c72.mono (by decide)) (c90.mono (by decide)) (c97.mono (by decide)) (d07.mono (by decide)) (d70.mono (by decide)) y_list y_range y_str
theorem entry{K:KW}{H:Hp}{a:Addr}{ns:List Int}{Q:VK}{X:XK}(hS:SqL K H a (ns.map V.int))(h63:ns.length<=63)(q:∀H',Q (.bl true) H'):spD K Rc false [.ref a] H Q X:=by
 obtain⟨ls,e⟩:=WR ns h63
 refine⟨fun _=>False,fun _=>False,[.c (ns.map PyData.int)],.bool true,ls,⟨rfl,fun i x e=>?_,fun i x e=>?_,fun i x e=>?_,fun i j xs ys b e=>?_,fun _ h=>h.elim,fun _ h=>h.elim,GR.nil fun i x e=>?_⟩,e,fun v H' _ _ res=>?_⟩
 ·match i,e with
  |0,e=>cases e
  |i+1,e=>cases e
 ·match i,e with
  |0,e=>exact absurd (Option.some.inj (Option.some.inj e)).symm Ow.not_c
  |i+1,e=>cases e
 ·match i,e with
  |0,e =>
   cases e
   exact⟨a,ns.map V.int,rfl,b9 hS,WY ns⟩
  |i+1,e=>cases e
 ·match i,e with
  |0,e=>exact absurd (Option.some.inj (Option.some.inj e)).symm Ow.not_c
  |i+1,e=>cases e
 ·match i,e with
  |0,e=>cases e
  |i+1,e=>cases e
 ·cases (show v = .bl true from res)
  exact q H'
theorem walk{l:PySem.W.OpenLaw}{q:Program}{loose:List Str}{XP:(Str->Option Value)->Heap->Prop}{YP:World->Heap->Prop}{d:DefRec}{K:Params->PySem.W.Frag}(hn:l.most=some 63)(hdf:d.params.defaults=[])
  (hY:∀(w:World) (h:Heap),YP w h->(K w.params).In h)
  (F : ∀ (w : World) (mg : Str -> Option Value) (fa : Addr) (h : Heap), (K w.params).In h -> h.Ns mainGlobals mg -> mg d.name = some (.ref fa) ->
   ∃fd:FuncData,(∀(s:Shared) (u:Value),BindsTo s fd ⟨[u],[]⟩ [("_law_script",u)])/\∀base:Heap,(K w.params).In base->base.Ns mainGlobals mg->FnOk l.prog w (K w.params) mg base CX0 11 fa fd ["_law_script"] (spD ⟨K w.params,w⟩ Rc false)) :
  PySem.W.WalkO q loose XP YP l.row.toRowW d [] (fun f vs=>PySem.call f vs) :=
 L2.walk_of (n:=63) (k:=11) (x:="_law_script") (CX:=fun _=>CX0) (sp:=fun w=>spD ⟨K w.params,w⟩ Rc false) hn (by decide) hdf ⟨rfl,by decide,by decide⟩ hY F (fun _ _ a ns hl _ hS=>entry hS hl fun _=>rfl) fun _ _ _ _ _ z=>z
end My
namespace PySem.W.Fast
def tw2056160886424642877:=0
def tw10003600351533793782:=0
def tw7118363984911122757:=0
def tw17770195192601048653:=0
def tw8637517847524569939:=0
def tw4642714169074292972:=0
def tw539246714588292753:=0
def tw9219919932992344039:=0
def tw14794875198466456325:=0
def tw9721054492248145132:=0
def tw4819095366846342621:=0
def tw4446624000601401713:=0
def tw11341492878901140430:=0
def tw6023564283376054654:=0
def tw11026021338510436686:=0
def tw5285977413350475644:=0
def tw1309723993433607721:=0
def tw16867197122640225786:=0
def tw14358540373235902127:=0
def tw4671960998243556666:=0
def tw3582114948273087026:=0
def tw13611220292884620448:=0
def tw4634523407068992127:=0
def tw5076493224064067371:=0
def tw8205602504793519264:=0
def tw14998510911220520398:=0
def tw6043802192665305490:=0
def tw1749543885667669587:=0
def tw11743190274184714091:=0
def tw6244809116214430497:=0
def tw3267836272464009348:=0
def tw3554216657925026098:=0
def tw6414084980199224441:=0
def tw2959607210946051738:=0
def tw1990276951847072494:=0
def tw3585650083341749517:=0
def tw11863322317990423278:=0
def tw14312796022287232693:=0
def tw11715474292210153320:=0
def tw16096056276424019262:=0
def tw12379237203622598999:=0
def tw17071468863259198600:=0
def tw6781416541637120654:=0
def tw3738766528421984411:=0
def tw621329669420635140:=0
def tw4930333717602828143:=0
def tw11678361611559821809:=0
def tw158225769927507152:=0
def tw15379267407236899920:=0
def tw14926198950868401484:=0
def tw4075724900207364508:=0
def tw11714463900264764790:=0
def tw1357330673043389286:=0
def tw2095129456141738680:=0
def tw14463735582534013224:=0
def tw8124314818028906428:=0
def tw5740372997504271490:=0
def tw6831190486878069295:=0
def tw15855348378467672565:=0
def tw14404591105034197227:=0
def tw4948320791225601435:=0
def tw4806673144893773408:=0
def tw8713510642245977398:=0
def tw1805115475895662672:=0
def tw3120072731827658572:=0
def tw1385093351665421685:=0
def tw2041349572054122317:=0
def tw8183957321447027527:=0
def tw7652861839514107567:=0
def tw1354187523597242269:=0
def tw12894639207182083485:=0
def tw815773648139096396:=0
def tw11233595242274853181:=0
def tw15921012849876430336:=0
def tw18384267251321049269:=0
def tw16108924394681739605:=0
def tw6738116293755297611:=0
def tw4814942980984534186:=0
def tw6911991842310030482:=0
def tw9940469656173059886:=0
def tw15331651824001982450:=0
def tw7890305948376983946:=0
def tw11673126835411216109:=0
def tw1896066427881557101:=0
def tw13344853090512243546:=0
def tw5070216838196248943:=0
def tw3693029869548458597:=0
def tw10369545498848994554:=0
def tw1688763761166496565:=0
def tw13925577394460106656:=0
def tw1572693873777081426:=0
def tw11354617035365946706:=0
def tw10271496553314108845:=0
def tw6382355855764511913:=0
def tw12190931781529453948:=0
def tw7857917187610841192:=0
def tw13942048866094816353:=0
def tw16268995874111990255:=0
def tw4761043889050503046:=0
def tw11297163551437926688:=0
def tw6708746540682967637:=0
def tw9309784960183880517:=0
def tw16039552109577012785:=0
def tw14660481581375399089:=0
def tw5842702249340168130:=0
def tw13718269329400536974:=0
def tw7611584287389619220:=0
def tw969289037984251272:=0
def tw5599869975639493575:=0
def tw2439854189266473690:=0
def tw792467582551111404:=0
def tw3270827585061514292:=0
def tw3158361751017894957:=0
def tw13712656785209208750:=0
def tw11629902492659569863:=0
def tw8904864232145468276:=0
def tw6948435912289426426:=0
def tw12134436498164554310:=0
def tw10919668452297370446:=0
def tw8084442847435923160:=0
def tw10281564234306078021:=0
def tw837102339149728514:=0
def tw17085420088973350794:=0
def tw17438134329320444212:=0
def tw13504052447711050759:=0
def tw12907194788320786001:=0
def tw2663614852065231473:=0
def tw1329918566341473987:=0
def tw11553718524923546213:=0
def tw1493835592224524810:=0
def tw9958612704052655096:=0
def tw10250109253318527114:=0
def tw5506179521661355028:=0
def tw4493810187746628898:=0
def tw3797619332316423424:=0
def tw17978781615246904863:=0
def tw8193982031557701841:=0
end PySem.W.Fast
open PySem PySem.W PyProof.Rows
set_option maxRecDepth 100000 in
set_option maxHeartbeats 0 in
theorem PySem.Challenge.cw_scenemend_k26_scenes_vetted_holds : PySem.Challenge.rw_scenemend_k26_scenes_vetted.Holds := by
 w_on;o_law;k_head;(case hw=>w_witness2)
 k_fill
 refine My.walk (l:=PySem.Challenge.rw_scenemend_k26_scenes_vetted) rfl rfl (fun w h Y=>PySem.W.kIn_of Y) ?F
 case F =>
  intro w mg fa h KX G hmg
  refine' My.all_mk KX G hmg ?d0 ?d1 ?d2 ?d3 ?d4 ?d5 ?d6 ?d7 ?d8 ?d9 ?d10 ?d11 ?d12 ?d13 ?d14 ?d15 ?d16 ?d17 ?d18 ?d19 ?d20 ?d21 ?d22 ?d23 ?d24 ?d25 ?d26 ?d27 ?d28 ?d29 ?d30 ?d31 ?d32 ?d33 ?d34 ?d35 ?d36 ?d37 ?d38 ?d39 ?d40 ?d41 ?d42 ?d43 ?d44 ?d45 ?d46 ?d47 ?d48 ?d49 ?d50 ?d51 ?d52 ?d53 ?d54 ?d55 ?d56 ?d57 ?d58 ?d59 ?d60 ?d61 ?d62 ?d63 ?d64 ?d65 ?z_ValueError ?z_abs ?z_all ?z_any ?z_bool ?z_enumerate ?z_int ?z_isinstance ?z_len ?z_list ?z_max ?z_min ?z_range ?z_str ?z_tuple ?kn_FORMS ?kl_FORMS ?kq_FORMS ?hs_FORMS ?kn_HOLDERS ?kt_HOLDERS ?kn_MOST_HOLDERS ?kn_MOST_ROWS ?kn_NAME_SIGNS ?kt_NAME_SIGNS ?kn_SIGNS ?kl_SIGNS ?kq_SIGNS ?hs_SIGNS ?ac_NoPart ?qc_NoPart ?ac_Twice ?qc_Twice ?ac_NoHolder ?qc_NoHolder ?ac_TooDeep ?qc_TooDeep ?ac_Nested ?qc_Nested ?ac_TooMany ?qc_TooMany ?ac_NoName ?qc_NoName ?ac_WrongKind ?qc_WrongKind ?ac_NoStep ?qc_NoStep ?aSE ?xaK
  (case d0|d1|d2|d3|d4|d5|d6|d7|d8|d9|d10|d11|d12|d13|d14|d15|d16|d17|d18|d19|d20|d21|d22|d23|d24|d25|d26|d27|d28|d29|d30|d31|d32|d33|d34|d35|d36|d37|d38|d39|d40|d41|d42|d43|d44|d45|d46|d47|d48|d49|d50|d51|d52|d53|d54|d55|d56|d57|d58|d59|d60|d61|d62|d63|d64|d65=>(refine' L2.DF.mk ?a ?b ?c ?d;(case a=>k_is);(case b=>k_is);(case c=>k_is);(case d=>k_is)))
  (case z_ValueError|z_abs|z_all|z_any|z_bool|z_enumerate|z_int|z_isinstance|z_len|z_list|z_max|z_min|z_range|z_str|z_tuple|kn_FORMS|kl_FORMS=>k_is)
  (case kq_FORMS=>(repeat' (first|exact trivial|(refine And.intro ⟨_,rfl⟩ (And.intro rfl (And.intro rfl ?_))))))
  (case hs_FORMS=>kernel_rfl)
  (case kn_HOLDERS=>k_is)
  (case kt_HOLDERS=>kernel_rfl)
  (case kn_MOST_HOLDERS|kn_MOST_ROWS|kn_NAME_SIGNS=>k_is)
  (case kt_NAME_SIGNS=>kernel_rfl)
  (case kn_SIGNS|kl_SIGNS=>k_is)
  (case kq_SIGNS=>(repeat' (first|exact trivial|(refine And.intro ⟨_,rfl⟩ (And.intro rfl (And.intro ?_ ?_)))|kernel_rfl)))
  (case hs_SIGNS=>kernel_rfl)
  (case ac_NoPart=>k_is)
  (case qc_NoPart=>k_exc)
  (case ac_Twice=>k_is)
  (case qc_Twice=>k_exc)
  (case ac_NoHolder=>k_is)
  (case qc_NoHolder=>k_exc)
  (case ac_TooDeep=>k_is)
  (case qc_TooDeep=>k_exc)
  (case ac_Nested=>k_is)
  (case qc_Nested=>k_exc)
  (case ac_TooMany=>k_is)
  (case qc_TooMany=>k_exc)
  (case ac_NoName=>k_is)
  (case qc_NoName=>k_exc)
  (case ac_WrongKind=>k_is)
  (case qc_WrongKind=>k_exc)
  (case ac_NoStep=>k_is)
  (case qc_NoStep=>k_exc)
  (case aSE=>k_is)
  (case xaK=>kernel_rfl)
