import PyProof.Rows.All
import Wide.All
import OpenK.AllK
import Wide.FinOn
import Lean
import PyProof.EqAt
import PyProof.EqKinds
import PyProof.TupleCall
import KE.KSortTup
import PyProof.EnumMake
import PyProof.EnumStmt
import PyProof.EnumFor
import PyProof.TupleKey
import PyProof.Rows.SetFrom
import PyProof.IsRules
import PyProof.DictWalks
import PyProof.FactsAll.set
import PyProof.CollectIter
import PyProof.ConsumeS
import PySem.SetOps
import KE.KDictList
import PyProof.DictRoadsH
import PyProof.DictFindH
import PyProof.Rows.SortRuns
import PyProof.Draws
import PyProof.Rows.TupIter
import PyProof.Rows.FStr
import PyProof.StrCalls2
import PyProof.SliceStr2
import PyProof.StrBlockI
import PyProof.StrLawsNeg
import PyProof.StrLawsJoin
import KE.KIntText
import PyProof.RaisesStr
import PyProof.ConsumeWalk
import PyProof.WalkInts
import PyProof.DictUpdate
import KE.KDictOf
import PyProof.Rows.Range3
import PyProof.DictTable
import PyProof.ListMulRoad
import PyProof.FactsAll.tuple_2
import PySem.Challenge.RW_scenemend_k25_rows_of_parts
set_option Elab.async false
set_option linter.all false
set_option maxRecDepth 100000
theorem oB{α β:Type}{x:Option α}{f:α->Option β}{b:β}(h:x.bind f=some b):∃a,x=some a/\f a=some b:=Option.bind_eq_some_iff.mp h
theorem oM{α β:Type}{x:Option α}{f:α->β}{b:β}(h:x.map f=some b):∃a,x=some a/\f a=b:=Option.map_eq_some_iff.mp h
section
namespace L2
open PySem PySem.Spec PyProof.Rows
abbrev Key:=Sum Int Str
def YZ:Key->Value->Bool
 |.inl k,v=>Value.isInt k v
 |.inr x,v=>Value.isStrOf x v
def jU(w:World):Key->Int
 |.inl k=>hashInt k
 |.inr x=>hashStr w x
theorem EY:∀{k:Key} {v:Value},YZ k v=true->(∃i t,k=Sum.inl i/\v=Value.int i t)\/(∃x t,k=Sum.inr x/\v=Value.str x t)
 |.inl i,v,h=>by
  obtain⟨t,e⟩:=Value.isInt_shape (k:=i) (v:=v) h
  exact .inl ⟨i,t,rfl,e⟩
 |.inr x,v,h=>by
  obtain⟨t,e⟩:=Value.isStrOf_shape (x:=x) (v:=v) h
  exact .inr ⟨x,t,rfl,e⟩
theorem ZW(x:Str)(t:Tok):YZ (.inr x) (.str x t)=true:=by simp[YZ,Value.isStrOf]
theorem gB(a b:Int):decide ((Sum.inl a:Key)=Sum.inl b)=(a==b):=by
 by_cases e:a=b
 ·subst e;simp
 ·have h:¬(Sum.inl a:Key)=Sum.inl b:=fun q=>e (Sum.inl.inj q)
  rw[decide_eq_false h]
  exact(beq_eq_false_iff_ne.mpr e).symm
theorem fy(a b:Str):decide ((Sum.inr a:Key)=Sum.inr b)=decide (a=b):=by
 by_cases e:a=b
 ·subst e;simp
 ·have h:¬(Sum.inr a:Key)=Sum.inr b:=fun q=>e (Sum.inr.inj q)
  rw[decide_eq_false h,decide_eq_false e]
theorem gA(a:Int)(b:Str):decide ((Sum.inl a:Key)=Sum.inr b)=false:=decide_eq_false (fun q=>nomatch q)
theorem fz(a:Str)(b:Int):decide ((Sum.inr a:Key)=Sum.inl b)=false:=decide_eq_false (fun q=>nomatch q)
def Km(prog:Program)(w:World):PySem.KeyKind prog w Key where
 is:=YZ
 hash:=jU w
 inj:=fun v a b ha hb=>by
  rcases EY ha with ⟨i,t,rfl,rfl⟩|⟨x,t,rfl,rfl⟩
  ·rcases EY hb with ⟨j,u,rfl,e⟩|⟨y,u,rfl,e⟩
   ·injection e with e1 _;rw[e1]
   ·exact nomatch e
  ·rcases EY hb with ⟨j,u,rfl,e⟩|⟨y,u,rfl,e⟩
   ·exact nomatch e
   ·injection e with e1 _;rw[e1]
 byValue:=fun k v h=>by
  rcases EY h with ⟨i,t,rfl,rfl⟩|⟨x,t,rfl,rfl⟩<;>rfl
 pyHash:=fun hv h=>by
  rcases EY hv with ⟨i,t,rfl,rfl⟩|⟨x,t,rfl,rfl⟩
  ·exact wpAny_pyHash_int h
  ·exact wpAny_pyHash_str h
 eqBool:=fun hu hv h=>by
  rcases EY hu with ⟨i,t,rfl,rfl⟩|⟨x,t,rfl,rfl⟩
  ·rcases EY hv with ⟨j,u,rfl,rfl⟩|⟨y,u,rfl,rfl⟩
   ·rw[gB]at h;exact wpAny_eqBool_int h
   ·rw[gA]at h;exact SeqAt.EqAt.int_str i t y u _ _ _ _ h
  ·rcases EY hv with ⟨j,u,rfl,rfl⟩|⟨y,u,rfl,rfl⟩
   ·rw[fz]at h;exact SeqAt.EqAt.str_int x t j u _ _ _ _ h
   ·rw[fy]at h;exact wpAny_eqBool_str h
 «strs»:=fun k x t v h=>by
  rcases EY h with ⟨i,u,rfl,e⟩|⟨y,u,rfl,e⟩
  ·exact nomatch e
  ·injection e with e1 _
   subst e1
   cases v<;>rfl
theorem WM(prog:Program)(w:World)(x:Str)(t:Tok):(Km prog w).is (.inr x) (.str x t)=true:=ZW x t
end L2
namespace L2
open PySem PySem.Spec PyProof.Rows
inductive V where
 |non|bl (b:Bool)|int (i:Int)|str (x:Str)|byt (b:Array UInt8)|flt (b:UInt64)|ref (a:Addr)|ty (n:String)
 deriving DecidableEq
def RelV:V->Value->Prop
 |.non,u=>u=Value.none
 |.bl b,u=>u=Value.bool b
 |.int i,u=>∃t,u=Value.int i t
 |.str x,u=>∃t,u=Value.str x t
 |.byt b,u=>∃t,u=Value.bytes b t
 |.flt b,u=>∃t,u=Value.float b t
 |.ref a,u=>u=Value.ref a
 |.ty n,u=>u=Value.type n
abbrev Vals:List V->List Value->Prop:=Paired RelV
theorem Vals.length{xs:List V}{us:List Value}(r:Vals xs us):xs.length=us.length:=Paired.length r
theorem Vals.get:∀{xs:List V} {us:List Value} {i:Nat} {x:V},Vals xs us->xs[i]?=some x->∃u,us[i]?=some u/\RelV x u
 |_,_,_,_,.nil,e=>by simp at e
 |_,_,0,_,.cons r _,e=>by simp at e;subst e;exact⟨_,rfl,r⟩
 |_,_,i+1,x,.cons _ t,e=>by
  obtain⟨u,h1,h2⟩:=Vals.get (i:=i) (x:=x) t (by simpa using e)
  exact⟨u,by simpa using h1,h2⟩
theorem Vals.set{x:V}{u:Value}(r:RelV x u):∀{xs:List V} {us:List Value} (i:Nat),Vals xs us->Vals (xs.set i x) (us.set i u)
 |_,_,_,.nil=>.nil
 |_,_,0,.cons _ t=>.cons r t
 |_,_,i+1,.cons q t=>.cons q (Vals.set r i t)
theorem Vals.append:∀{xs ys:List V} {us ws:List Value},Vals xs us->Vals ys ws->Vals (xs++ys) (us++ws)
 |_,_,_,_,.nil,s=>s
 |_,_,_,_,.cons r t,s=>.cons r (Vals.append t s)
theorem Vals.take:∀{xs:List V} {us:List Value} (n:Nat),Vals xs us->Vals (xs.take n) (us.take n)
 |_,_,0,_=>.nil
 |_,_,_+1,.nil=>.nil
 |_,_,n+1,.cons r t=>.cons r (Vals.take n t)
theorem Vals.drop:∀{xs:List V} {us:List Value} (n:Nat),Vals xs us->Vals (xs.drop n) (us.drop n)
 |_,_,0,r=>r
 |_,_,_+1,.nil=>.nil
 |_,_,n+1,.cons _ t=>Vals.drop n t
def gs:Option V->Option Value->Prop
 |some v,some u=>RelV v u
 |none,none=>True
 |_,_=>False
def KV{κ:Type}:List (κ×V)->List (κ×Value)->Prop:=Paired fun(p:κ×V) (q:κ×Value)=>p.1=q.1/\RelV p.2 q.2
def kV:Key->V
 |.inl i=>.int i
 |.inr x=>.str x
inductive HO where
 |lst (xs:List V)
 |tup (xs:List V)
 |dK (kvs:List (Key×V))|dT (kvs:List (List Key×V))
 |set (S:Int->Bool) (n:Nat)
 |ins (C dx:Addr) (fs:List (Str×V))
 |own (x:Addr)
 |xd (fs:List (Str×V))
 |met (f x:Addr)
 |rng (lo hi:Int)
 |frz (o:Obj) (u:HO)
 |tbl (ps:Array Value)
 |ext (φ:Heap->Prop)
abbrev Hp:=Addr->Option HO
def upd(H:Hp)(a:Addr)(o:HO):Hp:=fun b=>if b=a then some o else H b
theorem CI{H:Hp}{a:Addr}{o:HO}:upd H a o a=some o:=by unfold upd;rw[if_pos rfl]
theorem Cz{H:Hp}{a b:Addr}{o:HO}(h:b≠a):upd H a o b=H b:=by unfold upd;rw[if_neg h]
theorem CS{H:Hp}{a b:Addr}{o:HO}(h:H a=some o)(h':H b=none):a≠b:=by
 intro e;subst e;rw[h]at h';cases h'
section
variable (P:Program) (w:World)
def ObjOk(H:Hp)(h:Heap)(a:Addr):HO->Prop
 |.lst xs=>xs.length<=sizeLine/\∃(its:List Value) (n:Nat),Vals xs its/\h.get? a=some { cls:=.type "list",data:=.seq its.toArray n }
 |.tup xs=>xs.length<=sizeLine/\∃its:List Value,Vals xs its/\IsTup h a its.toArray
 |.dK kvs=>kvs.length<=sizeLine/\(a==sysModules)=false/\∃vs,KV kvs vs/\h.DictOf (Km P w) a vs
 |.dT kvs=>kvs.length<=sizeLine/\(a==sysModules)=false/\∃xs:List (List Key×Addr×Value),
   Paired (fun(p:List Key×V) (q:List Key×Addr×Value)=>p.1=q.1/\H q.2.1=some (.tup (p.1.map kV))/\RelV p.2 q.2.2) kvs xs /\
   ∃o es ep,h.get? a=some o/\o.ExactDict/\o.data = .dict es ep/\es.toList=xs.map (entryOfKey (tupleKind (Km P w)))/\(xs.map (·.1)).Nodup
 |.set S n=>h.SetOf (intKind P w) a S n
 |.ins C dx fs=>H dx=some (.own a)/\fs.length<=1000/\dx≠a/\h.get? a=some (PySem.W.instObj C dx) /\
   ∃mA,h.Ns1 dx mA/\(∀f,gs (fs.lookup f) (mA f))/\PySem.Within mA (fs.map (·.1))
 |.own _=>∃o,h.get? a=some o
 |.xd fs=>∃mA,h.Ns1 a mA/\∀f,gs (fs.lookup f) (mA f)
 |.rng lo hi=>∃t u v,h.get? a=some { cls:=.type "range",data:=.fields #[.int lo t,.int hi u,.int 1 v] }
 |.frz o u=>h.get? a=some o/\ObjOk H h a u
 |.tbl ps=>h.get? a=some { cls:=.none,data:=.fields ps }
 |.met f x=>h.get? a=some (PySem.W.methodObj (.ref f) (.ref x))
 |.ext φ=>φ h/\(∃o,h.get? a=some o)/\∀h1 h2:Heap,φ h1->(∀o,h1.get? a=some o->h2.get? a=some o)->φ h2
def HOk(H:Hp)(h:Heap):Prop:=∀a o,H a=some o->ObjOk P w H h a o
end
section
variable {P:Program} {w:World} {H H':Hp} {h h':Heap} {a:Addr} {o:HO}
theorem ObjOk.lt(x:ObjOk P w H h a o):a<h.objs.size:=by
 cases o with
 |lst xs=>obtain⟨_,_,_,_,e⟩:=x;exact Heap.lt_size e
 |tup xs=>obtain⟨_,_,_,p⟩:=x;exact p.lt
 |dK kvs=>obtain⟨_,_,_,_,o,_,_,e,_⟩:=x;exact Heap.lt_size e
 |dT kvs=>obtain⟨_,_,_,_,o,_,_,e,_⟩:=x;exact Heap.lt_size e
 |set S n=>obtain⟨o,_,_,_,e,_⟩:=x;exact Heap.lt_size e
 |ins C dx fs=>obtain⟨_,_,_,e,_⟩:=x;exact Heap.lt_size e
 |own y=>obtain⟨_,e⟩:=x;exact Heap.lt_size e
 |xd fs=>obtain⟨_,⟨_,_,_,e,_⟩,_⟩:=x;exact Heap.lt_size e
 |rng lo hi=>obtain⟨_,_,_,e⟩:=x;exact Heap.lt_size e
 |frz ob u=>obtain⟨e,_⟩:=x;exact Heap.lt_size e
 |tbl ps=>exact Heap.lt_size (show h.get? a=some _ from x)
 |met f y=>exact Heap.lt_size (show h.get? a=some _ from x)
 |ext φ=>obtain⟨_,⟨_,e⟩,_⟩:=x;exact Heap.lt_size e
theorem Paired.mapP{α β:Type}{F G:α->β->Prop}:∀{l₁:List α} {l₂:List β},Paired F l₁ l₂->(∀a b,F a b->G a b)->Paired G l₁ l₂
 |_,_,.nil,_=>.nil
 |_,_,.cons r t,f=>.cons (f _ _ r) (Paired.mapP t f)
theorem ObjOk.stay(x:ObjOk P w H h a o)(k:∀b u,(b=a\/H b=some (.own a))->h.get? b=some u->h'.get? b=some u)
  (ho:∀b,H b=some (.own a)->H' b=some (.own a)) (ht:∀b xs,H b=some (.tup xs)->H' b=some (.tup xs)):ObjOk P w H' h' a o:=by
 induction o with
 |lst xs=>obtain⟨z,its,n,r,e⟩:=x;exact⟨z,its,n,r,k _ _ (.inl rfl) e⟩
 |tup xs=>obtain⟨z,its,r,ob,e,c⟩:=x;exact⟨z,its,r,ob,k _ _ (.inl rfl) e,c⟩
 |dK kvs=>obtain⟨z,y,vs,r,ob,es,ep,e,c⟩:=x;exact⟨z,y,vs,r,ob,es,ep,k _ _ (.inl rfl) e,c⟩
 |dT kvs =>
  obtain⟨z,y,xs,r,ob,es,ep,e,c⟩:=x
  exact⟨z,y,xs,Paired.mapP r fun p q z=>⟨z.1,ht _ _ z.2.1,z.2.2⟩,ob,es,ep,k _ _ (.inl rfl) e,c⟩
 |set S n=>obtain⟨ob,es,ep,t,e,c⟩:=x;exact⟨ob,es,ep,t,k _ _ (.inl rfl) e,c⟩
 |ins C dx fs =>
  obtain⟨d,z,ne,e,mA,⟨od,es,ep,e2,c⟩,r⟩:=x
  exact⟨ho _ d,z,ne,k _ _ (.inl rfl) e,mA,⟨od,es,ep,k _ _ (.inr d) e2,c⟩,r⟩
 |own y=>obtain⟨ob,e⟩:=x;exact⟨ob,k _ _ (.inl rfl) e⟩
 |xd fs=>obtain⟨mA,⟨od,es,ep,e,c⟩,r⟩:=x;exact⟨mA,⟨od,es,ep,k _ _ (.inl rfl) e,c⟩,r⟩
 |rng lo hi=>obtain⟨t,u,v,e⟩:=x;exact⟨t,u,v,k _ _ (.inl rfl) e⟩
 |frz ob u ih=>obtain⟨e,q⟩:=x;exact⟨k _ _ (.inl rfl) e,ih q⟩
 |tbl ps =>
  have e:h.get? a=some { cls:=.none,data:=.fields ps }:=x
  show h'.get? a=some { cls:=.none,data:=.fields ps }
  exact k a _ (.inl rfl) e
 |met f y =>
  have e:h.get? a=some (PySem.W.methodObj (.ref f) (.ref y)):=x
  show h'.get? a=some (PySem.W.methodObj (.ref f) (.ref y))
  exact k a _ (.inl rfl) e
 |ext φ=>obtain⟨p,⟨o,e⟩,st⟩:=x;exact⟨st _ _ p fun o q=>k _ _ (.inl rfl) q,⟨o,k _ _ (.inl rfl) e⟩,st⟩
theorem HOk.lt(x:HOk P w H h)(e:H a=some o):a<h.objs.size:=(x a o e).lt
theorem HOk.fresh(x:HOk P w H h)(e:h.objs.size<=a):H a=none:=by
 cases q:H a with
 |none=>rfl
 |some u=>exact absurd (Nat.lt_of_lt_of_le (x.lt q) e) (Nat.lt_irrefl _)
theorem HOk.kept(x:HOk P w H h)(k:∀b u,h.get? b=some u->h'.get? b=some u):HOk P w H h':=fun a o e =>
 (x a o e).stay (fun b u _ q=>k b u q) (fun _ q=>q) fun _ _ q=>q
theorem HOk.laid(x:HOk P w H h)(k:∀b u,h.get? b=some u->h'.get? b=some u)(hp:h.objs.size<=a)(new:ObjOk P w (upd H a o) h' a o):HOk P w (upd H a o) h':=fun b u e=>by
 have hn:=x.fresh hp
 by_cases hb:b=a
 ·subst hb;rw[CI]at e;cases e;exact new
 ·rw[Cz hb]at e
  exact(x b u e).stay (fun c v _ q=>k c v q) (fun c q=>by rw[Cz (CS q hn)];exact q) fun c xs q=>by rw[Cz (CS q hn)];exact q
end
def Rd(H:Hp)(a:Addr)(u:HO):Prop:=H a=some u\/∃o,H a=some (.frz o u)
theorem Rd.ok{P:Program}{w:World}{H:Hp}{h:Heap}{a:Addr}{u:HO}(r:Rd H a u)(x:HOk P w H h):ObjOk P w H h a u:=by
 rcases r with r|⟨o,r⟩
 ·exact x a u r
 ·obtain⟨_,q⟩:=x a _ r
  exact q
def Mut:Option HO->Prop
 |some (.lst _)=>True
 |some (.dK _)=>True
 |some (.dT _)=>True
 |some (.set _ _)=>True
 |some (.ins _ _ _)=>True
 |some (.ext _)=>True
 |_=>False
section
variable {P:Program} {w:World} {H:Hp} {h h':Heap} {x e:Addr} {o':HO}
theorem HOk.write(ok:HOk P w H h)(mu:Mut (H x))(he:e=x\/H e=some (.own x))(k:∀b u,b≠e->h.get? b=some u->h'.get? b=some u)(heo:∃u,h'.get? e=some u)
  (new:ObjOk P w (upd H x o') h' x o'):HOk P w (upd H x o') h':=fun b u q=>by
 have nown:∀c y,H c=some (.own y)->c≠x:=fun c y r z=>by subst z;rw[r]at mu;exact mu
 have ntup:∀c xs,H c=some (.tup xs)->c≠x:=fun c xs r z=>by subst z;rw[r]at mu;exact mu
 by_cases hb:b=x
 ·subst hb;rw[CI]at q;cases q;exact new
 ·rw[Cz hb]at q
  by_cases hbe:b=e
  ·have q':H b=some (.own x):=by
    rcases he with z|z
    ·exact absurd (hbe.trans z) hb
    ·rw[hbe];exact z
   rw[q]at q';cases q'
   obtain⟨v,hv⟩:=heo
   exact⟨v,by rw[hbe];exact hv⟩
  ·refine(ok b u q).stay (fun c v hc r=>k c v ?_ r) (fun c r=>by rw[Cz (nown c b r)];exact r) fun c xs r=>by rw[Cz (ntup c xs r)];exact r
   rcases hc with rfl|hc
   ·exact hbe
   ·rintro rfl
    rcases he with z|z
    ·exact nown c b hc z
    ·rw[hc]at z;cases z;exact hb rfl
end
structure Un(fs ex:List Addr)(H H':Hp)(h h':Heap):Prop where
 keep:∀b o,h.get? b=some o->H b=none->b∉fs->b∉ex->h'.get? b=some o
 slot:∀b o,h.get? b=some o->H b=none->b∈fs->b∉ex->∃sl,h'.get? b=some { o with slots:=sl }
 free:∀b o,h.get? b=some o->H b=none->b∉ex->H' b=none
 there:∀b o,h.get? b=some o->b∉ex->∃o',h'.get? b=some o'
 tups:∀b xs,H b=some (.tup xs)->H' b=some (.tup xs)
 frzs:∀b o u,H b=some (.frz o u)->H' b=some (.frz o u)
 tbls:∀b ps,H b=some (.tbl ps)->∃more,H' b=some (.tbl (ps++more))
section
variable {fs fs' ex ex':List Addr} {H H1 H2:Hp} {h h1 h2 h':Heap} {a x e:Addr} {o:HO}
theorem Un.any(u:Un fs ex H H1 h h1){b:Addr}{ob:Obj}(q:h.get? b=some ob)(n:H b=none)(hx:b∉ex):∃sl,h1.get? b=some { ob with slots:=sl }:=by
 by_cases hb:b∈fs
 ·exact u.slot b ob q n hb hx
 ·exact⟨ob.slots,u.keep b ob q n hb hx⟩
theorem Un.kept(k:∀b u,h.get? b=some u->h'.get? b=some u):Un fs ex H H h h' :=
 ⟨fun b ob q _ _ _=>k b ob q,fun b ob q _ _ _=>⟨ob.slots,k b ob q⟩,fun _ _ _ n _=>n,fun b ob q _=>⟨ob,k b ob q⟩,fun _ _ q=>q,fun _ _ _ q=>q,fun _ ps q=>⟨#[],by rw[q];simp⟩⟩
theorem Un.refl:Un fs ex H H h h:=Un.kept fun _ _ q=>q
theorem Un.laid(k:∀b u,h.get? b=some u->h'.get? b=some u)(hp:h.objs.size<=a)(hn:H a=none):Un fs ex H (upd H a o) h h' where
 keep:=fun b u q _ _ _=>k b u q
 slot:=fun b u q _ _ _=>⟨u.slots,k b u q⟩
 free:=fun b u q n _=>by rw[Cz (Nat.ne_of_lt (Nat.lt_of_lt_of_le (Heap.lt_size q) hp))];exact n
 there:=fun b u q _=>⟨u,k b u q⟩
 tups:=fun b xs q=>by rw[Cz (CS q hn)];exact q
 frzs:=fun b u xs q=>by rw[Cz (CS q hn)];exact q
 tbls:=fun b ps q=>⟨#[],by rw[Cz (CS q hn),q];simp⟩
theorem Un.write(mu:Mut (H x))(he:e=x\/H e=some (.own x))(k:∀b u,b≠e->h.get? b=some u->h'.get? b=some u)(heo:∃u,h'.get? e=some u):Un fs ex H (upd H x o) h h':=by
 have hx:∀b,H b=none->b≠x:=fun b n z=>by subst z;rw[n]at mu;exact mu
 have hb:∀b,H b=none->b≠e:=fun b n z=>by
  subst z
  rcases he with r|r
  ·exact hx b n r
  ·rw[n]at r;cases r
 have hm:∀b u,H b=some u->¬Mut (some u)->b≠x:=fun b u q nm z=>by subst z;rw[q]at mu;exact nm mu
 refine ⟨fun b u q n _ _ => k b u (hb b n) q, fun b u q n _ _ => ⟨u.slots, k b u (hb b n) q⟩, fun b u q n _ => by rw [Cz (hx b n)]; exact n, fun b u q _ => ?_,
  fun b xs q=>by rw[Cz (hm b _ q fun z=>z)];exact q,fun b u xs q=>by rw[Cz (hm b _ q fun z=>z)];exact q,fun b ps q=>⟨#[],by rw[Cz (hm b _ q fun z=>z),q];simp⟩⟩
 by_cases hbe:b=e
 ·subst hbe;exact heo
 ·exact⟨u,k b u hbe q⟩
end
def trk(h:Heap)(H:Hp):List Addr:=(List.range h.objs.size).filter fun a=>(H a).isSome
def U0(h:Heap)(H:Hp):Heap:=PySem.W.hideAll h (trk h H)
theorem Zc(h:Heap)(H:Hp):(U0 h H).objs.size=h.objs.size:=PySem.W.hideAll_size _ _
theorem bM{h:Heap}{H:Hp}{b:Addr}{o:Obj}(e:h.get? b=some o)(n:H b=none):(U0 h H).get? b=some o :=
 PySem.W.hideAll_get _ e fun hm=>by
  have q:(H b).isSome=true:=(List.mem_filter.mp hm).2
  rw[n]at q;simp at q
theorem cS{h:Heap}{H:Hp}{b:Addr}{o:Obj}(e:(U0 h H).get? b=some o):h.get? b=some o/\H b=none:=by
 have e':h.get? b=some o:=PySem.W.of_hideAll (trk h H) e
 refine⟨e',?_⟩
 cases q:H b with
 |none=>rfl
 |some x =>
  have hm:b∈trk h H:=List.mem_filter.mpr ⟨List.mem_range.mpr (Heap.lt_size e'),by simp[q]⟩
  have z:(U0 h H).get? b=none:=PySem.W.hideAll_none (trk h H) hm
  rw[z]at e;cases e
def dO(g h:Heap)(L:Addr):List (Addr×Obj):=(List.range h.objs.size).filterMap fun a=>if a=L\/(g.get? a).isSome=true then none else (h.get? a).map fun o=>(a,o)
def GJ(g h:Heap)(L d:Addr):List (Addr×Obj):=(dO g h L).filter fun p=>decide (p.1≠d)
end L2
namespace L2
open PySem PySem.Spec PyProof.Rows
structure Mod(K:PySem.W.Frag)(mg:Str->Option Value)(base:Heap):Prop where
 kin:K.In base
 glob:base.Ns mainGlobals mg
 blt:∃mb,base.Ns builtinsNs mb/\∀x:Str,x≠"__name__"->mb x=bootBuiltins x
 nolimit:base.NoLimit
structure Cx where
 prog:Program
 w:World
 K:PySem.W.Frag
 mg:Str->Option Value
 base:Heap
 A:Around
 N:List Str
 s₀:Shared
 H₀:Hp
 env:Env
 outer:List Env
 stack:List Env
 ex:List Addr
 fn:Str->Bool
 calm:Bool
 pn:List (Addr×Obj)
 xe:Value->Shared->Prop
def frs(l:List Env):List Addr:=l.filterMap (·.frame)
abbrev Cx.fs(X:Cx):List Addr:=frs X.outer
def Vis(sc:Scope)(x:Str):Prop:=sc.names.lookup x=some .local\/sc.names.lookup x=some .cell\/sc.names.lookup x=some .free
def Loc(sc:Scope)(x:Str):Prop:=sc.names.lookup x=some .local\/sc.names.lookup x=some .cell
def je(env:Env)(h:Heap)(m:Str->Option Value)(x:Str)(u:Value):Prop :=
 (env.kindOf x=some .local/\m x=some u)\/((env.kindOf x=some .cell\/env.kindOf x=some .free)/\∃c,env.cells.lookup x=some c/\h.IsCell c (some u))
structure Cx.Ok(X:Cx):Prop where
 mod:Mod X.K X.mg X.base
 kind:X.env.scope.kind = .function
 glob:X.env.globals=mainGlobals
 blt:X.env.builtins=builtinsNs
 above:X.s₀.heap.objs.size<=X.env.locals
 inj:∀x y c,X.env.cells.lookup x=some c->X.env.cells.lookup y=some c->x=y
 has:∀x,(X.env.kindOf x=some .cell\/X.env.kindOf x=some .free)->∃c,X.env.cells.lookup x=some c
 cab:∀x c,X.fn x=true->X.env.cells.lookup x=some c->X.s₀.heap.objs.size<=c
 hd:X.calm=true->X.A.handled=none
 frames:X.A.frames=some X.stack
 stk:X.stack=X.outer\/(X.stack=X.env::X.outer/\X.env.frame=some X.env.locals)
 exf:∀b∈X.ex,b≠X.env.locals/\∀x c,X.env.cells.lookup x=some c->c≠b
 bs:∀b o,X.base.get? b=some o->X.s₀.heap.get? b=some o/\X.H₀ b=none
 bsz:X.base.objs.size<=X.s₀.heap.objs.size
 noex:∀b o,X.base.get? b=some o->b∉X.ex
 exfs:∀b∈X.ex,b∉X.fs
 funs:X.s₀.heap.FunFrames X.base X.outer
 frf:∀b∈X.fs,X.H₀ b=none
structure Inv(X:Cx)(pins:List (Addr×Obj))(σ:List (Option V))(H:Hp)(s:Shared):Prop where
 ok:X.Ok
 os:s.os=X.s₀.os
 bare:AllBare s.gens
 base:Un X.fs X.ex X.H₀ H X.s₀.heap s.heap
 loc:∃m,s.heap.Ns X.env.locals m/\∀(i:Nat) (x:Str) (v:V),X.N[i]?=some x->σ[i]?=some (some v)->Vis X.env.scope x->∃u,RelV v u/\je X.env s.heap m x u
 cell:∀x c,X.env.cells.lookup x=some c->∃v,s.heap.IsCell c v
 free:H X.env.locals=none
 freeC:∀x c,X.env.cells.lookup x=some c->H c=none
 pin:∀p∈X.pn++pins,s.heap.get? p.1=some p.2/\H p.1=none/\p.1≠X.env.locals/\p.1∉X.fs/\∀v,p.2.data≠.cell v
 hok:HOk X.prog X.w H s.heap
 len:σ.length=X.N.length
section
variable {X:Cx} {pins:List (Addr×Obj)} {σ:List (Option V)} {H H':Hp} {s:Shared} {h':Heap}
theorem Cx.Ok.nofr(ok:X.Ok){b:Addr}{o:Obj}(e:X.base.get? b=some o):b∉X.fs:=fun hb=>by
 have:=(ok.funs.mem hb).1
 rw[e]at this;cases this
theorem Inv.bs(I:Inv X pins σ H s):∀b o,X.base.get? b=some o->s.heap.get? b=some o/\H b=none:=fun b o e =>
 ⟨I.base.keep b o (I.ok.bs b o e).1 (I.ok.bs b o e).2 (I.ok.nofr e) (I.ok.noex b o e),I.base.free b o (I.ok.bs b o e).1 (I.ok.bs b o e).2 (I.ok.noex b o e)⟩
theorem Inv.bk(I:Inv X pins σ H s):∀b o,X.base.get? b=some o->s.heap.get? b=some o:=fun b o e=>(I.bs b o e).1
theorem Inv.mod(I:Inv X pins σ H s):Mod X.K X.mg X.base:=I.ok.mod
theorem Inv.kIn(I:Inv X pins σ H s):X.K.In s.heap:=I.ok.mod.kin.keeps I.bk
theorem Inv.lt(I:Inv X pins σ H s):X.env.locals<s.heap.objs.size:=let ⟨_,hn,_⟩:=I.loc;hn.lt
theorem Inv.sz(I:Inv X pins σ H s):X.s₀.heap.objs.size<=s.heap.objs.size:=Nat.le_trans I.ok.above (Nat.le_of_lt I.lt)
theorem Inv.nofs(I:Inv X pins σ H s){a:Addr}(h:s.heap.objs.size<=a):a∉X.fs:=fun hb=>by
 obtain⟨_,o,ho,_⟩:=I.ok.funs.mem hb
 exact absurd (Nat.lt_of_lt_of_le (Heap.lt_size ho) (Nat.le_trans I.sz h)) (Nat.lt_irrefl _)
theorem Inv.cne(I:Inv X pins σ H s):∀x c,X.env.cells.lookup x=some c->c≠X.env.locals:=fun x c e z=>by
 obtain⟨v,o,ho,hd⟩:=I.cell x c e
 obtain⟨m,⟨o',es,ep,ho',hd',_⟩,_⟩:=I.loc
 rw[z,ho']at ho;cases ho;rw[hd']at hd;cases hd
theorem Inv.funs(I:Inv X pins σ H s):s.heap.FunFrames X.base X.outer:=by
 have all:∀(l:List Env),(∀b∈frs l,b∈X.fs)->X.s₀.heap.FunFrames X.base l->s.heap.FunFrames X.base l:=by
  intro l
  induction l with
  |nil=>intro _ _;trivial
  |cons env r ih =>
   intro hs hl
   obtain⟨hk,⟨L,o,hf,hn,ho,hd⟩,hr⟩:=hl
   have hL:L∈X.fs:=hs L (by unfold frs;rw[List.filterMap_cons,hf];exact List.mem_cons_self)
   obtain⟨sl,e⟩:=I.base.slot L o ho (I.ok.frf L hL) hL fun z=>I.ok.exfs L z hL
   exact⟨hk,⟨L,_,hf,hn,e,hd⟩,ih (fun b hb=>hs b (by unfold frs;rw[List.filterMap_cons,hf];exact List.mem_cons_of_mem _ hb)) hr⟩
 exact all X.outer (fun _ hb=>hb) I.ok.funs
theorem Inv.stack(I:Inv X pins σ H s):s.heap.FunFrames X.base X.stack:=by
 rcases I.ok.stk with e|⟨e,hf⟩
 ·rw[e];exact I.funs
 ·rw[e]
  obtain⟨m,hn,_⟩:=I.loc
  refine .cons (by rw[I.ok.kind];decide) hf hn ?_ I.funs
  exact Heap.get?_none_of_le (Nat.le_trans I.ok.bsz I.ok.above)
theorem Inv.stkSub(I:Inv X pins σ H s):∀b∈frs X.stack,b∈X.env.locals::X.fs:=fun b hb=>by
 rcases I.ok.stk with e|⟨e,hf⟩
 ·rw[e]at hb;exact List.mem_cons_of_mem _ hb
 ·rw[e]at hb
  unfold frs at hb
  rw[List.filterMap_cons,hf]at hb
  exact hb
theorem Inv.stkFree(I:Inv X pins σ H s):∀b∈frs X.stack,H b=none:=fun b hb=>by
 rcases List.mem_cons.mp (I.stkSub b hb)with e|hb
 ·rw[e];exact I.free
 ·obtain⟨_,o,ho,_⟩:=I.ok.funs.mem hb
  exact I.base.free b o ho (I.ok.frf b hb) fun z=>I.ok.exfs b z hb
theorem Inv.step{g':Array GenState}{t':Nat}{d':Drawn}{ch:List Addr}(I:Inv X pins σ H s)
  (hch:∀b∈ch,(b∈X.ex\/X.s₀.heap.objs.size<=b)/\b≠X.env.locals/\(∀x c,X.env.cells.lookup x=some c->c≠b)/\∀p∈X.pn++pins,p.1≠b)
  (keep:∀b o,b≠X.env.locals->b∉X.fs->b∉ch->s.heap.get? b=some o->H b=none->h'.get? b=some o)
  (slot:∀b o,b≠X.env.locals->b∈X.fs->b∉ch->s.heap.get? b=some o->H b=none->∃sl,h'.get? b=some { o with slots:=sl }) (free:∀b o,b∉ch->s.heap.get? b=some o->H b=none->H' b=none)
  (there:∀b o,b∉ch->s.heap.get? b=some o->∃o',h'.get? b=some o')
  (tups:∀b xs,H b=some (.tup xs)->H' b=some (.tup xs)) (frzs:∀b o u,H b=some (.frz o u)->H' b=some (.frz o u)) (tbls:∀b ps,H b=some (.tbl ps)->∃more,H' b=some (.tbl (ps++more)))
  (ns:∀m,s.heap.Ns X.env.locals m->h'.Ns X.env.locals m) (hok:HOk X.prog X.w H' h') (hg:AllBare g') :
  Inv X pins σ H' { s with heap:=h',gens:=g',drawn:=d',toks:=t' }:=by
 have neL:∀b o,X.s₀.heap.get? b=some o->b≠X.env.locals:=fun b o e=>Nat.ne_of_lt (Nat.lt_of_lt_of_le (Heap.lt_size e) I.ok.above)
 have neC:∀b o,X.s₀.heap.get? b=some o->b∉X.ex->b∉ch:=fun b o e hx hb=>by
  rcases(hch b hb).1 with z|z
  ·exact hx z
  ·exact absurd (Nat.lt_of_lt_of_le (Heap.lt_size e) z) (Nat.lt_irrefl _)
 have cellK:∀x c,X.env.cells.lookup x=some c->∀v,s.heap.IsCell c v->h'.IsCell c v:=fun x c e v ⟨o,ho,hd⟩=>by
  have nch:c∉ch:=fun z=>(hch c z).2.2.1 x c e rfl
  by_cases hc:c∈X.fs
  ·obtain⟨sl,q⟩:=slot c o (I.cne x c e) hc nch ho (I.freeC x c e)
   exact⟨_,q,hd⟩
  ·exact⟨o,keep c o (I.cne x c e) hc nch ho (I.freeC x c e),hd⟩
 refine⟨I.ok,I.os,hg,⟨fun b o e n hb hx=>?_,fun b o e n hb hx=>?_,fun b o e n hx=>?_,fun b o e hx=>?_,fun b xs e=>tups b xs (I.base.tups b xs e),fun b o xs e=>frzs b o xs (I.base.frzs b o xs e),fun b ps e=>?_⟩,?_,fun x c e=>?_,?_,fun x c e=>?_,fun p hp=>?_,hok,I.len⟩
 ·exact keep b o (neL b o e) hb (neC b o e hx) (I.base.keep b o e n hb hx) (I.base.free b o e n hx)
 ·obtain⟨sl,e1⟩:=I.base.slot b o e n hb hx
  obtain⟨sl',e2⟩:=slot b _ (neL b o e) hb (neC b o e hx) e1 (I.base.free b o e n hx)
  exact⟨sl',e2⟩
 ·obtain⟨o',e1⟩:=I.base.there b o e hx
  exact free b o' (neC b o e hx) e1 (I.base.free b o e n hx)
 ·obtain⟨o',e1⟩:=I.base.there b o e hx
  exact there b o' (neC b o e hx) e1
 ·obtain⟨m1,e1⟩:=I.base.tbls b ps e
  obtain⟨m2,e2⟩:=tbls b _ e1
  exact⟨m1++m2,by rw[e2,Array.append_assoc]⟩
 ·obtain⟨m,hn,hl⟩:=I.loc
  refine⟨m,ns m hn,fun i x v e1 e2 e3=>?_⟩
  obtain⟨u,r,l⟩:=hl i x v e1 e2 e3
  refine⟨u,r,?_⟩
  rcases l with l|⟨k,c,e,z⟩
  ·exact .inl l
  ·exact .inr ⟨k,c,e,cellK x c e _ z⟩
 ·obtain⟨v,z⟩:=I.cell x c e
  exact⟨v,cellK x c e v z⟩
 ·obtain⟨m,⟨o,_,_,ho,_⟩,_⟩:=I.loc
  exact free _ o (fun z=>(hch _ z).2.1 rfl) ho I.free
 ·obtain⟨v,o,ho,hd⟩:=I.cell x c e
  exact free c o (fun z=>(hch c z).2.2.1 x c e rfl) ho (I.freeC x c e)
 ·obtain⟨e,n,ne,nf,d⟩:=I.pin p hp
  have nch:p.1∉ch:=fun z=>(hch p.1 z).2.2.2 p hp rfl
  exact⟨keep p.1 p.2 ne nf nch e n,free p.1 p.2 nch e n,ne,nf,d⟩
theorem Inv.un{t':Nat}(I:Inv X pins σ H s)(u:Un X.fs [] H H' s.heap h')(hok:HOk X.prog X.w H' h'):Inv X pins σ H' { s with heap:=h',toks:=t' }:=by
 obtain⟨m,⟨o,es,ep,ho,r⟩,_⟩:=id I.loc
 obtain⟨sl,hL⟩:=u.any ho I.free (by simp)
 exact I.step (g' := s.gens) (d' := s.drawn) (ch := []) (fun _ z => nomatch z) (fun b o _ hb _ e n => u.keep b o e n hb (by simp)) (fun b o _ hb _ e n => u.slot b o e n hb (by simp)) (fun b o _ e n => u.free b o e n (by simp)) (fun b o _ e => u.there b o e (by simp)) u.tups u.frzs u.tbls (fun m' hm => by
  obtain⟨o',es',ep',ho',r'⟩:=hm
  rw[ho]at ho';cases ho'
  exact⟨_,es',ep',hL,r'⟩) hok I.bare
theorem Inv.call{g':Array GenState}{t':Nat}{d':Drawn}{ch:List Addr}(I:Inv X pins σ H s)(u:Un (frs X.stack) ch H H' s.heap h')(hok:HOk X.prog X.w H' h')(hg:AllBare g')
  (hch:∀b∈ch,(b∈X.ex\/X.s₀.heap.objs.size<=b)/\b≠X.env.locals/\(∀x c,X.env.cells.lookup x=some c->c≠b)/\∀p∈X.pn++pins,p.1≠b) :
  Inv X pins σ H' { s with heap:=h',gens:=g',drawn:=d',toks:=t' }:=by
 obtain⟨m,⟨o,es,ep,ho,r⟩,_⟩:=id I.loc
 obtain⟨sl,hL⟩:=u.any ho I.free fun z=>(hch _ z).2.1 rfl
 exact I.step (ch := ch) hch (fun b o hL hb hc e n => u.keep b o e n (fun z => (List.mem_cons.mp (I.stkSub b z)).elim hL hb) hc) (fun b o _ _ hc e n => u.any e n hc) (fun b o hc e n => u.free b o e n hc) (fun b o hc e => u.there b o e hc) u.tups u.frzs u.tbls (fun m' hm => by
  obtain⟨o',es',ep',ho',r'⟩:=hm
  rw[ho]at ho';cases ho'
  exact⟨_,es',ep',hL,r'⟩) hok hg
theorem Inv.turned{t':Nat}{it:Addr}(I:Inv X pins σ H s)(k:∀b o,b≠it->s.heap.get? b=some o->h'.get? b=some o)(hn:H it=none)(hL:it≠X.env.locals)
  (h1:it∈X.ex\/X.s₀.heap.objs.size<=it) (h2:∀x c,X.env.cells.lookup x=some c->c≠it) (h3:∀p∈X.pn++pins,p.1≠it):Inv X pins σ H { s with heap:=h',toks:=t' }:=by
 have nit:∀b u,H b=some u->b≠it:=fun b u e z=>by rw[z,hn]at e;cases e
 refine I.step (g':=s.gens) (d':=s.drawn) (ch:=[it]) (fun b hb=>?_) (fun b o _ _ hc e _=>k b o (fun z=>hc (by simp[z])) e) (fun b o _ _ hc e _=>⟨o.slots,k b o (fun z=>hc (by simp[z])) e⟩) (fun _ _ _ _ n=>n)
  (fun b o hc e=>⟨o,k b o (fun z=>hc (by simp[z])) e⟩) (fun _ _ e=>e) (fun _ _ _ e=>e) (fun b ps e=>⟨#[],by rw[e];simp⟩) (fun m hm=>?_) (fun b u e=>?_) I.bare
 ·have e:b=it:=by simpa using hb
  subst e
  exact⟨h1,hL,h2,h3⟩
 ·obtain⟨o,es,ep,ho,r⟩:=hm
  exact⟨o,es,ep,k _ o (Ne.symm hL) ho,r⟩
 ·refine(I.hok b u e).stay (fun c v hc q=>k c v ?_ q) (fun _ q=>q) fun _ _ q=>q
  rcases hc with z|z
  ·rw[z];exact nit b u e
  ·exact nit c _ z
theorem Inv.tok(I:Inv X pins σ H s)(t:Nat):Inv X pins σ H { s with toks:=t }:=I.un (h':=s.heap) (t':=t) Un.refl I.hok
theorem Inv.kept{t':Nat}(I:Inv X pins σ H s)(k:∀b u,s.heap.get? b=some u->h'.get? b=some u):Inv X pins σ H { s with heap:=h',toks:=t' }:=I.un (Un.kept k) (I.hok.kept k)
theorem Inv.laid{a:Addr}{o:HO}{t':Nat}(I:Inv X pins σ H s)(k:∀b u,s.heap.get? b=some u->h'.get? b=some u)(hp:s.heap.objs.size<=a)(new:ObjOk X.prog X.w (upd H a o) h' a o) :
  Inv X pins σ (upd H a o) { s with heap:=h',toks:=t' }:=I.un (Un.laid k hp (I.hok.fresh hp)) (I.hok.laid k hp new)
theorem Inv.write{x e:Addr}{o:HO}{t':Nat}(I:Inv X pins σ H s)(mu:Mut (H x))(he:e=x\/H e=some (.own x))(k:∀b u,b≠e->s.heap.get? b=some u->h'.get? b=some u)(heo:∃u,h'.get? e=some u)
  (new:ObjOk X.prog X.w (upd H x o) h' x o):Inv X pins σ (upd H x o) { s with heap:=h',toks:=t' }:=I.un (Un.write mu he k heo) (I.hok.write mu he k heo new)
theorem Inv.pins_of{pins':List (Addr×Obj)}(I:Inv X pins σ H s)(h:∀p∈pins',s.heap.get? p.1=some p.2/\H p.1=none/\p.1≠X.env.locals/\p.1∉X.fs/\∀v,p.2.data≠.cell v):Inv X pins' σ H s :=
 ⟨I.ok,I.os,I.bare,I.base,I.loc,I.cell,I.free,I.freeC,fun p hp=>(List.mem_append.mp hp).elim (fun z=>I.pin p (List.mem_append_left _ z)) (h p),I.hok,I.len⟩
theorem V2{N:List Str}(hN:N.Nodup){i j:Nat}{x:Str}(a:N[i]?=some x)(b:N[j]?=some x):i=j:=by
 obtain⟨h1,e1⟩:=List.getElem?_eq_some_iff.mp a
 obtain⟨h2,e2⟩:=List.getElem?_eq_some_iff.mp b
 exact(List.getElem_inj hN).mp (e1.trans e2.symm)
theorem Ss{M:Model}{A:Around}{E:Value->Shared->Prop}{i:Nat}{x:Str}{v:V}{u:Value}{Q:Unit->Shared->Prop}(I:Inv X pins σ H s)(hN:X.N.Nodup)(hi:X.N[i]?=some x)(hx:Loc X.env.scope x)(r:RelV v u)
  (h:∀s',Inv X pins (σ.set i (some v)) H s'->(∃a,Heap.SameBut a s.heap s'.heap/\(a=X.env.locals\/X.env.cells.lookup x=some a))->Q () s') (hf:X.fn x=true\/X.env.scope.names.lookup x=some .local:=by first|exact .inl rfl|exact .inr rfl|assumption):wpAny M A (storeName X.env x u) Q E s:=by
 obtain⟨m,hn,hl⟩:=id I.loc
 have hcls:(X.env.scope.kind==.class||(X.env.scope.kind==.module&&X.env.locals != X.env.globals))=false:=by rw[I.ok.kind];rfl
 have hiσ:i<σ.length:=by rw[I.len];exact(List.getElem?_eq_some_iff.mp hi).1
 have cne:=I.cne
 have tracked:∀{a:Addr} {h':Heap},(∃o,s.heap.get? a=some o/\H a=none)->Heap.SameBut a s.heap h'->HOk X.prog X.w H h':=fun {a h'} ha hs b ob e=>by
  obtain⟨_,_,hfree⟩:=ha
  refine(I.hok b ob e).stay (fun c w' hc q=>(hs.2 c ?_).trans q) (fun _ q=>q) fun _ _ q=>q
  rintro rfl
  rcases hc with rfl|hc
  ·rw[hfree]at e;cases e
  ·rw[hfree]at hc;cases hc
 rcases hx with hk|hk
 ·refine wpAny_storeName_local hk hn (fun h' hn' hs=>?_) hcls
  obtain⟨oL,_,_,hoL,_⟩:=id hn
  refine h _ ⟨I.ok,I.os,I.bare,⟨fun b o e n hb hx=>?_,fun b o e n hb hx=>?_,I.base.free,fun b o e hx=>?_,I.base.tups,I.base.frzs,I.base.tbls⟩,⟨_,hn',fun j y v' e1 e2 e3=>?_⟩,fun y c e=>?_,I.free,I.freeC,fun p hp=>?_,tracked ⟨oL,hoL,I.free⟩ hs,by simpa using I.len⟩ ⟨_,hs,.inl rfl⟩
  ·exact(hs.2 b (Nat.ne_of_lt (Nat.lt_of_lt_of_le (Heap.lt_size e) I.ok.above))).trans (I.base.keep b o e n hb hx)
  ·obtain⟨sl,e1⟩:=I.base.slot b o e n hb hx
   exact⟨sl,(hs.2 b (Nat.ne_of_lt (Nat.lt_of_lt_of_le (Heap.lt_size e) I.ok.above))).trans e1⟩
  ·obtain⟨o',e1⟩:=I.base.there b o e hx
   exact⟨o',(hs.2 b (Nat.ne_of_lt (Nat.lt_of_lt_of_le (Heap.lt_size e) I.ok.above))).trans e1⟩
  ·by_cases hj:j=i
   ·subst hj
    rw[hi]at e1;cases e1
    rw[List.getElem?_set_self hiσ]at e2
    cases e2
    exact⟨u,r,.inl ⟨hk,by simp⟩⟩
   ·rw[List.getElem?_set_ne (Ne.symm hj)]at e2
    obtain⟨u',r',q⟩:=hl j y v' e1 e2 e3
    refine⟨u',r',?_⟩
    rcases q with ⟨k,e⟩|⟨k,c,e,z⟩
    ·refine .inl ⟨k,?_⟩
     have:y≠x:=fun e=>hj (V2 hN e1 (e▸hi))
     simp[this,e]
    ·exact .inr ⟨k,c,e,z.sameBut hs (cne y c e)⟩
  ·obtain⟨w',z⟩:=I.cell y c e
   exact⟨w',z.sameBut hs (cne y c e)⟩
  ·obtain⟨e,n,ne,nf,d⟩:=I.pin p hp
   exact⟨(hs.2 p.1 ne).trans e,n,ne,nf,d⟩
 ·have hfn:X.fn x=true:=by
   rcases hf with z|z
   ·exact z
   ·rw[z]at hk;cases hk
  obtain⟨c,hc⟩:=I.ok.has x (.inl hk)
  obtain⟨w',z⟩:=I.cell x c hc
  refine wpAny_storeName_cell I.ok.kind hk hc z (fun h' hc' hs=>?_)
  obtain⟨oc,hoc,hocd⟩:=id z
  refine h { s with heap:=h' } ⟨I.ok,I.os,I.bare,⟨fun b o e n hb hx=>?_,fun b o e n hb hx=>?_,I.base.free,fun b o e hx=>?_,I.base.tups,I.base.frzs,I.base.tbls⟩,⟨m,hn.sameBut hs (Ne.symm (cne x c hc)),fun j y v' e1 e2 e3=>?_⟩,fun y c' e=>?_,I.free,I.freeC,fun p hp=>?_,tracked ⟨oc,hoc,I.freeC x c hc⟩ hs,by simpa using I.len⟩ ⟨c,hs,.inr hc⟩
  ·exact(hs.2 b (Nat.ne_of_lt (Nat.lt_of_lt_of_le (Heap.lt_size e) (I.ok.cab x c hfn hc)))).trans (I.base.keep b o e n hb hx)
  ·obtain⟨sl,e1⟩:=I.base.slot b o e n hb hx
   exact⟨sl,(hs.2 b (Nat.ne_of_lt (Nat.lt_of_lt_of_le (Heap.lt_size e) (I.ok.cab x c hfn hc)))).trans e1⟩
  ·obtain⟨o',e1⟩:=I.base.there b o e hx
   exact⟨o',(hs.2 b (Nat.ne_of_lt (Nat.lt_of_lt_of_le (Heap.lt_size e) (I.ok.cab x c hfn hc)))).trans e1⟩
  ·by_cases hj:j=i
   ·subst hj
    rw[hi]at e1;cases e1
    rw[List.getElem?_set_self hiσ]at e2
    cases e2
    exact⟨u,r,.inr ⟨.inl hk,c,hc,hc'⟩⟩
   ·rw[List.getElem?_set_ne (Ne.symm hj)]at e2
    obtain⟨u',r',q⟩:=hl j y v' e1 e2 e3
    refine⟨u',r',?_⟩
    rcases q with q|⟨k,c',e,z'⟩
    ·exact .inl q
    ·refine .inr ⟨k,c',e,z'.sameBut hs ?_⟩
     rintro rfl
     exact hj (V2 hN e1 (I.ok.inj _ _ _ e hc▸hi))
  ·by_cases hcc:c'=c
   ·subst hcc;exact⟨_,hc'⟩
   ·obtain⟨w2,z2⟩:=I.cell y c' e
    exact⟨w2,z2.sameBut hs hcc⟩
  ·obtain⟨e,n,ne,nf,d⟩:=I.pin p hp
   refine⟨(hs.2 p.1 ?_).trans e,n,ne,nf,d⟩
   intro q
   rw[q,hoc]at e
   have q':oc=p.2:=Option.some.inj e
   exact d w' (by rw[<- q'];exact hocd)
theorem NP{M:Model}{A:Around}{E:Value->Shared->Prop}{i:Nat}{x:Str}{v:V}{u:Value}{Q:Unit->Shared->Prop}(I:Inv X pins σ H s)(hN:X.N.Nodup)(hi:X.N[i]?=some x)(hx:Loc X.env.scope x)(r:RelV v u)
  (h:∀s',Inv X pins (σ.set i (some v)) H s'->Q () s') (hf:X.fn x=true\/X.env.scope.names.lookup x=some .local:=by first|exact .inl rfl|exact .inr rfl|assumption):wpAny M A (storeName X.env x u) Q E s :=
 Ss I hN hi hx r (fun s' I' _=>h s' I') hf
theorem Inv.call'{s':Shared}{ch:List Addr}(I:Inv X pins σ H s)(ho:s'.os=s.os)(u:Un (frs X.stack) ch H H' s.heap s'.heap)(hok:HOk X.prog X.w H' s'.heap)(hg:AllBare s'.gens)
  (hch:∀b∈ch,(b∈X.ex\/X.s₀.heap.objs.size<=b)/\b≠X.env.locals/\(∀x c,X.env.cells.lookup x=some c->c≠b)/\∀p∈X.pn++pins,p.1≠b):Inv X pins σ H' s':=by
 obtain⟨h',g',d',t',o'⟩:=s'
 have e:o'=s.os:=ho
 subst e
 exact I.call (g':=g') (t':=t') (d':=d') u hok hg hch
end
abbrev XK:=Value->Option Addr->Hp->Prop
abbrev St:=List (Option V)
abbrev VK:=V->Hp->Prop
abbrev TE:=St->Hp->VK->Prop
abbrev TT:=St->Hp->(Bool->Hp->Prop)->Prop
abbrev TA:=St->Hp->(List V->Hp->Prop)->Prop
structure W5 where
 nx:St->Hp->Prop
 rt:VK
 bk:St->Hp->Prop:=fun _ _=>False
 ct:St->Hp->Prop:=fun _ _=>False
abbrev TS:=W5->St->Hp->Prop
def EP(X:Cx)(pins:List (Addr×Obj))(σ:St)(Q:VK)(u:Value)(s':Shared):Prop:=∃v H',Inv X pins σ H' s'/\RelV v u/\Q v H'
def TP(X:Cx)(pins:List (Addr×Obj))(σ:St)(Q:Bool->Hp->Prop)(b:Bool)(s':Shared):Prop:=∃H',Inv X pins σ H' s'/\Q b H'
def AP(X:Cx)(pins:List (Addr×Obj))(σ:St)(Q:List V->Hp->Prop)(us:List Value)(s':Shared):Prop:=∃vs H',Inv X pins σ H' s'/\Vals vs us/\Q vs H'
def SP(X:Cx)(pins:List (Addr×Obj))(D:W5)(f:Flow)(s':Shared):Prop :=
 match f with
 |.next=>∃σ' H',Inv X pins σ' H' s'/\D.nx σ' H'
 |.brk=>∃σ' H',Inv X pins σ' H' s'/\D.bk σ' H'
 |.cont=>∃σ' H',Inv X pins σ' H' s'/\D.ct σ' H'
 |.ret u=>∃v σ' H',Inv X pins σ' H' s'/\RelV v u/\D.rt v H'
def PE(X:Cx)(e:Expr)(t:TE):Prop :=
 ∀(pins:List (Addr×Obj)) (s:Shared) (σ:St) (H:Hp) (Q:VK),Inv X pins σ H s->t σ H Q->wpAny (model X.prog X.w) X.A (eval e X.env) (EP X pins σ Q) X.xe s
def PT(X:Cx)(e:Expr)(t:TT):Prop :=
 ∀(pins:List (Addr×Obj)) (s:Shared) (σ:St) (H:Hp) (Q:Bool->Hp->Prop),Inv X pins σ H s->t σ H Q->wpAny (model X.prog X.w) X.A (isTrue e X.env (eval e X.env)) (TP X pins σ Q) X.xe s
def PW(X:Cx)(e:Expr)(t:TT):Prop :=
 ∀(whole:Sem Value) (pins:List (Addr×Obj)) (s:Shared) (σ:St) (H:Hp) (Q:Bool->Hp->Prop),Inv X pins σ H s->t σ H Q->wpAny (model X.prog X.w) X.A (isTrue e X.env whole) (TP X pins σ Q) X.xe s
theorem PW.pt{X:Cx}{e:Expr}{t:TT}(h:PW X e t):PT X e t:=h _
def PA(X:Cx)(es:List Expr)(t:TA):Prop :=
 ∀(pos:Pos) (pins:List (Addr×Obj)) (s:Shared) (σ:St) (H:Hp) (Q:List V->Hp->Prop),Inv X pins σ H s->t σ H Q->wpAny (model X.prog X.w) X.A (spliced (backTo pos (starEach es X.env))) (AP X pins σ Q) X.xe s
def PS(X:Cx)(st:Stmt)(t:TS):Prop :=
 ∀(pins:List (Addr×Obj)) (s:Shared) (σ:St) (H:Hp) (D:W5),Inv X pins σ H s->t D σ H->wpAny (model X.prog X.w) X.A (exec st X.env) (SP X pins D) X.xe s
def PSs(X:Cx)(st:List Stmt)(t:TS):Prop :=
 ∀(pins:List (Addr×Obj)) (s:Shared) (σ:St) (H:Hp) (D:W5),Inv X pins σ H s->t D σ H->wpAny (model X.prog X.w) X.A (execs st X.env) (SP X pins D) X.xe s
theorem thn{α:Type}{t:Sem α}{Q Q':α->Shared->Prop}{M:Model}{A:Around}{E:Value->Shared->Prop}{s:Shared}(h:wpAny M A t Q E s)(hQ:∀a s,Q a s->Q' a s):wpAny M A t Q' E s:=wpAny_mono h hQ fun _ _ x=>x
end L2
namespace L2
open PySem PySem.Spec PyProof.Rows
section
variable {X:Cx}
def Pb(i:Nat):TE:=fun σ H Q=>∃v,σ[i]?=some (some v)/\Q v H
def tC(v:V):TE:=fun _ H Q=>Q v H
theorem fX{i:Nat}{x:Str}{pos:Pos}(hN:X.N[i]?=some x)(hv:Vis X.env.scope x)(hd:(x==("__debug__":Str))=false:=by decide)(hcd:(x==("__classdict__":Str))=false:=by decide):PE X (.Name x pos) (Pb i):=by
 intro pins s σ H Q I h
 obtain⟨v,e,h⟩:=h
 obtain⟨m,hn,hl⟩:=I.loc
 obtain⟨u,r,l⟩:=hl i x v hN e hv
 have fin:EP X pins σ Q u s:=⟨v,H,I,r,h⟩
 rcases l with ⟨hk,hm⟩|⟨hk,c,hc,hcell⟩
 ·exact wpAny_Name (wpAny_loadName_local I.ok.kind hk hn hm fin) hd
 ·rcases hk with hk|hk
  ·exact wpAny_Name (wpAny_loadName_cell I.ok.kind hk hc hcell fin) hd
  ·exact wpAny_Name (wpAny_loadName_free I.ok.kind hk hc hcell fin hcd) hd
theorem AH{i j pos}:PE X (.Constant (.int i) j pos) (tC (.int i)):=fun _ _ _ H _ I h=>wpAny_Constant_int ⟨.int i,H,I.tok _,⟨_,rfl⟩,h⟩
theorem E7{b j pos}:PE X (.Constant (.bool b) j pos) (tC (.bl b)):=fun _ _ _ H _ I h=>Constant_bool ⟨.bl b,H,I,rfl,h⟩
theorem Ao{x j pos}:PE X (.Constant (.str x) j pos) (tC (.str x)):=fun _ _ _ H _ I h=>Calls.Constant_str ⟨.str x,H,I.tok _,⟨_,rfl⟩,h⟩
def Gl(X:Cx)(x:Str):Prop:=X.env.kindOf x=some .globalImplicit
theorem Ut{E:Value->Shared->Prop}{pins:List (Addr×Obj)}{s:Shared}{σ:St}{H:Hp}{x:Str}{u:Value}{pos:Pos}{Q:Value->Shared->Prop}(I:Inv X pins σ H s)(hg:Gl X x)(hm:X.mg x=some u)(h:Q u s)
  (hd:(x==("__debug__":Str))=false:=by decide):wpAny (model X.prog X.w) X.A (eval (.Name x pos) X.env) Q E s :=
 Calls.Name_function_global I.ok.kind hg (Calls.loadGlobal_global (by rw[I.ok.glob];exact I.mod.glob.keeps I.bk) hm h) hd
theorem Qn{E:Value->Shared->Prop}{pins:List (Addr×Obj)}{s:Shared}{σ:St}{H:Hp}{x:Str}{u:Value}{pos:Pos}{Q:Value->Shared->Prop}(I:Inv X pins σ H s)(hg:Gl X x)(hm:X.mg x=none)(hv:bootBuiltins x=some u)(h:Q u s)
  (hn:x≠"__name__":=by decide) (hd:(x==("__debug__":Str))=false:=by decide):wpAny (model X.prog X.w) X.A (eval (.Name x pos) X.env) Q E s:=by
 obtain⟨mb,h1,h2⟩:=I.mod.blt
 exact Calls.Name_function_global I.ok.kind hg (Calls.loadGlobal_builtin (by rw[I.ok.glob];exact I.mod.glob.keeps I.bk) hm (by rw[I.ok.blt];exact h1.keeps I.bk) ((h2 x hn).trans hv) h) hd
theorem P4{x:Str}{v:V}{u:Value}{pos:Pos}(hg:Gl X x)(hm:X.mg x=some u)(r:RelV v u)(hd:(x==("__debug__":Str))=false:=by decide):PE X (.Name x pos) (tC v) :=
 fun _ _ _ H _ I h=>Ut I hg hm ⟨v,H,I,r,h⟩ hd
theorem cL{x:Str}{v:V}{u:Value}{pos:Pos}(hg:Gl X x)(hm:X.mg x=none)(hv:bootBuiltins x=some u)(r:RelV v u)(hn:x≠"__name__":=by decide)(hd:(x==("__debug__":Str))=false:=by decide):PE X (.Name x pos) (tC v) :=
 fun _ _ _ H _ I h=>Qn I hg hm hv ⟨v,H,I,r,h⟩ hn hd
variable {a b:Expr} {ta tb:TE} {pos:Pos}
def PC(X:Cx)(op:CmpOp)(a b:Expr)(t:TE):Prop :=
 ∀(pins:List (Addr×Obj)) (s:Shared) (σ:St) (H:Hp) (Q:VK),Inv X pins σ H s->t σ H Q ->
  wpAny (model X.prog X.w) X.A (eval a X.env) (fun v s₁=>wpAny (model X.prog X.w) X.A (eval b X.env) (fun u s₂=>wpAny (model X.prog X.w) X.A (compareOp op v u) (EP X pins σ Q) X.xe s₂) X.xe s₁) X.xe s
def tB(t:TE):TT:=fun σ H Q=>t σ H fun x H1=>∃c,x = .bl c/\Q c H1
theorem CK{e:Expr}{t:TE}(h:PE X e t)(he:∀whole,isTrue e X.env whole=(do let v <- whole;standAt e.pos;holding [v] (truthy v)):=by intro _;rfl):PT X e (tB t):=by
 intro pins s σ H Q I hw
 refine isTrue_plain (thn (h pins s σ H _ I hw) fun v s1 ⟨x,H1,I1,r1,q1⟩=>?_) (he _)
 obtain⟨d,rfl,q⟩:=q1
 cases r1
 exact wpAny_truthy_bool ⟨H1,I1,q⟩
variable {tA tB':TT} {GJ:List Expr}
def iC(t u:TT):TT:=fun σ H Q=>t σ H fun c H1=>if c=true then u σ H1 Q else Q false H1
def tOr(t u:TT):TT:=fun σ H Q=>t σ H fun c H1=>if c=true then Q true H1 else u σ H1 Q
def hZ(t:TT):TT:=fun σ H Q=>t σ H fun c H1=>Q (!c) H1
theorem Kj(ha:PT X a tA):PW X (.BoolOp .And [a] pos) tA:=by
 intro wh pins s σ H Q I h
 refine isTrue_and (thn (ha pins s σ H Q I h) fun c s1 e=>?_)
 cases c with
 |true=>exact isTrue_and_nil e
 |false=>exact e
theorem EC(ha:PT X a tA):PW X (.BoolOp .Or [a] pos) tA:=by
 intro wh pins s σ H Q I h
 refine isTrue_or (thn (ha pins s σ H Q I h) fun c s1 e=>?_)
 cases c with
 |false=>exact isTrue_or_nil e
 |true=>exact e
theorem Mu(ha:PT X a tA)(hb:PW X (.BoolOp .And (b::GJ) pos) tB'):PW X (.BoolOp .And (a::b::GJ) pos) (iC tA tB'):=by
 intro wh pins s σ H Q I h
 refine isTrue_and (thn (ha pins s σ H _ I h) fun c s1 ⟨H1,I1,q1⟩=>?_)
 cases c with
 |true=>exact hb wh pins s1 σ H1 Q I1 q1
 |false=>exact⟨H1,I1,q1⟩
theorem ES(ha:PT X a tA)(hb:PW X (.BoolOp .Or (b::GJ) pos) tB'):PW X (.BoolOp .Or (a::b::GJ) pos) (tOr tA tB'):=by
 intro wh pins s σ H Q I h
 refine isTrue_or (thn (ha pins s σ H _ I h) fun c s1 ⟨H1,I1,q1⟩=>?_)
 cases c with
 |true=>exact⟨H1,I1,q1⟩
 |false=>exact hb wh pins s1 σ H1 Q I1 q1
theorem CF(ha:PT X a tA):PT X (.UnaryOp .Not a pos) (hZ tA):=by
 intro pins s σ H Q I h
 exact isTrue_not (ha pins s σ H (fun c H1=>Q (!c) H1) I h)
def dm(ta tb:TE):TE:=fun σ H Q=>ta σ H fun x H1=>∃c,x = .bl c/\if c=true then tb σ H1 Q else Q (.bl false) H1
def dg(ta:TE):TE:=fun σ H Q=>ta σ H fun x H1=>∃c,x = .bl c/\Q (.bl (!c)) H1
theorem DW{op}{t:TE}(h:PE X a t):PE X (.BoolOp op [a] pos) t:=fun pins s σ H Q I hw=>BoolOp_one (h pins s σ H Q I hw)
theorem CO(ha:PE X a ta)(hb:PE X (.BoolOp .And (b::GJ) pos) tb):PE X (.BoolOp .And (a::b::GJ) pos) (dm ta tb):=by
 intro pins s σ H Q I h
 refine BoolOp_and (thn (ha pins s σ H _ I h) fun v s1 ⟨x,H1,I1,r1,q1⟩=>?_)
 obtain⟨c,rfl,q1⟩:=q1
 cases r1
 refine wpAny_truthy_bool ?_
 cases c with
 |true=>exact hb pins s1 σ H1 Q I1 q1
 |false=>exact⟨.bl false,H1,I1,rfl,q1⟩
theorem aR(ha:PE X a ta):PE X (.UnaryOp .Not a pos) (dg ta):=by
 intro pins s σ H Q I h
 refine UnaryOp_ (thn (ha pins s σ H _ I h) fun v s1 ⟨x,H1,I1,r1,q1⟩=>?_)
 obtain⟨c,rfl,q1⟩:=q1
 cases r1
 exact not_of (wpAny_truthy_bool ⟨.bl (!c),H1,I1,rfl,q1⟩)
end
end L2
namespace L2
open PySem PySem.Spec PyProof.Rows
def SqL(K:PySem.W.Frag)(H:Hp)(a:Addr)(xs:List V):Prop :=
 Rd H a (.lst xs) \/
  ∃(o:Obj) (its:Array Value) (n:Nat),K.lookup a=some o/\o.cls = .type "list"/\o.dict=none/\o.data = .seq its n/\its.size<=sizeLine/\Vals xs its.toList
def SqT(K:PySem.W.Frag)(H:Hp)(a:Addr)(xs:List V):Prop :=
 Rd H a (.tup xs) \/
  ∃(o:Obj) (its:Array Value) (n:Nat),K.lookup a=some o/\o.cls = .type "tuple"/\o.data = .seq its n/\its.size<=sizeLine/\Vals xs its.toList
def jd:Value->Option V
 |.none=>some .non
 |.bool b=>some (.bl b)
 |.int i _=>some (.int i)
 |.str x _=>some (.str x)
 |.bytes b _=>some (.byt b)
 |.float b _=>some (.flt b)
 |.ref a=>some (.ref a)
 |.type n=>some (.ty n)
 |_=>none
theorem RelV.abs{x:V}{u:Value}(r:RelV x u):jd u=some x:=by
 cases x with
 |non=>cases r;rfl
 |bl _=>cases r;rfl
 |int _=>obtain⟨t,rfl⟩:=r;rfl
 |str _=>obtain⟨t,rfl⟩:=r;rfl
 |byt _=>obtain⟨t,rfl⟩:=r;rfl
 |flt _=>obtain⟨t,rfl⟩:=r;rfl
 |ref _=>cases r;rfl
 |ty _=>cases r;rfl
theorem RelV.inj{x y:V}{u:Value}(r:RelV x u)(q:RelV y u):x=y:=Option.some.inj (r.abs.symm.trans q.abs)
theorem Vals.inj:∀{xs ys:List V} {us:List Value},Vals xs us->Vals ys us->xs=ys
 |_,_,_,.nil,.nil=>rfl
 |_,_,_,.cons r t,.cons r' t'=>by rw[r.inj r',Vals.inj t t']
section
variable {X:Cx} {pins:List (Addr×Obj)} {σ:St} {H:Hp} {s:Shared} {a:Addr} {xs ys:List V}
theorem SqL.of{K:PySem.W.Frag}(h:H a=some (.lst xs)):SqL K H a xs:=.inl (.inl h)
theorem SqT.of{K:PySem.W.Frag}(h:H a=some (.tup xs)):SqT K H a xs:=.inl (.inl h)
theorem Inv.list(I:Inv X pins σ H s)(h:SqL X.K H a xs):∃its:List Value,Vals xs its/\PlainL s.heap a its.toArray/\xs.length<=sizeLine:=by
 rcases h with h|⟨o,its,n,hk,hc,hd,hs,hz,r⟩
 ·obtain⟨z,its,n,r,e⟩:=h.ok I.hok
  exact⟨its,r,⟨_,n,e,rfl,rfl,rfl⟩,z⟩
 ·refine⟨its.toList,r,⟨o,n,I.kIn a o hk,hc,hd,by simpa using hs⟩,?_⟩
  have e:=r.length
  simp only[Array.length_toList]at e
  omega
theorem Inv.tuple(I:Inv X pins σ H s)(h:SqT X.K H a xs):∃its:List Value,Vals xs its/\IsTup s.heap a its.toArray/\xs.length<=sizeLine:=by
 rcases h with h|⟨o,its,n,hk,hc,hs,hz,r⟩
 ·obtain⟨z,its,r,p⟩:=h.ok I.hok
  exact⟨its,r,p,z⟩
 ·refine⟨its.toList,r,⟨o,I.kIn a o hk,hc,n,by simpa using hs⟩,?_⟩
  have e:=r.length
  simp only[Array.length_toList]at e
  omega
theorem Inv.list_inj(I:Inv X pins σ H s)(h:SqL X.K H a xs)(h':SqL X.K H a ys):xs=ys:=by
 obtain⟨its,r,⟨o,n,e,_,_,d⟩,_⟩:=I.list h
 obtain⟨its',r',⟨o',n',e',_,_,d'⟩,_⟩:=I.list h'
 rw[e]at e';cases e'
 rw[d]at d'
 injection d' with d1 _
 have:its=its':=by simpa using congrArg Array.toList d1
 subst this
 exact r.inj r'
theorem Inv.tuple_inj(I:Inv X pins σ H s)(h:SqT X.K H a xs)(h':SqT X.K H a ys):xs=ys:=by
 obtain⟨its,r,⟨o,e,_,n,d⟩,_⟩:=I.tuple h
 obtain⟨its',r',⟨o',e',_,n',d'⟩,_⟩:=I.tuple h'
 rw[e]at e';cases e'
 rw[d]at d'
 injection d' with d1 _
 have:its=its':=by simpa using congrArg Array.toList d1
 subst this
 exact r.inj r'
end
abbrev Cx.wish(X:Cx)(E:Value->Shared->Prop):Cx:={ X with xe:=E }
abbrev Cx.nox(X:Cx):Cx:=X.wish fun _ _=>False
theorem Cx.Ok.wish{X:Cx}(ok:X.Ok)(E:Value->Shared->Prop):(X.wish E).Ok :=
 ⟨ok.mod,ok.kind,ok.glob,ok.blt,ok.above,ok.inj,ok.has,ok.cab,ok.hd,ok.frames,ok.stk,ok.exf,ok.bs,ok.bsz,ok.noex,ok.exfs,ok.funs,ok.frf⟩
theorem Cx.Ok.unwish{X:Cx}{E:Value->Shared->Prop}(ok:(X.wish E).Ok):X.Ok :=
 ⟨ok.mod,ok.kind,ok.glob,ok.blt,ok.above,ok.inj,ok.has,ok.cab,ok.hd,ok.frames,ok.stk,ok.exf,ok.bs,ok.bsz,ok.noex,ok.exfs,ok.funs,ok.frf⟩
section
variable {X:Cx} {pins:List (Addr×Obj)} {σ:St} {H:Hp} {s:Shared} {E:Value->Shared->Prop}
theorem Inv.wish(I:Inv X pins σ H s)(E:Value->Shared->Prop):Inv (X.wish E) pins σ H s:=⟨I.ok.wish E,I.os,I.bare,I.base,I.loc,I.cell,I.free,I.freeC,I.pin,I.hok,I.len⟩
theorem Inv.unwish(I:Inv (X.wish E) pins σ H s):Inv X pins σ H s:=⟨I.ok.unwish,I.os,I.bare,I.base,I.loc,I.cell,I.free,I.freeC,I.pin,I.hok,I.len⟩
theorem SP.unwish{D:W5}{f:Flow}{s':Shared}(h:SP (X.wish E) pins D f s'):SP X pins D f s':=by
 cases f with
 |next=>obtain⟨σ',H',I,q⟩:=h;exact⟨σ',H',I.unwish,q⟩
 |brk=>obtain⟨σ',H',I,q⟩:=h;exact⟨σ',H',I.unwish,q⟩
 |cont=>obtain⟨σ',H',I,q⟩:=h;exact⟨σ',H',I.unwish,q⟩
 |ret u=>obtain⟨v,σ',H',I,r,q⟩:=h;exact⟨v,σ',H',I.unwish,r,q⟩
theorem PSs.nox{st:List Stmt}{t:TS}(h:PSs X.nox st t):PSs X st t:=fun pins s σ H D I hw =>
 wpAny_mono (h pins s σ H D (I.wish _) hw) (fun _ _ q=>q.unwish) fun _ _ z=>False.elim z
end
section
variable {X:Cx} {st:Stmt} {GJ:List Stmt} {t u:TS} {e:Expr} {te:TE} {pos:Pos}
def dh:TS:=fun D σ H=>D.nx σ H
def hW(t u:TS):TS:=fun D σ H=>t { D with nx:=u D } σ H
theorem A9:PSs X [] dh:=fun _ _ σ H _ I h=>wpAny_execs_nil ⟨σ,H,I,h⟩
theorem AO(h1:PS X st t)(h2:PSs X GJ u):PSs X (st::GJ) (hW t u):=by
 intro pins s σ H D I h
 refine wpAny_execs_cons (thn (h1 pins s σ H { D with nx:=u D } I h) fun f s1 q=>?_)
 cases f with
 |next =>
  obtain⟨σ',H',I',q⟩:=q
  exact h2 pins s1 σ' H' D I' q
 |ret v=>exact q
 |brk=>exact q
 |cont=>exact q
theorem AV(h1:PS X st t):PSs X [st] t:=by
 intro pins s σ H D I h
 refine wpAny_execs_cons (thn (h1 pins s σ H D I h) fun f s1 q=>?_)
 cases f with
 |next=>exact wpAny_execs_nil q
 |ret v=>exact q
 |brk=>exact q
 |cont=>exact q
theorem Inv.quiet{pins:List (Addr×Obj)}{σ:St}{H:Hp}{s:Shared}(I:Inv X pins σ H s):interactive X.env=false:=by simp[interactive,I.ok.kind]
def dj(te:TE):TS:=fun D σ H=>te σ H fun _ H1=>D.nx σ H1
theorem NT(he:PE X e te)(hs:swapsWith e none pos.line X.env=pure false:=by rfl):PS X (.Expr e pos) (dj te):=by
 intro pins s σ H D I h
 exact wpAny_Expr_any (thn (he pins s σ H _ I h) fun v s1 ⟨x,H1,I1,r1,q1⟩=>⟨σ,H1,I1,q1⟩) I.quiet hs
def fN(te:TE):TS:=fun D σ H=>te σ H D.rt
theorem Ae(he:PE X e te):PS X (.Return (some e) pos) (fN te):=by
 intro pins s σ H D I h
 exact wpAny_Return_some (thn (he pins s σ H _ I h) fun v s1 ⟨x,H1,I1,r1,q1⟩=>⟨x,σ,H1,I1,r1,q1⟩)
def iA(c:TT)(t u:TS):TS:=fun D σ H=>c σ H fun b H1=>if b=true then t D σ H1 else u D σ H1
theorem B6{c:Expr}{a b:List Stmt}{tc:TT}(hc:PT X c tc)(ha:PSs X a t)(hb:PSs X b u):PS X (.If c a b pos) (iA tc t u):=by
 intro pins s σ H D I h
 refine wpAny_If (thn (hc pins s σ H _ I h) fun d s1 ⟨H1,I1,q1⟩=>?_)
 cases d with
 |true=>exact ha pins s1 σ H1 D I1 q1
 |false=>exact hb pins s1 σ H1 D I1 q1
end
abbrev TG:=V->St->Hp->(St->Hp->Prop)->Prop
abbrev TGs:=List V->St->Hp->(St->Hp->Prop)->Prop
def PG(X:Cx)(target:Expr)(t:TG):Prop :=
 ∀(pins:List (Addr×Obj)) (s:Shared) (σ:St) (H:Hp) (v:V) (u:Value) (Q:St->Hp->Prop),Inv X pins σ H s->RelV v u->t v σ H Q ->
  wpAny (model X.prog X.w) X.A (assign target X.env u) (fun _ s'=>∃σ' H',Inv X pins σ' H' s'/\Q σ' H') X.xe s
def PGs(X:Cx)(ts:List Expr)(t:TGs):Prop :=
 ∀(pins:List (Addr×Obj)) (s:Shared) (σ:St) (H:Hp) (vs:List V) (us:List Value) (Q:St->Hp->Prop),Inv X pins σ H s->Vals vs us->t vs σ H Q ->
  wpAny (model X.prog X.w) X.A (assignInOrder ((assignEach ts X.env).map (·.2)) us) (fun _ s'=>∃σ' H',Inv X pins σ' H' s'/\Q σ' H') X.xe s
abbrev gq:=V->V->V->Hp->(Hp->Prop)->Prop
def gw(X:Cx)(t:gq):Prop :=
 ∀(pins:List (Addr×Obj)) (s:Shared) (σ:St) (H:Hp) (o i v:V) (ov iv u:Value) (Q:Hp->Prop),Inv X pins σ H s->RelV o ov->RelV i iv->RelV v u->t o i v H Q ->
  wpAny (model X.prog X.w) X.A (setItem ov iv u) (fun _ s'=>∃H',Inv X pins σ H' s'/\Q H') X.xe s
section
variable {X:Cx} {pos:Pos}
def PU(i:Nat):TG:=fun v σ H Q=>Q (σ.set i (some v)) H
theorem BK{i:Nat}{x:Str}(hN:X.N.Nodup)(hi:X.N[i]?=some x)(hx:Loc X.env.scope x)(hf:X.fn x=true\/X.env.scope.names.lookup x=some .local:=by first|exact .inl rfl|exact .inr rfl|assumption):PG X (.Name x pos) (PU i):=by
 intro pins s σ H v u Q I r h
 exact wpAny_assign_Name (NP I hN hi hx r (fun s' I'=>⟨_,H,I',h⟩) hf)
def ir:TGs:=fun vs σ H Q=>vs=[]/\Q σ H
def ei(t:TG)(u:TGs):TGs:=fun vs σ H Q=>∃v r,vs=v::r/\t v σ H fun σ' H'=>u r σ' H' Q
theorem ET:PGs X [] ir:=by
 intro pins s σ H vs us Q I r h
 obtain⟨e,h⟩:=h
 subst e
 cases r
 exact assignInOrder_nil ⟨σ,H,I,h⟩
theorem Bj{e:Expr}{es:List Expr}{t:TG}{u:TGs}(h1:PG X e t)(h2:PGs X es u)
  (hs:(assignEach (e::es) X.env).map (·.2)=assign e X.env::(assignEach es X.env).map (·.2):=by rfl):PGs X (e::es) (ei t u):=by
 intro pins s σ H vs us Q I r h
 obtain⟨v,vr,e1,h⟩:=h
 subst e1
 cases r with
 |cons r rr =>
  rw[hs]
  refine assignInOrder_cons (thn (h1 pins s σ H _ _ _ I r h) fun _ s1 ⟨σ1,H1,I1,q1⟩=>?_)
  exact h2 pins s1 σ1 H1 _ _ Q I1 rr q1
def iq(K:PySem.W.Frag)(n:Nat)(t:TGs):TG:=fun v σ H Q=>∃a xs,v = .ref a/\SqT K H a xs/\xs.length=n/\t xs σ H Q
theorem Fi{es:List Expr}{k:Nat}{t:TGs}{n:Nat}(hc:X.calm=true)(h:PGs X es t)
  (hn:(assignEach es X.env).length=n:=by rfl) (hst:(assignEach es X.env).findIdx? (·.1)=none:=by rfl):PG X (.Tuple es k pos) (iq X.K n t):=by
 intro pins s σ H v u Q I r hw
 obtain⟨a,xs,e1,hq,hl,hw⟩:=hw
 subst e1
 cases r
 obtain⟨its,rv,ht,hz⟩:=I.tuple hq
 refine assign_Tuple_tuple (I.ok.hd hc) ht (by simp[hn,<- hl,rv.length]) hst fun h' hx=>?_
 have I1:Inv X pins σ H { s with heap:=h' }:=I.kept (t':=s.toks) fun b o e=>hx b o (Nat.ne_of_lt (Heap.lt_size e)) e
 exact h pins _ σ H xs _ Q I1 (by simpa using rv) hw
def gN(to ti:TE)(t:gq):TG:=fun v σ H Q=>to σ H fun o H1=>ti σ H1 fun i H2=>t o i v H2 fun H3=>Q σ H3
theorem T7{o i:Expr}{to ti:TE}{t:gq}(ho:PE X o to)(hi:PE X i ti)(hs:gw X t)
  (ha : ∀ v, assign (.Subscript o i pos) X.env v = (do
   let ov <- holding [v] (eval o X.env)
   let iv <- holding [v,ov] (eval i X.env)
   standAt pos
   holding [v,ov,iv] (setItem ov iv v)
   release [v,ov,iv] []):=by intro _;rfl):PG X (.Subscript o i pos) (gN to ti t):=by
 intro pins s σ H v u Q I r h
 rw[ha]
 refine wpAny_bind (wpAny_holding (thn (ho pins s σ H _ I h) fun ov s1 ⟨x,H1,I1,r1,q1⟩=>?_))
 refine wpAny_bind (wpAny_holding (thn (hi pins s1 σ H1 _ I1 q1) fun iv s2 ⟨y,H2,I2,r2,q2⟩=>?_))
 refine wpAny_bind (wpAny_standAt (wpAny_bind (wpAny_holding (thn (hs pins s2 σ H2 x y v ov iv u _ I2 r1 r2 r q2) fun _ s3 ⟨H3,I3,q3⟩=>?_))))
 exact wpAny_release ⟨σ,H3,I3,q3⟩
def Tz(te:TE)(g:TG):TS:=fun D σ H=>te σ H fun x H1=>g x σ H1 D.nx
theorem Eg{tg e:Expr}{te:TE}{g:TG}(he:PE X e te)(hg:PG X tg g)(hs:swapsWithSole [tg] e pos.line X.env=pure false:=by rfl)(hw:swappedStores [tg] e X.env=pure none:=by rfl)
  (h1:(assignEach [tg] X.env).map (·.2)=[assign tg X.env]:=by rfl):PS X (.Assign [tg] e pos) (Tz te g):=by
 intro pins s σ H D I h
 refine wpAny_Assign_stores (thn (he pins s σ H _ I h) fun v s1 ⟨x,H1,I1,r1,q1⟩=>?_) hs hw
 rw[h1]
 exact thn (hg pins s1 σ H1 x v _ I1 r1 q1) fun _ s2 q=>q
theorem BC{i:Nat}{x:Str}{e:Expr}{te:TE}{pos':Pos}(hN:X.N.Nodup)(hi:X.N[i]?=some x)(hx:Loc X.env.scope x)(he:PE X e te)(hs:swapsWith e (some (.Name x pos')) pos.line X.env=pure false:=by rfl)(hf:X.fn x=true\/X.env.scope.names.lookup x=some .local:=by first|exact .inl rfl|exact .inr rfl|assumption) :
  PS X (.Assign [.Name x pos'] e pos) (Tz te (PU i)):=by
 intro pins s σ H D I h
 refine wpAny_Assign_Name (thn (he pins s σ H _ I h) fun v s1 ⟨y,H1,I1,r1,q1⟩=>?_) hs
 exact NP I1 hN hi hx r1 (fun s2 I2=>⟨_,H1,I2,q1⟩) hf
def hX(i j:Nat)(ta:TA):TS:=fun D σ H=>ta σ H fun vs H1=>∃v w,vs=[v,w]/\D.nx ((σ.set i (some v)).set j (some w)) H1
theorem aO{i j:Nat}{x y:Str}{a b:Expr}{ta:TA}{px py pt:Pos}{kt k2 pt2}(hc:X.calm=true)(hN:X.N.Nodup)(hi:X.N[i]?=some x)(hj:X.N[j]?=some y)(hij:i≠j)
  (hx:X.env.scope.names.lookup x=some .local) (hy:X.env.scope.names.lookup y=some .local) (ha:PA X [a,b] ta)
  (hw:swappedStores [.Tuple [.Name x px,.Name y py] kt pt] (.Tuple [a,b] k2 pt2) X.env=pure (some [x,y]))
  (hs:swapsWithSole [.Tuple [.Name x px,.Name y py] kt pt] (.Tuple [a,b] k2 pt2) pos.line X.env=pure false:=by rfl) :
  PS X (.Assign [.Tuple [.Name x px,.Name y py] kt pt] (.Tuple [a,b] k2 pt2) pos) (hX i j ta):=by
 intro pins s σ H D I h
 rw[exec_Assign_arm]
 refine wpAny_bind (wpAny_standAt ?_)
 rw[hs]
 refine wpAny_bind (wpAny_pure ?_)
 rw[if_neg (by decide)]
 refine wpAny_bind (Tuple_ (thn (ha _ pins s σ H _ I h) fun us s1 ⟨vs,H1,I1,r1,q1⟩=>?_))
 obtain⟨v,w,e1,q1⟩:=q1
 subst e1
 obtain⟨u1,u2,rfl,rv,rw'⟩:∃u1 u2,us=[u1,u2]/\RelV v u1/\RelV w u2:=by
  cases r1 with
  |cons p q =>
   cases q with
   |cons p' q' =>
    cases q'
    exact⟨_,_,rfl,p,p'⟩
 refine wpAny_newObj_type ?_ (by show 2<=sizeLine;decide)
 have I2:Inv X pins σ H1 { s1 with heap:=s1.heap.push { cls:=.type "tuple",data:=.seq [u1,u2].toArray } }:=I1.kept (t':=s1.toks) fun b o e=>Heap.get?_push_of_some _ e
 rw[hw]
 refine wpAny_bind (wpAny_pure ?_)
 show wpAny (model X.prog X.w) X.A (do rule "assign.swapped-stores";let items <- unpackItems (.ref s1.heap.objs.size) 2 none;assignInOrder [fun v=>bindName X.env y v,fun v=>bindName X.env x v] items.reverse;pure Flow.next) _ _ _
 refine wpAny_bind (wpAny_rule (wpAny_bind (unpackItems_tuple (items:=#[u1,u2]) (I.ok.hd hc) (IsTup.new s1.heap _) fun h' hx'=>?_)))
 have I3:=I2.kept (h':=h') (t':=s1.toks) fun b o e=>hx' b o (Nat.ne_of_lt (Heap.lt_size e)) e
 show wpAny _ _ (assignInOrder [fun v=>bindName X.env y v,fun v=>bindName X.env x v] [u2,u1] >>= fun _=>pure Flow.next) _ _ _
 refine wpAny_bind (assignInOrder_cons (wpAny_bindName (NP I3 hN hj (.inl hy) rw' (fun s2 I4=>?_) (.inr hy))))
 refine assignInOrder_cons (wpAny_bindName (NP I4 hN hi (.inl hx) rv (fun s3 I5=>assignInOrder_nil (wpAny_pure ?_)) (.inr hx)))
 rw[List.set_comm _ _ (Ne.symm hij)]at I5
 exact⟨_,H1,I5,q1⟩
end
section
variable {X:Cx} {pos:Pos}
def Z7(c:TT)(tb:TS):TS:=fun D σ H=>∃W:Nat->St->Hp->Prop,(∃m,W m σ H)/\∀m σ H,W m σ H ->
 c σ H fun b H1=>if b=true then ∃N:St->Hp->Prop,(∀σ' H',N σ' H'->∃m',m'<m/\W m' σ' H')/\tb { D with nx:=N,ct:=N,bk:=D.nx } σ H1 else D.nx σ H1
theorem QU{c:Expr}{body:List Stmt}{tc:TT}{tb:TS}(hp:PassesOwn (model X.prog X.w) X.A X.env X.xe)(hc:PT X c tc)(hb:PSs X body tb):PS X (.While c body [] pos) (Z7 tc tb):=by
 intro pins s σ H D I h
 obtain⟨W,⟨m0,w0⟩,turn⟩:=h
 refine wpAny_While (codeAny_whileLoop (fun n s'=>∃σ' H',Inv X pins σ' H' s'/\W n σ' H') ?_ m0 ⟨σ,H,I,w0⟩)
 rintro n s1 ⟨σ1,H1,I1,w1⟩
 refine wpAny_passesOwn hp (thn (hc pins s1 σ1 H1 _ I1 (turn n σ1 H1 w1)) fun b s2 ⟨H2,I2,q2⟩=>?_)
 cases b with
 |true =>
  obtain⟨N,hN,q2⟩:=q2
  rw[if_pos rfl]
  refine wpAny_passesOwn hp (thn (hb pins s2 σ1 H2 _ I2 q2) fun f s3 q3=>?_)
  cases f with
  |next =>
   obtain⟨σ3,H3,I3,n3⟩:=q3
   obtain⟨m',hm,w3⟩:=hN σ3 H3 n3
   exact⟨m',hm,σ3,H3,I3,w3⟩
  |cont =>
   obtain⟨σ3,H3,I3,n3⟩:=q3
   obtain⟨m',hm,w3⟩:=hN σ3 H3 n3
   exact⟨m',hm,σ3,H3,I3,w3⟩
  |brk=>exact q3
  |ret v=>exact q3
 |false =>
  rw[if_neg Bool.false_ne_true]
  exact wpAny_execs_nil ⟨σ1,H2,I2,q2⟩
end
structure It where
 go:Nat->Hp->Prop
 yld:Nat->Hp->V->Hp->Prop
 stop:Nat->Hp->Prop
def Sf(X:Cx)(pins:List (Addr×Obj))(H:Hp)(b:Addr):Prop :=
 H b=none/\b≠X.env.locals/\b∉X.fs/\(b∈X.ex\/X.s₀.heap.objs.size<=b)/\(∀x c,X.env.cells.lookup x=some c->c≠b)/\∀p∈X.pn++pins,p.1≠b
theorem Inv.fpOk{X:Cx}{pins:List (Addr×Obj)}{σ:St}{H H':Hp}{s:Shared}{b:Addr}(I:Inv X pins σ H s)(hb:s.heap.objs.size<=b)(hn:H' b=none):Sf X pins H' b:=by
 refine⟨hn,Nat.ne_of_gt (Nat.lt_of_lt_of_le I.lt hb),I.nofs hb,.inr (Nat.le_trans I.sz hb),fun x c e z=>?_,fun p hp z=>?_⟩
 ·obtain⟨v,q⟩:=I.cell x c e
  exact absurd (Nat.lt_of_lt_of_le q.lt (by rw[z];exact hb)) (Nat.lt_irrefl _)
 ·exact absurd (Nat.lt_of_lt_of_le (Heap.lt_size (I.pin p hp).1) (by rw[z];exact hb)) (Nat.lt_irrefl _)
structure W3(P:Program)(w:World)(K:PySem.W.Frag)(tg:Expr)(J:It)(fp:List Addr)(it:Addr)(tn:Nat->Heap->Prop):Prop where
 mem:it∈fp
 obj:∀i h,tn i h->∀b∈fp,∃o,h.get? b=some o/\∀v,o.data≠.cell v
 keep:∀i h h',tn i h->(∀b∈fp,∀o,h.get? b=some o->h'.get? b=some o)->tn i h'
 item:∀(X:Cx),X.prog=P->X.w=w->X.K=K->X.calm=true->∀(i:Nat) (pins:List (Addr×Obj)) (s:Shared) (σ:St) (H:Hp) (E:Value->Shared->Prop),Inv X pins σ H s->(∀b∈fp,Sf X pins H b)->tn i s.heap->J.go i H ->
  wpAny (model P w) X.A (pyNext (.ref it)) (fun r s1 => ∃ u, r = some u /\
   wpAny (model P w) X.A (letOwnedTupleGo tg (.ref it) u) (fun _ s2=>∃x H',Inv X pins σ H' s2/\RelV x u/\J.yld i H x H'/\tn (i+1) s2.heap/\∀b∈fp,H' b=none) E s1) E s
 done:∀(X:Cx),X.prog=P->X.w=w->X.K=K->X.calm=true->∀(i:Nat) (pins:List (Addr×Obj)) (s:Shared) (σ:St) (H:Hp) (E:Value->Shared->Prop),Inv X pins σ H s->(∀b∈fp,Sf X pins H b)->tn i s.heap->J.stop i H ->
  wpAny (model P w) X.A (pyNext (.ref it)) (fun r s1=>r=none/\Inv X pins σ H s1) E s
 self:∀(A:Around) (i:Nat) (s:Shared) (Q:Value->Shared->Prop) (E:Value->Shared->Prop),tn i s.heap->Q (.ref it) s->wpAny (model P w) A (pyIter (.ref it)) Q E s
abbrev TI:=St->Hp->(It->Hp->Prop)->Prop
def PIE(X:Cx)(pins:List (Addr×Obj))(σ:St)(tg:Expr)(R:It->Hp->Prop)(itv:Value)(s2:Shared):Prop :=
 ∃(it:Addr) (fp:List Addr) (tn:Nat->Heap->Prop) (J:It) (H':Hp),itv = .ref it/\Inv X pins σ H' s2/\W3 X.prog X.w X.K tg J fp it tn/\tn 0 s2.heap/\(∀b∈fp,Sf X pins H' b)/\R J H'
def PI(X:Cx)(tg iter:Expr)(wi:TI):Prop :=
 ∀(pins:List (Addr×Obj)) (s:Shared) (σ:St) (H:Hp) (R:It->Hp->Prop),Inv X pins σ H s->wi σ H R ->
  wpAny (model X.prog X.w) X.A (eval iter X.env) (fun v s1=>wpAny (model X.prog X.w) X.A (pyIter v) (PIE X pins σ tg R) X.xe s1) X.xe s
theorem WW{M:Model}{A:Around}{E:Value->Shared->Prop}{s:Shared}{tg:Expr}{it:Addr}{u:Value}{o:Obj}{n:String}{vs:Array Value}{Q:Unit->Shared->Prop}(ho:s.heap.get? it=some o)(hc:o.cls = .type n)(hd:o.data = .fields vs)
    (hn:["enumerate","zip","dict_itemiterator","dict_reverseitemiterator","odict_iterator","itertools.zip_longest","itertools.pairwise"].contains n=false) (hQ:Q () s):wpAny M A (letOwnedTupleGo tg (.ref it) u) Q E s:=by
  unfold letOwnedTupleGo
  cases tg<;>first
    |exact wpAny_pure hQ
    | (cases u <;> first
        |exact wpAny_pure hQ
        | (refine wpAny_bind (wpAny_load ho ?_)
           rw[hc,hd]
           show wpAny M A (if (["enumerate","zip","dict_itemiterator","dict_reverseitemiterator","odict_iterator","itertools.zip_longest","itertools.pairwise"].contains n&&vs[0]?==some (rawInt _))=true then _ else _) Q E s
           rw[if_neg (by intro h;rw[hn,Bool.false_and]at h;cases h)]
           exact wpAny_pure hQ))
def Itl(K:PySem.W.Frag)(a:Addr):It :=
 ⟨fun i H=>∃xs x,SqL K H a xs/\xs[i]?=some x,fun i H x H'=>H'=H/\∀xs,SqL K H a xs->xs[i]?=some x,fun i H=>∃xs,SqL K H a xs/\xs.length<=i⟩
def Itt(K:PySem.W.Frag)(a:Addr):It :=
 ⟨fun i H=>∃xs x,SqT K H a xs/\xs[i]?=some x,fun i H x H'=>H'=H/\∀xs,SqT K H a xs->xs[i]?=some x,fun i H=>∃xs,SqT K H a xs/\xs.length<=i⟩
def Itr(lo:Int)(n:Nat):It:=⟨fun i _=>i<n,fun i H x H'=>H'=H/\x = .int (lo+i),fun i _=>n<=i⟩
theorem Y3{P:Program}{w:World}{K:PySem.W.Frag}{tg:Expr}(a it:Addr):W3 P w K tg (Itl K a) [it] it (fun i h=>h.IsListIter it a i) where
 mem:=by simp
 obj:=fun i h st b hb=>by
  have e:b=it:=by simpa using hb
  subst e
  obtain⟨o,e,c,d⟩:=st
  exact⟨o,e,fun v z=>by rw[d]at z;cases z⟩
 keep:=fun i h h' st k=>st.at fun o e=>k it (by simp) o e
 item:=by
  intro X hP hw hK hc i pins s σ H E I hf st hg
  subst hP hw hK
  obtain⟨xs,x,hq,hx⟩:=hg
  obtain⟨its,rv,p,hz⟩:=I.list hq
  obtain⟨u,hu,ru⟩:=rv.get hx
  obtain⟨f0,f1,f2,f3,f4,f5⟩:=hf it (by simp)
  refine wpAny_pyNext_list_item st p.isList (x:=u) (by simpa using hu) fun h' st' sb=>?_
  have I1:Inv X pins σ H { s with heap:=h' }:=I.turned (t':=s.toks) (fun b o hb e=>(sb.2 b hb).trans e) f0 f1 f3 f4 f5
  obtain⟨o,e,c,d⟩:=id st'
  exact⟨u,rfl,WW (s:={ s with heap:=h' }) e c d (by decide) ⟨x,H,I1,ru,⟨rfl,fun ys hy=>by rw[I.list_inj hy hq];exact hx⟩,st',fun b hb=>(hf b hb).1⟩⟩
 done:=by
  intro X hP hw hK hc i pins s σ H E I hf st hg
  subst hP hw hK
  obtain⟨xs,hq,hx⟩:=hg
  obtain⟨its,rv,p,hz⟩:=I.list hq
  obtain⟨f0,f1,f2,f3,f4,f5⟩:=hf it (by simp)
  have hl:=rv.length
  exact wpAny_pyNext_list_end (I.ok.hd hc) st p.isList (by simp;omega) fun h' eb=>⟨rfl,I.turned (t':=s.toks) (fun b o hb e=>eb b o hb e) f0 f1 f3 f4 f5⟩
 self:=fun _ _ _ _ _ st h=>wpAny_pyIter_listiter st h
theorem W9{P:Program}{w:World}{K:PySem.W.Frag}{tg:Expr}(a it:Addr):W3 P w K tg (Itt K a) [it] it (fun i h=>h.IsTupleIter it a i) where
 mem:=by simp
 obj:=fun i h st b hb=>by
  have e:b=it:=by simpa using hb
  subst e
  obtain⟨o,e,c,d⟩:=st
  exact⟨o,e,fun v z=>by rw[d]at z;cases z⟩
 keep:=fun i h h' st k=>st.at fun o e=>k it (by simp) o e
 item:=by
  intro X hP hw hK hc i pins s σ H E I hf st hg
  subst hP hw hK
  obtain⟨xs,x,hq,hx⟩:=hg
  obtain⟨its,rv,p,hz⟩:=I.tuple hq
  obtain⟨u,hu,ru⟩:=rv.get hx
  obtain⟨f0,f1,f2,f3,f4,f5⟩:=hf it (by simp)
  refine wpAny_pyNext_tuple_item st (show s.heap.IsTuple a its.toArray from p) (x:=u) (by simpa using hu) fun h' st' sb=>?_
  have I1:Inv X pins σ H { s with heap:=h' }:=I.turned (t':=s.toks) (fun b o hb e=>(sb.2 b hb).trans e) f0 f1 f3 f4 f5
  obtain⟨o,e,c,d⟩:=id st'
  exact⟨u,rfl,WW (s:={ s with heap:=h' }) e c d (by decide) ⟨x,H,I1,ru,⟨rfl,fun ys hy=>by rw[I.tuple_inj hy hq];exact hx⟩,st',fun b hb=>(hf b hb).1⟩⟩
 done:=by
  intro X hP hw hK hc i pins s σ H E I hf st hg
  subst hP hw hK
  obtain⟨xs,hq,hx⟩:=hg
  obtain⟨its,rv,p,hz⟩:=I.tuple hq
  obtain⟨f0,f1,f2,f3,f4,f5⟩:=hf it (by simp)
  have hl:=rv.length
  exact wpAny_pyNext_tuple_end (I.ok.hd hc) st (show s.heap.IsTuple a its.toArray from p) (by simp;omega) fun h' eb=>⟨rfl,I.turned (t':=s.toks) (fun b o hb e=>eb b o hb e) f0 f1 f3 f4 f5⟩
 self:=fun _ _ _ _ _ st h=>wpAny_pyIter_tupleiter st h
theorem XA{P:Program}{w:World}{K:PySem.W.Frag}{tg:Expr}(it:Addr)(lo:Int)(n:Nat):W3 P w K tg (Itr lo n) [it] it (fun i h=>IsRangeIter h it (lo+(i:Nat)*1) ((n:Int)-(i:Nat)) 1) where
 mem:=by simp
 obj:=fun i h st b hb=>by
  have e:b=it:=by simpa using hb
  subst e
  exact ⟨_, st, fun v z => by
   have z':Data.fields _=Data.cell v:=z
   cases z'⟩
 keep:=fun i h h' st k=>k it (by simp) _ st
 item:=by
  intro X hP hw hK hc i pins s σ H E I hf st hg
  subst hP hw hK
  obtain⟨f0,f1,f2,f3,f4,f5⟩:=hf it (by simp)
  have W:=Walks.range (prog:=X.prog) (w:=X.w) (I.ok.hd hc) it lo 1 n
  refine W.item i s _ _ hg st fun v h' tk hv st' kk=>?_
  obtain⟨t,rfl⟩:=hv
  have I1:Inv X pins σ H { s with heap:=h',toks:=tk }:=I.turned (fun b o hb e=>kk b o (by simpa using hb) e) f0 f1 f3 f4 f5
  refine⟨_,rfl,WW (s:={ s with heap:=h',toks:=tk }) (n:="range_iterator") st' rfl rfl (by decide) ⟨.int (lo+i),H,I1,⟨t,?_⟩,⟨rfl,rfl⟩,st',fun b hb=>(hf b hb).1⟩⟩
  rw[Int.mul_one]
 done:=by
  intro X hP hw hK hc i pins s σ H E I hf st hg
  subst hP hw hK
  obtain⟨f0,f1,f2,f3,f4,f5⟩:=hf it (by simp)
  exact wpAny_pyNext_range_end (I.ok.hd hc) st (by have:n<=i:=hg;omega) fun h' eb=>⟨rfl,I.turned (t':=s.toks) (fun b o hb e=>eb b o hb e) f0 f1 f3 f4 f5⟩
 self:=fun _ _ _ _ _ st h=>wpAny_pyIter_rangeiter st h
end L2
namespace L2
open PySem PySem.Spec PyProof.Rows
section
variable {X:Cx} {tg:Expr}
def eY(K:PySem.W.Frag)(tl:TE):TI:=fun σ H R=>tl σ H fun x H1=>∃a,x = .ref a/\(∃xs,SqL K H1 a xs)/\R (Itl K a) H1
def ik(K:PySem.W.Frag)(tl:TE):TI:=fun σ H R=>tl σ H fun x H1=>∃a,x = .ref a/\(∃xs,SqT K H1 a xs)/\R (Itt K a) H1
theorem T6{l:Expr}{tl:TE}(hl:PE X l tl):PI X tg l (eY X.K tl):=by
 intro pins s σ H R I h
 refine thn (hl pins s σ H _ I h) fun v s1 ⟨x,H1,I1,r1,q1⟩=>?_
 obtain⟨a,e,⟨xs,hq⟩,q⟩:=q1
 subst e
 cases r1
 obtain⟨its,rv,p,hz⟩:=I1.list hq
 refine wpAny_pyIter_list p.isList ?_
 refine⟨s1.heap.objs.size,[s1.heap.objs.size],_,_,H1,rfl,I1.kept (t':=s1.toks) fun b o e=>Heap.get?_push_of_some _ e,Y3 a _,⟨_,Heap.get?_push_size _ rfl,rfl,rfl⟩,fun b hb=>?_,q⟩
 have e:b=s1.heap.objs.size:=by simpa using hb
 subst e
 exact I1.fpOk (Nat.le_refl _) (I1.hok.fresh (Nat.le_refl _))
theorem XJ{l:Expr}{tl:TE}(hl:PE X l tl):PI X tg l (ik X.K tl):=by
 intro pins s σ H R I h
 refine thn (hl pins s σ H _ I h) fun v s1 ⟨x,H1,I1,r1,q1⟩=>?_
 obtain⟨a,e,⟨xs,hq⟩,q⟩:=q1
 subst e
 cases r1
 obtain⟨its,rv,p,hz⟩:=I1.tuple hq
 refine wpAny_pyIter_tuple (show s1.heap.IsTuple a its.toArray from p) ?_
 refine⟨s1.heap.objs.size,[s1.heap.objs.size],_,_,H1,rfl,I1.kept (t':=s1.toks) fun b o e=>Heap.get?_push_of_some _ e,W9 a _,⟨_,Heap.get?_push_size _ rfl,rfl,rfl⟩,fun b hb=>?_,q⟩
 have e:b=s1.heap.objs.size:=by simpa using hb
 subst e
 exact I1.fpOk (Nat.le_refl _) (I1.hok.fresh (Nat.le_refl _))
theorem aG{pins:List (Addr×Obj)}{σ:St}{H:Hp}{s:Shared}{R:It->Hp->Prop}{E:Value->Shared->Prop}{lo hi:Int}{t u v:Tok}{tk:Nat}(I:Inv X pins σ H s)(h1:-(2 ^ 62)<=lo)(h2:lo<2 ^ 62)(h3:-(2 ^ 62)<=hi)(h4:hi<2 ^ 62)
  (q:R (Itr lo (hi-lo).toNat) H):wpAny (model X.prog X.w) X.A (pyIter (.ref s.heap.objs.size)) (PIE X pins σ tg R) E { s with heap:=s.heap.push { cls:=.type "range",data:=.fields #[.int lo t,.int hi u,.int 1 v] },toks:=tk }:=by
 refine wpAny_pyIter_range (IsRange.new ..) (small_one h1 h2 h3 h4) ?_
 have I1:Inv X pins σ H { s with heap:=s.heap.push { cls:=.type "range",data:=.fields #[.int lo t,.int hi u,.int 1 v] },toks:=tk }:=I.kept fun b o e=>Heap.get?_push_of_some _ e
 refine ⟨(s.heap.push { cls := .type "range", data := .fields #[.int lo t, .int hi u, .int 1 v] }).objs.size, [(s.heap.push { cls := .type "range", data := .fields #[.int lo t, .int hi u, .int 1 v] }).objs.size], _, _, H, rfl,
  I1.kept (t':=tk) fun b o e=>Heap.get?_push_of_some _ e,XA _ lo (hi-lo).toNat,?_,fun b hb=>?_,q⟩
 ·have e1:lo+((0:Nat):Int)*1=lo:=by simp
  have e2:(((hi-lo).toNat:Nat):Int)-((0:Nat):Int)=Builtin.Range.rangeSize lo hi 1:=by rw[rangeSize_one];split<;>omega
  show IsRangeIter _ _ (lo+((0:Nat):Int)*1) ((((hi-lo).toNat:Nat):Int)-((0:Nat):Int)) 1
  rw[e1,e2]
  exact Heap.get?_push_size _ rfl
 ·have e:b=(s.heap.push { cls:=.type "range",data:=.fields #[.int lo t,.int hi u,.int 1 v] }).objs.size:=by simpa using hb
  subst e
  exact I1.fpOk (Nat.le_refl _) (I1.hok.fresh (Nat.le_refl _))
def eX(ta:TA):TI:=fun σ H R=>ta σ H fun vs H1=>∃j:Int,vs=[.int j]/\-(2 ^ 62)<=j/\j<2 ^ 62/\R (Itr 0 j.toNat) H1
theorem Jw{a:Expr}{ta:TA}{p pos:Pos}(hg:Gl X "range")(hm:X.mg "range"=none)(ha:PA X [a] ta)(hs:starEach [a] X.env=[(false,eval a X.env)]:=by rfl):PI X tg (.Call (.Name "range" p) [a] [] pos) (eX ta):=by
 intro pins s σ H R I h
 refine Call_ (Qn I hg hm boot_range (PyProof.Rows.callWith_type1 (thn (ha pos pins s σ H _ I h) fun us s1 ⟨vs,H1,I1,r1,q1⟩=>?_) hs rfl))
 obtain⟨j,e,q1,q2,q⟩:=q1
 subst e
 cases r1 with
 |cons r rr =>
  cases rr
  obtain⟨t,rfl⟩:=r
  exact call_range_1 (aG I1 (by omega) (by omega) q1 q2 (by simpa using q))
def iB(wi:TI)(g:TG)(tb:TS):TS:=fun D σ H=>wi σ H fun J H1=>∃W:Nat->Nat->St->Hp->Prop,(∃m,W 0 m σ H1)/\∀i m σ H,W i m σ H ->
 (J.stop i H/\D.nx σ H)\/(J.go i H/\∃N:St->Hp->Prop,(∀σ' H',N σ' H'->∃m',m'<m/\W (i+1) m' σ' H')/\∀x H',J.yld i H x H'->g x σ H' fun σ2 H2=>tb { D with nx:=N,ct:=N,bk:=D.nx } σ2 H2)
def QV(fp:List Addr)(h:Heap):List (Addr×Obj):=fp.filterMap fun b=>(h.get? b).map fun o=>(b,o)
theorem Kn{fp:List Addr}{h:Heap}{b:Addr}{o:Obj}(hb:b∈fp)(e:h.get? b=some o):(b,o)∈QV fp h:=List.mem_filterMap.mpr ⟨b,hb,by rw[e];rfl⟩
theorem ZI{fp:List Addr}{h:Heap}{p:Addr×Obj}(hp:p∈QV fp h):p.1∈fp/\h.get? p.1=some p.2:=by
 obtain⟨b,hb,e⟩:=List.mem_filterMap.mp hp
 cases q:h.get? b with
 |none=>rw[q]at e;cases e
 |some o =>
  rw[q]at e
  have e':(b,o)=p:=Option.some.inj e
  subst e'
  exact⟨hb,q⟩
theorem Inv.pinned{pins:List (Addr×Obj)}{σ:St}{H:Hp}{s:Shared}{fp:List Addr}(I:Inv X pins σ H s)(hf:∀b∈fp,Sf X pins H b)(ho:∀b∈fp,∃o,s.heap.get? b=some o/\∀v,o.data≠.cell v):Inv X (pins++QV fp s.heap) σ H s :=
 I.pins_of fun p hp=>(List.mem_append.mp hp).elim (fun z=>I.pin p (List.mem_append_right _ z)) fun z=>by
  obtain⟨hb,e⟩:=ZI z
  obtain⟨f0,f1,f2,_⟩:=hf p.1 hb
  obtain⟨o,e',d⟩:=ho p.1 hb
  rw[e]at e';cases e'
  exact⟨e,f0,f1,f2,d⟩
theorem Inv.unpinned{pins pl:List (Addr×Obj)}{σ:St}{H:Hp}{s:Shared}(I:Inv X (pins++pl) σ H s):Inv X pins σ H s:=I.pins_of fun p hp=>I.pin p (List.mem_append_right _ (List.mem_append_left _ hp))
theorem LO{iter:Expr}{body:List Stmt}{wi:TI}{g:TG}{tb:TS}{pos:Pos}(hp:PassesOwn (model X.prog X.w) X.A X.env X.xe)(hc:X.calm=true)(hi:PI X tg iter wi)(hg:PG X tg g)(hb:PSs X body tb)
  (hs:∀x,foldedSetIterable iter X.env x=pure x:=by intro _;rfl):PS X (.For tg iter body [] pos) (iB wi g tb):=by
 intro pins s σ H D I h
 refine wpAny_For (thn (hi pins s σ H _ I h) fun v s1 h1=>thn h1 fun itv s2 h2=>?_) hs
 obtain⟨it,fp,tn,J,H2,e,I2,T,st2,f2,W,⟨m0,w0⟩,turn⟩:=h2
 subst e
 -- what stays true of the iterator's objects through the loop
 have stat:∀{H':Hp},(∀b∈fp,H' b=none)->∀b∈fp,Sf X pins H' b:=fun hn b hb=>⟨hn b hb,(f2 b hb).2⟩
 refine codeAny_forLoop_any (fun n s'=>∃i σ' H',Inv X pins σ' H' s'/\tn i s'.heap/\(∀b∈fp,H' b=none)/\W i n σ' H') ?_ m0 ⟨0,σ,H2,I2,st2,fun b hb=>(f2 b hb).1,w0⟩
 rintro n s3 ⟨i,σ3,H3,I3,st3,fr3,w3⟩
 rcases turn i n σ3 H3 w3 with ⟨stop,qn⟩|⟨go,N,hN,step⟩
 ·refine wpAny_passesOwn hp (thn (T.done X rfl rfl rfl hc i pins s3 σ3 H3 X.xe I3 (stat fr3) st3 stop) fun r s4 ⟨hr,I4⟩=>?_)
  subst hr
  exact wpAny_execs_nil ⟨σ3,H3,I4,qn⟩
 ·refine wpAny_passesOwn hp (thn (T.item X rfl rfl rfl hc i pins s3 σ3 H3 X.xe I3 (stat fr3) st3 go) fun r s4 ⟨u,hr,h4⟩=>?_)
  subst hr
  refine wpAny_passesOwn hp (thn h4 fun _ s5 ⟨x,H5,I5,r5,y5,st5,fr5⟩=>?_)
  have I5':=I5.pinned (stat fr5) (T.obj _ _ st5)
  refine wpAny_passesOwn hp (thn (hg _ s5 σ3 H5 x u _ I5' r5 (step x H5 y5)) fun _ s6 ⟨σ6,H6,I6,q6⟩=>?_)
  refine wpAny_passesOwn hp (thn (hb _ s6 σ6 H6 _ I6 q6) fun f s7 q7=>?_)
  have again:∀{σ7:St} {H7:Hp},Inv X (pins++QV fp s5.heap) σ7 H7 s7->N σ7 H7->∃m,m<n/\∃i σ' H',Inv X pins σ' H' s7/\tn i s7.heap/\(∀b∈fp,H' b=none)/\W i m σ' H':=fun {σ7 H7} I7 n7=>by
   obtain⟨m',hm,w7⟩:=hN σ7 H7 n7
   refine⟨m',hm,i+1,σ7,H7,I7.unpinned,T.keep _ _ _ st5 fun b hb o e=>(I7.pin (b,o) (List.mem_append_right _ (List.mem_append_right _ (Kn hb e)))).1,fun b hb=>?_,w7⟩
   obtain⟨o,e,d⟩:=T.obj _ _ st5 b hb
   exact(I7.pin (b,o) (List.mem_append_right _ (List.mem_append_right _ (Kn hb e)))).2.1
  cases f with
  |next=>obtain⟨σ7,H7,I7,n7⟩:=q7;exact again I7 n7
  |cont=>obtain⟨σ7,H7,I7,n7⟩:=q7;exact again I7 n7
  |brk=>obtain⟨σ7,H7,I7,q7⟩:=q7;exact⟨σ7,H7,I7.unpinned,q7⟩
  |ret v=>obtain⟨x7,σ7,H7,I7,r7,q7⟩:=q7;exact⟨x7,σ7,H7,I7.unpinned,r7,q7⟩
end
end L2
namespace L2
open PySem PySem.Spec PyProof.Rows
abbrev R2:=V->V->Hp->VK->Prop
def OpR(X:Cx)(f:Value->Value->Sem Value)(r:R2):Prop :=
 ∀(pins:List (Addr×Obj)) (s:Shared) (σ:St) (H:Hp) (x y:V) (v u:Value) (Q:VK),Inv X pins σ H s->RelV x v->RelV y u->r x y H Q ->
  wpAny (model X.prog X.w) X.A (f v u) (EP X pins σ Q) X.xe s
def UnR(X:Cx)(f:Value->Sem Value)(r:V->Hp->VK->Prop):Prop :=
 ∀(pins:List (Addr×Obj)) (s:Shared) (σ:St) (H:Hp) (x:V) (v:Value) (Q:VK),Inv X pins σ H s->RelV x v->r x H Q ->
  wpAny (model X.prog X.w) X.A (f v) (EP X pins σ Q) X.xe s
def K8(X:Cx)(f:Value)(r:List V->Hp->VK->Prop):Prop :=
 ∀(pins:List (Addr×Obj)) (s:Shared) (σ:St) (H:Hp) (xs:List V) (us:List Value) (Q:VK),Inv X pins σ H s->Vals xs us->r xs H Q ->
  wpAny (model X.prog X.w) X.A (call f us) (EP X pins σ Q) X.xe s
def tOp(r:R2)(ta tb:TE):TE:=fun σ H Q=>ta σ H fun x H1=>tb σ H1 fun y H2=>r x y H2 Q
def tUn(r:V->Hp->VK->Prop)(ta:TE):TE:=fun σ H Q=>ta σ H fun x H1=>r x H1 Q
def rI(C:Int->Int->Prop)(g:Int->Int->V):R2:=fun x y H Q=>∃i j,x = .int i/\y = .int j/\C i j/\Q (g i j) H
def rI0(g:Int->Int->V):R2:=fun x y H Q=>∃i j,x = .int i/\y = .int j/\Q (g i j) H
def rU(g:Int->V):V->Hp->VK->Prop:=fun x H Q=>∃i,x = .int i/\Q (g i) H
section
variable {X:Cx} {a b c:Expr} {ta tb tc:TE} {pos:Pos}
theorem gc(ha:PE X a ta)(hb:PE X b tb){pins:List (Addr×Obj)}{s:Shared}{σ:St}{H:Hp}{R:V->V->Hp->Prop}(I:Inv X pins σ H s)
  (h:ta σ H fun x H1=>tb σ H1 fun y H2=>R x y H2) {Q:Value->Shared->Prop} {f:Value->Value->Sem Value}
  (hf:∀v u s2 x y H2,Inv X pins σ H2 s2->RelV x v->RelV y u->R x y H2->wpAny (model X.prog X.w) X.A (f v u) Q X.xe s2) :
  wpAny (model X.prog X.w) X.A (eval a X.env) (fun v s₁=>wpAny (model X.prog X.w) X.A (eval b X.env) (fun u s₂=>wpAny (model X.prog X.w) X.A (f v u) Q X.xe s₂) X.xe s₁) X.xe s:=by
 refine thn (ha pins s σ H _ I h) fun v s1 ⟨x,H1,I1,r1,q1⟩=>?_
 refine thn (hb pins s1 σ H1 _ I1 q1) fun u s2 ⟨y,H2,I2,r2,q2⟩=>?_
 exact hf v u s2 x y H2 I2 r1 r2 q2
theorem Af{op:Operator}{r:R2}(ho:OpR X (binaryOp op) r)(ha:PE X a ta)(hb:PE X b tb):PE X (.BinOp a op b pos) (tOp r ta tb):=by
 intro pins s σ H Q I h
 exact wpAny_BinOp (gc ha hb I h fun v u s2 x y H2 I2 rx ry q=>ho pins s2 σ H2 x y v u Q I2 rx ry q)
theorem GY{op:UnaryOp}{r:V->Hp->VK->Prop}(ho:UnR X (unaryOp op) r)(ha:PE X a ta):PE X (.UnaryOp op a pos) (tUn r ta):=by
 intro pins s σ H Q I h
 exact UnaryOp_ (thn (ha pins s σ H _ I h) fun v s1 ⟨x,H1,I1,r1,q1⟩=>ho pins s1 σ H1 x v Q I1 r1 q1)
theorem opI{f:Value->Value->Sem Value}{C:Int->Int->Prop}{g:Int->Int->Int}
  (rule:∀(i j:Int) (t u:Tok) (s:Shared) (Q:Value->Shared->Prop) (E:Value->Shared->Prop),C i j->Q (.int (g i j) s.toks) { s with toks:=s.toks+1 }->wpAny (model X.prog X.w) X.A (f (.int i t) (.int j u)) Q E s) :
  OpR X f (rI C fun i j=>.int (g i j)):=by
 intro pins s σ H x y v u Q I rx ry h
 obtain⟨i,j,rfl,rfl,hc,q⟩:=h
 obtain⟨t,rfl⟩:=rx
 obtain⟨t',rfl⟩:=ry
 exact rule i j t t' s _ _ hc ⟨.int (g i j),H,I.tok _,⟨_,rfl⟩,q⟩
theorem iQ{f:Value->Value->Sem Value}{g:Int->Int->Int}
  (rule:∀(i j:Int) (t u:Tok) (s:Shared) (Q:Value->Shared->Prop) (E:Value->Shared->Prop),Q (.int (g i j) s.toks) { s with toks:=s.toks+1 }->wpAny (model X.prog X.w) X.A (f (.int i t) (.int j u)) Q E s) :
  OpR X f (rI0 fun i j=>.int (g i j)):=by
 intro pins s σ H x y v u Q I rx ry h
 obtain⟨i,j,rfl,rfl,q⟩:=h
 obtain⟨t,rfl⟩:=rx
 obtain⟨t',rfl⟩:=ry
 exact rule i j t t' s _ _ ⟨.int (g i j),H,I.tok _,⟨_,rfl⟩,q⟩
theorem cQ{f:Value->Value->Sem Value}{g:Int->Int->Bool}
  (rule:∀(i j:Int) (t u:Tok) (s:Shared) (Q:Value->Shared->Prop) (E:Value->Shared->Prop),Q (.bool (g i j)) s->wpAny (model X.prog X.w) X.A (f (.int i t) (.int j u)) Q E s) :
  OpR X f (rI0 fun i j=>.bl (g i j)):=by
 intro pins s σ H x y v u Q I rx ry h
 obtain⟨i,j,rfl,rfl,q⟩:=h
 obtain⟨t,rfl⟩:=rx
 obtain⟨t',rfl⟩:=ry
 exact rule i j t t' s _ _ ⟨.bl (g i j),H,I,rfl,q⟩
def bx(i j:Int):Prop:=0<=j/\j<=1000000/\i.natAbs<2 ^ 64
def CMul(i j:Int):Prop:=(-(2 ^ 64)<i/\i<2 ^ 64)\/(-(2 ^ 64)<j/\j<2 ^ 64)
theorem CMul.ok{i j:Int}(h:CMul i j):IntMulOk i j:=by
 rcases h with ⟨h1,h2⟩|⟨h1,h2⟩
 ·exact .of_left (intBits_le_64 h1 h2)
 ·exact .of_right (intBits_le_64 h1 h2)
theorem Fj:OpR X (binaryOp .Add) (rI0 fun i j=>.int (i+j)):=iQ fun _ _ _ _ _ _ _ q=>add_int q
theorem OS:OpR X (binaryOp .Sub) (rI0 fun i j=>.int (i-j)):=iQ fun _ _ _ _ _ _ _ q=>sub_int q
theorem Bp:OpR X (binaryOp .Mod) (rI (fun _ j=>0<j) fun i j=>.int (i % j)):=opI fun i j _ _ _ _ _ hc q=>by
 have h1:(0:Int)<j:=hc
 exact mod_int' (by omega) (by rw[Int.fmod_eq_emod_of_nonneg i (by omega)];exact q)
theorem aa:OpR X (binaryOp .Pow) (rI bx fun i j=>.int (i ^ j.toNat)):=opI fun _ _ _ _ _ _ _ hc q=>pow_int_small hc.1 hc.2.1 hc.2.2 q
theorem unI{f:Value->Sem Value}{g:Int->Int}
  (rule:∀(i:Int) (t:Tok) (s:Shared) (Q:Value->Shared->Prop) (E:Value->Shared->Prop),Q (.int (g i) s.toks) { s with toks:=s.toks+1 }->wpAny (model X.prog X.w) X.A (f (.int i t)) Q E s) :
  UnR X f (rU fun i=>.int (g i)):=by
 intro pins s σ H x v Q I rx h
 obtain⟨i,rfl,q⟩:=h
 obtain⟨t,rfl⟩:=rx
 exact rule i t s _ _ ⟨.int (g i),H,I.tok _,⟨_,rfl⟩,q⟩
theorem Ed:UnR X (unaryOp .USub) (rU fun i=>.int (-i)):=unI fun _ _ _ _ _ q=>neg_int q
end
section
variable {X:Cx} {a b c:Expr} {ta tb tc:TE} {pos:Pos}
theorem bT{pins:List (Addr×Obj)}{σ:St}{H:Hp}{s:Shared}{Q:VK}{k k':Bool}(I:Inv X pins σ H s)(q:Q (.bl k) H)(e:k=k'):EP X pins σ Q (.bool k') s:=by
 subst e
 exact⟨.bl k,H,I,rfl,q⟩
theorem Vl:OpR X (compareOp .Lt) (rI0 fun i j=>.bl (decide (i<j))):=cQ fun _ _ _ _ _ _ _ q=>lt_int q
theorem Jy:OpR X (compareOp .LtE) (rI0 fun i j=>.bl (decide (i<=j))):=cQ fun _ _ _ _ _ _ _ q=>le_int q
theorem Vm:OpR X (compareOp .Gt) (rI0 fun i j=>.bl (decide (j<i))):=cQ fun _ _ _ _ _ _ _ q=>gt_int q
theorem eL:OpR X (compareOp .GtE) (rI0 fun i j=>.bl (decide (j<=i))):=cQ fun _ _ _ _ _ _ _ q=>ge_int q
theorem ZF:OpR X (compareOp .In) (fun x y H Q=>∃i j,x = .str i/\y = .str j/\Q (.bl (!(Builtin.Str.occurrences j i 0 j.length 1).isEmpty)) H):=by
 intro pins s σ H x y v u Q I rx ry h
 obtain⟨i,j,rfl,rfl,q⟩:=h
 obtain⟨t,rfl⟩:=rx
 obtain⟨t',rfl⟩:=ry
 exact in_str (bT I q rfl)
theorem T8:OpR X (compareOp .NotIn) (fun x y H Q=>∃i j,x = .str i/\y = .str j/\Q (.bl (!(!(Builtin.Str.occurrences j i 0 j.length 1).isEmpty))) H):=by
 intro pins s σ H x y v u Q I rx ry h
 obtain⟨i,j,rfl,rfl,q⟩:=h
 obtain⟨t,rfl⟩:=rx
 obtain⟨t',rfl⟩:=ry
 exact notIn_str (bT I q rfl)
theorem A0(b:Expr){op:CmpOp}(h:op≠.In:=by decide)(h2:op≠.NotIn:=by decide):behindInMarks op b=false:=by
 have e1:(op==CmpOp.In)=false:=by cases op<;>first|rfl|exact absurd rfl h
 have e2:(op==CmpOp.NotIn)=false:=by cases op<;>first|rfl|exact absurd rfl h2
 cases b<;>simp[behindInMarks,e1,e2]
theorem Cs{op:CmpOp}{r:R2}(ho:OpR X (compareOp op) r)(ha:PE X a ta)(hb:PE X b tb)(hm:behindInMarks op b=false):PE X (.Compare a [op] [b] pos) (tOp r ta tb):=by
 intro pins s σ H Q I h
 exact wpAny_Compare1 (gc ha hb I h fun v u s2 x y H2 I2 rx ry q=>ho pins s2 σ H2 x y v u Q I2 rx ry q) hm
def Z8(t:TE):TT:=fun σ H Q=>t σ H fun x H'=>∃k,x = .bl k/\Q k H'
theorem Az{op:CmpOp}{r:R2}(ho:OpR X (compareOp op) r)(ha:PE X a ta)(hb:PE X b tb)(hm:behindInMarks op b=false):PT X (.Compare a [op] [b] pos) (Z8 (tOp r ta tb)):=by
 intro pins s σ H Q I h
 refine wpAny_isTrue_Compare1 (thn (ha pins s σ H _ I h) fun v s1 ⟨x, H1, I1, r1, q1⟩ => thn (hb pins s1 σ H1 _ I1 q1) fun u s2 ⟨y, H2, I2, r2, q2⟩ =>
  thn (ho pins s2 σ H2 x y v u _ I2 r1 r2 q2) fun c s3 ⟨z,H3,I3,r3,k,e,q3⟩=>?_) hm
 subst e
 cases r3
 exact wpAny_truthy_bool ⟨H3,I3,q3⟩
def XD(r r':R2)(ta tb tc:TE):TE:=fun σ H Q=>ta σ H fun x H1=>tb σ H1 fun y H2=>r x y H2 fun z H3=>∃k,z = .bl k /\
 (if k=true then tc σ H3 fun w' H4=>r' y w' H4 Q else Q (.bl false) H3)
theorem QW{op op':CmpOp}{r r':R2}(ho:OpR X (compareOp op) r)(ho':OpR X (compareOp op') r')(ha:PE X a ta)(hb:PE X b tb)(hc:PE X c tc)
  (hm:lastMarks [op,op'] [b,c]=false:=by with_unfolding_all rfl):PE X (.Compare a [op,op'] [b,c] pos) (XD r r' ta tb tc):=by
 intro pins s σ H Q I h
 refine Compare_chain (thn (ha pins s σ H _ I h) fun v s1 ⟨x, H1, I1, r1, q1⟩ => chain_link (thn (hb pins s1 σ H1 _ I1 q1) fun u s2 ⟨y, H2, I2, r2, q2⟩ =>
  thn (ho pins s2 σ H2 x y v u _ I2 r1 r2 q2) fun d s3 ⟨z,H3,I3,r3,k,e,q3⟩=>?_)) hm
 subst e
 cases r3
 refine wpAny_truthy_bool ?_
 cases k with
 |false=>exact ite_ff ⟨.bl false,H3,I3,rfl,q3⟩
 |true=>exact ite_tt (chain_last (thn (hc pins s3 σ H3 _ I3 q3) fun w' s4 ⟨z',H4,I4,r4,q4⟩=>ho' pins s4 σ H4 y z' u w' Q I4 r2 r4 q4))
theorem NS{op op':CmpOp}{r r':R2}(ho:OpR X (compareOp op) r)(ho':OpR X (compareOp op') r')(ha:PE X a ta)(hb:PE X b tb)(hc:PE X c tc)
  (hm:lastMarks [op,op'] [b,c]=false:=by with_unfolding_all rfl):PT X (.Compare a [op,op'] [b,c] pos) (Z8 (XD r r' ta tb tc)):=by
 intro pins s σ H Q I h
 refine isTrue_chain (thn (ha pins s σ H _ I h) fun v s1 ⟨x, H1, I1, r1, q1⟩ => test_link (thn (hb pins s1 σ H1 _ I1 q1) fun u s2 ⟨y, H2, I2, r2, q2⟩ =>
  thn (ho pins s2 σ H2 x y v u _ I2 r1 r2 q2) fun d s3 ⟨z,H3,I3,r3,k,e,q3⟩=>?_)) hm
 subst e
 cases r3
 refine wpAny_truthy_bool ?_
 cases k with
 |false =>
  obtain⟨k',e',q'⟩:=q3
  cases e'
  exact ite_ff ⟨H3,I3,q'⟩
 |true =>
  refine ite_tt (test_last (thn (hc pins s3 σ H3 _ I3 q3) fun w' s4 ⟨z',H4,I4,r4,q4⟩=>thn (ho' pins s4 σ H4 y z' u w' _ I4 r2 r4 q4) fun d' s5 ⟨z2,H5,I5,r5,k2,e2,q5⟩=>?_))
  subst e2
  cases r5
  exact wpAny_truthy_bool ⟨H5,I5,q5⟩
theorem Qm:(sizeLine:Nat)<2 ^ 63:=by rw[sizeLine_eq];decide
theorem Mw:OpR X (binaryOp .Add) (fun x y H Q=>∃i j,x = .str i/\y = .str j/\i.length+j.length<=sizeLine/\Q (.str (i++j)) H):=by
 intro pins s σ H x y v u Q I rx ry h
 obtain⟨i,j,rfl,rfl,hz,q⟩:=h
 obtain⟨t,rfl⟩:=rx
 obtain⟨t',rfl⟩:=ry
 exact add_str (fun t' tk=>⟨.str (i++j),H,I.tok _,⟨_,rfl⟩,q⟩) hz
theorem QD{x:V}{us:List Value}(r:Vals [x] us):∃u,us=[u]/\RelV x u:=by
 cases r with
 |cons r1 r2=>cases r2;exact⟨_,rfl,r1⟩
theorem Z0{x y:V}{us:List Value}(r:Vals [x,y] us):∃u w',us=[u,w']/\RelV x u/\RelV y w':=by
 cases r with
 |cons r1 r2 =>
  cases r2 with
  |cons r3 r4=>cases r4;exact⟨_,_,rfl,r1,r3⟩
theorem RS:K8 X (.builtin "abs") (fun xs H Q=>∃i,xs=[.int i]/\Q (.int (if i<0 then -i else i)) H):=by
 intro pins s σ H xs us Q I r h
 obtain⟨i,rfl,q⟩:=h
 obtain⟨u,rfl,t,rfl⟩:=QD r
 exact call_abs_int fun u tk=>⟨.int (if i<0 then -i else i),H,I.tok _,⟨_,rfl⟩,q⟩
theorem Zy(hc:X.calm=true):K8 X (.builtin "max") (fun xs H Q=>∃i j,xs=[.int i,.int j]/\Q (.int (if j>i then j else i)) H):=by
 intro pins s σ H xs us Q I r h
 obtain⟨i,j,rfl,q⟩:=h
 obtain⟨u,w',rfl,⟨t,rfl⟩,⟨t',rfl⟩⟩:=Z0 r
 refine max_two_ints (I.ok.hd hc) fun h' tk k=>⟨_,H,I.kept k,?_,q⟩
 by_cases hj:j>i
 ·rw[if_pos hj,if_pos hj];exact⟨_,rfl⟩
 ·rw[if_neg hj,if_neg hj];exact⟨_,rfl⟩
theorem Zw(hc:X.calm=true):K8 X (.builtin "min") (fun xs H Q=>∃i j,xs=[.int i,.int j]/\Q (.int (if j<i then j else i)) H):=by
 intro pins s σ H xs us Q I r h
 obtain⟨i,j,rfl,q⟩:=h
 obtain⟨u,w',rfl,⟨t,rfl⟩,⟨t',rfl⟩⟩:=Z0 r
 refine min_two_ints (I.ok.hd hc) fun h' tk k=>⟨_,H,I.kept k,?_,q⟩
 by_cases hj:j<i
 ·rw[if_pos hj,if_pos hj];exact⟨_,rfl⟩
 ·rw[if_neg hj,if_neg hj];exact⟨_,rfl⟩
def gy(K:PySem.W.Frag)(x:V)(H:Hp)(n:Nat):Prop :=
 match x with
 |.str y=>y.length<=sizeLine/\n=y.length
 |.byt y=>y.size<=sizeLine/\n=y.size
 |.ref p=>(∃xs,SqL K H p xs/\n=xs.length)\/∃xs,SqT K H p xs/\n=xs.length
 |_=>False
theorem Bh:K8 X (.builtin "len") (fun xs H Q=>∃x n,xs=[x]/\gy X.K x H n/\Q (.int n) H):=by
 intro pins s σ H xs us Q I r h
 obtain⟨x,n,rfl,e,q⟩:=h
 obtain⟨u,rfl,rx⟩:=QD r
 have hl:=Qm
 have hs:sizeLine=16777216:=sizeLine_eq
 cases x with
 |str y =>
  obtain⟨t,rfl⟩:=rx
  obtain⟨hy,e'⟩:y.length<=sizeLine/\n=y.length:=e
  subst e'
  exact len_str (by omega) ⟨.int _,H,I.tok _,⟨_,rfl⟩,q⟩
 |byt y =>
  obtain⟨t,rfl⟩:=rx
  obtain⟨hy,e'⟩:y.size<=sizeLine/\n=y.size:=e
  subst e'
  exact PySem.W.len_bytes (by omega) ⟨.int _,H,I.tok _,⟨_,rfl⟩,q⟩
 |ref p =>
  cases rx
  have e':(∃xs,SqL X.K H p xs/\n=xs.length)\/∃xs,SqT X.K H p xs/\n=xs.length:=e
  rcases e' with ⟨xs,hx,e'⟩|⟨xs,hx,e'⟩
  ·subst e'
   obtain⟨its,r',pl,hz⟩:=I.list hx
   have hlen:=r'.length
   exact Calls.call_len_list pl.isList (by simp only[List.size_toArray];omega) ⟨.int xs.length,H,I.tok _,⟨_,by simp only[List.size_toArray];rw[hlen]⟩,q⟩
  ·subst e'
   obtain⟨its,r',pl,hz⟩:=I.tuple hx
   have hlen:=r'.length
   exact len_tuple pl (by simp only[List.size_toArray];omega) ⟨.int xs.length,H,I.tok _,⟨_,by simp only[List.size_toArray];rw[hlen]⟩,q⟩
 |_=>exact(show False from e).elim
end
end L2
namespace L2
open PySem PySem.Spec PyProof.Rows
structure ObjM(h:Heap)(x dx C:Addr)(mA:Str->Option Value):Prop where
 obj:h.get? x=some (PySem.W.instObj C dx)
 ns:h.Ns1 dx mA
 ne:dx≠x
theorem ZT{h:Heap}{dx:Addr}{mA:Str->Option Value}(n:h.Ns1 dx mA):∃od,h.get? dx=some od/\∀name,PySem.W.lookIn name od=some (mA name):=by
 obtain⟨o,es,ep,ho,hd,hk,_,hm⟩:=n
 refine⟨o,ho,fun name=>?_⟩
 have e:=hm name
 unfold nsFind findBy at e
 rw[<- Array.find?_toList]at e
 unfold PySem.W.lookIn
 rw[hd]
 dsimp only
 split
 ·rename_i y q
  rw[q]at e
  exact congrArg some e
 ·rename_i q
  rw[q]at e
  have a:es.toList.any (·.refKey)=false:=by
   rw[List.any_eq_false]
   intro y hy
   obtain⟨z,t,hkey⟩:=hk y (Array.mem_toList_iff.mp hy)
   simp[DictEntry.refKey,hkey]
  have a':¬es.toList.any (·.refKey)=true:=by rw[a];exact Bool.false_ne_true
  rw[if_neg a']
  exact congrArg some e
theorem ObjM.look{h:Heap}{x dx C:Addr}{mA:Str->Option Value}(I:ObjM h x dx C mA):∃od,PySem.W.InstAt h x (PySem.W.instObj C dx) C (some od)/\∀name,PySem.W.lookIn name od=some (mA name) :=
 let ⟨od,ho,hl⟩:=ZT I.ns
 ⟨od,⟨I.obj,rfl,rfl,ho⟩,hl⟩
section
variable {prog:Program} {w:World} {A:Around} {E:Value->Shared->Prop} {s:Shared} {K:PySem.W.Frag} {x dx C f:Addr} {mA:Str->Option Value} {name:Str} {v:Value}
end
section
variable {P:Program} {w:World} {H H':Hp} {h h':Heap} {a C dx:Addr} {fs fs':List (Str×V)}
theorem cw(hok:HOk P w H h)(e:H a=some (.ins C dx fs)):∃mA,ObjM h a dx C mA/\(∀f,gs (fs.lookup f) (mA f))/\PySem.Within mA (fs.map (·.1))/\fs.length<=1000/\H dx=some (.own a):=by
 obtain⟨d,z,ne,ob,mA,n,r,q⟩:=(show ObjOk P w H h a (.ins C dx fs) from hok a _ e)
 exact⟨mA,⟨ob,n,ne⟩,r,q,z,d⟩
end
structure Cls(K:PySem.W.Frag)(C:Addr):Prop where
 pg:PySem.W.plainGet K C Str.empty=true
 hd:PySem.W.hasDictIn K C=true
 po:PySem.W.plainOver K C=true
 sa:PySem.W.findIn K (.ref C) "__setattr__"=some (some (.builtin "object.__setattr__"))
theorem Cls.get{K:PySem.W.Frag}{C:Addr}(c:Cls K C)(f:Str):PySem.W.plainGet K C f=true:=c.pg
section
variable {X:Cx} {pins:List (Addr×Obj)} {σ:St} {H:Hp} {s:Shared} {a C dx:Addr} {fs:List (Str×V)} {f:Str} {v:V} {A:Around} {E:Value->Shared->Prop}
end
section
variable {X:Cx} {o e value:Expr} {f:Str} {pos pos' tpos:Pos} {ta tv:TE}
end
section
variable {X:Cx} {pins:List (Addr×Obj)} {σ:St} {H:Hp} {s:Shared} {A:Around} {E:Value->Shared->Prop} {Q:Value->Shared->Prop} {c:Value} {b:Bool}
inductive Py (K:PySem.W.Frag) (H:Hp):V->Value->Prop where
 |non:Py K H .non (.type "NoneType")
 |bl (x:Bool):Py K H (.bl x) (.type "bool")
 |int (i:Int):Py K H (.int i) (.type "int")
 |str (x:Str):Py K H (.str x) (.type "str")
 |flt (x:UInt64):Py K H (.flt x) (.type "float")
 |lst {a:Addr} {xs:List V} (e:H a=some (.lst xs)):Py K H (.ref a) (.type "list")
 |frz {a:Addr} {o:Obj} {xs:List V} (e:H a=some (.frz o (.lst xs))):Py K H (.ref a) (.type "list")
 |tup {a:Addr} {xs:List V} (e:H a=some (.tup xs)):Py K H (.ref a) (.type "tuple")
 |dK {a:Addr} {kvs:List (Key×V)} (e:H a=some (.dK kvs)):Py K H (.ref a) (.type "dict")
 |dT {a:Addr} {kvs:List (List Key×V)} (e:H a=some (.dT kvs)):Py K H (.ref a) (.type "dict")
 |ins {a C dx:Addr} {fs:List (Str×V)} (e:H a=some (.ins C dx fs)) (cl:Cls K C) (ha:PySem.W.findIn K (.ref C) "__class__"=some (some (.builtin "object.__class__")))
   (hn:PySem.W.specialIn K (.builtin "object.__class__") "__get__"=some (some (.builtin "getset_descriptor.__get__"))) (htk:PySem.W.takesIn K (.builtin "object.__class__")=some true)
   (hm:PySem.W.mroIn K C (.type "object")=some true):Py K H (.ref a) (.ref C)
theorem J8{x:V}{u t:Value}(I:Inv X pins σ H s)(rx:RelV x u)(ty:Py X.K H x t)(e:PySem.W.kitOne X.K t c=some b)(h:∀tk,Q (.bool b) { s with toks:=tk }) :
  wpAny (model X.prog X.w) A (call (.builtin "isinstance") [u,c]) Q E s:=by
 cases ty with
 |non=>cases (show u=Value.none from rx);exact PySem.W.kia_one PySem.W.kitx_none I.kIn True.intro e (fun z=>nomatch z) h
 |bl y=>cases (show u=Value.bool y from rx);exact PySem.W.kia_one PySem.W.kitx_bool I.kIn True.intro e (fun z=>nomatch z) h
 |int i=>obtain⟨t,q⟩:=(show ∃t,u=Value.int i t from rx);cases q;exact PySem.W.kia_one PySem.W.kitx_int I.kIn True.intro e (fun z=>nomatch z) h
 |str y=>obtain⟨t,q⟩:=(show ∃t,u=Value.str y t from rx);cases q;exact PySem.W.kia_one PySem.W.kitx_str I.kIn True.intro e (fun z=>nomatch z) h
 |flt y=>obtain⟨t,q⟩:=(show ∃t,u=Value.float y t from rx);cases q;exact PySem.W.kia_one PySem.W.kitx_float I.kIn True.intro e (fun z=>nomatch z) h
 |@lst a xs ea =>
  cases (show u=Value.ref a from rx)
  obtain⟨_,_,n,_,h1⟩:=(show ObjOk X.prog X.w H s.heap a (.lst xs) from I.hok a _ ea)
  exact PySem.W.kia_one PySem.W.kitx_list I.kIn ⟨_,h1,rfl⟩ e (fun z=>nomatch z) h
 |@frz a ob xs ea =>
  cases (show u=Value.ref a from rx)
  obtain⟨_,_,_,n,_,h1⟩:=(show ObjOk X.prog X.w H s.heap a (.frz ob (.lst xs)) from I.hok a _ ea)
  exact PySem.W.kia_one PySem.W.kitx_list I.kIn ⟨_,h1,rfl⟩ e (fun z=>nomatch z) h
 |@tup a xs ea =>
  cases (show u=Value.ref a from rx)
  obtain⟨_,_,_,p⟩:=(show ObjOk X.prog X.w H s.heap a (.tup xs) from I.hok a _ ea)
  obtain⟨o,h1,h2,_⟩:=p
  exact PySem.W.kia_one PySem.W.kitx_tuple I.kIn ⟨o,h1,h2⟩ e (fun z=>nomatch z) h
 |@dK a kvs ea =>
  cases (show u=Value.ref a from rx)
  obtain⟨_,_,vs,_,p⟩:=(show ObjOk X.prog X.w H s.heap a (.dK kvs) from I.hok a _ ea)
  obtain⟨o,es,ep,h1,h2,_⟩:=p
  exact PySem.W.kia_one PySem.W.kitx_dict I.kIn ⟨o,h1,h2.1⟩ e (fun z=>nomatch z) h
 |@dT a kvs ea =>
  cases (show u=Value.ref a from rx)
  obtain⟨_,_,xs,_,o,es,ep,h1,h2,_⟩:=(show ObjOk X.prog X.w H s.heap a (.dT kvs) from I.hok a _ ea)
  exact PySem.W.kia_one PySem.W.kitx_dict I.kIn ⟨o,h1,h2.1⟩ e (fun z=>nomatch z) h
 |@ins a C dx fs ea cl ha hn htk hm =>
  cases (show u=Value.ref a from rx)
  obtain⟨mA,O,_⟩:=cw I.hok ea
  obtain⟨od,J,_⟩:=O.look
  exact PySem.W.kia_one (PySem.W.kitx_own (cl.get _) cl.hd ha hn htk hm) I.kIn J e (fun z=>nomatch z) h
end
end L2
namespace L2
open PySem PySem.Spec PyProof.Rows
structure Room(k:Nat)(A:Around):Prop where
 hd:A.handled=none
 dp:A.depth+3*k+5<recursionLimit
 un:A.units+16*k+200<cLine
theorem Room.mono{j k:Nat}{A:Around}(r:Room k A)(h:j<=k):Room j A:=⟨r.hd,by have:=r.dp;omega,by have:=r.un;omega⟩
theorem Room.deeper{k:Nat}{A:Around}(r:Room (k+1) A)(env:Env):Room k (A.deeper env) :=
 ⟨r.hd,by have:=r.dp;show A.depth+1+3*k+5<_;omega,by have:=r.un;show A.units+3+16*k+200<_;omega⟩
theorem Room.depth{k:Nat}{A:Around}(r:Room k A):A.depth<recursionLimit:=by have:=r.dp;omega
theorem Room.units{k:Nat}{A:Around}(r:Room k A):A.units+64<cLine:=by have:=r.un;omega
def XC:TA:=fun _ H Q=>Q [] H
def Sr(ta:TE)(tr:TA):TA:=fun σ H Q=>ta σ H fun x H1=>tr σ H1 fun xs H2=>Q (x::xs) H2
section
variable {X:Cx} {e:Expr} {es:List Expr} {te:TE} {t:TA} {pos:Pos}
theorem AN:PA X [] XC:=fun _ _ _ _ H Q I h=>Calls.spliced_nil ⟨[],H,I,.nil,h⟩
theorem AB(ha:PE X e te)(hr:PA X es t)(hs:starEach (e::es) X.env=(false,eval e X.env)::starEach es X.env:=by rfl):PA X (e::es) (Sr te t):=by
 intro pos pins s σ H Q I h
 rw[hs]
 show wpAny _ _ (spliced ((false,eval e X.env)::backTo pos (starEach es X.env))) _ _ s
 refine Calls.spliced_cons (thn (ha pins s σ H _ I h) fun u s1 ⟨x,H1,I1,r1,q1⟩=>?_)
 exact thn (hr pos pins s1 σ H1 _ I1 q1) fun us s2 ⟨xs,H2,I2,r2,q2⟩=>⟨x::xs,H2,I2,.cons r1 r2,q2⟩
def hV(t:TA):TE:=fun σ H Q=>t σ H fun xs H1=>xs.length<=sizeLine/\∀p,H1 p=none->Q (.ref p) (upd H1 p (.tup xs))
def fO(t:TA):TE:=fun σ H Q=>t σ H fun xs H1=>xs.length<=sizeLine/\∀p,H1 p=none->Q (.ref p) (upd H1 p (.lst xs))
theorem BJ{x1}(h:PA X es t):PE X (.Tuple es x1 pos) (hV t):=by
 intro pins s σ H Q I hq
 refine wpAny_Tuple_spliced (thn (h pos pins s σ H _ I hq) fun us s1 ⟨xs,H1,I1,r,z,q⟩=>⟨by rw[<- r.length];exact z,?_⟩)
 have hf:H1 s1.heap.objs.size=none:=I1.hok.fresh (Nat.le_refl _)
 refine⟨.ref s1.heap.objs.size,upd H1 s1.heap.objs.size (.tup xs),I1.laid (t':=s1.toks) (fun b u e=>Heap.get?_push_of_some _ e) (Nat.le_refl _) ?_,rfl,q _ hf⟩
 exact⟨z,us,r,⟨_,Heap.get?_push_size _ rfl,rfl,_,rfl⟩⟩
theorem IF(h:PA X es t):PE X (.List es pos) (fO t):=by
 intro pins s σ H Q I hq
 refine wpAny_List_spliced (thn (h pos pins s σ H _ I hq) fun us s1 ⟨xs,H1,I1,r,z,q⟩=>⟨by rw[<- r.length];exact z,?_⟩)
 have hf:H1 s1.heap.objs.size=none:=I1.hok.fresh (Nat.le_refl _)
 refine⟨.ref s1.heap.objs.size,upd H1 s1.heap.objs.size (.lst xs),I1.laid (t':=s1.toks) (fun b u e=>Heap.get?_push_of_some _ e) (Nat.le_refl _) ?_,rfl,q _ hf⟩
 exact⟨z,us,0,r,Heap.get?_push_size _ rfl⟩
end
abbrev Sp:=List V->Hp->VK->XK->Prop
abbrev CXT:=List Env->Hp->Shared->XK->Value->Shared->Prop
structure dU(P:Program)(w:World)(K:PySem.W.Frag)(mg:Str->Option Value)(base:Heap)(A:Around)(outer:List Env)(s:Shared)(H:Hp):Prop where
 frames:A.frames=some outer
 mod:Mod K mg base
 bs:∀b o,base.get? b=some o->s.heap.get? b=some o/\H b=none
 bsz:base.objs.size<=s.heap.objs.size
 funs:s.heap.FunFrames base outer
 frf:∀b∈frs outer,H b=none
 hok:HOk P w H s.heap
 bare:AllBare s.gens
def CE(outer:List Env)(P:Program)(w:World)(H:Hp)(s:Shared)(Q:VK)(u:Value)(s':Shared):Prop :=
 ∃v H',s'.os=s.os/\AllBare s'.gens/\Un (frs outer) [] H H' s.heap s'.heap/\HOk P w H' s'.heap/\RelV v u/\Q v H'
def CR(CX:CXT)(outer:List Env)(P:Program)(w:World)(H:Hp)(s:Shared)(Q:VK)(E:XK)(r:Result)(s':Shared):Prop :=
 match r with
 |.ok (.ret u)=>CE outer P w H s Q u s'
 |.ok _=>False
 |.error e=>CX outer H s E e s'
structure FnOk(P:Program)(w:World)(K:PySem.W.Frag)(mg:Str->Option Value)(base:Heap)(CX:CXT)(k:Nat)(f:Addr)(fd:FuncData)(ps:List Str)(sp:Sp):Prop where
 len:∀vs H Q E,sp vs H Q E->vs.length=ps.length
 run:∀(A:Around) (outer:List Env) (s:Shared) (H:Hp) (args:Args) (us:List Value) (vs:List V) (Q:VK) (E:XK),Room k A->dU P w K mg base A outer s H->BindsTo s fd args (ps.zip us)->Vals vs us->sp vs H Q E ->
  codeAny (model P w) A (.call (.ref f) args) (CR CX outer P w H s Q E) s
theorem FnOk.mono{P:Program}{w:World}{K:PySem.W.Frag}{mg:Str->Option Value}{base:Heap}{CX:CXT}{j k:Nat}{f:Addr}{fd:FuncData}{ps:List Str}{sp:Sp}(F:FnOk P w K mg base CX j f fd ps sp)(h:j<=k) :
  FnOk P w K mg base CX k f fd ps sp:=⟨F.len,fun A outer s H args us vs Q E hr=>F.run A outer s H args us vs Q E (hr.mono h)⟩
section
variable {X:Cx} {pins:List (Addr×Obj)} {σ:St} {H:Hp} {s s':Shared}
theorem Inv.env0(I:Inv X pins σ H s):dU X.prog X.w X.K X.mg X.base X.A X.stack s H :=
 ⟨I.ok.frames,I.ok.mod,I.bs,Nat.le_trans I.ok.bsz I.sz,I.stack,I.stkFree,I.hok,I.bare⟩
theorem Inv.after{Q:VK}{u:Value}(I:Inv X pins σ H s)(h:CE X.stack X.prog X.w H s Q u s'):EP X pins σ Q u s':=by
 obtain⟨v,H',os,bare,un,hok,r,q⟩:=h
 obtain⟨hh,g,d,t,os'⟩:=s'
 obtain rfl:os'=s.os:=os
 exact⟨v,H',I.call (h':=hh) (g':=g) (d':=d) (t':=t) (ch:=[]) un hok bare (fun b z=>absurd z (by simp)),r,q⟩
end
def QN(sp:Sp)(dvs:List V)(E:XK)(t:TA):TE:=fun σ H Q=>t σ H fun vs H1=>sp (vs++dvs) H1 Q E
def Binds(K:PySem.W.Frag)(fd:FuncData)(ps:List Str)(ds:List Value):Prop :=
 ∀(s:Shared) (us:List Value),K.In s.heap->(us++ds).length=ps.length->BindsTo s fd ⟨us,[]⟩ (ps.zip (us++ds))
theorem Binds.all{K:PySem.W.Frag}{fd:FuncData}{ps:List Str}(h:∀us:List Value,us.length=ps.length->bindArgs fd ⟨us,[]⟩=pure (ps.zip us)):Binds K fd ps []:=fun s us _ hl=>by
 rw[List.append_nil]at hl ⊢
 exact .of_eq (h us hl)
def VQ(CX:CXT)(X:Cx)(E:XK):Prop:=∀(pins:List (Addr×Obj)) (σ:St) (H:Hp) (s:Shared) (e:Value) (s':Shared),Inv X pins σ H s->CX X.stack H s E e s'->X.xe e s'
section
variable {X:Cx} {CX:CXT} {k:Nat} {f C:Addr} {fd:FuncData} {ps:List Str} {sp:Sp} {dvs:List V} {ds:List Value} {E:XK} {x m:Str} {p pos apos:Pos} {e o:Expr} {es:List Expr} {ta:TE} {t:TA}
theorem XG{pins:List (Addr×Obj)}{σ:St}{H:Hp}{s:Shared}{Q:VK}{us:List Value}{vs:List V}(F:FnOk X.prog X.w X.K X.mg X.base CX k f fd ps sp)(hr:Room k X.A)(hb:Binds X.K fd ps ds)(hd:Vals dvs ds)(hx:VQ CX X E)
  (I:Inv X pins σ H s) (r:Vals vs us) (h:sp (vs++dvs) H Q E):wpAny (model X.prog X.w) X.A (call (.ref f) us) (EP X pins σ Q) X.xe s:=by
 have r2:Vals (vs++dvs) (us++ds):=r.append hd
 have hl:(us++ds).length=ps.length:=by rw[<- r2.length];exact F.len _ _ _ _ h
 refine wpAny_call (codeAny_mono (F.run X.A X.stack s H ⟨us,[]⟩ (us++ds) (vs++dvs) Q E hr I.env0 (hb s us I.kIn hl) r2 h) fun r s' hq=>?_)
 cases r with
 |error e=>exact hx pins σ H s e s' I hq
 |ok fl =>
  cases fl with
  |ret u=>exact I.after hq
  |next=>exact False.elim hq
  |brk=>exact False.elim hq
  |cont=>exact False.elim hq
theorem cK(F:FnOk X.prog X.w X.K X.mg X.base CX k f fd ps sp)(hr:Room k X.A)(hg:Gl X x)(hm:X.mg x=some (.ref f))(hk:PySem.W.keepIn X.K (.ref f)=true)(hb:Binds X.K fd ps ds)(hd:Vals dvs ds)(hx:VQ CX X E)
  (ha:PA X (e::es) t) (hdb:(x==("__debug__":Str))=false:=by decide) (he:starEach (e::es) X.env=(false,eval e X.env)::starEach es X.env:=by rfl) (hpl:(backTo pos (starEach es X.env)).any (·.1)=false:=by rfl) :
  PE X (.Call (.Name x p) (e::es) [] pos) (QN sp dvs E t):=by
 intro pins s σ H Q I h
 refine wpAny_Call_Name_kw (Ut I hg hm ?_ hdb)
 refine PySem.W.callWith_K (h₀:=X.base) I.ok.mod.kin hk (thn (ha pos pins s σ H _ I h) fun us s1 ⟨vs,H1,I1,r,q⟩=>⟨I1.kIn,?_⟩) he hpl
 exact XG F hr hb hd hx I1 r q
theorem aU(F:FnOk X.prog X.w X.K X.mg X.base CX k f fd ps sp)(hr:Room k X.A)(hg:Gl X x)(hm:X.mg x=some (.ref f))(hk:PySem.W.keepIn X.K (.ref f)=true)(hb:Binds X.K fd ps ds)(hd:Vals dvs ds)(hx:VQ CX X E)
  (hdb:(x==("__debug__":Str))=false:=by decide):PE X (.Call (.Name x p) [] [] pos) (QN sp dvs E XC):=by
 intro pins s σ H Q I h
 refine wpAny_Call_Name_kw (Ut I hg hm ?_ hdb)
 exact PySem.W.callWith_K0 I.kIn hk (XG (us:=[]) F hr hb hd hx I .nil h)
end
section
variable {X:Cx} {CX:CXT} {k:Nat} {f C:Addr} {fd:FuncData} {ps ks:List Str} {sp:Sp} {E:XK} {x m:Str} {p pos apos kpos:Pos} {e o:Expr} {es:List Expr} {kws:List Keyword} {te ta:TE} {t tk:TA} {nm:Option Str}
variable {g:List Value->List Value->List Value} {gV:List V->List V->List V}
end
structure Av(N P:List Str)(sc:Scope):Prop where
 kind:sc.kind = .function
 co:sc.isCoroutine=false
 gen:sc.isGenerator=false
 nd:N.Nodup
 pre:N.take P.length=P
 par:∀x∈P,sc.names.lookup x=some .local\/sc.names.lookup x=some .cell
 nofree:∀y∈sc.names,y.2≠.free
theorem TX{kindOf:Str->Option NameKind}{x:Str}:∀{binds:List (Str×Value)} {m:Str->Option Value},(∀v,(x,v)∉binds)->bindL kindOf binds m x=m x
 |[],_,_=>rfl
 |(n,v)::r,m,h=>by
  unfold bindL
  rw[TX fun w hw=>h w (List.mem_cons_of_mem _ hw)]
  split
  ·have:x≠n:=by rintro rfl;exact h v List.mem_cons_self
   simp[this]
  ·rfl
theorem TZ{kindOf:Str->Option NameKind}{x:Str}:∀{binds:List (Str×Value)} {m:Str->Option Value},(∀v,(x,v)∉binds)->bindC kindOf binds m x=m x
 |[],_,_=>rfl
 |(n,v)::r,m,h=>by
  unfold bindC
  rw[TZ fun w hw=>h w (List.mem_cons_of_mem _ hw)]
  split
  ·rfl
  ·have:x≠n:=by rintro rfl;exact h v List.mem_cons_self
   simp[this]
theorem TY{kindOf:Str->Option NameKind}{x:Str}{v:Value}:∀{P:List Str} {vs:List Value} {i:Nat} {m:Str->Option Value},P.Nodup->P[i]?=some x->vs[i]?=some v->kindOf x=some .local ->
  bindL kindOf (P.zip vs) m x=some v
 |[],_,_,_,_,h,_,_=>by simp at h
 |_::_,[],_,_,_,_,h,_=>by simp at h
 |p::P,w::vs,0,m,nd,h1,h2,hk=>by
  simp at h1 h2;subst h1;subst h2
  show bindL kindOf ((p,w)::P.zip vs) m p=_
  unfold bindL
  rw[TX fun v hv=>(List.nodup_cons.mp nd).1 (List.of_mem_zip hv).1,if_pos hk]
  simp
 |p::P,w::vs,i+1,m,nd,h1,h2,hk=>by
  show bindL kindOf ((p,w)::P.zip vs) m x=_
  unfold bindL
  exact TY (i:=i) (List.nodup_cons.mp nd).2 (by simpa using h1) (by simpa using h2) hk
theorem Ta{kindOf:Str->Option NameKind}{x:Str}{v:Value}:∀{P:List Str} {vs:List Value} {i:Nat} {m:Str->Option Value},P.Nodup->P[i]?=some x->vs[i]?=some v->kindOf x≠some .local ->
  bindC kindOf (P.zip vs) m x=some v
 |[],_,_,_,_,h,_,_=>by simp at h
 |_::_,[],_,_,_,_,h,_=>by simp at h
 |p::P,w::vs,0,m,nd,h1,h2,hk=>by
  simp at h1 h2;subst h1;subst h2
  show bindC kindOf ((p,w)::P.zip vs) m p=_
  unfold bindC
  rw[TZ fun v hv=>(List.nodup_cons.mp nd).1 (List.of_mem_zip hv).1,if_neg hk]
  simp
 |p::P,w::vs,i+1,m,nd,h1,h2,hk=>by
  show bindC kindOf ((p,w)::P.zip vs) m x=_
  unfold bindC
  exact Ta (i:=i) (List.nodup_cons.mp nd).2 (by simpa using h1) (by simpa using h2) hk
def start(N:List Str)(vs:List V):St:=vs.map some++List.replicate (N.length-vs.length) none
def Zp(CX:CXT)(P:Program)(w:World)(K:PySem.W.Frag)(mg:Str->Option Value)(base:Heap)(N:List Str)(qual:Str)(scope:Scope)(f:Addr)(cd:Value)(A:Around)(outer:List Env)(s:Shared)(H:Hp)(E:XK):Cx where
 prog:=P
 w:=w
 K:=K
 mg:=mg
 base:=base
 A:=A.deeper (envOfC qual scope s.heap.objs.size f cd)
 N:=N
 s₀:=s
 H₀:=H
 env:=envOfC qual scope s.heap.objs.size f cd
 outer:=outer
 stack:=envOfC qual scope s.heap.objs.size f cd::outer
 ex:=[]
 calm:=true
 fn:=fun _=>true
 pn:=[]
 xe:=fun e s'=>wpAny (model P w) (A.deeper (envOfC qual scope s.heap.objs.size f cd)) (leaving (envOfC qual scope s.heap.objs.size f cd) e) (fun _ s''=>CX outer H s E e s'') (fun e' s''=>CX outer H s E e' s'') s'
theorem Wz{sc:Scope}{n:Nat}{x:Str}(h:sc.names.lookup x=some .cell):∃c,(cellsFrom n sc.names []).lookup x=some c:=by
 have q:=PySem.W.cellsFrom_some sc.names n [] (.inl h)
 exact Option.isSome_iff_exists.mp q
theorem Zb{CX:CXT}{P:Program}{w:World}{K:PySem.W.Frag}{mg:Str->Option Value}{base:Heap}{N ps:List Str}{qual:Str}{scope:Scope}{f:Addr}{cd:Value}{A:Around}{outer:List Env}{s s1:Shared}{H:Hp}{E:XK}{us:List Value}{vs:List V}
  (S:Av N ps scope) (hd:A.handled=none) (e0:dU P w K mg base A outer s H) (hl:vs.length=ps.length) (r:Vals vs us)
  (x:InCallC s s.heap.objs.size (bindL (envOfC qual scope s.heap.objs.size f cd).kindOf (ps.zip us) fun _=>none) (cellsFrom (s.heap.objs.size+1) scope.names []) (bindC (envOfC qual scope s.heap.objs.size f cd).kindOf (ps.zip us) fun _=>none) s1) :
  Inv (Zp CX P w K mg base N qual scope f cd A outer s H E) [] (start N vs) H s1:=by
 have hpl:ps.length<=N.length:=by have:=congrArg List.length S.pre;rw[List.length_take]at this;omega
 obtain⟨h1,tk,rfl,hk⟩:=x.done
 have noA:∀b:Addr,b∉(Zp CX P w K mg base N qual scope f cd A outer s H E).ex:=fun b z=>absurd (show b∈([]:List Addr) from z) (by simp)
 refine ⟨⟨e0.mod, S.kind, rfl, rfl, Nat.le_refl _, fun y z c h1 h2 => ?_, fun y hy => ?_, fun y c _ h => ?_, fun _ => hd, Around.frames_deeper e0.frames, .inr ⟨rfl, rfl⟩, fun b z => absurd z (noA b), e0.bs, e0.bsz, fun b _ _ => noA b, fun b z => absurd z (noA b), e0.funs, e0.frf⟩,
  rfl,e0.bare,Un.kept hk,⟨_,x.toInCall.ns,fun i y v h1 h2 h3=>?_⟩,fun y c h=>⟨_,x.cell y c h⟩,e0.hok.fresh (Nat.le_refl _),fun y c h=>?_,fun p hp=>absurd (show p∈([]:List (Addr×Obj)) from hp) (by simp),e0.hok.kept hk,?_⟩
 ·exact name_of_addr x.apart (PySem.mem_of_lookup h1) (PySem.mem_of_lookup h2)
 ·have hy:scope.names.lookup y=some .cell\/scope.names.lookup y=some .free:=hy
  rcases hy with hy|hy
  ·exact Wz hy
  ·exact absurd rfl (S.nofree _ (PySem.mem_of_lookup hy))
 ·exact Nat.le_of_lt (x.above y c (PySem.mem_of_lookup h))
 ·have hi:i<vs.length:=by
   unfold start at h2
   by_cases hi:i<vs.length
   ·exact hi
   ·rw[List.getElem?_append_right (by simpa using hi)]at h2
    rw[List.getElem?_replicate]at h2
    split at h2<;>cases h2
  have ha:vs[i]?=some v:=by
   unfold start at h2
   rw[List.getElem?_append_left (by simpa using hi),List.getElem?_map]at h2
   cases e:vs[i]? with
   |none=>rw[e]at h2;cases h2
   |some a=>rw[e]at h2;cases h2;rfl
  obtain⟨u,hu,rv⟩:=r.get ha
  have hp:ps[i]?=some y:=by
   rw[<- S.pre,List.getElem?_take_of_lt (by omega)];exact h1
  have ndP:ps.Nodup:=by rw[<- S.pre];exact S.nd.sublist (List.take_sublist _ _)
  refine⟨u,rv,?_⟩
  rcases S.par y (List.mem_of_getElem? hp)with k|k
  ·exact .inl ⟨k,TY ndP hp hu k⟩
  ·obtain⟨c,e⟩:=Wz (n:=s.heap.objs.size+1) k
   refine .inr ⟨.inl k,c,e,?_⟩
   have q:=x.cell y c e
   rw[Ta ndP hp hu (by show scope.names.lookup y≠_;rw[k];decide)]at q
   exact q
 ·exact e0.hok.fresh (Nat.le_of_lt (x.above y c (PySem.mem_of_lookup h)))
 ·unfold start
  show _=N.length
  rw[List.length_append,List.length_map,List.length_replicate]
  omega
theorem i0{CX:CXT}{P:Program}{w:World}{K:PySem.W.Frag}{mg:Str->Option Value}{base:Heap}{k:Nat}{f:Addr}{name qual:Str}{params:Arguments}{body:List Stmt}{scope:Scope}{dV kV doc pm cdv ct oc:Value}{an od:Option Addr}
  {osl:Array (Option Value)} {N ps:List Str} {sp:Sp} (lk:K.lookup f=some ⟨oc,od,.func (PySem.W.fnOf name qual params body scope dV kV doc pm an cdv ct),osl⟩) (hcd:PySem.W.codeIn K cdv qual=true) (S:Av N ps scope)
  (len:∀vs H Q E,sp vs H Q E->vs.length=ps.length)
  (hbody : ∀ (A : Around) (outer : List Env) (s : Shared) (H : Hp) (vs : List V) (Q : VK) (E : XK), Room k (A.deeper (envOfC qual scope s.heap.objs.size f cdv)) -> sp vs H Q E ->
   ∃t,PSs (Zp CX P w K mg base N qual scope f cdv A outer s H E) body t/\t { nx:=fun _ H'=>Q .non H',rt:=Q } (start N vs) H) :
  FnOk P w K mg base CX (k+1) f (PySem.W.fnOf name qual params body scope dV kV doc pm an cdv ct) ps sp:=by
 refine⟨len,fun A outer s H args us vs Q E hr e0 hb r hsp=>?_⟩
 have hl:=len _ _ _ _ hsp
 have KX:K.In s.heap:=e0.mod.kin.keeps fun b o e=>(e0.bs b o e).1
 have lim:s.heap.NoLimit:=e0.mod.nolimit.keeps fun b o e=>(e0.bs b o e).1
 have hkind:∀y∈ps.zip us,scope.names.lookup y.1=some .local\/(scope.names.lookup y.1=some .cell/\((cellsFrom (s.heap.objs.size+1) scope.names []).lookup y.1).isSome=true):=fun⟨n,v⟩ hy=>by
  rcases S.par n (List.of_mem_zip hy).1 with q|q
  ·exact .inl q
  ·exact .inr ⟨q,PySem.W.cellsFrom_some _ _ _ (.inl q)⟩
 refine codeAny_call_function hr.depth (KX _ _ lk) rfl S.co S.gen rfl (PySem.W.codeRec_of KX hcd) (hb _ _ _ _ ?_)
 refine wpAny_newFunctionEnv_cells S.kind hkind fun env he s1 x=>?_
 subst he
 refine⟨lim.keeps x.toInCall.keep,codeAny_func ?_⟩
 obtain⟨t,ht,hq⟩:=hbody A outer s H vs Q E (hr.deeper _) hsp
 have I:Inv (Zp CX P w K mg base N qual scope f cdv A outer s H E) [] (start N vs) H s1:=Zb S hr.hd e0 hl r x
 refine wpAny_mono (ht [] s1 (start N vs) H _ I hq) (fun fl s' hs=>?_) fun e s' hs=>hs
 have fin:∀{σ':St} {H':Hp} {v:V} {u:Value},Inv (Zp CX P w K mg base N qual scope f cdv A outer s H E) [] σ' H' s'->RelV v u->Q v H'->CE outer P w H s Q u s' :=
  fun {σ' H' v u} J rv q=>⟨v,H',J.os,J.bare,J.base,J.hok,rv,q⟩
 cases fl with
 |ret u =>
  obtain⟨v,σ',H',J,rv,q⟩:=hs
  exact fin J rv q
 |next =>
  obtain⟨σ',H',J,q⟩:=hs
  exact fin (v:=V.non) (u:=Value.none) J rfl q
 |brk =>
  obtain⟨_,_,_,q⟩:=hs
  exact False.elim q
 |cont =>
  obtain⟨_,_,_,q⟩:=hs
  exact False.elim q
end L2
namespace L2
open PySem PySem.Spec PyProof.Rows
section
variable {X:Cx} {x:Str} {p pos:Pos} {e:Expr} {es:List Expr} {t:TA} {id T:String} {r:List V->Hp->VK->Prop}
def tCB(r:List V->Hp->VK->Prop)(t:TA):TE:=fun σ H Q=>t σ H fun vs H1=>r vs H1 Q
theorem Ab(hc:K8 X (.builtin id) r)(hg:Gl X x)(hm:X.mg x=none)(hv:bootBuiltins x=some (.builtin id))(ha:PA X (e::es) t)(hn:x≠"__name__":=by decide)(hdb:(x==("__debug__":Str))=false:=by decide)
  (he:starEach (e::es) X.env=(false,eval e X.env)::starEach es X.env:=by rfl) (hpl:(backTo pos (starEach es X.env)).any (·.1)=false:=by rfl):PE X (.Call (.Name x p) (e::es) [] pos) (tCB r t):=by
 intro pins s σ H Q I h
 refine wpAny_Call_Name_kw (Qn I hg hm hv ?_ hn hdb)
 exact PyProof.Rows.callWith_builtin1 (thn (ha pos pins s σ H _ I h) fun us s1 ⟨vs,H1,I1,r1,q1⟩=>hc pins s1 σ H1 vs us Q I1 r1 q1) he hpl
theorem Jx(hc:K8 X (.type T) r)(hg:Gl X x)(hm:X.mg x=none)(hv:bootBuiltins x=some (.type T))(ha:PA X (e::es) t)(hn:x≠"__name__":=by decide)(hdb:(x==("__debug__":Str))=false:=by decide)
  (he:starEach (e::es) X.env=(false,eval e X.env)::starEach es X.env:=by rfl) (hpl:(backTo pos (starEach es X.env)).any (·.1)=false:=by rfl):PE X (.Call (.Name x p) (e::es) [] pos) (tCB r t):=by
 intro pins s σ H Q I h
 refine wpAny_Call_Name_kw (Qn I hg hm hv ?_ hn hdb)
 exact PyProof.Rows.callWith_type1 (thn (ha pos pins s σ H _ I h) fun us s1 ⟨vs,H1,I1,r1,q1⟩=>hc pins s1 σ H1 vs us Q I1 r1 q1) he hpl
end
end L2
namespace HT
open PySem PyProof.Rows
section
open PySem.SeqAt
open PySem.AutoSeq1 (wpAny_loadPart')
open PySem.MeetsSeq PySem.MeetsSeq2 PySem.MeetsSeq3
end
section
variable {prog:Program} {w:World} {A:Around} {E:Value->Shared->Prop} {s:Shared}
theorem cat_tup{t b:Addr}{vs ws:List Value}{Q:Value->Shared->Prop}(ht:IsTup s.heap t vs.toArray)(hb:IsTup s.heap b ws.toArray)(hv:vs≠[])
  (h1:ws=[]->Q (.ref t) s) (h2:ws≠[]->Q (.ref s.heap.objs.size) { s with heap:=s.heap.push { cls:=.type "tuple",data:=.seq (vs++ws).toArray } })
  (hsz:vs.length+ws.length<=sizeLine):wpAny (model prog w) A (binaryOp .Add (.ref t) (.ref b)) Q E s:=by
 obtain⟨⟨cls,dd,data,sl⟩,ho,hc,n,hd⟩:=id ht
 obtain⟨⟨cls2,dd2,data2,sl2⟩,ho2,hc2,n2,hd2⟩:=id hb
 simp only at hc hd hc2 hd2
 subst hc hd hc2 hd2
 have e:vs.toArray++ws.toArray=(vs++ws).toArray:=by simp
 by_cases hw:ws=[]
 ·exact concat_meets ⟨_,ho,rfl⟩ ⟨_,ho2,rfl⟩ noFill_tuple_add seq_tuple_add PySem.F.slot_tuple_add PySem.F.entry_tuple_add (PySem.F.args_tuple_add_2 _ _)
   (tuple_addW1 t b vs.toArray ws.toArray n n2 dd dd2 sl sl2 (by simpa using hv) (by simp[hw])) ⟨ho,ho2,h1 hw⟩
 ·refine concat_meets ⟨_,ho,rfl⟩ ⟨_,ho2,rfl⟩ noFill_tuple_add seq_tuple_add PySem.F.slot_tuple_add PySem.F.entry_tuple_add (PySem.F.args_tuple_add_2 _ _)
   (tuple_addW2 t b vs.toArray ws.toArray n n2 dd dd2 sl sl2 (by simpa using hv) (by simpa using hw) (by rw[List.size_toArray,List.size_toArray];exact hsz)) ⟨ho,ho2,?_⟩
  rw[e]
  exact h2 hw
def sIx(n d:Nat):Option Int->Nat
 |none=>d
 |some v=>if v<0 then (v+(n:Int)).toNat else min v.toNat n
theorem fR(n d:Nat)(hd:d<=n)(o:Option Int):sIx n d o<=n:=by
 cases o with
 |none=>exact hd
 |some v =>
  show(if v<0 then (v+(n:Int)).toNat else min v.toNat n)<=n
  by_cases hv:v<0
  ·rw[if_pos hv];omega
  ·rw[if_neg hv];exact Nat.min_le_right _ _
theorem Yr(v:Int)(n d:Nat):(if v<0 then max (v+(n:Int)) 0 else min v (n:Int))=((sIx n d (some v):Nat):Int):=by
 show(if v<0 then max (v+(n:Int)) 0 else min v (n:Int))=(((if v<0 then (v+(n:Int)).toNat else min v.toNat n):Nat):Int)
 by_cases hv:v<0
 ·simp only[if_pos hv];omega
 ·simp only[if_neg hv];omega
theorem X4(lo hi:Option Int)(n:Nat):Builtin.Slice.sliceAdjust lo hi 1 (n:Int)=(((sIx n 0 lo:Nat):Int),((sIx n n hi:Nat):Int)):=by
 have h1:¬((1:Int)<0):=by omega
 unfold Builtin.Slice.sliceAdjust
 simp only[h1,if_false]
 refine Prod.ext ?_ ?_
 ·cases lo with
  |none=>rfl
  |some v=>exact Yr v n 0
 ·cases hi with
  |none=>rfl
  |some v=>exact Yr v n n
theorem XI(i j:Nat):Builtin.Slice.slicePlaces (i:Int) (j:Int) 1=j-i:=by
 unfold Builtin.Slice.slicePlaces
 have h1:(1:Int)>0:=by omega
 simp only[h1,if_true,Int.ediv_one]
 split<;>omega
theorem QO{v:Value}{o:Option Int}{Q:Option Int->Shared->Prop}(p:IsPart v o)(h:Q o s):wpAny (model prog w) A (Builtin.Slice.slicePartIndex v) Q E s:=by
 cases p with
 |none=>exact slicePart_none h
 |int i t=>exact slicePart_int h
theorem OQ{sl:Addr}{vl vu:Value}{lo hi:Option Int}{n:Nat}{Q:Int×Int×Nat->Shared->Prop}(hs:s.heap.IsSliceOf sl vl vu .none)(pl:IsPart vl lo)(pu:IsPart vu hi)
  (h:Q (((sIx n 0 lo:Nat):Int),1,sIx n n hi-sIx n 0 lo) s):wpAny (model prog w) A (Builtin.Slice.sliceApplied (.ref sl) (pure (n:Int))) Q E s:=by
 obtain⟨os,hos,hcs,hds⟩:=id hs
 unfold Builtin.Slice.sliceApplied Builtin.Slice.sliceFields
 refine wpAny_bind (wpAny_bind (wpAny_field hos hds (x:=vl) rfl (wpAny_bind (wpAny_field hos hds (x:=vu) rfl (wpAny_bind (wpAny_field hos hds (x:=.none) rfl (wpAny_pure ?_)))))))
 refine wpAny_bind (slicePart_none ?_)
 show wpAny _ _ (if ((1:Int)==0)=true then _ else _) _ _ s
 rw[if_neg (by decide)]
 refine wpAny_bind (QO pl (wpAny_bind (QO pu (wpAny_bind (wpAny_pure ?_)))))
 show wpAny _ _ (match Builtin.Slice.sliceAdjust lo hi 1 (n:Int) with|(lo,hi)=>pure (lo,(1:Int),Builtin.Slice.slicePlaces lo hi 1)) _ _ s
 rw[X4 lo hi n]
 show wpAny _ _ (pure (((sIx n 0 lo:Nat):Int),(1:Int),Builtin.Slice.slicePlaces ((sIx n 0 lo:Nat):Int) ((sIx n n hi:Nat):Int) 1)) _ _ s
 rw[XI]
 exact wpAny_pure h
theorem aQ(xs:Array Value)(i k:Nat):((List.range k).filterMap fun(m:Nat)=>xs[((i:Int)+(m:Int)*1).toNat]?).toArray=((xs.toList.drop i).take k).toArray:=by
 have e:(fun(m:Nat)=>xs[((i:Int)+(m:Int)*1).toNat]?)=fun m=>xs[i+m]?:=by
  funext m
  have:((i:Int)+(m:Int)*1).toNat=i+m:=by omega
  rw[this]
 rw[e]
 have:=pick_run xs i k
 rw[List.filterMap_map]at this
 have e2:((fun x=>xs[x]?)∘fun x=>i+x)=fun m=>xs[i+m]?:=rfl
 rw[e2]at this
 rw[this]
theorem getItem_tuple_cut{t sl:Addr}{items:Array Value}{vl vu:Value}{lo hi:Option Int}{Q:Value->Shared->Prop}(ht:IsTup s.heap t items)(hs:s.heap.IsSliceOf sl vl vu .none)(pl:IsPart vl lo)(pu:IsPart vu hi)
  (hw:¬(sIx items.size 0 lo=0/\sIx items.size items.size hi=items.size))
  (h:Q (.ref s.heap.objs.size) { s with heap:=s.heap.push { cls:=.type "tuple",data:=.seq ((items.toList.drop (sIx items.size 0 lo)).take (sIx items.size items.size hi-sIx items.size 0 lo)).toArray } })
  (hsz:items.size<=sizeLine):wpAny (model prog w) A (getItem (.ref t) (.ref sl)) Q E s:=by
 have htake:sizeOk (.seq ((items.toList.drop (sIx items.size 0 lo)).take (sIx items.size items.size hi-sIx items.size 0 lo)).toArray):=by
  show((items.toList.drop (sIx items.size 0 lo)).take (sIx items.size items.size hi-sIx items.size 0 lo)).toArray.size<=sizeLine
  rw[List.size_toArray,List.length_take,List.length_drop,Array.length_toList]
  omega
 have hj:sIx items.size items.size hi<=items.size:=fR _ _ (Nat.le_refl _) hi
 obtain⟨os,hos,hcs,hds⟩:=id hs
 have hTs:s.TypeIs (.ref sl) "slice":=⟨os,hos,hcs⟩
 unfold getItem
 try with_reducible refine wpAny_holding ?_
 first|refine wpAny_bind (wpAny_pure ?_)|skip
 refine wpAny_bind (wpAny_sequenceKey ht.typeIs (by decide) ?_)
 refine wpAny_bind (wpAny_callSpecial?_slot (name := Str.ofString "__getitem__") ht.typeIs PyProof.Rows.slot_tuple_getitem
  (wpAny_call_entry PyProof.Rows.slot_tuple_getitem ht.typeIs entry_tuple_getitem ?_ (args_tuple_getitem _ _)))
 show wpAny _ _ (Builtin.Tuple.tupleItemsOf (.ref t) >>= _) _ _ s
 refine wpAny_bind (tupleItemsOf_ ht ?_)
 refine wpAny_bind (wpAny_typeOf hTs ?_)
 rw[if_pos (by decide)]
 refine wpAny_bind (OQ hs pl pu ?_)
 have hno:¬((((sIx items.size 0 lo:Nat):Int)==0&&(1:Int)==1&&(sIx items.size items.size hi-sIx items.size 0 lo)==items.size)=true):=by
  intro q
  rw[Bool.and_eq_true,Bool.and_eq_true]at q
  have q1:((sIx items.size 0 lo:Nat):Int)=0:=eq_of_beq q.1.1
  have q2:sIx items.size items.size hi-sIx items.size 0 lo=items.size:=eq_of_beq q.2
  exact hw ⟨by omega,by omega⟩
 show wpAny _ _ (if (((sIx items.size 0 lo:Nat):Int)==0&&(1:Int)==1&&(sIx items.size items.size hi-sIx items.size 0 lo)==items.size)=true then _ else _) _ _ s
 rw[if_neg hno,aQ]
 first
  |exact wpAny_bind (m:=Builtin.Tuple.tupleExact _) (wpAny_newObj_type (wpAny_pure ⟨_,rfl,wpAny_pure h⟩) htake)
  |exact wpAny_bind (m:=Builtin.Tuple.tupleExact _) (wpAny_newObj_type (wpAny_bind (wpAny_pure (wpAny_pure ⟨_,rfl,wpAny_pure h⟩))) htake)
  |exact wpAny_bind (wpAny_bind (m:=Builtin.Tuple.tupleExact _) (wpAny_newObj_type (wpAny_pure (wpAny_pure ⟨_,rfl,wpAny_pure h⟩)) htake))
  |exact wpAny_bind (wpAny_bind (m:=Builtin.Tuple.tupleExact _) (wpAny_newObj_type (wpAny_pure ⟨_,rfl,wpAny_pure h⟩) htake))
end
end HT
namespace L2
open PySem PySem.Spec PyProof.Rows
abbrev TO:=St->Hp->(Option Int->Hp->Prop)->Prop
def PO(X:Cx)(e:Option Expr)(t:TO):Prop :=
 ∀(pins:List (Addr×Obj)) (s:Shared) (σ:St) (H:Hp) (Q:Option Int->Hp->Prop),Inv X pins σ H s->t σ H Q ->
  wpAny (model X.prog X.w) X.A (evalPart e X.env) (fun u s'=>∃o H',Inv X pins σ H' s'/\IsPart u o/\Q o H') X.xe s
def YD:TO:=fun _ H Q=>Q none H
def df(t:TE):TO:=fun σ H Q=>t σ H fun x H1=>∃i,x = .int i/\Q (some i) H1
section
variable {X:Cx} {e:Expr} {te:TE} {lo hi:Option Expr} {tl th:TO} {pos p2:Pos}
theorem YM:PO X none YD:=by
 intro pins s σ H Q I h
 rw[evalPart_none]
 exact wpAny_pure ⟨none,H,I,.none,h⟩
theorem YL(h:PE X e te):PO X (some e) (df te):=by
 intro pins s σ H Q I hw
 rw[evalPart_some]
 refine thn (h pins s σ H _ I hw) fun u s1 ⟨x,H1,I1,r1,q1⟩=>?_
 obtain⟨i,rfl,q⟩:=q1
 obtain⟨t,rfl⟩:=r1
 exact⟨some i,H1,I1,.int i t,q⟩
def SlR(X:Cx)(r:V->Option Int->Option Int->Hp->VK->Prop):Prop :=
 ∀(pins:List (Addr×Obj)) (s:Shared) (σ:St) (H:Hp) (x:V) (v vl vu:Value) (lo hi:Option Int) (sl:Addr) (Q:VK),Inv X pins σ H s->RelV x v->s.heap.IsSliceOf sl vl vu .none->IsPart vl lo->IsPart vu hi->r x lo hi H Q ->
  ∃T id,typeLookup (.type T) "__getitem__"=pure (some (.builtin id))/\s.TypeIs v T/\wpAny (model X.prog X.w) X.A (getItem v (.ref sl)) (EP X pins σ Q) X.xe s
def tSl(r:V->Option Int->Option Int->Hp->VK->Prop)(te:TE)(tl th:TO):TE:=fun σ H Q=>te σ H fun x H1=>tl σ H1 fun l H2=>th σ H2 fun u H3=>r x l u H3 Q
theorem Vh{r:V->Option Int->Option Int->Hp->VK->Prop}(hr:SlR X r)(he:PE X e te)(hl:PO X lo tl)(hu:PO X hi th):PE X (.Subscript e (.Slice lo hi none p2) pos) (tSl r te tl th):=by
 intro pins s σ H Q I h
 refine Subscript_ (thn (he pins s σ H _ I h) fun v s1 ⟨x,H1,I1,r1,q1⟩=>?_)
 refine wpAny_Slice (thn (hl pins s1 σ H1 _ I1 q1) fun vl s2 ⟨l,H2,I2,pl,q2⟩=>thn (hu pins s2 σ H2 _ I2 q2) fun vu s3 ⟨u,H3,I3,pu,q3⟩=>?_)
 rw[evalPart_none]
 refine wpAny_pure ?_
 have I4:Inv X pins σ H3 { s3 with heap:=s3.heap.push { cls:=.type "slice",data:=.fields #[vl,vu,.none] } }:=I3.kept (t':=s3.toks) fun b ob q=>Heap.get?_push_of_some _ q
 obtain⟨T,id,hT,ht,hg⟩:=hr pins { s3 with heap:=s3.heap.push { cls:=.type "slice",data:=.fields #[vl,vu,.none] } } σ H3 x v vl vu l u s3.heap.objs.size Q I4 r1 (Heap.IsSliceOf.new ..) pl pu q3
 show wpAny (model X.prog X.w) X.A (subscriptTail e (.Slice lo hi none p2) v (.ref s3.heap.objs.size)) (EP X pins σ Q) X.xe { s3 with heap:=s3.heap.push { cls:=.type "slice",data:=.fields #[vl,vu,.none] } }
 exact tail_any (ops:=[.ref s3.heap.objs.size,v]) ht hT hg (by with_unfolding_all rfl)
def Xx(xs:List V)(lo hi:Option Int):List V:=(xs.drop (HT.sIx xs.length 0 lo)).take (HT.sIx xs.length xs.length hi-HT.sIx xs.length 0 lo)
theorem Ws(xs:List V)(lo hi:Option Int):(Xx xs lo hi).length<=xs.length:=by
 unfold Xx
 rw[List.length_take,List.length_drop]
 omega
def iG(K:PySem.W.Frag):V->Option Int->Option Int->Hp->VK->Prop:=fun x lo hi H Q=>∃a xs,x = .ref a/\SqT K H a xs /\
 ¬(HT.sIx xs.length 0 lo=0/\HT.sIx xs.length xs.length hi=xs.length)/\∀p,H p=none->Q (.ref p) (upd H p (.tup (Xx xs lo hi)))
theorem aB:SlR X (iG X.K):=by
 intro pins s σ H x v vl vu lo hi sl Q I rx hs pl pu h
 obtain⟨a,xs,rfl,hx,hw,q⟩:=h
 cases rx
 obtain⟨its,r,ht,hz⟩:=I.tuple hx
 have hlen:its.toArray.size=xs.length:=by rw[List.size_toArray];exact r.length.symm
 refine⟨"tuple",_,PyProof.Rows.slot_tuple_getitem.lookup,ht.typeIs,?_⟩
 refine HT.getItem_tuple_cut ht hs pl pu (by rw[hlen];exact hw) ?_ (by rw[hlen];exact hz)
 rw[hlen]
 refine⟨.ref s.heap.objs.size,_,I.laid (t':=s.toks) (o:=.tup (Xx xs lo hi)) (fun b ob q=>Heap.get?_push_of_some _ q) (Nat.le_refl _) ?_,rfl,q _ (I.hok.fresh (Nat.le_refl _))⟩
 exact⟨Nat.le_trans (Ws xs lo hi) hz,_,(r.drop (HT.sIx xs.length 0 lo)).take (HT.sIx xs.length xs.length hi-HT.sIx xs.length 0 lo),IsTup.new _ _⟩
def eH(K:PySem.W.Frag):R2:=fun x y H Q=>∃a b xs ys,x = .ref a/\y = .ref b/\SqT K H a xs/\SqT K H b ys/\xs≠[]/\xs.length+ys.length<=sizeLine /\
 (ys=[]->Q (.ref a) H)/\(ys≠[]->∀p,H p=none->Q (.ref p) (upd H p (.tup (xs++ys))))
theorem Vals.nil_iff{xs:List V}{us:List Value}(r:Vals xs us):us=[]↔xs=[]:=by
 cases r with
 |nil=>simp
 |cons _ _=>simp
theorem YN:OpR X (binaryOp .Add) (eH X.K):=by
 intro pins s σ H x y v u Q I rx ry h
 obtain⟨a,b,xs,ys,rfl,rfl,ha,hb,hx,hz,q1,q2⟩:=h
 cases rx
 cases ry
 obtain⟨its,r1,p1,_⟩:=I.tuple ha
 obtain⟨its2,r2,p2,_⟩:=I.tuple hb
 refine HT.cat_tup p1 p2 (fun z=>hx (r1.nil_iff.mp z)) (fun z=>⟨.ref a,H,I,rfl,q1 (r2.nil_iff.mp z)⟩) (fun z=>?_) (by rw[<- r1.length,<- r2.length];exact hz)
 refine⟨.ref s.heap.objs.size,_,I.laid (t':=s.toks) (o:=.tup (xs++ys)) (fun b ob q=>Heap.get?_push_of_some _ q) (Nat.le_refl _) ?_,rfl,q2 (fun w=>z (r2.nil_iff.mpr w)) _ (I.hok.fresh (Nat.le_refl _))⟩
 exact⟨by rw[List.length_append];exact hz,_,r1.append r2,IsTup.new _ _⟩
end
end L2
namespace L2
open PySem PySem.Spec PyProof.Rows
def ixN(n:Nat)(i:Int):Option Nat:=if 0<=i then (if i<n then some i.toNat else none) else if -(n:Int)<=i then some (i+n).toNat else none
def atI{α:Type}(xs:List α)(i:Int):Option α:=(ixN xs.length i).bind fun j=>xs[j]?
theorem Yc{n:Nat}{i:Int}{j:Nat}(h:ixN n i=some j):seqIndex? i n=some j/\j<n/\-(n:Int)<=i/\i<n:=by
 unfold ixN at h
 by_cases h0:0<=i
 ·rw[if_pos h0]at h
  by_cases h1:i<n
  ·rw[if_pos h1]at h
   have e:i.toNat=j:=Option.some.inj h
   exact⟨by rw[seqIndex_of h0 h1,e],by omega,by omega,h1⟩
  ·rw[if_neg h1]at h;cases h
 ·rw[if_neg h0]at h
  by_cases h1:-(n:Int)<=i
  ·rw[if_pos h1]at h
   have e:(i+n).toNat=j:=Option.some.inj h
   exact⟨by rw[seqIndex_neg (by omega) h1,e],by omega,h1,by omega⟩
  ·rw[if_neg h1]at h;cases h
theorem VP{α:Type}{xs:List α}{i:Int}{v:α}(h:atI xs i=some v):∃j,seqIndex? i xs.length=some j/\xs[j]?=some v/\j<xs.length/\-(xs.length:Int)<=i/\i<xs.length:=by
 unfold atI at h
 cases e:ixN xs.length i with
 |none=>rw[e]at h;cases h
 |some j =>
  rw[e]at h
  obtain⟨h1,h2,h3,h4⟩:=Yc e
  exact⟨j,h1,h,h2,h3,h4⟩
def dP(b:Expr):Prop:=∀o i,subscripted b false o i=operate [o,i] (getItem o i)
def IxR(X:Cx)(r:R2):Prop :=
 ∀(value slice:Expr) (pins:List (Addr×Obj)) (s:Shared) (σ:St) (H:Hp) (x y:V) (v u:Value) (Q:VK),Inv X pins σ H s->RelV x v->RelV y u->r x y H Q ->
  subscripted slice false v u=operate [v,u] (getItem v u)->wpAny (model X.prog X.w) X.A (subscriptTail value slice v u) (EP X pins σ Q) X.xe s
def MtR(X:Cx)(id:String)(r:V->List V->Hp->VK->Prop):Prop :=
 ∀(pins:List (Addr×Obj)) (s:Shared) (σ:St) (H:Hp) (x:V) (xs:List V) (v:Value) (us:List Value) (Q:VK),Inv X pins σ H s->RelV x v->Vals xs us->r x xs H Q ->
  wpAny (model X.prog X.w) X.A (call (.builtin id) (v::us)) (EP X pins σ Q) X.xe s
section
variable {X:Cx} {a b:Expr} {ta tb:TE} {pos:Pos}
theorem BL{r:R2}(hr:IxR X r)(ha:PE X a ta)(hb:PE X b tb)(hs:dP b):PE X (.Subscript a b pos) (tOp r ta tb):=by
 intro pins s σ H Q I h
 exact Subscript_ (gc ha hb I h fun v u s2 x y H2 I2 rx ry q=>hr a b pins s2 σ H2 x y v u Q I2 rx ry q (hs _ _))
def fU(K:PySem.W.Frag):R2:=fun x y H Q=>∃p xs i v,x = .ref p/\y = .int i/\SqL K H p xs/\atI xs i=some v/\Q v H
def iI(K:PySem.W.Frag):R2:=fun x y H Q=>∃p xs i v,x = .ref p/\y = .int i/\SqT K H p xs/\atI xs i=some v/\Q v H
def iK:R2:=fun x y H Q=>∃z i c,x = .str z/\y = .int i/\z.length<=sizeLine/\atI z.cps.toList i=some c/\Q (.str ⟨#[c]⟩) H
theorem P8:IxR X (fU X.K):=by
 intro value slice pins s σ H x y v u Q I rx ry h hs
 obtain⟨p,xs,i,z,rfl,rfl,hq,he,q⟩:=h
 cases rx
 obtain⟨t,rfl⟩:=ry
 obtain⟨its,r,pl,hz⟩:=I.list hq
 obtain⟨j,h1,h2,h3,h4,h5⟩:=VP he
 obtain⟨w,ew,rw'⟩:=r.get h2
 have hl:=r.length
 have hn:=Qm
 have fin:EP X pins σ Q w s:=⟨z,H,I,rw',q⟩
 by_cases h0:0<=i
 ·have hj:i.toNat=j:=by
   rw[seqIndex_of h0 h5]at h1
   exact Option.some.inj h1
  exact item_listR pl.isList h0 (by omega) (by rw[hj];simpa using ew) fin hs
 ·have hj:(i+(its.toArray.size:Int)).toNat=j:=by
   rw[seqIndex_neg (by omega) h4]at h1
   rw[List.size_toArray,<- hl]
   exact Option.some.inj h1
  exact subscriptTail_builtinR (x:=w) pl.isList.typeIs slot_list_getitem.lookup
   (wpAny_getItem_list_neg (Q:=fun r s'=>r=w/\EP X pins σ Q r s') pl.isList (by omega) (by rw[List.size_toArray]<;>omega) (by omega) (by rw[hj];simpa using ew) ⟨rfl,fin⟩) hs
theorem Ay:IxR X (iI X.K):=by
 intro value slice pins s σ H x y v u Q I rx ry h hs
 obtain⟨p,xs,i,z,rfl,rfl,hq,he,q⟩:=h
 cases rx
 obtain⟨t,rfl⟩:=ry
 obtain⟨its,r,pl,hz⟩:=I.tuple hq
 obtain⟨j,h1,h2,h3,h4,h5⟩:=VP he
 obtain⟨w,ew,rw'⟩:=r.get h2
 have hl:=r.length
 have hn:=Qm
 have fin:EP X pins σ Q w s:=⟨z,H,I,rw',q⟩
 exact subscriptTail_builtinR (x:=w) pl.typeIs slot_tuple_getitem.lookup
  (getItem_tuple (j:=j) (Q:=fun r s'=>r=w/\EP X pins σ Q r s') pl (by omega) (by omega) (by rw[List.size_toArray,<- hl];exact h1) (by simpa using ew) ⟨rfl,fin⟩) hs
theorem Xf:IxR X iK:=by
 intro value slice pins s σ H x y v u Q I rx ry h hs
 obtain⟨z,i,c,rfl,rfl,hz,he,q⟩:=h
 obtain⟨t,rfl⟩:=rx
 obtain⟨t',rfl⟩:=ry
 obtain⟨j,h1,h2,h3,h4,h5⟩:=VP he
 have hl:z.cps.toList.length=z.length:=by simp[Str.length]
 rw[hl]at h1 h4 h5
 have hn:=Qm
 exact tail_any (typeIs_str s z t) slot_str_getitem.lookup (getItem_str (c := c) (by
  have e1:decide (i < -(2 ^ 63:Int))=false:=decide_eq_false (by omega)
  have e2:decide (i≥2 ^ 63)=false:=decide_eq_false (by omega)
  rw[e1,e2,Bool.or_false]) (by rw[h1];simpa using h2) ⟨.str ⟨#[c]⟩,H,I.tok _,⟨_,rfl⟩,q⟩) hs
theorem Xe(its:List Value)(n j:Nat)(u:Value):Obj.mapSeq (·.setIfInBounds j u) { cls:=.type "list",data:=.seq its.toArray n }={ cls:=.type "list",data:=.seq (its.set j u).toArray n }:=by
 simp[Obj.mapSeq]
theorem Inv.lst{pins:List (Addr×Obj)}{σ:St}{H:Hp}{s:Shared}{p:Addr}{xs:List V}(I:Inv X pins σ H s)(h:H p=some (.lst xs)) :
  ∃(its:List Value) (n:Nat),Vals xs its/\s.heap.get? p=some { cls:=.type "list",data:=.seq its.toArray n }/\xs.length<=sizeLine:=by
 obtain⟨z,its,n,r,e⟩:=I.hok p _ h
 exact⟨its,n,r,e,z⟩
theorem Inv.lstUpd{pins:List (Addr×Obj)}{σ:St}{H:Hp}{s:Shared}{p:Addr}{xs ys:List V}{its its':List Value}{n n':Nat}{f:Obj->Obj}(I:Inv X pins σ H s)(h:H p=some (.lst xs))
  (ho:s.heap.get? p=some { cls:=.type "list",data:=.seq its.toArray n }) (hf:f { cls:=.type "list",data:=.seq its.toArray n }={ cls:=.type "list",data:=.seq its'.toArray n' }) (r:Vals ys its') (hz:ys.length<=sizeLine) (t:Nat) :
  Inv X pins σ (upd H p (.lst ys)) { s with heap:=s.heap.update p f,toks:=t }:=by
 have e:(s.heap.update p f).get? p=some { cls:=.type "list",data:=.seq its'.toArray n' }:=by
  rw[Heap.get?_update_self f ho (by rw[hf]<;>rfl),hf]
 refine I.write (x:=p) (e:=p) (by rw[h];trivial) (.inl rfl) (fun b u hb q=>(Heap.get?_update_other _ _ (Ne.symm hb)).trans q) ⟨_,e⟩ ?_
 exact⟨hz,its',n',r,e⟩
def du:V->V->V->Hp->(Hp->Prop)->Prop:=fun o i v H Q=>∃p xs k j,o = .ref p/\i = .int k/\H p=some (.lst xs)/\ixN xs.length k=some j/\Q (upd H p (.lst (xs.set j v)))
theorem QQ:gw X du:=by
 intro pins s σ H o i v ov iv u Q I ro ri rv h
 obtain⟨p,xs,k,j,rfl,rfl,hp,hj,q⟩:=h
 cases ro
 obtain⟨t,rfl⟩:=ri
 obtain⟨its,n,r,ho,hz⟩:=I.lst hp
 obtain⟨h1,h2,h3,h4⟩:=Yc hj
 have hl:=r.length
 have hn:=Qm
 have I':Inv X pins σ (upd H p (.lst (xs.set j v))) { s with heap:=s.heap.update p (Obj.mapSeq (·.setIfInBounds j u)) } :=
  I.lstUpd hp ho (Xe its n j u) (r.set rv j) (by rw[List.length_set];exact hz) s.toks
 by_cases h0:0<=k
 ·have hk:k.toNat=j:=by
   rw[seqIndex_of h0 h4]at h1
   exact Option.some.inj h1
  exact PySem.W.ki_setAt ho h0 (by omega) (by rw[List.size_toArray,<- hl];exact h4) (by rw[hk];exact⟨_,I',q⟩)
 ·have hk:(k+(its.toArray.size:Int)).toNat=j:=by
   rw[seqIndex_neg (by omega) h3]at h1
   rw[List.size_toArray,<- hl]
   exact Option.some.inj h1
  exact PySem.W.ki_setBack ho (by omega) (by rw[List.size_toArray,<- hl];exact h3) (by omega) (by rw[hk];exact⟨_,I',q⟩)
theorem OG:K8 X (.type "list") (fun xs H Q=>∃p ys,xs=[.ref p]/\(SqL X.K H p ys\/SqT X.K H p ys)/\∀l,H l=none->Q (.ref l) (upd H l (.lst ys))):=by
 intro pins s σ H xs us Q I r h
 obtain⟨p,ys,rfl,hq,q⟩:=h
 obtain⟨u,rfl,rx⟩:=QD r
 cases rx
 have fin:∀(its:List Value),Vals ys its->ys.length<=sizeLine->∀(h':Heap) (c':Nat),(∀b o',s.heap.get? b=some o'->h'.get? b=some o') ->
   h'.get? s.heap.objs.size=some { cls:=.type "list",dict:=none,data:=.seq its.toArray c',slots:=#[] }->EP X pins σ Q (.ref s.heap.objs.size) { s with heap:=h' }:=fun its r' hz h' c' kp e =>
  ⟨.ref s.heap.objs.size,_,I.laid (t':=s.toks) kp (Nat.le_refl _) (show ObjOk X.prog X.w _ h' _ (.lst ys) from⟨hz,its,c',r',e⟩),rfl,q _ (I.hok.fresh (Nat.le_refl _))⟩
 rcases hq with hq|hq
 ·obtain⟨its,r',pl,hz⟩:=I.list hq
  have hlen:=r'.length
  obtain⟨o,ho,hc,n,hd⟩:=pl.isList
  exact call_list_seq p (.inl rfl) ho hc hd (fun h' c' kp e=>fin its r' hz h' c' kp e) (by simp only[List.size_toArray]<;>omega)
 ·obtain⟨its,r',pl,hz⟩:=I.tuple hq
  have hlen:=r'.length
  obtain⟨o,ho,hc,n,hd⟩:=pl
  exact call_list_seq p (.inr rfl) ho hc hd (fun h' c' kp e=>fin its r' hz h' c' kp e) (by simp only[List.size_toArray]<;>omega)
theorem Jr:K8 X (.type "tuple") (fun xs H Q=>∃p ys,xs=[.ref p]/\((SqL X.K H p ys/\∀l,H l=none->Q (.ref l) (upd H l (.tup ys)))\/(SqT X.K H p ys/\Q (.ref p) H))):=by
 intro pins s σ H xs us Q I r h
 obtain⟨p,ys,rfl,h⟩:=h
 obtain⟨u,rfl,rx⟩:=QD r
 cases rx
 rcases h with ⟨hq,q⟩|⟨hq,q⟩
 ·obtain⟨its,r',pl,hz⟩:=I.list hq
  have hlen:=r'.length
  refine call_tuple_list pl.isList (fun h' kp=>?_) (by simp only[List.size_toArray]<;>omega)
  have I1:Inv X pins σ H { s with heap:=h' }:=I.kept (t':=s.toks) kp
  have I2:Inv X pins σ (upd H h'.objs.size (.tup ys)) { s with heap:=h'.push { cls:=.type "tuple",data:=.seq its.toArray } } :=
   I1.laid (t':=s.toks) (fun b o e=>Heap.get?_push_of_some _ e) (Nat.le_refl _) (show ObjOk X.prog X.w _ _ _ (.tup ys) from⟨hz,its,r',IsTup.new _ _⟩)
  exact⟨.ref h'.objs.size,_,I2,rfl,q _ (I1.hok.fresh (Nat.le_refl _))⟩
 ·obtain⟨its,r',pl,hz⟩:=I.tuple hq
  exact call_tuple_same pl ⟨.ref p,H,I,rfl,q⟩
def tyV(K:PySem.W.Frag)(T:String)(x:V)(H:Hp):Prop:=match x with
 |.str _=>T="str"
 |.int _=>T="int"
 |.ref p=>(T="list"/\∃xs,SqL K H p xs)\/(T="tuple"/\∃o,K.lookup p=some o/\o.cls = .type "tuple"/\o.dict=none) \/
   (T="dict"/\((∃kvs,H p=some (.dK kvs))\/∃kvs,H p=some (.dT kvs)))\/(T="set"/\∃S n,H p=some (.set S n))
 |_=>False
theorem fH{pins:List (Addr×Obj)}{σ:St}{H:Hp}{s:Shared}{T:String}{x:V}{v:Value}(I:Inv X pins σ H s)(r:RelV x v)(ty:tyV X.K T x H) :
  s.TypeIs v T/\∀a,v = .ref a->∃ob,s.heap.get? a=some ob/\ob.dict=none:=by
 cases x with
 |str z =>
  obtain⟨t,rfl⟩:=r
  cases (show T="str" from ty)
  exact⟨typeIs_str s z t,fun _ e=>nomatch e⟩
 |int i =>
  obtain⟨t,rfl⟩:=r
  cases (show T="int" from ty)
  exact⟨typeIs_int s i t,fun _ e=>nomatch e⟩
 |ref p =>
  cases r
  rcases ty with ⟨rfl,xs,hq⟩|⟨rfl,o,hk,hc,hd⟩|⟨rfl,hk⟩|⟨rfl,S,n,hk⟩
  ·obtain⟨its,_,pl,_⟩:=I.list hq
   refine⟨pl.isList.typeIs,fun a e=>?_⟩
   cases e
   obtain⟨o,n,e,c,hd,_⟩:=pl
   exact⟨o,e,hd⟩
  ·refine⟨⟨o,I.kIn p o hk,hc⟩,fun a e=>?_⟩
   cases e
   exact⟨o,I.kIn _ o hk,hd⟩
  ·have z:∃o,s.heap.get? p=some o/\o.ExactDict:=by
    rcases hk with ⟨kvs,hk⟩|⟨kvs,hk⟩
    ·obtain⟨_,_,_,_,o,_,_,e,ex,_⟩:=I.hok p _ hk
     exact⟨o,e,ex⟩
    ·obtain⟨_,_,_,_,o,_,_,e,ex,_⟩:=I.hok p _ hk
     exact⟨o,e,ex⟩
   obtain⟨o,e,ex⟩:=z
   refine⟨⟨o,e,ex.1⟩,fun a e2=>?_⟩
   cases e2
   exact⟨o,e,ex.2.1⟩
  ·obtain⟨o,_,_,_,e,ex,_⟩:=I.hok p _ hk
   refine⟨⟨o,e,ex.1⟩,fun a e2=>?_⟩
   cases e2
   exact⟨o,e,ex.2.1⟩
 |_=>exact False.elim ty
def tBM(K:PySem.W.Frag)(T:String)(r:V->List V->Hp->VK->Prop)(to:TE)(t:TA):TE:=fun σ H Q=>to σ H fun x H1=>tyV K T x H1/\t σ H1 fun xs H2=>r x xs H2 Q
variable {o e:Expr} {es:List Expr} {to:TE} {t:TA} {name:Str} {apos cpos:Pos} {T id:String} {r:V->List V->Hp->VK->Prop}
theorem Vj(pa:PlainAttrs T)(slot:Slot T name id)(hty:typeOf (.builtin id)=pure (.type "method_descriptor"))(hm:MtR X id r)(ho:PE X o to)(ha:PA X (e::es) t)
  (hbase:attributeBase o name X.env (eval o X.env)=eval o X.env:=by rfl)
  (hfew : ((backTo cpos (starEach (e :: es) X.env)).all (fun x => !x.1) && (backToKw cpos (keywordEach [] X.env)).all (fun x => x.1.isSome)
   && decide ((e::es).length+([]:List Keyword).length+(if ([]:List Keyword).isEmpty then 0 else 1)<30))=true:=by rfl)
  (hline:(apos.endLine==cpos.line)=true:=by rfl) (hs:starEach (e::es) X.env=(false,eval e X.env)::starEach es X.env:=by rfl) (hplain:(backTo cpos (starEach es X.env)).any (·.1)=false:=by rfl) :
  PE X (.Call (.Attribute o name apos) (e::es) [] cpos) (tBM X.K T r to t):=by
 intro pins s σ H Q I h
 refine wpAny_Call_method_late hbase hfew hline rfl (thn (ho pins s σ H _ I h) fun v s1 ⟨x,H1,I1,r1,ty,q1⟩=>?_)
 obtain⟨h1,h2⟩:=fH I1 r1 ty
 refine⟨T,id,pa,slot,hty,h1,h2,?_⟩
 have hA:=ha cpos pins s1 σ H1 _ I1 q1
 rw[hs]at hA ⊢
 refine Calls.callWith_builtin (by show(false||(backTo cpos (starEach es X.env)).any (·.1))=false;rw[hplain]<;>rfl) (Calls.evalArgs_plain ?_)
 exact thn hA fun us s2 ⟨vs,H2,I2,r2,q2⟩=>hm pins s2 σ H2 x vs v us Q I2 r1 r2 q2
end
end L2
namespace L2
open PySem PySem.Spec PyProof.Rows
def MtM(X:Cx)(id:String)(r:V->List V->Hp->VK->Prop):Prop :=
 ∀(pins:List (Addr×Obj)) (s:Shared) (σ:St) (H:Hp) (x:V) (xs:List V) (v:Value) (us:List Value) (Q:VK),Inv X pins σ H s->RelV x v->Vals xs us->r x xs H Q ->
  wpAny (model X.prog X.w) X.A (call (.builtin id) (v::us)) (EP X pins σ Q) X.xe s
theorem Vals.one:∀{x:V} {us:List Value},Vals [x] us->∃u,us=[u]/\RelV x u
 |_,_,.cons r .nil=>⟨_,rfl,r⟩
theorem Vals.eraseIdx:∀{xs:List V} {us:List Value} (i:Nat),Vals xs us->Vals (xs.eraseIdx i) (us.eraseIdx i)
 |_,_,_,.nil=>.nil
 |_,_,0,.cons _ t=>t
 |_,_,i+1,.cons r t=>.cons r (Vals.eraseIdx i t)
theorem Vals.rep{xs:List V}{us:List Value}(h:Vals xs us):∀k:Nat,Vals (List.replicate k xs).flatten (List.replicate k us).flatten
 |0=>.nil
 |k+1=>by
  rw[List.replicate_succ,List.replicate_succ,List.flatten_cons,List.flatten_cons]
  exact Vals.append h (Vals.rep h k)
theorem TH{α:Type}:∀(l:List α) (i:Nat),(l.eraseIdx i).length<=l.length
 |[],_=>Nat.le_refl _
 |_::_,0=>Nat.le_succ _
 |_::r,i+1=>Nat.succ_le_succ (TH r i)
theorem TN(its:List Value):∀(k:Nat) (acc:List Value),
  List.foldl (fun x1 x2=>x1++x2) acc.toArray (List.replicate k its.toArray)=(acc++(List.replicate k its).flatten).toArray
 |0,acc=>by simp
 |k+1,acc=>by
  have e:acc.toArray++its.toArray=(acc++its).toArray:=by simp
  have e2:(acc++its)++(List.replicate k its).flatten=acc++(List.replicate (k+1) its).flatten:=by
   rw[List.replicate_succ,List.flatten_cons,List.append_assoc]
  rw[<- e2,<- TN its k (acc++its),<- e,List.replicate_succ,List.foldl_cons]
section
variable {X:Cx} {pins:List (Addr×Obj)} {σ:St} {H:Hp} {s:Shared} {l b:Addr} {xs ys zs:List V}
theorem Inv.lset{its its':List Value}{n:Nat}{f:Array Value->Array Value}{t':Nat}(I:Inv X pins σ H s)(hH:H l=some (.lst xs))
  (e:s.heap.get? l=some { cls:=.type "list",data:=.seq its.toArray n }) (hf:f its.toArray=its'.toArray) (hv:Vals ys its') (hz:ys.length<=sizeLine) :
  Inv X pins σ (upd H l (.lst ys)) { s with heap:=s.heap.update l (Obj.mapSeq f),toks:=t' }:=by
 have q:=PySem.IsL.update e f
 rw[hf]at q
 refine I.write (x:=l) (e:=l) (by rw[hH];exact trivial) (.inl rfl) (fun b' u hb hu=>(Heap.get?_update_other s.heap (Obj.mapSeq f) (Ne.symm hb)).trans hu) ⟨_,q⟩ ?_
 exact⟨hz,its',_,hv,q⟩
theorem Inv.lnew{its:List Value}{t':Nat}(I:Inv X pins σ H s)(hv:Vals ys its)(hz:ys.length<=sizeLine) :
  Inv X pins σ (upd H s.heap.objs.size (.lst ys)) { s with heap:=s.heap.push { cls:=.type "list",data:=.seq its.toArray },toks:=t' } :=
 I.laid (fun _ _ q=>Heap.get?_push_of_some _ q) (Nat.le_refl _) ⟨hz,its,0,hv,Heap.get?_push_size _ rfl⟩
theorem Inv.fresh(I:Inv X pins σ H s):H s.heap.objs.size=none:=I.hok.fresh (Nat.le_refl _)
theorem Inv.lstM(I:Inv X pins σ H s)(hH:H l=some (.lst xs)):xs.length<=sizeLine/\∃(its:List Value) (n:Nat),Vals xs its/\xs.length=its.length/\s.heap.get? l=some { cls:=.type "list",data:=.seq its.toArray n }:=by
 obtain⟨z,its,n,r,e⟩:=I.hok l _ hH
 exact⟨z,its,n,r,r.length,e⟩
end
section
variable {X:Cx}
def YI:V->List V->Hp->VK->Prop:=fun x vs H Q=>∃l xs y,x = .ref l/\vs=[y]/\H l=some (.lst xs)/\xs.length<sizeLine/\Q .non (upd H l (.lst (xs++[y])))
theorem L1:MtM X "list.append" YI:=by
 intro pins s σ H x vs v us Q I rx rv h
 obtain⟨l,xs,y,rfl,rfl,hH,hz,q⟩:=h
 cases rx
 obtain⟨u,rfl,ru⟩:=rv.one
 obtain⟨z,its,n,r,hl,e⟩:=I.lstM hH
 refine call_meets F.slot_list_append ⟨_,e,rfl⟩ F.entry_list_append (F.args_list_append_2 _ _) (PySem.list_append l its.toArray n u (by rw[List.size_toArray];omega)) ⟨e,?_⟩
 refine⟨.non,_,I.lset (its':=its++[u]) hH e (by simp) (r.append (.cons ru .nil)) ?_,rfl,q⟩
 rw[List.length_append,List.length_singleton]
 omega
def aJ:V->List V->Hp->VK->Prop:=fun x vs H Q=>∃l xs i k y,x = .ref l/\vs=[.int i]/\H l=some (.lst xs)/\-(2 ^ 63)<=i/\i<2 ^ 63/\seqIndex? i xs.length=some k/\xs[k]?=some y/\Q y (upd H l (.lst (xs.eraseIdx k)))
theorem bB:MtM X "list.pop" aJ:=by
 intro pins s σ H x vs v us Q I rx rv h
 obtain⟨l,xs,i,k,y,rfl,rfl,hH,h1,h2,hk,hy,q⟩:=h
 cases rx
 obtain⟨u,rfl,ru⟩:=rv.one
 obtain⟨t,rfl⟩:=ru
 obtain⟨z,its,n,r,hl,e⟩:=I.lstM hH
 obtain⟨w,hw,rw'⟩:=r.get hy
 refine call_meets F.slot_list_pop ⟨_,e,rfl⟩ F.entry_list_pop (F.args_list_pop_2 _ _)
  (MeetsSeq.list_pop_at l its.toArray n i t k w (fitsIndex_both h1 h2) (by rw[List.size_toArray,<- hl];exact hk) (by rw[<- Array.getElem?_toList];exact hw) (by rw[List.size_toArray];omega)) ⟨e,?_⟩
 refine⟨y,_,I.lset (its':=its.eraseIdx k) hH e ?_ (r.eraseIdx k) ?_,rw',q⟩
 ·show its.toArray.eraseIdxIfInBounds k=(its.eraseIdx k).toArray
  rw[List.eraseIdxIfInBounds_toArray]
 ·have:=TH xs k
  omega
def iP:R2:=fun x y H Q=>∃l b xs zs,x = .ref l/\y = .ref b/\H l=some (.lst xs)/\H b=some (.lst zs)/\xs.length+zs.length<=sizeLine/\∀p,H p=none->Q (.ref p) (upd H p (.lst (xs++zs)))
theorem UA:OpR X (binaryOp .Add) iP:=by
 intro pins s σ H x y v u Q I rx ry h
 obtain⟨l,b,xs,zs,rfl,rfl,hH,hB,hz,q⟩:=h
 cases rx
 cases ry
 obtain⟨z,its,n,r,hl,e⟩:=I.lstM hH
 obtain⟨z2,its2,n2,r2,hl2,e2⟩:=I.lstM hB
 refine PySem.P.add_list e e2 ?_ (by rw[List.size_toArray,List.size_toArray];omega)
 have ea:its.toArray++its2.toArray=(its++its2).toArray:=by simp
 rw[ea]
 exact⟨.ref _,_,I.lnew (t':=s.toks) (r.append r2) (by rw[List.length_append];omega),rfl,q _ I.fresh⟩
theorem YV{α:Type}(xs:List α)(k:Nat):(List.replicate k xs).flatten.length=k*xs.length:=by
 induction k with
 |zero=>simp
 |succ k ih=>rw[List.replicate_succ,List.flatten_cons,List.length_append,ih,Nat.succ_mul,Nat.add_comm]
end
section
variable {prog:Program} {w:World} {A:Around} {E:Value->Shared->Prop} {s:Shared}
end
section
variable {X:Cx}
end
end L2
namespace Att
open PySem PySem.W PySem.Calls PyProof.Rows
theorem Pf{P:Params}{h:Heap}:∀(ns:List Int) (vs:List Value),WellAll P h vs (ns.map WData.int)->IntsAre vs ns:=by
 intro ns
 induction ns with
 |nil =>
  intro vs w
  rw[List.map_nil]at w
  cases w
  exact .nil
 |cons n ns ih =>
  intro vs w
  rw[List.map_cons]at w
  cases w with
  |cons a b =>
   cases a
   exact .cons _ _ (ih _ b)
theorem Y7{l:OpenLaw}{n:Nat}(hn:l.most=some n){P:Params}{h:Heap}{args:List WData}{vals:List Value}
  (hpre:l.row.toRowW.claim.pre args=true) (hwl:WellAll P h vals args) :
  ∃a vs ns,vals=[Value.ref a]/\args=[WData.list (ns.map WData.int)]/\h.get? a=some { cls:=.type "list",data:=.seq vs.toArray }/\IntsAre vs ns/\ns.length<=n:=by
 have hsh:WShape.hasAll [] args [.list .int]=true:=(pre_splitW hpre).1
 have hc:l.pre.holds [] { args:=args }=true:=(pre_splitW hpre).2
 obtain⟨d,r,rfl,h1,h2⟩:=hasAllW_cons hsh
 obtain rfl:=hasAllW_nil h2
 obtain⟨xs,rfl,h3⟩:=hasW_list h1
 obtain⟨ns,rfl⟩:=items_int h3
 have hlen:ns.length<=n:=by
  unfold OpenLaw.pre at hc
  have h4:(WTm.not (.lt (.lit (.int (n:Int))) (.len (.arg 0)))).holds [] { args:=[.list (ns.map .int)] }=true:=by
   have h4:=(holds_andW hc).1
   rw[hn]at h4
   exact h4
  have h5:=condW_of h4 (w_not (w_lt w_lit (w_len_list (w_arg rfl))))
  rw[List.length_map]at h5
  refine Nat.le_of_not_lt fun q=>?_
  have q':(n:Int)<((ns.length:Nat):Int):=by omega
  first
   |(rw[decide_eq_true q']at h5;exact absurd h5 (by decide))
   |(simp at h5;omega)
 cases hwl with
 |cons w1 w2 =>
  cases w2
  cases w1 with
  |list ho hall=>exact⟨_,_,ns,rfl,rfl,ho,Pf ns _ hall,hlen⟩
theorem ZA(l:OpenLaw)(args:List WData):l.row.toRowW.claim.post args (.bool true) args=true :=
 postW_of (r:=l.row.toRowW) (X:=(true==true))
  (show WShape.has [] (.bool true) .bool=true by first|rfl|decide|simp[WShape.has,WShape.arms,WShape.armsAll])
  (show(WTm.eq .res (.lit (.bool true))).value [] { args:=args,res:=some (.bool true),after:=args }=some (.bool (true==true)) from w_eq_bool (w_res rfl) w_lit) rfl
theorem attach_call{l:OpenLaw}{n:Nat}{q:Program}{loose:List Str}{XP:(Str->Option Value)->Heap->Prop}{YP:World->Heap->Prop}{d:DefRec}
  (hn:l.most=some n) (hdf:d.params.defaults=[])
  (call : ∀ (w : World) (s₀ s₁ : Shared) (mg mb : Str -> Option Value) (fa : Addr) (o : Obj) (pm cd doc : Value) (a : Addr) (vs : List Value) (ns : List Int),
   Ground q loose [] XP w s₀ mg mb s₁.heap->YP w s₁.heap ->
   s₁.heap.get? fa=some o->o.data = .func (docDef d.name d.params d.body d.scope pm cd doc)->s₁.heap.CodeRec cd d.name->mg d.name=some (.ref fa) ->
   s₁.heap.get? a=some { cls:=.type "list",data:=.seq vs.toArray }->IntsAre vs ns->ns.length<=n->s₁.gens=#[] ->
   codeAny (model l.prog w) callerA (.call (.ref fa) ⟨[.ref a],[]⟩) (fun r s'=>r = .ok (.ret (.bool true))/\OldK s₁.heap s'.heap/\s'.os=s₁.os/\AllBare s'.gens) s₁) :
  WalkO q loose XP YP l.row.toRowW d [] (fun f vs=>PySem.call f vs):=by
 intro w s₀ s₁ mg mb G Y fa o pm cd doc dV kV ho hd hcd hD hmg hg args vals as hpre hlay hrd hwl hlo
 obtain rfl:dV = .none:=Dflts.none hD hdf
 obtain rfl:kV = .none:=Dflts.noKw hD
 obtain⟨a,vs,ns,rfl,rfl,hobj,hints,hlen⟩:=Y7 hn hpre hwl
 refine enter_call (codeAny_mono (call w s₀ s₁ mg mb fa o pm cd doc a vs ns G Y ho (fd_plain hd) hcd hmg hobj hints hlen hg) fun r s' hq=>?_)
 obtain⟨rfl,h2,h3,h4⟩:=hq
 exact⟨.inl ⟨.bool true,.bool true,[],rfl,fun _=>rfl,.bool true,ZA l _,fun _=>⟨List.Pairwise.nil,fun _ hm=>(nomatch hm)⟩⟩,h2,h3,h4⟩
section
variable {prog:Program} {w:World} {A:Around} {E:Value->Shared->Prop} {s:Shared} {K:Frag}
end
end Att
namespace L2
open PySem PySem.Spec PyProof.Rows
theorem Sg:∀{vs:List Value} {ns:List Int},IntsAre vs ns->Vals (ns.map V.int) vs
 |_,_,.nil=>.nil
 |_,_,.cons n t h=>.cons ⟨t,rfl⟩ (Sg h)
def gx(H:Hp):Prop:=∀b,H b=none\/∃o xs,H b=some (.frz o (.lst xs))
theorem bE{P:Program}{w:World}{K:PySem.W.Frag}{mg mb:Str->Option Value}{CX:CXT}{k:Nat}{fa a:Addr}{fd:FuncData}{x:Str}{sp:Sp}{s₁:Shared}{vs:List Value}{ns:List Int}
  (KX:K.In s₁.heap) (hns:s₁.heap.Ns mainGlobals mg) (hb:s₁.heap.Ns builtinsNs mb) (hbb:∀x:Str,x≠"__name__"->mb x=bootBuiltins x) (hlim:s₁.heap.NoLimit) (hg:s₁.gens=#[])
  (ha:s₁.heap.get? a=some { cls:=.type "list",data:=.seq vs.toArray }) (hi:IntsAre vs ns) (hl:ns.length<=sizeLine) (hr:Room k callerA)
  (F:∀base:Heap,K.In base->base.Ns mainGlobals mg->FnOk P w K mg base CX k fa fd [x] sp) (hbind:∀(s:Shared) (u:Value),BindsTo s fd ⟨[u],[]⟩ [(x,u)])
  (hsp:∀H:Hp,gx H->SqL K H a (ns.map V.int)->sp [.ref a] H (fun v _=>v = .bl true) fun _ _ _=>False)
  (hCX:∀H e s',CX [] H s₁ (fun _ _ _=>False) e s'->False) :
  codeAny (model P w) callerA (.call (.ref fa) ⟨[.ref a],[]⟩) (fun r s'=>r = .ok (.ret (.bool true))/\OldK s₁.heap s'.heap/\s'.os=s₁.os/\AllBare s'.gens) s₁:=by
 have rv:=Sg hi
 have lenV:=hi.length
 -- from an abstract heap in which nothing but the script may be tracked
 have core:∀H:Hp,gx H->SqL K H a (ns.map V.int)->HOk P w H s₁.heap->(∀b,H b≠none->b=a)->(H a≠none->K.lookup a=none) ->
   codeAny (model P w) callerA (.call (.ref fa) ⟨[.ref a],[]⟩) (fun r s'=>r = .ok (.ret (.bool true))/\OldK s₁.heap s'.heap/\s'.os=s₁.os/\AllBare s'.gens) s₁:=by
  intro H hO hS hok hA hK
  have base_of:∀{b:Addr} {o:Obj},s₁.heap.get? b=some o->H b=none->(U0 s₁.heap H).get? b=some o:=fun e n=>bM e n
  have noA:∀{b:Addr} {o:Obj} {es:Array DictEntry} {ep:Nat},s₁.heap.get? b=some o->o.data = .dict es ep->H b=none:=fun {b o es ep} e d=>by
   cases q:H b with
   |none=>rfl
   |some u =>
    have e':b=a:=hA b (by rw[q];simp)
    subst e'
    rw[ha]at e;cases e
    have d':Data.seq vs.toArray _=Data.dict es ep:=d
    cases d'
  have nsK:∀{b:Addr} {m:Str->Option Value},s₁.heap.Ns b m->(U0 s₁.heap H).Ns b m:=fun {b m} ⟨o,es,ep,e,d,r⟩=>⟨o,es,ep,base_of e (noA e d),d,r⟩
  have hKb : K.In (U0 s₁.heap H) := fun b o e => base_of (KX b o e) (by
   cases q:H b with
   |none=>rfl
   |some u =>
    have e':b=a:=hA b (by rw[q];simp)
    subst e'
    rw[hK (by rw[q];simp)]at e;cases e)
  have hM:Mod K mg (U0 s₁.heap H):=⟨hKb,nsK hns,⟨mb,nsK hb,hbb⟩,let ⟨mc,h1,h2⟩:=hlim;⟨mc,nsK h1,h2⟩⟩
  have e0:dU P w K mg (U0 s₁.heap H) callerA [] s₁ H:=⟨rfl,hM,fun b o e=>cS e,Nat.le_of_eq (Zc _ _),trivial,fun b hb=>absurd (show b∈([]:List Addr) from hb) (by simp),hok,.of_eq hg⟩
  refine codeAny_mono ((F _ hKb (nsK hns)).run callerA [] s₁ H ⟨[.ref a],[]⟩ [.ref a] [.ref a] _ _ hr e0 (hbind s₁ (.ref a)) (.cons rfl .nil) (hsp H hO hS)) fun r s' h=>?_
  cases r with
  |error e=>exact(hCX H e s' h).elim
  |ok fl =>
   cases fl with
   |next=>exact False.elim h
   |brk=>exact False.elim h
   |cont=>exact False.elim h
   |ret u =>
    obtain⟨v,H',os,bare,un,hok',r',q⟩:=h
    have q':v = .bl true:=q
    subst q'
    obtain rfl:u=Value.bool true:=r'
    refine⟨rfl,OldK.of_keep fun b o e=>?_,os,bare⟩
    cases q:H b with
    |none=>exact un.keep b o e q (by intro z;exact absurd (show b∈([]:List Addr) from z) (by simp)) (by simp)
    |some u =>
     rcases hO b with z|⟨ob,xs,z⟩
     ·rw[q]at z;cases z
     ·have z2:=un.frzs b ob _ z
      obtain⟨e1,_⟩:=hok b _ z
      obtain⟨e2,_⟩:=hok' b _ z2
      rw[e]at e1;cases e1
      exact e2
 cases hk:K.lookup a with
 |some o =>
  -- the script is one of the module's own objects
  have e:=KX a o hk
  rw[ha]at e
  cases e
  refine core (fun _=>none) (fun _=>.inl rfl) (.inr ⟨_,vs.toArray,_,hk,rfl,rfl,rfl,by rw[List.size_toArray,lenV];exact hl,by simpa using rv⟩) (fun b u z=>by have z':(none:Option HO)=some u:=z;cases z') (fun b z=>absurd rfl z) fun z=>absurd rfl z
 |none =>
  refine core (fun b=>if b=a then some (.frz { cls:=.type "list",data:=.seq vs.toArray } (.lst (ns.map V.int))) else none) (fun b=>?_) (.inl (.inr ⟨{ cls:=.type "list",data:=.seq vs.toArray },if_pos rfl⟩)) (fun b u z=>?_) (fun b z=>?_) fun _=>hk
  ·by_cases hb:b=a
   ·exact .inr ⟨_,_,if_pos hb⟩
   ·exact .inl (if_neg hb)
  ·by_cases hb:b=a
   ·have z':=(if_pos hb).symm.trans z
    cases z'
    subst hb
    exact⟨ha,by rw[List.length_map];exact hl,vs,_,rv,ha⟩
   ·have z':=(if_neg hb).symm.trans z
    cases z'
  ·by_cases hb:b=a
   ·exact hb
   ·exact absurd (if_neg hb) z
end L2
namespace L2
open PySem PySem.Spec PyProof.Rows
theorem walk_of{l:PySem.W.OpenLaw}{n k:Nat}{q:Program}{loose:List Str}{XP:(Str->Option Value)->Heap->Prop}{YP:World->Heap->Prop}{d:DefRec}{K:Params->PySem.W.Frag}{CX:World->CXT}{sp:World->Sp}{x:Str}
  (hn:l.most=some n) (hn2:n<=sizeLine) (hdf:d.params.defaults=[]) (hr:Room k callerA)
  (hY:∀(w:World) (h:Heap),YP w h->(K w.params).In h)
  (F : ∀ (w : World) (mg : Str -> Option Value) (fa : Addr) (h : Heap), (K w.params).In h -> h.Ns mainGlobals mg -> mg d.name = some (.ref fa) ->
   ∃fd:FuncData,(∀(s:Shared) (u:Value),BindsTo s fd ⟨[u],[]⟩ [(x,u)]) /\
    ∀base:Heap,(K w.params).In base->base.Ns mainGlobals mg->FnOk l.prog w (K w.params) mg base (CX w) k fa fd [x] (sp w))
  (hsp:∀(w:World) (H:Hp) (a:Addr) (ns:List Int),ns.length<=n->gx H->SqL (K w.params) H a (ns.map V.int)->sp w [.ref a] H (fun v _=>v = .bl true) fun _ _ _=>False)
  (hCX:∀(w:World) (H:Hp) (s:Shared) (e:Value) (s':Shared),CX w [] H s (fun _ _ _=>False) e s'->False) :
  PySem.W.WalkO q loose XP YP l.row.toRowW d [] (fun f vs=>PySem.call f vs):=by
 refine Att.attach_call hn hdf fun w s₀ s₁ mg mb fa o pm cd doc a vs ns G Y ho hd hcd hmg hobj hints hlen hg=>?_
 have KX:=hY w _ Y
 obtain⟨fd,hb,hF⟩:=F w mg fa _ KX G.T.g hmg
 exact bE KX G.T.g G.T.b G.T.builtins G.T.nolimit hg hobj hints (Nat.le_trans hlen hn2) hr hF hb (fun H hO hS=>hsp w H a ns hlen hO hS) fun H e s'=>hCX w H s₁ e s'
end L2
namespace L2
open PySem PySem.Spec PyProof.Rows
def Aq(s:Stmt):Arguments:=match s with
 |.FunctionDef _ a _ _ _ _ _ _ _ _=>a
 |_=>{ posonlyargs:=[],args:=[],vararg:=none,kwonlyargs:=[],kw_defaults:=[],kwarg:=none,defaults:=[] }
def Ap(s:Stmt):List Stmt:=match s with
 |.FunctionDef _ _ b _ _ _ _ _ _ _=>b
 |_=>[]
def AD(s:Stmt):Scope:=match s with
 |.FunctionDef _ _ _ _ _ _ sc _ _ _=>sc
 |_=>{ kind:=.function,names:=[],isGenerator:=false,isCoroutine:=false }
abbrev CX0:CXT:=fun _ _ _ _ _ _=>False
abbrev E0:XK:=fun _ _ _=>False
theorem aY{X:Cx}:VQ CX0 X E0:=fun _ _ _ _ _ _ _ h=>h.elim
structure Fun(K:PySem.W.Frag)(x qual:Str)(st:Stmt)(f:Addr)(fd:FuncData):Prop where
 ex:∃(oc:Value) (od:Option Addr) (kV doc pm:Value) (an:Option Addr) (cdv ct:Value) (osl:Array (Option Value)),
  fd=PySem.W.fnOf x qual (Aq st) (Ap st) (AD st) .none kV doc pm an cdv ct/\K.lookup f=some ⟨oc,od,.func fd,osl⟩/\PySem.W.codeIn K cdv qual=true
 kp:PySem.W.keepIn K (.ref f)=true
section
variable {P:Program} {w:World} {K:PySem.W.Frag} {mg:Str->Option Value} {base:Heap}
theorem Fun.ok{x qual:Str}{st:Stmt}{f:Addr}{fd:FuncData}{N ps:List Str}{k:Nat}{sp:Sp}(F:Fun K x qual st f fd)(S:Av N ps (AD st))(len:∀vs H Q E,sp vs H Q E->vs.length=ps.length)
  (hbody : ∀ (cdv : Value) (A : Around) (outer : List Env) (s : Shared) (H : Hp) (vs : List V) (Q : VK) (E : XK), Room k (A.deeper (envOfC qual (AD st) s.heap.objs.size f cdv)) -> sp vs H Q E ->
   ∃t,PSs (Zp CX0 P w K mg base N qual (AD st) f cdv A outer s H E).nox (Ap st) t/\t { nx:=fun _ H'=>Q .non H',rt:=Q } (start N vs) H):FnOk P w K mg base CX0 (k+1) f fd ps sp:=by
 obtain⟨oc,od,kV,doc,pm,an,cdv,ct,osl,rfl,lk,hcd⟩:=F.ex
 refine i0 lk hcd S len fun A outer s H vs Q E hr hsp=>?_
 obtain⟨t,h,q⟩:=hbody cdv A outer s H vs Q E hr hsp
 exact⟨t,h.nox,q⟩
theorem Fun.binds{x qual:Str}{st:Stmt}{f:Addr}{fd:FuncData}{ps:List Str}(F:Fun K x qual st f fd)
  (h:∀(kV doc pm:Value) (an:Option Addr) (cdv ct:Value) (us:List Value),us.length=ps.length->bindArgs (PySem.W.fnOf x qual (Aq st) (Ap st) (AD st) .none kV doc pm an cdv ct) ⟨us,[]⟩=pure (ps.zip us)):Binds K fd ps []:=by
 obtain⟨oc,od,kV,doc,pm,an,cdv,ct,osl,rfl,lk,hcd⟩:=F.ex
 exact .all (h kV doc pm an cdv ct)
theorem BY{x qual:Str}{st:Stmt}{f:Addr}{oc:Value}{od an:Option Addr}{osl:Array (Option Value)}{kV doc pm cdv ct:Value}(l:K.lookup f=some ⟨oc,od,.func (PySem.W.fnOf x qual (Aq st) (Ap st) (AD st) .none kV doc pm an cdv ct),osl⟩)
  (c:PySem.W.codeIn K cdv qual=true) (k:PySem.W.keepIn K (.ref f)=true):Fun K x qual st f (PySem.W.fnOf x qual (Aq st) (Ap st) (AD st) .none kV doc pm an cdv ct):=⟨⟨oc,od,kV,doc,pm,an,cdv,ct,osl,rfl,l,c⟩,k⟩
end
section
variable {X:Cx}
theorem pv(i:Nat){x:Str}{pos:Pos}(hN:X.N[i]?=some x:=by rfl)(hv:Vis X.env.scope x:=by first|exact Or.inl rfl|exact Or.inr (Or.inl rfl)|exact Or.inr (Or.inr rfl))(hd:(x==("__debug__":Str))=false:=by decide)
  (hcd:(x==("__classdict__":Str))=false:=by decide):PE X (.Name x pos) (Pb i):=fX hN hv hd hcd
end
def Same(H H':Hp):Prop:=∀b o,H b=some o->H' b=some o
theorem Same.trans{H H1 H2:Hp}(a:Same H H1)(b:Same H1 H2):Same H H2:=fun c o h=>b c o (a c o h)
theorem Same.seq{K:PySem.W.Frag}{H H':Hp}{a:Addr}{xs:List V}(e:Same H H')(h:SqL K H a xs):SqL K H' a xs:=by
 rcases h with (h|⟨o,h⟩)|h
 ·exact .inl (.inl (e _ _ h))
 ·exact .inl (.inr ⟨o,e _ _ h⟩)
 ·exact .inr h
end L2
end
section
namespace L2
open PySem PySem.Spec PyProof.Rows
def Bd(n:Nat)(x:Int):Prop:=x.natAbs<2 ^ n
theorem Bd.mono{m n:Nat}{x:Int}(h:Bd m x)(k:m<=n):Bd n x:=Nat.lt_of_lt_of_le h (Nat.pow_le_pow_right (by decide) k)
theorem Bd.bits{n:Nat}{x:Int}(h:Bd n x):Builtin.Int.intBits x<=n+1:=by
 unfold Builtin.Int.intBits
 split
 ·exact Nat.zero_le _
 ·have:x.natAbs.log2<=n:=by
   rcases Nat.eq_zero_or_pos x.natAbs with h0|hp
   ·rw[h0];simp
   ·exact Nat.le_of_lt ((Nat.log2_lt (Nat.ne_of_gt hp)).mpr h)
  omega
theorem Bd.log{n:Nat}{x:Int}(h:Bd n x):x.natAbs.log2<=n:=by
 rcases Nat.eq_zero_or_pos x.natAbs with h0|hp
 ·rw[h0];simp
 ·exact Nat.le_of_lt ((Nat.log2_lt (Nat.ne_of_gt hp)).mpr h)
theorem Bd.of{n:Nat}{x m:Int}(h1:-m<=x)(h2:x<=m)(hm:m.natAbs<2 ^ n):Bd n x:=by
 unfold Bd
 omega
section
variable {X:Cx}
def CMulB(i j:Int):Prop:=CMul i j\/(Bd 8000 i/\Bd 8000 j)
theorem CMulB.ok{i j:Int}(h:CMulB i j):IntMulOk i j:=by
 rcases h with h|⟨h,k⟩
 ·exact h.ok
 ·have a:=h.bits
  have b:=k.bits
  have e:(2:Nat) ^ 20=1048576:=by decide
  exact IntMulOk.of_bits (by omega) (by omega)
theorem T9:OpR X (binaryOp .Mult) (rI CMulB fun i j=>.int (i*j)):=opI fun _ _ _ _ _ _ _ hc q=>mul_int q hc.ok
def W6(i j:Int):Prop:=0<j/\Bd 8000 j
theorem A8:OpR X (binaryOp .FloorDiv) (rI W6 fun i j=>.int (i / j)):=opI fun i j _ _ _ _ _ hc q=>by
 have:=hc.2.log
 rw[<- Int.fdiv_eq_ediv_of_nonneg _ (Int.le_of_lt hc.1)]at q
 exact floordiv_int (by have:=hc.1;omega) q (.inl (PyProof.noPylong_of_log2 (by omega)))
def fG(i j:Int):Prop:=j≠0/\Bd 8000 j
end
mutual
def Is(H:Hp):PyData->V->Prop
 |.none,v=>v = .non
 |.bool b,v=>v = .bl b
 |.int i,v=>v = .int i
 |.str x,v=>v = .str x
 |.tuple ds,v=>∃a vs,v = .ref a/\H a=some (.tup vs)/\IsL H ds vs
 |.list ds,v=>∃a vs,v = .ref a/\H a=some (.lst vs)/\IsL H ds vs
 |.dict _,_=>False
def IsL(H:Hp):List PyData->List V->Prop
 |[],vs=>vs=[]
 |d::ds,vs=>∃x xs,vs=x::xs/\Is H d x/\IsL H ds xs
end
mutual
def EZ:PyData->Bool
 |.none=>true
 |.bool _=>true
 |.int _=>true
 |.str _=>true
 |.tuple ds=>fixDs ds
 |.list _=>false
 |.dict _=>false
def fixDs:List PyData->Bool
 |[]=>true
 |d::ds=>EZ d&&fixDs ds
end
section
variable {X:Cx} {pins:List (Addr×Obj)} {σ:St} {H:Hp} {s:Shared}
end
def okD(d:PyData):Bool:=SeqAt.shaped d
section
variable {X:Cx}
theorem Vd{es:List PyData}(h:okD (.list es)=true):PyData.canLayAll0 es=true/\PyData.depthAll es<=63:=by
 unfold okD SeqAt.shaped at h
 rw[Bool.and_eq_true]at h
 obtain⟨h1,h2⟩:=h
 have h3:=of_decide_eq_true h2
 simp only[PyData.depth]at h3
 exact⟨by simpa only[PyData.canLay0] using h1,by omega⟩
theorem QP{d:PyData}(h:okD d=true):d.canLay0=true:=by
 unfold okD SeqAt.shaped at h
 rw[Bool.and_eq_true]at h
 exact h.1
end
structure Cal(P:Program)(w:World)(K:PySem.W.Frag)(mg:Str->Option Value)(base:Heap)(k:Nat)(x:Str)(ps:List Str)(sp:Sp):Prop where
 ex:∃f fd,FnOk P w K mg base CX0 k f fd ps sp/\Binds K fd ps []/\PySem.W.keepIn K (.ref f)=true/\mg x=some (.ref f)
theorem Cal.mono{P:Program}{w:World}{K:PySem.W.Frag}{mg:Str->Option Value}{base:Heap}{j k:Nat}{x:Str}{ps:List Str}{sp:Sp}(C:Cal P w K mg base j x ps sp)(h:j<=k):Cal P w K mg base k x ps sp:=by
 obtain⟨f,fd,F,b,kp,m⟩:=C.ex
 exact⟨f,fd,F.mono h,b,kp,m⟩
theorem Cal.of{P:Program}{w:World}{K:PySem.W.Frag}{mg:Str->Option Value}{base:Heap}{k:Nat}{x:Str}{ps:List Str}{sp:Sp}{f:Addr}{fd:FuncData}{st:Stmt}(F:Fun K x x st f fd)(ok:FnOk P w K mg base CX0 k f fd ps sp)(b:Binds K fd ps [])(m:mg x=some (.ref f)):Cal P w K mg base k x ps sp:=⟨f,fd,ok,b,F.kp,m⟩
section
variable {X:Cx} {k:Nat} {ps:List Str} {sp:Sp} {x:Str} {p pos:Pos} {e:Expr} {es:List Expr} {t:TA}
theorem AW(C:Cal X.prog X.w X.K X.mg X.base k x ps sp)(hr:Room k X.A)(hg:Gl X x)(ha:PA X (e::es) t)(hdb:(x==("__debug__":Str))=false:=by decide)
  (he:starEach (e::es) X.env=(false,eval e X.env)::starEach es X.env:=by rfl) (hpl:(backTo pos (starEach es X.env)).any (·.1)=false:=by rfl) :
  PE X (.Call (.Name x p) (e::es) [] pos) (QN sp [] E0 t):=by
 obtain⟨f,fd,F,b,kp,m⟩:=C.ex
 exact cK F hr hg m kp b .nil aY ha hdb he hpl
end
theorem GZ{X:Cx}{x:Str}{T:String}{pos:Pos}(hg:Gl X x)(hm:X.mg x=none)(hv:bootBuiltins x=some (.type T))(hn:x≠"__name__")(hd:(x==("__debug__":Str))=false):PE X (.Name x pos) (tC (.ty T)):=cL hg hm hv rfl hn hd
theorem En{H:Hp}{p:Addr}(h:H p=none)(o:HO):Same H (upd H p o):=fun b u q=>by rw[Cz (CS q h)];exact q
theorem bF{K:PySem.W.Frag}(T:String):PySem.W.kitOne K (.type T) (.type T)=some true:=by
 unfold PySem.W.kitOne
 rw[if_pos (beq_self_eq_true _)]
theorem fv{K:PySem.W.Frag}{t T:String}{b:Bool}(h1:(Value.type t==Value.type T)=false)(h2:PySem.W.kitMeta T=true)(h3:(PySem.fastBuiltinMro t).map (·.contains (Value.type T))=some b):PySem.W.kitOne K (.type t) (.type T)=some b:=by
 unfold PySem.W.kitOne PySem.W.kitCls
 rw[h1,if_neg Bool.false_ne_true]
 simp only[h2,if_true]
 exact h3
end L2
end
section
namespace L2
open PySem PySem.Spec PyProof.Rows
theorem VJ{env:Env}:∀(names:List (Str×NameKind)) (cs:List (Str×Addr)),(∀x,(x,NameKind.free)∈names->∃c,env.cells.lookup x=some c) ->
  (∀x c,cs.lookup x=some c->env.cells.lookup x=some c) ->
  ∃ cl, (forIn names cs fun (x : Str × NameKind) (r : List (Str × Addr)) => match x with
   |(name,kind)=>if (kind==NameKind.free)=true then do let c <- cellOf env name;pure (ForInStep.yield ((name,c)::r)) else pure (ForInStep.yield r):Sem (List (Str×Addr)))=pure cl /\
   (∀x c,cl.lookup x=some c->env.cells.lookup x=some c)/\(∀x,(x,NameKind.free)∈names->∃c,cl.lookup x=some c)/\(∀x c,cs.lookup x=some c->∃c',cl.lookup x=some c')
 |[],cs,_,h2=>⟨cs,rfl,h2,fun x hx=>by simp at hx,fun x c e=>⟨c,e⟩⟩
 |(n,k)::r,cs,h1,h2=>by
  by_cases hk:k = .free
  ·subst hk
   obtain⟨c,hc⟩:=h1 n List.mem_cons_self
   have hh:∀x c',((n,c)::cs).lookup x=some c'->env.cells.lookup x=some c':=by
    intro x c' e
    rw[List.lookup_cons]at e
    cases q:x==n with
    |true=>rw[q]at e;cases e;rw[eq_of_beq q];exact hc
    |false=>rw[q]at e;exact h2 x c' e
   obtain⟨cl,e,a,b,d⟩:=VJ (env:=env) r ((n,c)::cs) (fun x hx=>h1 x (List.mem_cons_of_mem _ hx)) hh
   refine⟨cl,?_,a,fun x hx=>?_,fun x c' e'=>?_⟩
   ·rw[List.forIn_cons]
    have ec:cellOf env n=pure c:=by
     unfold cellOf
     rw[hc]
    simp only[beq_self_eq_true,if_true]
    rw[ec]
    exact e
   ·rcases List.mem_cons.mp hx with z|z
    ·cases z
     exact d n c (by rw[List.lookup_cons,beq_self_eq_true])
    ·exact b x z
   ·cases q:x==n with
    |true=>exact d x c (by rw[List.lookup_cons,q])
    |false=>exact d x c' (by rw[List.lookup_cons,q];exact e')
  ·obtain⟨cl,e,a,b,d⟩:=VJ (env:=env) r cs (fun x hx=>h1 x (List.mem_cons_of_mem _ hx)) h2
   refine⟨cl,?_,a,fun x hx=>?_,d⟩
   ·rw[List.forIn_cons]
    have hb:(k==NameKind.free)=false:=by simpa using hk
    simp only[hb,Bool.false_eq_true,if_false]
    exact e
   ·rcases List.mem_cons.mp hx with z|z
    ·cases z;exact absurd rfl hk
    ·exact b x z
theorem Yq{env:Env}{scope:Scope}(h:∀x,(x,NameKind.free)∈scope.names->∃c,env.cells.lookup x=some c) :
  ∃cl,closureFor scope env=pure cl/\(∀x c,cl.lookup x=some c->env.cells.lookup x=some c)/\(∀x,(x,NameKind.free)∈scope.names->∃c,cl.lookup x=some c):=by
 obtain⟨cl,e,a,b,_⟩:=VJ (env:=env) scope.names [] h (fun x c e=>by simp at e)
 refine⟨cl,?_,a,b⟩
 exact(congrArg (fun m:Sem (List (Str×Addr))=>m >>= fun r=>(pure r:Sem (List (Str×Addr)))) e).trans rfl
theorem Zq{prog:Program}{w:World}{A:Around}{R:Result->Shared->Prop}{s:Shared}{elt target iter:Expr}{ifs:List Expr}{scope:Scope}{pos:Pos}{it acc:Value}{env:Env}(I:Nat->Shared->Prop)
  (turn : ∀ n s, I n s -> wpAny (model prog w) A (pyNext it) (fun r s₁ => match r with
   |none=>R (.ok .next) s₁
   | some v => wpAny (model prog w) A (letOwnedTupleGo target it v) (fun _ s₁ => wpAny (model prog w) A (assign target env v) (fun _ s₂ =>
     wpAny (model prog w) A (forIn ifs true fun c r => if r = true then do let ok <- isTrue c env (eval c env); pure (ForInStep.yield ok) else pure (ForInStep.yield r)) (fun ok s₃ =>
      if ok = true then wpAny (model prog w) A (eval elt env) (fun x s₄ =>
       wpAny (model prog w) A (call (.builtin "list.append") [acc,x]) (fun _ s₅=>∃m,m<n/\I m s₅) (fun _ _=>False) s₄) (fun _ _=>False) s₃
      else ∃m,m<n/\I m s₃) (fun _ _=>False) s₂) (fun _ _=>False) s₁) (fun _ _=>False) s₁) (fun _ _=>False) s)
  (n:Nat) (h:I n s) :
  codeAny (model prog w) A (.compLoop (.ListComp elt [⟨target,iter,ifs,0⟩] scope pos) 0 it acc env) R s:=by
 refine codeAny_loop rfl I (fun n s hI=>?_) n h
 show wpAny _ A ((compTurn (.ListComp elt [⟨target,iter,ifs,0⟩] scope pos) 0 it acc env).onRaise (fun x=>do noteFrame x env;theTreesLotGoes x)) _ _ s
 refine wpAny_noted ?_
 rw[compTurn_list]
 refine wpAny_bind (wpAny_standAt (wpAny_bind (wpAny_mono (turn n s hI) (fun r s₁ h₁=>?_) fun _ _ h'=>h'.elim)))
 cases r with
 |none=>exact wpAny_pure h₁
 |some v =>
  refine wpAny_bind (wpAny_mono h₁ (fun _ s₁ h₁=>?_) fun _ _ h'=>h'.elim)
  refine wpAny_bind (wpAny_mono h₁ (fun _ s₂ h₂=>wpAny_bind (wpAny_mono h₂ (fun ok s₃ h₃=>?_) fun _ _ h'=>h'.elim)) fun _ _ h'=>h'.elim)
  cases ok with
  |false=>exact wpAny_pure ⟨rfl,h₃⟩
  |true =>
   exact wpAny_bind (wpAny_bind (wpAny_mono h₃ (fun x s₄ h₄=>wpAny_bind (wpAny_mono h₄ (fun _ s₅ h₅=>wpAny_pure (wpAny_pure ⟨rfl,h₅⟩)) fun _ _ h'=>h'.elim)) fun _ _ h'=>h'.elim))
theorem Mt{env:Env}:∀{names:List (Str×NameKind)} {x:Str} {k:NameKind},names.lookup x=some k ->
  (names.map fun(n,k)=>if (k==NameKind.free&&env.scope.kind==.function&&env.kindOf n==some .cell) then (n,NameKind.cell) else (n,k)).lookup x=some k \/
  (k = .free/\(names.map fun(n,k)=>if (k==NameKind.free&&env.scope.kind==.function&&env.kindOf n==some .cell) then (n,NameKind.cell) else (n,k)).lookup x=some .cell)
 |[],_,_,h=>by simp at h
 |(n,k')::r,x,k,h=>by
  rw[List.map_cons]
  dsimp only
  cases hx:x==n with
  |true =>
   simp only[List.lookup_cons,hx]at h
   have e:k=k':=(Option.some.inj h).symm
   subst e
   by_cases hc:(k==NameKind.free&&env.scope.kind==.function&&env.kindOf n==some .cell)=true
   ·rw[if_pos hc]
    refine .inr ⟨?_,by simp only[List.lookup_cons,hx]⟩
    simp only[Bool.and_eq_true]at hc
    exact eq_of_beq hc.1.1
   ·rw[if_neg hc]
    exact .inl (by simp only[List.lookup_cons,hx])
  |false =>
   simp only[List.lookup_cons,hx]at h
   have ih:=@Mt env r x k h
   by_cases hc:(k'==NameKind.free&&env.scope.kind==.function&&env.kindOf n==some .cell)=true
   ·rw[if_pos hc];simp only[List.lookup_cons,hx];exact ih
   ·rw[if_neg hc];simp only[List.lookup_cons,hx];exact ih
theorem Ki{env:Env}:∀{names:List (Str×NameKind)} {x:Str} {k:NameKind},(∀y∈names,y.2≠.cell) ->
  (names.map fun(n,k)=>if (k==NameKind.free&&env.scope.kind==.function&&env.kindOf n==some .cell) then (n,NameKind.cell) else (n,k)).lookup x=some k->(k = .cell\/k = .free)->(x,NameKind.free)∈names
 |[],_,_,_,h,_=>by simp at h
 |(n,k')::r,x,k,nc,h,hk=>by
  rw[List.map_cons]at h
  dsimp only at h
  cases hx:x==n with
  |true =>
   have e:=eq_of_beq hx
   subst e
   by_cases hc:(k'==NameKind.free&&env.scope.kind==.function&&env.kindOf x==some .cell)=true
   ·simp only[Bool.and_eq_true]at hc
    rw[eq_of_beq hc.1.1]
    exact List.mem_cons_self
   ·rw[if_neg hc,List.lookup_cons,hx]at h
    cases h
    rcases hk with rfl|rfl
    ·exact absurd rfl (nc _ List.mem_cons_self)
    ·exact List.mem_cons_self
  |false =>
   refine List.mem_cons_of_mem _ (Ki (env:=env) (fun y hy=>nc y (List.mem_cons_of_mem _ hy)) ?_ hk)
   by_cases hc:(k'==NameKind.free&&env.scope.kind==.function&&env.kindOf n==some .cell)=true
   ·rw[if_pos hc,List.lookup_cons,hx]at h;exact h
   ·rw[if_neg hc,List.lookup_cons,hx]at h;exact h
theorem G9{scope:Scope}{env:Env}{x:Str}(h:scope.names.lookup x=some .local):(relabel scope env).names.lookup x=some .local:=lookup_relabel_local h
theorem Ly{scope:Scope}{env:Env}{x:Str}(h:scope.names.lookup x=some .globalImplicit):(relabel scope env).names.lookup x=some .globalImplicit:=by
 rcases Mt (env:=env) h with z|⟨z,_⟩
 ·exact z
 ·cases z
theorem YH{scope:Scope}{env:Env}{x:Str}(h:scope.names.lookup x=some .free):(relabel scope env).names.lookup x=some .cell\/(relabel scope env).names.lookup x=some .free:=by
 rcases Mt (env:=env) h with z|⟨_,z⟩
 ·exact .inr z
 ·exact .inl z
theorem Em{scope:Scope}{env:Env}{x:Str}(h:scope.names.lookup x=some .local):Vis (relabel scope env) x:=.inl (G9 h)
theorem NG{scope:Scope}{env:Env}{x:Str}(h:scope.names.lookup x=some .free):Vis (relabel scope env) x:=(YH h).elim (fun z=>.inr (.inl z)) fun z=>.inr (.inr z)
theorem HZ{scope:Scope}{env:Env}{x:Str}(h:scope.names.lookup x=some .local):Loc (relabel scope env) x:=.inl (G9 h)
def blk(own:Nat)(fr:List Nat)(σ:St):St:=List.replicate own none++fr.map fun j=>(σ[j]?).join
def cxC(X:Cx)(N':List Str)(scope:Scope)(cl:List (Str×Addr))(fp:List Addr)(s3:Shared)(H3:Hp):Cx:={ X with
 N:=N',s₀:=s3,H₀:=H3,env:=compEnvC scope cl s3.heap.objs.size X.env,outer:=X.stack,stack:=X.stack,ex:=fp,fn:=fun _=>false,pn:=[],xe:=fun _ _=>False }
structure bw(X:Cx)(N':List Str)(own:Nat)(fr:List Nat)(scope:Scope):Prop where
 kind:scope.kind = .function
 len:N'.length=own+fr.length
 cell:∀y∈scope.names,y.2≠.cell
 names:∀y∈scope.names,y.2 = .local->scope.names.lookup y.1=some .local
 free:∀x,(x,NameKind.free)∈scope.names->X.env.scope.names.lookup x=some .cell\/X.env.scope.names.lookup x=some .free
 slot:∀k j,fr[k]?=some j->∃x,N'[own+k]?=some x/\X.N[j]?=some x/\scope.names.lookup x=some .free
theorem dI{own:Nat}{fr:List Nat}{σ:St}{i:Nat}{v:V}(h:(blk own fr σ)[i]?=some (some v)):∃k j,i=own+k/\fr[k]?=some j/\σ[j]?=some (some v):=by
 unfold blk at h
 by_cases hi:i<own
 ·rw[List.getElem?_append_left (by simpa using hi),List.getElem?_replicate,if_pos hi]at h
  cases h
 ·rw[List.getElem?_append_right (by simpa using hi),List.length_replicate,List.getElem?_map]at h
  cases e:fr[i-own]? with
  |none=>rw[e]at h;cases h
  |some j =>
   rw[e]at h
   simp only[Option.map_some,Option.some.injEq]at h
   refine⟨i-own,j,by omega,e,?_⟩
   cases q:σ[j]? with
   |none=>rw[q]at h;cases h
   |some o=>rw[q]at h;cases o with
    |none=>cases h
    |some u=>cases h;rfl
section
variable {X:Cx} {N':List Str} {own:Nat} {fr:List Nat} {scope:Scope}
theorem cv{pins:List (Addr×Obj)}{σ:St}{H3:Hp}{s3:Shared}{cl:List (Str×Addr)}{fp:List Addr}{h4:Heap}{tk:Nat}(ok:bw X N' own fr scope)(I:Inv X pins σ H3 s3)(f2:∀b∈fp,Sf X pins H3 b)(flt:∀b∈fp,b<s3.heap.objs.size)
  (cl1:∀x c,cl.lookup x=some c->X.env.cells.lookup x=some c) (cl2:∀x,(x,NameKind.free)∈scope.names->∃c,cl.lookup x=some c)
  (m4:Str->Option Value) (n4:h4.Ns s3.heap.objs.size m4) (k4:∀b o,s3.heap.get? b=some o->h4.get? b=some o) :
  Inv (cxC X N' scope cl fp s3 H3) [] (blk own fr σ) H3 { s3 with heap:=h4,toks:=tk }:=by
 have stk:∀b,b∈frs X.stack->b∈X.env.locals::X.fs:=I.stkSub
 have exfs:∀b∈fp,b∉frs X.stack:=fun b hb z=>by
  rcases List.mem_cons.mp (stk b z)with e|e
  ·exact(f2 b hb).2.1 e
  ·exact(f2 b hb).2.2.1 e
 have okk:(cxC X N' scope cl fp s3 H3).Ok:=by
  refine ⟨I.ok.mod, ok.kind, I.ok.glob, I.ok.blt, Nat.le_refl _, fun x y c e1 e2 => I.ok.inj x y c (cl1 x c e1) (cl1 y c e2), fun x hx => ?_, fun x c hf => ?_, I.ok.hd, I.ok.frames, .inl rfl, fun b hb => ⟨Nat.ne_of_lt (flt b hb), fun x c e => (f2 b hb).2.2.2.2.1 x c (cl1 x c e)⟩,
   I.bs,Nat.le_trans I.ok.bsz I.sz,fun b o e hb=>?_,exfs,I.stack,I.stkFree⟩
  ·refine cl2 x ?_
   have hx:(relabel scope X.env).names.lookup x=some .cell\/(relabel scope X.env).names.lookup x=some .free:=hx
   rcases hx with hx|hx
   ·exact Ki (env:=X.env) ok.cell hx (.inl rfl)
   ·exact Ki (env:=X.env) ok.cell hx (.inr rfl)
  ·exact absurd (show false=true from hf) Bool.false_ne_true
  ·rcases(f2 b hb).2.2.2.1 with z|z
   ·exact I.ok.noex b o e z
   ·exact absurd (Nat.lt_of_lt_of_le (Heap.lt_size e) (Nat.le_trans I.ok.bsz z)) (Nat.lt_irrefl _)
 refine⟨okk,rfl,I.bare,Un.kept k4,⟨m4,n4,fun i x v e1 e2 e3=>?_⟩,fun x c e=>?_,I.hok.fresh (Nat.le_refl _),fun x c e=>I.freeC x c (cl1 x c e),fun p hp=>absurd (show p∈([]:List (Addr×Obj)) from hp) (by simp),I.hok.kept k4,?_⟩
 ·obtain⟨k,j,rfl,ej,es⟩:=dI e2
  obtain⟨y,y1,y2,y0⟩:=ok.slot k j ej
  have y3:=PySem.mem_of_lookup y0
  rw[show(cxC X N' scope cl fp s3 H3).N=N' from rfl,y1]at e1
  cases e1
  obtain⟨m,hn,hl⟩:=I.loc
  have vis:Vis X.env.scope x:=(ok.free x y3).elim (fun z=>.inr (.inl z)) fun z=>.inr (.inr z)
  obtain⟨u,r,l⟩:=hl j x v y2 es vis
  refine⟨u,r,?_⟩
  rcases l with ⟨l,_⟩|⟨_,c,ec,z⟩
  ·exfalso
   have l':X.env.scope.names.lookup x=some .local:=l
   rcases ok.free x y3 with q|q
   ·rw[q]at l';cases l'
   ·rw[q]at l';cases l'
  ·obtain⟨c',ec'⟩:=cl2 x y3
   have:=cl1 x c' ec'
   rw[ec]at this
   cases this
   obtain⟨o,ho,hd⟩:=z
   refine .inr ⟨?_,c,ec',⟨o,k4 c o ho,hd⟩⟩
   rcases e3 with z|z|z
   ·exfalso
    have z':(relabel scope X.env).names.lookup x=some .local:=z
    rcases YH (env:=X.env) y0 with q|q
    ·rw[z']at q;cases q
    ·rw[z']at q;cases q
   ·exact .inl z
   ·exact .inr z
 ·obtain⟨v,o,ho,hd⟩:=I.cell x c (cl1 x c e)
  exact⟨v,o,k4 c o ho,hd⟩
 ·show(blk own fr σ).length=N'.length
  unfold blk
  rw[List.length_append,List.length_replicate,List.length_map,ok.len]
end
end L2
end
section
namespace L2
open PySem PySem.Spec PyProof.Rows
def PTs(X:Cx)(ifs:List Expr)(tc:TT):Prop :=
 ∀(pins:List (Addr×Obj)) (s:Shared) (σ:St) (H:Hp) (Q:Bool->Hp->Prop),Inv X pins σ H s->tc σ H Q->wpAny (model X.prog X.w) X.A (forIn ifs true fun c r=>if r=true then do let ok <- isTrue c X.env (eval c X.env);pure (ForInStep.yield ok) else pure (ForInStep.yield r)) (TP X pins σ Q) X.xe s
def hU:TT:=fun _ H Q=>Q true H
theorem P1{X:Cx}:PTs X [] hU:=fun pins s σ H Q I h=>wpAny_tests_nil ⟨H,I,h⟩
theorem T5{X:Cx}{c:Expr}{tc:TT}(h:PT X c tc):PTs X [c] tc:=fun pins s σ H Q I hq=>wpAny_tests_one (h pins s σ H Q I hq)
def iZ(own:Nat)(fr:List Nat)(g:TG)(tc:TT)(te:TE)(J:It)(σ:St)(H1:Hp)(Q:VK):Prop:=∀D,H1 D=none->∃W:Nat->Nat->List V->St->Hp->Prop,(∃m,W 0 m [] (blk own fr σ) (upd H1 D (.lst [])))/\∀i m ys σ' H',W i m ys σ' H' ->
 (J.stop i H' /\ Q (.ref D) H') \/ (J.go i H' /\ ∀ x H2, J.yld i H' x H2 -> g x σ' H2 fun σ3 H3 => tc σ3 H3 fun b H4 => if b = true then te σ3 H4 fun y H5 => H5 D = some (.lst ys) /\ ys.length < sizeLine /\ ∃ m', m' < m /\ W (i + 1) m' (ys ++ [y]) σ3 (upd H5 D (.lst (ys ++ [y])))
  else ∃m',m'<m/\W (i+1) m' ys σ3 H4)
def tLC(own:Nat)(fr:List Nat)(wi:TI)(g:TG)(tc:TT)(te:TE):TE:=fun σ H Q=>wi σ H fun J H1=>iZ own fr g tc te J σ H1 Q
structure Own(X:Cx)(pins:List (Addr×Obj))(C:Addr)(H:Hp)(s:Shared):Prop where
 ns:∃m,s.heap.Ns C m
 hn:H C=none
 ne:C≠X.env.locals
 ab:X.s₀.heap.objs.size<=C
 nc:∀x c,X.env.cells.lookup x=some c->c≠C
 np:∀p∈X.pn++pins,p.1≠C
section
variable {X:Cx} {N':List Str} {own:Nat} {fr:List Nat} {scope:Scope} {elt tg iter:Expr} {ifs:List Expr} {pos:Pos}
theorem Own.go{pins:List (Addr×Obj)}{σ:St}{H:Hp}{s:Shared}{C:Addr}{h':Heap}(O:Own X pins C H s)(I:Inv X pins σ H s)(sb:Heap.SameBut C s.heap h'):Inv X pins σ H { s with heap:=h' } :=
 I.turned (t':=s.toks) (fun b o hb e=>sb.extBut b o hb e) O.hn O.ne (.inr O.ab) O.nc O.np
theorem Wu{pins:List (Addr×Obj)}{σ:St}{H2:Hp}{s2:Shared}{J:It}{fp:List Addr}{it:Addr}{tn:Nat->Heap->Prop}{cl:List (Str×Addr)}{Q:VK}{g:TG}{tc:TT}{te:TE}{RR:Value->Addr->Result->Shared->Prop}{E:Value->Shared->Prop}
  (hc:X.calm=true) (ok:bw X N' own fr scope) (I2:Inv X pins σ H2 s2) (T:W3 X.prog X.w X.K tg J fp it tn) (st2:tn 0 s2.heap) (f2:∀b∈fp,Sf X pins H2 b)
  (cl1:∀x c,cl.lookup x=some c->X.env.cells.lookup x=some c) (cl2:∀x,(x,NameKind.free)∈scope.names->∃c,cl.lookup x=some c)
  (hg:∀fp s3 H3,PG (cxC X N' scope cl fp s3 H3) tg g) (ht:∀fp s3 H3,PTs (cxC X N' scope cl fp s3 H3) ifs tc) (he:∀fp s3 H3,PE (cxC X N' scope cl fp s3 H3) elt te)
  (h:iZ own fr g tc te J σ H2 Q)
  (fin:∀D C s' H',Inv X pins σ H' s'->Own X pins C H' s'->Q (.ref D) H'->RR (.ref D) C (.ok .next) s') :
  wpAny (model X.prog X.w) X.A (newList []) (fun acc s₃ => wpAny (model X.prog X.w) X.A (newFunctionEnv scope X.env.globals cl [] X.env.qual none .none (some X.env)) (fun cenv s₄ =>
   codeAny (model X.prog X.w) X.A (.compStart (.ListComp elt [⟨tg,iter,ifs,0⟩] scope pos) 0 (.ref it) acc { cenv with scope:=relabel scope X.env }) (RR acc cenv.locals) s₄) E s₃) E s2:=by
 obtain⟨W,⟨m0,w0⟩,turn⟩:=h s2.heap.objs.size (I2.hok.fresh (Nat.le_refl _))
 refine wpAny_newObj_type (wpAny_newFunctionEnv ok.cell (by intro y hy;simp at hy) (fun h₁ hns₁ hsb₁=>?_) ok.kind)
 dsimp only at hns₁ hsb₁ ⊢
 have I3:Inv X pins σ (upd H2 s2.heap.objs.size (.lst [])) { s2 with heap:=s2.heap.push { cls:=.type "list",dict:=none,data:=.seq ([]:List Value).toArray } } :=
  I2.laid (t':=s2.toks) (fun b u e=>Heap.get?_push_of_some _ e) (Nat.le_refl _) ⟨Nat.zero_le _,[],0,.nil,Heap.get?_push_size _ rfl⟩
 generalize hH3:upd H2 s2.heap.objs.size (.lst [])=H3 at w0 I3
 generalize hS3:({ s2 with heap:=s2.heap.push { cls:=.type "list",dict:=none,data:=.seq ([]:List Value).toArray } }:Shared)=S3 at I3
 have e3:s2.heap.push { cls:=.type "list",dict:=none,data:=.seq ([]:List Value).toArray }=S3.heap:=by rw[<- hS3]
 have k23:∀b o,s2.heap.get? b=some o->S3.heap.get? b=some o:=fun b o e=>by rw[<- e3];exact Heap.get?_push_of_some _ e
 rw[e3]at hns₁ hsb₁ ⊢
 have st3:tn 0 S3.heap:=T.keep _ _ _ st2 fun b _ o e=>k23 b o e
 have flt:∀b∈fp,b<S3.heap.objs.size:=fun b hb=>by
  obtain⟨o,e,_⟩:=T.obj _ _ st3 b hb
  exact Heap.lt_size e
 have flt2:∀b∈fp,b<s2.heap.objs.size:=fun b hb=>by
  obtain⟨o,e,_⟩:=T.obj _ _ st2 b hb
  exact Heap.lt_size e
 have f3:∀b∈fp,Sf X pins H3 b:=fun b hb=>by
  refine⟨?_,(f2 b hb).2⟩
  rw[<- hH3,Cz (Nat.ne_of_lt (flt2 b hb))]
  exact(f2 b hb).1
 have k34:∀b o,S3.heap.get? b=some o->h₁.get? b=some o:=fun b o e=>hsb₁.extBut b o (Nat.ne_of_lt (Heap.lt_size e)) (Heap.get?_push_of_some _ e)
 have I4:Inv (cxC X N' scope cl fp S3 H3) [] (blk own fr σ) H3 { S3 with heap:=h₁,toks:=s2.toks+([]:List (Str×Value)).length }:=cv ok I3 f3 flt cl1 cl2 _ hns₁ k34
 have st4:tn 0 h₁:=T.keep _ _ _ st3 fun b _ o e=>k34 b o e
 -- back in the def
 have back:∀{σ' H' s'},Inv (cxC X N' scope cl fp S3 H3) [] σ' H' s'->Inv X pins σ H' s'/\Own X pins S3.heap.objs.size H' s':=fun {σ' H' s'} I'=>by
  have J1:Inv X pins σ H' s':=I3.call' I'.os I'.base I'.hok I'.bare fun b hb=>⟨(f3 b hb).2.2.2.1,(f3 b hb).2.1,(f3 b hb).2.2.2.2⟩
  refine⟨J1,⟨let ⟨m,hn,_⟩:=I'.loc;⟨m,hn⟩,I'.free,Nat.ne_of_gt I3.lt,I3.sz,fun x c e z=>?_,fun p hp z=>?_⟩⟩
  ·obtain⟨v,q⟩:=I3.cell x c e
   exact absurd q.lt (by rw[z];exact Nat.lt_irrefl _)
  ·exact absurd (Heap.lt_size (I3.pin p hp).1) (by rw[z];exact Nat.lt_irrefl _)
 have stat:∀{H':Hp},(∀b∈fp,H' b=none)->∀b∈fp,Sf (cxC X N' scope cl fp S3 H3) [] H' b:=fun hn b hb =>
  ⟨hn b hb,(I4.ok.exf b hb).1,I4.ok.exfs b hb,.inl hb,(I4.ok.exf b hb).2,fun p hp=>absurd (show p∈([]:List (Addr×Obj)) from hp) (by simp)⟩
 have loop:codeAny (model X.prog X.w) X.A (.compLoop (.ListComp elt [⟨tg,iter,ifs,0⟩] scope pos) 0 (.ref it) (.ref s2.heap.objs.size) (cxC X N' scope cl fp S3 H3).env) (RR (.ref s2.heap.objs.size) S3.heap.objs.size) { S3 with heap:=h₁,toks:=s2.toks+([]:List (Str×Value)).length }:=by
  refine Zq (fun n s'=>∃i ys σ' H',Inv (cxC X N' scope cl fp S3 H3) [] σ' H' s'/\tn i s'.heap/\(∀b∈fp,H' b=none)/\W i n ys σ' H') ?_ m0 ⟨0,[],_,H3,I4,st4,fun b hb=>(f3 b hb).1,w0⟩
  rintro n s5 ⟨i,ys,σ5,H5,I5,st5,fr5,w5⟩
  rcases turn i n ys σ5 H5 w5 with ⟨stop,qn⟩|⟨go,step⟩
  ·refine thn (T.done (cxC X N' scope cl fp S3 H3) rfl rfl rfl hc i [] s5 σ5 H5 (fun _ _=>False) I5 (stat fr5) st5 stop) fun r s6 ⟨hr,I6⟩=>?_
   subst hr
   obtain⟨J1,O⟩:=back I6
   exact fin _ _ s6 H5 J1 O qn
  ·refine thn (T.item (cxC X N' scope cl fp S3 H3) rfl rfl rfl hc i [] s5 σ5 H5 (fun _ _=>False) I5 (stat fr5) st5 go) fun r s6 ⟨u,hr,h6⟩=>?_
   subst hr
   refine thn h6 fun _ s7 ⟨x,H7,I7,r7,y7,st7,fr7⟩=>?_
   have I7':=I7.pinned (stat fr7) (T.obj _ _ st7)
   refine thn (hg fp S3 H3 _ s7 σ5 H7 x u _ I7' r7 (step x H7 y7)) fun _ s8 ⟨σ8,H8,I8,q8⟩=>?_
   refine thn (ht fp S3 H3 _ s8 σ8 H8 _ I8 q8) fun b s9 ⟨H9,I9,q9⟩=>?_
   have again:∀{σ' H' s' m' ys'},m'<n->Inv (cxC X N' scope cl fp S3 H3) ([]++QV fp s7.heap) σ' H' s'->W (i+1) m' ys' σ' H'->∃m,m<n/\∃i ys σ' H',Inv (cxC X N' scope cl fp S3 H3) [] σ' H' s'/\tn i s'.heap/\(∀b∈fp,H' b=none)/\W i m ys σ' H':=fun {σ' H' s' m' ys'} hm I' w'=>by
    refine⟨m',hm,i+1,ys',σ',H',I'.unpinned,T.keep _ _ _ st7 fun b hb o e=>(I'.pin (b,o) (List.mem_append_right _ (List.mem_append_right _ (Kn hb e)))).1,fun b hb=>?_,w'⟩
    obtain⟨o,e,d⟩:=T.obj _ _ st7 b hb
    exact(I'.pin (b,o) (List.mem_append_right _ (List.mem_append_right _ (Kn hb e)))).2.1
   cases b with
   |false =>
    rw[if_neg Bool.false_ne_true]at q9 ⊢
    obtain⟨m',hm,w9⟩:=q9
    exact again hm I9 w9
   |true =>
    rw[if_pos rfl]at q9 ⊢
    refine thn (he fp S3 H3 _ s9 σ8 H9 _ I9 q9) fun v s10 ⟨y,H10,I10,r10,q10⟩=>?_
    obtain⟨hD,hz,m',hm,w10⟩:=q10
    refine thn (L1 (X:=cxC X N' scope cl fp S3 H3) _ s10 σ8 H10 (.ref s2.heap.objs.size) [y] (.ref s2.heap.objs.size) [v] (fun _ H'=>W (i+1) m' (ys++[y]) σ8 H') I10 rfl (.cons r10 .nil) ⟨_,ys,y,rfl,rfl,hD,hz,w10⟩) fun v' s11 ⟨_,H11,I11,_,q11⟩=>?_
    exact again hm I11 q11
 subst hS3
 exact codeAny_compStart_list loop (T.self _ 0 _ _ _ st4 loop)
theorem Sx{wi:TI}{g:TG}{tc:TT}{te:TE}(hc:X.calm=true)(ok:bw X N' own fr scope)(hi:PI X tg iter wi)
  (hg:∀cl fp s3 H3,PG (cxC X N' scope cl fp s3 H3) tg g) (ht:∀cl fp s3 H3,PTs (cxC X N' scope cl fp s3 H3) ifs tc) (he:∀cl fp s3 H3,PE (cxC X N' scope cl fp s3 H3) elt te)
  (hs:∀x,foldedSetIterable iter X.env x=pure x:=by intro _;rfl):PE X (.ListComp elt [⟨tg,iter,ifs,0⟩] scope pos) (tLC own fr wi g tc te):=by
 intro pins s σ H Q I h
 obtain⟨cl,ecl,cl1,cl2⟩:=Yq (env:=X.env) (scope:=scope) fun x hx=>I.ok.has x (ok.free x hx)
 rw[eval_ListComp]
 refine wpAny_comprehension_free (use:=none) rfl hs ecl ok.kind ok.names (thn (hi pins s σ H _ I h) fun v s1 h1=>thn h1 fun itv s2 h2=>?_)
 obtain⟨it,fp,tn,J,H2,rfl,I2,T,st2,f2,h2⟩:=h2
 refine Wu (RR:=fun acc C=>compPost (model X.prog X.w) X.A X.xe none (EP X pins σ Q) acc C) hc ok I2 T st2 f2 cl1 cl2 (hg cl) (ht cl) (he cl) h2 ?_
 intro D C s' H' J1 O q
 obtain⟨m,hn⟩:=O.ns
 exact⟨m,hn,fun h'' sb=>⟨.ref D,H',O.go J1 sb,rfl,q⟩⟩
theorem aM{wi:TI}{g:TG}{tc:TT}{te:TE}{i:Nat}{y:Str}{py spos:Pos}(hN:X.N.Nodup)(hiN:X.N[i]?=some y)(hy:X.env.scope.names.lookup y=some .local)(hc:X.calm=true)(ok:bw X N' own fr scope)(hi:PI X tg iter wi)
  (hg:∀cl fp s3 H3,PG (cxC X N' scope cl fp s3 H3) tg g) (ht:∀cl fp s3 H3,PTs (cxC X N' scope cl fp s3 H3) ifs tc) (he:∀cl fp s3 H3,PE (cxC X N' scope cl fp s3 H3) elt te)
  (hsw:swapsWith (.ListComp elt [⟨tg,iter,ifs,0⟩] scope pos) (some (.Name y py)) spos.line X.env=pure true)
  (hs:∀x,foldedSetIterable iter X.env x=pure x:=by intro _;rfl):PS X (.Assign [.Name y py] (.ListComp elt [⟨tg,iter,ifs,0⟩] scope pos) spos) (fun D σ H=>tLC own fr wi g tc te σ H fun v H'=>D.nx (σ.set i (some v)) H'):=by
 intro pins s σ H D I h
 obtain⟨cl,ecl,cl1,cl2⟩:=Yq (env:=X.env) (scope:=scope) fun x hx=>I.ok.has x (ok.free x hx)
 rw[exec_Assign_Name_used _ _ _ _ hsw]
 refine wpAny_bind (wpAny_standAt (wpAny_bind ?_))
 show wpAny _ _ (do let _ <- comprehension (.ListComp elt [⟨tg,iter,ifs,0⟩] scope pos) scope X.env _ (newList []) false (eval iter X.env) (some (assign (.Name y py) X.env))) _ _ s
 refine wpAny_bind (wpAny_mono (wpAny_comprehension_free (use := some (assign (.Name y py) X.env)) (Q := fun _ s' => SP X pins D .next s') rfl hs ecl ok.kind ok.names
  (thn (hi pins s σ H _ I h) fun v s1 h1=>thn h1 fun itv s2 h2=>?_)) (fun _ s' hq=>wpAny_pure (wpAny_pure hq)) fun _ _ e=>e)
 obtain⟨it,fp,tn,J,H2,rfl,I2,T,st2,f2,h2⟩:=h2
 refine Wu (RR:=fun acc C=>compPost (model X.prog X.w) X.A X.xe (some (assign (.Name y py) X.env)) (fun _ s'=>SP X pins D .next s') acc C) hc ok I2 T st2 f2 cl1 cl2 (hg cl) (ht cl) (he cl) h2 ?_
 intro D' C s' H' J1 O q
 show wpAny _ _ (assign (.Name y py) X.env (.ref D')) _ _ _
 refine wpAny_assign_Name (Ss J1 hN hiN (.inl hy) (v:=.ref D') rfl (fun s'' J2 sb=>?_) (.inr hy))
 obtain⟨m,hn⟩:=O.ns
 obtain⟨a,sb,ha⟩:=sb
 have nea:C≠a:=by
  rcases ha with ha|ha
  ·rw[ha];exact O.ne
  ·exact fun z=>O.nc y a ha z.symm
 refine⟨m,hn.sameBut sb nea,fun h'' sb'=>?_⟩
 have O2:Own X pins C H' s'':=⟨⟨m,hn.sameBut sb nea⟩,O.hn,O.ne,O.ab,O.nc,O.np⟩
 exact⟨_,H',O2.go J2 sb',q⟩
end
end L2
end
section
namespace DL
open PySem L2 PyProof.Rows
structure KW where
 fr:PySem.W.Frag
 w:World
instance:CoeOut KW PySem.W.Frag:=⟨KW.fr⟩
abbrev Nr(X:Cx):KW:=⟨X.K,X.w⟩
def hT(ks:List Int):Int:=reduceHash (Builtin.Tuple.tupleHashOf (ks.map hashInt))
def cI(a:Addr)(ts:List (List Int×Addr×V))(ep:Nat):Heap->Prop:=fun h=>(a==sysModules)=false/\ts.length<=sizeLine/\(ts.map (·.1)).Nodup /\
 ∃xs:List (List Int×Addr×Value),Paired (fun(t:List Int×Addr×V) (x:List Int×Addr×Value)=>t.1=x.1/\t.2.1=x.2.1/\RelV t.2.2 x.2.2) ts xs /\
  ∃(o:Obj) (es:Array DictEntry),h.get? a=some o/\o.ExactDict/\o.data = .dict es ep/\es.toList=xs.map fun x=>⟨hT x.1,.ref x.2.1,x.2.2⟩
def HD(H:Hp)(a:Addr)(ts:List (List Int×Addr×V)):Prop:=∃ep,H a=some (.ext (cI a ts ep))
def txK(ts:List (Str×V)):List (Key×V):=ts.map fun t=>(Sum.inr t.1,t.2)
mutual
def Is(K:KW)(H:Hp):PyData->V->Prop
 |.none,v=>v = .non
 |.bool b,v=>v = .bl b
 |.int i,v=>v = .int i
 |.str x,v=>v = .str x
 |.tuple ds,v=>∃a vs,v = .ref a/\SqT K H a vs/\IsL K H ds vs
 |.list ds,v=>∃a vs,v = .ref a/\H a=some (.lst vs)/\IsL K H ds vs
 |.dict kvs,v=>∃a ts,v = .ref a/\HD H a ts/\IsKV K H kvs ts
def IsL(K:KW)(H:Hp):List PyData->List V->Prop
 |[],vs=>vs=[]
 |d::ds,vs=>∃x xs,vs=x::xs/\Is K H d x/\IsL K H ds xs
def IsKV(K:KW)(H:Hp):List (PyData×PyData)->List (List Int×Addr×V)->Prop
 |[],ts=>ts=[]
 |(k,d)::r,ts=>∃t tr,ts=t::tr/\k = .tuple (t.1.map PyData.int)/\SqT K H t.2.1 (t.1.map V.int)/\Is K H d t.2.2/\IsKV K H r tr
end
theorem Same.tup{K:KW}{H H':Hp}{a:Addr}{xs:List V}(e:Same H H')(h:SqT K H a xs):SqT K H' a xs:=by
 rcases h with (h|⟨o,h⟩)|h
 ·exact .inl (.inl (e _ _ h))
 ·exact .inl (.inr ⟨o,e _ _ h⟩)
 ·exact .inr h
def TSm(H H':Hp):Prop:=∀b o,H b=some o->(∀xs,o≠.lst xs)->(∀φ,o≠.ext φ)->H' b=some o
theorem TSm.tup{K:KW}{H H':Hp}{a:Addr}{xs:List V}(e:TSm H H')(h:SqT K H a xs):SqT K H' a xs:=by
 rcases h with (h|⟨o,h⟩)|h
 ·exact .inl (.inl (e _ _ h (fun _ z=>by cases z) fun _ z=>by cases z))
 ·exact .inl (.inr ⟨o,e _ _ h (fun _ z=>by cases z) fun _ z=>by cases z⟩)
 ·exact .inr h
section
variable {K:KW}
mutual
theorem Is.mono{H H':Hp}(s:Same H H'):∀{d:PyData} {v:V},Is K H d v->Is K H' d v
 |.none,_,h=>h
 |.bool _,_,h=>h
 |.int _,_,h=>h
 |.str _,_,h=>h
 |.tuple _,_,⟨a,vs,e,h,l⟩=>⟨a,vs,e,Same.tup s h,IsL.mono s l⟩
 |.list _,_,⟨a,vs,e,h,l⟩=>⟨a,vs,e,s _ _ h,IsL.mono s l⟩
 |.dict _,_,⟨a,ts,e,⟨ep,h⟩,l⟩=>⟨a,ts,e,⟨ep,s _ _ h⟩,IsKV.mono s l⟩
theorem IsL.mono{H H':Hp}(s:Same H H'):∀{ds:List PyData} {vs:List V},IsL K H ds vs->IsL K H' ds vs
 |[],_,h=>h
 |_::_,_,⟨x,xs,e,h,l⟩=>⟨x,xs,e,Is.mono s h,IsL.mono s l⟩
theorem IsKV.mono{H H':Hp}(s:Same H H'):∀{kvs:List (PyData×PyData)} {ts:List (List Int×Addr×V)},IsKV K H kvs ts->IsKV K H' kvs ts
 |[],_,h=>h
 |(_,_)::_,_,⟨t,tr,e,ek,hk,h,l⟩=>⟨t,tr,e,ek,Same.tup s hk,Is.mono s h,IsKV.mono s l⟩
end
mutual
theorem Is.monoT{H H':Hp}(s:TSm H H'):∀{d:PyData} {v:V},EZ d=true->Is K H d v->Is K H' d v
 |.none,_,_,h=>h
 |.bool _,_,_,h=>h
 |.int _,_,_,h=>h
 |.str _,_,_,h=>h
 |.tuple _,_,f,⟨a,vs,e,h,l⟩=>⟨a,vs,e,s.tup h,IsL.monoT s f l⟩
 |.list _,_,f,_=>absurd f Bool.false_ne_true
 |.dict _,_,f,_=>absurd f Bool.false_ne_true
theorem IsL.monoT{H H':Hp}(s:TSm H H'):∀{ds:List PyData} {vs:List V},fixDs ds=true->IsL K H ds vs->IsL K H' ds vs
 |[],_,_,h=>h
 |d::ds,_,f,⟨x,xs,e,h,l⟩=>⟨x,xs,e,Is.monoT s (by rw[fixDs,Bool.and_eq_true]at f;exact f.1) h,IsL.monoT s (by rw[fixDs,Bool.and_eq_true]at f;exact f.2) l⟩
end
theorem IsL.length{H:Hp}:∀{ds:List PyData} {vs:List V},IsL K H ds vs->vs.length=ds.length
 |[],_,h=>by rw[show _=[] from h];rfl
 |_::_,_,⟨x,xs,e,_,l⟩=>by rw[e,List.length_cons,List.length_cons,IsL.length l]
theorem IsL.get{H:Hp}:∀{ds:List PyData} {vs:List V} {i:Nat} {d:PyData},IsL K H ds vs->ds[i]?=some d->∃v,vs[i]?=some v/\Is K H d v
 |[],_,_,_,_,e=>by simp at e
 |d::ds,_,0,_,⟨x,xs,e,h,l⟩,q=>by
  subst e
  simp at q
  subst q
  exact⟨x,rfl,h⟩
 |d::ds,_,i+1,_,⟨x,xs,e,h,l⟩,q=>by
  subst e
  obtain⟨v,a,b⟩:=IsL.get (i:=i) l (by simpa using q)
  exact⟨v,by simpa using a,b⟩
end
section
variable {X:Cx} {pins:List (Addr×Obj)} {σ:L2.St} {H:Hp} {s:Shared}
mutual
theorem NR(I:Inv X pins σ H s):∀{d:PyData} {v:V} {u:Value},Is (Nr X) H d v->RelV v u->∃as,Reads s.heap u d as
 |.none,_,_,h,r=>by subst h;cases r;exact⟨_,.none⟩
 |.bool _,_,_,h,r=>by subst h;cases r;exact⟨_,.bool _⟩
 |.int _,_,_,h,r=>by subst h;obtain⟨t,rfl⟩:=r;exact⟨_,.int _ _⟩
 |.str _,_,_,h,r=>by subst h;obtain⟨t,rfl⟩:=r;exact⟨_,.str _ _⟩
 |.tuple ds,_,_,⟨a,vs,e,h,l⟩,r=>by
  subst e;cases r
  obtain⟨its,rr,⟨o,e,c,n,q⟩,_⟩:=I.tuple h
  obtain⟨as,z⟩:=readsL I l rr
  exact⟨_,.tuple e c q z⟩
 |.list ds,_,_,⟨a,vs,e,h,l⟩,r=>by
  subst e;cases r
  obtain⟨_,its,n,rr,e⟩:=I.hok a _ h
  obtain⟨as,z⟩:=readsL I l rr
  exact⟨_,.list e rfl rfl z⟩
 |.dict kvs,_,_,⟨a,ts,e,⟨ep,h⟩,l⟩,r=>by
  subst e;cases r
  obtain⟨⟨_,_,_,xs,pr,o,es,ho,he,hd,hes⟩,_,_⟩:=(show ObjOk X.prog X.w H s.heap a (.ext (cI a ts ep)) from I.hok a _ h)
  obtain⟨as,bs,z1,z2⟩:=readsK I l pr
  refine⟨_,.dict ho he.1 hd (as:=as) (bs:=bs) ?_ ?_⟩
  ·rw[hes,List.map_map];exact z1
  ·rw[hes,List.map_map];exact z2
theorem readsL(I:Inv X pins σ H s):∀{ds:List PyData} {vs:List V} {us:List Value},IsL (Nr X) H ds vs->Vals vs us->∃as,ReadsAll s.heap us ds as
 |[],_,_,h,r=>by subst h;cases r;exact⟨_,.nil⟩
 |d::ds,_,_,⟨x,xs,e,h,l⟩,r=>by
  subst e
  cases r with
  |cons r1 r2 =>
   obtain⟨as,z⟩:=NR I h r1
   obtain⟨bs,y⟩:=readsL I l r2
   exact⟨_,.cons z y⟩
theorem readsK(I:Inv X pins σ H s):∀{kvs:List (PyData×PyData)} {ts:List (List Int×Addr×V)} {xs:List (List Int×Addr×Value)},IsKV (Nr X) H kvs ts->Paired (fun(t:List Int×Addr×V) (x:List Int×Addr×Value)=>t.1=x.1/\t.2.1=x.2.1/\RelV t.2.2 x.2.2) ts xs ->
  ∃as bs,ReadsAll s.heap (xs.map fun x=>Value.ref x.2.1) (kvs.map (·.1)) as/\ReadsAll s.heap (xs.map fun x=>x.2.2) (kvs.map (·.2)) bs
 |[],_,_,h,r=>by subst h;cases r;exact⟨_,_,.nil,.nil⟩
 |(k,d)::kvs,_,_,⟨t,tr,e,ek,hk,h,l⟩,r=>by
  subst e
  cases r with
  |cons r1 r2 =>
   obtain⟨q1,q2,q3⟩:=r1
   obtain⟨as,bs,z1,z2⟩:=readsK I l r2
   obtain⟨cs,z3⟩:=NR I h q3
   obtain⟨its,rr,⟨o,e,c,n,q⟩,_⟩:=I.tuple hk
   subst ek
   have hz:∃ds,ReadsAll s.heap its.toArray.toList (t.1.map PyData.int) ds:=by
    clear hk e q
    generalize t.1=ks at rr
    induction ks generalizing its with
    |nil=>cases rr;exact⟨_,.nil⟩
    |cons k ks ih =>
     cases rr with
     |cons a b =>
      obtain⟨ds,y⟩:=ih _ b
      obtain⟨tk,rfl⟩:=a
      exact⟨_,.cons (.int _ _) y⟩
   obtain⟨ds,y⟩:=hz
   rw[q2]at e
   exact⟨_,_,.cons (.tuple e c q y) z1,.cons z3 z2⟩
end
def iO(K:KW):R2:=fun x y H Q=>∃d e,Is K H d x/\Is K H e y/\okD d=true/\okD e=true/\Q (.bl (PyData.eqv d e)) H
def iH(K:KW):R2:=fun x y H Q=>∃d e,Is K H d x/\Is K H e y/\okD d=true/\okD e=true/\Q (.bl (!PyData.eqv d e)) H
theorem Bq(hu:X.A.units+64<cLine):OpR X (compareOp .Eq) (iO (Nr X)):=by
 intro pins s σ H x y v u Q I rx ry h
 obtain⟨d,e,hd,he,od,oe,q⟩:=h
 obtain⟨as,ra⟩:=NR I hd rx
 obtain⟨bs,rb⟩:=NR I he ry
 exact eq_dataH ra rb od oe hu ⟨.bl _,H,I,rfl,q⟩
theorem HU(hu:X.A.units+64<cLine):OpR X (compareOp .NotEq) (iH (Nr X)):=by
 intro pins s σ H x y v u Q I rx ry h
 obtain⟨d,e,hd,he,od,oe,q⟩:=h
 obtain⟨as,ra⟩:=NR I hd rx
 obtain⟨bs,rb⟩:=NR I he ry
 exact ne_dataH ra rb od oe hu ⟨.bl _,H,I,rfl,q⟩
def iN(K:KW)(neg:Bool):R2:=fun x y H Q=>∃d es,Is K H d x/\(Is K H (.list es) y\/Is K H (.tuple es) y)/\okD d=true/\okD (.list es)=true/\Q (.bl (if neg then !(es.any fun y=>PyData.eqv y d) else es.any fun y=>PyData.eqv y d)) H
theorem XN(hu:X.A.units+65<cLine):OpR X (compareOp .In) (iN (Nr X) false):=by
 intro pins s σ H x y v u Q I rx ry h
 obtain⟨d,es,hd,he,od,oe,q⟩:=h
 obtain⟨as,ra⟩:=NR I hd rx
 obtain⟨c1,c2⟩:=Vd oe
 have hm:X.A.units+1+min (PyData.depthAll es) d.depth<cLine:=by omega
 rcases he with he|he
 ·obtain⟨bs,rb⟩:=NR I he ry
  exact SeqAt.in_list_reads rb ra c1 (QP od) hm ⟨.bl _,H,I,rfl,q⟩
 ·obtain⟨bs,rb⟩:=NR I he ry
  exact SeqAt.in_tuple_reads rb ra c1 (QP od) hm ⟨.bl _,H,I,rfl,q⟩
end
end DL
end
section
namespace DL
open PySem L2
inductive L where
 |d (x:PyData)
 |m (xs:List PyData)
 |c (xs:List PyData)
 |k (kvs:List (List Int×PyData))
 |g (x:PyData)
abbrev DS:=List (Option L)
inductive Ow where
 |l (xs:List PyData)
 |t (kvs:List (List Int×PyData))
def Ow.L:Ow->L
 |.l xs=>.m xs
 |.t kvs=>.k kvs
def SR(kvs:List (List Int×PyData)):List (PyData×PyData):=kvs.map fun p=>(.tuple (p.1.map PyData.int),p.2)
def Ow.D:Ow->PyData
 |.l xs=>.list xs
 |.t kvs=>.dict (SR kvs)
def Ow.fl:Ow->Bool
 |.l _=>true
 |.t _=>false
theorem Ow.not_d{o:Ow}{x:PyData}:o.L≠.d x:=by cases o<;>exact fun z=>nomatch z
theorem Ow.not_g{o:Ow}{x:PyData}:o.L≠.g x:=by cases o<;>exact fun z=>nomatch z
theorem Ow.not_c{o:Ow}{x:List PyData}:o.L≠.c x:=by cases o<;>exact fun z=>nomatch z
theorem Ow.inj{o p:Ow}(h:o.L=p.L):o=p:=by
 cases o<;>cases p<;>cases h<;>rfl
def IsO(K:KW)(H:Hp):Ow->Addr->HO->Prop
 |.l xs,_,h=>∃vs,h = .lst vs/\IsL K H xs vs
 |.t kvs,a,h=>∃ts,(∃ep,h = .ext (cI a ts ep))/\IsKV K H (SR kvs) ts
theorem IsO.mono{K:KW}{H H':Hp}(s:Same H H'):∀{o:Ow} {a:Addr} {h:HO},IsO K H o a h->IsO K H' o a h
 |.l _,_,_,⟨vs,e,l⟩=>⟨vs,e,l.mono s⟩
 |.t _,_,_,⟨ts,e,l⟩=>⟨ts,e,l.mono s⟩
theorem IsO.is{K:KW}{H:Hp}:∀{o:Ow} {a:Addr} {h:HO},IsO K H o a h->H a=some h->Is K H o.D (.ref a)
 |.l _,a,_,⟨vs,e,l⟩,z=>⟨a,vs,rfl,e▸z,l⟩
 |.t _,a,_,⟨ts,⟨ep,e⟩,l⟩,z=>⟨a,ts,rfl,⟨ep,e▸z⟩,l⟩
open Classical in
noncomputable def hid(S:Addr->Prop)(H:Hp):Hp:=fun a=>if S a then none else H a
theorem hid_iff{S:Addr->Prop}{H:Hp}{b:Addr}{o:HO}:hid S H b=some o↔¬S b/\H b=some o:=by
 unfold hid
 by_cases h:S b
 ·rw[if_pos h];exact⟨fun z=>(nomatch z),fun z=>absurd h z.1⟩
 ·rw[if_neg h];exact⟨fun z=>⟨h,z⟩,fun z=>z.2⟩
def Keep(S:Addr->Prop)(H:Hp)(S':Addr->Prop)(H':Hp):Prop:=∀b o,¬S b->H b=some o->¬S' b/\H' b=some o
def Chg(M:Addr->Prop)(H H':Hp):Prop:=∀b o,¬M b->H b=some o->H' b=some o
theorem Keep.same{S S':Addr->Prop}{H H':Hp}(k:Keep S H S' H'):Same (hid S H) (hid S' H'):=fun b o e=>hid_iff.mpr (k b o (hid_iff.mp e).1 (hid_iff.mp e).2)
theorem Keep.refl{S:Addr->Prop}{H:Hp}:Keep S H S H:=fun _ _ h e=>⟨h,e⟩
theorem Keep.trans{S S1 S2:Addr->Prop}{H H1 H2:Hp}(a:Keep S H S1 H1)(b:Keep S1 H1 S2 H2):Keep S H S2 H2:=fun c o h e=>b c o (a c o h e).1 (a c o h e).2
theorem Chg.refl{M:Addr->Prop}{H:Hp}:Chg M H H:=fun _ _ _ e=>e
theorem Chg.trans{M:Addr->Prop}{H H1 H2:Hp}(a:Chg M H H1)(b:Chg M H1 H2):Chg M H H2:=fun c o h e=>b c o h (a c o h e)
theorem Chg.of{M:Addr->Prop}{H H':Hp}(s:Same H H'):Chg M H H':=fun b o _ e=>s b o e
theorem Chg.keep{S M:Addr->Prop}{H H':Hp}(c:Chg M H H')(sub:∀a,M a->S a):Keep S H S H':=fun b o h e=>⟨h,c b o (fun z=>h (sub b z)) e⟩
theorem Same.keep{S:Addr->Prop}{H H':Hp}(s:Same H H'):Keep S H S H':=fun b o h e=>⟨h,s b o e⟩
theorem same_hid{S:Addr->Prop}{H:Hp}:Same (hid S H) H:=fun b o e=>(hid_iff.mp e).2
theorem JB{S S':Addr->Prop}{H:Hp}(h:∀a,S' a->S a):Same (hid S H) (hid S' H):=Keep.same fun b o n e=>⟨fun z=>n (h b z),e⟩
theorem tsS{H H':Hp}(s:Same H H'):TSm H H':=fun b o e _ _=>s b o e
theorem TSm.refl{H:Hp}:TSm H H:=fun _ _ e _ _=>e
mutual
def Dp(K:KW)(S:Addr->Prop)(H:Hp):PyData->V->List Addr->Prop
 |.none,v,F=>v = .non/\F=[]
 |.bool b,v,F=>v = .bl b/\F=[]
 |.int i,v,F=>v = .int i/\F=[]
 |.str x,v,F=>v = .str x/\F=[]
 |.tuple ds,v,F=>∃a vs,v = .ref a/\SqT K (hid S H) a vs/\DpL K S H ds vs F
 |.list ds,v,F=>∃a vs G,v = .ref a/\F=a::G/\H a=some (.lst vs)/\DpL K S H ds vs G
 |.dict _,_,_=>False
def DpL(K:KW)(S:Addr->Prop)(H:Hp):List PyData->List V->List Addr->Prop
 |[],vs,F=>vs=[]/\F=[]
 |d::ds,vs,F=>∃x xs F1 F2,vs=x::xs/\F=F1++F2/\Dp K S H d x F1/\DpL K S H ds xs F2
end
section
variable {K:KW} {S S':Addr->Prop} {H H':Hp}
mutual
theorem Dp.mono(s:TSm (hid S H) (hid S' H')):∀{d:PyData} {v:V} {F:List Addr},(∀a∈F,H' a=H a)->Dp K S H d v F->Dp K S' H' d v F
 |.none,_,_,_,h=>h
 |.bool _,_,_,_,h=>h
 |.int _,_,_,_,h=>h
 |.str _,_,_,_,h=>h
 |.tuple _,_,_,f,⟨a,vs,e,h,l⟩=>⟨a,vs,e,s.tup h,DpL.mono s f l⟩
 |.list _,_,_,f,⟨a,vs,G,e,e2,h,l⟩=>⟨a,vs,G,e,e2,(f a (by rw[e2];exact List.mem_cons_self ..)).trans h,DpL.mono s (fun b hb=>f b (by rw[e2];exact List.mem_cons_of_mem _ hb)) l⟩
theorem DpL.mono(s:TSm (hid S H) (hid S' H')):∀{ds:List PyData} {vs:List V} {F:List Addr},(∀a∈F,H' a=H a)->DpL K S H ds vs F->DpL K S' H' ds vs F
 |[],_,_,_,h=>h
 |_::_,_,_,f,⟨x,xs,F1,F2,e,e2,h,l⟩=>⟨x,xs,F1,F2,e,e2,Dp.mono s (fun b hb=>f b (by rw[e2];exact List.mem_append_left _ hb)) h,DpL.mono s (fun b hb=>f b (by rw[e2];exact List.mem_append_right _ hb)) l⟩
end
end
def IsX(K:KW)(H:Hp):List (PyData×PyData)->List (Str×V)->Prop
 |[],ts=>ts=[]
 |(k,d)::r,ts=>∃t tr,ts=t::tr/\k = .str t.1/\EZ d=true/\Is K H d t.2/\IsX K H r tr
theorem IsX.mono{K:KW}{H H':Hp}(s:TSm H H'):∀{kvs:List (PyData×PyData)} {ts:List (Str×V)},IsX K H kvs ts->IsX K H' kvs ts
 |[],_,h=>h
 |(_,_)::_,_,⟨t,tr,e,ek,f,h,l⟩=>⟨t,tr,e,ek,f,Is.monoT s f h,IsX.mono s l⟩
def DpT(K:KW)(S:Addr->Prop)(H:Hp)(d:PyData)(v:V)(F:List Addr):Prop:=match d with
 |.dict kvs=>∃a ts,v = .ref a/\F=[a]/\H a=some (.dK (txK ts))/\IsX K (hid S H) kvs ts
 |d=>Dp K S H d v F
theorem DpT.mono{K:KW}{S S':Addr->Prop}{H H':Hp}{d:PyData}{v:V}{F:List Addr}(s:TSm (hid S H) (hid S' H'))(f:∀a∈F,H' a=H a)(h:DpT K S H d v F):DpT K S' H' d v F:=by
 cases d with
 |dict kvs =>
  obtain⟨a,ts,e,e2,h,l⟩:=(show ∃a ts,v = .ref a/\F=[a]/\H a=some (.dK (txK ts))/\IsX K (hid S H) kvs ts from h)
  exact⟨a,ts,e,e2,(f a (by rw[e2];exact List.mem_singleton_self a)).trans h,l.mono s⟩
 |_=>exact Dp.mono s f h
def GR(K:KW)(S M:Addr->Prop)(τ:DS)(σ:St)(H:Hp):Prop:=∃φ:Nat->List Addr,∀(i:Nat) (d:PyData),τ[i]?=some (some (.g d)) ->
 (∃v,σ[i]?=some (some v)/\DpT K S H d v (φ i))/\(φ i).Nodup/\(∀a∈φ i,M a)/\(∀(j:Nat) (o:Ow) (a:Addr),τ[j]?=some (some o.L)->σ[j]?=some (some (.ref a))->a∉φ i) /\
  ∀(j:Nat) (d':PyData),j≠i->τ[j]?=some (some (.g d'))->∀a∈φ i,a∉φ j
theorem GR.nil{K:KW}{S M:Addr->Prop}{τ:DS}{σ:St}{H:Hp}(h:∀(i:Nat) (d:PyData),τ[i]?≠some (some (.g d))):GR K S M τ σ H:=⟨fun _=>[],fun i d e=>absurd e (h i d)⟩
theorem GR.to{K:KW}{S M S' M':Addr->Prop}{τ τ':DS}{σ σ':St}{H H':Hp}(g:GR K S M τ σ H)(ht:∀(i:Nat) (d:PyData),τ'[i]?=some (some (.g d))->τ[i]?=some (some (.g d))/\σ'[i]?=σ[i]?)
  (ho:∀(j:Nat) (o:Ow) (a:Addr),τ'[j]?=some (some o.L)->σ'[j]?=some (some (.ref a))->(∃o':Ow,τ[j]?=some (some o'.L)/\σ[j]?=some (some (.ref a)))\/¬M a)
  (hm:∀a,M a->(∀(j:Nat) (o:Ow),τ[j]?=some (some o.L)->σ[j]?≠some (some (.ref a)))->M' a/\H' a=H a) (ts:TSm (hid S H) (hid S' H')):GR K S' M' τ' σ' H':=by
 obtain⟨φ,g⟩:=g
 refine⟨φ,fun i d e=>?_⟩
 obtain⟨e1,e2⟩:=ht i d e
 obtain⟨⟨v,g1,g2⟩,g3,g4,g5,g6⟩:=g i d e1
 have hm':∀a∈φ i,M' a/\H' a=H a:=fun a ha=>hm a (g4 a ha) fun j o q q2=>g5 j o a q q2 ha
 refine⟨⟨v,e2.trans g1,g2.mono ts fun a ha=>(hm' a ha).2⟩,g3,fun a ha=>(hm' a ha).1,fun j o a q1 q2 ha=>?_,fun j d' hj q=>g6 j d' hj (ht j d' q).1⟩
 rcases ho j o a q1 q2 with ⟨o',z1,z2⟩|z
 ·exact g5 j o' a z1 z2 ha
 ·exact z (g4 a ha)
structure R(K:KW)(S M:Addr->Prop)(τ:DS)(σ:St)(H:Hp):Prop where
 len:σ.length=τ.length
 dat:∀(i:Nat) (x:PyData),τ[i]?=some (some (.d x))->∃v,σ[i]?=some (some v)/\Is K (hid S H) x v
 mt:∀(i:Nat) (o:Ow),τ[i]?=some (some o.L)->∃(a:Addr) (h:HO),σ[i]?=some (some (.ref a))/\M a/\H a=some h/\IsO K (hid S H) o a h
 cst:∀(i:Nat) (xs:List PyData),τ[i]?=some (some (.c xs))->∃(a:Addr) (vs:List V),σ[i]?=some (some (.ref a))/\SqL K (hid S H) a vs/\IsL K (hid S H) xs vs
 inj:∀(i j:Nat) (o p:Ow) (a:Addr),τ[i]?=some (some o.L)->τ[j]?=some (some p.L)->σ[i]?=some (some (.ref a))->σ[j]?=some (some (.ref a))->i=j
 sub:∀a,M a->S a
 ex:∀a,S a->∃o,H a=some o
 gr:GR K S M τ σ H
def Res(K:KW)(fr:Bool)(S:Addr->Prop)(H H':Hp)(d:PyData)(v:V):Prop:=match fr with
 |false=>Is K (hid S H') d v
 |true=>∃(o:Ow) (a:Addr) (h:HO),d=o.D/\v = .ref a/\H a=none/\H' a=some h/\IsO K (hid (fun b=>S b\/b=a) H') o a h
section
variable {K:KW} {S M:Addr->Prop} {τ:DS} {σ:St} {H H':Hp}
theorem R.fresh(r:R K S M τ σ H){a:Addr}(h:H a=none):¬S a:=fun z=>by
 obtain⟨o,e⟩:=r.ex a z
 rw[h]at e;cases e
theorem R.ml(r:R K S M τ σ H)(i:Nat)(xs:List PyData)(e:τ[i]?=some (some (.m xs))):∃(a:Addr) (vs:List V),σ[i]?=some (some (.ref a))/\M a/\H a=some (.lst vs)/\IsL K (hid S H) xs vs:=by
 obtain⟨a,h,h1,h2,h3,vs,rfl,l⟩:=r.mt i (.l xs) e
 exact⟨a,vs,h1,h2,h3,l⟩
theorem R.same(r:R K S M τ σ H)(s:Same H H'):R K S M τ σ H' where
 len:=r.len
 dat:=fun i x e=>let ⟨v,a,b⟩:=r.dat i x e;⟨v,a,b.mono (Same.keep s).same⟩
 mt:=fun i o e=>let ⟨a,h,h1,h2,h3,h4⟩:=r.mt i o e;⟨a,h,h1,h2,s _ _ h3,h4.mono (Same.keep s).same⟩
 cst:=fun i xs e=>let ⟨a,vs,h1,h2,h3⟩:=r.cst i xs e;⟨a,vs,h1,(Same.keep s).same.seq h2,h3.mono (Same.keep s).same⟩
 inj:=r.inj
 sub:=r.sub
 ex:=fun a h=>let ⟨o,e⟩:=r.ex a h;⟨o,s _ _ e⟩
 gr:=r.gr.to (fun i d e=>⟨e,rfl⟩) (fun j o a e q=>.inl ⟨o,e,q⟩) (fun a h _=>⟨h,by obtain⟨o,e⟩:=r.ex a (r.sub a h);rw[e];exact s _ _ e⟩) (tsS (Same.keep s).same)
theorem Res.is{fr:Bool}{d:PyData}{v:V}(h:Res K fr S H H' d v)(f:∀a,H a=none->¬S a):Is K (hid S H') d v:=by
 cases fr with
 |false=>exact h
 |true =>
  obtain⟨o,a,ho,rfl,rfl,h1,h2,h3⟩:=h
  exact IsO.is (h3.mono (JB fun b z=>.inl z)) (hid_iff.mpr ⟨f a h1,h2⟩)
theorem Res.imp{fr:Bool}{d:PyData}{v:V}(h:Res K fr S H H' d v)(f:∀a,H a=none->¬S a)(fr':Bool)(hf:fr'=true->fr=true):Res K fr' S H H' d v:=by
 cases fr' with
 |false=>exact h.is f
 |true=>rw[hf rfl]at h;exact h
end
abbrev DX:=DS->Option (PyData×DS)
abbrev DT:=DS->Option (Bool×DS)
inductive Ar where
 |d (x:PyData)
 |s (i:Nat)
abbrev DA:=DS->Option (List Ar×DS)
inductive Out where
 |nx (τ:DS)
 |bk (τ:DS)
 |ct (τ:DS)
 |rt (d:PyData) (τ:DS)
abbrev DB:=DS->Option Out
def Like(τ τ':DS):Prop:=τ'.length=τ.length/\∀j:Nat,((∀x,τ'[j]?=some (some (.d x))↔τ[j]?=some (some (.d x)))/\∀x,τ'[j]?=some (some (.c x))↔τ[j]?=some (some (.c x)))/\∀b:Bool,(∃o:Ow,o.fl=b/\τ'[j]?=some (some o.L))↔∃o:Ow,o.fl=b/\τ[j]?=some (some o.L)
theorem Like.refl{τ:DS}:Like τ τ:=⟨rfl,fun j=>⟨⟨fun x=>Iff.rfl,fun x=>Iff.rfl⟩,fun b=>Iff.rfl⟩⟩
theorem Like.trans{τ τ1 τ2:DS}(a:Like τ τ1)(b:Like τ1 τ2):Like τ τ2:=⟨b.1.trans a.1,fun j=>⟨⟨fun x=>((b.2 j).1.1 x).trans ((a.2 j).1.1 x),fun x=>((b.2 j).1.2 x).trans ((a.2 j).1.2 x)⟩,fun c=>((b.2 j).2 c).trans ((a.2 j).2 c)⟩⟩
theorem Like.own{τ τ':DS}(a:Like τ τ')(j:Nat):(∃o:Ow,τ'[j]?=some (some o.L))↔∃o:Ow,τ[j]?=some (some o.L) :=
 ⟨fun⟨o,h⟩=>let ⟨p,_,q⟩:=((a.2 j).2 o.fl).mp ⟨o,rfl,h⟩;⟨p,q⟩,fun⟨o,h⟩=>let ⟨p,_,q⟩:=((a.2 j).2 o.fl).mpr ⟨o,rfl,h⟩;⟨p,q⟩⟩
theorem Like.ml{τ τ':DS}(a:Like τ τ'){j:Nat}{xs:List PyData}(h:τ'[j]?=some (some (.m xs))):∃ys,τ[j]?=some (some (.m ys)):=by
 obtain⟨o,e,h⟩:=((a.2 j).2 true).mp ⟨.l xs,rfl,h⟩
 cases o with
 |l ys=>exact⟨ys,h⟩
 |t ys=>cases e
structure E K (t:TE) (fr:Bool) (f:DX):Prop where
 like:∀τ d τ',f τ=some (d,τ')->Like τ τ'
 run:∀S M τ σ H (Q:VK) d τ',R K S M τ σ H->f τ=some (d,τ')->(∀v H',R K S M τ' σ H'->Chg M H H'->Res K fr S H H' d v->Q v H')->t σ H Q
structure T K (t:TT) (f:DT):Prop where
 like:∀τ b τ',f τ=some (b,τ')->Like τ τ'
 run:∀S M τ σ H (Q:Bool->Hp->Prop) b τ',R K S M τ σ H->f τ=some (b,τ')->(∀H',R K S M τ' σ H'->Chg M H H'->Q b H')->t σ H Q
def dW(K:KW)(S:Addr->Prop)(σ:St)(H:Hp):List Ar->List V->Prop
 |[],vs=>vs=[]
 |.d x::rs,vs=>∃v us,vs=v::us/\Is K (hid S H) x v/\dW K S σ H rs us
 |.s i::rs,vs=>∃v us,vs=v::us/\σ[i]?=some (some v)/\dW K S σ H rs us
structure A K (t:TA) (f:DA):Prop where
 like:∀τ rs τ',f τ=some (rs,τ')->Like τ τ'
 run:∀S M τ σ H (Q:List V->Hp->Prop) rs τ',R K S M τ σ H->f τ=some (rs,τ')->(∀vs H',R K S M τ' σ H'->Chg M H H'->dW K S σ H' rs vs->Q vs H')->t σ H Q
structure Frm where
 S:Addr->Prop
 M:Addr->Prop
 H:Hp
 ar:List (Option V)
structure RF(K:KW)(F:Frm)(S M:Addr->Prop)(τ:DS)(σ:St)(H:Hp):Prop where
 r:R K S M τ σ H
 sS:∀a,F.S a->S a
 old:∀b o,F.H b=some o->¬F.M b->H b=some o
 new:∀a,M a->F.M a\/F.H a=none
 fm:∀a,F.M a->M a
 fs:∀a,F.S a->∃o,F.H a=some o
 fsub:∀a,F.M a->F.S a
 snew:∀a,S a->F.S a\/F.H a=none
 par:∀(i:Nat) (v:V),F.ar[i]?=some (some v)->σ[i]?=some (some v)
 pm:∀(i:Nat) (v:V),F.ar[i]?=some (some v)->∃o:Ow,τ[i]?=some (some o.L)
 fma:∀a,F.M a->∃i:Nat,F.ar[i]?=some (some (.ref a))
def Gl(K:KW)(F:Frm)(fr:Bool)(S:Addr->Prop)(H:Hp)(D:W5):Out->Prop
 |.nx τ'=>∀S' M' σ' H',RF K F S' M' τ' σ' H'->Keep S H S' H'->D.nx σ' H'
 |.bk τ'=>∀S' M' σ' H',RF K F S' M' τ' σ' H'->Keep S H S' H'->D.bk σ' H'
 |.ct τ'=>∀S' M' σ' H',RF K F S' M' τ' σ' H'->Keep S H S' H'->D.ct σ' H'
 |.rt d τ'=>∀S' M' σ' H' v,RF K F S' M' τ' σ' H'->Res K fr F.S F.H H' d v->D.rt v H'
def B(K:KW)(np:Nat)(t:TS)(fr:Bool)(f:DB):Prop:=∀(F:Frm) S M τ σ H (D:W5) out,F.ar.length<=np->RF K F S M τ σ H->f τ=some out->Gl K F fr S H D out->t D σ H
end DL
end
section
namespace DL
open PySem L2
variable {K:KW}
section
variable {S M:Addr->Prop} {τ τ':DS} {σ:St} {H H' H2:Hp}
theorem R.none(r:R K S M τ σ H')(c:Chg M H H'){a:Addr}(h:H' a=Option.none):H a=Option.none:=by
 cases e:H a with
 |none=>rfl
 |some o =>
  exfalso
  by_cases hm:M a
  ·obtain⟨o',e'⟩:=r.ex a (r.sub a hm)
   rw[h]at e';cases e'
  ·have:=c a o hm e
   rw[h]at this;cases this
theorem Res.back{fr:Bool}{d:PyData}{v:V}(h:Res K fr S H' H2 d v)(r:R K S M τ σ H')(c:Chg M H H'):Res K fr S H H2 d v:=by
 cases fr with
 |false=>exact h
 |true =>
  obtain⟨xs,a,vs,e1,e2,h1,h2,h3⟩:=h
  exact⟨xs,a,vs,e1,e2,r.none c h1,h2,h3⟩
theorem R.isr(r:R K S M τ σ H){fr:Bool}{d:PyData}{v:V}(h:Res K fr S H H' d v):Is K (hid S H') d v:=h.is fun _ z=>r.fresh z
end
theorem E.weak{t:TE}{fr:Bool}{f:DX}(h:E K t fr f):E K t false f:=⟨h.like,fun S M τ σ H Q d τ' r e q=>h.run S M τ σ H Q d τ' r e fun v H' r' c res=>q v H' r' c (r.isr res)⟩
def AF(i:Nat)(τ:DS):Option (PyData×DS):=match τ[i]? with
 |some (some (.d x))=>some (x,τ)
 |_=>none
theorem AL{i:Nat}:E K (Pb i) false (AF i):=by
 refine⟨fun τ d τ' e=>?_,?_⟩
 ·unfold AF at e;split at e
  ·cases e;exact .refl
  ·cases e
 intro S M τ σ H Q d τ' r e q
 unfold AF at e
 split at e
 ·rename_i x hx
  cases e
  obtain⟨v,h1,h2⟩:=r.dat i _ hx
  exact⟨v,h1,q v H r .refl h2⟩
 ·cases e
def dC(d:PyData)(τ:DS):Option (PyData×DS):=some (d,τ)
theorem e_c{d:PyData}{v:V}(h:∀H,Is K H d v):E K (tC v) false (dC d):=by
 refine⟨fun τ d τ' e=>?_,?_⟩
 ·cases e;exact .refl
 intro S M τ σ H Q d' τ' r e q
 cases e
 exact q v H r .refl (h _)
theorem AM{i:Int}:E K (tC (.int i)) false (dC (.int i)):=e_c fun _=>rfl
theorem IE{b:Bool}:E K (tC (.bl b)) false (dC (.bool b)):=e_c fun _=>rfl
theorem Be{x:Str}:E K (tC (.str x)) false (dC (.str x)):=e_c fun _=>rfl
def OR(K:KW)(fr:Bool)(r:R2)(F:PyData->PyData->Option PyData):Prop:=∀(S:Addr->Prop) H x y dx dy d (Q:VK),(∀a,H a=none->¬S a)->Is K (hid S H) dx x->Is K (hid S H) dy y->F dx dy=some d->(∀v H',Same H H'->Res K fr S H H' d v->Q v H')->r x y H Q
def dOp(F:PyData->PyData->Option PyData)(a b:DX)(τ:DS):Option (PyData×DS):=(a τ).bind fun p=>(b p.2).bind fun q=>(F p.1 q.1).map fun d=>(d,q.2)
theorem AY{fr fa fb:Bool}{r:R2}{F:PyData->PyData->Option PyData}{ta tb:TE}{a b:DX}(h:OR K fr r F)(ha:E K ta fa a)(hb:E K tb fb b):E K (tOp r ta tb) fr (dOp F a b):=by
 refine⟨fun τ d τ' e=>?_,?_⟩
 ·unfold dOp at e;obtain⟨⟨x,τ1⟩,e1,e⟩:=oB e;obtain⟨⟨y,τ2⟩,e2,e⟩:=oB e;obtain⟨z,e3,e⟩:=oM e;cases e;exact(ha.like _ _ _ e1).trans (hb.like _ _ _ e2)
 intro S M τ σ H Q d τ' rr e q
 unfold dOp at e
 obtain⟨⟨x,τ1⟩,e1,e⟩:=oB e
 obtain⟨⟨y,τ2⟩,e2,e⟩:=oB e
 obtain⟨z,e3,e⟩:=oM e
 cases e
 refine ha.run S M τ σ H _ x τ1 rr e1 fun v1 H1 r1 c1 i1=>?_
 refine hb.run S M τ1 σ H1 _ y τ2 r1 e2 fun v2 H2 r2 c2 i2=>?_
 refine h S H2 v1 v2 x y d _ (fun _=>r2.fresh) ((rr.isr i1).mono (c2.keep r1.sub).same) (r1.isr i2) e3 fun v H' s res=>?_
 exact q v H' (r2.same s) ((c1.trans c2).trans (.of s)) (res.back r2 (c1.trans c2))
def UR(K:KW)(fr:Bool)(r:V->Hp->VK->Prop)(F:PyData->Option PyData):Prop:=∀(S:Addr->Prop) H x dx d (Q:VK),(∀a,H a=none->¬S a)->Is K (hid S H) dx x->F dx=some d->(∀v H',Same H H'->Res K fr S H H' d v->Q v H')->r x H Q
def dUn(F:PyData->Option PyData)(a:DX)(τ:DS):Option (PyData×DS):=(a τ).bind fun p=>(F p.1).map fun d=>(d,p.2)
theorem Jo{fr fa:Bool}{r:V->Hp->VK->Prop}{F:PyData->Option PyData}{ta:TE}{a:DX}(h:UR K fr r F)(ha:E K ta fa a):E K (tUn r ta) fr (dUn F a):=by
 refine⟨fun τ d τ' e=>?_,?_⟩
 ·unfold dUn at e;obtain⟨⟨x,τ1⟩,e1,e⟩:=oB e;obtain⟨z,e3,e⟩:=oM e;cases e;exact ha.like _ _ _ e1
 intro S M τ σ H Q d τ' rr e q
 unfold dUn at e
 obtain⟨⟨x,τ1⟩,e1,e⟩:=oB e
 obtain⟨z,e3,e⟩:=oM e
 cases e
 refine ha.run S M τ σ H _ x _ rr e1 fun v1 H1 r1 c1 i1=>?_
 refine h S H1 v1 x d _ (fun _=>r1.fresh) (rr.isr i1) e3 fun v H' s res=>?_
 exact q v H' (r1.same s) (c1.trans (.of s)) (res.back r1 c1)
def fI(g:Int->Int->PyData):PyData->PyData->Option PyData
 |.int i,.int j=>some (g i j)
 |_,_=>none
def fC(C:Int->Int->Prop)[∀i j,Decidable (C i j)](g:Int->Int->PyData):PyData->PyData->Option PyData
 |.int i,.int j=>if C i j then some (g i j) else none
 |_,_=>none
theorem dA{g:Int->Int->PyData}{x y d:PyData}(h:fI g x y=some d):∃i j,x = .int i/\y = .int j/\d=g i j:=by
 unfold fI at h
 split at h
 ·exact⟨_,_,rfl,rfl,(Option.some.inj h).symm⟩
 ·cases h
theorem dB{C:Int->Int->Prop}[∀i j,Decidable (C i j)]{g:Int->Int->PyData}{x y d:PyData}(h:fC C g x y=some d):∃i j,x = .int i/\y = .int j/\C i j/\d=g i j:=by
 unfold fC at h
 split at h
 ·split at h
  ·rename_i hc;exact⟨_,_,rfl,rfl,hc,(Option.some.inj h).symm⟩
  ·cases h
 ·cases h
theorem ZD{g:Int->Int->V}{g':Int->Int->PyData}(h:∀i j H,Is K H (g' i j) (g i j)):OR K false (rI0 g) (fI g'):=by
 intro S H x y dx dy d Q _ ix iy e q
 obtain⟨i,j,rfl,rfl,rfl⟩:=dA e
 exact⟨i,j,ix,iy,q _ H (fun _ _ e=>e) (h _ _ _)⟩
theorem cM{C:Int->Int->Prop}[∀i j,Decidable (C i j)]{g:Int->Int->V}{g':Int->Int->PyData}(h:∀i j H,Is K H (g' i j) (g i j)):OR K false (rI C g) (fC C g'):=by
 intro S H x y dx dy d Q _ ix iy e q
 obtain⟨i,j,rfl,rfl,c,rfl⟩:=dB e
 exact⟨i,j,ix,iy,c,q _ H (fun _ _ e=>e) (h _ _ _)⟩
instance {i j:Int}:Decidable (CMulB i j):=by unfold CMulB CMul Bd;infer_instance
instance {i j:Int}:Decidable (W6 i j):=by unfold W6 Bd;infer_instance
instance {i j:Int}:Decidable (bx i j):=by unfold bx;infer_instance
def CG:=fI fun i j=>.int (i+j)
def EE:=fI fun i j=>.int (i-j)
def Q5:=fC CMulB fun i j=>.int (i*j)
def B7:=fC W6 fun i j=>.int (i / j)
def Bm:=fC (fun _ j=>0<j) fun i j=>.int (i % j)
def bV:=fC bx fun i j=>.int (i ^ j.toNat)
def fLt:=fI fun i j=>.bool (decide (i<j))
def fLe:=fI fun i j=>.bool (decide (i<=j))
def fGt:=fI fun i j=>.bool (decide (j<i))
def fGe:=fI fun i j=>.bool (decide (j<=i))
theorem Ht:OR K false (rI0 fun i j=>.int (i+j)) CG:=ZD fun _ _ _=>rfl
theorem Sz:OR K false (rI0 fun i j=>.int (i-j)) EE:=ZD fun _ _ _=>rfl
theorem ak:OR K false (rI CMulB fun i j=>.int (i*j)) Q5:=cM fun _ _ _=>rfl
theorem CQ:OR K false (rI W6 fun i j=>.int (i / j)) B7:=cM fun _ _ _=>rfl
theorem CC:OR K false (rI (fun _ j=>0<j) fun i j=>.int (i % j)) Bm:=cM fun _ _ _=>rfl
theorem eM:OR K false (rI bx fun i j=>.int (i ^ j.toNat)) bV:=cM fun _ _ _=>rfl
theorem ao:OR K false (rI0 fun i j=>.bl (decide (i<j))) fLt:=ZD fun _ _ _=>rfl
theorem OU:OR K false (rI0 fun i j=>.bl (decide (i<=j))) fLe:=ZD fun _ _ _=>rfl
theorem av:OR K false (rI0 fun i j=>.bl (decide (j<i))) fGt:=ZD fun _ _ _=>rfl
theorem iU:OR K false (rI0 fun i j=>.bl (decide (j<=i))) fGe:=ZD fun _ _ _=>rfl
def E2:PyData->Option PyData
 |.int i=>some (.int (-i))
 |_=>none
theorem GX:UR K false (rU fun i=>.int (-i)) E2:=by
 intro S H x dx d Q _ ix e q
 unfold E2 at e
 split at e
 ·cases e;exact⟨_,ix,q _ H (fun _ _ e=>e) rfl⟩
 ·cases e
def fEq(x y:PyData):Option PyData:=if okD x&&okD y then some (.bool (PyData.eqv x y)) else none
def fNe(x y:PyData):Option PyData:=if okD x&&okD y then some (.bool (!PyData.eqv x y)) else none
theorem Ds:OR K false (iO K) fEq:=by
 intro S H x y dx dy d Q _ ix iy e q
 unfold fEq at e
 split at e
 ·rename_i h
  rw[Bool.and_eq_true]at h
  cases e
  exact⟨dx,dy,ix.mono same_hid,iy.mono same_hid,h.1,h.2,q _ H (fun _ _ e=>e) rfl⟩
 ·cases e
theorem OT:OR K false (iH K) fNe:=by
 intro S H x y dx dy d Q _ ix iy e q
 unfold fNe at e
 split at e
 ·rename_i h
  rw[Bool.and_eq_true]at h
  cases e
  exact⟨dx,dy,ix.mono same_hid,iy.mono same_hid,h.1,h.2,q _ H (fun _ _ e=>e) rfl⟩
 ·cases e
def fIn(neg:Bool)(x:PyData):PyData->Option PyData
 |.list es=>if okD x&&okD (.list es) then some (.bool (if neg then !(es.any fun y=>PyData.eqv y x) else es.any fun y=>PyData.eqv y x)) else none
 |.tuple es=>if okD x&&okD (.list es) then some (.bool (if neg then !(es.any fun y=>PyData.eqv y x) else es.any fun y=>PyData.eqv y x)) else none
 |_=>none
theorem fi{neg:Bool}:OR K false (iN K neg) (fIn neg):=by
 intro S H x y dx dy d Q _ ix iy e q
 unfold fIn at e
 split at e
 ·split at e
  ·rename_i h
   rw[Bool.and_eq_true]at h
   cases e
   exact⟨dx,_,ix.mono same_hid,.inl (iy.mono same_hid),h.1,h.2,q _ H (fun _ _ e=>e) rfl⟩
  ·cases e
 ·split at e
  ·rename_i h
   rw[Bool.and_eq_true]at h
   cases e
   exact⟨dx,_,ix.mono same_hid,.inr (iy.mono same_hid),h.1,h.2,q _ H (fun _ _ e=>e) rfl⟩
  ·cases e
 ·cases e
def Od:PyData->Bool
 |.none=>true
 |_=>false
def Q6(x y:PyData):Option PyData:=match y with
 |.none=>some (.bool (Od x))
 |_=>none
def Ln(x y:PyData):Option PyData:=match y with
 |.none=>some (.bool (!Od x))
 |_=>none
def LI:PyData->PyData->Option PyData
 |.list xs,.int i=>atI xs i
 |_,_=>none
def Am:PyData->PyData->Option PyData
 |.tuple xs,.int i=>atI xs i
 |_,_=>none
theorem Xk{H:Hp}{ds:List PyData}{vs:List V}{i:Int}{d:PyData}(h:IsL K H ds vs)(e:atI ds i=some d):∃v,atI vs i=some v/\Is K H d v:=by
 unfold atI at e ⊢
 rw[h.length]
 cases q:ixN ds.length i with
 |none=>rw[q]at e;cases e
 |some j =>
  rw[q]at e
  exact h.get (show ds[j]?=some d from e)
theorem au:OR K false (fU K) LI:=by
 intro S H x y dx dy d Q _ ix iy e q
 unfold LI at e
 split at e
 ·obtain⟨a,vs,rfl,h,l⟩:=ix
  obtain⟨v,h1,h2⟩:=Xk l e
  exact⟨a,vs,_,v,rfl,iy,SqL.of (hid_iff.mp h).2,h1,q _ H (fun _ _ e=>e) h2⟩
 ·cases e
theorem Bc:OR K false (iI K) Am:=by
 intro S H x y dx dy d Q _ ix iy e q
 unfold Am at e
 split at e
 ·obtain⟨a,vs,rfl,h,l⟩:=ix
  obtain⟨v,h1,h2⟩:=Xk l e
  exact⟨a,vs,_,v,rfl,iy,Same.tup same_hid h,h1,q _ H (fun _ _ e=>e) h2⟩
 ·cases e
def Zg:PyData->PyData->Option PyData
 |.list xs,.list ys=>if xs.length+ys.length<=sizeLine then some (.list (xs++ys)) else none
 |_,_=>none
theorem Hb{H:Hp}:∀{xs ys:List PyData} {vs us:List V},IsL K H xs vs->IsL K H ys us->IsL K H (xs++ys) (vs++us)
 |[],_,_,_,h,k=>by rw[show _=[] from h];exact k
 |_::_,_,_,_,⟨x,xs,e,h,l⟩,k=>by subst e;exact⟨x,_,rfl,h,Hb l k⟩
theorem P0{S:Addr->Prop}{H:Hp}{xs:List PyData}{vs:List V}{p:Addr}(hp:H p=none)(l:IsL K (hid S H) xs vs):Res K true S H (upd H p (.lst vs)) (.list xs) (.ref p):=by
 refine⟨.l xs,p,_,rfl,rfl,hp,CI,vs,rfl,l.mono (Keep.same fun b o hn e=>?_)⟩
 have:b≠p:=CS e hp
 exact⟨fun z=>z.elim hn this,by rw[Cz this];exact e⟩
theorem YQ:OR K true iP Zg:=by
 intro S H x y dx dy d Q _ ix iy e q
 unfold Zg at e
 split at e
 ·split at e
  ·rename_i hz
   cases e
   obtain⟨a,vs,rfl,h,l⟩:=ix
   obtain⟨b,us,rfl,h',l'⟩:=iy
   refine⟨a,b,vs,us,rfl,rfl,(hid_iff.mp h).2,(hid_iff.mp h').2,by rw[l.length,l'.length];exact hz,fun p hp=>?_⟩
   exact q _ _ (En hp _) (P0 hp (Hb l l'))
  ·cases e
 ·cases e
def AQ(a:DX)(τ:DS):Option (Bool×DS):=(a τ).bind fun p=>match p.1 with
 |.bool b=>some (b,p.2)
 |_=>none
theorem A7{fr:Bool}{t:TE}{a:DX}(h:E K t fr a):T K (Z8 t) (AQ a):=by
 refine⟨fun τ d τ' e=>?_,?_⟩
 ·unfold AQ at e;obtain⟨⟨x,τ1⟩,e1,e⟩:=oB e;dsimp only at e;split at e
  ·cases e;exact h.like _ _ _ e1
  ·cases e
 intro S M τ σ H Q b τ' r e q
 unfold AQ at e
 obtain⟨⟨x,τ1⟩,e1,e⟩:=oB e
 dsimp only at e
 split at e
 ·cases e
  refine h.run S M τ σ H _ _ _ r e1 fun v H' r' c i=>?_
  exact⟨b,(show v = .bl b from r.isr i),q H' r' c⟩
 ·cases e
theorem DF{fr:Bool}{t:TE}{a:DX}(h:E K t fr a):T K (tB t) (AQ a):=A7 h
def C7(a b:DT)(τ:DS):Option (Bool×DS):=(a τ).bind fun p=>if p.1=true then b p.2 else some (false,p.2)
def CH(a b:DT)(τ:DS):Option (Bool×DS):=(a τ).bind fun p=>if p.1=true then some (true,p.2) else b p.2
def BP(a:DT)(τ:DS):Option (Bool×DS):=(a τ).map fun p=>(!p.1,p.2)
theorem QM{ta tb:TT}{a b:DT}(ha:T K ta a)(hb:T K tb b):T K (iC ta tb) (C7 a b):=by
 refine⟨fun τ d τ' e=>?_,?_⟩
 ·unfold C7 at e;obtain⟨⟨c,τ1⟩,e1,e⟩:=oB e;cases c with
  |true=>exact(ha.like _ _ _ e1).trans (hb.like _ _ _ e)
  |false=>cases e;exact ha.like _ _ _ e1
 intro S M τ σ H Q k τ' r e q
 unfold C7 at e
 obtain⟨⟨c,τ1⟩,e1,e⟩:=oB e
 refine ha.run S M τ σ H _ c τ1 r e1 fun H1 r1 c1=>?_
 cases c with
 |true=>exact hb.run S M τ1 σ H1 _ k τ' r1 e fun H2 r2 c2=>q H2 r2 (c1.trans c2)
 |false=>cases e;exact q H1 r1 c1
theorem Gz{ta tb:TT}{a b:DT}(ha:T K ta a)(hb:T K tb b):T K (tOr ta tb) (CH a b):=by
 refine⟨fun τ d τ' e=>?_,?_⟩
 ·unfold CH at e;obtain⟨⟨c,τ1⟩,e1,e⟩:=oB e;cases c with
  |false=>exact(ha.like _ _ _ e1).trans (hb.like _ _ _ e)
  |true=>cases e;exact ha.like _ _ _ e1
 intro S M τ σ H Q k τ' r e q
 unfold CH at e
 obtain⟨⟨c,τ1⟩,e1,e⟩:=oB e
 refine ha.run S M τ σ H _ c τ1 r e1 fun H1 r1 c1=>?_
 cases c with
 |false=>exact hb.run S M τ1 σ H1 _ k τ' r1 e fun H2 r2 c2=>q H2 r2 (c1.trans c2)
 |true=>cases e;exact q H1 r1 c1
theorem Cw{ta:TT}{a:DT}(ha:T K ta a):T K (hZ ta) (BP a):=by
 refine⟨fun τ d τ' e=>?_,?_⟩
 ·unfold BP at e;obtain⟨⟨c,τ1⟩,e1,e⟩:=oM e;cases e;exact ha.like _ _ _ e1
 intro S M τ σ H Q k τ' r e q
 unfold BP at e
 obtain⟨⟨c,τ1⟩,e1,e⟩:=oM e
 cases e
 exact ha.run S M τ σ H _ c _ r e1 fun H1 r1 c1=>q H1 r1 c1
def dIf(c:DT)(a b:DX)(τ:DS):Option (PyData×DS):=(c τ).bind fun p=>if p.1=true then a p.2 else b p.2
def Co(a b:DX)(τ:DS):Option (PyData×DS):=(AQ a τ).bind fun p=>if p.1=true then b p.2 else some (.bool false,p.2)
def dOr(a b:DX)(τ:DS):Option (PyData×DS):=(AQ a τ).bind fun p=>if p.1=true then some (.bool true,p.2) else b p.2
def MD(a:DX)(τ:DS):Option (PyData×DS):=(AQ a τ).map fun p=>(.bool (!p.1),p.2)
theorem DQ{fa fb:Bool}{ta tb:TE}{a b:DX}(ha:E K ta fa a)(hb:E K tb fb b):E K (dm ta tb) false (Co a b):=by
 refine⟨fun τ d τ' e=>?_,?_⟩
 ·unfold Co at e;obtain⟨⟨c,τ1⟩,e1,e⟩:=oB e;cases c with
  |true=>exact((A7 ha).like _ _ _ e1).trans (hb.like _ _ _ e)
  |false=>cases e;exact(A7 ha).like _ _ _ e1
 intro S M τ σ H Q d τ' r e q
 unfold Co at e
 obtain⟨⟨k,τ1⟩,e1,e⟩:=oB e
 refine(A7 ha).run S M τ σ H (fun c H1=>if c=true then tb σ H1 Q else Q (.bl false) H1) k τ1 r e1 fun H1 r1 c1=>?_
 cases k with
 |true=>exact hb.weak.run S M τ1 σ H1 _ d τ' r1 e fun v H2 r2 c2 i=>q v H2 r2 (c1.trans c2) i
 |false=>cases e;exact q _ H1 r1 c1 rfl
theorem e7{fa:Bool}{ta:TE}{a:DX}(ha:E K ta fa a):E K (dg ta) false (MD a):=by
 refine⟨fun τ d τ' e=>?_,?_⟩
 ·unfold MD at e;obtain⟨⟨c,τ1⟩,e1,e⟩:=oM e;cases e;exact(A7 ha).like _ _ _ e1
 intro S M τ σ H Q d τ' r e q
 unfold MD at e
 obtain⟨⟨k,τ1⟩,e1,e⟩:=oM e
 cases e
 exact(A7 ha).run S M τ σ H (fun c H1=>Q (.bl (!c)) H1) k _ r e1 fun H1 r1 c1=>q _ H1 r1 c1 rfl
def Cf(F G:PyData->PyData->Option PyData)(a b c:DX)(τ:DS):Option (PyData×DS):=(a τ).bind fun p=>(b p.2).bind fun q=>(F p.1 q.1).bind fun z=>match z with
 |.bool true=>(c q.2).bind fun s=>(G q.1 s.1).map fun d=>(d,s.2)
 |.bool false=>some (.bool false,q.2)
 |_=>none
theorem Kv{fa fb fc:Bool}{r r':R2}{F G:PyData->PyData->Option PyData}{ta tb tc:TE}{a b c:DX}(h:OR K false r F)(h':OR K false r' G)(ha:E K ta fa a)(hb:E K tb fb b)(hc:E K tc fc c):E K (XD r r' ta tb tc) false (Cf F G a b c):=by
 refine⟨fun τ d τ' e=>?_,?_⟩
 ·unfold Cf at e;obtain⟨⟨x,τ1⟩,e1,e⟩:=oB e;obtain⟨⟨y,τ2⟩,e2,e⟩:=oB e;obtain⟨z,e3,e⟩:=oB e;split at e
  ·obtain⟨⟨w,τ4⟩,e4,e⟩:=oB e;obtain⟨z,e5,e⟩:=oM e;cases e;exact((ha.like _ _ _ e1).trans (hb.like _ _ _ e2)).trans (hc.like _ _ _ e4)
  ·cases e;exact(ha.like _ _ _ e1).trans (hb.like _ _ _ e2)
  ·cases e
 intro S M τ σ H Q d τ' rr e q
 unfold Cf at e
 obtain⟨⟨x,τ1⟩,e1,e⟩:=oB e
 obtain⟨⟨y,τ2⟩,e2,e⟩:=oB e
 obtain⟨z,e3,e⟩:=oB e
 refine ha.run S M τ σ H _ x τ1 rr e1 fun v1 H1 r1 c1 i1=>?_
 refine hb.run S M τ1 σ H1 _ y τ2 r1 e2 fun v2 H2 r2 c2 i2=>?_
 have j2:=r1.isr i2
 refine h S H2 v1 v2 x y z _ (fun _=>r2.fresh) ((rr.isr i1).mono (c2.keep r1.sub).same) j2 e3 fun v H3 s res=>?_
 have r3:=r2.same s
 have c3:Chg M H H3:=(c1.trans c2).trans (.of s)
 split at e
 ·obtain⟨⟨w,τ4⟩,e4,e⟩:=oB e
  obtain⟨z,e5,e⟩:=oM e
  cases e
  refine⟨true,res,?_⟩
  refine hc.run S M τ2 σ H3 _ w _ r3 e4 fun v4 H4 r4 c4 i4=>?_
  refine h' S H4 v2 v4 y w d _ (fun _=>r4.fresh) ((j2.mono (Same.keep s).same).mono (c4.keep r3.sub).same) (r3.isr i4) e5 fun v5 H5 s5 res5=>?_
  exact q v5 H5 (r4.same s5) ((c3.trans c4).trans (.of s5)) res5
 ·cases e
  exact⟨false,res,q _ H3 r3 c3 rfl⟩
 ·cases e
end DL
end
section
namespace DL
open PySem L2
variable {K:KW}
def AI(τ:DS):Option (List Ar×DS):=some ([],τ)
def AA(a:DX)(r:DA)(τ:DS):Option (List Ar×DS):=(a τ).bind fun p=>(r p.2).map fun q=>(.d p.1::q.1,q.2)
theorem AS:A K XC AI:=by
 refine⟨fun τ d τ' e=>?_,?_⟩
 ·cases e;exact .refl
 intro S M τ σ H Q rs τ' r e q
 cases e
 exact q [] H r .refl rfl
theorem AE{fr:Bool}{te:TE}{t:TA}{a:DX}{f:DA}(ha:E K te fr a)(hr:A K t f):A K (Sr te t) (AA a f):=by
 refine⟨fun τ d τ' e=>?_,?_⟩
 ·unfold AA at e
  obtain⟨⟨x,τ1⟩,e1,e⟩:=oB e
  obtain⟨⟨y,τ2⟩,e2,e⟩:=oM e
  cases e
  exact(ha.like _ _ _ e1).trans (hr.like _ _ _ e2)
 intro S M τ σ H Q rs τ' r e q
 unfold AA at e
 obtain⟨⟨x,τ1⟩,e1,e⟩:=oB e
 obtain⟨⟨y,τ2⟩,e2,e⟩:=oM e
 cases e
 refine ha.run S M τ σ H _ x τ1 r e1 fun v H1 r1 c1 i1=>?_
 refine hr.run S M τ1 σ H1 _ y _ r1 e2 fun vs H2 r2 c2 i2=>?_
 exact q (v::vs) H2 r2 (c1.trans c2) ⟨v,vs,rfl,(r.isr i1).mono (c2.keep r1.sub).same,i2⟩
def Cy:List Ar->Option (List PyData)
 |[]=>some []
 |.d x::r=>(Cy r).map (x::·)
 |.s _::_=>none
theorem Ho{S:Addr->Prop}{σ:St}{H:Hp}:∀{rs:List Ar} {vs:List V} {ds:List PyData},dW K S σ H rs vs->Cy rs=some ds->IsL K (hid S H) ds vs
 |[],_,_,h,e=>by cases e;exact h
 |.d x::r,_,_,⟨v,us,e1,h,l⟩,e=>by
  obtain⟨ds,e2,e⟩:=oM e
  cases e
  exact⟨v,us,e1,h,Ho l e2⟩
 |.s _::_,_,_,_,e=>by cases e
def Bn(a:DA)(τ:DS):Option (PyData×DS):=(a τ).bind fun p=>(Cy p.1).bind fun ds=>if ds.length<=sizeLine then some (.tuple ds,p.2) else none
def Gi(a:DA)(τ:DS):Option (PyData×DS):=(a τ).bind fun p=>(Cy p.1).bind fun ds=>if ds.length<=sizeLine then some (.list ds,p.2) else none
theorem Bs{t:TA}{a:DA}(ha:A K t a):E K (hV t) false (Bn a):=by
 refine⟨fun τ d τ' e=>?_,?_⟩
 ·unfold Bn at e
  obtain⟨⟨x,τ1⟩,e1,e⟩:=oB e
  obtain⟨ds,e2,e⟩:=oB e
  split at e
  ·cases e;exact ha.like _ _ _ e1
  ·cases e
 intro S M τ σ H Q d τ' r e q
 unfold Bn at e
 obtain⟨⟨x,τ1⟩,e1,e⟩:=oB e
 obtain⟨ds,e2,e⟩:=oB e
 split at e
 ·rename_i hz
  cases e
  refine ha.run S M τ σ H _ x _ r e1 fun vs H1 r1 c1 i1=>?_
  have l:=Ho i1 e2
  refine⟨by rw[l.length];exact hz,fun p hp=>?_⟩
  have s:=En hp (HO.tup vs)
  exact q _ _ (r1.same s) (c1.trans (.of s)) ⟨p,vs,rfl,SqT.of (hid_iff.mpr ⟨r1.fresh hp,CI⟩),l.mono (Same.keep s).same⟩
 ·cases e
theorem Mh{t:TA}{a:DA}(ha:A K t a):E K (fO t) true (Gi a):=by
 refine⟨fun τ d τ' e=>?_,?_⟩
 ·unfold Gi at e
  obtain⟨⟨x,τ1⟩,e1,e⟩:=oB e
  obtain⟨ds,e2,e⟩:=oB e
  split at e
  ·cases e;exact ha.like _ _ _ e1
  ·cases e
 intro S M τ σ H Q d τ' r e q
 unfold Gi at e
 obtain⟨⟨x,τ1⟩,e1,e⟩:=oB e
 obtain⟨ds,e2,e⟩:=oB e
 split at e
 ·rename_i hz
  cases e
  refine ha.run S M τ σ H _ x _ r e1 fun vs H1 r1 c1 i1=>?_
  have l:=Ho i1 e2
  refine⟨by rw[l.length];exact hz,fun p hp=>?_⟩
  have s:=En hp (HO.lst vs)
  exact q _ _ (r1.same s) (c1.trans (.of s)) ((P0 hp l).back r1 c1)
 ·cases e
def BR(K:KW)(fr:Bool)(r:List V->Hp->VK->Prop)(F:List PyData->Option PyData):Prop:=∀(S:Addr->Prop) H vs ds d (Q:VK),(∀a,H a=none->¬S a)->IsL K (hid S H) ds vs->F ds=some d->(∀v H',Same H H'->Res K fr S H H' d v->Q v H')->r vs H Q
def A1(F:List PyData->Option PyData)(a:DA)(τ:DS):Option (PyData×DS):=(a τ).bind fun p=>(Cy p.1).bind fun ds=>(F ds).map fun d=>(d,p.2)
theorem CD{fr:Bool}{r:List V->Hp->VK->Prop}{F:List PyData->Option PyData}{t:TA}{a:DA}(h:BR K fr r F)(ha:A K t a):E K (tCB r t) fr (A1 F a):=by
 refine⟨fun τ d τ' e=>?_,?_⟩
 ·unfold A1 at e
  obtain⟨⟨x,τ1⟩,e1,e⟩:=oB e
  obtain⟨ds,e2,e⟩:=oB e
  obtain⟨z,e3,e⟩:=oM e
  cases e;exact ha.like _ _ _ e1
 intro S M τ σ H Q d τ' rr e q
 unfold A1 at e
 obtain⟨⟨x,τ1⟩,e1,e⟩:=oB e
 obtain⟨ds,e2,e⟩:=oB e
 obtain⟨z,e3,e⟩:=oM e
 cases e
 refine ha.run S M τ σ H _ x _ rr e1 fun vs H1 r1 c1 i1=>?_
 refine h S H1 vs ds d _ (fun _=>r1.fresh) (Ho i1 e2) e3 fun v H' s res=>?_
 exact q v H' (r1.same s) (c1.trans (.of s)) (res.back r1 c1)
def spD(K:KW)(G:List L->Option (PyData×List L))(fr:Bool):Sp:=fun vs H Q _=>∃(S M:Addr->Prop) (ls:List L) (r:PyData) (ls':List L),R K S M (ls.map some) (vs.map some) H/\G ls=some (r,ls') /\
 ∀v H',R K S M (ls'.map some) (vs.map some) H'->Chg M H H'->Res K fr S H H' r v->Q v H'
theorem aI{S M:Addr->Prop}{τ:DS}{σ:St}{H:Hp}(r:R K S M τ σ H){ds:List PyData}{vs:List V}(l:IsL K (hid S H) ds vs):R K S (fun _=>False) ((ds.map L.d).map some) (vs.map some) H where
 len:=by rw[List.length_map,List.length_map,List.length_map,l.length]
 dat:=fun i x e=>by
  rw[List.getElem?_map,List.getElem?_map]at e
  cases q:ds[i]? with
  |none=>rw[q]at e;cases e
  |some d =>
   rw[q]at e
   cases e
   obtain⟨v,h1,h2⟩:=l.get q
   exact⟨v,by rw[List.getElem?_map,h1];rfl,h2⟩
 mt:=fun i o e=>by
  rw[List.getElem?_map,List.getElem?_map]at e
  cases q:ds[i]? with
  |none=>rw[q]at e;cases e
  |some d=>rw[q]at e;cases o<;>cases e
 cst:=fun i xs e=>by
  rw[List.getElem?_map,List.getElem?_map]at e
  cases q:ds[i]? with
  |none=>rw[q]at e;cases e
  |some d=>rw[q]at e;cases e
 inj:=fun i j o p a e=>by
  rw[List.getElem?_map,List.getElem?_map]at e
  cases q:ds[i]? with
  |none=>rw[q]at e;cases e
  |some d=>rw[q]at e;cases o<;>cases e
 sub:=fun a h=>h.elim
 ex:=r.ex
 gr:=GR.nil fun i d e=>by
  rw[List.getElem?_map,List.getElem?_map]at e
  cases q:ds[i]? with
  |none=>rw[q]at e;cases e
  |some d=>rw[q]at e;cases e
def AU(G:List L->Option (PyData×List L))(a:DA)(τ:DS):Option (PyData×DS):=(a τ).bind fun p=>(Cy p.1).bind fun ds=>(G (ds.map L.d)).map fun q=>(q.1,p.2)
theorem Ad{fr:Bool}{G:List L->Option (PyData×List L)}{t:TA}{a:DA}{X:XK}(ha:A K t a):E K (QN (spD K G fr) [] X t) fr (AU G a):=by
 refine⟨fun τ d τ' e=>?_,?_⟩
 ·unfold AU at e
  obtain⟨⟨x,τ1⟩,e1,e⟩:=oB e
  obtain⟨ds,e2,e⟩:=oB e
  obtain⟨z,e3,e⟩:=oM e
  cases e;exact ha.like _ _ _ e1
 intro S M τ σ H Q d τ' rr e q
 unfold AU at e
 obtain⟨⟨x,τ1⟩,e1,e⟩:=oB e
 obtain⟨ds,e2,e⟩:=oB e
 obtain⟨⟨z,ls'⟩,e3,e⟩:=oM e
 cases e
 refine ha.run S M τ σ H _ x _ rr e1 fun vs H1 r1 c1 i1=>?_
 have l:=Ho i1 e2
 show spD K G fr (vs++[]) H1 Q X
 rw[List.append_nil]
 refine⟨S,fun _=>False,ds.map L.d,_,ls',aI r1 l,e3,fun v H' _ c res=>?_⟩
 have s:Same H1 H':=fun b o e=>c b o (fun z=>z) e
 exact q v H' (r1.same s) (c1.trans (.of s)) (res.back r1 c1)
theorem P6{a b:Ow}(h:some (some a.L)=some (some b.L)):a=b:=Ow.inj (Option.some.inj (Option.some.inj h))
theorem R.setO{S M:Addr->Prop}{τ:DS}{σ:St}{H H':Hp}(r:R K S M τ σ H){i:Nat}{a:Addr}{w w':Ow}{h:HO}(hi:τ[i]?=some (some w.L))(ha:σ[i]?=some (some (.ref a)))
  (c:Chg (fun b=>b=a) H H') (h':H' a=some h) (l:IsO K (hid S H') w' a h):R K S M (τ.set i (some w'.L)) σ H':=by
 have hlt:i<τ.length:=(List.getElem?_eq_some_iff.mp hi).1
 have Sa:S a:=by
  obtain⟨b,us,h1,h2,_⟩:=r.mt i w hi
  rw[ha]at h1;cases h1
  exact r.sub _ h2
 have k:Keep S H S H':=c.keep fun b e=>by subst e;exact Sa
 have ne:∀j,j≠i->(τ.set i (some w'.L))[j]?=τ[j]?:=fun j hj=>List.getElem?_set_ne (Ne.symm hj)
 have se:(τ.set i (some w'.L))[i]?=some (some w'.L):=List.getElem?_set_self hlt
 refine⟨by rw[List.length_set];exact r.len,fun j x e=>?_,fun j ys e=>?_,fun j x e=>?_,fun j1 j2 ys zs b e1 e2 f1 f2=>?_,r.sub,fun b hb=>?_,r.gr.to (fun j d e=>?_) (fun j o b e q=>?_) (fun b hb hn=>⟨hb,?_⟩) (tsS k.same)⟩
 ·by_cases hj:j=i
  ·subst hj;rw[se]at e;exact absurd (Option.some.inj (Option.some.inj e)) Ow.not_d
  ·rw[ne j hj]at e
   obtain⟨v,h1,h2⟩:=r.dat j x e
   exact⟨v,h1,h2.mono k.same⟩
 ·by_cases hj:j=i
  ·subst hj
   rw[se]at e
   obtain rfl:=Ow.inj (Option.some.inj (Option.some.inj e))
   obtain⟨b,us,h1,h2,_⟩:=r.mt j w hi
   rw[ha]at h1;cases h1
   exact⟨a,h,ha,h2,h',l⟩
  ·rw[ne j hj]at e
   obtain⟨b,us,h1,h2,h3,h4⟩:=r.mt j ys e
   refine⟨b,us,h1,h2,c b _ (fun z=>?_) h3,h4.mono k.same⟩
   subst z
   exact hj (r.inj j i ys w b e hi h1 ha)
 ·by_cases hj:j=i
  ·subst hj;rw[se]at e;exact absurd (Option.some.inj (Option.some.inj e)) Ow.not_c
  ·rw[ne j hj]at e
   obtain⟨b,us,h1,h2,h3⟩:=r.cst j x e
   exact⟨b,us,h1,k.same.seq h2,h3.mono k.same⟩
 ·have g:∀(j:Nat) (ys:Ow),(τ.set i (some w'.L))[j]?=some (some ys.L)->∃zs:Ow,τ[j]?=some (some zs.L):=fun j ys e=>by
   by_cases hj:j=i
   ·subst hj;exact⟨_,hi⟩
   ·rw[ne j hj]at e;exact⟨_,e⟩
  obtain⟨_,g1⟩:=g j1 ys e1
  obtain⟨_,g2⟩:=g j2 zs e2
  exact r.inj _ _ _ _ b g1 g2 f1 f2
 ·by_cases e:b=a
  ·subst e;exact⟨_,h'⟩
  ·obtain⟨o,q⟩:=r.ex b hb
   exact⟨o,c b o e q⟩
 ·by_cases hj:j=i
  ·subst hj;rw[se]at e;exact absurd (Option.some.inj (Option.some.inj e)) Ow.not_g
  ·rw[ne j hj]at e;exact⟨e,rfl⟩
 ·by_cases hj:j=i
  ·subst hj;exact .inl ⟨w,hi,q⟩
  ·rw[ne j hj]at e;exact .inl ⟨o,e,q⟩
 ·obtain⟨o,e⟩:=r.ex b (r.sub b hb)
  rw[e];exact c b o (fun z=>hn i w hi (by rw[z];exact ha)) e
theorem R.setM{S M:Addr->Prop}{τ:DS}{σ:St}{H H':Hp}(r:R K S M τ σ H){i:Nat}{a:Addr}{xs xs':List PyData}{vs:List V}(hi:τ[i]?=some (some (.m xs)))(ha:σ[i]?=some (some (.ref a)))
  (c:Chg (fun b=>b=a) H H') (h':H' a=some (.lst vs)) (l:IsL K (hid S H') xs' vs):R K S M (τ.set i (some (.m xs'))) σ H':=r.setO (w:=.l xs) (w':=.l xs') hi ha c h' ⟨vs,rfl,l⟩
theorem ZU{τ:DS}{i:Nat}{w w':Ow}(hi:τ[i]?=some (some w.L))(hf:w.fl=w'.fl):Like τ (τ.set i (some w'.L)):=by
 have hlt:i<τ.length:=(List.getElem?_eq_some_iff.mp hi).1
 refine⟨by rw[List.length_set],fun j=>?_⟩
 by_cases hj:j=i
 ·subst hj
  rw[List.getElem?_set_self hlt,hi]
  exact⟨⟨fun x=>⟨fun z=>absurd (Option.some.inj (Option.some.inj z)) Ow.not_d,fun z=>absurd (Option.some.inj (Option.some.inj z)) Ow.not_d⟩,fun x=>⟨fun z=>absurd (Option.some.inj (Option.some.inj z)) Ow.not_c,fun z=>absurd (Option.some.inj (Option.some.inj z)) Ow.not_c⟩⟩,fun b=>⟨fun⟨o,h1,h2⟩=>⟨w,by rw[hf,P6 h2];exact h1,rfl⟩,fun⟨o,h1,h2⟩=>⟨w',by rw[<- hf,P6 h2];exact h1,rfl⟩⟩⟩
 ·rw[List.getElem?_set_ne (Ne.symm hj)]
  exact⟨⟨fun x=>Iff.rfl,fun x=>Iff.rfl⟩,fun b=>Iff.rfl⟩
theorem TF{τ:DS}{i:Nat}{xs xs':List PyData}(hi:τ[i]?=some (some (.m xs))):Like τ (τ.set i (some (.m xs'))):=ZU (w:=.l xs) (w':=.l xs') hi rfl
def JO(i:Nat)(G:List L->Option (PyData×List L))(a:DA)(τ:DS):Option (PyData×DS):=(a τ).bind fun p=>(Cy p.1).bind fun ds=>match p.2[i]? with
 |some (some (.m xs))=>(G (.m xs::ds.map L.d)).bind fun q=>match q.2 with
  |.m xs'::_=>some (q.1,p.2.set i (some (.m xs')))
  |_=>none
 |some (some (.k xs))=>(G (.k xs::ds.map L.d)).bind fun q=>match q.2 with
  |.k xs'::_=>some (q.1,p.2.set i (some (.k xs')))
  |_=>none
 |_=>none
def okM:Option L->Bool
 |some (.m xs)=>fixDs xs
 |some (.k kvs)=>fixDs (kvs.map (·.2))
 |_=>true
theorem IsKV.monoT{H H':Hp}(s:TSm H H'):∀{kvs:List (List Int×PyData)} {ts:List (List Int×Addr×V)},fixDs (kvs.map (·.2))=true->IsKV K H (SR kvs) ts->IsKV K H' (SR kvs) ts
 |[],_,_,h=>h
 |(k,d)::kvs,_,f,⟨t,tr,e,ek,hk,h,l⟩=>by
  rw[List.map_cons,fixDs,Bool.and_eq_true]at f
  exact⟨t,tr,e,ek,s.tup hk,Is.monoT s f.1 h,IsKV.monoT s (kvs:=kvs) f.2 l⟩
theorem IsO.monoT{H H':Hp}(s:TSm H H'):∀{o:Ow} {a:Addr} {h:HO},okM (some o.L)=true->IsO K H o a h->IsO K H' o a h
 |.l _,_,_,f,⟨vs,e,l⟩=>⟨vs,e,l.monoT s f⟩
 |.t _,_,_,f,⟨ts,e,l⟩=>⟨ts,e,IsKV.monoT s f l⟩
def OwH(h:HO):Prop:=(∃vs,h = .lst vs)\/∃φ,h = .ext φ
theorem IsO.ho{H:Hp}:∀{o:Ow} {a:Addr} {h:HO},IsO K H o a h->OwH h
 |.l _,_,_,⟨vs,e,_⟩=>.inl ⟨vs,e⟩
 |.t _,_,_,⟨ts,⟨ep,e⟩,_⟩=>.inr ⟨_,e⟩
def Fs(i:Nat)(f:DX)(τ:DS):Option (PyData×DS):=match τ[i]? with
 |some (some (.m xs))=>(f (τ.set i (some (.d (.list xs))))).bind fun q=>if EZ q.1&&q.2.all okM then some (q.1,q.2.set i (some (.m xs))) else none
 |some (some (.k xs))=>(f (τ.set i (some (.d (.dict (SR xs)))))).bind fun q=>if EZ q.1&&q.2.all okM then some (q.1,q.2.set i (some (.k xs))) else none
 |_=>none
theorem TV{i:Nat}{f:DX}{τ:DS}{d:PyData}{τ':DS}(e:Fs i f τ=some (d,τ')):∃w τ1,τ[i]?=some (some (Ow.L w))/\f (τ.set i (some (.d w.D)))=some (d,τ1)/\EZ d=true/\τ1.all okM=true/\τ'=τ1.set i (some w.L):=by
 unfold Fs at e
 split at e
 ·rename_i xs hx
  obtain⟨⟨z,τ1⟩,e1,e⟩:=oB e
  dsimp only at e
  split at e
  ·rename_i h
   rw[Bool.and_eq_true]at h
   cases e
   exact⟨.l xs,τ1,hx,e1,h.1,h.2,rfl⟩
  ·cases e
 ·rename_i xs hx
  obtain⟨⟨z,τ1⟩,e1,e⟩:=oB e
  dsimp only at e
  split at e
  ·rename_i h
   rw[Bool.and_eq_true]at h
   cases e
   exact⟨.t xs,τ1,hx,e1,h.1,h.2,rfl⟩
  ·cases e
 ·cases e
theorem OP{S S':Addr->Prop}{H:Hp}(h:∀a,S' a->S a\/∃o,H a=some o/\OwH o):TSm (hid S H) (hid S' H):=fun b o e nl ne=>by
 obtain⟨e1,e2⟩:=hid_iff.mp e
 refine hid_iff.mpr ⟨fun z=>?_,e2⟩
 rcases h b z with z|⟨o',z,⟨vs,rfl⟩|⟨φ,rfl⟩⟩
 ·exact e1 z
 ·rw[e2]at z;cases z;exact nl _ rfl
 ·rw[e2]at z;cases z;exact ne _ rfl
theorem frz{S M:Addr->Prop}{τ:DS}{σ:St}{H:Hp}(r:R K S M τ σ H){i:Nat}{w:Ow}{p:Addr}(hi:τ[i]?=some (some w.L))(hp:σ[i]?=some (some (.ref p))) :
  R K (fun b=>S b/\b≠p) (fun b=>M b/\b≠p) (τ.set i (some (.d w.D))) σ H:=by
 have hlt:i<τ.length:=(List.getElem?_eq_some_iff.mp hi).1
 have ne:∀j,j≠i->(τ.set i (some (.d w.D)))[j]?=τ[j]?:=fun j hj=>List.getElem?_set_ne (Ne.symm hj)
 have se:(τ.set i (some (.d w.D)))[i]?=some (some (.d w.D)):=List.getElem?_set_self hlt
 have k:Same (hid S H) (hid (fun b=>S b/\b≠p) H):=JB fun a z=>z.1
 have mn:∀(j:Nat) (ys:Ow),(τ.set i (some (.d w.D)))[j]?=some (some ys.L)->j≠i/\τ[j]?=some (some ys.L):=fun j ys e=>by
  by_cases hj:j=i
  ·subst hj;rw[se]at e;exact absurd (Option.some.inj (Option.some.inj e)).symm Ow.not_d
  ·rw[ne j hj]at e;exact⟨hj,e⟩
 have cs:∀(j:Nat) (ys:List PyData),(τ.set i (some (.d w.D)))[j]?=some (some (.c ys))->τ[j]?=some (some (.c ys)):=fun j ys e=>by
  by_cases hj:j=i
  ·subst hj;rw[se]at e;cases e
  ·rw[ne j hj]at e;exact e
 refine⟨by rw[List.length_set];exact r.len,fun j x e=>?_,fun j ys e=>?_,fun j ys e=>let ⟨a,vs,h1,h2,h3⟩:=r.cst j ys (cs j ys e);⟨a,vs,h1,k.seq h2,h3.mono k⟩,fun j1 j2 ys zs b e1 e2 f1 f2=>?_,fun a h=>⟨r.sub a h.1,h.2⟩,fun a h=>r.ex a h.1,r.gr.to (fun j d e=>?_) (fun j o b e q=>.inl ⟨o,(mn j o e).2,q⟩) (fun b hb hn=>⟨⟨hb,fun z=>hn i w hi (by rw[z];exact hp)⟩,rfl⟩) (tsS k)⟩
 ·by_cases hj:j=i
  ·subst hj
   rw[se]at e
   cases e
   obtain⟨b,us,h1,h2,h3,h4⟩:=r.mt j w hi
   rw[hp]at h1;cases h1
   exact⟨_,hp,IsO.is (h4.mono k) (hid_iff.mpr ⟨fun z=>z.2 rfl,h3⟩)⟩
  ·rw[ne j hj]at e
   obtain⟨v,h1,h2⟩:=r.dat j x e
   exact⟨v,h1,h2.mono k⟩
 ·obtain⟨hj,e⟩:=mn j ys e
  obtain⟨b,us,h1,h2,h3,h4⟩:=r.mt j ys e
  refine⟨b,us,h1,⟨h2,fun z=>?_⟩,h3,h4.mono k⟩
  subst z
  exact hj (r.inj j i ys w b e hi h1 hp)
 ·exact r.inj j1 j2 ys zs b (mn _ _ e1).2 (mn _ _ e2).2 f1 f2
 ·by_cases hj:j=i
  ·subst hj;rw[se]at e;cases e
  ·rw[ne j hj]at e;exact⟨e,rfl⟩
theorem dZ{S M:Addr->Prop}{τ τ1:DS}{σ:St}{H H':Hp}(r:R K S M τ σ H){i:Nat}{w:Ow}{p:Addr}(hi:τ[i]?=some (some w.L))(hp:σ[i]?=some (some (.ref p)))
  (r1:R K (fun b=>S b/\b≠p) (fun b=>M b/\b≠p) τ1 σ H') (lk:Like (τ.set i (some (.d w.D))) τ1) (c:Chg (fun b=>M b/\b≠p) H H') (ok:τ1.all okM=true):R K S M (τ1.set i (some w.L)) σ H':=by
 have hlt:i<τ.length:=(List.getElem?_eq_some_iff.mp hi).1
 have hl1:τ1.length=τ.length:=by have:=lk.1;rw[List.length_set]at this;exact this
 have hlt1:i<τ1.length:=by omega
 have ne:∀j,j≠i->(τ1.set i (some w.L))[j]?=τ1[j]?:=fun j hj=>List.getElem?_set_ne (Ne.symm hj)
 have se:(τ1.set i (some w.L))[i]?=some (some w.L):=List.getElem?_set_self hlt1
 have ne0:∀j,j≠i->(τ.set i (some (.d w.D)))[j]?=τ[j]?:=fun j hj=>List.getElem?_set_ne (Ne.symm hj)
 obtain⟨b0,us,hb0,h2,h3,h4⟩:=r.mt i w hi
 rw[hp]at hb0;cases hb0
 have h3':H' p=some us:=c p _ (fun z=>z.2 rfl) h3
 have c':Chg M H H':=fun b o hn e=>c b o (fun z=>hn z.1) e
 have k:Keep S H S H':=c'.keep r.sub
 have ts:TSm (hid (fun b=>S b/\b≠p) H') (hid S H'):=OP fun a z=>by
  by_cases e:a=p
  ·subst e;exact .inr ⟨_,h3',h4.ho⟩
  ·exact .inl ⟨z,e⟩
 have mm:∀(j:Nat) (ys:Ow),j≠i->τ1[j]?=some (some ys.L)->∃zs:Ow,τ[j]?=some (some zs.L):=fun j ys hj e=>by
  obtain⟨zs,q⟩:=(lk.own j).mp ⟨_,e⟩
  rw[ne0 j hj]at q
  exact⟨zs,q⟩
 have cs:∀(j:Nat) (ys:List PyData),(τ1.set i (some w.L))[j]?=some (some (.c ys))->τ[j]?=some (some (.c ys)):=fun j ys e=>by
  by_cases hj:j=i
  ·subst hj;rw[se]at e;exact absurd (Option.some.inj (Option.some.inj e)) Ow.not_c
  ·rw[ne j hj]at e
   have:=((lk.2 j).1.2 ys).mp e
   rw[ne0 j hj]at this
   exact this
 refine⟨by rw[List.length_set];exact r1.len,fun j x e=>?_,fun j ys e=>?_,fun j ys e=>let ⟨a,vs,h1,h2,h3⟩:=r.cst j ys (cs j ys e);⟨a,vs,h1,k.same.seq h2,h3.mono k.same⟩,fun j1 j2 ys zs b e1 e2 f1 f2=>?_,r.sub,fun a h=>?_,r1.gr.to (fun j d e=>?_) (fun j o b e q=>?_) (fun b hb hn=>⟨hb.1,rfl⟩) ts⟩
 ·by_cases hj:j=i
  ·subst hj;rw[se]at e;exact absurd (Option.some.inj (Option.some.inj e)) Ow.not_d
  ·rw[ne j hj]at e
   have:=((lk.2 j).1.1 x).mp e
   rw[ne0 j hj]at this
   obtain⟨v,h5,h6⟩:=r.dat j x this
   exact⟨v,h5,h6.mono k.same⟩
 ·by_cases hj:j=i
  ·subst hj
   rw[se]at e
   obtain rfl:=P6 e
   exact⟨p,us,hp,h2,h3',h4.mono k.same⟩
  ·rw[ne j hj]at e
   obtain⟨b,ws,h5,h6,h7,h8⟩:=r1.mt j ys e
   have fx:okM (some ys.L)=true:=List.all_eq_true.mp ok (some ys.L) (List.mem_of_getElem? e)
   exact⟨b,ws,h5,h6.1,h7,h8.monoT ts fx⟩
 ·have g:∀(j:Nat) (ys:Ow),(τ1.set i (some w.L))[j]?=some (some ys.L)->∃zs:Ow,τ[j]?=some (some zs.L):=fun j ys e=>by
   by_cases hj:j=i
   ·subst hj;exact⟨_,hi⟩
   ·rw[ne j hj]at e;exact mm j ys hj e
  obtain⟨_,g1⟩:=g j1 ys e1
  obtain⟨_,g2⟩:=g j2 zs e2
  exact r.inj _ _ _ _ b g1 g2 f1 f2
 ·by_cases e:a=p
  ·subst e;exact⟨_,h3'⟩
  ·exact r1.ex a ⟨h,e⟩
 ·by_cases hj:j=i
  ·subst hj;rw[se]at e;exact absurd (Option.some.inj (Option.some.inj e)) Ow.not_g
  ·rw[ne j hj]at e;exact⟨e,rfl⟩
 ·by_cases hj:j=i
  ·subst hj
   rw[hp]at q;cases q
   exact .inr fun z=>z.2 rfl
  ·rw[ne j hj]at e;exact .inl ⟨o,e,q⟩
theorem WQ{τ τ1:DS}{i:Nat}{w:Ow}(hi:τ[i]?=some (some w.L))(lk:Like (τ.set i (some (.d w.D))) τ1):Like τ (τ1.set i (some w.L)):=by
 have hlt:i<τ.length:=(List.getElem?_eq_some_iff.mp hi).1
 have hl1:τ1.length=τ.length:=by have:=lk.1;rw[List.length_set]at this;exact this
 refine⟨by rw[List.length_set];exact hl1,fun j=>?_⟩
 by_cases hj:j=i
 ·subst hj
  rw[List.getElem?_set_self (by omega),hi]
  exact⟨⟨fun x=>Iff.rfl,fun x=>Iff.rfl⟩,fun b=>Iff.rfl⟩
 ·have:=lk.2 j
  rw[List.getElem?_set_ne (Ne.symm hj)]at this ⊢
  exact this
theorem PV{i:Nat}{fr:Bool}{t:TE}{f:DX}(h:E K t fr f):E K t false (Fs i f):=by
 refine⟨fun τ d τ' e=>?_,?_⟩
 ·obtain⟨xs,τ1,e1,e2,_,_,rfl⟩:=TV e
  exact WQ e1 (h.like _ _ _ e2)
 intro S M τ σ H Q d τ' r e q
 obtain⟨xs,τ1,e1,e2,fx,ok,rfl⟩:=TV e
 obtain⟨p,us,hp,hM,hl,ll⟩:=r.mt i xs e1
 refine h.weak.run _ _ _ σ H _ d τ1 (frz r e1 hp) e2 fun v H' r' c res=>?_
 have r2:=dZ r e1 hp r' (h.like _ _ _ e2) c ok
 refine q v H' r2 (fun b o hn e=>c b o (fun z=>hn z.1) e) ?_
 have h3':H' p=some us:=c p _ (fun z=>z.2 rfl) hl
 exact Is.monoT (OP fun a z => by
  by_cases e:a=p
  ·subst e;exact .inr ⟨_,h3',ll.ho⟩
  ·exact .inl ⟨z,e⟩) fx (show Is K (hid (fun b=>S b/\b≠p) H') d v from res)
def Lw(i:Nat)(f:DX)(τ:DS):Option (PyData×DS):=match τ[i]? with
 |some (some (.m xs))=>(f (τ.set i (some (.d (.list xs))))).bind fun q=>match q.1 with
  |.list ys=>if fixDs ys&&q.2.all okM then some (q.1,q.2.set i (some (.m xs))) else none
  |_=>none
 |some (some (.k xs))=>(f (τ.set i (some (.d (.dict (SR xs)))))).bind fun q=>match q.1 with
  |.list ys=>if fixDs ys&&q.2.all okM then some (q.1,q.2.set i (some (.k xs))) else none
  |_=>none
 |_=>none
theorem Ow.D_list{o:Ow}{ys:List PyData}(h:PyData.list ys=o.D):o = .l ys:=by
 cases o with
 |l xs=>cases h;rfl
 |t kvs=>cases h
end DL
end
section
namespace DL
open PySem L2
variable {K:KW}
def g8(K:KW)(S:Addr->Prop)(J:It)(H:Hp)(ds:List PyData):Prop:=∀(S2:Addr->Prop) (H2:Hp),Keep S H S2 H2->(∀(i:Nat) (d:PyData),ds[i]?=some d->J.go i H2/\∀x H3,J.yld i H2 x H3->H3=H2/\Is K (hid S2 H2) d x)/\∀i,ds.length<=i->J.stop i H2
abbrev DI:=DS->Option (List PyData×DS)
structure IT(K:KW)(wi:TI)(f:DI):Prop where
 like:∀τ ds τ',f τ=some (ds,τ')->Like τ τ'
 run:∀S M τ σ H (Q:It->Hp->Prop) ds τ',R K S M τ σ H->f τ=some (ds,τ')->(∀J H',R K S M τ' σ H'->Chg M H H'->g8 K S J H' ds->Q J H')->wi σ H Q
def dIL(f:DX)(τ:DS):Option (List PyData×DS):=(f τ).bind fun p=>match p.1 with
 |.list ds=>some (ds,p.2)
 |_=>none
def dIT(f:DX)(τ:DS):Option (List PyData×DS):=(f τ).bind fun p=>match p.1 with
 |.tuple ds=>some (ds,p.2)
 |_=>none
theorem Ux{fr:Bool}{t:TE}{f:DX}(h:E K t fr f):IT K (eY K t) (dIL f):=by
 refine⟨fun τ d τ' e=>?_,?_⟩
 ·unfold dIL at e
  obtain⟨⟨x,τ1⟩,e1,e⟩:=oB e
  dsimp only at e
  split at e
  ·cases e;exact h.like _ _ _ e1
  ·cases e
 intro S M τ σ H Q ds τ' r e q
 unfold dIL at e
 obtain⟨⟨x,τ1⟩,e1,e⟩:=oB e
 dsimp only at e
 split at e
 ·cases e
  refine h.weak.run S M τ σ H _ _ _ r e1 fun v H1 r1 c1 i1=>?_
  have i1':Is K (hid S H1) (.list ds) v:=i1
  obtain⟨a,vs,rfl,hl,ll⟩:=i1'
  refine⟨a,rfl,⟨vs,SqL.of (hid_iff.mp hl).2⟩,q _ H1 r1 c1 fun S2 H2 k=>?_⟩
  have hl2:=k.same _ _ hl
  have ll2:=ll.mono k.same
  refine⟨fun i d e=>?_,fun i hi=>⟨vs,SqL.of (hid_iff.mp hl2).2,by rw[ll.length];exact hi⟩⟩
  obtain⟨u,h1,h2⟩:=ll2.get e
  refine⟨⟨vs,u,SqL.of (hid_iff.mp hl2).2,h1⟩,fun x H3 y=>⟨y.1,?_⟩⟩
  have:=y.2 vs (SqL.of (hid_iff.mp hl2).2)
  rw[h1]at this;cases this
  exact h2
 ·cases e
theorem Xh{fr:Bool}{t:TE}{f:DX}(h:E K t fr f):IT K (ik K t) (dIT f):=by
 refine⟨fun τ d τ' e=>?_,?_⟩
 ·unfold dIT at e
  obtain⟨⟨x,τ1⟩,e1,e⟩:=oB e
  dsimp only at e
  split at e
  ·cases e;exact h.like _ _ _ e1
  ·cases e
 intro S M τ σ H Q ds τ' r e q
 unfold dIT at e
 obtain⟨⟨x,τ1⟩,e1,e⟩:=oB e
 dsimp only at e
 split at e
 ·cases e
  refine h.weak.run S M τ σ H _ _ _ r e1 fun v H1 r1 c1 i1=>?_
  have i1':Is K (hid S H1) (.tuple ds) v:=i1
  obtain⟨a,vs,rfl,hl,ll⟩:=i1'
  refine⟨a,rfl,⟨vs,Same.tup same_hid hl⟩,q _ H1 r1 c1 fun S2 H2 k=>?_⟩
  have hl2:=Same.tup same_hid (Same.tup k.same hl)
  have ll2:=ll.mono k.same
  refine⟨fun i d e=>?_,fun i hi=>⟨vs,hl2,by rw[ll.length];exact hi⟩⟩
  obtain⟨u,h1,h2⟩:=ll2.get e
  refine⟨⟨vs,u,hl2,h1⟩,fun x H3 y=>⟨y.1,?_⟩⟩
  have:=y.2 vs hl2
  rw[h1]at this;cases this
  exact h2
 ·cases e
def LN(lo:Int)(n:Nat):List PyData:=(List.range n).map fun(k:Nat)=>PyData.int (lo+(k:Int))
theorem aH{S:Addr->Prop}{H:Hp}{lo:Int}{n:Nat}:g8 K S (Itr lo n) H (LN lo n):=by
 intro S2 H2 k
 refine⟨fun i d e=>?_,fun i hi=>?_⟩
 ·unfold LN at e
  rw[List.getElem?_map]at e
  by_cases hi:i<n
  ·rw[List.getElem?_range hi]at e
   cases e
   exact⟨hi,fun x H3 y=>⟨y.1,y.2⟩⟩
  ·rw[List.getElem?_eq_none (by simpa using hi)]at e
   cases e
 ·unfold LN at hi
  rw[List.length_map,List.length_range]at hi
  exact hi
def dR1(a:DA)(τ:DS):Option (List PyData×DS):=(a τ).bind fun p=>(Cy p.1).bind fun ds=>match ds with
 |[.int j]=>if -(2 ^ 62)<=j/\j<2 ^ 62 then some (LN 0 j.toNat,p.2) else none
 |_=>none
def dR2(a:DA)(τ:DS):Option (List PyData×DS):=(a τ).bind fun p=>(Cy p.1).bind fun ds=>match ds with
 |[.int i,.int j]=>if -(2 ^ 62)<=i/\i<2 ^ 62/\-(2 ^ 62)<=j/\j<2 ^ 62 then some (LN i (j-i).toNat,p.2) else none
 |_=>none
theorem J7{t:TA}{a:DA}(ha:A K t a):IT K (eX t) (dR1 a):=by
 refine⟨fun τ d τ' e=>?_,?_⟩
 ·unfold dR1 at e
  obtain⟨⟨x,τ1⟩,e1,e⟩:=oB e
  obtain⟨ds,e2,e⟩:=oB e
  split at e
  ·split at e
   ·cases e;exact ha.like _ _ _ e1
   ·cases e
  ·cases e
 intro S M τ σ H Q ds τ' r e q
 unfold dR1 at e
 obtain⟨⟨x,τ1⟩,e1,e⟩:=oB e
 obtain⟨ds',e2,e⟩:=oB e
 split at e
 ·split at e
  ·rename_i j hj
   cases e
   refine ha.run S M τ σ H _ x _ r e1 fun vs H1 r1 c1 i1=>?_
   obtain⟨v,us,rfl,iv,iu⟩:=Ho i1 e2
   cases (show us=[] from iu)
   exact⟨j,by rw[show v = .int j from iv],hj.1,hj.2,q _ H1 r1 c1 aH⟩
  ·cases e
 ·cases e
abbrev DG:=PyData->DS->Option DS
def MSame(τ τ':DS):Prop:=τ'.length=τ.length/\∀(j:Nat) (o:Ow),τ'[j]?=some (some o.L)↔τ[j]?=some (some o.L)
theorem MSame.refl{τ:DS}:MSame τ τ:=⟨rfl,fun _ _=>Iff.rfl⟩
theorem MSame.trans{τ τ1 τ2:DS}(a:MSame τ τ1)(b:MSame τ1 τ2):MSame τ τ2:=⟨b.1.trans a.1,fun j xs=>(b.2 j xs).trans (a.2 j xs)⟩
structure TG1 K (g:TG) (f:DG):Prop where
 ms:∀d τ τ',f d τ=some τ'->MSame τ τ'
 run:∀S M τ σ H v d τ' (Q:St->Hp->Prop),R K S M τ σ H->Is K (hid S H) d v->f d τ=some τ'->(∀σ',R K S M τ' σ' H->(∀(j:Nat) (o:Ow),τ[j]?=some (some o.L)->σ'[j]?=σ[j]?)->Q σ' H)->g v σ H Q
structure TG2 K (g:TGs) (f:List PyData->DS->Option DS):Prop where
 ms:∀d τ τ',f d τ=some τ'->MSame τ τ'
 run:∀S M τ σ H vs ds τ' (Q:St->Hp->Prop),R K S M τ σ H->IsL K (hid S H) ds vs->f ds τ=some τ'->(∀σ',R K S M τ' σ' H->(∀(j:Nat) (o:Ow),τ[j]?=some (some o.L)->σ'[j]?=σ[j]?)->Q σ' H)->g vs σ H Q
def dN(i:Nat)(d:PyData)(τ:DS):Option DS:=match τ[i]? with
 |some (some (.m _))=>none
 |some (some (.k _))=>none
 |some _=>some (τ.set i (some (.d d)))
 |none=>none
theorem Yn{i:Nat}{d:PyData}{τ τ':DS}(e:dN i d τ=some τ'):i<τ.length/\(∀o:Ow,τ[i]?≠some (some o.L))/\τ'=τ.set i (some (.d d)):=by
 unfold dN at e
 split at e
 ·cases e
 ·cases e
 ·rename_i o hn hk ho
  cases e
  refine⟨(List.getElem?_eq_some_iff.mp ho).1,fun xs z=>?_,rfl⟩
  rw[ho]at z
  cases xs with
  |l xs=>exact hn xs (Option.some.inj z)
  |t xs=>exact hk xs (Option.some.inj z)
 ·cases e
theorem R.setD{S M:Addr->Prop}{τ:DS}{σ:St}{H:Hp}(r:R K S M τ σ H){i:Nat}{d:PyData}{v:V}(hi:i<τ.length)(hm:∀o:Ow,τ[i]?≠some (some o.L))(iv:Is K (hid S H) d v):R K S M (τ.set i (some (.d d))) (σ.set i (some v)) H:=by
 have hs:i<σ.length:=by rw[r.len];exact hi
 have ne:∀j,j≠i->(τ.set i (some (.d d)))[j]?=τ[j]?:=fun j hj=>List.getElem?_set_ne (Ne.symm hj)
 have ne':∀j,j≠i->(σ.set i (some v))[j]?=σ[j]?:=fun j hj=>List.getElem?_set_ne (Ne.symm hj)
 have mn:∀(j:Nat) (ys:Ow),(τ.set i (some (.d d)))[j]?=some (some ys.L)->j≠i/\τ[j]?=some (some ys.L):=fun j ys e=>by
  by_cases hj:j=i
  ·subst hj;rw[List.getElem?_set_self hi]at e;exact absurd (Option.some.inj (Option.some.inj e)).symm Ow.not_d
  ·rw[ne j hj]at e;exact⟨hj,e⟩
 refine⟨by rw[List.length_set,List.length_set];exact r.len,fun j x e=>?_,fun j xs e=>?_,fun j xs e=>?_,fun j1 j2 ys zs b e1 e2 f1 f2=>?_,r.sub,r.ex,r.gr.to (fun j x e=>?_) (fun j o b e q=>.inl ⟨o,(mn j o e).2,by rw[ne' j (mn j o e).1]at q;exact q⟩) (fun b hb hn=>⟨hb,rfl⟩) .refl⟩
 ·by_cases hj:j=i
  ·subst hj
   rw[List.getElem?_set_self hi]at e
   cases e
   exact⟨v,List.getElem?_set_self hs,iv⟩
  ·rw[ne j hj]at e
   rw[ne' j hj]
   exact r.dat j x e
 ·obtain⟨hj,e⟩:=mn j xs e
  rw[ne' j hj]
  exact r.mt j xs e
 ·by_cases hj:j=i
  ·subst hj;rw[List.getElem?_set_self hi]at e;cases e
  ·rw[ne j hj]at e
   rw[ne' j hj]
   exact r.cst j xs e
 ·obtain⟨h1,e1⟩:=mn j1 ys e1
  obtain⟨h2,e2⟩:=mn j2 zs e2
  rw[ne' _ h1]at f1
  rw[ne' _ h2]at f2
  exact r.inj _ _ _ _ b e1 e2 f1 f2
 ·by_cases hj:j=i
  ·subst hj;rw[List.getElem?_set_self hi]at e;cases e
  ·rw[ne j hj]at e;exact⟨e,ne' j hj⟩
theorem cW{τ:DS}{i:Nat}{d:PyData}(hi:i<τ.length)(hm:∀o:Ow,τ[i]?≠some (some o.L)):MSame τ (τ.set i (some (.d d))):=by
 refine⟨by rw[List.length_set],fun j xs=>?_⟩
 by_cases hj:j=i
 ·subst hj
  rw[List.getElem?_set_self hi]
  exact⟨fun z=>absurd (Option.some.inj (Option.some.inj z)).symm Ow.not_d,fun z=>absurd z (hm xs)⟩
 ·rw[List.getElem?_set_ne (Ne.symm hj)]
theorem AZ{i:Nat}:TG1 K (PU i) (dN i):=by
 refine⟨fun d τ τ' e=>?_,?_⟩
 ·obtain⟨h1,h2,rfl⟩:=Yn e
  exact cW h1 h2
 intro S M τ σ H v d τ' Q r iv e q
 obtain⟨h1,h2,rfl⟩:=Yn e
 refine q _ (r.setD h1 h2 iv) fun j xs ej=>?_
 have:j≠i:=fun z=>h2 xs (by rw[<- z];exact ej)
 exact List.getElem?_set_ne (Ne.symm this)
def Cu:List PyData->DS->Option DS
 |[],τ=>some τ
 |_::_,_=>none
def BH(f:DG)(g:List PyData->DS->Option DS):List PyData->DS->Option DS
 |d::ds,τ=>(f d τ).bind fun τ1=>g ds τ1
 |[],_=>none
theorem Fo:TG2 K ir Cu:=by
 refine⟨fun d τ τ' e=>?_,?_⟩
 ·cases d with
  |nil=>cases e;exact .refl
  |cons _ _=>cases e
 intro S M τ σ H vs ds τ' Q r iv e q
 cases ds with
 |nil=>cases e;exact⟨iv,q σ r fun _ _ _=>rfl⟩
 |cons _ _=>cases e
theorem B3{t:TG}{u:TGs}{f:DG}{g:List PyData->DS->Option DS}(h1:TG1 K t f)(h2:TG2 K u g):TG2 K (ei t u) (BH f g):=by
 refine⟨fun d τ τ' e=>?_,?_⟩
 ·cases d with
  |nil=>cases e
  |cons d ds =>
   obtain⟨τ1,e1,e⟩:=oB e
   exact(h1.ms _ _ _ e1).trans (h2.ms _ _ _ e)
 intro S M τ σ H vs ds τ' Q r iv e q
 cases ds with
 |nil=>cases e
 |cons d ds =>
  obtain⟨τ1,e1,e⟩:=oB e
  obtain⟨v,us,rfl,iv,iu⟩:=iv
  refine⟨v,us,rfl,h1.run S M τ σ H v d τ1 _ r iv e1 fun σ1 r1 k1=>?_⟩
  refine h2.run S M τ1 σ1 H us ds τ' _ r1 iu e fun σ2 r2 k2=>?_
  refine q σ2 r2 fun j xs hj=>?_
  rw[k2 j xs (((h1.ms _ _ _ e1).2 j xs).mpr hj),k1 j xs hj]
def dGT(g:List PyData->DS->Option DS)(d:PyData)(τ:DS):Option DS:=match d with
 |.tuple ds=>g ds τ
 |_=>none
theorem Hw{n:Nat}{u:TGs}{g:List PyData->DS->Option DS}(h:TG2 K u g)(hn:∀ds τ τ',g ds τ=some τ'->ds.length=n):TG1 K (iq K n u) (dGT g):=by
 refine⟨fun d τ τ' e=>?_,?_⟩
 ·unfold dGT at e
  split at e
  ·exact h.ms _ _ _ e
  ·cases e
 intro S M τ σ H v d τ' Q r iv e q
 unfold dGT at e
 split at e
 ·obtain⟨a,vs,rfl,hl,ll⟩:=iv
  exact⟨a,vs,rfl,Same.tup same_hid hl,by rw[ll.length];exact hn _ _ _ e,h.run S M τ σ H vs _ τ' Q r ll e q⟩
 ·cases e
theorem EX:∀(ds:List PyData) (τ τ':DS),Cu ds τ=some τ'->ds.length=0
 |[],_,_,_=>rfl
 |_::_,_,_,e=>by cases e
theorem Bk{n:Nat}{f:DG}{g:List PyData->DS->Option DS}(h:∀ds τ τ',g ds τ=some τ'->ds.length=n):∀(ds:List PyData) (τ τ':DS),BH f g ds τ=some τ'->ds.length=n+1
 |[],_,_,e=>by cases e
 |d::ds,τ,τ',e=>by
  obtain⟨τ1,e1,e⟩:=oB e
  rw[List.length_cons,h _ _ _ e]
def Ha(g:DG)(c:DT)(e:DX):List PyData->List PyData->DS->Option (List PyData×DS)
 |[],acc,τ=>some (acc,τ)
 |d::ds,acc,τ=>(g d τ).bind fun τ1=>(c τ1).bind fun p=>if p.1=true then (e p.2).bind fun q=>Ha g c e ds (acc++[q.1]) q.2 else Ha g c e ds acc p.2
def noG:Option L->Option L
 |some (.g _)=>none
 |o=>o
def VN(own:Nat)(fr:List Nat)(τ:DS):DS:=List.replicate own none++fr.map fun j=>noG (τ[j]?).join
theorem V3{o:Option L}{l:L}(h:noG o=some l):o=some l/\∀x,l≠.g x:=by
 unfold noG at h
 split at h
 ·cases h
 ·rename_i hn
  exact⟨h,fun x z=>hn x (by rw[h,z])⟩
def isM(τ:DS)(j:Nat):Bool:=match τ[j]? with
 |some (some (.m _))=>true
 |some (some (.k _))=>true
 |_=>false
theorem isM_iff{τ:DS}{j:Nat}:isM τ j=true↔∃o:Ow,τ[j]?=some (some o.L):=by
 unfold isM
 split
 ·rename_i xs h;exact⟨fun _=>⟨.l xs,h⟩,fun _=>rfl⟩
 ·rename_i xs h;exact⟨fun _=>⟨.t xs,h⟩,fun _=>rfl⟩
 ·rename_i h1 h2
  exact ⟨fun z => (nomatch z), fun ⟨o, z⟩ => by
   cases o with
   |l xs=>exact absurd z (h1 xs)
   |t xs=>exact absurd z (h2 xs)⟩
def dLC(own:Nat)(fr:List Nat)(it:DI)(g:DG)(c:DT)(e:DX)(τ:DS):Option (PyData×DS):=(it τ).bind fun p=>if p.1.length<=sizeLine/\(fr.all fun j=>!isM p.2 j)=true then (Ha g c e p.1 [] (VN own fr p.2)).map fun q=>(.list q.1,p.2) else none
theorem OH{own:Nat}{fr:List Nat}{τ:DS}{i:Nat}{l:L}(h:(VN own fr τ)[i]?=some (some l)):∃k j,i=own+k/\fr[k]?=some j/\τ[j]?=some (some l):=by
 unfold VN at h
 by_cases hi:i<own
 ·rw[List.getElem?_append_left (by simpa using hi),List.getElem?_replicate,if_pos hi]at h
  cases h
 ·rw[List.getElem?_append_right (by simpa using hi),List.length_replicate,List.getElem?_map]at h
  cases e:fr[i-own]? with
  |none=>rw[e]at h;cases h
  |some j =>
   rw[e]at h
   simp only[Option.map_some,Option.some.injEq]at h
   refine⟨i-own,j,by omega,e,?_⟩
   replace h:=(V3 h).1
   cases q:τ[j]? with
   |none=>rw[q]at h;cases h
   |some o=>rw[q]at h;cases o with
    |none=>cases h
    |some u=>cases h;rfl
theorem gb{own:Nat}{fr:List Nat}{τ:DS}(i:Nat)(d:PyData):(VN own fr τ)[i]?≠some (some (.g d)):=fun h=>by
 unfold VN at h
 by_cases hi:i<own
 ·rw[List.getElem?_append_left (by simpa using hi),List.getElem?_replicate,if_pos hi]at h
  cases h
 ·rw[List.getElem?_append_right (by simpa using hi),List.length_replicate,List.getElem?_map]at h
  cases e:fr[i-own]? with
  |none=>rw[e]at h;cases h
  |some j =>
   rw[e]at h
   simp only[Option.map_some,Option.some.injEq]at h
   exact(V3 h).2 d rfl
theorem bp{own:Nat}{fr:List Nat}{σ:St}{k j:Nat}{v:V}(e:fr[k]?=some j)(h:σ[j]?=some (some v)):(blk own fr σ)[own+k]?=some (some v):=by
 unfold blk
 rw[List.getElem?_append_right (by simp),List.length_replicate,List.getElem?_map,show own+k-own=k by omega,e]
 show some (σ[j]?).join=_
 rw[h];rfl
theorem WU{H:Hp}{xs:List PyData}{vs:List V}{d:PyData}{v:V}(l:IsL K H xs vs)(i:Is K H d v):IsL K H (xs++[d]) (vs++[v]):=Hb l ⟨v,[],rfl,i,rfl⟩
theorem Xp{own:Nat}{fr:List Nat}{wi:TI}{it:DI}{tg:TG}{g:DG}{tc:TT}{c:DT}{te:TE}{e:DX}{fe:Bool}(hi:IT K wi it)(hg:TG1 K tg g)(hc:T K tc c)(he:E K te fe e):E K (tLC own fr wi tg tc te) true (dLC own fr it g c e):=by
 refine⟨fun τ d τ' e=>?_,?_⟩
 ·unfold dLC at e
  obtain⟨⟨x,τ1⟩,e1,e⟩:=oB e
  split at e
  ·obtain⟨z,e3,e⟩:=oM e
   cases e;exact hi.like _ _ _ e1
  ·cases e
 intro S M τ σ H Q d τ' r ee q
 unfold dLC at ee
 obtain⟨⟨ds,τ1⟩,e1,ee⟩:=oB ee
 split at ee
 ·rename_i hz
  obtain⟨hz,hnm⟩:=hz
  have hz:ds.length<=sizeLine:=hz
  obtain⟨⟨acc,τb⟩,e3,ee⟩:=oM ee
  obtain⟨rfl,rfl⟩:d = .list acc/\τ'=τ1:=by cases ee;exact⟨rfl,rfl⟩
  refine hi.run S M τ σ H _ ds _ r e1 fun J H1 r1 c1 iJ=>?_
  intro D hD
  -- nothing of the def may be changed in the block
  refine⟨fun i m ys σ' H'=>∃τb' acc',R K (fun b=>S b\/b=D) (fun _=>False) τb' σ' H'/\Keep S H1 (fun b=>S b\/b=D) H'/\Chg (fun b=>b=D) H1 H'/\IsL K (hid (fun b=>S b\/b=D) H') acc' ys/\H' D=some (.lst ys)/\ys.length<=i/\i<=ds.length/\m=ds.length-i/\Ha g c e (ds.drop i) acc' τb'=some (acc,τb),?_,?_⟩
  ·have s:=En hD (HO.lst [])
   have k:Keep S H1 (fun b=>S b\/b=D) (upd H1 D (.lst [])):=fun b o hn e=>by
    have:=CS e hD
    exact⟨fun z=>z.elim hn this,s b o e⟩
   refine⟨ds.length,VN own fr τ',[],⟨?_,?_,?_,?_,?_,fun a h=>h.elim,?_,GR.nil gb⟩,k,.of s,rfl,CI,Nat.le_refl _,Nat.zero_le _,by simp,by simpa using e3⟩
   ·unfold blk VN;simp
   ·intro i x e
    obtain⟨kk,j,rfl,ej,et⟩:=OH e
    obtain⟨v,h1,h2⟩:=r1.dat j x et
    exact⟨v,bp ej h1,h2.mono k.same⟩
   ·intro i xs e
    obtain⟨kk,j,rfl,ej,et⟩:=OH e
    have:=List.all_eq_true.mp hnm j (List.mem_of_getElem? ej)
    rw[isM_iff.mpr ⟨xs,et⟩]at this
    cases this
   ·intro i x e
    obtain⟨kk,j,rfl,ej,et⟩:=OH e
    obtain⟨a,vs,h1,h2,h3⟩:=r1.cst j x et
    exact⟨a,vs,bp ej h1,k.same.seq h2,h3.mono k.same⟩
   ·intro i j xs ys a e
    obtain⟨kk,j',rfl,ej,et⟩:=OH e
    have:=List.all_eq_true.mp hnm j' (List.mem_of_getElem? ej)
    rw[isM_iff.mpr ⟨xs,et⟩]at this
    cases this
   ·rintro a (h|rfl)
    ·obtain⟨o,e⟩:=r1.ex a h
     exact⟨o,s _ _ e⟩
    ·exact⟨_,CI⟩
  ·rintro i m ys σ' H' ⟨τb',acc',rb,k,ch,la,hHD,hyl,hil,rfl,hl⟩
   obtain⟨I1,I2⟩:=iJ _ _ k
   by_cases hlt:i<ds.length
   ·right
    have ed:ds[i]?=some ds[i]:=List.getElem?_eq_getElem hlt
    obtain⟨go,yl⟩:=I1 i _ ed
    refine⟨go,fun x H2 y=>?_⟩
    obtain⟨rfl,ix⟩:=yl x H2 y
    rw[List.drop_eq_getElem_cons hlt,Ha]at hl
    obtain⟨τ2,e2,hl⟩:=oB hl
    obtain⟨⟨b,τ3⟩,e4,hl⟩:=oB hl
    refine hg.run _ _ τb' σ' H2 x _ τ2 _ rb ix e2 fun σ3 r3 k3=>?_
    refine hc.run _ _ τ2 σ3 H2 _ b τ3 r3 e4 fun H4 r4 c4=>?_
    have s4:Same H2 H4:=fun b o e=>c4 b o (fun z=>z) e
    cases b with
    |false =>
     rw[if_neg Bool.false_ne_true]
     exact⟨ds.length-(i+1),by omega,τ3,acc',r4,k.trans (Same.keep s4),ch.trans (.of s4),la.mono (Same.keep s4).same,s4 _ _ hHD,by omega,hlt,rfl,hl⟩
    |true =>
     rw[if_pos rfl]
     rw[if_pos rfl]at hl
     obtain⟨⟨z,τ5⟩,e5,hl⟩:=oB hl
     refine he.weak.run _ _ τ3 σ3 H4 _ z τ5 r4 e5 fun v H5 r5 c5 i5=>?_
     have s5:Same H2 H5:=s4.trans fun b o e=>c5 b o (fun z=>z) e
     have hD5:=s5 _ _ hHD
     refine⟨hD5,by omega,ds.length-(i+1),by omega,τ5,acc'++[z],?_,?_,?_,?_,CI,by rw[List.length_append,List.length_singleton];omega,hlt,rfl,hl⟩
     ·have kk:Keep (fun b=>S b\/b=D) H5 (fun b=>S b\/b=D) (upd H5 D (.lst (ys++[v]))):=fun b o hn e=>⟨hn,by rw[Cz (fun z=>hn (.inr z))];exact e⟩
      refine⟨r5.len,fun j x e=>let ⟨u,a,b⟩:=r5.dat j x e;⟨u,a,b.mono kk.same⟩,fun j xs e=>let ⟨_,_,_,h,_⟩:=r5.mt j xs e;h.elim,fun j xs e=>let ⟨a,vs,h1,h2,h3⟩:=r5.cst j xs e;⟨a,vs,h1,kk.same.seq h2,h3.mono kk.same⟩,r5.inj,fun _ h=>h.elim,fun a h=>?_,r5.gr.to (fun i d e=>⟨e,rfl⟩) (fun j o a e q=>.inl ⟨o,e,q⟩) (fun a h _=>h.elim) (tsS kk.same)⟩
      by_cases e:a=D
      ·subst e;exact⟨_,CI⟩
      ·obtain⟨o,q⟩:=r5.ex a h
       exact⟨o,by rw[Cz e];exact q⟩
     ·refine k.trans fun b o hn e=>⟨hn,?_⟩
      rw[Cz (fun z=>hn (.inr z))]
      exact s5 _ _ e
     ·refine ch.trans fun b o hn e=>?_
      rw[Cz hn]
      exact s5 _ _ e
     ·refine(WU (la.mono (Same.keep s5).same) i5).mono (Keep.same fun b o hn e=>⟨hn,?_⟩)
      rw[Cz (fun z=>hn (.inr z))]
      exact e
   ·left
    have e:i=ds.length:=by omega
    subst e
    rw[List.drop_length,Ha]at hl
    cases hl
    refine⟨I2 _ (Nat.le_refl _),?_⟩
    have s:Same H1 H':=fun b o e=>ch b o (CS e hD) e
    refine q _ H' (r1.same s) (c1.trans (.of s)) ⟨.l acc,D,_,rfl,rfl,r1.none c1 hD,hHD,ys,rfl,la⟩
 ·cases ee
end DL
end
section
namespace DL
open PySem L2
variable {K:KW}
end DL
end
section
namespace DL
open PySem L2
variable {K:KW}
def E4(i:Nat)(f:DX)(τ:DS):Option (PyData×DS):=(f τ).bind fun p=>match p.2[i]?,p.1 with
 |some (some (.c xs)),.int k=>(atI xs k).map fun d=>(d,p.2)
 |_,_=>none
theorem i8{i:Nat}{fr:Bool}{tb:TE}{f:DX}(h:E K tb fr f):E K (tOp (fU K) (Pb i) tb) false (E4 i f):=by
 refine⟨fun τ d τ' e=>?_,?_⟩
 ·unfold E4 at e
  obtain⟨⟨x,τ1⟩,e1,e⟩:=oB e
  dsimp only at e
  split at e
  ·obtain⟨z,e3,e⟩:=oM e
   cases e;exact h.like _ _ _ e1
  ·cases e
 intro S M τ σ H Q d τ' r e q
 unfold E4 at e
 obtain⟨⟨x,τ1⟩,e1,e⟩:=oB e
 dsimp only at e
 split at e
 ·rename_i xs k hx
  obtain⟨z,e3,e⟩:=oM e
  cases e
  obtain⟨a,vs,ha,_⟩:=r.cst i xs ((((h.like _ _ _ e1).2 i).1.2 xs).mp hx)
  refine⟨.ref a,ha,h.weak.run S M τ σ H _ _ _ r e1 fun v H1 r1 c1 i1=>?_⟩
  obtain⟨a',vs',ha',h2,h3⟩:=r1.cst i xs hx
  rw[ha]at ha';cases ha'
  obtain⟨u,h4,h5⟩:=Xk h3 e3
  exact⟨a,vs',k,u,rfl,i1,same_hid.seq h2,h4,q u H1 r1 c1 h5⟩
 ·cases e
def CY(i:Nat)(τ:DS):Option (PyData×DS):=match τ[i]? with
 |some (some (.c xs))=>some (.int xs.length,τ)
 |_=>none
theorem bY{i:Nat}:E K (tCB (fun xs H Q=>∃x n,xs=[x]/\gy K x H n/\Q (.int n) H) (Sr (Pb i) XC)) false (CY i):=by
 refine⟨fun τ d τ' e=>?_,?_⟩
 ·unfold CY at e
  split at e
  ·cases e;exact .refl
  ·cases e
 intro S M τ σ H Q d τ' r e q
 unfold CY at e
 split at e
 ·rename_i xs hx
  cases e
  obtain⟨a,vs,ha,h2,h3⟩:=r.cst i xs hx
  refine⟨.ref a,ha,.ref a,vs.length,rfl,.inl ⟨vs,same_hid.seq h2,rfl⟩,?_⟩
  exact q _ H r .refl (by rw[h3.length];rfl)
 ·cases e
def Bl(i:Nat)(G:List L->Option (PyData×List L))(a:DA)(τ:DS):Option (PyData×DS):=(a τ).bind fun p=>(Cy p.1).bind fun ds=>match p.2[i]? with
 |some (some (.c xs))=>(G (.c xs::ds.map L.d)).map fun q=>(q.1,p.2)
 |_=>none
theorem QB{i:Nat}{fr:Bool}{G:List L->Option (PyData×List L)}{t:TA}{a:DA}{X:XK}(ha:A K t a):E K (QN (spD K G fr) [] X (Sr (Pb i) t)) fr (Bl i G a):=by
 refine⟨fun τ d τ' e=>?_,?_⟩
 ·unfold Bl at e
  obtain⟨⟨x,τ1⟩,e1,e⟩:=oB e
  obtain⟨ds,e2,e⟩:=oB e
  dsimp only at e
  split at e
  ·obtain⟨z,e3,e⟩:=oM e
   cases e;exact ha.like _ _ _ e1
  ·cases e
 intro S M τ σ H Q d τ' rr e q
 unfold Bl at e
 obtain⟨⟨x,τ1⟩,e1,e⟩:=oB e
 obtain⟨ds,e2,e⟩:=oB e
 dsimp only at e
 split at e
 ·rename_i xs hx
  obtain⟨⟨z,ls'⟩,e3,e⟩:=oM e
  cases e
  obtain⟨p,us,hp,_⟩:=rr.cst i xs ((((ha.like _ _ _ e1).2 i).1.2 xs).mp hx)
  refine⟨.ref p,hp,ha.run S M τ σ H _ x _ rr e1 fun vs H1 r1 c1 i1=>?_⟩
  have l:=Ho i1 e2
  obtain⟨p',us',hp',h2,h3⟩:=r1.cst i xs hx
  rw[hp]at hp';cases hp'
  show spD K G fr ((.ref p::vs)++[]) H1 Q X
  rw[List.append_nil]
  have ra:=aI r1 l
  refine⟨S,fun _=>False,.c xs::ds.map L.d,_,ls',⟨?_,?_,?_,?_,?_,fun _ h=>h.elim,r1.ex,GR.nil ?_⟩,e3,fun v H' _ c res=>?_⟩
  ·have:=ra.len
   simp only[List.length_map,List.map_cons,List.length_cons]at this ⊢
   omega
  ·intro j x e
   cases j with
   |zero=>cases e
   |succ j=>exact ra.dat j x (by simpa using e)
  ·intro j ys e
   cases j with
   |zero=>exact absurd (Option.some.inj (Option.some.inj e)).symm Ow.not_c
   |succ j=>obtain⟨_,_,_,h,_⟩:=ra.mt j ys (by simpa using e);exact h.elim
  ·intro j ys e
   cases j with
   |zero=>cases e;exact⟨p,us',rfl,h2,h3⟩
   |succ j=>exact ra.cst j ys (by simpa using e)
  ·intro j k ys ws b e1 e2 _ _
   cases j with
   |zero=>exact absurd (Option.some.inj (Option.some.inj e1)).symm Ow.not_c
   |succ j=>obtain⟨_,_,_,h,_⟩:=ra.mt j ys (by simpa using e1);exact h.elim
  ·intro j x e
   cases j with
   |zero=>cases e
   |succ j =>
    rw[List.map_cons,List.getElem?_cons_succ,List.getElem?_map,List.getElem?_map]at e
    cases q:ds[j]? with
    |none=>rw[q]at e;cases e
    |some d=>rw[q]at e;cases e
  ·have s:Same H1 H':=fun b o e=>c b o (fun z=>z) e
   exact q v H' (r1.same s) (c1.trans (.of s)) (res.back r1 c1)
 ·cases e
section
variable {F:Frm} {S M:Addr->Prop} {τ τ':DS} {σ:St} {H H':Hp}
theorem RF.step(f:RF K F S M τ σ H)(r':R K S M τ' σ H')(c:Chg M H H')(lk:Like τ τ'):RF K F S M τ' σ H' where
 r:=r'
 sS:=f.sS
 old:=fun b o e n=>c b o (fun z=>(f.new b z).elim n fun q=>by rw[q]at e;cases e) (f.old b o e n)
 new:=f.new
 fm:=f.fm
 fs:=f.fs
 fsub:=f.fsub
 snew:=f.snew
 par:=f.par
 pm:=fun i v e=>let ⟨xs,h⟩:=f.pm i v e;(lk.own i).mpr ⟨xs,h⟩
 fma:=f.fma
theorem RF.stay(f:RF K F S M τ σ H){σ':St}(r':R K S M τ' σ' H)(ms:MSame τ τ')(k:∀(j:Nat) (o:Ow),τ[j]?=some (some o.L)->σ'[j]?=σ[j]?):RF K F S M τ' σ' H where
 r:=r'
 sS:=f.sS
 old:=f.old
 new:=f.new
 fm:=f.fm
 fs:=f.fs
 fsub:=f.fsub
 snew:=f.snew
 par:=fun i v e=>by
  obtain⟨xs,h⟩:=f.pm i v e
  rw[k i xs h]
  exact f.par i v e
 pm:=fun i v e=>let ⟨xs,h⟩:=f.pm i v e;⟨xs,(ms.2 i xs).mpr h⟩
 fma:=f.fma
theorem RF.hnone(f:RF K F S M τ σ H){a:Addr}(h:H a=none):F.H a=none:=by
 cases e:F.H a with
 |none=>rfl
 |some o =>
  exfalso
  by_cases hm:F.M a
  ·obtain⟨o',e'⟩:=f.r.ex a (f.sS a (f.fsub a hm))
   rw[h]at e';cases e'
  ·have:=f.old a o e hm
   rw[h]at this;cases this
theorem RF.res(f:RF K F S M τ σ H){fr:Bool}{d:PyData}{v:V}(h:Res K fr S H H' d v):Res K fr F.S F.H H' d v:=by
 cases fr with
 |false=>exact Is.mono (JB f.sS) h
 |true =>
  obtain⟨xs,a,vs,e1,e2,h1,h2,h3⟩:=h
  exact⟨xs,a,vs,e1,e2,f.hnone h1,h2,h3.mono (JB fun b z=>z.elim (fun z=>.inl (f.sS b z)) .inr)⟩
end
variable {np:Nat}
def Ah(e:DX)(g:DG)(τ:DS):Option Out:=(e τ).bind fun p=>(g p.1 p.2).map .nx
theorem BX{fr fe:Bool}{te:TE}{tg:TG}{e:DX}{g:DG}(he:E K te fe e)(hg:TG1 K tg g):B K np (Tz te tg) fr (Ah e g):=by
 intro F S M τ σ H D out hnp f ee q
 unfold Ah at ee
 obtain⟨⟨x,τ1⟩,e1,ee⟩:=oB ee
 obtain⟨τ2,e2,ee⟩:=oM ee
 cases ee
 refine he.weak.run S M τ σ H _ x τ1 f.r e1 fun v H1 r1 c1 i1=>?_
 refine hg.run S M τ1 σ H1 v x τ2 _ r1 i1 e2 fun σ' r2 k=>?_
 exact q S M σ' H1 ((f.step r1 c1 (he.like _ _ _ e1)).stay r2 (hg.ms _ _ _ e2) k) (c1.keep f.r.sub)
theorem jE{fr fe:Bool}{te:TE}{i:Nat}{e:DX}(he:E K te fe e):B K np (fun D σ H=>te σ H fun v H'=>D.nx (σ.set i (some v)) H') fr (Ah e (dN i)):=BX (tg:=PU i) he AZ
def ME(np i:Nat)(τ:DS):Option Out:=if np<=i/\i<τ.length then some (.nx (τ.set i (some (.m [])))) else none
def tkP:List (PyData×PyData)->Option (List (List Int×PyData))
 |[]=>some []
 |(.tuple ks,d)::r=>(tkI ks).bind fun k=>(tkP r).map ((k,d)::·)
 |_=>none
where tkI:List PyData->Option (List Int)
 |[]=>some []
 |.int i::r=>(tkI r).map (i::·)
 |_=>none
theorem X9:∀(k:List Int),tkP.tkI (k.map PyData.int)=some k
 |[]=>rfl
 |i::k=>by rw[List.map_cons,tkP.tkI,X9 k];rfl
theorem X8:∀(m:List (List Int×PyData)),tkP (SR m)=some m
 |[]=>rfl
 |(k,d)::m=>by
  have:=X8 m
  show(tkP.tkI (k.map PyData.int)).bind _=_
  rw[X9]
  show((tkP (SR m)).map _)=_
  rw[this];rfl
theorem g9{o:Ow}{kvs:List (PyData×PyData)}{m:List (List Int×PyData)}(h:PyData.dict kvs=o.D)(e:tkP kvs=some m):o = .t m:=by
 cases o with
 |l xs=>cases h
 |t m'=>cases h;rw[X8]at e;cases e;rfl
def Ge(np i:Nat)(e:DX)(τ:DS):Option Out:=(e τ).bind fun p=>match p.1 with
 |.list xs=>if np<=i/\i<p.2.length/\p.2.all okM=true then some (.nx (p.2.set i (some (.m xs)))) else none
 |.dict kvs=>(tkP kvs).bind fun m=>if np<=i/\i<p.2.length/\p.2.all okM=true then some (.nx (p.2.set i (some (.k m)))) else none
 |_=>none
theorem RF.newM{F:Frm}{S M:Addr->Prop}{τ:DS}{σ:St}{H:Hp}(f:RF K F S M τ σ H){a:Addr}{i:Nat}{xs:Ow}{vs:HO}(hi:i<τ.length)(hnp:F.ar.length<=i)(hS:S a)(hM:¬M a)(hF:F.H a=none)(h':H a=some vs)
  (l:IsO K (hid S H) xs a vs):RF K F S (fun b=>M b\/b=a) (τ.set i (some xs.L)) (σ.set i (some (.ref a))) H:=by
 have hs:i<σ.length:=by rw[f.r.len];exact hi
 have ne:∀j,j≠i->(τ.set i (some xs.L))[j]?=τ[j]?:=fun j hj=>List.getElem?_set_ne (Ne.symm hj)
 have ne':∀j,j≠i->(σ.set i (some (V.ref a)))[j]?=σ[j]?:=fun j hj=>List.getElem?_set_ne (Ne.symm hj)
 have se:(τ.set i (some xs.L))[i]?=some (some xs.L):=List.getElem?_set_self hi
 have se':(σ.set i (some (V.ref a)))[i]?=some (some (.ref a)):=List.getElem?_set_self hs
 have Ma:∀(j:Nat) (ys:Ow) (b:Addr),j≠i->τ[j]?=some (some ys.L)->σ[j]?=some (some (.ref b))->b≠a:=fun j ys b hj e e' z=>by
  obtain⟨b',us,h1,h2,_⟩:=f.r.mt j ys e
  rw[e']at h1;cases h1
  subst z
  exact hM h2
 refine⟨⟨by rw[List.length_set,List.length_set];exact f.r.len,fun j x e=>?_,fun j ys e=>?_,fun j ys e=>?_,fun j1 j2 ys zs b e1 e2 f1 f2=>?_,fun b h=>h.elim (f.r.sub b) fun z=>by rw[z];exact hS,f.r.ex,f.r.gr.to (fun j x e=>?_) (fun j o b e q=>?_) (fun b hb _=>⟨.inl hb,rfl⟩) .refl⟩,f.sS,f.old,fun b h=>h.elim (f.new b) fun z=>.inr (by rw[z];exact hF),fun b h=>.inl (f.fm b h),f.fs,f.fsub,f.snew,fun j v e=>?_,fun j v e=>?_,f.fma⟩
 ·by_cases hj:j=i
  ·subst hj;rw[se]at e;exact absurd (Option.some.inj (Option.some.inj e)) Ow.not_d
  ·rw[ne j hj]at e
   rw[ne' j hj]
   exact f.r.dat j x e
 ·by_cases hj:j=i
  ·subst hj
   rw[se]at e
   obtain rfl:=P6 e
   exact⟨a,vs,se',.inr rfl,h',l⟩
  ·rw[ne j hj]at e
   rw[ne' j hj]
   obtain⟨b,us,h1,h2,h3,h4⟩:=f.r.mt j ys e
   exact⟨b,us,h1,.inl h2,h3,h4⟩
 ·by_cases hj:j=i
  ·subst hj;rw[se]at e;exact absurd (Option.some.inj (Option.some.inj e)) Ow.not_c
  ·rw[ne j hj]at e
   rw[ne' j hj]
   exact f.r.cst j ys e
 ·by_cases h1:j1=i
  ·by_cases h2:j2=i
   ·rw[h1,h2]
   ·exfalso
    subst h1
    rw[se']at f1;cases f1
    rw[ne j2 h2]at e2
    rw[ne' j2 h2]at f2
    exact Ma j2 zs _ h2 e2 f2 rfl
  ·by_cases h2:j2=i
   ·exfalso
    subst h2
    rw[se']at f2;cases f2
    rw[ne j1 h1]at e1
    rw[ne' j1 h1]at f1
    exact Ma j1 ys _ h1 e1 f1 rfl
   ·rw[ne j1 h1]at e1
    rw[ne' j1 h1]at f1
    rw[ne j2 h2]at e2
    rw[ne' j2 h2]at f2
    exact f.r.inj _ _ _ _ b e1 e2 f1 f2
 ·by_cases hj:j=i
  ·subst hj;rw[se]at e;exact absurd (Option.some.inj (Option.some.inj e)) Ow.not_g
  ·rw[ne j hj]at e;exact⟨e,ne' j hj⟩
 ·by_cases hj:j=i
  ·subst hj;rw[se']at q;cases q;exact .inr hM
  ·rw[ne j hj]at e;rw[ne' j hj]at q;exact .inl ⟨o,e,q⟩
 ·have:j≠i:=fun z=>by
   subst z
   have:=(List.getElem?_eq_some_iff.mp e).1
   omega
  rw[ne' j this]
  exact f.par j v e
 ·have:j≠i:=fun z=>by
   subst z
   have:=(List.getElem?_eq_some_iff.mp e).1
   omega
  rw[ne j this]
  exact f.pm j v e
theorem RF.hide{F:Frm}{S M:Addr->Prop}{τ:DS}{σ:St}{H H':Hp}(f:RF K F S M τ σ H){a:Addr}(s:Same H H')(ha:H a=none)(h':∃o,H' a=some o):RF K F (fun b=>S b\/b=a) M τ σ H':=by
 have k:Keep S H (fun b=>S b\/b=a) H':=fun b o hn e=>⟨fun z=>z.elim hn (CS e ha),s b o e⟩
 refine ⟨⟨f.r.len, fun j x e => let ⟨v, h1, h2⟩ := f.r.dat j x e; ⟨v, h1, h2.mono k.same⟩, fun j x e => let ⟨b, vs, h1, h2, h3, h4⟩ := f.r.mt j x e; ⟨b, vs, h1, h2, s _ _ h3, h4.mono k.same⟩,
  fun j x e=>let ⟨b,vs,h1,h2,h3⟩:=f.r.cst j x e;⟨b,vs,h1,k.same.seq h2,h3.mono k.same⟩,f.r.inj,fun b h=>.inl (f.r.sub b h),fun b h=>?_,f.r.gr.to (fun i d e=>⟨e,rfl⟩) (fun j o a e q=>.inl ⟨o,e,q⟩) (fun a h _=>⟨h,by obtain⟨o,e⟩:=f.r.ex a (f.r.sub a h);rw[e];exact s _ _ e⟩) (tsS k.same)⟩,fun b h=>.inl (f.sS b h),fun b o e n=>s _ _ (f.old b o e n),f.new,f.fm,f.fs,f.fsub,fun b h=>h.elim (f.snew b) fun z=>.inr (by rw[z];exact f.hnone ha),f.par,f.pm,f.fma⟩
 rcases h with h|h
 ·obtain⟨o,e⟩:=f.r.ex b h
  exact⟨o,s _ _ e⟩
 ·rw[h];exact h'
theorem RF.hideE{F:Frm}{S M:Addr->Prop}{τ τ1:DS}{σ:St}{H H':Hp}(f:RF K F S M τ σ H){a:Addr}(r1:R K S M τ1 σ H')(c:Chg M H H')(lk:Like τ τ1)(ok:τ1.all okM=true)(ha:H a=none)(h':∃o,H' a=some o/\OwH o):RF K F (fun b=>S b\/b=a) M τ1 σ H':=by
 have f1:=f.step r1 c lk
 have k:Keep S H (fun b=>S b\/b=a) H':=fun b o hn e=>⟨fun z=>z.elim hn (CS e ha),c b o (fun z=>hn (f.r.sub b z)) e⟩
 have ts:TSm (hid S H') (hid (fun b=>S b\/b=a) H'):=OP fun b z=>z.elim .inl fun z=>by subst z;exact .inr h'
 refine⟨⟨r1.len,fun j x e=>?_,fun j x e=>?_,fun j x e=>?_,r1.inj,fun b h=>.inl (f.r.sub b h),fun b h=>?_,r1.gr.to (fun i d e=>⟨e,rfl⟩) (fun j o a e q=>.inl ⟨o,e,q⟩) (fun a h _=>⟨h,rfl⟩) ts⟩,fun b h=>.inl (f.sS b h),f1.old,f.new,f.fm,f.fs,f.fsub,fun b h=>h.elim (f.snew b) fun z=>.inr (by rw[z];exact f.hnone ha),f.par,f1.pm,f.fma⟩
 ·obtain⟨v,h1,h2⟩:=f.r.dat j x (((lk.2 j).1.1 x).mp e)
  exact⟨v,h1,h2.mono k.same⟩
 ·obtain⟨b,vs,h1,h2,h3,h4⟩:=r1.mt j x e
  exact⟨b,vs,h1,h2,h3,h4.monoT ts (List.all_eq_true.mp ok (some x.L) (List.mem_of_getElem? e))⟩
 ·obtain⟨b,vs,h1,h2,h3⟩:=f.r.cst j x (((lk.2 j).1.2 x).mp e)
  exact⟨b,vs,h1,k.same.seq h2,h3.mono k.same⟩
 ·rcases h with h|h
  ·exact r1.ex b h
  ·obtain⟨vs,e,_⟩:=h'
   rw[h];exact⟨_,e⟩
theorem fD{fr:Bool}{i:Nat}:B K np (Tz (fO XC) (PU i)) fr (ME np i):=by
 intro F S M τ σ H D out hnp f ee q
 unfold ME at ee
 split at ee
 ·rename_i hi
  cases ee
  refine⟨Nat.zero_le _,fun a ha=>?_⟩
  have s:=En ha (HO.lst [])
  have f1:=f.hide s ha ⟨_,CI⟩
  have hM:¬M a:=fun z=>f.r.fresh ha (f.r.sub a z)
  exact q _ _ _ _ (f1.newM (xs:=.l []) hi.2 (Nat.le_trans hnp hi.1) (.inr rfl) hM (f.hnone ha) CI ⟨[],rfl,rfl⟩) fun b o hn e=>⟨fun z=>z.elim hn (CS e ha),s b o e⟩
 ·cases ee
theorem X1{fr:Bool}{i:Nat}{te:TE}{e:DX}(he:E K te true e):B K np (Tz te (PU i)) fr (Ge np i e):=by
 intro F S M τ σ H D out hnp f ee q
 unfold Ge at ee
 obtain⟨⟨x,τ1⟩,e1,ee⟩:=oB ee
 dsimp only at ee
 split at ee
 ·split at ee
  ·rename_i xs hi
   cases ee
   refine he.run S M τ σ H _ _ τ1 f.r e1 fun v H1 r1 c1 i1=>?_
   obtain⟨ys,a,vs,e2,rfl,h1,h2,h3⟩:=i1
   obtain rfl:=Ow.D_list e2
   have f1:=f.hideE r1 c1 (he.like _ _ _ e1) hi.2.2 h1 ⟨_,h2,h3.ho⟩
   have hM:¬M a:=fun z=>f.r.fresh h1 (f.r.sub a z)
   exact q _ _ _ _ (f1.newM (xs:=.l _) hi.2.1 (Nat.le_trans hnp hi.1) (.inr rfl) hM (f.hnone h1) h2 h3) fun b o hn e=>⟨fun z=>z.elim hn (CS e h1),c1 b o (fun z=>hn (f.r.sub b z)) e⟩
  ·cases ee
 ·obtain⟨m,em,ee⟩:=oB ee
  split at ee
  ·rename_i hi
   cases ee
   refine he.run S M τ σ H _ _ τ1 f.r e1 fun v H1 r1 c1 i1=>?_
   obtain⟨ys,a,vs,e2,rfl,h1,h2,h3⟩:=i1
   obtain rfl:=g9 e2 em
   have f1:=f.hideE r1 c1 (he.like _ _ _ e1) hi.2.2 h1 ⟨_,h2,h3.ho⟩
   have hM:¬M a:=fun z=>f.r.fresh h1 (f.r.sub a z)
   exact q _ _ _ _ (f1.newM (xs:=.t _) hi.2.1 (Nat.le_trans hnp hi.1) (.inr rfl) hM (f.hnone h1) h2 h3) fun b o hn e=>⟨fun z=>z.elim hn (CS e h1),c1 b o (fun z=>hn (f.r.sub b z)) e⟩
  ·cases ee
 ·cases ee
def An(e:DX)(τ:DS):Option Out:=(e τ).map fun p=>.rt p.1 p.2
theorem Aw{fr fe:Bool}{te:TE}{e:DX}(he:E K te fe e)(hf:fr=true->fe=true):B K np (fN te) fr (An e):=by
 intro F S M τ σ H D out hnp f ee q
 unfold An at ee
 obtain⟨⟨x,τ1⟩,e1,ee⟩:=oM ee
 cases ee
 refine he.run S M τ σ H _ x τ1 f.r e1 fun v H1 r1 c1 i1=>?_
 exact q S M σ H1 v (f.step r1 c1 (he.like _ _ _ e1)) (f.res (i1.imp (fun _=>f.r.fresh) fr hf))
def JL(np i:Nat)(τ:DS):Option Out:=match τ[i]? with
 |some (some (.m xs))=>if np<=i then some (.rt (.list xs) τ) else none
 |some (some (.k xs))=>if np<=i then some (.rt (.dict (SR xs)) τ) else none
 |_=>none
theorem Xu{np i:Nat}{τ:DS}{out:Out}(e:JL np i τ=some out):∃w,τ[i]?=some (some (Ow.L w))/\np<=i/\out = .rt w.D τ:=by
 unfold JL at e
 split at e
 ·rename_i xs hx
  split at e
  ·rename_i h;cases e;exact⟨.l xs,hx,h,rfl⟩
  ·cases e
 ·rename_i xs hx
  split at e
  ·rename_i h;cases e;exact⟨.t xs,hx,h,rfl⟩
  ·cases e
 ·cases e
theorem gg{fr:Bool}{i:Nat}:B K np (fN (Pb i)) fr (JL np i):=by
 intro F S M τ σ H D out hnp f ee q
 obtain⟨xs,hx,hi,rfl⟩:=Xu ee
 obtain⟨a,vs,h1,h2,h3,h4⟩:=f.r.mt i xs hx
 refine⟨_,h1,q S M σ H _ f ?_⟩
 have hF:F.H a=none:=by
  rcases f.new a h2 with z|z
  ·exfalso
   obtain⟨j,hj⟩:=f.fma a z
   obtain⟨ys,hy⟩:=f.pm j _ hj
   have e:=f.r.inj j i ys xs a hy hx (f.par j _ hj) h1
   have:=(List.getElem?_eq_some_iff.mp hj).1
   omega
  ·exact z
 have res:Res K true F.S F.H H xs.D (.ref a):=⟨xs,a,vs,rfl,rfl,hF,h3,h4.mono (JB fun b z=>z.elim (f.sS b) fun z=>by rw[z];exact f.r.sub a h2)⟩
 refine res.imp (fun b hb=>?_) fr fun _=>rfl
 intro z
 obtain⟨o,e⟩:=f.fs b z
 rw[hb]at e;cases e
def Lv(τ:DS):Option Out:=some (.rt .none τ)
def Eb(e:DX)(τ:DS):Option Out:=(e τ).map fun p=>.nx p.2
theorem RV{fr fe:Bool}{te:TE}{e:DX}(he:E K te fe e):B K np (dj te) fr (Eb e):=by
 intro F S M τ σ H D out hnp f ee q
 unfold Eb at ee
 obtain⟨⟨x,τ1⟩,e1,ee⟩:=oM ee
 cases ee
 refine he.run S M τ σ H _ x τ1 f.r e1 fun v H1 r1 c1 i1=>?_
 exact q S M σ H1 (f.step r1 c1 (he.like _ _ _ e1)) (c1.keep f.r.sub)
def dMt(i:Nat)(G:List PyData->List PyData->Option (PyData×List PyData))(a:DA)(τ:DS):Option (PyData×DS):=(a τ).bind fun p=>(Cy p.1).bind fun ds=>match p.2[i]? with
 |some (some (.m xs))=>(G xs ds).map fun q=>(q.1,p.2.set i (some (.m q.2)))
 |_=>none
def MR(K:KW)(r:V->List V->Hp->VK->Prop)(G:List PyData->List PyData->Option (PyData×List PyData)):Prop:=∀(S:Addr->Prop) H a vs us xs ds d xs' (Q:VK),S a->H a=some (.lst vs)->IsL K (hid S H) xs vs->IsL K (hid S H) ds us->G xs ds=some (d,xs') ->
 (∀v vs',Is K (hid S H) d v->IsL K (hid S H) xs' vs'->Q v (upd H a (.lst vs')))->r (.ref a) us H Q
theorem Nv{S:Addr->Prop}{H:Hp}{a:Addr}{o:HO}(h:S a):hid S (upd H a o)=hid S H:=by
 funext b
 unfold hid
 by_cases z:S b
 ·rw[if_pos z,if_pos z]
 ·rw[if_neg z,if_neg z,Cz (fun e=>z (by rw[e];exact h))]
theorem Wr{i:Nat}{G:List PyData->List PyData->Option (PyData×List PyData)}{a:DA}{τ τ':DS}{d:PyData}(e:dMt i G a τ=some (d,τ')):∃rs τ1 ds xs xs',a τ=some (rs,τ1)/\Cy rs=some ds/\τ1[i]?=some (some (.m xs))/\G xs ds=some (d,xs')/\τ'=τ1.set i (some (.m xs')):=by
 unfold dMt at e
 obtain⟨⟨x,τ1⟩,e1,e⟩:=oB e
 obtain⟨ds,e2,e⟩:=oB e
 dsimp only at e
 split at e
 ·rename_i xs hx
  obtain⟨⟨z,zs⟩,e3,e⟩:=oM e
  cases e
  exact⟨x,τ1,ds,xs,zs,e1,e2,hx,e3,rfl⟩
 ·cases e
theorem bX{i:Nat}{r:V->List V->Hp->VK->Prop}{G:List PyData->List PyData->Option (PyData×List PyData)}{t:TA}{a:DA}(h:MR K r G)(ha:A K t a):E K (tBM K "list" r (Pb i) t) false (dMt i G a):=by
 refine⟨fun τ d τ' e=>?_,?_⟩
 ·obtain⟨rs,τ1,ds,xs,xs',e1,e2,e3,e4,rfl⟩:=Wr e
  exact(ha.like _ _ _ e1).trans (TF e3)
 intro S M τ σ H Q d τ' rr e q
 obtain⟨rs,τ1,ds,xs,xs',e1,e2,e3,e4,rfl⟩:=Wr e
 have lk:=ha.like _ _ _ e1
 obtain⟨zs,hz⟩:=lk.ml e3
 obtain⟨p,us,hp,hM,hl0,_⟩:=rr.ml i zs hz
 refine⟨.ref p,hp,.inl ⟨rfl,us,SqL.of hl0⟩,?_⟩
 refine ha.run S M τ σ H _ rs _ rr e1 fun vs H1 r1 c1 i1=>?_
 have l:=Ho i1 e2
 obtain⟨p',us',hp',hM',hl,ll⟩:=r1.ml i xs e3
 rw[hp]at hp';cases hp'
 have Sp:=r1.sub p hM'
 refine h S H1 p us' vs xs ds d xs' _ Sp hl ll l e4 fun v vs' iv il=>?_
 have c:Chg (fun b=>b=p) H1 (upd H1 p (.lst vs')):=fun b o hn e=>by rw[Cz hn];exact e
 refine q v _ (r1.setM e3 hp c CI (by rw[Nv Sp];exact il)) (c1.trans fun b o hn e=>c b o (fun z=>hn (by subst z;exact hM')) e) ?_
 show Is K (hid S _) d v
 rw[Nv Sp];exact iv
def Cv:List PyData->List PyData->Option (PyData×List PyData)
 |xs,[d]=>if xs.length<sizeLine then some (.none,xs++[d]) else none
 |_,_=>none
theorem Ql:MR K YI Cv:=by
 intro S H a vs us xs ds d xs' Q Sa hl ll l e q
 unfold Cv at e
 split at e
 ·split at e
  ·rename_i d0 hz
   cases e
   obtain⟨v,us',rfl,iv,iu⟩:=l
   cases (show us'=[] from iu)
   exact⟨a,vs,v,rfl,rfl,hl,by rw[ll.length];exact hz,q _ _ rfl (WU ll iv)⟩
  ·cases e
 ·cases e
def HG:List PyData->List PyData->Option (PyData×List PyData)
 |xs,[.list ys]=>if xs.length+ys.length<=sizeLine then some (.none,xs++ys) else none
 |_,_=>none
def JE:List PyData->List PyData->Option (PyData×List PyData)
 |_,[]=>some (.none,[])
 |_,_=>none
theorem Ye{H:Hp}:∀{xs:List PyData} {vs:List V} {j:Nat} {d:PyData} {v:V},IsL K H xs vs->Is K H d v->IsL K H (xs.set j d) (vs.set j v)
 |[],_,_,_,_,h,_=>by rw[show _=[] from h];rfl
 |x::xs,_,0,d,v,⟨u,us,e,h,l⟩,i=>by subst e;exact⟨v,us,rfl,i,l⟩
 |x::xs,_,j+1,d,v,⟨u,us,e,h,l⟩,i=>by subst e;exact⟨u,us.set j v,rfl,h,Ye l i⟩
def GH(i:Nat)(e k:DX)(τ:DS):Option Out:=(e τ).bind fun p=>(k p.2).bind fun q=>match q.2[i]?,q.1 with
 |some (some (.m xs)),.int n=>(ixN xs.length n).map fun j=>.nx (q.2.set i (some (.m (xs.set j p.1))))
 |_,_=>none
theorem X2{fr f1 f2:Bool}{i:Nat}{te tk:TE}{e k:DX}(he:E K te f1 e)(hk:E K tk f2 k):B K np (Tz te (gN (Pb i) tk du)) fr (GH i e k):=by
 intro F S M τ σ H D out hnp f ee q
 unfold GH at ee
 obtain⟨⟨x,τ1⟩,e1,ee⟩:=oB ee
 obtain⟨⟨y,τ2⟩,e2,ee⟩:=oB ee
 dsimp only at ee
 split at ee
 ·rename_i xs n hx
  obtain⟨j,e3,ee⟩:=oM ee
  cases ee
  have lk1:=he.like _ _ _ e1
  have lk2:=hk.like _ _ _ e2
  refine he.weak.run S M τ σ H _ x τ1 f.r e1 fun v H1 r1 c1 i1=>?_
  obtain⟨zs,hz⟩:=lk2.ml hx
  obtain⟨p,us,hp,hM,_,_⟩:=r1.ml i zs hz
  refine⟨.ref p,hp,hk.weak.run S M τ1 σ H1 _ _ τ2 r1 e2 fun w H2 r2 c2 i2=>?_⟩
  obtain⟨p',us',hp',hM',hl,ll⟩:=r2.ml i xs hx
  rw[hp]at hp';cases hp'
  have Sp:=r2.sub p hM'
  refine⟨p,us',n,j,rfl,i2,hl,by rw[ll.length];exact e3,?_⟩
  have c:Chg (fun b=>b=p) H2 (upd H2 p (.lst (us'.set j v))):=fun b o hn e=>by rw[Cz hn];exact e
  have iv:Is K (hid S H2) x v:=Is.mono (c2.keep r1.sub).same i1
  have f2:=f.step r2 (c1.trans c2) (lk1.trans lk2)
  have r3:=r2.setM hx hp c CI (by rw[Nv Sp];exact Ye (j:=j) ll iv)
  have c3:Chg M H2 (upd H2 p (.lst (us'.set j v))):=fun b o hn e=>c b o (fun z=>hn (by subst z;exact hM')) e
  exact q S M σ _ (f2.step r3 c3 (TF hx)) (((c1.trans c2).trans c3).keep f.r.sub)
 ·cases ee
theorem Gl.trans{F:Frm}{fr:Bool}{S S1:Addr->Prop}{H H1:Hp}{D:W5}{o:Out}(k:Keep S H S1 H1)(h:Gl K F fr S H D o):Gl K F fr S1 H1 D o:=by
 cases o with
 |nx τ=>exact fun S' M' σ' H' r k'=>h S' M' σ' H' r (k.trans k')
 |bk τ=>exact fun S' M' σ' H' r k'=>h S' M' σ' H' r (k.trans k')
 |ct τ=>exact fun S' M' σ' H' r k'=>h S' M' σ' H' r (k.trans k')
 |rt d τ=>exact fun S' M' σ' H' v r k'=>h S' M' σ' H' v r k'
def BO(τ:DS):Option Out:=some (.nx τ)
theorem B8{fr:Bool}:B K np dh fr BO:=by
 intro F S M τ σ H D out hnp f ee q
 cases ee
 exact q S M σ H f .refl
def Aa(a b:DB)(τ:DS):Option Out:=(a τ).bind fun o=>match o with
 |.nx τ'=>b τ'
 |o=>some o
theorem Ac{fr:Bool}{t u:TS}{a b:DB}(ha:B K np t fr a)(hb:B K np u fr b):B K np (hW t u) fr (Aa a b):=by
 intro F S M τ σ H D out hnp f ee q
 unfold Aa at ee
 obtain⟨o,e1,ee⟩:=oB ee
 refine ha F S M τ σ H _ o hnp f e1 ?_
 cases o with
 |nx τ1=>exact fun S' M' σ' H' r k=>hb F S' M' τ1 σ' H' D out hnp r ee (q.trans k)
 |bk τ1=>cases ee;exact q
 |ct τ1=>cases ee;exact q
 |rt d τ1=>cases ee;exact q
def BA(c:DT)(a b:DB)(τ:DS):Option Out:=(c τ).bind fun p=>if p.1=true then a p.2 else b p.2
theorem C3{fr:Bool}{tc:TT}{t u:TS}{c:DT}{a b:DB}(hc:T K tc c)(ha:B K np t fr a)(hb:B K np u fr b):B K np (iA tc t u) fr (BA c a b):=by
 intro F S M τ σ H D out hnp f ee q
 unfold BA at ee
 obtain⟨⟨k,τ1⟩,e1,ee⟩:=oB ee
 refine hc.run S M τ σ H _ k τ1 f.r e1 fun H1 r1 c1=>?_
 have f1:=f.step r1 c1 (hc.like _ _ _ e1)
 cases k with
 |true=>exact ha F S M τ1 σ H1 D out hnp f1 ee (q.trans (c1.keep f.r.sub))
 |false=>exact hb F S M τ1 σ H1 D out hnp f1 ee (q.trans (c1.keep f.r.sub))
def RK(τ:DS):Option Out:=some (.bk τ)
def RJ(τ:DS):Option Out:=some (.ct τ)
def JM:DB:=fun _=>none
def Gs(g:DG)(b:DB):List PyData->DS->Option Out
 |[],τ=>some (.nx τ)
 |d::ds,τ=>(g d τ).bind fun τ1=>(b τ1).bind fun o=>match o with
  |.nx τ2=>Gs g b ds τ2
  |.ct τ2=>Gs g b ds τ2
  |.bk τ2=>some (.nx τ2)
  |.rt d τ2=>some (.rt d τ2)
def II(it:DI)(g:DG)(b:DB)(τ:DS):Option Out:=(it τ).bind fun p=>Gs g b p.1 p.2
theorem Pa{fr:Bool}{wi:TI}{tg:TG}{tb:TS}{it:DI}{g:DG}{b:DB}(hi:IT K wi it)(hg:TG1 K tg g)(hb:B K np tb fr b):B K np (iB wi tg tb) fr (II it g b):=by
 intro F S M τ σ H D out hnp f ee q
 unfold II at ee
 obtain⟨⟨ds,τ1⟩,e1,ee⟩:=oB ee
 refine hi.run S M τ σ H _ ds τ1 f.r e1 fun J H1 r1 c1 iJ=>?_
 have f1:=f.step r1 c1 (hi.like _ _ _ e1)
 have q1:=q.trans (c1.keep f.r.sub)
 refine⟨fun i m σ' H'=>m=ds.length-i/\i<=ds.length/\∃S' M' τ',RF K F S' M' τ' σ' H'/\Keep S H1 S' H'/\Gs g b (ds.drop i) τ'=some out,⟨ds.length,by simp,Nat.zero_le _,S,M,τ1,f1,.refl,by simpa using ee⟩,?_⟩
 rintro i m σ' H' ⟨rfl,hil,S',M',τ',f',k',hl⟩
 obtain⟨I1,I2⟩:=iJ _ _ k'
 by_cases hlt:i<ds.length
 ·right
  have ed:ds[i]?=some ds[i]:=List.getElem?_eq_getElem hlt
  obtain⟨go,yl⟩:=I1 i _ ed
  refine⟨go,fun σ2 H2=>∃S2 M2 τ2,RF K F S2 M2 τ2 σ2 H2/\Keep S H1 S2 H2/\Gs g b (ds.drop (i+1)) τ2=some out,fun σ2 H2 h=>⟨ds.length-(i+1),by omega,rfl,hlt,h⟩,fun x H2 y=>?_⟩
  obtain⟨rfl,ix⟩:=yl x H2 y
  rw[List.drop_eq_getElem_cons hlt,Gs]at hl
  obtain⟨τ2,e2,hl⟩:=oB hl
  obtain⟨o,e3,hl⟩:=oB hl
  refine hg.run S' M' τ' σ' H2 x _ τ2 _ f'.r ix e2 fun σ3 r3 k3=>?_
  have f3:=f'.stay r3 (hg.ms _ _ _ e2) k3
  refine hb F S' M' τ2 σ3 H2 _ o hnp f3 e3 ?_
  cases o with
  |nx τ4=>exact fun S4 M4 σ4 H4 f4 k4=>⟨S4,M4,τ4,f4,k'.trans k4,hl⟩
  |ct τ4=>exact fun S4 M4 σ4 H4 f4 k4=>⟨S4,M4,τ4,f4,k'.trans k4,hl⟩
  |bk τ4=>cases hl;exact fun S4 M4 σ4 H4 f4 k4=>q1 S4 M4 σ4 H4 f4 (k'.trans k4)
  |rt d τ4=>cases hl;exact fun S4 M4 σ4 H4 v f4 k4=>q1 S4 M4 σ4 H4 v f4 k4
 ·left
  have e:i=ds.length:=by omega
  subst e
  rw[List.drop_length,Gs]at hl
  cases hl
  exact⟨I2 _ (Nat.le_refl _),q1 S' M' σ' H' f' k'⟩
def dWh(c:DT)(b:DB):Nat->DS->Option Out
 |0,_=>none
 | n + 1, τ => (c τ).bind fun p => if p.1 = true then (b p.2).bind fun o => (match o with
   |.nx τ2=>dWh c b n τ2
   |.ct τ2=>dWh c b n τ2
   |.bk τ2=>some (.nx τ2)
   |.rt d τ2=>some (.rt d τ2)) else some (.nx p.2)
def O4(n:DS->Nat)(c:DT)(b:DB)(τ:DS):Option Out:=dWh c b (n τ) τ
theorem VO{fr:Bool}{n:DS->Nat}{tc:TT}{tb:TS}{c:DT}{b:DB}(hc:T K tc c)(hb:B K np tb fr b):B K np (Z7 tc tb) fr (O4 n c b):=by
 intro F S M τ σ H D out hnp f ee q
 unfold O4 at ee
 refine⟨fun m σ' H'=>∃S' M' τ',RF K F S' M' τ' σ' H'/\Keep S H S' H'/\dWh c b m τ'=some out,⟨n τ,S,M,τ,f,.refl,ee⟩,?_⟩
 rintro m σ' H' ⟨S',M',τ',f',k',hl⟩
 cases m with
 |zero=>cases hl
 |succ m =>
  rw[dWh]at hl
  obtain⟨⟨k,τ1⟩,e1,hl⟩:=oB hl
  refine hc.run S' M' τ' σ' H' _ k τ1 f'.r e1 fun H1 r1 c1=>?_
  have f1:=f'.step r1 c1 (hc.like _ _ _ e1)
  have k1:=k'.trans (c1.keep f'.r.sub)
  cases k with
  |false =>
   rw[if_neg Bool.false_ne_true]at hl ⊢
   cases hl
   exact q S' M' σ' H1 f1 k1
  |true =>
   rw[if_pos rfl]at hl ⊢
   obtain⟨o,e3,hl⟩:=oB hl
   refine⟨fun σ2 H2=>∃S2 M2 τ2,RF K F S2 M2 τ2 σ2 H2/\Keep S H S2 H2/\dWh c b m τ2=some out,fun σ2 H2 h=>⟨m,Nat.lt_succ_self _,h⟩,?_⟩
   refine hb F S' M' τ1 σ' H1 _ o hnp f1 e3 ?_
   cases o with
   |nx τ4=>exact fun S4 M4 σ4 H4 f4 k4=>⟨S4,M4,τ4,f4,k1.trans k4,hl⟩
   |ct τ4=>exact fun S4 M4 σ4 H4 f4 k4=>⟨S4,M4,τ4,f4,k1.trans k4,hl⟩
   |bk τ4=>cases hl;exact fun S4 M4 σ4 H4 f4 k4=>q S4 M4 σ4 H4 f4 (k1.trans k4)
   |rt d τ4=>cases hl;exact fun S4 M4 σ4 H4 v f4 k4=>q S4 M4 σ4 H4 v f4 k4
def fin:List L->DS->Option (List L)
 |[],_=>some []
 |.d x::ls,_::τ=>(fin ls τ).map (.d x::·)
 |.c x::ls,_::τ=>(fin ls τ).map (.c x::·)
 |.m _::ls,some (.m xs)::τ=>(fin ls τ).map (.m xs::·)
 |.k _::ls,some (.k xs)::τ=>(fin ls τ).map (.k xs::·)
 |_,_=>none
def Bo(fr:Bool)(np nl:Nat)(b:DB)(ls:List L):Option (PyData×List L):=if ls.length=np then (b (ls.map some++List.replicate nl none)).bind fun o=>match o with
  |.nx τ=>if fr=true then none else (fin ls τ).map fun ls'=>(.none,ls')
  |.rt d τ=>(fin ls τ).map fun ls'=>(d,ls')
  |_=>none
 else none
theorem IZ:∀{ls:List L} {τ:DS} {ls':List L} {i:Nat} {l:L},fin ls τ=some ls'->ls'[i]?=some l->match l with
  |.d x=>ls[i]?=some (.d x)
  |.c x=>ls[i]?=some (.c x)
  |.m xs=>(∃ys,ls[i]?=some (.m ys))/\τ[i]?=some (some (.m xs))
  |.k xs=>(∃ys,ls[i]?=some (.k ys))/\τ[i]?=some (some (.k xs))
  |.g _=>False
 |[],_,_,_,_,h,e=>by cases h;simp at e
 |.d x::ls,o::τ,_,i,l,h,e=>by
  obtain⟨zs,h1,h⟩:=oM h
  subst h
  cases i with
  |zero=>cases e;rfl
  |succ i =>
   have:=IZ (i:=i) (l:=l) h1 (by simpa using e)
   cases l<;>simpa using this
 |.c x::ls,o::τ,_,i,l,h,e=>by
  obtain⟨zs,h1,h⟩:=oM h
  subst h
  cases i with
  |zero=>cases e;rfl
  |succ i =>
   have:=IZ (i:=i) (l:=l) h1 (by simpa using e)
   cases l<;>simpa using this
 |.m x::ls,some (.m xs)::τ,_,i,l,h,e=>by
  obtain⟨zs,h1,h⟩:=oM h
  subst h
  cases i with
  |zero=>cases e;exact⟨⟨_,rfl⟩,rfl⟩
  |succ i =>
   have:=IZ (i:=i) (l:=l) h1 (by simpa using e)
   cases l<;>simpa using this
 |.k x::ls,some (.k xs)::τ,_,i,l,h,e=>by
  obtain⟨zs,h1,h⟩:=oM h
  subst h
  cases i with
  |zero=>cases e;exact⟨⟨_,rfl⟩,rfl⟩
  |succ i =>
   have:=IZ (i:=i) (l:=l) h1 (by simpa using e)
   cases l<;>simpa using this
theorem N6:∀{ls:List L} {τ:DS} {ls':List L},fin ls τ=some ls'->ls'.length=ls.length
 |[],_,_,h=>by cases h;rfl
 |.d x::ls,o::τ,_,h=>by
  obtain⟨zs,h1,h⟩:=oM h
  subst h
  rw[List.length_cons,List.length_cons,N6 h1]
 |.c x::ls,o::τ,_,h=>by
  obtain⟨zs,h1,h⟩:=oM h
  subst h
  rw[List.length_cons,List.length_cons,N6 h1]
 |.m x::ls,some (.m xs)::τ,_,h=>by
  obtain⟨zs,h1,h⟩:=oM h
  subst h
  rw[List.length_cons,List.length_cons,N6 h1]
 |.k x::ls,some (.k xs)::τ,_,h=>by
  obtain⟨zs,h1,h⟩:=oM h
  subst h
  rw[List.length_cons,List.length_cons,N6 h1]
theorem TQ:∀{ls:List L} {τ:DS} {ls':List L},fin ls τ=some ls'->∀(i:Nat) (d:PyData),ls[i]?≠some (.g d)
 |[],_,_,_,i,d=>by simp
 |.d x::ls,o::τ,_,h,i,d=>by
  obtain⟨zs,h1,h⟩:=oM h
  cases i with
  |zero=>simp
  |succ i=>simpa using TQ h1 i d
 |.c x::ls,o::τ,_,h,i,d=>by
  obtain⟨zs,h1,h⟩:=oM h
  cases i with
  |zero=>simp
  |succ i=>simpa using TQ h1 i d
 |.m x::ls,some (.m xs)::τ,_,h,i,d=>by
  obtain⟨zs,h1,h⟩:=oM h
  cases i with
  |zero=>simp
  |succ i=>simpa using TQ h1 i d
 |.k x::ls,some (.k xs)::τ,_,h,i,d=>by
  obtain⟨zs,h1,h⟩:=oM h
  cases i with
  |zero=>simp
  |succ i=>simpa using TQ h1 i d
theorem U7{ls:List L}{τ:DS}{ls':List L}{i:Nat}{x:Ow}(h:fin ls τ=some ls')(e:ls'[i]?=some x.L):(∃ys:Ow,ls[i]?=some ys.L)/\τ[i]?=some (some x.L):=by
 cases x with
 |l xs=>obtain⟨⟨ys,h1⟩,h2⟩:=IZ h e;exact⟨⟨.l ys,h1⟩,h2⟩
 |t xs=>obtain⟨⟨ys,h1⟩,h2⟩:=IZ h e;exact⟨⟨.t ys,h1⟩,h2⟩
theorem HL{α β:Type}{f:α->β}{xs:List α}{i:Nat}{y:β}(h:(xs.map f)[i]?=some y):∃x,xs[i]?=some x/\f x=y:=by
 rw[List.getElem?_map]at h
 cases e:xs[i]? with
 |none=>rw[e]at h;cases h
 |some x=>rw[e]at h;exact⟨x,rfl,Option.some.inj h⟩
theorem Ba{G:List L->Option (PyData×List L)}{fr:Bool}{vs:List V}{H:Hp}{Q:VK}{X:XK}{np:Nat}(hG:∀ls r,G ls=some r->ls.length=np)(h:spD K G fr vs H Q X):vs.length=np:=by
 obtain⟨S,M,ls,r,ls',hR,e,_⟩:=h
 have:=hR.len
 rw[List.length_map,List.length_map]at this
 rw[this,hG _ _ e]
theorem Ak{fr:Bool}{np nl:Nat}{b:DB}:∀ls r,Bo fr np nl b ls=some r->ls.length=np:=fun ls r h=>by
 unfold Bo at h
 split at h
 ·assumption
 ·cases h
theorem BZ{np nl:Nat}{t:TS}{fr:Bool}{b:DB}{N:List Str}{vs:List V}{H:Hp}{Q:VK}{X:XK}(hb:B K np t fr b)(hN:N.length=np+nl)(h:spD K (Bo fr np nl b) fr vs H Q X):t { nx:=fun _ H'=>Q .non H',rt:=Q } (L2.start N vs) H:=by
 obtain⟨S,M,ls,r,ls',hR,e,q⟩:=h
 have hlen:=Ak _ _ e
 have hvl:vs.length=ls.length:=by have:=hR.len;rw[List.length_map,List.length_map]at this;exact this
 unfold Bo at e
 rw[if_pos hlen]at e
 obtain⟨o,e1,e⟩:=oB e
 have est:L2.start N vs=vs.map some++List.replicate nl none:=by
  unfold L2.start
  rw[hN,hvl,hlen,Nat.add_sub_cancel_left]
 rw[est]
 -- the entry
 have lsm:∀(i:Nat) (l:L),(ls.map some++List.replicate nl none:DS)[i]?=some (some l)->ls[i]?=some l:=fun i l h=>by
  by_cases hi:i<ls.length
  ·rw[List.getElem?_append_left (by rw[List.length_map];exact hi)]at h
   obtain⟨x,h1,h2⟩:=HL h
   cases h2;exact h1
  ·rw[List.getElem?_append_right (by rw[List.length_map];omega),List.getElem?_replicate]at h
   split at h<;>cases h
 have vsm:∀(i:Nat) (v:V),(vs.map some)[i]?=some (some v)->(vs.map some++List.replicate nl none:St)[i]?=some (some v):=fun i v h=>by
  rw[List.getElem?_append_left (List.getElem?_eq_some_iff.mp h).1];exact h
 have vsb:∀(i:Nat) (v:V),(vs.map some++List.replicate nl none:St)[i]?=some (some v)->(vs.map some)[i]?=some (some v):=fun i v h=>by
  by_cases hi:i<(vs.map some).length
  ·rw[List.getElem?_append_left hi]at h;exact h
  ·rw[List.getElem?_append_right (by omega),List.getElem?_replicate]at h
   split at h<;>cases h
 have lm:∀(i:Nat) (l:L),ls[i]?=some l->(ls.map some)[i]?=some (some l):=fun i l h=>by rw[List.getElem?_map,h];rfl
 let Mx:Addr->Prop:=fun a=>∃(i:Nat) (xs:Ow),ls[i]?=some xs.L/\vs[i]?=some (.ref a)
 let ar:List (Option V):=(ls.zip vs).map fun p=>match p.1 with
  |.m _=>some p.2
  |.k _=>some p.2
  |_=>none
 have arg:∀(i:Nat) (v:V),ar[i]?=some (some v)->∃xs:Ow,ls[i]?=some xs.L/\vs[i]?=some v:=fun i v h=>by
  obtain⟨⟨l,u⟩,h1,h2⟩:=HL h
  rw[List.getElem?_zip_eq_some]at h1
  cases l with
  |d x=>cases h2
  |c x=>cases h2
  |m xs=>cases h2;exact⟨.l xs,h1.1,h1.2⟩
  |k xs=>cases h2;exact⟨.t xs,h1.1,h1.2⟩
  |g x=>cases h2
 have gar:∀(i:Nat) (xs:Ow) (v:V),ls[i]?=some xs.L->vs[i]?=some v->ar[i]?=some (some v):=fun i xs v h1 h2=>by
  show((ls.zip vs).map _)[i]?=_
  rw[List.getElem?_map,(List.getElem?_zip_eq_some (z:=(xs.L,v))).mpr ⟨h1,h2⟩]
  cases xs<;>rfl
 have Msub:∀a,Mx a->M a:=fun a ⟨i,xs,h1,h2⟩=>by
  obtain⟨b',us,h3,h4,_⟩:=hR.mt i xs (lm i _ h1)
  rw[List.getElem?_map,h2]at h3
  cases h3;exact h4
 have hng:∀(i:Nat) (d:PyData),ls[i]?≠some (.g d):=by
  cases o with
  |nx τ' =>
   cases fr with
   |false=>obtain⟨ls1,e2,_⟩:=oM e;exact TQ e2
   |true=>cases e
  |bk τ'=>cases e
  |ct τ'=>cases e
  |rt d τ'=>obtain⟨ls1,e2,_⟩:=oM e;exact TQ e2
 have f0:RF K ⟨S,Mx,H,ar⟩ S Mx (ls.map some++List.replicate nl none) (vs.map some++List.replicate nl none) H:=by
  refine ⟨⟨by simp [hvl], fun i x h => ?_, fun i x h => ?_, fun i x h => ?_, fun i j xs ys a h1 h2 h3 h4 => hR.inj i j xs ys a (lm _ _ (lsm _ _ h1)) (lm _ _ (lsm _ _ h2)) (vsb _ _ h3) (vsb _ _ h4), fun a h => hR.sub a (Msub a h), hR.ex, GR.nil fun i d h => hng i d (lsm i _ h)⟩,
   fun a h=>h,fun b o h _=>h,fun a h=>.inl h,fun a h=>h,hR.ex,fun a h=>hR.sub a (Msub a h),fun a h=>.inl h,fun i v h=>?_,fun i v h=>?_,fun a ⟨i,xs,h1,h2⟩=>⟨i,gar i xs _ h1 h2⟩⟩
  ·obtain⟨v,h1,h2⟩:=hR.dat i x (lm _ _ (lsm _ _ h))
   exact⟨v,vsm _ _ h1,h2⟩
  ·obtain⟨a,us,h1,h2,h3,h4⟩:=hR.mt i x (lm _ _ (lsm _ _ h))
   refine⟨a,us,vsm _ _ h1,⟨i,x,lsm _ _ h,?_⟩,h3,h4⟩
   obtain⟨v,h5,h6⟩:=HL h1
   cases h6;exact h5
  ·obtain⟨a,us,h1,h2⟩:=hR.cst i x (lm _ _ (lsm _ _ h))
   exact⟨a,us,vsm _ _ h1,h2⟩
  ·obtain⟨xs,h1,h2⟩:=arg i v h
   exact vsm _ _ (by rw[List.getElem?_map,h2];rfl)
  ·obtain⟨xs,h1,h2⟩:=arg i v h
   refine⟨xs,?_⟩
   rw[List.getElem?_append_left (by rw[List.length_map];exact(List.getElem?_eq_some_iff.mp h1).1)]
   exact lm _ _ h1
 have hnp:ar.length<=np:=by
  show((ls.zip vs).map _).length<=np
  rw[List.length_map,List.length_zip]
  omega
 -- the end
 have done:∀{S' M' τ' σ' H' d v} {ls1:List L},RF K ⟨S,Mx,H,ar⟩ S' M' τ' σ' H'->fin ls τ'=some ls1->(r,ls')=(d,ls1)->Res K fr S H H' d v->Q v H':=fun {S' M' τ' σ' H' d v ls1} f hf er res=>by
  cases er
  have k:Keep S H S H':=fun b o hn e=>⟨hn,f.old b o e fun z=>hn (hR.sub b (Msub b z))⟩
  refine q v H' ⟨?_,fun i x h=>?_,fun i x h=>?_,fun i x h=>?_,fun i j xs ys a h1 h2 h3 h4=>?_,hR.sub,fun a h=>f.r.ex a (f.sS a h),GR.nil fun i d h=>?_⟩ (fun b o hn e=>f.old b o e fun z=>hn (Msub b z)) res
  ·rw[List.length_map,List.length_map,N6 hf,hvl]
  ·obtain⟨l,h1,h2⟩:=HL h
   cases h2
   have:=IZ hf h1
   obtain⟨v,h3,h4⟩:=hR.dat i x (lm _ _ this)
   exact⟨v,h3,h4.mono k.same⟩
  ·obtain⟨l,h1,h2⟩:=HL h
   cases h2
   obtain⟨⟨ys,h3⟩,h4⟩:=U7 hf h1
   obtain⟨a,us,h5,h6,h7,h8⟩:=f.r.mt i x h4
   obtain⟨b,ws,g1,g2,_⟩:=hR.mt i ys (lm _ _ h3)
   obtain⟨u,g3,g4⟩:=HL g1
   cases g4
   have:=f.par i _ (gar i ys _ h3 g3)
   rw[h5]at this;cases this
   exact⟨a,us,g1,g2,h7,h8.mono (JB f.sS)⟩
  ·obtain⟨l,h1,h2⟩:=HL h
   cases h2
   have:=IZ hf h1
   obtain⟨a,us,h3,h4,h5⟩:=hR.cst i x (lm _ _ this)
   exact⟨a,us,h3,k.same.seq h4,h5.mono k.same⟩
  ·obtain⟨l1,g1,g2⟩:=HL h1
   obtain⟨l2,g3,g4⟩:=HL h2
   cases g2;cases g4
   obtain⟨⟨zs,h5⟩,_⟩:=U7 hf g1
   obtain⟨⟨ws,h6⟩,_⟩:=U7 hf g3
   exact hR.inj i j zs ws a (lm _ _ h5) (lm _ _ h6) h3 h4
  ·obtain⟨l,h1,h2⟩:=HL h
   cases h2
   exact IZ hf h1
 refine hb ⟨S,Mx,H,ar⟩ S Mx _ _ H _ o hnp f0 e1 ?_
 cases o with
 |nx τ' =>
  cases fr with
  |false =>
   obtain⟨ls1,e2,e⟩:=oM e
   intro S' M' σ' H' f k
   exact done f e2 e.symm rfl
  |true=>cases e
 |bk τ'=>cases e
 |ct τ'=>cases e
 |rt d τ' =>
  obtain⟨ls1,e2,e⟩:=oM e
  intro S' M' σ' H' v f res
  exact done f e2 e.symm res
end DL
end
section
namespace DL
open PySem L2 PyProof.Rows
variable {K:KW}
def Bz:List PyData->Option PyData
 |[.list xs]=>some (.int xs.length)
 |[.tuple xs]=>some (.int xs.length)
 |[.str x]=>if x.length<=sizeLine then some (.int x.length) else none
 |_=>none
theorem DV:BR K false (fun xs H Q=>∃x n,xs=[x]/\gy K x H n/\Q (.int n) H) Bz:=by
 intro S H vs ds d Q _ l e q
 unfold Bz at e
 split at e
 ·cases e
  obtain⟨v,us,rfl,⟨a,ws,rfl,h,lw⟩,iu⟩:=l
  cases (show us=[] from iu)
  exact⟨_,ws.length,rfl,.inl ⟨ws,SqL.of (hid_iff.mp h).2,rfl⟩,q _ H (fun _ _ e=>e) (by rw[lw.length];rfl)⟩
 ·cases e
  obtain⟨v,us,rfl,⟨a,ws,rfl,h,lw⟩,iu⟩:=l
  cases (show us=[] from iu)
  exact⟨_,ws.length,rfl,.inr ⟨ws,Same.tup same_hid h,rfl⟩,q _ H (fun _ _ e=>e) (by rw[lw.length];rfl)⟩
 ·split at e
  ·rename_i hz
   cases e
   obtain⟨v,us,rfl,iv,iu⟩:=l
   cases (show us=[] from iu)
   cases (show v = .str _ from iv)
   exact⟨_,_,rfl,⟨hz,rfl⟩,q _ H (fun _ _ e=>e) rfl⟩
  ·cases e
 ·cases e
def f1(g:Int->Int):List PyData->Option PyData
 |[.int i]=>some (.int (g i))
 |_=>none
def f2(g:Int->Int->Int):List PyData->Option PyData
 |[.int i,.int j]=>some (.int (g i j))
 |_=>none
theorem c_1{g:Int->Int}:BR K false (fun xs H Q=>∃i,xs=[.int i]/\Q (.int (g i)) H) (f1 g):=by
 intro S H vs ds d Q _ l e q
 unfold f1 at e
 split at e
 ·cases e
  obtain⟨v,us,rfl,iv,iu⟩:=l
  cases (show us=[] from iu)
  cases (show v = .int _ from iv)
  exact⟨_,rfl,q _ H (fun _ _ e=>e) rfl⟩
 ·cases e
theorem c_2{g:Int->Int->Int}:BR K false (fun xs H Q=>∃i j,xs=[.int i,.int j]/\Q (.int (g i j)) H) (f2 g):=by
 intro S H vs ds d Q _ l e q
 unfold f2 at e
 split at e
 ·cases e
  obtain⟨v,us,rfl,iv,w,us',rfl,iw,iu⟩:=l
  cases (show us'=[] from iu)
  cases (show v = .int _ from iv)
  cases (show w = .int _ from iw)
  exact⟨_,_,rfl,q _ H (fun _ _ e=>e) rfl⟩
 ·cases e
def NB:=f1 fun i=>if i<0 then -i else i
def JG:=f2 fun i j=>if j>i then j else i
def JF:=f2 fun i j=>if j<i then j else i
theorem bj:BR K false (fun xs H Q=>∃i,xs=[.int i]/\Q (.int (if i<0 then -i else i)) H) NB:=c_1
theorem gY:BR K false (fun xs H Q=>∃i j,xs=[.int i,.int j]/\Q (.int (if j>i then j else i)) H) JG:=c_2
theorem gW:BR K false (fun xs H Q=>∃i j,xs=[.int i,.int j]/\Q (.int (if j<i then j else i)) H) JF:=c_2
def Lo:List PyData->Option PyData
 |[.int i]=>some (.int i)
 |[.bool b]=>some (.int (if b then 1 else 0))
 |_=>none
def PR:List PyData->Option (List Int)
 |[]=>some []
 |.int i::r=>(PR r).map (i::·)
 |_::_=>none
def Nn:List Int->Int
 |[]=>0
 |[x]=>x
 |x::y::r=>if x<=Nn (y::r) then x else Nn (y::r)
def Np:List Int->Int
 |[]=>0
 |[x]=>x
 |x::y::r=>if Np (y::r)<=x then x else Np (y::r)
theorem Oa:∀{ns:List Int},ns≠[]->Nn ns∈ns/\∀b∈ns,Nn ns<=b
 |[],h=>absurd rfl h
 |[x],_=>⟨List.mem_cons_self,fun b hb=>by simp at hb;rw[hb];exact Int.le_refl _⟩
 |x::y::r,_=>by
  obtain⟨h1,h2⟩:=Oa (ns:=y::r) (by simp)
  rw[Nn]
  by_cases h:x<=Nn (y::r)
  ·rw[if_pos h]
   refine⟨List.mem_cons_self,fun b hb=>?_⟩
   rcases List.mem_cons.mp hb with e|e
   ·rw[e];exact Int.le_refl _
   ·exact Int.le_trans h (h2 b e)
  ·rw[if_neg h]
   refine⟨List.mem_cons_of_mem _ h1,fun b hb=>?_⟩
   rcases List.mem_cons.mp hb with e|e
   ·rw[e];omega
   ·exact h2 b e
theorem Ob:∀{ns:List Int},ns≠[]->Np ns∈ns/\∀b∈ns,b<=Np ns
 |[],h=>absurd rfl h
 |[x],_=>⟨List.mem_cons_self,fun b hb=>by simp at hb;rw[hb];exact Int.le_refl _⟩
 |x::y::r,_=>by
  obtain⟨h1,h2⟩:=Ob (ns:=y::r) (by simp)
  rw[Np]
  by_cases h:Np (y::r)<=x
  ·rw[if_pos h]
   refine⟨List.mem_cons_self,fun b hb=>?_⟩
   rcases List.mem_cons.mp hb with e|e
   ·rw[e];exact Int.le_refl _
   ·exact Int.le_trans (h2 b e) h
  ·rw[if_neg h]
   refine⟨List.mem_cons_of_mem _ h1,fun b hb=>?_⟩
   rcases List.mem_cons.mp hb with e|e
   ·rw[e];omega
   ·exact h2 b e
theorem cX{ns:List Int}{m:Int}(h1:m∈ns)(h2:∀b∈ns,m<=b):Nn ns=m:=by
 obtain⟨a,b⟩:=Oa (ns:=ns) (by intro z;rw[z]at h1;simp at h1)
 have:=b m h1
 have:=h2 _ a
 omega
theorem cZ{ns:List Int}{m:Int}(h1:m∈ns)(h2:∀b∈ns,b<=m):Np ns=m:=by
 obtain⟨a,b⟩:=Ob (ns:=ns) (by intro z;rw[z]at h1;simp at h1)
 have:=b m h1
 have:=h2 _ a
 omega
theorem Oe:∀{ns:List Int} {vs:List Value},Vals (ns.map V.int) vs->IntsAre vs ns
 |[],_,h=>by cases h;exact .nil
 |n::ns,_,h=>by
  cases h with
  |cons r rr =>
   obtain⟨t,rfl⟩:=r
   exact .cons n t (Oe rr)
theorem Uy{H:Hp}:∀{ds:List PyData} {vs:List V} {ns:List Int},IsL K H ds vs->PR ds=some ns->vs=ns.map V.int
 |[],_,_,h,e=>by cases e;exact h
 |.int i::r,_,_,⟨v,us,e1,iv,l⟩,e=>by
  obtain⟨ms,e2,e⟩:=oM e
  subst e
  cases (show v = .int i from iv)
  rw[e1,Uy l e2]
  rfl
 |.none::_,_,_,_,e=>by cases e
 |.bool _::_,_,_,_,e=>by cases e
 |.str _::_,_,_,_,e=>by cases e
 |.list _::_,_,_,_,e=>by cases e
 |.tuple _::_,_,_,_,e=>by cases e
 |.dict _::_,_,_,_,e=>by cases e
def dz(K:KW):List V->Hp->VK->Prop:=fun xs H Q=>∃a ns,xs=[.ref a]/\SqL K H a (ns.map V.int)/\ns≠[]/\Q (.int (Nn ns)) H
def eA(K:KW):List V->Hp->VK->Prop:=fun xs H Q=>∃a ns,xs=[.ref a]/\SqL K H a (ns.map V.int)/\ns≠[]/\Q (.int (Np ns)) H
theorem Zv{X:Cx}(hc:X.calm=true):K8 X (.builtin "min") (dz (Nr X)):=by
 intro pins s σ H xs us Q I r h
 obtain⟨a,ns,rfl,hs,hne,q⟩:=h
 obtain⟨u,rfl,ru⟩:=QD r
 cases ru
 obtain⟨its,rv,p,hz⟩:=I.list hs
 have hi:=Oe rv
 obtain⟨xs,e⟩:=hi.allInts.items
 have hns:ns=xs.toList.map (·.1):=by rw[<- hi.numsOf,<- nums_intItems,<- e]
 have hsz:0<xs.size:=by
  have:0<ns.length:=List.length_pos_iff.mpr hne
  rw[hns,List.length_map,Array.length_toList]at this;exact this
 have hl:=p.isList
 rw[e]at hl
 refine min_intList (I.ok.hd hc) hl hsz fun v h' tk hv hk=>?_
 obtain⟨t,rfl⟩:=intItems_at hv
 obtain⟨h1,h2⟩:=argBest_lt (numAt xs) (xs.size-1)
 refine⟨.int (Nn ns),H,I.kept hk,⟨t,?_⟩,q⟩
 rw[cX (m:=numAt xs (argBest (fun i j=>decide (numAt xs i<numAt xs j)) (xs.size-1)))]
 ·rw[hns,numAt_eq];exact getD_mem (by rw[List.length_map,Array.length_toList];omega)
 ·intro b hb
  rw[hns]at hb
  obtain⟨j,hj,rfl⟩:=mem_getD hb
  rw[List.length_map,Array.length_toList]at hj
  rw[<- numAt_eq];exact h2 j (by omega)
theorem Zx{X:Cx}(hc:X.calm=true):K8 X (.builtin "max") (eA (Nr X)):=by
 intro pins s σ H xs us Q I r h
 obtain⟨a,ns,rfl,hs,hne,q⟩:=h
 obtain⟨u,rfl,ru⟩:=QD r
 cases ru
 obtain⟨its,rv,p,hz⟩:=I.list hs
 have hi:=Oe rv
 obtain⟨xs,e⟩:=hi.allInts.items
 have hns:ns=xs.toList.map (·.1):=by rw[<- hi.numsOf,<- nums_intItems,<- e]
 have hsz:0<xs.size:=by
  have:0<ns.length:=List.length_pos_iff.mpr hne
  rw[hns,List.length_map,Array.length_toList]at this;exact this
 have hl:=p.isList
 rw[e]at hl
 refine max_intList (I.ok.hd hc) hl hsz fun v h' tk hv hk=>?_
 obtain⟨t,rfl⟩:=intItems_at hv
 obtain⟨h1,h2⟩:=argBest_gt (numAt xs) (xs.size-1)
 refine⟨.int (Np ns),H,I.kept hk,⟨t,?_⟩,q⟩
 rw[cZ (m:=numAt xs (argBest (fun i j=>decide (numAt xs i>numAt xs j)) (xs.size-1)))]
 ·rw[hns,numAt_eq];exact getD_mem (by rw[List.length_map,Array.length_toList];omega)
 ·intro b hb
  rw[hns]at hb
  obtain⟨j,hj,rfl⟩:=mem_getD hb
  rw[List.length_map,Array.length_toList]at hj
  rw[<- numAt_eq];exact h2 j (by omega)
def Wf:List PyData->Option PyData
 |[.list xs]=>(PR xs).bind fun ns=>if ns=[] then none else some (.int (Nn ns))
 |_=>none
def Wg:List PyData->Option PyData
 |[.list xs]=>(PR xs).bind fun ns=>if ns=[] then none else some (.int (Np ns))
 |_=>none
theorem gU:BR K false (dz K) Wf:=by
 intro S H vs ds d Q _ l e q
 unfold Wf at e
 split at e
 ·obtain⟨ns,e1,e⟩:=oB e
  split at e
  ·cases e
  ·rename_i hne
   cases e
   obtain⟨v,us,rfl,⟨a,ws,rfl,h,lw⟩,iu⟩:=l
   cases (show us=[] from iu)
   rw[Uy lw e1]at h
   exact⟨a,ns,rfl,SqL.of (hid_iff.mp h).2,hne,q _ H (fun _ _ e=>e) rfl⟩
 ·cases e
theorem gX:BR K false (eA K) Wg:=by
 intro S H vs ds d Q _ l e q
 unfold Wg at e
 split at e
 ·obtain⟨ns,e1,e⟩:=oB e
  split at e
  ·cases e
  ·rename_i hne
   cases e
   obtain⟨v,us,rfl,⟨a,ws,rfl,h,lw⟩,iu⟩:=l
   cases (show us=[] from iu)
   rw[Uy lw e1]at h
   exact⟨a,ns,rfl,SqL.of (hid_iff.mp h).2,hne,q _ H (fun _ _ e=>e) rfl⟩
 ·cases e
def EA:List PyData->Option PyData
 |[.list xs]=>some (.list xs)
 |[.tuple xs]=>some (.list xs)
 |_=>none
theorem bh:BR K true (fun xs H Q=>∃p ys,xs=[.ref p]/\(SqL K H p ys\/SqT K H p ys)/\∀l,H l=none->Q (.ref l) (upd H l (.lst ys))) EA:=by
 intro S H vs ds d Q _ l e q
 unfold EA at e
 split at e
 ·cases e
  obtain⟨v,us,rfl,⟨a,ws,rfl,h,lw⟩,iu⟩:=l
  cases (show us=[] from iu)
  exact⟨a,ws,rfl,.inl (SqL.of (hid_iff.mp h).2),fun p hp=>q _ _ (En hp _) (P0 hp lw)⟩
 ·cases e
  obtain⟨v,us,rfl,⟨a,ws,rfl,h,lw⟩,iu⟩:=l
  cases (show us=[] from iu)
  exact⟨a,ws,rfl,.inr (Same.tup same_hid h),fun p hp=>q _ _ (En hp _) (P0 hp lw)⟩
 ·cases e
def tyN:PyData->String
 |.none=>"NoneType"
 |.bool _=>"bool"
 |.int _=>"int"
 |.str _=>"str"
 |.list _=>"list"
 |.tuple _=>"tuple"
 |.dict _=>"dict"
def iL(K:KW):List V->Hp->VK->Prop:=fun xs H Q=>∃x T d b,xs=[x,.ty T]/\Is K H d x/\PySem.W.kitOne K (.type (tyN d)) (.type T)=some b/\Q (.bl b) H
theorem CB{X:Cx}:K8 X (.builtin "isinstance") (iL (Nr X)):=by
 intro pins s σ H xs us Q I r h
 obtain⟨x,T,d,b,rfl,ix,k,q⟩:=h
 obtain⟨u,w',rfl,rx,rT⟩:=Z0 r
 cases (show w'=Value.type T from rT)
 have fin:∀tk,EP X pins σ Q (.bool b) { s with toks:=tk }:=fun tk=>⟨.bl b,H,I.tok _,rfl,q⟩
 cases d with
 |none=>cases (show x = .non from ix);exact J8 I rx .non k fin
 |bool y=>cases (show x = .bl y from ix);exact J8 I rx (.bl y) k fin
 |int y=>cases (show x = .int y from ix);exact J8 I rx (.int y) k fin
 |str y=>cases (show x = .str y from ix);exact J8 I rx (.str y) k fin
 |list y=>obtain⟨a,vs,rfl,h,_⟩:=ix;exact J8 I rx (.lst h) k fin
 |tuple y =>
  obtain⟨a,vs,rfl,h,_⟩:=ix
  cases (show u=Value.ref a from rx)
  obtain⟨its,_,⟨o,h1,h2,_⟩,_⟩:=I.tuple h
  exact PySem.W.kia_one PySem.W.kitx_tuple I.kIn ⟨o,h1,h2⟩ k (fun z=>nomatch z) fin
 |dict y =>
  obtain⟨a,ts,rfl,⟨ep,h⟩,_⟩:=ix
  cases (show u=Value.ref a from rx)
  obtain⟨⟨_,_,_,xs,pr,o,es,ho,he,hd,hes⟩,_,_⟩:=(show ObjOk X.prog X.w H s.heap a (.ext (cI a ts ep)) from I.hok a _ h)
  exact PySem.W.kia_one PySem.W.kitx_dict I.kIn ⟨o,ho,he.1⟩ k (fun z=>nomatch z) fin
def ic(T t:String):Bool:=t==T||(T=="int"&&t=="bool")
def J9(T:String)(d:PyData):Bool:=ic T (tyN d)
def fJ(T:String):Bool:=["int","bool","str","list","tuple"].contains T
theorem ZV{T t:String}(hT:T∈["int","bool","str","list","tuple"])(ht:t∈["NoneType","bool","int","str","list","tuple","dict"]):PySem.W.kitOne K (.type t) (.type T)=some (ic T t):=by
 simp only[List.mem_cons,List.not_mem_nil,or_false]at hT ht
 rcases hT with rfl|rfl|rfl|rfl|rfl<;>rcases ht with rfl|rfl|rfl|rfl|rfl|rfl|rfl<;>first
  |exact bF _
  |exact fv (by decide +kernel) (by decide +kernel) (by decide +kernel)
theorem cj{T:String}{d:PyData}(h:fJ T=true):PySem.W.kitOne K (.type (tyN d)) (.type T)=some (J9 T d) :=
 ZV (by simpa[fJ] using h) (by cases d<;>simp[tyN])
def FN(T:String)(a:DX)(τ:DS):Option (PyData×DS):=(a τ).bind fun p=>if fJ T then some (.bool (J9 T p.1),p.2) else none
theorem Gb{T:String}{fr:Bool}{t:TE}{a:DX}(ha:E K t fr a):E K (tCB (iL K) (Sr t (Sr (tC (.ty T)) XC))) false (FN T a):=by
 refine⟨fun τ d τ' e=>?_,?_⟩
 ·unfold FN at e
  obtain⟨⟨x,τ1⟩,e1,e⟩:=oB e
  split at e
  ·cases e;exact ha.like _ _ _ e1
  ·cases e
 intro S M τ σ H Q d τ' r e q
 unfold FN at e
 obtain⟨⟨x,τ1⟩,e1,e⟩:=oB e
 split at e
 ·rename_i hT
  cases e
  refine ha.weak.run S M τ σ H _ x _ r e1 fun v H1 r1 c1 i1=>?_
  exact⟨v,T,x,_,rfl,Is.mono same_hid i1,cj hT,q _ H1 r1 c1 rfl⟩
 ·cases e
def Ea(i j:Nat)(a:DA)(τ:DS):Option Out:=(a τ).bind fun p=>(Cy p.1).bind fun ds=>match ds with
 |[x,y]=>(dN i x p.2).bind fun τ1=>(dN j y τ1).map .nx
 |_=>none
theorem fB{np:Nat}{fr:Bool}{i j:Nat}{ta:TA}{a:DA}(ha:A K ta a):B K np (hX i j ta) fr (Ea i j a):=by
 intro F S M τ σ H D out hnp f ee q
 unfold Ea at ee
 obtain⟨⟨x,τ1⟩,e1,ee⟩:=oB ee
 obtain⟨ds,e2,ee⟩:=oB ee
 split at ee
 ·rename_i x y
  obtain⟨τ2,e3,ee⟩:=oB ee
  obtain⟨τ3,e4,ee⟩:=oM ee
  cases ee
  refine ha.run S M τ σ H _ _ τ1 f.r e1 fun vs H1 r1 c1 i1=>?_
  obtain⟨v,us,rfl,iv,w,us',rfl,iw,iu⟩:=Ho i1 e2
  cases (show us'=[] from iu)
  refine⟨v,w,rfl,?_⟩
  have f1:=f.step r1 c1 (ha.like _ _ _ e1)
  refine(AZ (K:=K) (i:=i)).run S M τ1 σ H1 v x τ2 (fun σ' H'=>D.nx (σ'.set j (some w)) H') r1 iv e3 fun σ2 r2 k2=>?_
  have f2:=f1.stay r2 ((AZ (K:=K) (i:=i)).ms _ _ _ e3) k2
  refine(AZ (K:=K) (i:=j)).run S M τ2 σ2 H1 w y τ3 (fun σ' H'=>D.nx σ' H') r2 iw e4 fun σ3 r3 k3=>?_
  exact q S M σ3 H1 (f2.stay r3 ((AZ (K:=K) (i:=j)).ms _ _ _ e4) k3) (c1.keep f.r.sub)
 ·cases ee
end DL
end
section
namespace DL
open PySem L2
variable {K:KW}
def FL(i:Nat)(f:DT)(τ:DS):Option (Bool×DS):=match τ[i]? with
 |some (some (.m xs))=>(f (τ.set i (some (.d (.list xs))))).bind fun q=>if q.2.all okM then some (q.1,q.2.set i (some (.m xs))) else none
 |some (some (.k xs))=>(f (τ.set i (some (.d (.dict (SR xs)))))).bind fun q=>if q.2.all okM then some (q.1,q.2.set i (some (.k xs))) else none
 |_=>none
theorem RG{i:Nat}{f:DT}{τ:DS}{d:Bool}{τ':DS}(e:FL i f τ=some (d,τ')):∃w τ1,τ[i]?=some (some (Ow.L w))/\f (τ.set i (some (.d w.D)))=some (d,τ1)/\τ1.all okM=true/\τ'=τ1.set i (some w.L):=by
 unfold FL at e
 split at e
 ·rename_i xs hx
  obtain⟨⟨z,τ1⟩,e1,e⟩:=oB e
  dsimp only at e
  split at e
  ·rename_i h
   cases e
   exact⟨.l xs,τ1,hx,e1,h,rfl⟩
  ·cases e
 ·rename_i xs hx
  obtain⟨⟨z,τ1⟩,e1,e⟩:=oB e
  dsimp only at e
  split at e
  ·rename_i h
   cases e
   exact⟨.t xs,τ1,hx,e1,h,rfl⟩
  ·cases e
 ·cases e
theorem Z6{i:Nat}{t:TT}{f:DT}(h:T K t f):T K t (FL i f):=by
 refine⟨fun τ d τ' e=>?_,?_⟩
 ·obtain⟨xs,τ1,e1,e2,_,rfl⟩:=RG e
  exact WQ e1 (h.like _ _ _ e2)
 intro S M τ σ H Q d τ' r e q
 obtain⟨xs,τ1,e1,e2,ok,rfl⟩:=RG e
 obtain⟨p,us,hp,hM,hl,ll⟩:=r.mt i xs e1
 refine h.run _ _ _ σ H _ d τ1 (frz r e1 hp) e2 fun H' r' c=>?_
 exact q H' (dZ r e1 hp r' (h.like _ _ _ e2) c ok) (fun b o hn e=>c b o (fun z=>hn z.1) e)
def GL(τ:DS):Option (Bool×DS):=some (true,τ)
theorem YC:T K hU GL:=by
 refine⟨fun τ d τ' e=>?_,?_⟩
 ·cases e;exact .refl
 intro S M τ σ H Q d τ' r e q
 cases e
 exact q H r .refl
def eQ(N':List Str)(own:Nat)(fr:List Nat)(scope:Scope)(N:List Str)(sc:Scope):Bool :=
 (scope.kind==.function)&&decide (N'.length=own+fr.length)&&(scope.names.all fun y=>y.2 != .cell)&&(scope.names.all fun y=>y.2 != .local||scope.names.lookup y.1==some .local) &&
 (scope.names.all fun y=>y.2 != .free||sc.names.lookup y.1==some .cell||sc.names.lookup y.1==some .free) &&
 (fr.zipIdx.all fun p=>match N'[own+p.2]?,N[p.1]? with|some x,some y=>decide (x=y)&&scope.names.lookup x==some .free|_,_=>false)
theorem Qo{X:Cx}{N':List Str}{own:Nat}{fr:List Nat}{scope:Scope}{N:List Str}{sc:Scope}(hN:X.N=N)(hs:X.env.scope=sc)(h:eQ N' own fr scope N sc=true):bw X N' own fr scope:=by
 unfold eQ at h
 simp only[Bool.and_eq_true]at h
 obtain⟨⟨⟨⟨⟨h1,h2⟩,h3⟩,h4⟩,h5⟩,h6⟩:=h
 subst hN hs
 refine⟨eq_of_beq h1,of_decide_eq_true h2,fun y hy=>?_,fun y hy e=>?_,fun x hx=>?_,fun k j e=>?_⟩
 ·have:=List.all_eq_true.mp h3 y hy
  intro z
  rw[z]at this
  simp at this
 ·have:=List.all_eq_true.mp h4 y hy
  rw[e]at this
  simpa using this
 ·have:=List.all_eq_true.mp h5 _ hx
  simpa using this
 ·have hm:(j,k)∈fr.zipIdx:=by
   rw[List.mem_zipIdx_iff_getElem?]
   exact e
  have:=List.all_eq_true.mp h6 _ hm
  dsimp only at this
  split at this
  ·rename_i x y hx hy
   rw[Bool.and_eq_true]at this
   have e1:x=y:=of_decide_eq_true this.1
   subst e1
   exact⟨x,hx,hy,eq_of_beq this.2⟩
  ·cases this
end DL
end
section
namespace DL
open PySem L2
theorem Bw{τ:DS}:fin [] τ=some []:=by cases τ<;>rfl
theorem C5{x:PyData}{ls:List L}{o:Option L}{τ:DS}:fin (.d x::ls) (o::τ)=(fin ls τ).map (.d x::·):=rfl
theorem C6{x:List PyData}{ls:List L}{o:Option L}{τ:DS}:fin (.c x::ls) (o::τ)=(fin ls τ).map (.c x::·):=rfl
theorem C4{x xs:List PyData}{ls:List L}{τ:DS}:fin (.m x::ls) (some (.m xs)::τ)=(fin ls τ).map (.m xs::·):=rfl
theorem Ag{fr:Bool}{np nl:Nat}{b:DB}{ls ls':List L}{d:PyData}{τ:DS}(h:b (ls.map some++List.replicate nl none)=some (.rt d τ))(hl:ls.length=np)(hf:fin ls τ=some ls'):Bo fr np nl b ls=some (d,ls'):=by
 unfold Bo
 rw[if_pos hl,h]
 show(fin ls τ).map _=_
 rw[hf]
 rfl
theorem AR{a b:DB}{τ τ1:DS}(h:a τ=some (.nx τ1)):Aa a b τ=b τ1:=by
 unfold Aa
 rw[h]
 rfl
theorem Kh{a b:DB}{τ τ1:DS}{d:PyData}(h:a τ=some (.rt d τ1)):Aa a b τ=some (.rt d τ1):=by
 unfold Aa
 rw[h]
 rfl
theorem Bt{e:DX}{g:DG}{τ τ1 τ2:DS}{d:PyData}(h:e τ=some (d,τ1))(k:g d τ1=some τ2):Ah e g τ=some (.nx τ2):=by
 unfold Ah
 rw[h]
 show(g d τ1).map _=_
 rw[k]
 rfl
theorem BB{e:DX}{τ τ1:DS}{d:PyData}(h:e τ=some (d,τ1)):An e τ=some (.rt d τ1):=by
 unfold An
 rw[h]
 rfl
theorem JA{c:DT}{a b:DB}{τ τ1:DS}(h:c τ=some (true,τ1)):BA c a b τ=a τ1:=by
 unfold BA
 rw[h]
 rfl
theorem Dl{c:DT}{a b:DB}{τ τ1:DS}(h:c τ=some (false,τ1)):BA c a b τ=b τ1:=by
 unfold BA
 rw[h]
 rfl
theorem AX{G:List L->Option (PyData×List L)}{a:DA}{τ τ1:DS}{rs:List Ar}{ds:List PyData}{r:PyData}{ls:List L}(h:a τ=some (rs,τ1))(k:Cy rs=some ds)(g:G (ds.map L.d)=some (r,ls)):AU G a τ=some (r,τ1):=by
 unfold AU
 rw[h]
 show(Cy rs).bind _=_
 rw[k]
 show(G (ds.map L.d)).map _=_
 rw[g]
 rfl
theorem RT{i:Nat}{G:List L->Option (PyData×List L)}{a:DA}{τ τ1:DS}{rs:List Ar}{ds:List PyData}{r:PyData}{ls:List L}{xs:List PyData}(h:a τ=some (rs,τ1))(k:Cy rs=some ds)(m:τ1[i]?=some (some (.c xs)))(g:G (.c xs::ds.map L.d)=some (r,ls)):Bl i G a τ=some (r,τ1):=by
 unfold Bl
 rw[h]
 show(Cy rs).bind _=_
 rw[k]
 show(match τ1[i]? with|some (some (.c xs))=>_|_=>_)=_
 rw[m]
 show(G (.c xs::ds.map L.d)).map _=_
 rw[g]
 rfl
theorem Lm{it:DI}{g:DG}{b:DB}{τ τ1:DS}{ds:List PyData}(h:it τ=some (ds,τ1)):II it g b τ=Gs g b ds τ1:=by
 unfold II
 rw[h]
 rfl
theorem TC{α:Type}{enc:α->PyData}{g:DG}{b:DB}(J:List α->DS->Prop):∀{xs pre:List α} {τ:DS},J pre τ->(∀x pre τ,x∈xs->J pre τ->∃τ1 τ2,g (enc x) τ=some τ1/\b τ1=some (.nx τ2)/\J (pre++[x]) τ2)->∃τ',Gs g b (xs.map enc) τ=some (.nx τ')/\J (pre++xs) τ'
 |[],pre,τ,h0,_=>⟨τ,rfl,by rw[List.append_nil];exact h0⟩
 |x::xs,pre,τ,h0,h=>by
  obtain⟨τ1,τ2,e1,e2,h1⟩:=h x pre τ List.mem_cons_self h0
  obtain⟨τ',e3,h3⟩:=TC J (xs:=xs) (pre:=pre++[x]) (τ:=τ2) h1 (fun y p t hy hj=>h y p t (List.mem_cons_of_mem _ hy) hj)
  refine⟨τ',?_,by rw[List.append_assoc]at h3;exact h3⟩
  rw[List.map_cons,Gs,e1]
  show(b τ1).bind _=_
  rw[e2]
  exact e3
theorem Uu{α:Type}{enc:α->PyData}{g:DG}{c:DT}{e:DX}(J:DS->Prop)(p:α->Bool)(f:α->PyData):∀{xs:List α} {acc:List PyData} {τ:DS},J τ ->
  (∀x τ,x∈xs->J τ->∃τ1 τ2,g (enc x) τ=some τ1/\c τ1=some (p x,τ2)/\(p x=false->J τ2)/\(p x=true->∃τ3,e τ2=some (f x,τ3)/\J τ3))->∃τ',Ha g c e (xs.map enc) acc τ=some (acc++(xs.filter p).map f,τ')
 |[],acc,τ,h0,_=>⟨τ,by simp[Ha]⟩
 |x::xs,acc,τ,h0,h=>by
  obtain⟨τ1,τ2,e1,e2,hf,ht⟩:=h x τ List.mem_cons_self h0
  have hr:∀y t,y∈xs->J t->_:=fun y t hy hj=>h y t (List.mem_cons_of_mem _ hy) hj
  cases hp:p x with
  |false =>
   obtain⟨τ',e3⟩:=Uu J p f (xs:=xs) (acc:=acc) (τ:=τ2) (hf hp) hr
   refine⟨τ',?_⟩
   rw[List.map_cons,Ha,e1]
   show(c τ1).bind _=_
   rw[e2,hp]
   show Ha g c e (xs.map enc) acc τ2=_
   rw[e3,List.filter_cons,hp]
   rfl
  |true =>
   obtain⟨τ3,e4,h4⟩:=ht hp
   obtain⟨τ',e3⟩:=Uu J p f (xs:=xs) (acc:=acc++[f x]) (τ:=τ3) h4 hr
   refine⟨τ',?_⟩
   rw[List.map_cons,Ha,e1]
   show(c τ1).bind _=_
   rw[e2,hp]
   show(e τ2).bind _=_
   rw[e4]
   show Ha g c e (xs.map enc) (acc++[f x]) τ3=_
   rw[e3,List.filter_cons,hp,List.append_assoc]
   rfl
theorem gR{own:Nat}{fr:List Nat}{it:DI}{g:DG}{c:DT}{e:DX}{τ τ1 τb:DS}{ds acc:List PyData}(h:it τ=some (ds,τ1))(hz:ds.length<=sizeLine)(hm:(fr.all fun j=>!isM τ1 j)=true)(hl:Ha g c e ds [] (VN own fr τ1)=some (acc,τb)):dLC own fr it g c e τ=some (.list acc,τ1):=by
 unfold dLC
 rw[h]
 show(if ds.length<=sizeLine/\(fr.all fun j=>!isM τ1 j)=true then _ else _)=_
 rw[if_pos ⟨hz,hm⟩,hl]
 rfl
theorem sz{n:Nat}(h:n<=1000):n<=sizeLine:=Nat.le_trans h (by decide)
theorem sz'{n:Nat}(h:n<=1000):(n<=sizeLine)=True:=eq_true (sz h)
theorem bq{m:Int}(h0:0<m)(h1:m<10 ^ 70):Bd 8000 m:=by
 have:Bd 240 m:=Bd.of (m:=10 ^ 70) (by omega) (by omega) (by decide)
 exact this.mono (by decide)
theorem bc{K:KW}{H:Hp}{a:Addr}{xs:List V}(h:SqL K H a xs):SqL K (hid (fun _=>False) H) a xs:=Same.seq (fun b o e=>hid_iff.mpr ⟨fun z=>z,e⟩) h
theorem WV{K:KW}{H:Hp}:∀ns:List Int,IsL K H (ns.map PyData.int) (ns.map V.int)
 |[]=>rfl
 |_::ns=>⟨_,_,rfl,rfl,WV ns⟩
structure Enc{α:Type}[DecidableEq α](enc:α->PyData):Prop where
 eqv:∀a b,PyData.eqv (enc a) (enc b)=decide (a=b)
 can:∀a,(enc a).canLay0=true
 dep:∀a,(enc a).depth<=20
 fix:∀a,EZ (enc a)=true
section
variable {α:Type} [DecidableEq α] {enc:α->PyData}
theorem Enc.ok(h:Enc enc)(a:α):okD (enc a)=true:=by
 unfold okD SeqAt.shaped
 rw[Bool.and_eq_true]
 exact⟨h.can a,decide_eq_true (Nat.le_trans (h.dep a) (by decide))⟩
theorem Enc.canL(h:Enc enc):∀xs:List α,PyData.canLayAll0 (xs.map enc)=true
 |[]=>rfl
 |x::xs=>by
  rw[List.map_cons,PyData.canLayAll0,h.can,Enc.canL h xs];rfl
theorem Enc.depL(h:Enc enc):∀xs:List α,PyData.depthAll (xs.map enc)<=20
 |[]=>Nat.zero_le _
 |x::xs=>by
  rw[List.map_cons,PyData.depthAll]
  have:=h.dep x
  have:=Enc.depL h xs
  omega
theorem Enc.okL(h:Enc enc)(xs:List α):okD (.list (xs.map enc))=true:=by
 unfold okD SeqAt.shaped
 rw[Bool.and_eq_true,PyData.canLay0,PyData.depth]
 exact⟨h.canL xs,decide_eq_true (by have:=h.depL xs;omega)⟩
theorem Enc.eqvL(h:Enc enc):∀xs ys:List α,PyData.eqvAll (xs.map enc) (ys.map enc)=decide (xs=ys)
 |[],[]=>rfl
 |[],_::_=>rfl
 |_::_,[]=>rfl
 |x::xs,y::ys=>by
  rw[List.map_cons,List.map_cons,PyData.eqvAll,h.eqv,Enc.eqvL h xs ys]
  by_cases e:x=y
  ·subst e
   by_cases e':xs=ys
   ·subst e';simp
   ·simp[e']
  ·simp[e]
theorem Enc.eqL(h:Enc enc)(xs ys:List α):PyData.eqv (.list (xs.map enc)) (.list (ys.map enc))=decide (xs=ys):=by
 rw[PyData.eqv];exact h.eqvL xs ys
theorem Enc.any(h:Enc enc)(x:α):∀xs:List α,((xs.map enc).any fun y=>PyData.eqv y (enc x))=decide (x∈xs)
 |[]=>by simp
 |y::ys=>by
  rw[List.map_cons,List.any_cons,h.eqv,Enc.any h x ys]
  by_cases e:y=x
  ·subst e;simp
  ·have:¬x=y:=fun z=>e z.symm
   simp[e,this]
theorem Enc.fixL(h:Enc enc):∀xs:List α,fixDs (xs.map enc)=true
 |[]=>rfl
 |x::xs=>by rw[List.map_cons,fixDs,h.fix,Enc.fixL h xs];rfl
theorem Enc.fEq(h:Enc enc)(a b:α):DL.fEq (enc a) (enc b)=some (.bool (decide (a=b))):=by
 unfold DL.fEq;rw[h.ok,h.ok,h.eqv];rfl
theorem Enc.fNe(h:Enc enc)(a b:α):DL.fNe (enc a) (enc b)=some (.bool (!decide (a=b))):=by
 unfold DL.fNe;rw[h.ok,h.ok,h.eqv];rfl
theorem Enc.fEqL(h:Enc enc)(a b:List α):DL.fEq (.list (a.map enc)) (.list (b.map enc))=some (.bool (decide (a=b))):=by
 unfold DL.fEq;rw[h.okL,h.okL,h.eqL];rfl
theorem Enc.fNeL(h:Enc enc)(a b:List α):DL.fNe (.list (a.map enc)) (.list (b.map enc))=some (.bool (!decide (a=b))):=by
 unfold DL.fNe;rw[h.okL,h.okL,h.eqL];rfl
theorem Enc.fIn(h:Enc enc)(a:α)(xs:List α):DL.fIn false (enc a) (.list (xs.map enc))=some (.bool (decide (a∈xs))):=by
 simp only[DL.fIn,h.ok,h.okL,h.any,Bool.and_self,if_true,Bool.false_eq_true,if_false]
end
theorem encI:Enc (α:=Int) PyData.int:=⟨fun a b=>by rw[PyData.eqv];by_cases h:a=b<;>simp[h],fun _=>rfl,fun _=>by rw[PyData.depth];decide,fun _=>rfl⟩
def ec(p:Int×Int):PyData:=.tuple [.int p.1,.int p.2]
theorem encC:Enc ec:=by
 refine⟨fun a b=>?_,fun _=>rfl,fun a=>?_,fun _=>rfl⟩
 ·unfold ec
  simp only[PyData.eqv,PyData.eqvAll,Bool.and_true]
  obtain⟨a1,a2⟩:=a
  obtain⟨b1,b2⟩:=b
  by_cases h1:a1=b1
  ·by_cases h2:a2=b2<;>simp[h1,h2]
  ·simp[h1]
 ·unfold ec;simp[PyData.depth,PyData.depthAll]
structure Bx where
 x:Int
 y:Int
 w:Int
 h:Int
 deriving DecidableEq
def eb(b:Bx):PyData:=.tuple [.int b.x,.int b.y,.int b.w,.int b.h]
end DL
end
section
namespace DL
open PySem L2
def rng(lo:Int)(n:Nat):List Int:=(List.range n).map fun(k:Nat)=>lo+(k:Int)
theorem Sw(lo:Int)(n:Nat):LN lo n=(rng lo n).map PyData.int:=by
 unfold LN rng
 rw[List.map_map]
 rfl
theorem cY{lo v n:Int}:v∈rng lo n.toNat↔lo<=v/\v<lo+n:=by
 unfold rng
 rw[List.mem_map]
 constructor
 ·rintro⟨k,hk,rfl⟩
  rw[List.mem_range]at hk
  omega
 ·rintro⟨h1,h2⟩
  exact⟨(v-lo).toNat,by rw[List.mem_range];omega,by omega⟩
abbrev Cl:=Int×Int
def jP(x v:Int)(w:Nat):List Cl:=(rng x w).map fun u=>(u,v)
def cells(b:Bx):List Cl:=(rng b.y b.h.toNat).flatMap fun v=>jP b.x v b.w.toNat
def inB(b:Bx)(p:Cl):Prop:=b.x<=p.1/\p.1<b.x+b.w/\b.y<=p.2/\p.2<b.y+b.h
instance {b:Bx} {p:Cl}:Decidable (inB b p):=by unfold inB;infer_instance
def nM(o:Option L):Prop:=(∀xs,o≠some (.m xs))/\∀xs,o≠some (.k xs)
theorem Fb:nM none:=⟨fun xs z=>(nomatch z),fun xs z=>(nomatch z)⟩
theorem K9{x:PyData}:nM (some (.d x)):=⟨fun xs z=>(nomatch z),fun xs z=>(nomatch z)⟩
theorem Jc{i:Nat}{d:PyData}{τ:DS}{o:Option L}(h:τ[i]?=some o)(hn:nM o):dN i d τ=some (τ.set i (some (.d d))):=by
 unfold dN
 rw[h]
 cases o with
 |none=>rfl
 |some l=>cases l with
  |m xs=>exact absurd rfl (hn.1 xs)
  |k xs=>exact absurd rfl (hn.2 xs)
  |d x=>rfl
  |c x=>rfl
  |g x=>rfl
end DL
end
section
namespace DL
open PySem L2
variable {K:KW}
def isC(τ:DS)(j:Nat):Bool:=match τ[j]? with
 |some (some (.c _))=>true
 |_=>false
def dAS(i:Nat)(r:DA)(τ:DS):Option (List Ar×DS):=if (isM τ i||isC τ i)=true then (r τ).map fun q=>(.s i::q.1,q.2) else none
def mkL(τ:DS):List Ar->Option (List L)
 |[]=>some []
 |.d x::r=>(mkL τ r).map (.d x::·)
 |.s i::r=>match τ[i]? with
  |some (some (.m xs))=>(mkL τ r).map (.m xs::·)
  |some (some (.c xs))=>(mkL τ r).map (.c xs::·)
  |_=>none
def nMb:L->Bool
 |.m _=>false
 |.k _=>false
 |_=>true
def JN(k i:Nat)(G:List L->Option (PyData×List L))(a:DA)(τ:DS):Option (PyData×DS):=(a τ).bind fun p=>(mkL p.2 p.1).bind fun ls=>match p.1[k]?,ls[k]? with
 |some (.s j),some (.m _)=>if j=i/\(ls.set k (.d .none)).all nMb=true then (G ls).bind fun q=>match q.2[k]? with
   |some (.m xs)=>some (q.1,p.2.set i (some (.m xs)))
   |_=>none
  else none
 |_,_=>none
theorem PN{α:Type}{enc:α->PyData}{g:DG}{b:DB}{all:List α}(J:List α->DS->Prop)(h:∀pre x post τ,all=pre++x::post->J pre τ->∃τ1 τ2,g (enc x) τ=some τ1/\b τ1=some (.nx τ2)/\J (pre++[x]) τ2) :
  ∀{xs pre:List α} {τ:DS},all=pre++xs->J pre τ->∃τ',Gs g b (xs.map enc) τ=some (.nx τ')/\J all τ'
 |[],pre,τ,e,h0=>⟨τ,rfl,by rw[e,List.append_nil];exact h0⟩
 |x::xs,pre,τ,e,h0=>by
  obtain⟨τ1,τ2,e1,e2,h1⟩:=h pre x xs τ e h0
  obtain⟨τ',e3,h3⟩:=PN J h (xs:=xs) (pre:=pre++[x]) (τ:=τ2) (by rw[e,List.append_assoc];rfl) h1
  refine⟨τ',?_,h3⟩
  rw[List.map_cons,Gs,e1]
  show(b τ1).bind _=_
  rw[e2]
  exact e3
theorem J6{α:Type}{enc:α->PyData}{g:DG}{b:DB}{xs:List α}{τ:DS}(J:List α->DS->Prop)(h0:J [] τ)(h:∀pre x post τ,xs=pre++x::post->J pre τ->∃τ1 τ2,g (enc x) τ=some τ1/\b τ1=some (.nx τ2)/\J (pre++[x]) τ2) :
  ∃τ',Gs g b (xs.map enc) τ=some (.nx τ')/\J xs τ':=PN J h (pre:=[]) rfl h0
theorem YJ{n:Int}{τ τ1:DS}{a:DA}(h:a τ=some ([.d (.int n)],τ1))(h0:-100000<=n)(h1:n<=100000):dR1 a τ=some ((rng 0 n.toNat).map PyData.int,τ1):=by
 unfold dR1
 rw[h]
 show(if -(2 ^ 62)<=n/\n<2 ^ 62 then some (LN 0 n.toNat,τ1) else none)=_
 rw[if_pos (by omega),Sw]
theorem Jv{α:Type}{xs pre post:List α}{x:α}(e:xs=pre++x::post):pre.length<xs.length:=by rw[e,List.length_append,List.length_cons];omega
theorem Y6{α:Type}{xs pre post:List α}{x:α}(e:xs=pre++x::post):x∈xs:=by rw[e];exact List.mem_append_right _ List.mem_cons_self
end DL
end
section
namespace DL
open PySem PySem.Spec L2 PyProof.Rows
section
variable {prog:Program} {w:World} {A:Around} {s:Shared} {R:Result->Shared->Prop}
variable {I:Addr} {fp wr:List Addr} {G:Array GenState->Array GenState->Prop} {n:Nat} {P:Nat->Value->Prop} {St:Nat->Shared->Prop}
end
section
variable {prog:Program} {w:World} {A:Around} {E:Value->Shared->Prop} {s:Shared}
variable {I:Addr} {fp wr:List Addr} {G:Array GenState->Array GenState->Prop} {n:Nat} {P:Nat->Value->Prop} {St:Nat->Shared->Prop}
end
variable {K:KW}
def RH(f:DX)(τ:DS):Option (PyData×DS):=(f τ).bind fun p=>match p.1 with
 |.list xs=>some (.list xs.reverse,p.2)
 |_=>none
theorem Fl:okM none=true:=rfl
theorem LQ{x:PyData}:okM (some (.d x))=true:=rfl
theorem LR{x:List PyData}:okM (some (.c x))=true:=rfl
theorem LP{x:List PyData}:okM (some (.m x))=fixDs x:=rfl
theorem YO{o:Option L}(h:nM o):okM o=true:=by
 cases o with
 |none=>rfl
 |some l=>cases l with
  |m xs=>exact absurd rfl (h.1 xs)
  |k xs=>exact absurd rfl (h.2 xs)
  |d x=>rfl
  |c x=>rfl
  |g x=>rfl
end DL
end
section
namespace Srt
open PySem PySem.W PyProof.Rows
variable {n:Nat} {r:Nat->Nat->Bool}
end Srt
end
section
namespace Srt
open PySem PySem.W PyProof.Rows HT
section
variable {prog:Program} {w:World} {A:Around} {E:Value->Shared->Prop} {s:Shared}
end
end Srt
end
section
namespace DL
open PySem L2 PyProof.Rows
variable {K:KW}
end DL
end
section
namespace DL
open PySem L2
variable {K:KW}
abbrev DO:=DS->Option (Option Int×DS)
structure OO(K:KW)(t:TO)(f:DO):Prop where
 like:∀τ b τ',f τ=some (b,τ')->Like τ τ'
 run:∀S M τ σ H (Q:Option Int->Hp->Prop) b τ',R K S M τ σ H->f τ=some (b,τ')->(∀H',R K S M τ' σ H'->Chg M H H'->Q b H')->t σ H Q
def Xv:DO:=fun τ=>some (none,τ)
def dPt(f:DX):DO:=fun τ=>(f τ).bind fun p=>match p.1 with
 |.int i=>some (some i,p.2)
 |_=>none
theorem eN:OO K YD Xv:=⟨fun τ b τ' e=>by cases e;exact Like.refl,fun S M τ σ H Q b τ' r e q=>by cases e;exact q H r Chg.refl⟩
theorem iS{fr:Bool}{t:TE}{f:DX}(h:E K t fr f):OO K (df t) (dPt f):=by
 refine⟨fun τ b τ' e=>?_,?_⟩
 ·unfold dPt at e
  obtain⟨⟨x,τ1⟩,e1,e⟩:=oB e
  dsimp only at e
  split at e
  ·cases e;exact h.like _ _ _ e1
  ·cases e
 intro S M τ σ H Q b τ' r e q
 unfold dPt at e
 obtain⟨⟨x,τ1⟩,e1,e⟩:=oB e
 dsimp only at e
 split at e
 ·rename_i i
  cases e
  refine h.run S M τ σ H _ _ _ r e1 fun v H' r' c iv=>?_
  exact⟨i,(show v = .int i from r.isr iv),q H' r' c⟩
 ·cases e
def gT(xs:List PyData)(lo hi:Option Int):List PyData:=(xs.drop (HT.sIx xs.length 0 lo)).take (HT.sIx xs.length xs.length hi-HT.sIx xs.length 0 lo)
theorem Qr{H:Hp}:∀{xs:List PyData} {vs:List V} (n:Nat),IsL K H xs vs->IsL K H (xs.drop n) (vs.drop n)
 |_,_,0,h=>h
 |[],_,n+1,h=>by rw[show _=[] from h];rfl
 |x::xs,_,n+1,⟨v,us,e,_,l⟩=>by subst e;exact Qr n l
theorem Qq{H:Hp}:∀{xs:List PyData} {vs:List V} (n:Nat),IsL K H xs vs->IsL K H (xs.take n) (vs.take n)
 |_,_,0,h=>rfl
 |[],_,n+1,h=>by rw[show _=[] from h];rfl
 |x::xs,_,n+1,⟨v,us,e,i,l⟩=>by subst e;exact⟨v,_,rfl,i,Qq n l⟩
theorem cu{H:Hp}{xs:List PyData}{vs:List V}{lo hi:Option Int}(h:IsL K H xs vs):IsL K H (gT xs lo hi) (Xx vs lo hi):=by
 unfold gT Xx
 rw[h.length]
 exact Qq _ (Qr _ h)
end DL
end
section
namespace L2
open PySem PySem.Spec PyProof.Rows
section
variable {X:Cx} {pins:List (Addr×Obj)} {σ:L2.St} {H:Hp} {s:Shared}
end
section
variable {X:Cx} {elts:List Expr} {tp:Pos}
end
end L2
end
section
namespace DL
open PySem L2
variable {K:KW}
end DL
end
section
namespace DL
open PySem L2 PyProof.Rows
variable {K:KW}
end DL
end
section
namespace DL
open PySem L2
variable {K:KW}
end DL
end
section
namespace Stb
open PySem
end Stb
end
section
namespace Stb
open PySem SetTable
end Stb
end
section
namespace Stb
open PySem SetTable
end Stb
end
section
namespace Stb
open PySem SetTable
end Stb
end
section
namespace Stb
open PySem SetTable
end Stb
end
section
namespace Stb
open PySem PyProof.Rows SetTable
section
variable {prog:Program} {w:World} {A:Around} {E:Value->Shared->Prop} {s:Shared}
end
end Stb
end
section
namespace Stb
open PySem PyProof.Rows SetTable
section
variable {prog:Program} {w:World} {A:Around} {E:Value->Shared->Prop} {s:Shared}
end
end Stb
end
section
namespace Stb
open PySem PyProof.Rows SetTable
section
variable {prog:Program} {w:World} {A:Around} {E:Value->Shared->Prop} {s:Shared}
end
end Stb
end
section
namespace Stb
open PySem PyProof.Rows SetTable
section
variable {prog:Program} {w:World} {A:Around} {R:Result->Shared->Prop} {I:Addr} {fp wr:List Addr} {G:Array GenState->Array GenState->Prop} {n:Nat} {P:Nat->Value->Prop} {St:Nat->Shared->Prop}
end
end Stb
end
section
namespace Stb
open PySem PyProof.Rows SetTable
section
variable {prog:Program} {w:World} {A:Around} {E:Value->Shared->Prop} {s:Shared}
end
end Stb
end
section
namespace Stb
open PySem PyProof.Rows SetTable
section
variable {prog:Program} {w:World} {A:Around} {E:Value->Shared->Prop} {s:Shared}
end
end Stb
end
section
namespace Stb
open PySem PyProof.Rows SetTable
section
variable {prog:Program} {w:World} {A:Around} {E:Value->Shared->Prop} {s:Shared}
end
end Stb
end
section
namespace Stb
open PySem PyProof.Rows SetTable
section
variable {prog:Program} {w:World} {A:Around} {E:Value->Shared->Prop} {s:Shared}
end
end Stb
end
section
namespace Stb
open PySem PyProof.Rows SetTable
section
variable {prog:Program} {w:World} {A:Around} {E:Value->Shared->Prop} {s:Shared}
end
end Stb
end
section
namespace DL
open PySem L2 PyProof.Rows
variable {K:PySem.W.Frag}
end DL
end
section
namespace DL
open PySem L2 PyProof.Rows
variable {K:KW}
end DL
end
section
namespace DL
open PySem L2
def ey(i:Nat)(τ:DS):Nat:=match τ[i]? with
 |some (some (.d (.int s)))=>s.toNat+1
 |_=>0
end DL
end
section
namespace Dwk
open PySem
variable {prog:Program} {w:World} {A:Around} {E:Value->Shared->Prop} {s:Shared}
end Dwk
end
section
namespace DL
open PySem L2 PyProof.Rows
variable {K:PySem.W.Frag}
section
variable {X:Cx} {pins:List (Addr×Obj)} {σ:L2.St} {H:Hp} {s:Shared}
end
end DL
end
section
namespace DL
open PySem L2 PyProof.Rows
variable {K:KW}
def Yi:PyData->PyData->Option PyData
 |.tuple (x::xs),.tuple (y::ys)=>if xs.length+ys.length+2<=sizeLine then some (.tuple (x::xs++y::ys)) else none
 |_,_=>none
theorem aw:OR K false (eH K) Yi:=by
 intro S H x y dx dy d Q hS ix iy e q
 unfold Yi at e
 split at e
 ·rename_i x1 xs y1 ys
  split at e
  ·rename_i hz
   cases e
   obtain⟨a,vs,rfl,ha,la⟩:=ix
   obtain⟨b,us,rfl,hb,lb⟩:=iy
   have l1:=la.length
   have l2:=lb.length
   rw[List.length_cons]at l1 l2
   refine⟨a,b,vs,us,rfl,rfl,Same.tup same_hid ha,Same.tup same_hid hb,fun z=>(by subst z;cases l1),by omega,fun z=>(by subst z;cases l2),fun _ p hp=>?_⟩
   have s:=En hp (HO.tup (vs++us))
   refine q _ _ s ⟨p,vs++us,rfl,.inl (.inl (hid_iff.mpr ⟨hS p hp,CI⟩)),?_⟩
   exact(Hb la lb).mono (Same.keep s).same
  ·cases e
 ·cases e
end DL
end
section
namespace DL
open PySem L2
variable {K:KW}
end DL
end
section
namespace L2
open PySem
end L2
namespace DL
open PySem L2
variable {K:KW}
end DL
end
section
namespace EnG
open PySem PyProof.Rows
section
variable {prog:Program} {w:World} {A:Around} {E:Value->Shared->Prop} {s:Shared}
end
end EnG
namespace EnG
open PySem PyProof.Rows
open Sem (wp)
open AutoSeq1 (wpAny_loadPart')
section
variable {prog:Program} {w:World} {A:Around} {E:Value->Shared->Prop} {s:Shared}
end
end EnG
namespace L2
open PySem PySem.Spec PyProof.Rows EnG
section
variable {X:Cx} {elts:List Expr} {tp:Pos}
end
end L2
end
section
namespace DL
open PySem L2 PyProof.Rows
variable {K:KW}
def Mg:PyData->PyData->Option PyData
 |.str x,.str y=>if x.length+y.length<=sizeLine then some (.str (x++y)) else none
 |_,_=>none
theorem XZ:OR K false (fun x y H Q=>∃i j,x = .str i/\y = .str j/\i.length+j.length<=sizeLine/\Q (.str (i++j)) H) Mg:=by
 intro S H x y dx dy d Q _ ix iy e q
 unfold Mg at e
 split at e
 ·split at e
  ·rename_i hz
   cases e
   cases (show x = .str _ from ix)
   cases (show y = .str _ from iy)
   exact⟨_,_,rfl,rfl,hz,q _ H (fun _ _ e=>e) rfl⟩
  ·cases e
 ·cases e
def SQ:PyData->PyData->Option PyData
 |.str z,.int i=>if z.length<=sizeLine then (atI z.cps.toList i).map fun c=>.str ⟨#[c]⟩ else none
 |_,_=>none
theorem aq:OR K false iK SQ:=by
 intro S H x y dx dy d Q _ ix iy e q
 unfold SQ at e
 split at e
 ·split at e
  ·rename_i hz
   obtain⟨c,e1,rfl⟩:=oM e
   cases (show x = .str _ from ix)
   cases (show y = .int _ from iy)
   exact⟨_,_,c,rfl,rfl,hz,e1,q _ H (fun _ _ e=>e) rfl⟩
  ·cases e
 ·cases e
def Ku:List PyData->Option PyData
 |[.list xs]=>some (.tuple xs)
 |[.tuple xs]=>some (.tuple xs)
 |_=>none
theorem VL:BR K false (fun xs H Q=>∃p ys,xs=[.ref p]/\((SqL K H p ys/\∀l,H l=none->Q (.ref l) (upd H l (.tup ys)))\/(SqT K H p ys/\Q (.ref p) H))) Ku:=by
 intro S H vs ds d Q hS l e q
 unfold Ku at e
 split at e
 ·cases e
  obtain⟨v,us,rfl,⟨a,ws,rfl,h,lw⟩,iu⟩:=l
  cases (show us=[] from iu)
  refine⟨a,ws,rfl,.inl ⟨SqL.of (hid_iff.mp h).2,fun p hp=>?_⟩⟩
  have s:=En hp (HO.tup ws)
  exact q _ _ s ⟨p,ws,rfl,.inl (.inl (hid_iff.mpr ⟨hS p hp,CI⟩)),lw.mono (Same.keep s).same⟩
 ·cases e
  obtain⟨v,us,rfl,⟨a,ws,rfl,h,lw⟩,iu⟩:=l
  cases (show us=[] from iu)
  exact⟨a,ws,rfl,.inr ⟨Same.tup same_hid h,q _ H (fun _ _ e=>e) ⟨a,ws,rfl,h,lw⟩⟩⟩
 ·cases e
end DL
end
section
namespace L2
open PySem PySem.Spec PyProof.Rows
section
variable {X:Cx} {pos:Pos}
end
end L2
namespace DL
open PySem L2
variable {K:KW}
end DL
end
section
namespace DL
open PySem L2
variable {K:KW}
end DL
end
section
namespace L2
open PySem PySem.Spec PyProof.Rows
section
variable {X:Cx}
end
end L2
namespace DL
open PySem L2 PyProof.Rows
variable {K:KW}
end DL
end
section
namespace L2
open PySem PySem.Spec PyProof.Rows
section
variable {M:Model} {A:Around} {E:Value->Shared->Prop} {s:Shared} {N:Addr->Prop} {base:Heap} {env:Env} {outer:List Env} {L e C:Addr} {Q:Unit->Shared->Prop}
end
end L2
end
section
namespace L2
open PySem PySem.Spec PyProof.Rows
end L2
end
section
namespace L2
open PySem PySem.Spec PyProof.Rows
section
variable {X:Cx} {pins:List (Addr×Obj)} {σ:St} {H H':Hp} {s s3:Shared} {ea C:Addr} {fl:Value}
end
section
variable {X:Cx} {k:Nat} {f C D':Addr} {fd:FuncData} {ps:List Str} {sp:Sp} {x cn:Str} {p pos p1 np hp p2:Pos} {e:Expr} {es:List Expr} {t:TA} {b₀:Stmt} {suite:List Stmt} {ts:Addr->TS}
end
end L2
end
section
namespace L2
open PySem PySem.Spec PyProof.Rows PySem.W
section
variable {prog:Program} {w:World} {A:Around} {E:Value->Shared->Prop} {s:Shared} {K:Frag} {x C:Addr} {ox:Obj}
end
section
variable {X:Cx} {ea C:Addr} {oe:Obj}
end
end L2
end
section
namespace L2
open PySem PySem.Spec PyProof.Rows
section
variable {X:Cx} {k i:Nat} {f C D':Addr} {fd:FuncData} {ps:List Str} {sp:Sp} {x cn n:Str} {p pos p1 np hp p2:Pos} {e:Expr} {es:List Expr} {t:TA} {b₀:Stmt} {suite:List Stmt} {ts:Addr->TS}
end
end L2
end
section
namespace L2
open PySem PySem.Spec PyProof.Rows
end L2
namespace DL
open PySem L2
instance {i j:Int}:Decidable (fG i j):=by unfold fG Bd;infer_instance
end DL
end
section
namespace L2
open PySem PySem.Spec PyProof.Rows
def Its(x:Str):It:=⟨fun i _=>i<x.cps.size,fun i H v H'=>∃c,x.cps[i]?=some c/\H'=H/\v = .str ⟨#[c]⟩,fun i _=>x.cps.size<=i⟩
theorem So{P:Program}{w:World}{K:PySem.W.Frag}{tg:Expr}(x:Str)(t:Tok)(it:Addr)(n:String)
  (hn:["enumerate","zip","dict_itemiterator","dict_reverseitemiterator","odict_iterator","itertools.zip_longest","itertools.pairwise"].contains n=false)
  (nx : ∀ {A : Around} {E : Value -> Shared -> Prop} {s : Shared} {i c : Nat} {Q : Option Value -> Shared -> Prop}, s.heap.IsStrIter it n x t i -> x.cps[i]? = some c ->
   (∀h',h'.IsStrIter it n x t (i+1)->Heap.SameBut it s.heap h'->Q (some (.str ⟨#[c]⟩ s.toks)) { s with heap:=h',toks:=s.toks+1 })->wpAny (model P w) A (pyNext (.ref it)) Q E s)
  (en : ∀ {A : Around} {E : Value -> Shared -> Prop} {s : Shared} {i : Nat} {Q : Option Value -> Shared -> Prop}, A.handled = none -> s.heap.IsStrIter it n x t i -> x.cps[i]? = none ->
   (∀h',Heap.ExtBut it s.heap h'->Q none { s with heap:=h' })->wpAny (model P w) A (pyNext (.ref it)) Q E s)
  (sf:∀{A:Around} {E:Value->Shared->Prop} {s:Shared} {i:Nat} {Q:Value->Shared->Prop},s.heap.IsStrIter it n x t i->Q (.ref it) s->wpAny (model P w) A (pyIter (.ref it)) Q E s) :
  W3 P w K tg (Its x) [it] it (fun i h=>h.IsStrIter it n x t i) where
 mem:=by simp
 obj:=fun i h st b hb=>by
  have e:b=it:=by simpa using hb
  subst e
  obtain⟨o,e,c,d⟩:=st
  exact⟨o,e,fun v z=>by rw[d]at z;cases z⟩
 keep:=fun i h h' st k=>let ⟨o,e,r⟩:=st;⟨o,k it (by simp) o e,r⟩
 item:=by
  intro X hP hw hK hc i pins s σ H E I hf st hg
  subst hP hw hK
  have hlt:i<x.cps.size:=hg
  have hx:x.cps[i]?=some x.cps[i]:=Array.getElem?_eq_getElem hlt
  obtain⟨f0,f1,f2,f3,f4,f5⟩:=hf it (by simp)
  refine nx st hx fun h' st' sb=>?_
  have I1:Inv X pins σ H { s with heap:=h',toks:=s.toks+1 }:=I.turned (fun b o hb e=>(sb.2 b hb).trans e) f0 f1 f3 f4 f5
  obtain⟨o,e,c,d⟩:=id st'
  exact⟨_,rfl,WW (s:={ s with heap:=h',toks:=s.toks+1 }) e c d hn ⟨.str ⟨#[x.cps[i]]⟩,H,I1,⟨_,rfl⟩,⟨_,hx,rfl,rfl⟩,st',fun b hb=>(hf b hb).1⟩⟩
 done:=by
  intro X hP hw hK hc i pins s σ H E I hf st hg
  subst hP hw hK
  obtain⟨f0,f1,f2,f3,f4,f5⟩:=hf it (by simp)
  exact en (I.ok.hd hc) st (Array.getElem?_eq_none hg) fun h' eb=>⟨rfl,I.turned (t':=s.toks) (fun b o hb e=>eb b o hb e) f0 f1 f3 f4 f5⟩
 self:=fun _ _ _ _ _ st h=>sf st h
theorem Z2{P:Program}{w:World}{K:PySem.W.Frag}{tg:Expr}(x:Str)(t:Tok)(it:Addr):W3 P w K tg (Its x) [it] it (fun i h=>h.IsStrIter it (strIterType x) x t i):=by
 unfold strIterType
 split
 ·exact So x t it _ (by decide) (fun a b c=>wpAny_pyNext_ascii_item a b c) (fun a b c d=>wpAny_pyNext_ascii_end a b c d) (fun a b=>wpAny_pyIter_striter_ascii a b)
 ·exact So x t it _ (by decide) (fun a b c=>wpAny_pyNext_wide_item a b c) (fun a b c d=>wpAny_pyNext_wide_end a b c d) (fun a b=>wpAny_pyIter_striter_wide a b)
def ip(tl:TE):TI:=fun σ H R=>tl σ H fun v H1=>∃x,v = .str x/\R (Its x) H1
theorem XM{X:Cx}{tg l:Expr}{tl:TE}(hl:PE X l tl):PI X tg l (ip tl):=by
 intro pins s σ H R I h
 refine thn (hl pins s σ H _ I h) fun v s1 ⟨x,H1,I1,r1,q1⟩=>?_
 obtain⟨z,rfl,q⟩:=q1
 obtain⟨t,rfl⟩:=r1
 refine wpAny_pyIter_strU ?_
 refine⟨s1.heap.objs.size,[s1.heap.objs.size],_,_,H1,rfl,I1.kept (t':=s1.toks) fun b o e=>Heap.get?_push_of_some _ e,Z2 z t _,⟨_,Heap.get?_push_size _ rfl,rfl,rfl⟩,fun b hb=>?_,q⟩
 have e:b=s1.heap.objs.size:=by simpa using hb
 subst e
 exact I1.fpOk (Nat.le_refl _) (I1.hok.fresh (Nat.le_refl _))
end L2
namespace DL
open PySem L2 PyProof.Rows
variable {K:KW}
def chD(x:Str):List PyData:=x.cps.toList.map fun c=>.str ⟨#[c]⟩
def dIS(f:DX)(τ:DS):Option (List PyData×DS):=(f τ).bind fun p=>match p.1 with
 |.str x=>some (chD x,p.2)
 |_=>none
theorem Xi{fr:Bool}{t:TE}{f:DX}(h:E K t fr f):IT K (ip t) (dIS f):=by
 refine⟨fun τ d τ' e=>?_,?_⟩
 ·unfold dIS at e
  obtain⟨⟨x,τ1⟩,e1,e⟩:=oB e
  dsimp only at e
  split at e
  ·cases e;exact h.like _ _ _ e1
  ·cases e
 intro S M τ σ H Q ds τ' r e q
 unfold dIS at e
 obtain⟨⟨x,τ1⟩,e1,e⟩:=oB e
 dsimp only at e
 split at e
 ·rename_i z
  cases e
  refine h.weak.run S M τ σ H _ _ _ r e1 fun v H1 r1 c1 i1=>?_
  cases (show v = .str z from i1)
  refine⟨z,rfl,q _ H1 r1 c1 fun S2 H2 k=>⟨fun i d e=>?_,fun i hi=>?_⟩⟩
  ·unfold chD at e
   rw[List.getElem?_map,Array.getElem?_toList]at e
   obtain⟨c,hc,rfl⟩:=oM e
   refine⟨(Array.getElem?_eq_some_iff.mp hc).1,fun x H3 ⟨c',hc',h1,h2⟩=>⟨h1,?_⟩⟩
   rw[hc]at hc';cases hc'
   exact h2
  ·show z.cps.size<=i
   unfold chD at hi
   simpa using hi
 ·cases e
def U8:PyData->PyData->Option PyData
 |.str i,.str j=>some (.bool (!(Builtin.Str.occurrences j i 0 j.length 1).isEmpty))
 |_,_=>none
theorem iT:OR K false (fun x y H Q=>∃i j,x = .str i/\y = .str j/\Q (.bl (!(Builtin.Str.occurrences j i 0 j.length 1).isEmpty)) H) U8:=by
 intro S H x y dx dy d Q _ ix iy e q
 unfold U8 at e
 split at e
 ·rename_i i j
  cases e
  exact⟨i,j,ix,iy,q _ H (fun _ _ e=>e) rfl⟩
 ·cases e
mutual
def EB(K:KW):PyData->Value->Bool
 |.int i,.int j _=>decide (i=j)
 |.str x,.str y _=>decide (x=y)
 |.tuple ds,.ref a=>match K.fr.lookup a with
  |some ⟨.type "tuple",_,.seq its _,_⟩=>decide (its.size<=1000)&&constInL K ds its.toList
  |_=>false
 |_,_=>false
def constInL(K:KW):List PyData->List Value->Bool
 |[],[]=>true
 |d::ds,v::vs=>EB K d v&&constInL K ds vs
 |_,_=>false
end
mutual
theorem Wt:∀{d:PyData} {u:Value},EB K d u=true->∃v,RelV v u/\∀H,Is K H d v
 |.int i,u,h=>by
  cases u<;>first|(unfold EB at h;cases h;done)|(unfold EB at h;cases of_decide_eq_true h;exact⟨.int i,⟨_,rfl⟩,fun _=>rfl⟩)
 |.str x,u,h=>by
  cases u<;>first|(unfold EB at h;cases h;done)|(unfold EB at h;cases of_decide_eq_true h;exact⟨.str x,⟨_,rfl⟩,fun _=>rfl⟩)
 |.tuple ds,.ref a,h=>by
  unfold EB at h
  split at h
  ·rename_i dd its n sl ho
   obtain⟨h1,h2⟩:=Bool.and_eq_true_iff.mp h
   obtain⟨vs,r,hl⟩:=constL_is h2
   exact⟨.ref a,rfl,fun H=>⟨a,vs,rfl,.inr ⟨_,its,n,ho,rfl,rfl,Nat.le_trans (of_decide_eq_true h1) (by decide),r⟩,hl H⟩⟩
  ·cases h
 |.tuple ds,.none,h=>by unfold EB at h;cases h
 |.tuple ds,.bool _,h=>by unfold EB at h;cases h
 |.tuple ds,.int _ _,h=>by unfold EB at h;cases h
 |.tuple ds,.str _ _,h=>by unfold EB at h;cases h
 |.none,u,h=>by cases u<;>(unfold EB at h;cases h)
 |.bool _,u,h=>by cases u<;>(unfold EB at h;cases h)
 |.list _,u,h=>by cases u<;>(unfold EB at h;cases h)
 |.dict _,u,h=>by cases u<;>(unfold EB at h;cases h)
theorem constL_is:∀{ds:List PyData} {us:List Value},constInL K ds us=true->∃vs,Vals vs us/\∀H,IsL K H ds vs
 |[],[],_=>⟨[],.nil,fun _=>rfl⟩
 |d::ds,u::us,h=>by
  unfold constInL at h
  obtain⟨h1,h2⟩:=Bool.and_eq_true_iff.mp h
  obtain⟨v,r,i⟩:=Wt h1
  obtain⟨vs,rs,is⟩:=constL_is h2
  exact⟨v::vs,.cons r rs,fun H=>⟨v,vs,rfl,i H,is H⟩⟩
 |[],_::_,h=>by cases h
 |_::_,[],h=>by cases h
end
def KdL(K:KW)(w:World):List DictEntry->List (Str×PyData)->Prop
 |[],[]=>True
 |e::es,p::tb=>(∃t,e.key = .str p.1 t)/\e.hash=hashStr w p.1/\EB K p.2 e.val=true/\KdL K w es tb
 |_,_=>False
structure KD(K:KW)(w:World)(a:Addr)(tb:List (Str×PyData)):Prop where
 ex:∃es n,K.fr.lookup a=some ⟨.type "dict",none,.dict es n,#[]⟩/\KdL K w es.toList tb
def MQ:List (Str×PyData)->Str->Option PyData
 |[],_=>none
 |p::r,k=>if p.1=k then some p.2 else MQ r k
theorem Fn{k x:Str}{t:Tok}:Value.isStrOf k (.str x t)=decide (k=x):=by
 unfold Value.isStrOf
 by_cases h:k=x
 ·subst h
  rw[decide_eq_true rfl]
  first|exact beq_self_eq_true _|simp
 ·rw[decide_eq_false h]
  first|exact beq_eq_false_iff_ne.mpr (Ne.symm h)|(simp;exact Ne.symm h)
theorem Yb{w:World}:∀{es:List DictEntry} {tb:List (Str×PyData)},KdL K w es tb->∀e∈es,∃k,Value.isStrOf k e.key=true/\e.hash=hashStr w k
 |[],_,_,e,h=>nomatch h
 |x::es,[],h,_,_=>h.elim
 |x::es,p::tb,⟨⟨t,hk⟩,hh,_,r⟩,e,h=>by
  rcases List.mem_cons.mp h with rfl|h
  ·exact⟨p.1,by rw[hk,Fn];exact decide_eq_true rfl,hh⟩
  ·exact Yb r e h
end DL
end
section
namespace DL
open PySem L2
variable {K:KW}
section
variable {S S':Addr->Prop} {H:Hp}
mutual
theorem Dp.is(k:TSm (hid S H) (hid S' H)):∀{d:PyData} {v:V} {F:List Addr},(∀a∈F,¬S' a)->Dp K S H d v F->Is K (hid S' H) d v
 |.none,_,_,_,h=>h.1
 |.bool _,_,_,_,h=>h.1
 |.int _,_,_,_,h=>h.1
 |.str _,_,_,_,h=>h.1
 |.tuple _,_,_,f,⟨a,vs,e,h,l⟩=>⟨a,vs,e,k.tup h,DpL.is k f l⟩
 |.list _,_,_,f,⟨a,vs,G,e,e2,h,l⟩=>⟨a,vs,e,hid_iff.mpr ⟨f a (by rw[e2];exact List.mem_cons_self ..),h⟩,DpL.is k (fun b hb=>f b (by rw[e2];exact List.mem_cons_of_mem _ hb)) l⟩
theorem DpL.is(k:TSm (hid S H) (hid S' H)):∀{ds:List PyData} {vs:List V} {F:List Addr},(∀a∈F,¬S' a)->DpL K S H ds vs F->IsL K (hid S' H) ds vs
 |[],_,_,_,h=>h.1
 |_::_,_,_,f,⟨x,xs,F1,F2,e,e2,h,l⟩=>⟨x,xs,e,Dp.is k (fun b hb=>f b (by rw[e2];exact List.mem_append_left _ hb)) h,DpL.is k (fun b hb=>f b (by rw[e2];exact List.mem_append_right _ hb)) l⟩
end
mutual
theorem Dp.lst:∀{d:PyData} {v:V} {F:List Addr},Dp K S H d v F->∀a∈F,∃vs,H a=some (.lst vs)
 |.none,_,_,h,a,q=>by rw[h.2]at q;cases q
 |.bool _,_,_,h,a,q=>by rw[h.2]at q;cases q
 |.int _,_,_,h,a,q=>by rw[h.2]at q;cases q
 |.str _,_,_,h,a,q=>by rw[h.2]at q;cases q
 |.tuple _,_,_,⟨_,vs,e,h,l⟩,a,q=>DpL.lst l a q
 |.list _,_,_,⟨b,vs,G,e,e2,h,l⟩,a,q=>by
  rw[e2]at q
  rcases List.mem_cons.mp q with rfl|q
  ·exact⟨vs,h⟩
  ·exact DpL.lst l a q
theorem DpL.lst:∀{ds:List PyData} {vs:List V} {F:List Addr},DpL K S H ds vs F->∀a∈F,∃vs,H a=some (.lst vs)
 |[],_,_,h,a,q=>by rw[h.2]at q;cases q
 |_::_,_,_,⟨x,xs,F1,F2,e,e2,h,l⟩,a,q=>by
  rw[e2]at q
  rcases List.mem_append.mp q with q|q
  ·exact Dp.lst h a q
  ·exact DpL.lst l a q
end
mutual
theorem Dp.fix:∀{d:PyData} {v:V},EZ d=true->Is K (hid S H) d v->Dp K S H d v []
 |.none,_,_,h=>⟨h,rfl⟩
 |.bool _,_,_,h=>⟨h,rfl⟩
 |.int _,_,_,h=>⟨h,rfl⟩
 |.str _,_,_,h=>⟨h,rfl⟩
 |.tuple _,_,f,⟨a,vs,e,h,l⟩=>⟨a,vs,e,h,DpL.fix f l⟩
 |.list _,_,f,_=>absurd f Bool.false_ne_true
 |.dict _,_,f,_=>absurd f Bool.false_ne_true
theorem DpL.fix:∀{ds:List PyData} {vs:List V},fixDs ds=true->IsL K (hid S H) ds vs->DpL K S H ds vs []
 |[],_,_,h=>⟨h,rfl⟩
 |_::_,_,f,⟨x,xs,e,h,l⟩=>⟨x,xs,[],[],e,rfl,Dp.fix (by rw[fixDs,Bool.and_eq_true]at f;exact f.1) h,DpL.fix (by rw[fixDs,Bool.and_eq_true]at f;exact f.2) l⟩
end
mutual
theorem Dp.unfix:∀{d:PyData} {v:V} {F:List Addr},EZ d=true->Dp K S H d v F->F=[]/\Is K (hid S H) d v
 |.none,_,_,_,h=>⟨h.2,h.1⟩
 |.bool _,_,_,_,h=>⟨h.2,h.1⟩
 |.int _,_,_,_,h=>⟨h.2,h.1⟩
 |.str _,_,_,_,h=>⟨h.2,h.1⟩
 |.tuple _,_,_,f,⟨a,vs,e,h,l⟩=>let ⟨z,y⟩:=DpL.unfix f l;⟨z,a,vs,e,h,y⟩
 |.list _,_,_,f,_=>absurd f Bool.false_ne_true
 |.dict _,_,_,f,_=>absurd f Bool.false_ne_true
theorem DpL.unfix:∀{ds:List PyData} {vs:List V} {F:List Addr},fixDs ds=true->DpL K S H ds vs F->F=[]/\IsL K (hid S H) ds vs
 |[],_,_,_,h=>⟨h.2,h.1⟩
 |_::_,_,_,f,⟨x,xs,F1,F2,e,e2,h,l⟩=>by
  rw[fixDs,Bool.and_eq_true]at f
  obtain⟨rfl,y1⟩:=Dp.unfix f.1 h
  obtain⟨rfl,y2⟩:=DpL.unfix f.2 l
  exact⟨e2,x,xs,e,y1,y2⟩
end
end
def mem(F:List Addr)(b:Addr):Prop:=b∈F
end DL
end
section
namespace DL
open PySem L2
variable {K:KW}
theorem RF.newG{F:Frm}{S M:Addr->Prop}{τ:DS}{σ:St}{H:Hp}(f:RF K F S M τ σ H){X:List Addr}{i:Nat}{d:PyData}{v:V}(hi:i<τ.length)(hnp:F.ar.length<=i)(hS:∀a∈X,S a)(hM:∀a∈X,¬M a)(hF:∀a∈X,F.H a=none)(hn:X.Nodup)
  (h:DpT K S H d v X):RF K F S (fun b=>M b\/b∈X) (τ.set i (some (.g d))) (σ.set i (some v)) H:=by
 have hs:i<σ.length:=by rw[f.r.len];exact hi
 have ne:∀j,j≠i->(τ.set i (some (.g d)))[j]?=τ[j]?:=fun j hj=>List.getElem?_set_ne (Ne.symm hj)
 have ne':∀j,j≠i->(σ.set i (some v))[j]?=σ[j]?:=fun j hj=>List.getElem?_set_ne (Ne.symm hj)
 have se:(τ.set i (some (.g d)))[i]?=some (some (.g d)):=List.getElem?_set_self hi
 have se':(σ.set i (some v))[i]?=some (some v):=List.getElem?_set_self hs
 have own:∀(j:Nat) (ys:Ow),(τ.set i (some (.g d)))[j]?=some (some ys.L)->j≠i/\τ[j]?=some (some ys.L):=fun j ys e=>by
  by_cases hj:j=i
  ·subst hj;rw[se]at e;exact absurd (Option.some.inj (Option.some.inj e)).symm Ow.not_g
  ·rw[ne j hj]at e;exact⟨hj,e⟩
 have jn:∀{j:Nat} {v:V},F.ar[j]?=some (some v)->j≠i:=fun {j v} e z=>by
  subst z
  have:=(List.getElem?_eq_some_iff.mp e).1
  omega
 refine⟨⟨by rw[List.length_set,List.length_set];exact f.r.len,fun j x e=>?_,fun j ys e=>?_,fun j ys e=>?_,fun j1 j2 ys zs b e1 e2 f1 f2=>?_,fun b h=>h.elim (f.r.sub b) (hS b),f.r.ex,?_⟩,f.sS,f.old,fun b h=>h.elim (f.new b) fun z=>.inr (hF b z),fun b h=>.inl (f.fm b h),f.fs,f.fsub,f.snew,fun j v e=>?_,fun j v e=>?_,f.fma⟩
 ·by_cases hj:j=i
  ·subst hj;rw[se]at e;cases e
  ·rw[ne j hj]at e
   rw[ne' j hj]
   exact f.r.dat j x e
 ·obtain⟨hj,e⟩:=own j ys e
  rw[ne' j hj]
  obtain⟨b,us,h1,h2,h3,h4⟩:=f.r.mt j ys e
  exact⟨b,us,h1,.inl h2,h3,h4⟩
 ·by_cases hj:j=i
  ·subst hj;rw[se]at e;cases e
  ·rw[ne j hj]at e
   rw[ne' j hj]
   exact f.r.cst j ys e
 ·obtain⟨h1,e1⟩:=own _ _ e1
  obtain⟨h2,e2⟩:=own _ _ e2
  rw[ne' j1 h1]at f1
  rw[ne' j2 h2]at f2
  exact f.r.inj _ _ _ _ b e1 e2 f1 f2
 ·obtain⟨φ,g⟩:=f.r.gr
  refine⟨fun j=>if j=i then X else φ j,fun j x e=>?_⟩
  by_cases hj:j=i
  ·subst hj
   rw[se]at e;cases e
   simp only[if_true]
   refine⟨⟨v,se',h⟩,hn,fun a ha=>.inr ha,fun j' o a z1 z2 ha=>?_,fun j' x' hj' z a ha=>?_⟩
   ·obtain⟨q1,q2⟩:=own j' o z1
    rw[ne' j' q1]at z2
    obtain⟨b,us,h1,h2,_⟩:=f.r.mt j' o q2
    rw[z2]at h1;cases h1
    exact hM a ha h2
   ·rw[if_neg hj']
    intro hq
    rw[ne j' hj']at z
    obtain⟨_,_,q4,_,_⟩:=g j' x' z
    exact hM a ha (q4 a hq)
  ·dsimp only
   simp only[if_neg hj]
   rw[ne j hj]at e
   obtain⟨⟨v',q1,q2⟩,q3,q4,q5,q6⟩:=g j x e
   refine⟨⟨v',by rw[ne' j hj];exact q1,q2⟩,q3,fun a ha=>.inl (q4 a ha),fun j' o a z1 z2=>?_,fun j' x' hj' z a ha=>?_⟩
   ·obtain⟨w1,w2⟩:=own j' o z1
    rw[ne' j' w1]at z2
    exact q5 j' o a w2 z2
   ·by_cases hj2:j'=i
    ·rw[if_pos hj2];exact fun hq=>hM a hq (q4 a ha)
    ·rw[if_neg hj2]
     rw[ne j' hj2]at z
     exact q6 j' x' hj' z a ha
 ·rw[ne' j (jn e)]
  exact f.par j v e
 ·rw[ne j (jn e)]
  exact f.pm j v e
variable {np:Nat}
end DL
end
section
namespace DL
open PySem L2
variable {K:KW}
end DL
end
section
namespace DL
open PySem L2
variable {K:KW}
end DL
end
section
namespace DL
open PySem L2
end DL
end
section
namespace DL
open PySem L2
variable {K:KW}
def VH(f:DX)(lo hi:DO)(τ:DS):Option (PyData×DS):=(f τ).bind fun p=>(lo p.2).bind fun l=>(hi l.2).bind fun u=>match p.1 with
 |.tuple xs=>if HT.sIx xs.length 0 l.1=0/\HT.sIx xs.length xs.length u.1=xs.length then none else some (.tuple (gT xs l.1 u.1),u.2)
 |_=>none
theorem e6{fr:Bool}{te:TE}{tl th:TO}{f:DX}{lo hi:DO}(h:E K te fr f)(hl:OO K tl lo)(hh:OO K th hi):E K (tSl (iG K) te tl th) false (VH f lo hi):=by
 refine⟨fun τ d τ' e=>?_,?_⟩
 ·unfold VH at e
  obtain⟨⟨x,τ1⟩,e1,e⟩:=oB e
  obtain⟨⟨l,τ2⟩,e2,e⟩:=oB e
  obtain⟨⟨u,τ3⟩,e3,e⟩:=oB e
  dsimp only at e
  split at e
  ·split at e
   ·cases e
   ·cases e;exact((h.like _ _ _ e1).trans (hl.like _ _ _ e2)).trans (hh.like _ _ _ e3)
  ·cases e
 intro S M τ σ H Q d τ' r e q
 unfold VH at e
 obtain⟨⟨x,τ1⟩,e1,e⟩:=oB e
 obtain⟨⟨l,τ2⟩,e2,e⟩:=oB e
 obtain⟨⟨u,τ3⟩,e3,e⟩:=oB e
 dsimp only at e e2 e3
 cases x with
 |tuple xs =>
  dsimp only at e
  split at e
  ·cases e
  ·rename_i hw
   cases e
   refine h.run S M τ σ H _ _ _ r e1 fun v1 H1 r1 c1 i1=>?_
   refine hl.run S M τ1 σ H1 _ _ _ r1 e2 fun H2 r2 c2=>?_
   refine hh.run S M τ2 σ H2 _ _ _ r2 e3 fun H3 r3 c3=>?_
   have i1':Is K (hid S H3) (.tuple xs) v1:=((r.isr i1).mono (c2.keep r1.sub).same).mono (c3.keep r2.sub).same
   obtain⟨a,vs,rfl,ha,la⟩:=i1'
   refine⟨a,vs,rfl,Same.tup same_hid ha,by rw[la.length];exact hw,fun p hp=>?_⟩
   have s:=En hp (HO.tup (Xx vs l u))
   exact q _ _ (r3.same s) (((c1.trans c2).trans c3).trans (.of s)) ⟨p,_,rfl,SqT.of (hid_iff.mpr ⟨r3.fresh hp,CI⟩),(cu la).mono (Same.keep s).same⟩
 |_=>cases e
end DL
end
section
namespace DL
open PySem L2 PyProof.Rows
def Pg:List (Str×V)->Str->Option V
 |[],_=>none
 |t::r,k=>if t.1=k then some t.2 else Pg r k
def QT(ts:List (Str×V))(k:Str)(v:V):List (Str×V):=if ts.any (fun t=>decide (t.1=k))=true then ts.map (fun t=>if t.1=k then (t.1,v) else t) else ts++[(k,v)]
theorem Qt{k:Str}:∀{ts:List (Str×V)} {vs:List (Key×Value)},KV (txK ts) vs->(match Pg ts k with
  |some v=>∃u,valueAt vs (Sum.inr k)=some u/\RelV v u
  |none=>valueAt vs (Sum.inr k)=none)
 |[],vs,h=>by cases (show Paired _ [] vs from h);rfl
 |t::ts,vs,h=>by
  cases (show Paired _ ((Sum.inr t.1,t.2)::txK ts) vs from h) with
  |@cons _ q _ qs h1 h2 =>
   obtain⟨e1,e2⟩:=h1
   have ih:=Qt (k:=k) (ts:=ts) h2
   unfold Pg
   by_cases e:t.1=k
   ·rw[if_pos e]
    have e':q.1=Sum.inr k:=by rw[<- e1,e]
    exact⟨q.2,by simp[valueAt,List.find?_cons,e'],e2⟩
   ·rw[if_neg e]
    have e':¬q.1=Sum.inr k:=fun z=>e (by have:=e1.trans z;exact Sum.inr.inj this)
    have:valueAt (q::qs) (Sum.inr k)=valueAt qs (Sum.inr k):=by simp[valueAt,List.find?_cons,e']
    rw[this];exact ih
theorem Yg{k:Str}{ts:List (Str×V)}{vs:List (Key×Value)}(h:KV (txK ts) vs):(valueAt vs (Sum.inr k)).isSome=(Pg ts k).isSome:=by
 have g:=Qt (k:=k) h
 cases e:Pg ts k with
 |none=>rw[e]at g;rw[show valueAt vs (Sum.inr k)=none from g];rfl
 |some v=>rw[e]at g;obtain⟨u,hu,_⟩:=g;rw[hu];rfl
theorem jH{k:Str}:∀{ts:List (Str×V)} {vs:List (Key×Value)},KV (txK ts) vs->(vs.any fun kv=>decide (kv.1=Sum.inr k))=ts.any fun t=>decide (t.1=k)
 |[],vs,h=>by cases (show Paired _ [] vs from h);rfl
 |t::ts,vs,h=>by
  cases (show Paired _ ((Sum.inr t.1,t.2)::txK ts) vs from h) with
  |@cons _ q _ qs h1 h2 =>
   rw[List.any_cons,List.any_cons,jH (k:=k) (ts:=ts) h2,<- h1.1]
   congr 1
   by_cases e:t.1=k
   ·rw[e];simp
   ·rw[decide_eq_false e,decide_eq_false (fun z=>e (Sum.inr.inj z))]
theorem iX{k:Str}{v:V}{u:Value}(hv:RelV v u):∀{ts:List (Str×V)} {vs:List (Key×Value)},KV (txK ts) vs->KV (txK (ts.map fun t=>if t.1=k then (t.1,v) else t)) (vs.map fun kv=>if kv.1=Sum.inr k then (kv.1,u) else kv)
 |[],vs,h=>by cases (show Paired _ [] vs from h);exact .nil
 |t::ts,vs,h=>by
  cases (show Paired _ ((Sum.inr t.1,t.2)::txK ts) vs from h) with
  |@cons _ q _ qs h1 h2 =>
   refine .cons ?_ (iX hv (ts:=ts) h2)
   obtain⟨e1,e2⟩:=h1
   dsimp only at e1 e2 ⊢
   by_cases e:t.1=k
   ·rw[if_pos e,if_pos (by rw[<- e1,e])];exact⟨e1,hv⟩
   ·rw[if_neg e,if_neg (fun z=>e (Sum.inr.inj (e1.trans z)))];exact⟨e1,e2⟩
theorem jF{k:Str}{v:V}{u:Value}(hv:RelV v u):∀{ts:List (Str×V)} {vs:List (Key×Value)},KV (txK ts) vs->KV (txK (ts++[(k,v)])) (vs++[(Sum.inr k,u)])
 |[],vs,h=>by cases (show Paired _ [] vs from h);exact .cons ⟨rfl,hv⟩ .nil
 |t::ts,vs,h=>by
  cases (show Paired _ ((Sum.inr t.1,t.2)::txK ts) vs from h) with
  |@cons _ q _ qs h1 h2=>exact .cons h1 (jF hv (ts:=ts) h2)
theorem aK{k:Str}{v:V}{u:Value}{ts:List (Str×V)}{vs:List (Key×Value)}(hv:RelV v u)(h:KV (txK ts) vs):KV (txK (QT ts k v)) (stored vs (Sum.inr k) u):=by
 unfold QT stored
 rw[jH h]
 split
 ·exact iX hv h
 ·exact jF hv h
theorem fu{ts:List (Str×V)}{vs:List (Key×Value)}(h:KV (txK ts) vs):ts.length=vs.length:=by
 have:=Paired.length h
 unfold txK at this
 rw[List.length_map]at this
 exact this
theorem aL(ts:List (Str×V))(k:Str)(v:V):(QT ts k v).length<=ts.length+1:=by
 unfold QT
 split
 ·rw[List.length_map];omega
 ·rw[List.length_append];exact Nat.le_refl _
section
variable {X:Cx} {pins:List (Addr×Obj)} {σ:L2.St} {H:Hp} {s:Shared}
theorem Wh(I:Inv X pins σ H s){a:Addr}{ts:List (Str×V)}(h:H a=some (.dK (txK ts))):ts.length<=sizeLine/\(a==sysModules)=false/\∃vs,KV (txK ts) vs/\s.heap.DictOf (Km X.prog X.w) a vs:=by
 obtain⟨h1,h2,vs,h3,h4⟩:=(show ObjOk X.prog X.w H s.heap a (.dK (txK ts)) from I.hok a _ h)
 refine⟨?_,h2,vs,h3,h4⟩
 unfold txK at h1
 rw[List.length_map]at h1
 exact h1
end
theorem Nt{P:Program}{w:World}{k:Str}{u:Value}(h:RelV (.str k) u):(Km P w).is (Sum.inr k) u=true:=by
 obtain⟨t,rfl⟩:=h
 exact WM P w k t
def fT:R2:=fun x y H Q=>∃a ts k v,x = .ref a/\y = .str k/\H a=some (.dK (txK ts))/\Pg ts k=some v/\Q v H
theorem gD{X:Cx}:IxR X fT:=by
 intro value slice pins s σ H x y v u Q I rx ry h hs
 obtain⟨a,ts,k,z,rfl,rfl,hq,e,q⟩:=h
 cases rx
 obtain⟨h1,h2,vs,pr,dd⟩:=Wh I hq
 have g:=Qt (k:=k) pr
 rw[e]at g
 obtain⟨p,hp,rp⟩:=g
 exact tail_any dd.mapOf.typeIs PySem.F.slot_dict_getitem.lookup (wpAny_getItem_of (Nt ry) dd.mapOf hp ⟨z,H,I.tok _,rp,q⟩) hs
def fV(neg:Bool):R2:=fun y x H Q=>∃a ts k,x = .ref a/\y = .str k/\H a=some (.dK (txK ts))/\Q (.bl (neg != (Pg ts k).isSome)) H
theorem fY{X:Cx}:OpR X (compareOp .In) (fV false):=by
 intro pins s σ H x y v u Q I rx ry h
 obtain⟨a,ts,k,rfl,rfl,hq,q⟩:=h
 cases ry
 obtain⟨h1,h2,vs,pr,dd⟩:=Wh I hq
 refine wpAny_in_of (Nt rx) h2 dd.mapOf ?_
 rw[Yg pr]
 exact⟨.bl _,H,I.tok _,rfl,by simpa using q⟩
theorem ZE{X:Cx}:OpR X (compareOp .NotIn) (fV true):=by
 intro pins s σ H x y v u Q I rx ry h
 obtain⟨a,ts,k,rfl,rfl,hq,q⟩:=h
 cases ry
 obtain⟨h1,h2,vs,pr,dd⟩:=Wh I hq
 refine wpAny_notIn_of (Nt rx) h2 dd.mapOf ?_
 rw[Yg pr]
 exact⟨.bl _,H,I.tok _,rfl,by simpa using q⟩
def dq:V->V->V->Hp->(Hp->Prop)->Prop:=fun o i v H Q=>∃a ts k,o = .ref a/\i = .str k/\H a=some (.dK (txK ts))/\ts.length<sizeLine/\Q (upd H a (.dK (txK (QT ts k v))))
theorem iE{X:Cx}:gw X dq:=by
 intro pins s σ H o i v ov iv u Q I ro ri rv h
 obtain⟨a,ts,k,rfl,rfl,hq,hl,q⟩:=h
 cases ro
 obtain⟨h1,h2,vs,pr,dd⟩:=Wh I hq
 have hz:vs.length<=sizeLine:=by rw[<- fu pr];exact h1
 refine wpAny_setItem_pairs (hsz:=hz) (Nt ri) dd fun h' dd' hs=>⟨_,?_,q⟩
 have he:∃q,h'.get? a=some q:=let ⟨q,_,_,hq,_⟩:=dd';⟨q,hq⟩
 refine I.write (x:=a) (e:=a) (by rw[hq];exact True.intro) (.inl rfl) (fun c z hc e=>(hs.2 c hc).trans e) he ?_
 have hl2:=aL ts k v
 exact⟨by unfold txK;rw[List.length_map];omega,h2,_,aK rv pr,dd'⟩
def di:TE:=fun _ H Q=>∀p,H p=none->Q (.ref p) (upd H p (.dK (txK [])))
theorem cJ{X:Cx}{pos:Pos}:PE X (.Dict [] [] pos) di:=fun pins s σ H Q I h=>by
 have hb:sysModules<s.heap.objs.size:=Nat.lt_trans (by decide) (show mainGlobals<s.heap.objs.size from(I.mod.glob.keeps I.bk).lt)
 refine wpAny_Dict_empty ⟨.ref s.heap.objs.size,_,I.laid (a:=s.heap.objs.size) (o:=.dK (txK [])) (t':=s.toks) (fun _ _ q=>Heap.get?_push_of_some _ q) (Nat.le_refl _) ?_,rfl,h _ (I.hok.fresh (Nat.le_refl _))⟩
 exact⟨Nat.zero_le _,beq_eq_false_iff_ne.mpr (Ne.symm (Nat.ne_of_lt hb)),[],.nil,Heap.DictOf.new s.heap⟩
end DL
end
section
namespace DL
open PySem L2
variable {K:KW}
theorem RX{S M:Addr->Prop}{τ:DS}{σ:St}{H:Hp}(r:R K S M τ σ H){i:Nat}{d:PyData}(hi:τ[i]?=some (some (.g d))) :
  ∃v F,σ[i]?=some (some v)/\DpT K S H d v F/\(∀a∈F,M a)/\∀(H':Hp) (d':PyData),Chg (fun b=>b∈F) H H'->(∀a∈F,∃o,H' a=some o)->DpT K S H' d' v F->R K S M (τ.set i (some (.g d'))) σ H':=by
 obtain⟨φ,g⟩:=r.gr
 obtain⟨⟨v,g1,g2⟩,g3,g4,g5,g6⟩:=g i d hi
 refine⟨v,φ i,g1,g2,g4,fun H' d' c ho hd=>?_⟩
 have hlt:i<τ.length:=(List.getElem?_eq_some_iff.mp hi).1
 have ne:∀j,j≠i->(τ.set i (some (.g d')))[j]?=τ[j]?:=fun j hj=>List.getElem?_set_ne (Ne.symm hj)
 have se:(τ.set i (some (.g d')))[i]?=some (some (.g d')):=List.getElem?_set_self hlt
 have k:Keep S H S H':=c.keep fun b hb=>r.sub b (g4 b hb)
 have own:∀(j:Nat) (ys:Ow),(τ.set i (some (.g d')))[j]?=some (some ys.L)->j≠i/\τ[j]?=some (some ys.L):=fun j ys e=>by
  by_cases hj:j=i
  ·subst hj;rw[se]at e;exact absurd (Option.some.inj (Option.some.inj e)).symm Ow.not_g
  ·rw[ne j hj]at e;exact⟨hj,e⟩
 refine⟨by rw[List.length_set];exact r.len,fun j x e=>?_,fun j ys e=>?_,fun j ys e=>?_,fun j1 j2 ys zs b e1 e2 f1 f2=>r.inj _ _ _ _ b (own _ _ e1).2 (own _ _ e2).2 f1 f2,r.sub,fun a h=>?_,?_⟩
 ·by_cases hj:j=i
  ·subst hj;rw[se]at e;cases e
  ·rw[ne j hj]at e
   obtain⟨u,h1,h2⟩:=r.dat j x e
   exact⟨u,h1,h2.mono k.same⟩
 ·obtain⟨hj,e⟩:=own j ys e
  obtain⟨b,us,h1,h2,h3,h4⟩:=r.mt j ys e
  exact⟨b,us,h1,h2,c b _ (g5 j ys b e h1) h3,h4.mono k.same⟩
 ·by_cases hj:j=i
  ·subst hj;rw[se]at e;cases e
  ·rw[ne j hj]at e
   obtain⟨b,us,h1,h2,h3⟩:=r.cst j ys e
   exact⟨b,us,h1,k.same.seq h2,h3.mono k.same⟩
 ·by_cases hb:a∈φ i
  ·exact ho a hb
  ·obtain⟨o,e⟩:=r.ex a h
   exact⟨o,c a o hb e⟩
 ·refine⟨φ,fun j x e=>?_⟩
  by_cases hj:j=i
  ·subst hj
   rw[se]at e;cases e
   refine⟨⟨v,g1,hd⟩,g3,g4,fun j' o a z1 z2=>g5 j' o a (own j' o z1).2 z2,fun j' x' hj' z=>?_⟩
   rw[ne j' hj']at z
   exact g6 j' x' hj' z
  ·rw[ne j hj]at e
   obtain⟨⟨v',q1,q2⟩,q3,q4,q5,q6⟩:=g j x e
   have on:∀a∈φ j,H' a=H a:=fun a ha=>by
    obtain⟨o,e'⟩:=r.ex a (r.sub a (q4 a ha))
    rw[e'];exact c a o (fun z=>q6 i d (Ne.symm hj) hi a ha z) e'
   refine⟨⟨v',q1,q2.mono (tsS k.same) on⟩,q3,q4,fun j' o a z1 z2=>q5 j' o a (own j' o z1).2 z2,fun j' x' hj' z=>?_⟩
   by_cases hj2:j'=i
   ·subst hj2;exact q6 j' d hj' hi
   ·rw[ne j' hj2]at z;exact q6 j' x' hj' z
def bb(np i:Nat)(τ:DS):Option Out:=if np<=i/\i<τ.length then some (.nx (τ.set i (some (.g (.dict []))))) else none
theorem gj{np:Nat}{fr:Bool}{i:Nat}:B K np (Tz di (PU i)) fr (bb np i):=by
 intro F S M τ σ H D out hnp f ee q
 unfold bb at ee
 split at ee
 ·rename_i hi
  cases ee
  intro a ha
  have s:=En ha (HO.dK (txK []))
  have f1:=f.hide s ha ⟨_,CI⟩
  have hM:¬M a:=fun z=>f.r.fresh ha (f.r.sub a z)
  refine q _ _ _ _ (f1.newG (X:=[a]) hi.2 (Nat.le_trans hnp hi.1) (fun b hb=>.inr (List.mem_singleton.mp hb)) (fun b hb=>by rw[List.mem_singleton.mp hb];exact hM) (fun b hb=>by rw[List.mem_singleton.mp hb];exact f.hnone ha) (by simp) ⟨a,[],rfl,rfl,CI,rfl⟩) fun b o hn e=>⟨fun z=>z.elim hn (CS e ha),s b o e⟩
 ·cases ee
def KC:List (PyData×PyData)->Str->Option PyData
 |[],_=>none
 |(.str x,d)::r,k=>if x=k then some d else KC r k
 |_::r,k=>KC r k
theorem P9{H:Hp}{k:Str}:∀{kvs:List (PyData×PyData)} {ts:List (Str×V)},IsX K H kvs ts->(match KC kvs k with
  |some d=>∃v,Pg ts k=some v/\Is K H d v/\EZ d=true
  |none=>Pg ts k=none)
 |[],_,h=>by rw[show _=[] from h];rfl
 |(_,d)::r,_,⟨t,tr,e,ek,f,h,l⟩=>by
  subst e ek
  have ih:=P9 (k:=k) l
  unfold KC Pg
  by_cases e:t.1=k
  ·rw[if_pos e,if_pos e];exact⟨t.2,rfl,h,f⟩
  ·rw[if_neg e,if_neg e];exact ih
def RI(i:Nat)(f:DX)(τ:DS):Option (PyData×DS):=match τ[i]? with
 |some (some (.g (.dict _)))=>(f τ).bind fun p=>match p.1,p.2[i]? with
  |.str k,some (some (.g (.dict kvs)))=>(KC kvs k).map fun d=>(d,p.2)
  |_,_=>none
 |_=>none
theorem e8{i:Nat}{fr:Bool}{tb:TE}{f:DX}(h:E K tb fr f):E K (tOp fT (Pb i) tb) false (RI i f):=by
 refine⟨fun τ d τ' e=>?_,?_⟩
 ·unfold RI at e
  split at e
  ·obtain⟨⟨x,τ1⟩,e1,e⟩:=oB e
   dsimp only at e
   split at e
   ·obtain⟨z,e3,e⟩:=oM e
    cases e;exact h.like _ _ _ e1
   ·cases e
  ·cases e
 intro S M τ σ H Q d τ' r e q
 unfold RI at e
 split at e
 ·rename_i kv0 h0
  obtain⟨⟨x,τ1⟩,e1,e⟩:=oB e
  dsimp only at e
  split at e
  ·rename_i k kvs hk
   obtain⟨z,e3,e⟩:=oM e
   cases e
   obtain⟨v0,F0,hv0,_⟩:=RX r h0
   refine⟨v0,hv0,h.weak.run S M τ σ H _ _ _ r e1 fun u H1 r1 c1 i1=>?_⟩
   obtain⟨v1,F1,hv1,⟨a,ts,ea,_,hH,l⟩,_⟩:=RX r1 hk
   rw[hv0]at hv1;cases hv1
   subst ea
   have g:=P9 (k:=k) l
   rw[e3]at g
   obtain⟨v,gv,iv,_⟩:=g
   exact⟨a,ts,k,v,rfl,i1,hH,gv,q v H1 r1 c1 iv⟩
  ·cases e
 ·cases e
def ND(neg:Bool)(f:DX)(i:Nat)(τ:DS):Option (PyData×DS):=(f τ).bind fun p=>match p.1,p.2[i]? with
 |.str k,some (some (.g (.dict kvs)))=>some (.bool (neg != (KC kvs k).isSome),p.2)
 |_,_=>none
theorem e9{neg:Bool}{i:Nat}{fr:Bool}{ta:TE}{f:DX}(h:E K ta fr f):E K (tOp (fV neg) ta (Pb i)) false (ND neg f i):=by
 refine⟨fun τ d τ' e=>?_,?_⟩
 ·unfold ND at e
  obtain⟨⟨x,τ1⟩,e1,e⟩:=oB e
  dsimp only at e
  split at e
  ·cases e;exact h.like _ _ _ e1
  ·cases e
 intro S M τ σ H Q d τ' r e q
 unfold ND at e
 obtain⟨⟨x,τ1⟩,e1,e⟩:=oB e
 dsimp only at e
 split at e
 ·rename_i k kvs hk
  cases e
  refine h.weak.run S M τ σ H _ _ _ r e1 fun u H1 r1 c1 i1=>?_
  obtain⟨v1,F1,hv1,⟨a,ts,ea,_,hH,l⟩,_⟩:=RX r1 hk
  subst ea
  have g:=P9 (k:=k) l
  have eq:(Pg ts k).isSome=(KC kvs k).isSome:=by
   cases z:KC kvs k with
   |none=>rw[z]at g;rw[show Pg ts k=none from g];rfl
   |some y=>rw[z]at g;obtain⟨v,gv,_⟩:=g;rw[gv];rfl
  refine⟨.ref a,hv1,a,ts,k,rfl,i1,hH,?_⟩
  rw[eq]
  exact q _ H1 r1 c1 rfl
 ·cases e
def XH(kvs:List (PyData×PyData))(k:Str)(d:PyData):List (PyData×PyData):=if (KC kvs k).isSome=true then kvs.map (fun p=>match p with
  |(.str x,y)=>if x=k then (.str x,d) else (.str x,y)
  |p=>p) else kvs++[(.str k,d)]
theorem jI{H:Hp}{k:Str}:∀{kvs:List (PyData×PyData)} {ts:List (Str×V)},IsX K H kvs ts->(ts.any fun t=>decide (t.1=k))=(KC kvs k).isSome
 |[],_,h=>by rw[show _=[] from h];rfl
 |(_,d)::r,_,⟨t,tr,e,ek,f,h,l⟩=>by
  subst e ek
  unfold KC
  rw[List.any_cons,jI (k:=k) l]
  by_cases e:t.1=k
  ·rw[if_pos e,decide_eq_true e];rfl
  ·rw[if_neg e,decide_eq_false e,Bool.false_or]
theorem iY{H:Hp}{k:Str}{d:PyData}{v:V}(fd:EZ d=true)(hv:Is K H d v):∀{kvs:List (PyData×PyData)} {ts:List (Str×V)},IsX K H kvs ts->IsX K H (kvs.map fun p=>match p with
  |(.str x,y)=>if x=k then (.str x,d) else (.str x,y)
  |p=>p) (ts.map fun t=>if t.1=k then (t.1,v) else t)
 |[],_,h=>by rw[show _=[] from h];rfl
 |(_,y)::r,_,⟨t,tr,e,ek,f,h,l⟩=>by
  subst e ek
  have ih:=iY (k:=k) fd hv l
  rw[List.map_cons,List.map_cons]
  dsimp only
  by_cases e:t.1=k
  ·rw[if_pos e,if_pos e];exact⟨_,_,rfl,rfl,fd,hv,ih⟩
  ·rw[if_neg e,if_neg e];exact⟨_,_,rfl,rfl,f,h,ih⟩
theorem jG{H:Hp}{k:Str}{d:PyData}{v:V}(fd:EZ d=true)(hv:Is K H d v):∀{kvs:List (PyData×PyData)} {ts:List (Str×V)},IsX K H kvs ts->IsX K H (kvs++[(.str k,d)]) (ts++[(k,v)])
 |[],_,h=>by rw[show _=[] from h];exact⟨_,_,rfl,rfl,fd,hv,rfl⟩
 |(_,y)::r,_,⟨t,tr,e,ek,f,h,l⟩=>by
  subst e ek
  exact⟨_,_,rfl,rfl,f,h,jG fd hv l⟩
theorem cG{H:Hp}{k:Str}{d:PyData}{v:V}{kvs:List (PyData×PyData)}{ts:List (Str×V)}(fd:EZ d=true)(hv:Is K H d v)(h:IsX K H kvs ts):IsX K H (XH kvs k d) (QT ts k v):=by
 unfold XH QT
 rw[jI h]
 split
 ·exact iY fd hv h
 ·exact jG fd hv h
theorem YW{H:Hp}:∀{kvs:List (PyData×PyData)} {ts:List (Str×V)},IsX K H kvs ts->ts.length=kvs.length
 |[],_,h=>by rw[show _=[] from h];rfl
 |(_,_)::_,_,⟨t,tr,e,_,_,_,l⟩=>by subst e;rw[List.length_cons,List.length_cons,YW l]
def TU(i:Nat)(e k:DX)(τ:DS):Option Out:=(e τ).bind fun p=>match p.2[i]? with
 |some (some (.g (.dict _)))=>(k p.2).bind fun q=>match q.1,q.2[i]? with
  |.str x,some (some (.g (.dict kvs)))=>if EZ p.1=true/\kvs.length<sizeLine then some (.nx (q.2.set i (some (.g (.dict (XH kvs x p.1)))))) else none
  |_,_=>none
 |_=>none
theorem gh{np:Nat}{fr f1 f2:Bool}{i:Nat}{te tk:TE}{e k:DX}(he:E K te f1 e)(hk:E K tk f2 k):B K np (Tz te (gN (Pb i) tk dq)) fr (TU i e k):=by
 intro F S M τ σ H D out hnp f ee q
 unfold TU at ee
 obtain⟨⟨x,τ1⟩,e1,ee⟩:=oB ee
 dsimp only at ee
 split at ee
 ·rename_i kv0 h0
  obtain⟨⟨y,τ2⟩,e2,ee⟩:=oB ee
  dsimp only at ee
  split at ee
  ·rename_i z kvs h2
   split at ee
   ·rename_i hc
    cases ee
    refine he.weak.run S M τ σ H _ x τ1 f.r e1 fun v H1 r1 c1 i1=>?_
    obtain⟨v0,F0,hv0,_⟩:=RX r1 h0
    refine⟨v0,hv0,hk.weak.run S M τ1 σ H1 _ _ τ2 r1 e2 fun u H2 r2 c2 i2=>?_⟩
    obtain⟨v1,F1,hv1,⟨a,ts,ea,eF,hH,l⟩,hM,go⟩:=RX r2 h2
    rw[hv0]at hv1;cases hv1
    subst ea eF
    have Sa:S a:=r2.sub a (hM a (List.mem_singleton_self a))
    refine⟨a,ts,z,rfl,i2,hH,by rw[YW l];exact hc.2,?_⟩
    have iv:Is K (hid S H2) x v:=Is.mono (c2.keep r1.sub).same i1
    have c3:Chg (fun b=>b∈[a]) H2 (upd H2 a (.dK (txK (QT ts z v)))):=fun b o hn e=>by rw[Cz (fun w=>hn (by rw[w];exact List.mem_singleton_self a))];exact e
    have r3:=go (upd H2 a (.dK (txK (QT ts z v)))) (.dict (XH kvs z x)) c3 (fun b hb=>by rw[List.mem_singleton.mp hb];exact⟨_,CI⟩) ⟨a,QT ts z v,rfl,rfl,CI,by rw[Nv Sa];exact cG hc.1 iv l⟩
    have c4:Chg M H (upd H2 a (.dK (txK (QT ts z v)))):=(c1.trans c2).trans fun b o hn e=>c3 b o (fun w=>hn (by rw[List.mem_singleton.mp w];exact hM a (List.mem_singleton_self a))) e
    have lk:=(he.like _ _ _ e1).trans (hk.like _ _ _ e2)
    refine q S M σ _ ⟨r3,f.sS,fun b o e n=>c4 b o (fun w=>(f.new b w).elim n fun y=>by rw[y]at e;cases e) (f.old b o e n),f.new,f.fm,f.fs,f.fsub,f.snew,f.par,fun j v' e=>?_,f.fma⟩ (c4.keep f.r.sub)
    obtain⟨o,ho'⟩:=f.pm j v' e
    obtain⟨o2,h2'⟩:=(lk.own j).mpr ⟨o,ho'⟩
    have hj:j≠i:=fun w=>by subst w;rw[h2]at h2';exact Ow.not_g (Option.some.inj (Option.some.inj h2')).symm
    exact⟨o2,by rw[List.getElem?_set_ne (Ne.symm hj)];exact h2'⟩
   ·cases ee
  ·cases ee
 ·cases ee
end DL
namespace L2
open PySem
theorem Sy{X:Cx}{k:Nat}{ps:List Str}{sp:Sp}{x:Str}{p pos:Pos}(C:Cal X.prog X.w X.K X.mg X.base k x ps sp)(hr:Room k X.A)(hg:Gl X x)(hdb:(x==("__debug__":Str))=false:=by decide):PE X (.Call (.Name x p) [] [] pos) (QN sp [] E0 XC):=by
 obtain⟨f,fd,F,b,kp,m⟩:=C.ex
 exact aU F hr hg m kp b .nil aY hdb
end L2
end
section
namespace DL
open PySem L2
variable {K:KW}
end DL
end
section
namespace DL
open PySem L2
variable {K:KW} {np:Nat}
def gn(rows:List PyData)(y:Int)(d:PyData):Option (List PyData):=(ixN rows.length y).bind fun a=>match rows[a]? with
 |some (.list cs)=>if fixDs cs=true/\cs.length<sizeLine then some (rows.set a (.list (cs++[d]))) else none
 |_=>none
end DL
end
section
namespace DL
open PySem L2
variable {K:KW}
end DL
end
section
namespace DL
open PySem L2 PyProof.Rows
variable {K:KW}
def Kz:List PyData->Option (List Bool)
 |[]=>some []
 |.bool b::r=>(Kz r).map (b::·)
 |_::_=>none
theorem RU:∀{bs:List Bool} {us:List Value},Vals (bs.map V.bl) us->us=bs.map Value.bool
 |[],_,.nil=>rfl
 |b::bs,_,.cons z zs=>by rw[RU zs,show _=Value.bool b from z];rfl
theorem W0{H:Hp}:∀{ds:List PyData} {vs:List V} {bs:List Bool},IsL K H ds vs->Kz ds=some bs->vs=bs.map V.bl
 |[],_,_,h,e=>by cases e;exact h
 |.bool b::r,_,_,⟨v,us,e1,iv,l⟩,e=>by
  obtain⟨ms,e2,e⟩:=oM e
  subst e
  cases (show v = .bl b from iv)
  rw[e1,W0 l e2]
  rfl
 |.none::_,_,_,_,e=>by cases e
 |.int _::_,_,_,_,e=>by cases e
 |.str _::_,_,_,_,e=>by cases e
 |.list _::_,_,_,_,e=>by cases e
 |.tuple _::_,_,_,_,e=>by cases e
 |.dict _::_,_,_,_,e=>by cases e
theorem fS:∀bs:List Bool,(List.range bs.length).map (fun i=>bs.getD i false)=bs:=fun bs=>by
 refine List.ext_getElem (by simp) fun i h1 h2=>?_
 simp[List.getElem_map,h2]
theorem Y9(bs:List Bool):(List.range bs.length).all (fun i=>bs.getD i false)=bs.all id:=by
 have h:=congrArg (fun l:List Bool=>l.all id) (fS bs)
 rw[List.all_map]at h
 exact h
theorem Vc{P:Program}{w:World}{A:Around}(bs:List Bool):TruthOf P w A (fun i v=>(bs.map Value.bool).toArray[i]?=some v) (fun i=>bs.getD i false):=by
 intro i v s Q E hP hQ
 rw[List.getElem?_toArray,List.getElem?_map]at hP
 obtain⟨b,hb,rfl⟩:=oM hP
 refine wpAny_truthy_bool ?_
 have e:bs.getD i false=b:=by rw[List.getD_eq_getElem?_getD,hb];rfl
 dsimp only at hQ
 rwa [e]at hQ
def eI(K:KW):List V->Hp->VK->Prop:=fun xs H Q=>∃(a:Addr) (bs:List Bool),xs=[.ref a]/\SqL K H a (bs.map V.bl)/\Q (.bl (bs.all id)) H
theorem Xg{P:Program}{w:World}{A:Around}{E:Value->Shared->Prop}{s:Shared}{l:Addr}{items:Array Value}{Q:Value->Shared->Prop}(hl:s.heap.IsList l items)
  (h : ∀ s₂ : Shared, s₂ = { s with heap := s.heap.push { cls := .type "list_iterator", data := .fields #[.ref l, .int 0 0] } } ->
   (s₂.heap.IsListIter s.heap.objs.size l 0/\s₂.heap.IsList l items)->l≠s.heap.objs.size->Q (.ref s.heap.objs.size) s₂) :
  wpAny (model P w) A (pyIter (.ref l)) Q E s:=by
 have hlt:l<s.heap.objs.size:=by obtain⟨_,e,_⟩:=hl;exact Heap.lt_size e
 exact wpAny_pyIter_list hl (h _ rfl ⟨⟨_,Heap.get?_push_size _ rfl,rfl,rfl⟩,hl.push _⟩ (Nat.ne_of_lt hlt))
theorem L5{X:Cx}(hc:X.calm=true):K8 X (.builtin "all") (eI (Nr X)):=by
 intro pins s σ H xs us Q I r h
 obtain⟨a,bs,rfl,hs,q⟩:=h
 obtain⟨u,rfl,ru⟩:=QD r
 cases ru
 obtain⟨its,rv,p,hz⟩:=I.list hs
 cases RU rv
 have hl:=p.isList
 refine call_all_walk (Xg hl fun s₂ e st hlI=>?_)
 subst e
 refine⟨_,_,_,_,_,_,fun i=>bs.getD i false,rfl,Walks.list (A:=X.A.in1) (I.ok.hd hc) _ a hlI (bs.map Value.bool).toArray,st,Vc bs,fun h' tk hk=>?_⟩
 have hn:(bs.map Value.bool).toArray.size=bs.length:=by rw[List.size_toArray,List.length_map]
 rw[hn,Y9]
 exact⟨.bl (bs.all id),H,I.kept (old_kept hk),rfl,q⟩
def N7:List PyData->Option PyData
 |[.list ds]=>(Kz ds).map fun bs=>.bool (bs.all id)
 |_=>none
theorem VM:BR K false (eI K) N7:=by
 intro S H vs ds d Q _ l e q
 unfold N7 at e
 split at e
 ·obtain⟨bs,e1,e⟩:=oM e
  cases e
  obtain⟨v,us,rfl,⟨a,ws,rfl,h,lw⟩,iu⟩:=l
  cases (show us=[] from iu)
  rw[W0 lw e1]at h
  exact⟨a,bs,rfl,SqL.of (hid_iff.mp h).2,q _ H (fun _ _ e=>e) rfl⟩
 ·cases e
end DL
end
section
namespace L2
open PySem PySem.Spec PyProof.Rows
section
variable {X:Cx} {a b:Expr} {p pos:Pos} {e:Expr} {es:List Expr} {te:TE} {t:TA}
def jL(X:Cx)(T:Addr->Sp->Prop):Prop:=∀f sp,T f sp->∃k fd ps,FnOk X.prog X.w X.K X.mg X.base CX0 k f fd ps sp/\Room k X.A/\PySem.W.keepIn X.K (.ref f)=true/\Binds X.K fd ps []
def Z9(T:Addr->Sp->Prop)(te:TE)(t:TA):TE:=fun σ H Q=>te σ H fun v H1=>∃f sp,v = .ref f/\T f sp/\QN sp [] E0 t σ H1 Q
theorem aT{T:Addr->Sp->Prop}(hT:jL X T)(hf:PE X (.Subscript a b p) te)(ha:PA X (e::es) t)
  (he:starEach (e::es) X.env=(false,eval e X.env)::starEach es X.env:=by rfl) (hpl:(backTo pos (starEach es X.env)).any (·.1)=false:=by rfl) :
  PE X (.Call (.Subscript a b p) (e::es) [] pos) (Z9 T te t):=by
 intro pins s σ H Q I h
 have ev:eval (.Call (.Subscript a b p) (e::es) [] pos) X.env=(do callWith pos (<- eval (.Subscript a b p) X.env) [] (backTo pos (starEach (e::es) X.env)) (backToKw pos (keywordEach [] X.env))):=rfl
 rw[ev]
 refine wpAny_bind (thn (hf pins s σ H _ I h) fun u s1 ⟨x,H1,I1,rx,q⟩=>?_)
 obtain⟨f,sp,rfl,ht,q⟩:=q
 cases (show u=Value.ref f from rx)
 obtain⟨k,fd,ps,F,hr,hk,hb⟩:=hT f sp ht
 refine PySem.W.callWith_K (h₀:=X.base) I1.ok.mod.kin hk (thn (ha pos pins s1 σ H1 _ I1 q) fun us s2 ⟨vs,H2,I2,r,q2⟩=>⟨I2.kIn,?_⟩) he hpl
 exact XG F hr hb .nil aY I2 r q2
end
end L2
namespace DL
open PySem L2 PyProof.Rows
variable {K:KW}
def KfL(w:World):List DictEntry->List (Str×Addr)->Prop
 |[],[]=>True
 |e::es,p::tb=>(∃t,e.key = .str p.1 t)/\e.hash=hashStr w p.1/\e.val = .ref p.2/\KfL w es tb
 |_,_=>False
structure KF(K:KW)(w:World)(a:Addr)(tb:List (Str×Addr)):Prop where
 ex:∃es n,K.fr.lookup a=some ⟨.type "dict",none,.dict es n,#[]⟩/\KfL w es.toList tb
def FJ{α:Type}:List (Str×α)->Str->Option α
 |[],_=>none
 |p::r,k=>if p.1=k then some p.2 else FJ r k
theorem YX{w:World}:∀{es:List DictEntry} {tb:List (Str×Addr)},KfL w es tb->∀e∈es,∃k,Value.isStrOf k e.key=true/\e.hash=hashStr w k
 |[],_,_,e,h=>nomatch h
 |x::es,[],h,_,_=>h.elim
 |x::es,p::tb,⟨⟨t,hk⟩,hh,_,r⟩,e,h=>by
  rcases List.mem_cons.mp h with rfl|h
  ·exact⟨p.1,by rw[hk,Fn];exact decide_eq_true rfl,hh⟩
  ·exact YX r e h
theorem YY{w:World}{k:Str}:∀{es:List DictEntry} {tb:List (Str×Addr)},KfL w es tb->(es.find? fun e=>Value.isStrOf k e.key).map (·.val)=(FJ tb k).map Value.ref
 |[],[],_=>rfl
 |[],_::_,h=>h.elim
 |_::_,[],h=>h.elim
 |x::es,p::tb,⟨⟨t,hk⟩,hh,hc,r⟩=>by
  unfold FJ
  rw[List.find?_cons,hk,Fn]
  by_cases e:p.1=k
  ·rw[if_pos e,decide_eq_true e.symm]
   show some x.val=_
   rw[hc];rfl
  ·rw[if_neg e,decide_eq_false (Ne.symm e)]
   exact YY r
theorem eU{X:Cx}{pins:List (Addr×Obj)}{σ:L2.St}{H:Hp}{s:Shared}{a:Addr}{tb:List (Str×Addr)}(kf:KF (Nr X) X.w a tb)(I:Inv X pins σ H s):∃es:Array DictEntry,s.heap.MapOf (strKind X.prog X.w) a (fun k=>findBy Value.isStrOf es k)/\∀k,findBy Value.isStrOf es k=(FJ tb k).map Value.ref:=by
 obtain⟨es,n,lk,hL⟩:=kf.ex
 have ho:=I.kIn _ _ lk
 refine⟨es,⟨_,es,n,ho,⟨rfl,rfl,rfl⟩,rfl,fun e he=>YX hL e (Array.mem_toList_iff.mpr he),fun _=>rfl⟩,fun k=>?_⟩
 unfold findBy
 rw[<- Array.find?_toList]
 exact YY hL
def rKf(a:Addr)(tb:List (Str×Addr)):R2:=fun x y H Q=>x = .ref a/\∃k f,y = .str k/\FJ tb k=some f/\Q (.ref f) H
theorem ia{X:Cx}{a:Addr}{tb:List (Str×Addr)}(kf:KF (Nr X) X.w a tb):IxR X (rKf a tb):=by
 intro value slice pins s σ H x y v u Q I rx ry h hs
 obtain⟨rfl,k,f,rfl,hg,q⟩:=h
 cases rx
 obtain⟨t,rfl⟩:=ry
 obtain⟨es,hm,hf⟩:=eU kf I
 exact tail_any hm.typeIs PySem.F.slot_dict_getitem.lookup (wpAny_getItem_of (k:=k) (key:=.str k t) (by show Value.isStrOf k (.str k t)=true;rw[Fn];exact decide_eq_true rfl) hm (v:=.ref f) (by rw[hf,hg];rfl) ⟨.ref f,H,I.tok _,rfl,q⟩) hs
def eE(a:Addr)(tb:List (Str×Addr))(neg:Bool):R2:=fun y x H Q=>x = .ref a/\∃k,y = .str k/\Q (.bl (neg != (FJ tb k).isSome)) H
theorem cO{X:Cx}{a:Addr}{tb:List (Str×Addr)}(kf:KF (Nr X) X.w a tb)(hs:(a==sysModules)=false):OpR X (compareOp .In) (eE a tb false):=by
 intro pins s σ H x y v u Q I rx ry h
 obtain⟨rfl,k,rfl,q⟩:=h
 cases ry
 obtain⟨t,rfl⟩:=rx
 obtain⟨es,hm,hf⟩:=eU kf I
 refine wpAny_in_of (k:=k) (by show Value.isStrOf k (.str k t)=true;rw[Fn];exact decide_eq_true rfl) hs hm ?_
 rw[hf,Option.isSome_map]
 exact⟨.bl _,H,I.tok _,rfl,by simpa using q⟩
theorem Ya{w:World}{k:Str}:∀{es:List DictEntry} {tb:List (Str×PyData)},KdL K w es tb->(es.find? fun e=>Value.isStrOf k e.key).isSome=(MQ tb k).isSome
 |[],[],_=>rfl
 |[],_::_,h=>h.elim
 |_::_,[],h=>h.elim
 |x::es,p::tb,⟨⟨t,hk⟩,hh,hc,r⟩=>by
  unfold MQ
  rw[List.find?_cons,hk,Fn]
  by_cases e:p.1=k
  ·rw[if_pos e,decide_eq_true e.symm];rfl
  ·rw[if_neg e,decide_eq_false (Ne.symm e)]
   exact Ya r
def eG(a:Addr)(tb:List (Str×PyData)):R2:=fun y x H Q=>x = .ref a/\∃k,y = .str k/\Q (.bl (MQ tb k).isSome) H
theorem cP{X:Cx}{a:Addr}{tb:List (Str×PyData)}(kd:KD (Nr X) X.w a tb)(hs:(a==sysModules)=false):OpR X (compareOp .In) (eG a tb):=by
 intro pins s σ H x y v u Q I rx ry h
 obtain⟨rfl,k,rfl,q⟩:=h
 cases ry
 obtain⟨t,rfl⟩:=rx
 obtain⟨es,n,lk,hL⟩:=kd.ex
 have ho:=I.kIn _ _ lk
 have hm:s.heap.MapOf (strKind X.prog X.w) a (fun k=>findBy Value.isStrOf es k):=⟨_,es,n,ho,⟨rfl,rfl,rfl⟩,rfl,fun e he=>Yb hL e (Array.mem_toList_iff.mpr he),fun _=>rfl⟩
 refine wpAny_in_of (k:=k) (by show Value.isStrOf k (.str k t)=true;rw[Fn];exact decide_eq_true rfl) hs hm ?_
 have e:(findBy Value.isStrOf es k).isSome=(MQ tb k).isSome:=by
  unfold findBy
  rw[<- Array.find?_toList,Option.isSome_map]
  exact Ya hL
 rw[e]
 exact⟨.bl _,H,I.tok _,rfl,q⟩
def dG(tb:List (Str×PyData))(f:DX)(τ:DS):Option (PyData×DS):=(f τ).bind fun p=>match p.1 with
 |.str k=>some (.bool (MQ tb k).isSome,p.2)
 |_=>none
theorem i9{fa:Bool}{a:Addr}{tb:List (Str×PyData)}{t:TE}{f:DX}(h:E K t fa f):E K (tOp (eG a tb) t (tC (.ref a))) false (dG tb f):=by
 refine⟨fun τ d τ' e=>?_,?_⟩
 ·unfold dG at e
  obtain⟨⟨x,τ1⟩,e1,e⟩:=oB e
  dsimp only at e
  split at e
  ·cases e;exact h.like _ _ _ e1
  ·cases e
 intro S M τ σ H Q d τ' r e q
 unfold dG at e
 obtain⟨⟨x,τ1⟩,e1,e⟩:=oB e
 dsimp only at e
 split at e
 ·rename_i k
  cases e
  refine h.weak.run S M τ σ H _ _ _ r e1 fun v H1 r1 c1 i1=>?_
  cases (show v = .str k from i1)
  exact⟨rfl,k,rfl,q _ H1 r1 c1 rfl⟩
 ·cases e
abbrev Mir:=List L->Option (PyData×List L)
inductive TMs (T:Addr->Mir->Prop):List (Str×Addr)->List (Str×Mir)->Prop
 |nil:TMs T [] []
 |cons {k:Str} {f:Addr} {G:Mir} {tb:List (Str×Addr)} {tm:List (Str×Mir)} (h:T f G) (r:TMs T tb tm):TMs T ((k,f)::tb) ((k,G)::tm)
theorem TMs.get{T:Addr->Mir->Prop}{k:Str}{G:Mir}:∀{tb:List (Str×Addr)} {tm:List (Str×Mir)},TMs T tb tm->FJ tm k=some G->∃f,FJ tb k=some f/\T f G
 |_,_,.nil,h=>by cases h
 |_,_,.cons (k:=k') (f:=f) h r,e=>by
  unfold FJ at e ⊢
  by_cases z:k'=k
  ·rw[if_pos z]at e ⊢
   cases e
   exact⟨f,rfl,h⟩
  ·rw[if_neg z]at e ⊢
   exact r.get e
theorem TMs.some{T:Addr->Mir->Prop}{k:Str}:∀{tb:List (Str×Addr)} {tm:List (Str×Mir)},TMs T tb tm->(FJ tb k).isSome=(FJ tm k).isSome
 |_,_,.nil=>rfl
 |_,_,.cons (k:=k') h r=>by
  unfold FJ
  by_cases z:k'=k
  ·rw[if_pos z,if_pos z];rfl
  ·rw[if_neg z,if_neg z];exact r.some
def jM(P:Program)(w:World)(K:PySem.W.Frag)(mg:Str->Option Value)(base:Heap)(k:Nat):Addr->Mir->Prop:=fun f G=>∃x ps,Cal P w K mg base k x ps (spD ⟨K,w⟩ G false)/\mg x=some (.ref f)
theorem cx{X:Cx}{k:Nat}(hr:Room k X.A):jL X (fun f sp=>∃G,jM X.prog X.w X.K X.mg X.base k f G/\sp=spD ⟨X.K,X.w⟩ G false):=by
 rintro f sp ⟨G,⟨x,ps,C,hm⟩,rfl⟩
 obtain⟨f',fd,F,b,kp,m⟩:=C.ex
 rw[m]at hm
 cases hm
 exact⟨k,fd,ps,F,hr,kp,b⟩
def Xw(tm:List (Str×Mir))(f:DX)(τ:DS):Option (PyData×DS):=(f τ).bind fun p=>match p.1 with
 |.str k=>some (.bool (FJ tm k).isSome,p.2)
 |_=>none
theorem jA{T:Addr->Mir->Prop}{fa:Bool}{a:Addr}{tb:List (Str×Addr)}{tm:List (Str×Mir)}{t:TE}{f:DX}(hT:TMs T tb tm)(h:E K t fa f):E K (tOp (eE a tb false) t (tC (.ref a))) false (Xw tm f):=by
 refine⟨fun τ d τ' e=>?_,?_⟩
 ·unfold Xw at e
  obtain⟨⟨x,τ1⟩,e1,e⟩:=oB e
  dsimp only at e
  split at e
  ·cases e;exact h.like _ _ _ e1
  ·cases e
 intro S M τ σ H Q d τ' r e q
 unfold Xw at e
 obtain⟨⟨x,τ1⟩,e1,e⟩:=oB e
 dsimp only at e
 split at e
 ·rename_i k
  cases e
  refine h.weak.run S M τ σ H _ _ _ r e1 fun v H1 r1 c1 i1=>?_
  cases (show v = .str k from i1)
  refine⟨rfl,k,rfl,q _ H1 r1 c1 ?_⟩
  show V.bl _=V.bl _
  rw[Bool.false_bne,hT.some]
 ·cases e
def O5(tm:List (Str×Mir))(f:DX)(a:DA)(τ:DS):Option (PyData×DS):=(f τ).bind fun p=>match p.1 with
 |.str k=>(FJ tm k).bind fun G=>AU G a p.2
 |_=>none
theorem dD{T:Addr->Mir->Prop}{fa:Bool}{ad:Addr}{tb:List (Str×Addr)}{tm:List (Str×Mir)}{t:TE}{f:DX}{ta:TA}{a:DA}(hT:TMs T tb tm)(h:E K t fa f)(ha:A K ta a) :
  E K (Z9 (fun f sp=>∃G,T f G/\sp=spD K G false) (tOp (rKf ad tb) (tC (.ref ad)) t) ta) false (O5 tm f a):=by
 refine⟨fun τ d τ' e=>?_,?_⟩
 ·unfold O5 at e
  obtain⟨⟨x,τ1⟩,e1,e⟩:=oB e
  dsimp only at e
  split at e
  ·obtain⟨G,e2,e⟩:=oB e
   exact(h.like _ _ _ e1).trans ((Ad (fr:=false) (G:=G) (X:=E0) ha).like _ _ _ e)
  ·cases e
 intro S M τ σ H Q d τ' r e q
 unfold O5 at e
 obtain⟨⟨x,τ1⟩,e1,e⟩:=oB e
 dsimp only at e
 split at e
 ·rename_i k
  obtain⟨G,e2,e⟩:=oB e
  obtain⟨fn,hg,hT'⟩:=hT.get e2
  refine h.weak.run S M τ σ H _ _ _ r e1 fun v H1 r1 c1 i1=>?_
  cases (show v = .str k from i1)
  refine⟨rfl,k,fn,rfl,hg,fn,spD K G false,rfl,⟨G,hT',rfl⟩,?_⟩
  exact(Ad (fr:=false) (G:=G) (X:=E0) ha).run S M τ1 σ H1 Q d τ' r1 e fun v H' r' c' res=>q v H' r' (c1.trans c') (res.back r1 c1)
 ·cases e
end DL
end
section
namespace DL
open PySem L2
variable {K:KW} {np:Nat}
end DL
end
section
namespace DL
open PySem L2
variable {K:KW} {np:Nat}
end DL
end
section
namespace DL
open PySem L2
variable {K:KW} {np:Nat}
def gtP:List Nat->PyData->Option PyData
 |[],d=>some d
 |k::π,.list ds=>(ds[k]?).bind (gtP π)
 |k::π,.tuple ds=>(ds[k]?).bind (gtP π)
 |_::_,_=>none
def stP(x:PyData):List Nat->PyData->PyData
 |[],_=>x
 |k::π,.list ds=>.list (ds.set k (stP x π (ds.getD k .none)))
 |k::π,.tuple ds=>.tuple (ds.set k (stP x π (ds.getD k .none)))
 |_::_,d=>d
def jK(K:KW)(S:Addr->Prop)(H:Hp)(F:List Addr)(d:PyData)(v:V)(π:List Nat)(d':PyData)(u:V):Prop:=∃Fy,Dp K S H d' u Fy/\(∀a∈Fy,a∈F)/\Fy.Nodup/\((π=[]->u=v/\d'=d)/\(π≠[]->∀ds,d = .list ds->∀a,v = .ref a->a∉Fy)) /\
 ∀(H':Hp) (x:PyData) (Fx:List Addr),TSm (hid S H) (hid S H')->(∀a∈F,a∉Fy->H' a=H a)->Dp K S H' x u Fx->(∀a∈Fx,a∈Fy)->Fx.Nodup->∃F3,(∀a∈F3,a∈F)/\F3.Nodup/\Dp K S H' (stP x π d) v F3
abbrev DP:=PyData->DS->Option (List Nat×PyData×DS)
structure PT(K:KW)(r:Nat)(t:TE)(g:DP):Prop where
 like:∀d τ π d' τ',g d τ=some (π,d',τ')->Like τ τ'
 gp:∀d τ π d' τ',g d τ=some (π,d',τ')->∀π0 dr,gtP π0 dr=some d->gtP (π0++π) dr=some d'
 run:∀(S M:Addr->Prop) τ σ H (Q:VK) dr v F π0 d0 u0 π d' τ',R K (fun b=>S b/\b∉F) (fun b=>M b/\b∉F) τ σ H->σ[r]?=some (some u0)->(∀a∈F,∃vs,H a=some (.lst vs))->(∀a,M a->S a)->gtP π0 dr=some d0->jK K S H F dr v π0 d0 u0->g d0 τ=some (π,d',τ') ->
  (∀u H',R K (fun b=>S b/\b∉F) (fun b=>M b/\b∉F) τ' σ H'->Chg (fun b=>M b/\b∉F) H H'->jK K S H' F dr v (π0++π) d' u->Q u H')->t σ H Q
end DL
end
section
namespace DL
open PySem L2
variable {K:KW} {np:Nat}
end DL
end
section
namespace L2
open PySem DL
end L2
namespace DL
open PySem L2
variable {K:KW}
end DL
end
section
namespace Duh
open PySem
section
variable {K:Type} [DecidableEq K]
end
section
variable {prog:Program} {w:World} {K:Type} [DecidableEq K] {knd:HeapKind prog w K} {A:Around} {E:Value->Shared->Prop} {s:Shared}
end
end Duh
end
section
namespace DL
open PySem L2 PyProof.Rows
variable {K:KW}
instance (l:List Int):Decidable l.Nodup:=inferInstance
end DL
end
section
namespace DL
open PySem L2
variable {K:KW} {np:Nat}
end DL
end
section
namespace DL
open PySem L2
variable {K:KW} {np:Nat}
end DL
end
section
namespace L2
open PySem PySem.Spec PyProof.Rows
def g7(lo st:Int)(n:Nat):It:=⟨fun i _=>i<n,fun i H x H'=>H'=H/\x = .int (lo+(i:Nat)*st),fun i _=>n<=i⟩
theorem Vb{P:Program}{w:World}{K:PySem.W.Frag}{tg:Expr}(it:Addr)(lo sp:Int)(n:Nat):W3 P w K tg (g7 lo sp n) [it] it (fun i h=>IsRangeIter h it (lo+(i:Nat)*sp) ((n:Int)-(i:Nat)) sp) where
 mem:=by simp
 obj:=fun i h st b hb=>by
  have e:b=it:=by simpa using hb
  subst e
  exact ⟨_, st, fun v z => by
   have z':Data.fields _=Data.cell v:=z
   cases z'⟩
 keep:=fun i h h' st k=>k it (by simp) _ st
 item:=by
  intro X hP hw hK hc i pins s σ H E I hf st hg
  subst hP hw hK
  obtain⟨f0,f1,f2,f3,f4,f5⟩:=hf it (by simp)
  have W:=Walks.range (prog:=X.prog) (w:=X.w) (I.ok.hd hc) it lo sp n
  refine W.item i s _ _ hg st fun v h' tk hv st' kk=>?_
  obtain⟨t,rfl⟩:=hv
  have I1:Inv X pins σ H { s with heap:=h',toks:=tk }:=I.turned (fun b o hb e=>kk b o (by simpa using hb) e) f0 f1 f3 f4 f5
  exact⟨_,rfl,WW (s:={ s with heap:=h',toks:=tk }) (n:="range_iterator") st' rfl rfl (by decide) ⟨.int _,H,I1,⟨t,rfl⟩,⟨rfl,rfl⟩,st',fun b hb=>(hf b hb).1⟩⟩
 done:=by
  intro X hP hw hK hc i pins s σ H E I hf st hg
  subst hP hw hK
  obtain⟨f0,f1,f2,f3,f4,f5⟩:=hf it (by simp)
  exact wpAny_pyNext_range_end (I.ok.hd hc) st (by have:n<=i:=hg;omega) fun h' eb=>⟨rfl,I.turned (t':=s.toks) (fun b o hb e=>eb b o hb e) f0 f1 f3 f4 f5⟩
 self:=fun _ _ _ _ _ st h=>wpAny_pyIter_rangeiter st h
def rgN(lo hi st:Int):Nat:=(Builtin.Range.rangeSize lo hi st).toNat
def CRg(lo hi st:Int):Prop:=-1000000<=lo/\lo<=1000000/\-1000000<=hi/\hi<=1000000/\0<st/\st<=1000000
theorem dn{lo hi st:Int}(h:CRg lo hi st):0<=Builtin.Range.rangeSize lo hi st/\Builtin.Range.rangeSize lo hi st<=2000001:=by
 obtain⟨h1,h2,h3,h4,h5,h6⟩:=h
 unfold Builtin.Range.rangeSize
 rw[if_pos h5]
 split
 ·have a:=Int.ediv_nonneg (a:=hi-lo-1) (b:=st) (by omega) (by omega)
  have b:=Int.ediv_le_self (a:=hi-lo-1) st (by omega)
  omega
 ·omega
theorem aF{lo hi st:Int}(h:CRg lo hi st):Builtin.Range.small lo hi st=true:=by
 have hn:=dn h
 obtain⟨h1,h2,h3,h4,h5,h6⟩:=h
 have fits:∀i:Int,-10000000<=i->i<=10000000->Builtin.Range.rangeFitsLong i=true:=fun i a b=>by
  unfold Builtin.Range.rangeFitsLong
  rw[decide_eq_true (by omega),decide_eq_true (by omega)];rfl
 unfold Builtin.Range.small
 rw[if_pos h5,fits lo (by omega) (by omega),fits hi (by omega) (by omega),fits st (by omega) (by omega),fits _ (by omega) (by omega),fits (hi+(st-1)) (by omega) (by omega)]
 simp
def eW(ta:TA):TI:=fun σ H R=>ta σ H fun vs H1=>∃i j k:Int,vs=[.int i,.int j,.int k]/\CRg i j k/\R (g7 i k (rgN i j k)) H1
theorem ZC{X:Cx}{tg a b c:Expr}{ta:TA}{p pos:Pos}(hg:Gl X "range")(hm:X.mg "range"=none)(ha:PA X [a,b,c] ta)(hs:starEach [a,b,c] X.env=[(false,eval a X.env),(false,eval b X.env),(false,eval c X.env)]:=by rfl)(hs2:starEach [b,c] X.env=[(false,eval b X.env),(false,eval c X.env)]:=by rfl) :
  PI X tg (.Call (.Name "range" p) [a,b,c] [] pos) (eW ta):=by
 intro pins s σ H R I h
 refine Call_ (Qn I hg hm boot_range (PyProof.Rows.callWith_type1 (thn (ha pos pins s σ H _ I h) fun us s1 ⟨vs,H1,I1,r1,q1⟩=>?_) (by rw[hs,hs2]) (by rw[hs2];rfl)))
 obtain⟨i,j,k,e,hc,q⟩:=q1
 subst e
 cases r1 with
 |cons r rr =>
  cases rr with
  |cons r' rr =>
   cases rr with
   |cons r'' rr =>
    cases rr
    obtain⟨t,rfl⟩:=r
    obtain⟨t',rfl⟩:=r'
    obtain⟨t'',rfl⟩:=r''
    have hk:k≠0:=by have:=hc.2.2.2.2.1;omega
    refine call_range_3 hk ?_ (Or.inl (PyProof.noPylong_small (by have:=hc;unfold CRg at this;omega)))
    refine wpAny_pyIter_range (IsRange.new ..) (aF hc) ?_
    have I2:Inv X pins σ H1 { s1 with heap:=s1.heap.push { cls:=.type "range",data:=.fields #[.int i t,.int j t',.int k t''] },toks:=s1.toks }:=I1.kept fun b o e=>Heap.get?_push_of_some _ e
    refine ⟨(s1.heap.push { cls := .type "range", data := .fields #[.int i t, .int j t', .int k t''] }).objs.size, [(s1.heap.push { cls := .type "range", data := .fields #[.int i t, .int j t', .int k t''] }).objs.size], _, _, H1, rfl,
     I2.kept (t':=s1.toks) fun b o e=>Heap.get?_push_of_some _ e,Vb _ i k (rgN i j k),?_,fun b hb=>?_,q⟩
    ·have e1:i+((0:Nat):Int)*k=i:=by simp
     have e2:((rgN i j k:Nat):Int)-((0:Nat):Int)=Builtin.Range.rangeSize i j k:=by unfold rgN;have:=(dn hc).1;omega
     show IsRangeIter _ _ (i+((0:Nat):Int)*k) (((rgN i j k:Nat):Int)-((0:Nat):Int)) k
     rw[e1,e2]
     exact Heap.get?_push_size _ rfl
    ·have e:b=(s1.heap.push { cls:=.type "range",data:=.fields #[.int i t,.int j t',.int k t''] }).objs.size:=by simpa using hb
     subst e
     exact I2.fpOk (Nat.le_refl _) (I2.hok.fresh (Nat.le_refl _))
def Iz{α:Type}(xs:List α)(i:Nat)(x:α):List α:=xs.take i++x::xs.drop i
def iM:V->List V->Hp->VK->Prop:=fun x vs H Q=>∃l xs i y,x = .ref l/\vs=[.int i,y]/\H l=some (.lst xs)/\0<=i/\i<=(xs.length:Int)/\xs.length<sizeLine/\Q .non (upd H l (.lst (Iz xs i.toNat y)))
theorem Zz{xs:List V}{its:List Value}{i:Nat}{y:V}{u:Value}(r:Vals xs its)(ru:RelV y u):Vals (Iz xs i y) (Iz its i u):=by
 unfold Iz
 have h1:∀{xs:List V} {its:List Value} (i:Nat),Vals xs its->Vals (xs.take i) (its.take i)/\Vals (xs.drop i) (its.drop i):=by
  intro xs its i r
  induction r generalizing i with
  |nil=>simp only[List.take_nil,List.drop_nil];exact⟨.nil,.nil⟩
  |cons a b ih =>
   cases i with
   |zero=>exact⟨.nil,.cons a b⟩
   |succ i=>exact⟨.cons a (ih i).1,(ih i).2⟩
 exact(h1 i r).1.append (.cons ru (h1 i r).2)
theorem ZS{X:Cx}:MtM X "list.insert" iM:=by
 intro pins s σ H x vs v us Q I rx rv h
 obtain⟨l,xs,i,y,rfl,rfl,hH,h0,h1,hz,q⟩:=h
 cases rx
 cases rv with
 |cons r1 rv =>
  cases rv with
  |cons r2 rv =>
   cases rv
   obtain⟨t,rfl⟩:=r1
   rename_i u
   obtain⟨z,its,n,r,hl,e⟩:=I.lstM hH
   have hfit:¬(!Builtin.List.listFitsIndex i)=true:=by
    have:sizeLine<2 ^ 63:=by decide
    rw[fitsIndex_both (by omega) (by omega)]
    exact Bool.false_ne_true
   refine call_meets F.slot_list_insert ⟨_,e,rfl⟩ F.entry_list_insert (F.args_list_insert_3 _ _ _) (AutoListH.list_insert_list_int_val_1 l its.toArray n i t u hfit (by rw[List.size_toArray];omega)) ⟨e,?_⟩
   refine⟨.non,_,I.lset (its':=Iz its i.toNat u) hH e ?_ (Zz r r2) ?_,rfl,q⟩
   ·have hk:(if i<0 then (i+((its.toArray.size:Nat):Int)).toNat else min i.toNat its.toArray.size)=i.toNat:=by
     rw[if_neg (by omega),List.size_toArray];omega
    show((its.toArray.extract 0 (if i<0 then (i+((its.toArray.size:Nat):Int)).toNat else min i.toNat its.toArray.size)).push u++its.toArray.extract (if i<0 then (i+((its.toArray.size:Nat):Int)).toNat else min i.toNat its.toArray.size))=_
    rw[hk]
    unfold Iz
    apply Array.toList_inj.mp
    simp
    exact List.take_of_length_le (by rw[List.length_drop];exact Nat.le_refl _)
   ·unfold Iz
    rw[List.length_append,List.length_cons,List.length_take,List.length_drop]
    omega
end L2
namespace DL
open PySem L2 PyProof.Rows
variable {K:KW}
instance {i j k:Int}:Decidable (CRg i j k):=by unfold CRg;infer_instance
def QS(lo st:Int)(n:Nat):List PyData:=(List.range n).map fun(k:Nat)=>PyData.int (lo+(k:Int)*st)
theorem Y8{S:Addr->Prop}{H:Hp}{lo st:Int}{n:Nat}:g8 K S (g7 lo st n) H (QS lo st n):=by
 intro S2 H2 k
 refine⟨fun i d e=>?_,fun i hi=>?_⟩
 ·unfold QS at e
  rw[List.getElem?_map]at e
  by_cases hi:i<n
  ·rw[List.getElem?_range hi]at e
   cases e
   exact⟨hi,fun x H3 y=>⟨y.1,y.2⟩⟩
  ·rw[List.getElem?_eq_none (by simpa using hi)]at e
   cases e
 ·unfold QS at hi
  rw[List.length_map,List.length_range]at hi
  exact hi
def dR3(a:DA)(τ:DS):Option (List PyData×DS):=(a τ).bind fun p=>(Cy p.1).bind fun ds=>match ds with
 |[.int i,.int j,.int k]=>if CRg i j k then some (QS i k (rgN i j k),p.2) else none
 |_=>none
theorem ZX{t:TA}{a:DA}(ha:A K t a):IT K (eW t) (dR3 a):=by
 refine⟨fun τ d τ' e=>?_,?_⟩
 ·unfold dR3 at e
  obtain⟨⟨x,τ1⟩,e1,e⟩:=oB e
  obtain⟨ds,e2,e⟩:=oB e
  split at e
  ·split at e
   ·cases e;exact ha.like _ _ _ e1
   ·cases e
  ·cases e
 intro S M τ σ H Q ds τ' r e q
 unfold dR3 at e
 obtain⟨⟨x,τ1⟩,e1,e⟩:=oB e
 obtain⟨ds',e2,e⟩:=oB e
 split at e
 ·split at e
  ·rename_i i j k hj
   cases e
   refine ha.run S M τ σ H _ x _ r e1 fun vs H1 r1 c1 i1=>?_
   obtain⟨v,us,rfl,iv,v2,us2,rfl,iv2,v3,us3,rfl,iv3,iu⟩:=Ho i1 e2
   cases (show us3=[] from iu)
   exact⟨i,j,k,by rw[show v = .int i from iv,show v2 = .int j from iv2,show v3 = .int k from iv3],hj,q _ H1 r1 c1 Y8⟩
  ·cases e
 ·cases e
def QA:List PyData->List PyData->Option (PyData×List PyData)
 |xs,[.int i,d]=>if 0<=i/\i<=(xs.length:Int)/\xs.length<sizeLine then some (.none,Iz xs i.toNat d) else none
 |_,_=>none
theorem bC:MR K iM QA:=by
 intro S H a vs us xs ds d xs' Q Sa hl ll l e q
 unfold QA at e
 split at e
 ·split at e
  ·rename_i i d0 hz
   cases e
   obtain⟨v,us',rfl,iv,v2,us2,rfl,iv2,iu⟩:=l
   cases (show us2=[] from iu)
   cases (show v = .int i from iv)
   refine⟨a,vs,i,v2,rfl,rfl,hl,hz.1,by rw[ll.length];exact hz.2.1,by rw[ll.length];exact hz.2.2,q _ _ rfl ?_⟩
   unfold Iz
   exact Hb (Qq _ ll) ⟨v2,_,rfl,iv2,Qr _ ll⟩
  ·cases e
 ·cases e
def U5:List PyData->List PyData->Option (PyData×List PyData)
 |xs,[.int i]=>if 0<=i/\i<(xs.length:Int)/\xs.length<=1000000 then (xs[i.toNat]?).map fun d=>(d,xs.eraseIdx i.toNat) else none
 |_,_=>none
theorem TM{H:Hp}:∀{xs:List PyData} {vs:List V} (i:Nat),IsL K H xs vs->IsL K H (xs.eraseIdx i) (vs.eraseIdx i)
 |[],_,i,h=>by rw[show _=[] from h];exact rfl
 |x::xs,_,0,⟨v,us,e,iv,l⟩=>by subst e;exact l
 |x::xs,_,i+1,⟨v,us,e,iv,l⟩=>by subst e;exact⟨v,_,rfl,iv,TM i l⟩
theorem cb:MR K aJ U5:=by
 intro S H a vs us xs ds d xs' Q Sa hl ll l e q
 unfold U5 at e
 split at e
 ·split at e
  ·rename_i i hz
   obtain⟨d0,hd,e⟩:=oM e
   cases e
   obtain⟨v,us',rfl,iv,iu⟩:=l
   cases (show us'=[] from iu)
   cases (show v = .int i from iv)
   obtain⟨y,hy,iy⟩:=ll.get hd
   refine⟨a,vs,i,i.toNat,y,rfl,rfl,hl,by omega,by omega,?_,hy,q _ _ iy (TM _ ll)⟩
   unfold seqIndex?
   rw[ll.length]
   simp
   omega
  ·cases e
 ·cases e
def We:PyData->PyData->Option PyData
 |.str i,.str j=>some (.bool (!(!(Builtin.Str.occurrences j i 0 j.length 1).isEmpty)))
 |_,_=>none
theorem fh:OR K false (fun x y H Q=>∃i j,x = .str i/\y = .str j/\Q (.bl (!(!(Builtin.Str.occurrences j i 0 j.length 1).isEmpty))) H) We:=by
 intro S H x y dx dy d Q _ ix iy e q
 unfold We at e
 split at e
 ·rename_i i j
  cases e
  exact⟨i,j,ix,iy,q _ H (fun _ _ e=>e) rfl⟩
 ·cases e
end DL
end
section
namespace DL
open PySem L2 PyProof.Rows
abbrev TP:=L2.St->Hp->(List (Str×V)->Hp->Prop)->Prop
def gu:List (Str×V)->List (Value×Value)->Prop
 |[],[]=>True
 |t::ts,p::ps=>RelV (.str t.1) p.1/\RelV t.2 p.2/\gu ts ps
 |_,_=>False
def PD(X:Cx)(ks:List (Option Expr))(vs:List Expr)(pos:Pos)(t:TP):Prop:=∀(pins:List (Addr×Obj)) (s:Shared) (σ:L2.St) (H:Hp) (Q:List (Str×V)->Hp->Prop),Inv X pins σ H s->t σ H Q ->
 wpAny (model X.prog X.w) X.A (evalPairs (pairTrees ks vs X.env pos)) (fun ps s1=>∃(ts:List (Str×V)) (H1:Hp),Inv X pins σ H1 s1/\gu ts ps/\Q ts H1) X.xe s
def de:TP:=fun _ H Q=>Q [] H
def Z3(k:Str)(te:TE)(tp:TP):TP:=fun σ H Q=>te σ H fun x H1=>tp σ H1 fun ts H2=>Q ((k,x)::ts) H2
theorem aV{X:Cx}{pos:Pos}:PD X [] [] pos de:=fun pins s σ H Q I h=>pairTrees_nil_walk ⟨[],H,I,True.intro,h⟩
theorem Lz{X:Cx}{kx v:Expr}{ks:List (Option Expr)}{vs:List Expr}{pos:Pos}{k:Str}{te:TE}{tp:TP}(hk:PE X kx (tC (.str k)))(hv:PE X v te)(hr:PD X ks vs pos tp):PD X (some kx::ks) (v::vs) pos (Z3 k te tp):=by
 intro pins s σ H Q I h
 refine pairTrees_cons_walk ?_
 refine thn (hk pins s σ H (fun x H1=>x = .str k/\H1=H) I ⟨rfl,rfl⟩) fun kv s1 ⟨x,H1,I1,rx,q1⟩=>?_
 obtain⟨rfl,rfl⟩:=q1
 refine thn (hv pins s1 σ _ _ I1 h) fun vv s2 ⟨y,H2,I2,ry,q2⟩=>?_
 exact thn (hr pins s2 σ H2 _ I2 q2) fun ps s3 ⟨ts,H3,I3,pr,q3⟩=>⟨(k,y)::ts,H3,I3,⟨rx,ry,pr⟩,q3⟩
def YE(tp:TP):TE:=fun σ H Q=>∀d,H d=none->tp σ (upd H d (.dK (txK []))) fun ts H2=>H2 d=some (.dK (txK []))/\ts.length<=15/\(ts.map (·.1)).Nodup/\Q (.ref d) (upd H2 d (.dK (txK ts)))
theorem jD{P:Program}{w:World}:∀{ts:List (Str×V)} {ps:List (Value×Value)},gu ts ps->∃kvs:List (Key×Value),Carries (Km P w) ps kvs/\KV (txK ts) kvs/\kvs.map (·.1)=ts.map fun t=>Sum.inr t.1
 |[],[],_=>⟨[],True.intro,.nil,rfl⟩
 |[],_::_,h=>h.elim
 |_::_,[],h=>h.elim
 |t::ts,p::ps,⟨h1,h2,h3⟩=>by
  obtain⟨kvs,c,kv,e⟩:=jD h3
  exact⟨(Sum.inr t.1,p.2)::kvs,⟨Nt h1,rfl,c⟩,.cons ⟨rfl,h2⟩ kv,by rw[List.map_cons,e];rfl⟩
theorem Qj:∀{kvs acc:List (Key×Value)},(kvs.map (·.1)).Nodup->(∀k∈kvs.map (·.1),k∉acc.map (·.1))->merged acc kvs=acc++kvs
 |[],acc,_,_=>by unfold merged;simp
 |kv::kvs,acc,nd,h=>by
  obtain⟨n1,n2⟩:=List.nodup_cons.mp (show(kv.1::kvs.map (·.1)).Nodup from nd)
  have hst:stored acc kv.1 kv.2=acc++[kv]:=by
   unfold stored
   have hn:(acc.any fun x=>decide (x.1=kv.1))=false:=by
    rw[List.any_eq_false]
    intro x hx z
    exact h kv.1 (List.mem_cons_self ..) (List.mem_map.mpr ⟨x,hx,of_decide_eq_true z⟩)
   rw[hn];rfl
  have:=Qj (kvs:=kvs) (acc:=acc++[kv]) n2 fun k hk z=>by
   rw[List.map_append]at z
   rcases List.mem_append.mp z with z|z
   ·exact h k (List.mem_cons_of_mem _ hk) z
   ·rw[List.mem_singleton.mp z]at hk
    exact n1 hk
  unfold merged at this ⊢
  rw[List.foldl_cons,hst,this]
  simp
theorem S5:∀{l:List Str},l.Nodup->(l.map fun k=>(Sum.inr k:Key)).Nodup
 |[],_=>List.nodup_nil
 |x::l,h=>by
  obtain⟨a,b⟩:=List.nodup_cons.mp h
  refine List.nodup_cons.mpr ⟨fun z=>?_,S5 b⟩
  obtain⟨y,hy,e⟩:=List.mem_map.mp z
  cases e
  exact a hy
theorem Vi{X:Cx}{ks:List (Option Expr)}{vs:List Expr}{pos:Pos}{tp:TP}(hp:PD X ks vs pos tp)(hall:ks.all (·.isSome)=true:=by rfl)(hl:ks.length=vs.length:=by rfl)(h0:ks≠[]:=by simp)(hlen:ks.length<=15:=by decide):PE X (.Dict ks vs pos) (YE tp):=by
 intro pins s σ H Q I h
 have hb:sysModules<s.heap.objs.size:=Nat.lt_trans (by decide) (show mainGlobals<s.heap.objs.size from(I.mod.glob.keeps I.bk).lt)
 have hf:=I.hok.fresh (Nat.le_refl s.heap.objs.size)
 have I1:Inv X pins σ (upd H s.heap.objs.size (.dK (txK []))) { s with heap:=s.heap.push { cls:=.type "dict",data:=.dict #[] } } :=
  I.laid (a:=s.heap.objs.size) (o:=.dK (txK [])) (t':=s.toks) (fun _ _ q=>Heap.get?_push_of_some _ q) (Nat.le_refl _) ⟨Nat.zero_le _,beq_eq_false_iff_ne.mpr (Ne.symm (Nat.ne_of_lt hb)),[],.nil,Heap.DictOf.new s.heap⟩
 refine wpAny_Dict_walk (knd:=Km X.prog X.w) hall hl h0 hlen (thn (hp pins _ σ _ _ I1 (h _ hf)) fun ps s1 ⟨ts,H1,I2,pr,hd,hz,nd,q⟩=>?_)
 obtain⟨h1,h2,vs0,pr0,dd⟩:=Wh I2 hd
 have e0:vs0=[]:=by cases (show Paired _ [] vs0 from pr0);rfl
 subst e0
 obtain⟨kvs,hc,hkv,hkeys⟩:=jD (P:=X.prog) (w:=X.w) pr
 refine⟨kvs,hc,dd,fun h' dd' sb=>⟨.ref s.heap.objs.size,_,?_,rfl,q⟩⟩
 have em:merged [] kvs=kvs:=by
  rw[Qj (kvs:=kvs) (acc:=[]) ?_ (fun k _ z=>by cases z),List.nil_append]
  rw[hkeys,show(ts.map fun t=>(Sum.inr t.1:Key))=(ts.map (·.1)).map fun k=>(Sum.inr k:Key) by rw[List.map_map];rfl]
  exact S5 nd
 rw[em]at dd'
 have he:∃q,h'.get? s.heap.objs.size=some q:=let ⟨q,_,_,hq,_⟩:=dd';⟨q,hq⟩
 refine I2.write (x:=s.heap.objs.size) (e:=s.heap.objs.size) (by rw[hd];exact True.intro) (.inl rfl) (fun c z hc e=>(sb.2 c hc).trans e) he ?_
 exact⟨by unfold txK;rw[List.length_map];exact Nat.le_trans hz (by decide),h2,kvs,hkv,dd'⟩
variable {K:KW}
theorem R0{P:Addr->Prop}{σ:L2.St}{H:Hp}(h:∀a,P a->∃o,H a=some o):R K P (fun _=>False) (σ.map fun _=>none) σ H:=by
 have nn:∀(i:Nat) (l:L),(σ.map fun _=>(none:Option L))[i]?≠some (some l):=fun i l e=>by
  rw[List.getElem?_map]at e
  obtain⟨_,_,z⟩:=oM e
  cases z
 exact⟨by rw[List.length_map],fun i x e=>absurd e (nn i _),fun i o e=>absurd e (nn i _),fun i x e=>absurd e (nn i _),fun i j o p a e=>absurd e (nn i _),fun _ z=>z.elim,h,GR.nil fun i d e=>nn i _ e⟩
structure PC(K:KW)(tp:TP)(kds:List (PyData×PyData)):Prop where
 run:∀(P:Addr->Prop) (σ:L2.St) (H:Hp) (Q:List (Str×V)->Hp->Prop),(∀a,P a->∃o,H a=some o)->(∀ts H',Same H H'->IsX K (hid P H') kds ts->ts.length=kds.length->(ts.map fun t=>PyData.str t.1)=kds.map (·.1)->Q ts H')->tp σ H Q
theorem aX:PC K de []:=⟨fun P σ H Q _ q=>q [] H (fun _ _ e=>e) rfl rfl rfl⟩
theorem L0{fa:Bool}{k:Str}{te:TE}{tp:TP}{f:DX}{d:PyData}{r:List (PyData×PyData)}(he:E K te fa f)(hf:∀τ,f τ=some (d,τ))(hd:EZ d=true)(hr:PC K tp r):PC K (Z3 k te tp) ((.str k,d)::r):=by
 refine⟨fun P σ H Q hP q=>?_⟩
 refine he.weak.run P (fun _=>False) (σ.map fun _=>none) σ H _ d _ (R0 hP) (hf _) fun v H1 r1 c1 i1=>?_
 have s1:Same H H1:=fun b o e=>c1 b o (fun z=>z) e
 refine hr.run P σ H1 _ (fun a ha=>let ⟨o,e⟩:=hP a ha;⟨o,s1 _ _ e⟩) fun ts H2 s2 ix hl hk=>?_
 exact q _ H2 (fun b o e=>s2 b o (s1 b o e)) ⟨(k,v),ts,rfl,rfl,hd,Is.mono (Same.keep s2).same (show Is K (hid P H1) d v from i1),ix⟩ (by rw[List.length_cons,List.length_cons,hl]) (by rw[List.map_cons,List.map_cons,hk])
theorem Sq{tp:TP}{kds:List (PyData×PyData)}(h:PC K tp kds)(hz:kds.length<=15)(nd:(kds.map (·.1)).Nodup){S:Addr->Prop}{σ:L2.St}{H:Hp}{Q:VK}(hS:∀a,S a->∃o,H a=some o)
  (q:∀d H3 ts,H d=none->Same H H3->H3 d=some (.dK (txK ts))->IsX K (hid (fun b=>S b\/b=d) H3) kds ts->Q (.ref d) H3):YE tp σ H Q:=by
 intro d hd
 have s1:=En hd (HO.dK (txK []))
 refine h.run (fun b=>S b\/b=d) σ _ _ (fun a ha=>?_) fun ts H2 s2 ix hl hk=>?_
 ·rcases ha with ha|rfl
  ·obtain⟨o,e⟩:=hS a ha;exact⟨o,s1 _ _ e⟩
  ·exact⟨_,CI⟩
 have ndt:(ts.map (·.1)).Nodup:=by
  rw[<- hk]at nd
  have:∀{l:List (Str×V)},(l.map fun t=>PyData.str t.1).Nodup->(l.map (·.1)).Nodup:=by
   intro l
   induction l with
   |nil=>intro _;exact List.nodup_nil
   |cons t l ih =>
    intro z
    obtain⟨a,b⟩:=List.nodup_cons.mp z
    refine List.nodup_cons.mpr ⟨fun y=>a ?_,ih b⟩
    obtain⟨u,hu,e⟩:=List.mem_map.mp y
    exact List.mem_map.mpr ⟨u,hu,by rw[e]⟩
  exact this nd
 refine⟨s2 _ _ CI,by omega,ndt,q d _ ts hd (fun b o e=>?_) CI ?_⟩
 ·have hb:b≠d:=fun z=>by rw[z,hd]at e;cases e
  rw[Cz hb]
  exact s2 _ _ (s1 _ _ e)
 ·rw[Nv (.inr rfl)];exact ix
def Wq(np i:Nat)(kds:List (PyData×PyData))(τ:DS):Option Out:=if np<=i/\i<τ.length then some (.nx (τ.set i (some (.g (.dict kds))))) else none
theorem gd{np:Nat}{fr:Bool}{i:Nat}{tp:TP}{kds:List (PyData×PyData)}(h:PC K tp kds)(hz:kds.length<=15)(nd:(kds.map (·.1)).Nodup):B K np (Tz (YE tp) (PU i)) fr (Wq np i kds):=by
 intro F S M τ σ H D out hnp f ee q
 unfold Wq at ee
 split at ee
 ·rename_i hi
  cases ee
  refine Sq h hz nd f.r.ex fun a H3 ts ha s h3 ix=>?_
  have f1:=f.hide s ha ⟨_,h3⟩
  have hM:¬M a:=fun z=>f.r.fresh ha (f.r.sub a z)
  refine q _ _ _ _ (f1.newG (X:=[a]) hi.2 (Nat.le_trans hnp hi.1) (fun b hb=>.inr (List.mem_singleton.mp hb)) (fun b hb=>by rw[List.mem_singleton.mp hb];exact hM) (fun b hb=>by rw[List.mem_singleton.mp hb];exact f.hnone ha) (by simp) ⟨a,ts,rfl,rfl,h3,ix⟩) fun b o hn e=>⟨fun z=>z.elim hn (CS e ha),s b o e⟩
 ·cases ee
def PZ(kds:List (PyData×PyData))(f:DX)(τ:DS):Option (PyData×DS):=(f τ).bind fun p=>match p.1 with
 |.str k=>(KC kds k).map fun d=>(d,p.2)
 |_=>none
theorem gQ{fa:Bool}{tp:TP}{kds:List (PyData×PyData)}{tb:TE}{f:DX}(h:PC K tp kds)(hz:kds.length<=15)(nd:(kds.map (·.1)).Nodup)(hf:E K tb fa f):E K (tOp fT (YE tp) tb) false (PZ kds f):=by
 refine⟨fun τ d τ' e=>?_,?_⟩
 ·unfold PZ at e
  obtain⟨⟨x,τ1⟩,e1,e⟩:=oB e
  dsimp only at e
  split at e
  ·obtain⟨z,e3,e⟩:=oM e
   cases e;exact hf.like _ _ _ e1
  ·cases e
 intro S M τ σ H Q d τ' r e q
 unfold PZ at e
 obtain⟨⟨x,τ1⟩,e1,e⟩:=oB e
 dsimp only at e
 split at e
 ·rename_i k
  obtain⟨z,e3,e⟩:=oM e
  cases e
  refine Sq h hz nd r.ex fun a H3 ts ha s h3 ix=>?_
  have hM:¬M a:=fun z=>r.fresh ha (r.sub a z)
  refine hf.weak.run S M τ σ H3 _ _ _ (r.same s) e1 fun v H4 r4 c4 i4=>?_
  cases (show v = .str k from i4)
  have g:=P9 (k:=k) ix
  rw[e3]at g
  obtain⟨u,gv,iv,fx⟩:=g
  refine⟨a,ts,k,u,rfl,rfl,c4 a _ hM h3,gv,q u H4 r4 (fun b o hn e=>c4 b o hn (s b o e)) ?_⟩
  have iv3:Is K (hid S H3) d u:=iv.mono (JB fun b z=>.inl z)
  exact iv3.mono (c4.keep r.sub).same
 ·cases e
end DL
end
section
namespace L2
open PySem PySem.Spec PyProof.Rows
theorem ax:fillsNumberSlot (.type "tuple") "mul"=pure false :=
 PySem.fillsNumberSlot_seq (id:="tuple.__mul__") (r:=some (.builtin "tuple.__rmul__")) F.slot_tuple_mul.lookup (by decide +kernel) F.slot_tuple_rmul.lookup (by decide +kernel)
theorem cF:seqRepeat? (.type "tuple")=pure (some (.builtin "tuple.__mul__")):=by
 unfold seqRepeat?
 rw[PySem.seqSlot_of (T:="tuple") (name:="__mul__") (id:="tuple.__mul__") F.slot_tuple_mul.lookup (by decide +kernel),PySem.seqSlot_of (T:="tuple") (name:="__rmul__") (id:="tuple.__rmul__") F.slot_tuple_rmul.lookup (by decide +kernel)]
 rfl
theorem iF(a:Int)(t:Tok)(l:Addr)(items:Array Value)(n:Nat)(dd:Option Addr)(sl:Array (Option Value)) :
  Meets (Builtin.«int.__rmul__» ⟨[.int a t,.ref l],[]⟩) (fun _ R s=>s.heap.get? l=some ⟨.type "tuple",dd,.seq items n,sl⟩/\R (.ok (.ret Value.notImplemented)) s) :=
 .of_wp fun prog w A R s h=>by obtain⟨hp,g,d,tk,os⟩:=s;obtain⟨hl,h⟩:=h;wp_walk;exact⟨_,rfl,h⟩
theorem iV(l:Addr)(items:Array Value)(n:Nat)(dd:Option Addr)(sl:Array (Option Value))(k:Nat)(u:Tok)(h2:2<=k)(hk:k<1000000)(h0:items.isEmpty=false)(hz:items.size*k<=sizeLine)(hf:((List.replicate k items).foldl (·++·) #[]).size<=sizeLine) :
  Meets (Builtin.«tuple.__mul__» ⟨[.ref l, .int (k : Int) u], []⟩) (fun _ R s => s.heap.get? l = some ⟨.type "tuple", dd, .seq items n, sl⟩ /\
   R (.ok (.ret (Value.ref s.heap.objs.size))) { s with heap:=s.heap.push { cls:=.type "tuple",data:=.seq ((List.replicate k items).foldl (·++·) #[]) } }) :=
 .of_wp fun prog w A R s h=>by
  obtain⟨hp,g,d,tk,os⟩:=s;obtain⟨hl,h⟩:=h
  wp_walk
  have c1:(decide ((k:Int) < -2 ^ 63)||decide ((k:Int)≥2 ^ 63))=false:=by
   rw[Bool.or_eq_false_iff];exact⟨decide_eq_false (by omega),decide_eq_false (by omega)⟩
  have c2:(items.isEmpty||(k:Int)==1)=false:=by
   rw[h0,Bool.false_or];exact beq_eq_false_iff_ne.mpr (by omega)
  have c3:(decide ((k:Int)<=0)||items.isEmpty)=false:=by
   rw[h0,Bool.or_false];exact decide_eq_false (by omega)
  have hz':(items.size:Int)*(k:Int)<=(sizeLine:Nat):=by exact_mod_cast hz
  have hs:((sizeLine:Nat):Int)<=(2 ^ 63-1) / 8:=by decide
  have c4:¬((items.size:Int)*(k:Int)>(2 ^ 63-1) / 8):=by omega
  have c5:Builtin.Tuple.tupleTooMany ((items.size:Int)*(k:Int))=false:=by
   unfold Builtin.Tuple.tupleTooMany;exact decide_eq_false (by omega)
  refine wpAny_ite_false (by rw[c1];rfl) ?_
  wp_walk
  refine wpAny_ite_false (by rw[c2];rfl) ?_
  refine wpAny_ite_false (by rw[c3];rfl) ?_
  rw[if_neg c4]
  refine wpAny_ite_false (by rw[c5];rfl) ?_
  wp_walk
  rw[Int.toNat_natCast]
  exact⟨_,rfl,h⟩
def dw(K:PySem.W.Frag):R2:=fun x y H Q=>∃(a:Addr) (k:Nat) (xs:List V),x = .ref a/\y = .int (k:Int)/\SqT K H a xs/\xs≠[]/\2<=k/\k<1000000/\xs.length*k<=sizeLine/\∀p,H p=none->Q (.ref p) (upd H p (.tup (List.replicate k xs).flatten))
theorem cN{X:Cx}:OpR X (binaryOp .Mult) (dw X.K):=by
 intro pins s σ H x y v u Q I rx ry h
 obtain⟨a,k,xs,rfl,rfl,ha,hx,h2,hk,hz,q⟩:=h
 cases rx
 obtain⟨t,rfl⟩:=ry
 obtain⟨its,r1,p1,_⟩:=I.tuple ha
 have hl:=r1.length
 have ef:(List.replicate k its.toArray).foldl (fun x1 x2=>x1++x2) #[]=(List.replicate k its).flatten.toArray:=by
  have:=TN its k []
  rw[List.nil_append]at this
  exact this
 have hsz:its.toArray.size*k<=sizeLine:=by rw[List.size_toArray,<- hl];exact hz
 have hflen:(List.replicate k its).flatten.length<=sizeLine:=by rw[YV,Nat.mul_comm,<- hl];exact hz
 have hf:((List.replicate k its.toArray).foldl (fun x1 x2=>x1++x2) #[]).size<=sizeLine:=by rw[ef,List.size_toArray];exact hflen
 have h0:its.toArray.isEmpty=false:=by
  cases its with
  |nil=>exact absurd (r1.nil_iff.mp rfl) hx
  |cons y ys=>rfl
 obtain⟨⟨cls,dd,data,sl⟩,ho,hc,n,hd⟩:=id p1
 simp only at hc hd
 subst hc hd
 refine wpAny_binaryOp_repeat_ref (T:="tuple") (U:="int") (by decide) ⟨_,ho,rfl⟩ (fun s'=>typeIs_int s' k t) ax F.fills_int_mul F.slot_int_rmul cF F.slot_int_index.lookup
  (call_meets F.slot_int_rmul (typeIs_int s k t) F.entry_int_rmul (F.args_int_rmul_2 _ _) (iF k t a its.toArray n dd sl)
   ⟨ho,rfl,⟨_,ho,rfl⟩,call_meets F.slot_tuple_mul ⟨_,ho,rfl⟩ F.entry_tuple_mul (F.args_tuple_mul_2 _ _) (iV a its.toArray n dd sl k t h2 hk h0 hsz hf) ⟨ho,?_⟩⟩)
 rw[ef]
 refine⟨.ref s.heap.objs.size,_,I.laid (t':=s.toks) (o:=.tup (List.replicate k xs).flatten) (fun b ob q=>Heap.get?_push_of_some _ q) (Nat.le_refl _) ?_,rfl,q _ (I.hok.fresh (Nat.le_refl _))⟩
 exact⟨by rw[YV,Nat.mul_comm];exact hz,_,r1.rep k,IsTup.new _ _⟩
end L2
namespace DL
open PySem L2 PyProof.Rows
variable {K:KW}
def bU:PyData->PyData->Option PyData
 |.tuple (x::xs),.int k=>if 2<=k/\k<1000/\(xs.length+1)*k.toNat<=1000 then some (.tuple (List.replicate k.toNat (x::xs)).flatten) else none
 |_,_=>none
theorem Yf{H:Hp}{xs:List PyData}{vs:List V}(h:IsL K H xs vs):∀k:Nat,IsL K H (List.replicate k xs).flatten (List.replicate k vs).flatten
 |0=>rfl
 |k+1=>by rw[List.replicate_succ,List.replicate_succ,List.flatten_cons,List.flatten_cons];exact Hb h (Yf h k)
theorem fg:OR K false (dw K) bU:=by
 intro S H x y dx dy d Q hS ix iy e q
 unfold bU at e
 split at e
 ·rename_i x1 xs k
  split at e
  ·rename_i hz
   cases e
   obtain⟨a,vs,rfl,ha,la⟩:=ix
   cases (show y = .int k from iy)
   have l1:=la.length
   rw[List.length_cons]at l1
   have hk:((k.toNat:Nat):Int)=k:=Int.toNat_of_nonneg (by omega)
   refine⟨a,k.toNat,vs,rfl,by rw[hk],Same.tup same_hid ha,fun z=>(by subst z;cases l1),by omega,by omega,?_,fun p hp=>?_⟩
   ·rw[l1];exact Nat.le_trans hz.2.2 (by decide)
   have s:=En hp (HO.tup (List.replicate k.toNat vs).flatten)
   refine q _ _ s ⟨p,_,rfl,.inl (.inl (hid_iff.mpr ⟨hS p hp,CI⟩)),?_⟩
   exact(Yf la k.toNat).mono (Same.keep s).same
  ·cases e
 ·cases e
end DL
namespace DL
open PySem L2 PyProof.Rows
theorem ay{l:List Str}(h:l.Nodup):(l.map PyData.str).Nodup:=by
 induction l with
 |nil=>exact List.nodup_nil
 |cons x l ih =>
  obtain⟨a,b⟩:=List.nodup_cons.mp h
  refine List.nodup_cons.mpr ⟨fun z=>?_,ih b⟩
  obtain⟨y,hy,e⟩:=List.mem_map.mp z
  cases e
  exact a hy
end DL
end
set_option maxHeartbeats 2000000
namespace My
open PySem L2 DL
local macro_rules|`(tactic| trivial)=>`(tactic| first|rfl|(intro _;rfl)|exact .inl rfl|exact .inr rfl|with_unfolding_all rfl|decide|assumption)
local macro_rules|`(tactic| walk_at "dk")=>`(tactic| decide +kernel)
local macro_rules|`(⋯)=>`(by trivial)
local macro_rules|`(∅)=>`(by decide +kernel)
abbrev dbP(x:Str):Prop:=(x==("__debug__":Str))=false
abbrev clP(x:Str):Prop:=(x==("__classdict__":Str))=false
abbrev glP(s:Stmt)(x:Str):Prop:=(AD s).names.lookup x=some NameKind.globalImplicit
theorem viL{sc:Scope}{x:Str}(h:L2.Loc sc x):Vis sc x:=h.elim Or.inl fun h=>Or.inr (Or.inl h)
def top(i:Nat):Stmt:=PySem.Challenge.pw_scenemend_k25_rows_of_parts.main.body.getD i (.Pass ⟨0,0,0,0⟩)
theorem TR:dbP "FORMS":=∅
theorem RE:dbP "NAME_SIGNS":=∅
theorem Zn:dbP "SIGNS":=∅
theorem OE:dbP "_law_are_rows":=∅
theorem Gr:dbP "_law_at":=∅
theorem Gu:clP "_law_at":=∅
theorem OD:dbP "_law_big":=∅
theorem AJ:dbP "_law_big_here":=∅
theorem AK:clP "_law_big_here":=∅
theorem FK:dbP "_law_bottom":=∅
theorem FO:clP "_law_bottom":=∅
theorem K5:dbP "_law_bounds":=∅
theorem K7:clP "_law_bounds":=∅
theorem Wo:dbP "_law_by":=∅
theorem Wy:clP "_law_by":=∅
theorem Hg:dbP "_law_by_name":=∅
theorem Hj:clP "_law_by_name":=∅
theorem Ml:dbP "_law_cell":=∅
theorem Mo:clP "_law_cell":=∅
theorem KR:dbP "_law_cell_at":=∅
theorem Ai:dbP "_law_data":=∅
theorem Aj:clP "_law_data":=∅
theorem O3:dbP "_law_data_of":=∅
theorem Ig:dbP "_law_far":=∅
theorem Ij:clP "_law_far":=∅
theorem SX:dbP "_law_fits":=∅
theorem Lu:dbP "_law_found":=∅
theorem Lx:clP "_law_found":=∅
theorem RD:dbP "_law_h":=∅
theorem RQ:clP "_law_h":=∅
theorem SW:dbP "_law_high":=∅
theorem Sd:clP "_law_high":=∅
theorem K4:dbP "_law_holder":=∅
theorem K6:clP "_law_holder":=∅
theorem Du:dbP "_law_holders":=∅
theorem Dv:clP "_law_holders":=∅
theorem O1:dbP "_law_is_data":=∅
theorem HJ:dbP "_law_is_of":=∅
theorem HI:dbP "_law_is_paint":=∅
theorem Hf:dbP "_law_is_part":=∅
theorem K3:dbP "_law_is_row":=∅
theorem FG:dbP "_law_k":=∅
theorem FH:clP "_law_k":=∅
theorem A3:dbP "_law_kind":=∅
theorem A4:clP "_law_kind":=∅
theorem Ls:dbP "_law_kinds":=∅
theorem HH:dbP "_law_least":=∅
theorem HK:clP "_law_least":=∅
theorem Pw:dbP "_law_leaves":=∅
theorem Px:clP "_law_leaves":=∅
theorem OC:dbP "_law_low":=∅
theorem SV:dbP "_law_many":=∅
theorem Sb:clP "_law_many":=∅
theorem FX:dbP "_law_most":=∅
theorem FZ:clP "_law_most":=∅
theorem Ej:dbP "_law_name":=∅
theorem Ek:clP "_law_name":=∅
theorem O0:dbP "_law_name_of":=∅
theorem VG:dbP "_law_odd":=∅
theorem DR:dbP "_law_odd_here":=∅
theorem DU:clP "_law_odd_here":=∅
theorem Ie:dbP "_law_one":=∅
theorem Ii:clP "_law_one":=∅
theorem JK:dbP "_law_other":=∅
theorem JR:clP "_law_other":=∅
theorem OB:dbP "_law_paint_of":=∅
theorem Ex:dbP "_law_place":=∅
theorem E1:clP "_law_place":=∅
theorem RC:dbP "_law_prime":=∅
theorem RP:clP "_law_prime":=∅
theorem JJ:dbP "_law_right":=∅
theorem A5:dbP "_law_row":=∅
theorem A6:clP "_law_row":=∅
theorem Pu:dbP "_law_row_of":=∅
theorem Dm:dbP "_law_rows":=∅
theorem Dq:clP "_law_rows":=∅
theorem DZ:dbP "_law_script":=∅
theorem Dc:clP "_law_script":=∅
theorem Ew:dbP "_law_shade":=∅
theorem Ez:clP "_law_shade":=∅
theorem Eu:dbP "_law_share":=∅
theorem Ey:clP "_law_share":=∅
theorem Jb:dbP "_law_share_of":=∅
theorem RB:dbP "_law_shown":=∅
theorem RO:clP "_law_shown":=∅
theorem Mj:dbP "_law_sign":=∅
theorem Mn:clP "_law_sign":=∅
theorem JI:dbP "_law_signs":=∅
theorem JQ:clP "_law_signs":=∅
theorem Mi:dbP "_law_size":=∅
theorem Mm:clP "_law_size":=∅
theorem GC:dbP "_law_size_of":=∅
theorem JH:dbP "_law_sizes":=∅
theorem JP:clP "_law_sizes":=∅
theorem FW:dbP "_law_some":=∅
theorem FY:clP "_law_some":=∅
theorem K2:dbP "_law_spoilt":=∅
theorem MC:dbP "_law_stencil_of":=∅
theorem GB:dbP "_law_step_of":=∅
theorem Wn:dbP "_law_sx":=∅
theorem Wx:clP "_law_sx":=∅
theorem Wm:dbP "_law_sy":=∅
theorem Ww:clP "_law_sy":=∅
theorem Jp:dbP "_law_text":=∅
theorem Jq:clP "_law_text":=∅
theorem BF:dbP "_law_thing":=∅
theorem BI:clP "_law_thing":=∅
theorem IH:dbP "_law_things":=∅
theorem IJ:clP "_law_things":=∅
theorem OA:dbP "_law_top":=∅
theorem OF:clP "_law_top":=∅
theorem PY:dbP "_law_up":=∅
theorem He:dbP "_law_up_here":=∅
theorem Hi:clP "_law_up_here":=∅
theorem RA:dbP "_law_w":=∅
theorem RN:clP "_law_w":=∅
theorem SU:dbP "_law_wide":=∅
theorem SY:clP "_law_wide":=∅
theorem Cc:dbP "_law_within":=∅
theorem Oz:dbP "_law_word_of":=∅
theorem Xs:dbP "_law_x":=∅
theorem Xz:clP "_law_x":=∅
theorem Xr:dbP "_law_y":=∅
theorem Xy:clP "_law_y":=∅
theorem VF:dbP "abs":=∅
theorem UQ:("abs":Str)≠"__name__":=∅
theorem QC:dbP "all":=∅
theorem P7:("all":Str)≠"__name__":=∅
theorem Lr:dbP "are_stencil_rows":=∅
theorem Ym:dbP "big":=∅
theorem Yp:clP "big":=∅
theorem KQ:dbP "bool":=∅
theorem Jz:("bool":Str)≠"__name__":=∅
theorem Kx:dbP "bottom":=∅
theorem Ky:clP "bottom":=∅
theorem NC:dbP "common_divisor":=∅
theorem Bf:dbP "data":=∅
theorem Bg:clP "data":=∅
theorem Wl:dbP "high":=∅
theorem Wv:clP "high":=∅
theorem VE:dbP "int":=∅
theorem UP:("int":Str)≠"__name__":=∅
theorem Fq:dbP "is_bounded_share":=∅
theorem Wk:dbP "is_data":=∅
theorem PX:dbP "is_name":=∅
theorem Ic:dbP "is_paint":=∅
theorem Ib:dbP "is_place":=∅
theorem Xq:dbP "is_row":=∅
theorem VD:dbP "is_share":=∅
theorem Wj:dbP "is_sign":=∅
theorem Lq:dbP "is_text_of":=∅
theorem N9:dbP "is_truth":=∅
theorem Kw:dbP "is_whole":=∅
theorem CM:dbP "is_within":=∅
theorem Oy:dbP "is_word_text":=∅
theorem BE:dbP "isinstance":=∅
theorem BD:("isinstance":Str)≠"__name__":=∅
theorem Q9:dbP "kind":=∅
theorem RM:clP "kind":=∅
theorem By:dbP "len":=∅
theorem Bv:("len":Str)≠"__name__":=∅
theorem Wi:dbP "list":=∅
theorem V5:("list":Str)≠"__name__":=∅
theorem Yl:dbP "low":=∅
theorem Yo:clP "low":=∅
theorem Yk:dbP "max":=∅
theorem YS:("max":Str)≠"__name__":=∅
theorem Yj:dbP "min":=∅
theorem YR:("min":Str)≠"__name__":=∅
theorem dE:dbP "one":=∅
theorem dH:clP "one":=∅
theorem Zm:dbP "other":=∅
theorem Zu:clP "other":=∅
theorem ba:dbP "rest":=∅
theorem bf:clP "rest":=∅
theorem Ia:dbP "row":=∅
theorem Ih:clP "row":=∅
theorem VC:dbP "row_data":=∅
theorem Lp:dbP "row_holder":=∅
theorem VB:dbP "row_kind":=∅
theorem VA:dbP "row_name":=∅
theorem SS:dbP "row_shown":=∅
theorem Zl:dbP "row_x":=∅
theorem Zk:dbP "row_y":=∅
theorem Zj:dbP "shade":=∅
theorem Zt:clP "shade":=∅
theorem Zi:dbP "share":=∅
theorem Zs:clP "share":=∅
theorem Q8:dbP "sign":=∅
theorem RL:clP "sign":=∅
theorem Zh:dbP "signs":=∅
theorem Zr:clP "signs":=∅
theorem Ox:dbP "small":=∅
theorem O6:clP "small":=∅
theorem N8:dbP "str":=∅
theorem NX:("str":Str)≠"__name__":=∅
theorem BQ:dbP "thing":=∅
theorem BS:clP "thing":=∅
theorem U9:dbP "top":=∅
theorem VI:clP "top":=∅
theorem FV:dbP "tuple":=∅
theorem FQ:("tuple":Str)≠"__name__":=∅
abbrev CW:Stmt:=top 45
theorem sc_L_name_of:Av ["_law_big_here","_law_name","_law_size","_law_k"] ["_law_big_here"] (AD CW):=⟨rfl,rfl,rfl,∅,rfl,∅,∅⟩
theorem Jg:L2.Loc (AD CW) "_law_big_here":=by unfold L2.Loc;decide +kernel
theorem GV:Vis (AD CW) "_law_big_here":=viL Jg
theorem Jf:L2.Loc (AD CW) "_law_name":=by unfold L2.Loc;decide +kernel
theorem MI:Vis (AD CW) "_law_name":=viL Jf
theorem MV:L2.Loc (AD CW) "_law_size":=by unfold L2.Loc;decide +kernel
theorem Rh:Vis (AD CW) "_law_size":=viL MV
theorem R8:L2.Loc (AD CW) "_law_k":=by unfold L2.Loc;decide +kernel
theorem N4:glP CW "range":=∅
abbrev E6:Stmt:=top 46
theorem sc_L_step_of:Av ["_law_big_here"] ["_law_big_here"] (AD E6):=⟨rfl,rfl,rfl,∅,rfl,∅,∅⟩
theorem R5:L2.Loc (AD E6) "_law_big_here":=by unfold L2.Loc;decide +kernel
theorem GS:Vis (AD E6) "_law_big_here":=viL R5
abbrev GI:Stmt:=top 53
theorem sc_L_up:Av ["_law_rows","_law_name","_law_up_here","_law_by_name","_law_row"] ["_law_rows","_law_name"] (AD GI):=⟨rfl,rfl,rfl,∅,rfl,∅,∅⟩
theorem bA:L2.Loc (AD GI) "_law_rows":=by unfold L2.Loc;decide +kernel
theorem Z1:Vis (AD GI) "_law_rows":=viL bA
theorem WH:L2.Loc (AD GI) "_law_name":=by unfold L2.Loc;decide +kernel
theorem NJ:Vis (AD GI) "_law_name":=viL WH
theorem WG:L2.Loc (AD GI) "_law_up_here":=by unfold L2.Loc;decide +kernel
theorem VX:Vis (AD GI) "_law_up_here":=viL WG
theorem WE:L2.Loc (AD GI) "_law_by_name":=by unfold L2.Loc;decide +kernel
theorem QH:Vis (AD GI) "_law_by_name":=viL WE
theorem WD:L2.Loc (AD GI) "_law_row":=by unfold L2.Loc;decide +kernel
theorem VW:Vis (AD GI) "_law_row":=viL WD
abbrev EO:Stmt:=top 40
theorem sc_L_low:Av ["_law_top","_law_bottom","_law_one","_law_other"] ["_law_top","_law_bottom"] (AD EO):=⟨rfl,rfl,rfl,∅,rfl,∅,∅⟩
theorem ZP:L2.Loc (AD EO) "_law_top":=by unfold L2.Loc;decide +kernel
theorem Si:Vis (AD EO) "_law_top":=viL ZP
theorem ZO:L2.Loc (AD EO) "_law_bottom":=by unfold L2.Loc;decide +kernel
theorem Sh:Vis (AD EO) "_law_bottom":=viL ZO
theorem ZN:L2.Loc (AD EO) "_law_one":=by unfold L2.Loc;decide +kernel
theorem ON:Vis (AD EO) "_law_one":=viL ZN
theorem TL:(AD EO).names.lookup ("_law_one":Str)=some NameKind.local:=∅
theorem ZM:L2.Loc (AD EO) "_law_other":=by unfold L2.Loc;decide +kernel
theorem OM:Vis (AD EO) "_law_other":=viL ZM
theorem TJ:(AD EO).names.lookup ("_law_other":Str)=some NameKind.local:=∅
theorem Wa:glP EO "abs":=∅
abbrev Cr:Stmt:=top 44
theorem sc_L_share_of:Av ["_law_big_here","_law_bottom"] ["_law_big_here"] (AD Cr):=⟨rfl,rfl,rfl,∅,rfl,∅,∅⟩
theorem LY:L2.Loc (AD Cr) "_law_big_here":=by unfold L2.Loc;decide +kernel
theorem DE:Vis (AD Cr) "_law_big_here":=viL LY
theorem HA:L2.Loc (AD Cr) "_law_bottom":=by unfold L2.Loc;decide +kernel
theorem Ip:Vis (AD Cr) "_law_bottom":=viL HA
theorem LF:glP Cr "_law_low":=∅
abbrev CN:Stmt:=top 49
theorem sc_L_paint_of:Av ["_law_big_here","_law_shade","_law_share"] ["_law_big_here"] (AD CN):=⟨rfl,rfl,rfl,∅,rfl,∅,∅⟩
theorem Iv:L2.Loc (AD CN) "_law_big_here":=by unfold L2.Loc;decide +kernel
theorem Fe:Vis (AD CN) "_law_big_here":=viL Iv
theorem La:L2.Loc (AD CN) "_law_shade":=by unfold L2.Loc;decide +kernel
theorem LL:Vis (AD CN) "_law_shade":=viL La
theorem LZ:L2.Loc (AD CN) "_law_share":=by unfold L2.Loc;decide +kernel
theorem QI:Vis (AD CN) "_law_share":=viL LZ
theorem Fp:glP CN "_law_share_of":=∅
abbrev BN:Stmt:=top 48
theorem sc_L_stencil_of:Av ["_law_big_here","_law_wide","_law_high","_law_rows","_law_j","_law_row","_law_i"] ["_law_big_here"] (AD BN):=⟨rfl,rfl,rfl,∅,rfl,∅,∅⟩
theorem HW:L2.Loc (AD BN) "_law_big_here":=by unfold L2.Loc;decide +kernel
theorem Dr:Vis (AD BN) "_law_big_here":=viL HW
theorem J4:L2.Loc (AD BN) "_law_wide":=by unfold L2.Loc;decide +kernel
theorem OL:Vis (AD BN) "_law_wide":=viL J4
theorem J3:L2.Loc (AD BN) "_law_high":=by unfold L2.Loc;decide +kernel
theorem OK:Vis (AD BN) "_law_high":=viL J3
theorem J0:L2.Loc (AD BN) "_law_rows":=by unfold L2.Loc;decide +kernel
theorem Jt:Vis (AD BN) "_law_rows":=viL J0
theorem OY:L2.Loc (AD BN) "_law_j":=by unfold L2.Loc;decide +kernel
theorem HV:L2.Loc (AD BN) "_law_row":=by unfold L2.Loc;decide +kernel
theorem Js:Vis (AD BN) "_law_row":=viL HV
theorem OX:L2.Loc (AD BN) "_law_i":=by unfold L2.Loc;decide +kernel
theorem IC:glP BN "range":=∅
theorem Lh:glP BN "tuple":=∅
abbrev Dg:Stmt:=top 47
theorem sc_L_size_of:Av ["_law_big_here","_law_most"] ["_law_big_here","_law_most"] (AD Dg):=⟨rfl,rfl,rfl,∅,rfl,∅,∅⟩
theorem R7:L2.Loc (AD Dg) "_law_big_here":=by unfold L2.Loc;decide +kernel
theorem GU:Vis (AD Dg) "_law_big_here":=viL R7
theorem R6:L2.Loc (AD Dg) "_law_most":=by unfold L2.Loc;decide +kernel
theorem MH:Vis (AD Dg) "_law_most":=viL R6
abbrev CV:Stmt:=top 50
theorem sc_L_word_of:Av ["_law_big_here","_law_text","_law_size","_law_k"] ["_law_big_here"] (AD CV):=⟨rfl,rfl,rfl,∅,rfl,∅,∅⟩
theorem Je:L2.Loc (AD CV) "_law_big_here":=by unfold L2.Loc;decide +kernel
theorem GQ:Vis (AD CV) "_law_big_here":=viL Je
theorem Jd:L2.Loc (AD CV) "_law_text":=by unfold L2.Loc;decide +kernel
theorem MG:Vis (AD CV) "_law_text":=viL Jd
theorem MS:L2.Loc (AD CV) "_law_size":=by unfold L2.Loc;decide +kernel
theorem Rb:Vis (AD CV) "_law_size":=viL MS
theorem R4:L2.Loc (AD CV) "_law_k":=by unfold L2.Loc;decide +kernel
theorem N3:glP CV "range":=∅
abbrev Au:Stmt:=top 51
theorem sc_L_data_of:Av ["_law_kind","_law_big_here","_law_data","_law_w","_law_h","_law_sx","_law_sy","_law_shade","_law_share","_law_text","_law_rows"] ["_law_kind","_law_big_here"] (AD Au):=⟨rfl,rfl,rfl,∅,rfl,∅,∅⟩
theorem SE:L2.Loc (AD Au) "_law_kind":=by unfold L2.Loc;decide +kernel
theorem De:Vis (AD Au) "_law_kind":=viL SE
theorem Cp:L2.Loc (AD Au) "_law_big_here":=by unfold L2.Loc;decide +kernel
theorem As:Vis (AD Au) "_law_big_here":=viL Cp
theorem Jj:L2.Loc (AD Au) "_law_data":=by unfold L2.Loc;decide +kernel
theorem Hn:Vis (AD Au) "_law_data":=viL Jj
theorem Ji:L2.Loc (AD Au) "_law_w":=by unfold L2.Loc;decide +kernel
theorem MN:Vis (AD Au) "_law_w":=viL Ji
theorem Jh:L2.Loc (AD Au) "_law_h":=by unfold L2.Loc;decide +kernel
theorem MM:Vis (AD Au) "_law_h":=viL Jh
theorem Mf:L2.Loc (AD Au) "_law_sx":=by unfold L2.Loc;decide +kernel
theorem Rk:Vis (AD Au) "_law_sx":=viL Mf
theorem Me:L2.Loc (AD Au) "_law_sy":=by unfold L2.Loc;decide +kernel
theorem Rj:Vis (AD Au) "_law_sy":=viL Me
theorem Md:L2.Loc (AD Au) "_law_shade":=by unfold L2.Loc;decide +kernel
theorem Hm:Vis (AD Au) "_law_shade":=viL Md
theorem Mc:L2.Loc (AD Au) "_law_share":=by unfold L2.Loc;decide +kernel
theorem GW:Vis (AD Au) "_law_share":=viL Mc
theorem Mb:L2.Loc (AD Au) "_law_text":=by unfold L2.Loc;decide +kernel
theorem Ri:Vis (AD Au) "_law_text":=viL Mb
theorem Lb:L2.Loc (AD Au) "_law_rows":=by unfold L2.Loc;decide +kernel
theorem QK:Vis (AD Au) "_law_rows":=viL Lb
theorem DD:glP Au "_law_size_of":=∅
theorem Ga:glP Au "_law_step_of":=∅
theorem JV:glP Au "_law_paint_of":=∅
theorem Jn:glP Au "_law_word_of":=∅
theorem IY:glP Au "_law_stencil_of":=∅
abbrev Gj:Stmt:=top 52
theorem sc_L_kinds:Av ["_law_leaves"] [] (AD Gj):=⟨rfl,rfl,rfl,∅,rfl,∅,∅⟩
theorem PM:L2.Loc (AD Gj) "_law_leaves":=by unfold L2.Loc;decide +kernel
theorem VY:Vis (AD Gj) "_law_leaves":=viL PM
abbrev Ax:Stmt:=top 54
theorem sc_L_row_of:Av ["_law_rows","_law_big_here","_law_name","_law_holders","_law_row","_law_holder","_law_x","_law_y","_law_kind","_law_up_here","_law_shown","_law_data"] ["_law_rows","_law_big_here"] (AD Ax):=⟨rfl,rfl,rfl,∅,rfl,∅,∅⟩
theorem Uq:L2.Loc (AD Ax) "_law_rows":=by unfold L2.Loc;decide +kernel
theorem IV:Vis (AD Ax) "_law_rows":=viL Uq
theorem Fv:L2.Loc (AD Ax) "_law_big_here":=by unfold L2.Loc;decide +kernel
theorem C8:Vis (AD Ax) "_law_big_here":=viL Fv
theorem Nl:L2.Loc (AD Ax) "_law_name":=by unfold L2.Loc;decide +kernel
theorem Tv:Vis (AD Ax) "_law_name":=viL Nl
theorem Nk:L2.Loc (AD Ax) "_law_holders":=by unfold L2.Loc;decide +kernel
theorem Ft:Vis (AD Ax) "_law_holders":=viL Nk
theorem Nj:L2.Loc (AD Ax) "_law_row":=by unfold L2.Loc;decide +kernel
theorem Kb:Vis (AD Ax) "_law_row":=viL Nj
theorem Kl:L2.Loc (AD Ax) "_law_holder":=by unfold L2.Loc;decide +kernel
theorem NM:Vis (AD Ax) "_law_holder":=viL Kl
theorem Ni:L2.Loc (AD Ax) "_law_x":=by unfold L2.Loc;decide +kernel
theorem Tu:Vis (AD Ax) "_law_x":=viL Ni
theorem Nh:L2.Loc (AD Ax) "_law_y":=by unfold L2.Loc;decide +kernel
theorem Tt:Vis (AD Ax) "_law_y":=viL Nh
theorem Kk:L2.Loc (AD Ax) "_law_kind":=by unfold L2.Loc;decide +kernel
theorem Ka:Vis (AD Ax) "_law_kind":=viL Kk
theorem Uo:L2.Loc (AD Ax) "_law_up_here":=by unfold L2.Loc;decide +kernel
theorem MU:L2.Loc (AD Ax) "_law_shown":=by unfold L2.Loc;decide +kernel
theorem Rf:Vis (AD Ax) "_law_shown":=viL MU
theorem MT:L2.Loc (AD Ax) "_law_data":=by unfold L2.Loc;decide +kernel
theorem Rc:Vis (AD Ax) "_law_data":=viL MT
theorem KL:glP Ax "_law_name_of":=∅
theorem JD:glP Ax "_law_up":=∅
theorem HE:glP Ax "len":=∅
theorem HQ:glP Ax "_law_kinds":=∅
theorem Gn:glP Ax "_law_step_of":=∅
theorem KN:glP Ax "_law_data_of":=∅
theorem UO:List.Nodup (["_law_row","_law_up_here"]:List Str):=∅
abbrev DJ:Stmt:=top 38
theorem sc_L_cell_at:Av ["_law_script","_law_k"] ["_law_script","_law_k"] (AD DJ):=⟨rfl,rfl,rfl,∅,rfl,∅,∅⟩
theorem SG:L2.Loc (AD DJ) "_law_script":=by unfold L2.Loc;decide +kernel
theorem MP:Vis (AD DJ) "_law_script":=viL SG
theorem SF:L2.Loc (AD DJ) "_law_k":=by unfold L2.Loc;decide +kernel
theorem MO:Vis (AD DJ) "_law_k":=viL SF
theorem Pr:glP DJ "len":=∅
abbrev Cm:Stmt:=top 39
theorem sc_L_big:Av ["_law_script","_law_at","_law_by","_law_prime","_law_cell","_law_big_here","_law_k","_law_one"] ["_law_script","_law_at"] (AD Cm):=⟨rfl,rfl,rfl,∅,rfl,∅,∅⟩
theorem ZR:L2.Loc (AD Cm) "_law_script":=by unfold L2.Loc;decide +kernel
theorem Sn:Vis (AD Cm) "_law_script":=viL ZR
theorem ZQ:L2.Loc (AD Cm) "_law_at":=by unfold L2.Loc;decide +kernel
theorem Sm:Vis (AD Cm) "_law_at":=viL ZQ
theorem TB:L2.Loc (AD Cm) "_law_by":=by unfold L2.Loc;decide +kernel
theorem Y2:Vis (AD Cm) "_law_by":=viL TB
theorem S9:L2.Loc (AD Cm) "_law_prime":=by unfold L2.Loc;decide +kernel
theorem Y1:Vis (AD Cm) "_law_prime":=viL S9
theorem S8:L2.Loc (AD Cm) "_law_cell":=by unfold L2.Loc;decide +kernel
theorem Sk:Vis (AD Cm) "_law_cell":=viL S8
theorem OZ:L2.Loc (AD Cm) "_law_big_here":=by unfold L2.Loc;decide +kernel
theorem Sj:Vis (AD Cm) "_law_big_here":=viL OZ
theorem S7:L2.Loc (AD Cm) "_law_k":=by unfold L2.Loc;decide +kernel
theorem Ju:Vis (AD Cm) "_law_k":=viL S7
theorem S6:L2.Loc (AD Cm) "_law_one":=by unfold L2.Loc;decide +kernel
theorem Y0:Vis (AD Cm) "_law_one":=viL S6
theorem ID:glP Cm "_law_cell_at":=∅
theorem SO:glP Cm "range":=∅
abbrev G4:Stmt:=top 64
theorem sc_L_odd:Av ["_law_big_here","_law_some"] ["_law_big_here"] (AD G4):=⟨rfl,rfl,rfl,∅,rfl,∅,∅⟩
theorem ZL:L2.Loc (AD G4) "_law_big_here":=by unfold L2.Loc;decide +kernel
theorem Yz:Vis (AD G4) "_law_big_here":=viL ZL
theorem Il:L2.Loc (AD G4) "_law_some":=by unfold L2.Loc;decide +kernel
theorem Ik:Vis (AD G4) "_law_some":=viL Il
theorem WZ:glP G4 "len":=∅
abbrev ER:Stmt:=top 65
theorem sc_L_fits:Av ["_law_place","_law_thing"] ["_law_place","_law_thing"] (AD ER):=⟨rfl,rfl,rfl,∅,rfl,∅,∅⟩
theorem Xd:L2.Loc (AD ER) "_law_place":=by unfold L2.Loc;decide +kernel
theorem Kc:Vis (AD ER) "_law_place":=viL Xd
theorem Xc:L2.Loc (AD ER) "_law_thing":=by unfold L2.Loc;decide +kernel
theorem Ms:Vis (AD ER) "_law_thing":=viL Xc
theorem U3:glP ER "str":=∅
theorem GK:glP ER "isinstance":=∅
theorem Q4:glP ER "tuple":=∅
theorem U4:glP ER "int":=∅
abbrev Bb:Stmt:=top 66
theorem sc_L_spoilt:Av ["_law_row","_law_big_here","_law_things","_law_kind","_law_place","_law_odd_here","_law_data","_law_at"] ["_law_row","_law_big_here"] (AD Bb):=⟨rfl,rfl,rfl,∅,rfl,∅,∅⟩
theorem Um:L2.Loc (AD Bb) "_law_row":=by unfold L2.Loc;decide +kernel
theorem NL:Vis (AD Bb) "_law_row":=viL Um
theorem Ul:L2.Loc (AD Bb) "_law_big_here":=by unfold L2.Loc;decide +kernel
theorem Gx:Vis (AD Bb) "_law_big_here":=viL Ul
theorem Ng:L2.Loc (AD Bb) "_law_things":=by unfold L2.Loc;decide +kernel
theorem KZ:Vis (AD Bb) "_law_things":=viL Ng
theorem Nf:L2.Loc (AD Bb) "_law_kind":=by unfold L2.Loc;decide +kernel
theorem KY:Vis (AD Bb) "_law_kind":=viL Nf
theorem Nd:L2.Loc (AD Bb) "_law_place":=by unfold L2.Loc;decide +kernel
theorem NK:Vis (AD Bb) "_law_place":=viL Nd
theorem Nc:L2.Loc (AD Bb) "_law_odd_here":=by unfold L2.Loc;decide +kernel
theorem IU:Vis (AD Bb) "_law_odd_here":=viL Nc
theorem Nb:L2.Loc (AD Bb) "_law_data":=by unfold L2.Loc;decide +kernel
theorem EM:Vis (AD Bb) "_law_data":=viL Nb
theorem Na:L2.Loc (AD Bb) "_law_at":=by unfold L2.Loc;decide +kernel
theorem IS:Vis (AD Bb) "_law_at":=viL Na
theorem K1:glP Bb "list":=∅
theorem MB:glP Bb "_law_odd":=∅
theorem Li:glP Bb "_law_fits":=∅
theorem JC:glP Bb "len":=∅
theorem KJ:glP Bb "tuple":=∅
abbrev Cd:Stmt:=top 57
theorem sc_L_within:Av ["_law_thing","_law_least","_law_most"] ["_law_thing","_law_least","_law_most"] (AD Cd):=⟨rfl,rfl,rfl,∅,rfl,∅,∅⟩
theorem Uk:L2.Loc (AD Cd) "_law_thing":=by unfold L2.Loc;decide +kernel
theorem KU:Vis (AD Cd) "_law_thing":=viL Uk
theorem Uj:L2.Loc (AD Cd) "_law_least":=by unfold L2.Loc;decide +kernel
theorem Ts:Vis (AD Cd) "_law_least":=viL Uj
theorem Ui:L2.Loc (AD Cd) "_law_most":=by unfold L2.Loc;decide +kernel
theorem Tr:Vis (AD Cd) "_law_most":=viL Ui
theorem Po:glP Cd "bool":=∅
theorem HP:glP Cd "isinstance":=∅
theorem Q2:glP Cd "int":=∅
abbrev Ci:Stmt:=top 58
theorem sc_L_is_part:Av ["_law_thing"] ["_law_thing"] (AD Ci):=⟨rfl,rfl,rfl,∅,rfl,∅,∅⟩
theorem R9:L2.Loc (AD Ci) "_law_thing":=by unfold L2.Loc;decide +kernel
theorem Dd:Vis (AD Ci) "_law_thing":=viL R9
theorem Gp:glP Ci "_law_within":=∅
theorem Pq:glP Ci "len":=∅
theorem N5:glP Ci "tuple":=∅
theorem Kr:glP Ci "isinstance":=∅
theorem Lk:glP Ci "_law_low":=∅
abbrev Cb:Stmt:=top 60
theorem sc_L_is_paint:Av ["_law_data","_law_many"] ["_law_data","_law_many"] (AD Cb):=⟨rfl,rfl,rfl,∅,rfl,∅,∅⟩
theorem Qg:L2.Loc (AD Cb) "_law_data":=by unfold L2.Loc;decide +kernel
theorem Iq:Vis (AD Cb) "_law_data":=viL Qg
theorem Qf:L2.Loc (AD Cb) "_law_many":=by unfold L2.Loc;decide +kernel
theorem QJ:Vis (AD Cb) "_law_many":=viL Qf
theorem GG:glP Cb "_law_is_part":=∅
theorem Oq:glP Cb "len":=∅
abbrev Ct:Stmt:=top 59
theorem sc_L_is_of:Av ["_law_thing","_law_signs","_law_least","_law_most"] ["_law_thing","_law_signs","_law_least","_law_most"] (AD Ct):=⟨rfl,rfl,rfl,∅,rfl,∅,∅⟩
theorem WL:L2.Loc (AD Ct) "_law_thing":=by unfold L2.Loc;decide +kernel
theorem LM:Vis (AD Ct) "_law_thing":=viL WL
theorem WK:L2.Loc (AD Ct) "_law_least":=by unfold L2.Loc;decide +kernel
theorem Va:Vis (AD Ct) "_law_least":=viL WK
theorem WJ:L2.Loc (AD Ct) "_law_most":=by unfold L2.Loc;decide +kernel
theorem VZ:Vis (AD Ct) "_law_most":=viL WJ
theorem SN:glP Ct "len":=∅
theorem SM:glP Ct "str":=∅
theorem Ll:glP Ct "isinstance":=∅
theorem V4:List.Nodup (["_law_sign","_law_signs"]:List Str):=∅
abbrev B1:Stmt:=top 61
theorem sc_L_are_rows:Av ["_law_thing","_law_sizes"] ["_law_thing"] (AD B1):=⟨rfl,rfl,rfl,∅,rfl,∅,∅⟩
theorem Qi:L2.Loc (AD B1) "_law_thing":=by unfold L2.Loc;decide +kernel
theorem Gy:Vis (AD B1) "_law_thing":=viL Qi
theorem Qh:L2.Loc (AD B1) "_law_sizes":=by unfold L2.Loc;decide +kernel
theorem Ir:Vis (AD B1) "_law_sizes":=viL Qh
theorem Qp:(AD B1).names.lookup ("_law_sizes":Str)=some NameKind.local:=∅
theorem Hd:glP B1 "len":=∅
theorem NA:glP B1 "tuple":=∅
theorem KP:glP B1 "isinstance":=∅
theorem Ou:glP B1 "min":=∅
theorem Ov:glP B1 "max":=∅
theorem QZ:List.Nodup (["_law_row"]:List Str):=∅
abbrev BU:Stmt:=top 62
theorem sc_L_is_data:Av ["_law_kind","_law_data","_law_bounds","_law_least","_law_most","_law_far"] ["_law_kind","_law_data"] (AD BU):=⟨rfl,rfl,rfl,∅,rfl,∅,∅⟩
theorem SD:L2.Loc (AD BU) "_law_kind":=by unfold L2.Loc;decide +kernel
theorem Ca:Vis (AD BU) "_law_kind":=viL SD
theorem SA:L2.Loc (AD BU) "_law_data":=by unfold L2.Loc;decide +kernel
theorem Bu:Vis (AD BU) "_law_data":=viL SA
theorem MZ:L2.Loc (AD BU) "_law_bounds":=by unfold L2.Loc;decide +kernel
theorem ML:Vis (AD BU) "_law_bounds":=viL MZ
theorem MY:L2.Loc (AD BU) "_law_least":=by unfold L2.Loc;decide +kernel
theorem MK:Vis (AD BU) "_law_least":=viL MY
theorem MX:L2.Loc (AD BU) "_law_most":=by unfold L2.Loc;decide +kernel
theorem MJ:Vis (AD BU) "_law_most":=viL MX
theorem MW:L2.Loc (AD BU) "_law_far":=by unfold L2.Loc;decide +kernel
theorem Hl:Vis (AD BU) "_law_far":=viL MW
theorem Jm:glP BU "_law_is_part":=∅
theorem IG:glP BU "len":=∅
theorem Ot:glP BU "bool":=∅
theorem Ks:glP BU "isinstance":=∅
theorem Ck:glP BU "_law_within":=∅
theorem Kt:glP BU "_law_is_of":=∅
theorem ED:glP BU "_law_is_paint":=∅
theorem JU:glP BU "_law_are_rows":=∅
abbrev Ce:Stmt:=top 63
theorem sc_L_is_row:Av ["_law_row","_law_signs"] ["_law_row"] (AD Ce):=⟨rfl,rfl,rfl,∅,rfl,∅,∅⟩
theorem Ur:L2.Loc (AD Ce) "_law_row":=by unfold L2.Loc;decide +kernel
theorem E8:Vis (AD Ce) "_law_row":=viL Ur
theorem Nm:L2.Loc (AD Ce) "_law_signs":=by unfold L2.Loc;decide +kernel
theorem NN:Vis (AD Ce) "_law_signs":=viL Nm
theorem HR:glP Ce "_law_is_of":=∅
theorem Pp:glP Ce "bool":=∅
theorem LH:glP Ce "isinstance":=∅
theorem HF:glP Ce "_law_within":=∅
theorem KO:glP Ce "_law_is_data":=∅
abbrev B0:Stmt:=top 21
theorem sc_is_text_of:Av ["thing","signs","low","high"] ["thing","signs","low","high"] (AD B0):=⟨rfl,rfl,rfl,∅,rfl,∅,∅⟩
theorem Qd:L2.Loc (AD B0) "thing":=by unfold L2.Loc;decide +kernel
theorem Im:Vis (AD B0) "thing":=viL Qd
theorem Qc:L2.Loc (AD B0) "low":=by unfold L2.Loc;decide +kernel
theorem QG:Vis (AD B0) "low":=viL Qc
theorem Qb:L2.Loc (AD B0) "high":=by unfold L2.Loc;decide +kernel
theorem QF:Vis (AD B0) "high":=viL Qb
theorem Oh:glP B0 "len":=∅
theorem Og:glP B0 "str":=∅
theorem KG:glP B0 "isinstance":=∅
theorem Oi:glP B0 "all":=∅
theorem QY:List.Nodup (["sign","signs"]:List Str):=∅
abbrev FP:Stmt:=top 22
theorem sc_is_name:Av ["thing"] ["thing"] (AD FP):=⟨rfl,rfl,rfl,∅,rfl,∅,∅⟩
theorem V9:L2.Loc (AD FP) "thing":=by unfold L2.Loc;decide +kernel
theorem VV:Vis (AD FP) "thing":=viL V9
theorem Lg:glP FP "NAME_SIGNS":=∅
theorem Lf:glP FP "is_text_of":=∅
abbrev Ee:Stmt:=top 16
theorem sc_is_truth:Av ["thing"] ["thing"] (AD Ee):=⟨rfl,rfl,rfl,∅,rfl,∅,∅⟩
theorem UZ:L2.Loc (AD Ee) "thing":=by unfold L2.Loc;decide +kernel
theorem Ti:Vis (AD Ee) "thing":=viL UZ
theorem Pk:glP Ee "bool":=∅
theorem LA:glP Ee "isinstance":=∅
abbrev Dw:Stmt:=top 4
theorem sc_is_whole:Av ["thing"] ["thing"] (AD Dw):=⟨rfl,rfl,rfl,∅,rfl,∅,∅⟩
theorem UY:L2.Loc (AD Dw) "thing":=by unfold L2.Loc;decide +kernel
theorem NH:Vis (AD Dw) "thing":=viL UY
theorem Pj:glP Dw "bool":=∅
theorem HN:glP Dw "isinstance":=∅
theorem Qu:glP Dw "int":=∅
abbrev Cg:Stmt:=top 17
theorem sc_is_within:Av ["thing","low","high"] ["thing","low","high"] (AD Cg):=⟨rfl,rfl,rfl,∅,rfl,∅,∅⟩
theorem Ry:L2.Loc (AD Cg) "thing":=by unfold L2.Loc;decide +kernel
theorem MF:Vis (AD Cg) "thing":=viL Ry
theorem Rx:L2.Loc (AD Cg) "low":=by unfold L2.Loc;decide +kernel
theorem Ra:Vis (AD Cg) "low":=viL Rx
theorem Rw:L2.Loc (AD Cg) "high":=by unfold L2.Loc;decide +kernel
theorem RZ:Vis (AD Cg) "high":=viL Rw
theorem Ld:glP Cg "is_whole":=∅
abbrev BM:Stmt:=top 5
theorem sc_common_divisor:Av ["one","other","big","small","rest"] ["one","other"] (AD BM):=⟨rfl,rfl,rfl,∅,rfl,∅,∅⟩
theorem M0:L2.Loc (AD BM) "one":=by unfold L2.Loc;decide +kernel
theorem Mr:Vis (AD BM) "one":=viL M0
theorem Mz:L2.Loc (AD BM) "other":=by unfold L2.Loc;decide +kernel
theorem Mq:Vis (AD BM) "other":=viL Mz
theorem Gh:L2.Loc (AD BM) "big":=by unfold L2.Loc;decide +kernel
theorem Io:Vis (AD BM) "big":=viL Gh
theorem Gg:L2.Loc (AD BM) "small":=by unfold L2.Loc;decide +kernel
theorem Gf:Vis (AD BM) "small":=viL Gg
theorem Iu:L2.Loc (AD BM) "rest":=by unfold L2.Loc;decide +kernel
theorem Mp:Vis (AD BM) "rest":=viL Iu
theorem IA:glP BM "abs":=∅
abbrev CJ:Stmt:=top 6
theorem sc_is_share:Av ["thing","top","bottom"] ["thing"] (AD CJ):=⟨rfl,rfl,rfl,∅,rfl,∅,∅⟩
theorem Ua:L2.Loc (AD CJ) "thing":=by unfold L2.Loc;decide +kernel
theorem IQ:Vis (AD CJ) "thing":=viL Ua
theorem NZ:L2.Loc (AD CJ) "top":=by unfold L2.Loc;decide +kernel
theorem KS:Vis (AD CJ) "top":=viL NZ
theorem NY:L2.Loc (AD CJ) "bottom":=by unfold L2.Loc;decide +kernel
theorem IP:Vis (AD CJ) "bottom":=viL NY
theorem Qv:glP CJ "len":=∅
theorem Ol:glP CJ "tuple":=∅
theorem LD:glP CJ "isinstance":=∅
theorem IK:glP CJ "is_whole":=∅
theorem JT:glP CJ "common_divisor":=∅
abbrev B9:Stmt:=top 19
theorem sc_is_bounded_share:Av ["thing"] ["thing"] (AD B9):=⟨rfl,rfl,rfl,∅,rfl,∅,∅⟩
theorem LW:L2.Loc (AD B9) "thing":=by unfold L2.Loc;decide +kernel
theorem Hq:Vis (AD B9) "thing":=viL LW
theorem IX:glP B9 "is_share":=∅
abbrev Dy:Stmt:=top 20
theorem sc_is_paint:Av ["shade","share"] ["shade","share"] (AD Dy):=⟨rfl,rfl,rfl,∅,rfl,∅,∅⟩
theorem Ue:L2.Loc (AD Dy) "shade":=by unfold L2.Loc;decide +kernel
theorem To:Vis (AD Dy) "shade":=viL Ue
theorem Ud:L2.Loc (AD Dy) "share":=by unfold L2.Loc;decide +kernel
theorem Tn:Vis (AD Dy) "share":=viL Ud
theorem Fc:glP Dy "is_bounded_share":=∅
abbrev Dx:Stmt:=top 25
theorem sc_is_plate:Av ["data"] ["data"] (AD Dx):=⟨rfl,rfl,rfl,∅,rfl,∅,∅⟩
theorem Ub:L2.Loc (AD Dx) "data":=by unfold L2.Loc;decide +kernel
theorem Gw:Vis (AD Dx) "data":=viL Ub
theorem MA:glP Dx "is_paint":=∅
theorem Qz:glP Dx "len":=∅
theorem Hz:glP Dx "is_within":=∅
abbrev Er:Stmt:=top 26
theorem sc_is_band:Av ["data"] ["data"] (AD Er):=⟨rfl,rfl,rfl,∅,rfl,∅,∅⟩
theorem WC:L2.Loc (AD Er) "data":=by unfold L2.Loc;decide +kernel
theorem Hr:Vis (AD Er) "data":=viL WC
theorem M9:glP Er "is_paint":=∅
theorem SK:glP Er "len":=∅
theorem IM:glP Er "is_within":=∅
abbrev Fu:Stmt:=top 2
theorem sc_is_sign:Av ["sign"] ["sign"] (AD Fu):=⟨rfl,rfl,rfl,∅,rfl,∅,∅⟩
theorem V8:L2.Loc (AD Fu) "sign":=by unfold L2.Loc;decide +kernel
theorem VU:Vis (AD Fu) "sign":=viL V8
theorem Pl:glP Fu "SIGNS":=∅
abbrev B5:Stmt:=top 23
theorem sc_is_word_text:Av ["thing"] ["thing"] (AD B5):=⟨rfl,rfl,rfl,∅,rfl,∅,∅⟩
theorem OW:L2.Loc (AD B5) "thing":=by unfold L2.Loc;decide +kernel
theorem HS:Vis (AD B5) "thing":=viL OW
theorem M3:glP B5 "len":=∅
theorem M1:glP B5 "str":=∅
theorem JS:glP B5 "isinstance":=∅
theorem M5:glP B5 "all":=∅
theorem OV:List.Nodup (["sign"]:List Str):=∅
abbrev Eo:Stmt:=top 27
theorem sc_is_word:Av ["data"] ["data"] (AD Eo):=⟨rfl,rfl,rfl,∅,rfl,∅,∅⟩
theorem V6:L2.Loc (AD Eo) "data":=by unfold L2.Loc;decide +kernel
theorem JW:Vis (AD Eo) "data":=viL V6
theorem M6:glP Eo "is_paint":=∅
theorem Kp:glP Eo "is_word_text":=∅
theorem SH:glP Eo "len":=∅
abbrev BW:Stmt:=top 24
theorem sc_are_stencil_rows:Av ["thing"] ["thing"] (AD BW):=⟨rfl,rfl,rfl,∅,rfl,∅,∅⟩
theorem LX:L2.Loc (AD BW) "thing":=by unfold L2.Loc;decide +kernel
theorem EL:Vis (AD BW) "thing":=viL LX
theorem Kq:glP BW "len":=∅
theorem Jl:glP BW "tuple":=∅
theorem IB:glP BW "isinstance":=∅
theorem HC:glP BW "all":=∅
theorem LV:List.Nodup (["row"]:List Str):=∅
theorem LU:List.Nodup (["row","thing"]:List Str):=∅
abbrev Cq:Stmt:=top 28
theorem sc_is_stencil:Av ["data"] ["data"] (AD Cq):=⟨rfl,rfl,rfl,∅,rfl,∅,∅⟩
theorem Qe:L2.Loc (AD Cq) "data":=by unfold L2.Loc;decide +kernel
theorem Gv:Vis (AD Cq) "data":=viL Qe
theorem LB:glP Cq "is_paint":=∅
theorem Hy:glP Cq "are_stencil_rows":=∅
theorem Oj:glP Cq "len":=∅
abbrev FC:Stmt:=top 29
theorem sc_is_empty:Av ["data"] ["data"] (AD FC):=⟨rfl,rfl,rfl,∅,rfl,∅,∅⟩
theorem Uh:L2.Loc (AD FC) "data":=by unfold L2.Loc;decide +kernel
theorem Tq:Vis (AD FC) "data":=viL Uh
theorem Q1:glP FC "len":=∅
abbrev Ef:Stmt:=top 30
theorem sc_is_glass:Av ["data"] ["data"] (AD Ef):=⟨rfl,rfl,rfl,∅,rfl,∅,∅⟩
theorem Ug:L2.Loc (AD Ef) "data":=by unfold L2.Loc;decide +kernel
theorem NI:Vis (AD Ef) "data":=viL Ug
theorem IW:glP Ef "is_bounded_share":=∅
theorem Q0:glP Ef "len":=∅
abbrev FA:Stmt:=top 18
theorem sc_is_place:Av ["thing"] ["thing"] (AD FA):=⟨rfl,rfl,rfl,∅,rfl,∅,∅⟩
theorem Uc:L2.Loc (AD FA) "thing":=by unfold L2.Loc;decide +kernel
theorem Tj:Vis (AD FA) "thing":=viL Uc
theorem Le:glP FA "is_within":=∅
abbrev DH:Stmt:=top 31
theorem sc_is_window:Av ["data"] ["data"] (AD DH):=⟨rfl,rfl,rfl,∅,rfl,∅,∅⟩
theorem R1:L2.Loc (AD DH) "data":=by unfold L2.Loc;decide +kernel
theorem GO:Vis (AD DH) "data":=viL R1
theorem Hx:glP DH "is_place":=∅
theorem Ph:glP DH "len":=∅
theorem HM:glP DH "is_within":=∅
abbrev Ep:Stmt:=top 32
theorem sc_is_turn:Av ["data"] ["data"] (AD Ep):=⟨rfl,rfl,rfl,∅,rfl,∅,∅⟩
theorem V7:L2.Loc (AD Ep) "data":=by unfold L2.Loc;decide +kernel
theorem LJ:Vis (AD Ep) "data":=viL V7
theorem M7:glP Ep "is_truth":=∅
theorem L8:glP Ep "is_within":=∅
theorem SI:glP Ep "len":=∅
abbrev Df:Stmt:=top 33
theorem sc_are_tiles:Av ["data"] ["data"] (AD Df):=⟨rfl,rfl,rfl,∅,rfl,∅,∅⟩
theorem R3:L2.Loc (AD Df) "data":=by unfold L2.Loc;decide +kernel
theorem GP:Vis (AD Df) "data":=viL R3
theorem D1:glP Df "is_within":=∅
theorem Pn:glP Df "len":=∅
abbrev DM:Stmt:=top 35
theorem sc_is_data:Av ["kind","data"] ["kind","data"] (AD DM):=⟨rfl,rfl,rfl,∅,rfl,∅,∅⟩
theorem WB:L2.Loc (AD DM) "kind":=by unfold L2.Loc;decide +kernel
theorem LK:Vis (AD DM) "kind":=viL WB
theorem WA:L2.Loc (AD DM) "data":=by unfold L2.Loc;decide +kernel
theorem O9:Vis (AD DM) "data":=viL WA
theorem K0:glP DM "FORMS":=∅
theorem Pm:glP DM "tuple":=∅
theorem H0:glP DM "isinstance":=∅
theorem SJ:glP DM "str":=∅
abbrev Ff:Stmt:=top 9
theorem sc_row_name:Av ["row"] ["row"] (AD Ff):=⟨rfl,rfl,rfl,∅,rfl,∅,∅⟩
theorem US:L2.Loc (AD Ff) "row":=by unfold L2.Loc;decide +kernel
theorem Td:Vis (AD Ff) "row":=viL US
abbrev EN:Stmt:=top 10
theorem sc_row_holder:Av ["row"] ["row"] (AD EN):=⟨rfl,rfl,rfl,∅,rfl,∅,∅⟩
theorem Qa:L2.Loc (AD EN) "row":=by unfold L2.Loc;decide +kernel
theorem QE:Vis (AD EN) "row":=viL Qa
abbrev E5:Stmt:=top 13
theorem sc_row_shown:Av ["row"] ["row"] (AD E5):=⟨rfl,rfl,rfl,∅,rfl,∅,∅⟩
theorem Rv:L2.Loc (AD E5) "row":=by unfold L2.Loc;decide +kernel
theorem RY:Vis (AD E5) "row":=viL Rv
abbrev Fg:Stmt:=top 14
theorem sc_row_kind:Av ["row"] ["row"] (AD Fg):=⟨rfl,rfl,rfl,∅,rfl,∅,∅⟩
theorem UT:L2.Loc (AD Fg) "row":=by unfold L2.Loc;decide +kernel
theorem Te:Vis (AD Fg) "row":=viL UT
abbrev Fh:Stmt:=top 15
theorem sc_row_data:Av ["row"] ["row"] (AD Fh):=⟨rfl,rfl,rfl,∅,rfl,∅,∅⟩
theorem UU:L2.Loc (AD Fh) "row":=by unfold L2.Loc;decide +kernel
theorem Tf:Vis (AD Fh) "row":=viL UU
abbrev JY:Stmt:=top 11
theorem sc_row_x:Av ["row"] ["row"] (AD JY):=⟨rfl,rfl,rfl,∅,rfl,∅,∅⟩
theorem ZK:L2.Loc (AD JY) "row":=by unfold L2.Loc;decide +kernel
theorem Yy:Vis (AD JY) "row":=viL ZK
abbrev JX:Stmt:=top 12
theorem sc_row_y:Av ["row"] ["row"] (AD JX):=⟨rfl,rfl,rfl,∅,rfl,∅,∅⟩
theorem ZJ:L2.Loc (AD JX) "row":=by unfold L2.Loc;decide +kernel
theorem Yx:Vis (AD JX) "row":=viL ZJ
abbrev CP:Stmt:=top 36
theorem sc_is_row:Av ["thing"] ["thing"] (AD CP):=⟨rfl,rfl,rfl,∅,rfl,∅,∅⟩
theorem Xb:L2.Loc (AD CP) "thing":=by unfold L2.Loc;decide +kernel
theorem Ec:Vis (AD CP) "thing":=viL Xb
theorem U2:glP CP "len":=∅
theorem Qw:glP CP "tuple":=∅
theorem L9:glP CP "isinstance":=∅
theorem Nz:glP CP "row_name":=∅
theorem KI:glP CP "is_name":=∅
theorem IL:glP CP "row_holder":=∅
theorem Qx:glP CP "row_y":=∅
theorem Ja:glP CP "is_place":=∅
theorem Qy:glP CP "row_x":=∅
theorem N1:glP CP "row_data":=∅
theorem N0:glP CP "row_kind":=∅
theorem Om:glP CP "is_data":=∅
theorem M8:glP CP "row_shown":=∅
theorem N2:glP CP "is_truth":=∅
abbrev DN:Stmt:=top 67
theorem sc_L_right:Av ["_law_row","_law_found"] ["_law_row"] (AD DN):=⟨rfl,rfl,rfl,∅,rfl,∅,∅⟩
theorem WI:L2.Loc (AD DN) "_law_row":=by unfold L2.Loc;decide +kernel
theorem PF:Vis (AD DN) "_law_row":=viL WI
theorem PL:L2.Loc (AD DN) "_law_found":=by unfold L2.Loc;decide +kernel
theorem PB:Vis (AD DN) "_law_found":=viL PL
theorem Oo:glP DN "is_row":=∅
theorem LG:glP DN "_law_is_row":=∅
theorem Q3:glP DN "bool":=∅
theorem Lj:glP DN "isinstance":=∅
abbrev El:Stmt:=top 68
theorem sc_law:Av ["_law_script","_law_k","_law_row","_law_big_here","_law_odd_here"] ["_law_script"] (AD El):=⟨rfl,rfl,rfl,∅,rfl,∅,∅⟩
theorem cV:L2.Loc (AD El) "_law_script":=by unfold L2.Loc;decide +kernel
theorem Th:Vis (AD El) "_law_script":=viL cV
theorem YU:L2.Loc (AD El) "_law_k":=by unfold L2.Loc;decide +kernel
theorem X7:Vis (AD El) "_law_k":=viL YU
theorem YT:L2.Loc (AD El) "_law_row":=by unfold L2.Loc;decide +kernel
theorem Pz:Vis (AD El) "_law_row":=viL YT
theorem UX:L2.Loc (AD El) "_law_big_here":=by unfold L2.Loc;decide +kernel
theorem Tg:Vis (AD El) "_law_big_here":=viL UX
theorem UW:L2.Loc (AD El) "_law_odd_here":=by unfold L2.Loc;decide +kernel
theorem X6:Vis (AD El) "_law_odd_here":=viL UW
theorem Zf:glP El "len":=∅
theorem Zd:glP El "min":=∅
theorem Ze:glP El "max":=∅
theorem WY:glP El "range":=∅
theorem Lc:glP El "_law_big":=∅
theorem Nx:glP El "_law_row_of":=∅
theorem JZ:glP El "_law_spoilt":=∅
theorem Hc:glP El "_law_right":=∅
theorem Ny:glP El "_law_is_row":=∅
def Hs:List (Str×PyData):=[("0",(.str "tolrks")),("1",(.str "rs")),("2",(.str "tmork")),("3",(.str "tmors")),("4",(.str "mlrs")),("5",(.str "tmols")),("6",(.str "tmolks")),("7",(.str "trs")),("8",(.str "tmolrks")),("9",(.str "tmolrs")),("a",(.str "tmlrks")),("b",(.str "molks")),("c",(.str "tolk")),("d",(.str "morks")),("e",(.str "tmolk")),("f",(.str "tmlk")),("-",(.str "m")),("_",(.str ""))]
def Gm:List L->Option (PyData×List L):=Bo false 1 3 (Aa (Ah (dC (.str "")) (dN 1)) (Aa (Ah (dOp CG (dC (.int 1)) (dOp Bm (AF 0) (dC (.int 8)))) (dN 2)) (Aa (Ah (dOp B7 (AF 0) (dC (.int 8))) (dN 0)) (Aa (II (dR1 (AA (AF 2) AI)) (dN 3) (Aa (Ah (dOp Mg (AF 1) (dOp SQ (dC (.str "abcdefghijklmnopqrstuvwxyz0123456789")) (dOp Bm (AF 0) (dC (.int 36))))) (dN 1)) (Ah (dOp B7 (AF 0) (dC (.int 36))) (dN 0)))) (An (Bn (AA (AF 1) (AA (AF 0) AI))))))))
def Cj:List L->Option (PyData×List L):=Bo false 1 0 (Aa (BA (AQ (dOp fEq (dOp Bm (AF 0) (dC (.int 6))) (dC (.int 0)))) (An (Bn (AA (dOp EE (dOp Bm (dOp B7 (AF 0) (dC (.int 6))) (dC (.int 121))) (dC (.int 60))) (AA (dOp B7 (AF 0) (dC (.int 726))) AI)))) BO) (An (Bn (AA (dOp EE (dOp Bm (dOp B7 (AF 0) (dC (.int 6))) (dC (.int 12))) (dC (.int 3))) (AA (dOp B7 (AF 0) (dC (.int 72))) AI)))))
def Jk:List L->Option (PyData×List L):=Bo true 2 3 (Aa (ME 2 2) (Aa (bb 2 3) (Aa (II (dIL (AF 0)) (dN 4) (TU 3 (AF 4) (dOp Am (AF 4) (dC (.int 0))))) (Aa (O4 (fun _=>100) (C7 (AQ (dOp fNe (AF 1) (dC (.str "")))) (AQ (ND false (AF 1) 3))) (Aa (Eb (dMt 2 Cv (AA (AF 1) AI))) (Ah (dOp Am (RI 3 (AF 1)) (dC (.int 1))) (dN 1)))) (JL 2 2)))))
def HB:List L->Option (PyData×List L):=Bo false 2 2 (Aa (Ea 2 3 (AA (A1 NB (AA (AF 0) AI)) (AA (AF 1) AI))) (Aa (O4 (ey 3) (AQ (dOp fGt (AF 3) (dC (.int 0)))) (Ea 2 3 (AA (AF 3) (AA (dOp Bm (AF 2) (AF 3)) AI)))) (An (Bn (AA (dOp B7 (AF 0) (AF 2)) (AA (dOp B7 (AF 1) (AF 2)) AI))))))
def FE:List L->Option (PyData×List L):=Bo false 1 1 (Aa (Ah (dOp Am (Bn (AA (dC (.int 1)) (AA (dC (.int 1)) (AA (dC (.int 2)) (AA (dC (.int 3)) AI))))) (dOp Bm (AF 0) (dC (.int 4)))) (dN 1)) (Aa (BA (AQ (dOp fEq (dOp Bm (dOp B7 (AF 0) (dC (.int 4))) (dC (.int 4))) (dC (.int 0)))) (Ah (dOp CG (dC (.int 1)) (dOp Bm (dOp B7 (AF 0) (dC (.int 16))) (dC (.int 12)))) (dN 1)) BO) (Aa (BA (AQ (dOp fEq (dOp Bm (dOp B7 (AF 0) (dC (.int 4))) (dC (.int 16))) (dC (.int 1)))) (Ah (dOp CG (dC (.int 1)) (dOp Bm (dOp B7 (AF 0) (dC (.int 16))) (dC (.int 1000)))) (dN 1)) BO) (Aa (Ah (dOp B7 (AF 0) (dC (.int 16000))) (dN 0)) (An (Bn (AA (AU HB (AA (dOp Bm (AF 0) (dOp CG (AF 1) (dC (.int 1)))) (AA (AF 1) AI))) (AA (dOp B7 (AF 0) (dOp CG (AF 1) (dC (.int 1)))) AI))))))))
def EU:List L->Option (PyData×List L):=Bo false 1 2 (Aa (Ah (AU FE (AA (AF 0) AI)) (dGT (BH (dN 1) (BH (dN 0) Cu)))) (Aa (BA (AQ (dOp fEq (dOp Bm (AF 0) (dC (.int 3))) (dC (.int 0)))) (An (Bn (AA (AF 1) (AA (Bn (AA (dC (.int 1)) (AA (dC (.int 1)) AI))) (AA (dOp B7 (AF 0) (dC (.int 3))) AI))))) BO) (Aa (Ah (AU FE (AA (dOp B7 (AF 0) (dC (.int 3))) AI)) (dGT (BH (dN 2) (BH (dN 0) Cu)))) (An (Bn (AA (AF 1) (AA (AF 2) (AA (AF 0) AI))))))))
def Et:List L->Option (PyData×List L):=Bo false 1 6 (Aa (Ah (dOp CG (dC (.int 1)) (dOp Bm (AF 0) (dC (.int 8)))) (dN 1)) (Aa (Ah (dOp CG (dC (.int 1)) (dOp Bm (dOp B7 (AF 0) (dC (.int 8))) (dC (.int 8)))) (dN 2)) (Aa (Ah (dOp B7 (AF 0) (dC (.int 64))) (dN 0)) (Aa (ME 1 3) (Aa (II (dR1 (AA (AF 2) AI)) (dN 4) (Aa (Ah (dC (.str "")) (dN 5)) (Aa (II (dR1 (AA (AF 1) AI)) (dN 6) (Aa (Ah (dOp Mg (AF 5) (dOp SQ (dC (.str "#.")) (dOp Bm (AF 0) (dC (.int 2))))) (dN 5)) (Ah (dOp B7 (AF 0) (dC (.int 2))) (dN 0)))) (Eb (dMt 3 Cv (AA (AF 5) AI)))))) (An (Fs 3 (Bn (AA (A1 Ku (AA (AF 3) AI)) (AA (AF 0) AI))))))))))
def Dj:List L->Option (PyData×List L):=Bo false 2 0 (Aa (BA (AQ (dOp fEq (dOp Bm (AF 0) (dC (.int 8))) (dC (.int 0)))) (An (Bn (AA (dOp CG (dC (.int 1)) (dOp Bm (dOp B7 (AF 0) (dC (.int 8))) (AF 1))) (AA (dOp B7 (dOp B7 (AF 0) (dC (.int 8))) (AF 1)) AI)))) BO) (An (Bn (AA (dOp CG (dC (.int 1)) (dOp Bm (dOp B7 (AF 0) (dC (.int 8))) (dC (.int 5)))) (AA (dOp B7 (AF 0) (dC (.int 40))) AI)))))
def Gk:List L->Option (PyData×List L):=Bo false 1 3 (Aa (Ah (dC (.str "")) (dN 1)) (Aa (Ah (dOp Bm (AF 0) (dC (.int 7))) (dN 2)) (Aa (Ah (dOp B7 (AF 0) (dC (.int 7))) (dN 0)) (Aa (II (dR1 (AA (AF 2) AI)) (dN 3) (Aa (Ah (dOp Mg (AF 1) (dOp SQ (dC (.str "0123456789abcdef-_")) (dOp Bm (AF 0) (dC (.int 18))))) (dN 1)) (Ah (dOp B7 (AF 0) (dC (.int 18))) (dN 0)))) (An (Bn (AA (AF 1) (AA (AF 0) AI))))))))
def B2:List L->Option (PyData×List L):=Bo false 2 9 (Aa (BA (AQ (dOp (fIn false) (AF 0) (Bn (AA (dC (.str "group")) (AA (dC (.str "mask")) AI))))) (An (Bn (AA (Bn AI) (AA (AF 1) AI)))) BO) (Aa (BA (AQ (dOp fEq (AF 0) (dC (.str "turn")))) (An (Bn (AA (Bn (AA (dOp Bm (AF 1) (dC (.int 4))) (AA (dOp fEq (dOp Bm (dOp B7 (AF 1) (dC (.int 4))) (dC (.int 2))) (dC (.int 1))) AI))) (AA (dOp B7 (AF 1) (dC (.int 8))) AI)))) BO) (Aa (BA (AQ (dOp fEq (AF 0) (dC (.str "tiles")))) (Aa (Ah (Bn (AA (dOp CG (dC (.int 1)) (dOp Bm (AF 1) (dC (.int 3)))) (AA (dOp CG (dC (.int 1)) (dOp Bm (dOp B7 (AF 1) (dC (.int 3))) (dC (.int 3)))) (AA (dOp EE (dOp Bm (dOp B7 (AF 1) (dC (.int 9))) (dC (.int 41))) (dC (.int 20))) (AA (dOp EE (dOp Bm (dOp B7 (AF 1) (dC (.int 369))) (dC (.int 41))) (dC (.int 20))) AI))))) (dN 2)) (Aa (BA (AQ (dOp fGt (dOp Bm (dOp B7 (AF 1) (dC (.int 15129))) (dC (.int 4))) (dC (.int 0)))) (Ah (dOp Yi (VH (AF 2) Xv (dPt (dC (.int 2)))) (Bn (AA (dOp Bm (dOp Am (AF 2) (dC (.int 2))) (dC (.int 7))) (AA (dOp Bm (dOp Am (AF 2) (dC (.int 3))) (dC (.int 7))) AI)))) (dN 2)) BO) (An (Bn (AA (AF 2) (AA (dOp B7 (AF 1) (dC (.int 60516))) AI)))))) BO) (Aa (BA (AQ (dOp fEq (AF 0) (dC (.str "window")))) (Aa (Ah (AU Dj (AA (AF 1) (AA (dC (.int 16)) AI))) (dGT (BH (dN 3) (BH (dN 1) Cu)))) (Aa (Ah (AU Dj (AA (AF 1) (AA (dC (.int 16)) AI))) (dGT (BH (dN 4) (BH (dN 1) Cu)))) (Aa (Ah (AU Cj (AA (AF 1) AI)) (dGT (BH (dN 5) (BH (dN 1) Cu)))) (Aa (Ah (AU Cj (AA (AF 1) AI)) (dGT (BH (dN 6) (BH (dN 1) Cu)))) (An (Bn (AA (Bn (AA (AF 3) (AA (AF 4) (AA (AF 5) (AA (AF 6) AI))))) (AA (AF 1) AI)))))))) BO) (Aa (Ah (AU EU (AA (AF 1) AI)) (dGT (BH (dN 7) (BH (dN 8) (BH (dN 1) Cu))))) (Aa (BA (AQ (dOp fEq (AF 0) (dC (.str "glass")))) (An (Bn (AA (Bn (AA (AF 8) AI)) (AA (AF 1) AI)))) BO) (Aa (BA (AQ (dOp fEq (AF 0) (dC (.str "plate")))) (Aa (Ah (AU Dj (AA (AF 1) (AA (dC (.int 12)) AI))) (dGT (BH (dN 3) (BH (dN 1) Cu)))) (Aa (Ah (AU Dj (AA (AF 1) (AA (dC (.int 12)) AI))) (dGT (BH (dN 4) (BH (dN 1) Cu)))) (An (Bn (AA (Bn (AA (AF 3) (AA (AF 4) (AA (AF 7) (AA (AF 8) AI))))) (AA (AF 1) AI)))))) BO) (Aa (BA (AQ (dOp fEq (AF 0) (dC (.str "band")))) (An (Bn (AA (Bn (AA (dOp EE (dOp Bm (AF 1) (dC (.int 25))) (dC (.int 12))) (AA (dOp EE (dOp Bm (dOp B7 (AF 1) (dC (.int 25))) (dC (.int 25))) (dC (.int 12))) (AA (AF 7) (AA (AF 8) AI))))) (AA (dOp B7 (AF 1) (dC (.int 625))) AI)))) BO) (Aa (BA (AQ (dOp fEq (AF 0) (dC (.str "word")))) (Aa (Ah (AU Gk (AA (AF 1) AI)) (dGT (BH (dN 9) (BH (dN 1) Cu)))) (An (Bn (AA (Bn (AA (AF 9) (AA (AF 7) (AA (AF 8) AI)))) (AA (AF 1) AI))))) BO) (Aa (Ah (AU Et (AA (AF 1) AI)) (dGT (BH (dN 10) (BH (dN 1) Cu)))) (An (Bn (AA (Bn (AA (AF 10) (AA (AF 7) (AA (AF 8) AI)))) (AA (AF 1) AI))))))))))))))
def Fw:List L->Option (PyData×List L):=Bo false 0 1 (Aa (Ah (Bn (AA (dC (.str "plate")) (AA (dC (.str "band")) (AA (dC (.str "word")) (AA (dC (.str "stencil")) (AA (dC (.str "plate")) (AA (dC (.str "stencil")) AI))))))) (dN 0)) (An (dOp Yi (AF 0) (Bn (AA (dC (.str "group")) (AA (dC (.str "glass")) (AA (dC (.str "window")) (AA (dC (.str "turn")) (AA (dC (.str "tiles")) (AA (dC (.str "mask")) AI))))))))))
def FF:List L->Option (PyData×List L):=Bo false 2 10 (Aa (Ah (AU Gm (AA (AF 1) AI)) (dGT (BH (dN 2) (BH (dN 1) Cu)))) (Aa (Ge 2 3 (Gi (AA (dC (.str "")) AI))) (Aa (II (dIL (AF 0)) (dN 4) (BA (C7 (AQ (dOp (fIn false) (dOp Am (AF 4) (dC (.int 5))) (VH (AU Fw AI) (dPt (dC (.int 6))) Xv))) (AQ (dOp fLt (A1 Bz (AA (AU Jk (AA (AF 0) (AA (dOp Am (AF 4) (dC (.int 0))) AI))) AI)) (dC (.int 7))))) (Eb (dMt 3 Cv (AA (dOp Am (AF 4) (dC (.int 0))) AI))) BO)) (Aa (Ah (Fs 3 (dOp LI (AF 3) (dOp Bm (AF 1) (A1 Bz (AA (AF 3) AI))))) (dN 5)) (Aa (BA (FL 3 (AQ (dOp fEq (dOp Bm (dOp B7 (AF 1) (A1 Bz (AA (AF 3) AI))) (dC (.int 2))) (dC (.int 0))))) (Ah (Fs 3 (dOp LI (AF 3) (dUn E2 (dC (.int 1))))) (dN 5)) BO) (Aa (Ah (Fs 3 (dOp B7 (dOp B7 (AF 1) (A1 Bz (AA (AF 3) AI))) (dC (.int 2)))) (dN 1)) (Aa (Ah (AU Cj (AA (AF 1) AI)) (dGT (BH (dN 6) (BH (dN 1) Cu)))) (Aa (Ah (AU Cj (AA (AF 1) AI)) (dGT (BH (dN 7) (BH (dN 1) Cu)))) (Aa (Ah (dOp Am (AU Fw AI) (dOp Bm (AF 1) (dC (.int 12)))) (dN 8)) (Aa (Ah (AU Jk (AA (AF 0) (AA (AF 5) AI))) (dN 9)) (Aa (BA (C7 (AQ (dOp fEq (AF 8) (dC (.str "tiles")))) (AQ (dOp fNe (dLC 1 [9] (dIL (AF 0)) (dN 0) (C7 (AQ (dOp (fIn false) (dOp Am (AF 0) (dC (.int 0))) (AF 1))) (AQ (dOp fEq (dOp Am (AF 0) (dC (.int 5))) (dC (.str "tiles"))))) (AF 0)) (Gi AI)))) (Ah (dC (.str "group")) (dN 8)) BO) (Aa (Ah (dOp fGt (dOp Bm (dOp B7 (AF 1) (dC (.int 12))) (dC (.int 8))) (dC (.int 0))) (dN 10)) (Aa (Ah (AU B2 (AA (AF 8) (AA (dOp B7 (AF 1) (dC (.int 96))) AI))) (dGT (BH (dN 11) (BH (dN 1) Cu)))) (An (Bn (AA (Bn (AA (AF 2) (AA (AF 5) (AA (AF 6) (AA (AF 7) (AA (AF 10) (AA (AF 8) (AA (AF 11) AI)))))))) (AA (AF 1) AI)))))))))))))))))
def EW:List L->Option (PyData×List L):=Bo false 2 0 (Aa (BA (AQ (dOp fLt (AF 1) (CY 0))) (An (E4 0 (AF 1))) BO) (An (dC (.int 0))))
def Fz:List L->Option (PyData×List L):=Bo false 2 6 (Aa (Ah (Bn (AA (dC (.int 48271)) (AA (dC (.int 69621)) (AA (dC (.int 16807)) (AA (dC (.int 39373)) (AA (dC (.int 21401)) (AA (dC (.int 60493)) (AA (dC (.int 87721)) (AA (dC (.int 31337)) AI))))))))) (dN 2)) (Aa (Ah (Bn (AA (dC (.int 99991)) (AA (dC (.int 99989)) (AA (dC (.int 99971)) (AA (dC (.int 99961)) (AA (dC (.int 99929)) (AA (dC (.int 99923)) (AA (dC (.int 99907)) (AA (dC (.int 99901)) AI))))))))) (dN 3)) (Aa (Ah (Bl 0 EW (AA (AF 1) AI)) (dN 4)) (Aa (BA (AQ (dOp fGe (AF 4) (dOp bV (dC (.int 10)) (dC (.int 18))))) (An (AF 4)) BO) (Aa (Ah (dC (.int 0)) (dN 5)) (Aa (II (dR1 (AA (dC (.int 60)) AI)) (dN 6) (Aa (Ah (dOp CG (dOp CG (dOp Bm (Bl 0 EW (AA (dOp CG (AF 1) (dOp Bm (AF 6) (dC (.int 9)))) AI)) (dOp bV (dC (.int 10)) (dC (.int 18)))) (dC (.int 1))) (dOp Q5 (AF 6) (AF 6))) (dN 7)) (Ah (dOp CG (dOp Q5 (AF 5) (dC (.int 7919))) (dOp Bm (dOp Bm (dOp Q5 (AF 7) (dOp Am (AF 2) (dOp Bm (AF 6) (dC (.int 8))))) (dOp Am (AF 3) (dOp Bm (AF 6) (dC (.int 8))))) (dC (.int 7919)))) (dN 5)))) (An (AF 5))))))))
def Ko:List L->Option (PyData×List L):=Bo false 1 1 (Aa (Ah (Gi (AA (dC (.int 0)) (AA (dC (.int 1)) (AA (dUn E2 (dC (.int 1))) (AA (dC (.int 3)) (AA (dC (.int 4)) (AA (dC (.int 12)) (AA (dC (.int 13)) (AA (dUn E2 (dC (.int 12))) (AA (dUn E2 (dC (.int 13))) (AA (dC (.int 16)) (AA (dC (.int 17)) (AA (dC (.int 20)) (AA (dC (.int 21)) (AA (dUn E2 (dC (.int 20))) (AA (dUn E2 (dC (.int 21))) (AA (dC (.int 60)) (AA (dC (.int 61)) (AA (dUn E2 (dC (.int 60))) (AA (dUn E2 (dC (.int 61))) (AA (dC (.bool true)) (AA (dC (.bool false)) AI)))))))))))))))))))))) (dN 1)) (Aa (Ah (dOp Zg (AF 1) (Gi (AA (dC (.str "")) (AA (dC (.str "a")) (AA (dC (.str "A")) (AA (dC (.str ".")) (AA (dC (.str "#")) (AA (dC (.str "abcdefgh")) (AA (dC (.str "abcdefghi")) (AA (dC (.str "#.#")) (AA (dC (.str "##.#..##")) (AA (dC (.str "##.#..##.")) AI)))))))))))) (dN 1)) (Aa (Ah (dOp Zg (AF 1) (Gi (AA (dC (.str "012345")) (AA (dC (.str "0123456")) (AA (dC (.str "g")) (AA (dC (.str "plate")) (AA (dC (.str "mask")) (AA (dC (.str "glass")) (AA (dC (.str "turn")) (AA (dC (.str "tiles")) (AA (dC (.str "window")) (AA (dC (.str "word")) AI)))))))))))) (dN 1)) (Aa (Ah (dOp Zg (AF 1) (Gi (AA (Bn (AA (dC (.int 0)) (AA (dC (.int 1)) AI))) (AA (Bn (AA (dC (.int 1)) (AA (dC (.int 1)) AI))) (AA (Bn (AA (dC (.int 2)) (AA (dC (.int 4)) AI))) (AA (Bn (AA (dC (.int 3)) (AA (dC (.int 2)) AI))) (AA (Bn (AA (dC (.int 1)) (AA (dC (.int 0)) AI))) (AA (Bn (AA (dC (.int 0)) (AA (dC (.int 2)) AI))) (AA (Bn (AA (dC (.int 1)) (AA (dC (.int 1000)) AI))) (AA (Bn (AA (dC (.int 1)) (AA (dC (.int 1001)) AI))) (AA (Bn (AA (dUn E2 (dC (.int 1))) (AA (dC (.int 2)) AI))) (AA (Bn (AA (dC (.int 1)) (AA (dC (.bool true)) AI))) AI)))))))))))) (dN 1)) (Aa (Ah (dOp Zg (AF 1) (Gi (AA (Bn (AA (dC (.int 1)) AI)) (AA (Bn AI) (AA (Bn (AA (dC (.str "#")) (AA (dC (.str ".")) AI))) (AA (Bn (AA (dC (.str "#")) (AA (dC (.str "..")) AI))) (AA (Bn (AA (dC (.str "")) AI)) (AA (Bn (AA (dC (.str "x")) AI)) (AA (dOp bU (Bn (AA (dC (.str "#")) AI)) (dC (.int 9))) (AA (Bn (AA (dC (.int 1)) (AA (dC (.int 2)) AI))) (AA (Bn (AA (dC (.str "##")) (AA (dC (.int 1)) AI))) AI))))))))))) (dN 1)) (An (dOp LI (AF 1) (dOp Bm (AF 0) (A1 Bz (AA (AF 1) AI))))))))))
def J5:List L->Option (PyData×List L):=Bo false 2 0 (Aa (BA (CH (AQ (dOp fEq (AF 0) (dC (.int 0)))) (CH (AQ (dOp fEq (AF 0) (dC (.int 1)))) (AQ (dOp fEq (AF 0) (dC (.int 5)))))) (An (FN "str" (AF 1))) BO) (Aa (BA (AQ (dOp fEq (AF 0) (dC (.int 6)))) (An (FN "tuple" (AF 1))) BO) (An (FN "int" (AF 1)))))
def C2:List L->Option (PyData×List L):=Bo false 2 6 (Aa (Ge 2 2 (A1 EA (AA (AF 0) AI))) (Aa (Ah (dOp Bm (AF 1) (dC (.int 3))) (dN 3)) (Aa (Ah (dOp Bm (dOp B7 (AF 1) (dC (.int 3))) (dC (.int 7))) (dN 4)) (Aa (Ah (AU Ko (AA (dOp B7 (AF 1) (dC (.int 21))) AI)) (dN 5)) (Aa (BA (C7 (AQ (dOp fEq (AF 3) (dC (.int 0)))) (AQ (AU J5 (AA (AF 4) (AA (AF 5) AI))))) (GH 2 (AF 5) (AF 4)) BO) (Aa (BA (AQ (dOp fGt (AF 3) (dC (.int 0)))) (Aa (Ge 2 6 (A1 EA (AA (dOp Am (AF 0) (dC (.int 6))) AI))) (Aa (Ah (Fs 6 (dOp Bm (dOp B7 (AF 1) (dC (.int 1323))) (dOp CG (A1 Bz (AA (AF 6) AI)) (dC (.int 1))))) (dN 7)) (Aa (BA (FL 6 (C7 (AQ (dOp fEq (AF 3) (dC (.int 1)))) (AQ (dOp fLt (AF 7) (A1 Bz (AA (AF 6) AI)))))) (GH 6 (AF 5) (AF 7)) (BA (AQ (dOp fEq (dOp Bm (dOp B7 (AF 1) (dC (.int 21))) (dC (.int 2))) (dC (.int 0)))) (Eb (dMt 6 QA (AA (AF 7) (AA (AF 5) AI)))) (BA (FL 6 (AQ (dOp fNe (AF 6) (Gi AI)))) (Eb (dMt 6 U5 (AA (Fs 6 (dOp Bm (AF 7) (A1 Bz (AA (AF 6) AI)))) AI))) BO))) (GH 2 (Fs 6 (A1 Ku (AA (AF 6) AI))) (dC (.int 6)))))) BO) (An (Fs 2 (A1 Ku (AA (AF 2) AI))))))))))
def A2:List L->Option (PyData×List L):=Bo false 3 0 (An (Co (FN "int" (AF 0)) (Co (MD (FN "bool" (AF 0))) (Cf fLe fLe (AF 1) (AF 0) (AF 2)))))
def Dk:List L->Option (PyData×List L):=Bo false 1 0 (Aa (BA (CH (BP (AQ (FN "tuple" (AF 0)))) (CH (AQ (dOp fNe (A1 Bz (AA (AF 0) AI)) (dC (.int 2)))) (BP (AQ (AU A2 (AA (dOp Am (AF 0) (dC (.int 1))) (AA (dC (.int 1)) (AA (dC (.int 1000)) AI)))))))) (An (dC (.bool false))) BO) (An (Co (AU A2 (AA (dOp Am (AF 0) (dC (.int 0))) (AA (dC (.int 0)) (AA (dOp Am (AF 0) (dC (.int 1))) AI)))) (dOp fEq (AU HB (AA (dOp Am (AF 0) (dC (.int 0))) (AA (dOp Am (AF 0) (dC (.int 1))) AI))) (AF 0)))))
def B4:List L->Option (PyData×List L):=Bo false 2 0 (An (Co (dOp fEq (A1 Bz (AA (AF 0) AI)) (AF 1)) (Co (AU Dk (AA (dOp Am (AF 0) (dUn E2 (dC (.int 2)))) AI)) (AU Dk (AA (dOp Am (AF 0) (dUn E2 (dC (.int 1)))) AI)))))
def EK:List L->Option (PyData×List L):=Bo false 4 0 (Aa (BA (CH (BP (AQ (FN "str" (AF 0)))) (BP (AQ (Cf fLe fLe (AF 2) (A1 Bz (AA (AF 0) AI)) (AF 3))))) (An (dC (.bool false))) BO) (An (dOp fEq (dLC 1 [1] (dIS (AF 0)) (dN 0) (AQ (dOp We (AF 0) (AF 1))) (AF 0)) (Gi AI))))
def GA:List L->Option (PyData×List L):=Bo false 1 1 (Aa (BA (CH (BP (AQ (FN "tuple" (AF 0)))) (BP (AQ (Cf fLt fLt (dC (.int 0)) (A1 Bz (AA (AF 0) AI)) (dC (.int 9)))))) (An (dC (.bool false))) BO) (Aa (Ah (dLC 1 [] (dIT (AF 0)) (dN 0) (AQ (AU EK (AA (AF 0) (AA (dC (.str "#.")) (AA (dC (.int 1)) (AA (dC (.int 8)) AI)))))) (A1 Bz (AA (AF 0) AI))) (dN 1)) (An (Co (dOp fEq (A1 Bz (AA (AF 1) AI)) (A1 Bz (AA (AF 0) AI))) (dOp fEq (A1 Wf (AA (AF 1) AI)) (A1 Wg (AA (AF 1) AI)))))))
def EV:List L->Option (PyData×List L):=Bo false 2 4 (Aa (BA (CH (AQ (dOp fEq (AF 0) (dC (.str "group")))) (AQ (dOp fEq (AF 0) (dC (.str "mask"))))) (An (dOp fEq (AF 1) (Bn AI))) BO) (Aa (BA (AQ (dOp fEq (AF 0) (dC (.str "glass")))) (An (Co (dOp fEq (A1 Bz (AA (AF 1) AI)) (dC (.int 1))) (AU Dk (AA (dOp Am (AF 1) (dC (.int 0))) AI)))) BO) (Aa (BA (AQ (dOp fEq (AF 0) (dC (.str "turn")))) (An (Co (dOp fEq (A1 Bz (AA (AF 1) AI)) (dC (.int 2))) (Co (AU A2 (AA (dOp Am (AF 1) (dC (.int 0))) (AA (dC (.int 0)) (AA (dC (.int 3)) AI)))) (FN "bool" (dOp Am (AF 1) (dC (.int 1))))))) BO) (Aa (BA (AQ (dOp fEq (AF 0) (dC (.str "word")))) (An (Co (AU B4 (AA (AF 1) (AA (dC (.int 3)) AI))) (AU EK (AA (dOp Am (AF 1) (dC (.int 0))) (AA (dC (.str "0123456789abcdef-_")) (AA (dC (.int 0)) (AA (dC (.int 6)) AI))))))) BO) (Aa (BA (AQ (dOp fEq (AF 0) (dC (.str "stencil")))) (An (Co (AU B4 (AA (AF 1) (AA (dC (.int 3)) AI))) (AU GA (AA (dOp Am (AF 1) (dC (.int 0))) AI)))) BO) (Aa (Wq 2 2 [(.str "plate",(.tuple [(.int 1),(.int 12)])),(.str "band",(.tuple [(.int (-12)),(.int 12)])),(.str "window",(.tuple [(.int 1),(.int 16)])),(.str "tiles",(.tuple [(.int 1),(.int 3)]))]) (Aa (BA (CH (AQ (ND true (AF 0) 2)) (AQ (dOp fNe (A1 Bz (AA (AF 1) AI)) (dC (.int 4))))) (An (dC (.bool false))) BO) (Aa (Ah (RI 2 (AF 0)) (dGT (BH (dN 3) (BH (dN 4) Cu)))) (Aa (BA (CH (BP (AQ (AU A2 (AA (dOp Am (AF 1) (dC (.int 0))) (AA (AF 3) (AA (AF 4) AI)))))) (BP (AQ (AU A2 (AA (dOp Am (AF 1) (dC (.int 1))) (AA (AF 3) (AA (AF 4) AI))))))) (An (dC (.bool false))) BO) (Aa (BA (CH (AQ (dOp fEq (AF 0) (dC (.str "plate")))) (AQ (dOp fEq (AF 0) (dC (.str "band"))))) (An (AU B4 (AA (AF 1) (AA (dC (.int 4)) AI)))) BO) (Aa (Ah (PZ [(.str "window",(.int 60)),(.str "tiles",(.int 20))] (AF 0)) (dN 5)) (An (Co (AU A2 (AA (dOp Am (AF 1) (dC (.int 2))) (AA (dUn E2 (AF 5)) (AA (AF 5) AI)))) (AU A2 (AA (dOp Am (AF 1) (dC (.int 3))) (AA (dUn E2 (AF 5)) (AA (AF 5) AI)))))))))))))))))
def DY:List L->Option (PyData×List L):=Bo false 1 1 (Aa (Ah (dC (.str "abcdefghijklmnopqrstuvwxyz0123456789")) (dN 1)) (Aa (BA (CH (BP (AQ (AU EK (AA (dOp Am (AF 0) (dC (.int 0))) (AA (AF 1) (AA (dC (.int 1)) (AA (dC (.int 8)) AI))))))) (BP (AQ (AU EK (AA (dOp Am (AF 0) (dC (.int 1))) (AA (AF 1) (AA (dC (.int 0)) (AA (dC (.int 8)) AI)))))))) (An (dC (.bool false))) BO) (Aa (BA (CH (BP (AQ (AU A2 (AA (dOp Am (AF 0) (dC (.int 2))) (AA (dUn E2 (dC (.int 60))) (AA (dC (.int 60)) AI)))))) (CH (BP (AQ (AU A2 (AA (dOp Am (AF 0) (dC (.int 3))) (AA (dUn E2 (dC (.int 60))) (AA (dC (.int 60)) AI)))))) (BP (AQ (FN "bool" (dOp Am (AF 0) (dC (.int 4)))))))) (An (dC (.bool false))) BO) (An (AU EV (AA (dOp Am (AF 0) (dC (.int 5))) (AA (dOp Am (AF 0) (dC (.int 6))) AI)))))))
def CA:List L->Option (PyData×List L):=Bo false 4 0 (Aa (BA (CH (BP (AQ (FN "str" (AF 0)))) (BP (AQ (Cf fLe fLe (AF 2) (A1 Bz (AA (AF 0) AI)) (AF 3))))) (An (dC (.bool false))) BO) (An (A1 N7 (AA (dLC 1 [1] (dIS (AF 0)) (dN 0) GL (dOp U8 (AF 0) (AF 1))) AI))))
def EJ:List L->Option (PyData×List L):=Bo false 1 0 (An (AU CA (AA (AF 0) (AA (dC (.str "abcdefghijklmnopqrstuvwxyz0123456789")) (AA (dC (.int 1)) (AA (dC (.int 8)) AI))))))
def HY:List L->Option (PyData×List L):=Bo false 1 0 (An (FN "bool" (AF 0)))
def Fm:List L->Option (PyData×List L):=Bo false 1 0 (An (Co (FN "int" (AF 0)) (MD (FN "bool" (AF 0)))))
def BV:List L->Option (PyData×List L):=Bo false 3 0 (An (Co (AU Fm (AA (AF 0) AI)) (Cf fLe fLe (AF 1) (AF 0) (AF 2))))
def C1:List L->Option (PyData×List L):=Bo false 2 3 (Aa (Ah (A1 NB (AA (AF 0) AI)) (dN 2)) (Aa (Ah (A1 NB (AA (AF 1) AI)) (dN 3)) (Aa (O4 (ey 3) (AQ (dOp fNe (AF 3) (dC (.int 0)))) (Aa (Ah (dOp Bm (AF 2) (AF 3)) (dN 4)) (Aa (Ah (AF 3) (dN 2)) (Ah (AF 4) (dN 3))))) (An (AF 2)))))
def FD:List L->Option (PyData×List L):=Bo false 1 2 (Aa (BA (CH (BP (AQ (FN "tuple" (AF 0)))) (AQ (dOp fNe (A1 Bz (AA (AF 0) AI)) (dC (.int 2))))) (An (dC (.bool false))) BO) (Aa (Ah (dOp Am (AF 0) (dC (.int 0))) (dN 1)) (Aa (Ah (dOp Am (AF 0) (dC (.int 1))) (dN 2)) (Aa (BA (CH (BP (AQ (AU Fm (AA (AF 1) AI)))) (BP (AQ (AU Fm (AA (AF 2) AI))))) (An (dC (.bool false))) BO) (An (Co (dOp fGe (AF 2) (dC (.int 1))) (Co (Cf fLe fLe (dC (.int 0)) (AF 1) (AF 2)) (dOp fEq (AU C1 (AA (AF 1) (AA (AF 2) AI))) (dC (.int 1))))))))))
def Br:List L->Option (PyData×List L):=Bo false 1 0 (An (Co (AU FD (AA (AF 0) AI)) (dOp fLe (dOp Am (AF 0) (dC (.int 1))) (dC (.int 1000)))))
def CU:List L->Option (PyData×List L):=Bo false 2 0 (An (Co (AU Br (AA (AF 0) AI)) (AU Br (AA (AF 1) AI))))
def Eh:List L->Option (PyData×List L):=Bo false 1 0 (Aa (BA (CH (AQ (dOp fNe (A1 Bz (AA (AF 0) AI)) (dC (.int 4)))) (BP (AQ (AU CU (AA (dOp Am (AF 0) (dC (.int 2))) (AA (dOp Am (AF 0) (dC (.int 3))) AI)))))) (An (dC (.bool false))) BO) (An (Co (AU BV (AA (dOp Am (AF 0) (dC (.int 0))) (AA (dC (.int 1)) (AA (dC (.int 12)) AI)))) (AU BV (AA (dOp Am (AF 0) (dC (.int 1))) (AA (dC (.int 1)) (AA (dC (.int 12)) AI)))))))
def FU:List L->Option (PyData×List L):=Bo false 1 0 (Aa (BA (CH (AQ (dOp fNe (A1 Bz (AA (AF 0) AI)) (dC (.int 4)))) (BP (AQ (AU CU (AA (dOp Am (AF 0) (dC (.int 2))) (AA (dOp Am (AF 0) (dC (.int 3))) AI)))))) (An (dC (.bool false))) BO) (An (Co (AU BV (AA (dOp Am (AF 0) (dC (.int 0))) (AA (dUn E2 (dC (.int 12))) (AA (dC (.int 12)) AI)))) (AU BV (AA (dOp Am (AF 0) (dC (.int 1))) (AA (dUn E2 (dC (.int 12))) (AA (dC (.int 12)) AI)))))))
def EI:List L->Option (PyData×List L):=Bo false 1 0 (An (dG Hs (AF 0)))
def DK:List L->Option (PyData×List L):=Bo false 1 0 (Aa (BA (CH (BP (AQ (FN "str" (AF 0)))) (AQ (dOp fGt (A1 Bz (AA (AF 0) AI)) (dC (.int 6))))) (An (dC (.bool false))) BO) (An (A1 N7 (AA (dLC 1 [] (dIS (AF 0)) (dN 0) GL (AU EI (AA (AF 0) AI))) AI))))
def FR:List L->Option (PyData×List L):=Bo false 1 0 (An (Co (dOp fEq (A1 Bz (AA (AF 0) AI)) (dC (.int 3))) (Co (AU DK (AA (dOp Am (AF 0) (dC (.int 0))) AI)) (AU CU (AA (dOp Am (AF 0) (dC (.int 1))) (AA (dOp Am (AF 0) (dC (.int 2))) AI))))))
def CL:List L->Option (PyData×List L):=Bo false 1 0 (Aa (BA (CH (BP (AQ (FN "tuple" (AF 0)))) (BP (AQ (Cf fLe fLe (dC (.int 1)) (A1 Bz (AA (AF 0) AI)) (dC (.int 8)))))) (An (dC (.bool false))) BO) (Aa (BA (BP (AQ (A1 N7 (AA (dLC 1 [] (dIT (AF 0)) (dN 0) GL (AU CA (AA (AF 0) (AA (dC (.str "#.")) (AA (dC (.int 1)) (AA (dC (.int 8)) AI)))))) AI)))) (An (dC (.bool false))) BO) (An (A1 N7 (AA (dLC 1 [0] (dIT (AF 0)) (dN 0) GL (dOp fEq (A1 Bz (AA (AF 0) AI)) (A1 Bz (AA (dOp Am (AF 1) (dC (.int 0))) AI)))) AI)))))
def DC:List L->Option (PyData×List L):=Bo false 1 0 (An (Co (dOp fEq (A1 Bz (AA (AF 0) AI)) (dC (.int 3))) (Co (AU CL (AA (dOp Am (AF 0) (dC (.int 0))) AI)) (AU CU (AA (dOp Am (AF 0) (dC (.int 1))) (AA (dOp Am (AF 0) (dC (.int 2))) AI))))))
def D0:List L->Option (PyData×List L):=Bo false 1 0 (An (dOp fEq (A1 Bz (AA (AF 0) AI)) (dC (.int 0))))
def Ei:List L->Option (PyData×List L):=Bo false 1 0 (An (Co (dOp fEq (A1 Bz (AA (AF 0) AI)) (dC (.int 1))) (AU Br (AA (dOp Am (AF 0) (dC (.int 0))) AI))))
def CT:List L->Option (PyData×List L):=Bo false 1 0 (An (AU BV (AA (AF 0) (AA (dUn E2 (dC (.int 60))) (AA (dC (.int 60)) AI)))))
def Dh:List L->Option (PyData×List L):=Bo false 1 0 (Aa (BA (CH (AQ (dOp fNe (A1 Bz (AA (AF 0) AI)) (dC (.int 4)))) (CH (BP (AQ (AU CT (AA (dOp Am (AF 0) (dC (.int 2))) AI)))) (BP (AQ (AU CT (AA (dOp Am (AF 0) (dC (.int 3))) AI)))))) (An (dC (.bool false))) BO) (An (Co (AU BV (AA (dOp Am (AF 0) (dC (.int 0))) (AA (dC (.int 1)) (AA (dC (.int 16)) AI)))) (AU BV (AA (dOp Am (AF 0) (dC (.int 1))) (AA (dC (.int 1)) (AA (dC (.int 16)) AI)))))))
def FT:List L->Option (PyData×List L):=Bo false 1 0 (An (Co (dOp fEq (A1 Bz (AA (AF 0) AI)) (dC (.int 2))) (Co (AU BV (AA (dOp Am (AF 0) (dC (.int 0))) (AA (dC (.int 0)) (AA (dC (.int 3)) AI)))) (AU HY (AA (dOp Am (AF 0) (dC (.int 1))) AI)))))
def Di:List L->Option (PyData×List L):=Bo false 1 0 (Aa (BA (CH (AQ (dOp fNe (A1 Bz (AA (AF 0) AI)) (dC (.int 4)))) (CH (BP (AQ (AU BV (AA (dOp Am (AF 0) (dC (.int 0))) (AA (dC (.int 1)) (AA (dC (.int 3)) AI)))))) (BP (AQ (AU BV (AA (dOp Am (AF 0) (dC (.int 1))) (AA (dC (.int 1)) (AA (dC (.int 3)) AI)))))))) (An (dC (.bool false))) BO) (An (Co (AU BV (AA (dOp Am (AF 0) (dC (.int 2))) (AA (dUn E2 (dC (.int 20))) (AA (dC (.int 20)) AI)))) (AU BV (AA (dOp Am (AF 0) (dC (.int 3))) (AA (dUn E2 (dC (.int 20))) (AA (dC (.int 20)) AI)))))))
def C0:List (Str×Mir):=[("plate",Eh),("band",FU),("word",FR),("stencil",DC),("group",D0),("glass",Ei),("window",Dh),("turn",FT),("tiles",Di),("mask",D0)]
def Es:List L->Option (PyData×List L):=Bo false 2 0 (An (Co (FN "str" (AF 0)) (Co (Xw C0 (AF 0)) (Co (FN "tuple" (AF 1)) (O5 C0 (AF 0) (AA (AF 1) AI))))))
def HX:List L->Option (PyData×List L):=Bo false 1 0 (An (dOp Am (AF 0) (dC (.int 0))))
def C9:List L->Option (PyData×List L):=Bo false 1 0 (An (dOp Am (AF 0) (dC (.int 1))))
def Hu:List L->Option (PyData×List L):=Bo false 1 0 (An (dOp Am (AF 0) (dC (.int 4))))
def Iw:List L->Option (PyData×List L):=Bo false 1 0 (An (dOp Am (AF 0) (dC (.int 5))))
def Iy:List L->Option (PyData×List L):=Bo false 1 0 (An (dOp Am (AF 0) (dC (.int 6))))
def L4:List L->Option (PyData×List L):=Bo false 1 0 (An (dOp Am (AF 0) (dC (.int 2))))
def L3:List L->Option (PyData×List L):=Bo false 1 0 (An (dOp Am (AF 0) (dC (.int 3))))
def Hv:List L->Option (PyData×List L):=Bo false 1 0 (Aa (BA (CH (BP (AQ (FN "tuple" (AF 0)))) (AQ (dOp fNe (A1 Bz (AA (AF 0) AI)) (dC (.int 7))))) (An (dC (.bool false))) BO) (Aa (BA (BP (AQ (AU EJ (AA (AU HX (AA (AF 0) AI)) AI)))) (An (dC (.bool false))) BO) (Aa (BA (C7 (AQ (dOp fNe (AU C9 (AA (AF 0) AI)) (dC (.str "")))) (BP (AQ (AU EJ (AA (AU C9 (AA (AF 0) AI)) AI))))) (An (dC (.bool false))) BO) (Aa (BA (CH (BP (AQ (AU CT (AA (AU L4 (AA (AF 0) AI)) AI)))) (BP (AQ (AU CT (AA (AU L3 (AA (AF 0) AI)) AI))))) (An (dC (.bool false))) BO) (An (Co (AU HY (AA (AU Hu (AA (AF 0) AI)) AI)) (AU Es (AA (AU Iw (AA (AF 0) AI)) (AA (AU Iy (AA (AF 0) AI)) AI)))))))))
def CZ:List L->Option (PyData×List L):=Bo false 1 1 (Aa (Ah (AU Hv (AA (AF 0) AI)) (dN 1)) (An (Co (FN "bool" (AF 1)) (dOp fEq (AF 1) (AU DY (AA (AF 0) AI))))))
def Qk:List L->Option (PyData×List L):=Bo false 1 4 (Aa (II (dR3 (AA (dC (.int 0)) (AA (A1 JG (AA (dC (.int 4)) (AA (A1 JF (AA (dC (.int 40)) (AA (CY 0) AI))) AI))) (AA (dC (.int 2)) AI)))) (dN 1) (Aa (Ah (AU FF (AA (Gi AI) (AA (Bl 0 Fz (AA (AF 1) AI)) AI))) (dGT (BH (dN 2) (BH (dN 3) Cu)))) (Aa (Ah (Bl 0 Fz (AA (dOp CG (AF 1) (dC (.int 1))) AI)) (dN 3)) (Aa (Ah (AU C2 (AA (AF 2) (AA (AF 3) AI))) (dN 4)) (Aa (BA (AQ (dOp fEq (dOp Bm (AF 3) (dC (.int 2))) (dC (.int 1)))) (Ah (AU C2 (AA (AF 4) (AA (dOp B7 (AF 3) (dC (.int 50000))) AI))) (dN 4)) BO) (BA (CH (BP (AQ (AU DY (AA (AF 2) AI)))) (CH (BP (AQ (AU CZ (AA (AF 2) AI)))) (CH (BP (AQ (AU CZ (AA (AF 4) AI)))) (BP (AQ (AU CZ (AA (AF 2) AI))))))) (An (dC (.bool false))) BO)))))) (An (dC (.bool true))))
theorem Cn{k:Nat}{A:Around}(hr:Room k A):A.units+64<cLine:=hr.units
theorem gM{k:Nat}{A:Around}(hr:Room k A):A.units+65<cLine:=by have:=hr.un;omega
section
variable {P:Program} {w:World} {K:PySem.W.Frag} {mg:Str->Option Value} {base:Heap} {f:Addr} {fd:FuncData}
theorem UJ(F:Fun K "_law_name_of" "_law_name_of" CW f fd)(z_range:mg "range"=none):FnOk P w K mg base CX0 1 f fd ["_law_big_here"] (spD ⟨K,w⟩ Gm false):=by
 have nd:=sc_L_name_of.nd
 refine F.ok sc_L_name_of (fun vs H Q E h=>Ba Ak h) (fun cdv A outer s H vs Q E hr h=>?_)
 exact⟨_,(@AO _ _ _ _ _ (@BC _ _ 1 _ _ _ _ nd rfl Jf Ao ⋯ ⋯) (@AO _ _ _ _ _ (@BC _ _ 2 _ _ _ _ nd rfl MV (@Af _ _ _ _ _ _ _ _ Fj AH (@Af _ _ _ _ _ _ _ _ Bp (pv 0 rfl GV AJ AK) AH)) ⋯ ⋯) (@AO _ _ _ _ _ (@BC _ _ 0 _ _ _ _ nd rfl Jg (@Af _ _ _ _ _ _ _ _ A8 (pv 0 rfl GV AJ AK) AH) ⋯ ⋯) (@AO _ _ _ _ _ (@LO _ _ _ _ _ _ _ _ PassesOwn.never rfl (@Jw _ _ _ _ _ _ N4 z_range (@AB _ _ _ _ _ (pv 2 rfl Rh Mi Mm) AN ⋯) ⋯) (@BK _ _ 3 _ nd rfl R8 ⋯) (@AO _ _ _ _ _ (@BC _ _ 1 _ _ _ _ nd rfl Jf (@Af _ _ _ _ _ _ _ _ Mw (pv 1 rfl MI Ej Ek) (@BL _ _ _ _ _ _ _ Xf Ao (@Af _ _ _ _ _ _ _ _ Bp (pv 0 rfl GV AJ AK) AH) (fun _ _=>rfl))) ⋯ ⋯) (@AV _ _ _ (@BC _ _ 0 _ _ _ _ nd rfl Jg (@Af _ _ _ _ _ _ _ _ A8 (pv 0 rfl GV AJ AK) AH) ⋯ ⋯))) ⋯) (@AV _ _ _ (@Ae _ _ _ _ (@BJ _ _ _ _ _ (@AB _ _ _ _ _ (pv 1 rfl MI Ej Ek) (@AB _ _ _ _ _ (pv 0 rfl GV AJ AK) AN ⋯) ⋯)))))))),BZ (N:=["_law_big_here","_law_name","_law_size","_law_k"]) (np:=1) (nl:=3) (Ac (BX Be AZ) (Ac (BX (AY Ht AM (AY CC AL AM)) AZ) (Ac (BX (AY CQ AL AM) AZ) (Ac (Pa (J7 (AE AL AS)) AZ (Ac (BX (AY XZ AL (AY aq Be (AY CC AL AM))) AZ) (BX (AY CQ AL AM) AZ))) (Aw (Bs (AE AL (AE AL AS))) (by decide)))))) rfl h⟩
theorem UH(F:Fun K "_law_step_of" "_law_step_of" E6 f fd):FnOk P w K mg base CX0 1 f fd ["_law_big_here"] (spD ⟨K,w⟩ Cj false):=by
 have nd:=sc_L_step_of.nd
 refine F.ok sc_L_step_of (fun vs H Q E h=>Ba Ak h) (fun cdv A outer s H vs Q E hr h=>?_)
 exact⟨_,(@AO _ _ _ _ _ (@B6 _ _ _ _ _ _ _ _ (@Az _ _ _ _ _ _ _ _ (@Bq _ (Cn hr)) (@Af _ _ _ _ _ _ _ _ Bp (pv 0 rfl GS AJ AK) AH) AH (A0 _)) (@AV _ _ _ (@Ae _ _ _ _ (@BJ _ _ _ _ _ (@AB _ _ _ _ _ (@Af _ _ _ _ _ _ _ _ OS (@Af _ _ _ _ _ _ _ _ Bp (@Af _ _ _ _ _ _ _ _ A8 (pv 0 rfl GS AJ AK) AH) AH) AH) (@AB _ _ _ _ _ (@Af _ _ _ _ _ _ _ _ A8 (pv 0 rfl GS AJ AK) AH) AN ⋯) ⋯)))) A9) (@AV _ _ _ (@Ae _ _ _ _ (@BJ _ _ _ _ _ (@AB _ _ _ _ _ (@Af _ _ _ _ _ _ _ _ OS (@Af _ _ _ _ _ _ _ _ Bp (@Af _ _ _ _ _ _ _ _ A8 (pv 0 rfl GS AJ AK) AH) AH) AH) (@AB _ _ _ _ _ (@Af _ _ _ _ _ _ _ _ A8 (pv 0 rfl GS AJ AK) AH) AN ⋯) ⋯))))),BZ (N:=["_law_big_here"]) (np:=1) (nl:=0) (Ac (C3 (A7 (AY Ds (AY CC AL AM) AM)) (Aw (Bs (AE (AY Sz (AY CC (AY CQ AL AM) AM) AM) (AE (AY CQ AL AM) AS))) (by decide)) B8) (Aw (Bs (AE (AY Sz (AY CC (AY CQ AL AM) AM) AM) (AE (AY CQ AL AM) AS))) (by decide))) rfl h⟩
theorem cR(F:Fun K "_law_up" "_law_up" GI f fd):FnOk P w K mg base CX0 1 f fd ["_law_rows","_law_name"] (spD ⟨K,w⟩ Jk true):=by
 have nd:=sc_L_up.nd
 refine F.ok sc_L_up (fun vs H Q E h=>Ba Ak h) (fun cdv A outer s H vs Q E hr h=>?_)
 exact⟨_,(@AO _ _ _ _ _ (@BC _ _ 2 _ _ _ _ nd rfl WG (@IF _ _ _ _ AN) ⋯ ⋯) (@AO _ _ _ _ _ (@BC _ _ 3 _ _ _ _ nd rfl WE cJ ⋯ ⋯) (@AO _ _ _ _ _ (@LO _ _ _ _ _ _ _ _ PassesOwn.never rfl (@T6 _ _ _ _ (pv 0 rfl Z1 Dm Dq)) (@BK _ _ 4 _ nd rfl WD ⋯) (@AV _ _ _ (@Eg _ _ _ _ _ _ (pv 4 rfl VW A5 A6) (@T7 _ _ _ _ _ _ _ (pv 3 rfl QH Hg Hj) (@BL _ _ _ _ _ _ _ Ay (pv 4 rfl VW A5 A6) AH (fun _ _=>rfl)) iE ⋯) ⋯ ⋯ ⋯)) ⋯) (@AO _ _ _ _ _ (@QU _ _ _ _ _ _ PassesOwn.never (@PW.pt _ _ _ (@Mu _ _ _ _ _ _ _ (@Az _ _ _ _ _ _ _ _ (@HU _ (Cn hr)) (pv 1 rfl NJ Ej Ek) Ao (A0 _)) (@Kj _ _ _ _ (@Az _ _ _ _ _ _ _ _ fY (pv 1 rfl NJ Ej Ek) (pv 3 rfl QH Hg Hj) (by with_unfolding_all rfl))))) (@AO _ _ _ _ _ (@NT _ _ _ _ (@Vj _ _ _ _ _ _ _ _ _ _ _ _ PySem.F.plainAttrs_list PySem.F.slot_list_append PySem.F.type_list_append L1 (pv 2 rfl VX He Hi) (@AB _ _ _ _ _ (pv 1 rfl NJ Ej Ek) AN ⋯) ⋯ ⋯ ⋯ ⋯ ⋯) ⋯) (@AV _ _ _ (@BC _ _ 1 _ _ _ _ nd rfl WH (@BL _ _ _ _ _ _ _ Ay (@BL _ _ _ _ _ _ _ gD (pv 3 rfl QH Hg Hj) (pv 1 rfl NJ Ej Ek) (fun _ _=>rfl)) AH (fun _ _=>rfl)) ⋯ ⋯)))) (@AV _ _ _ (@Ae _ _ _ _ (pv 2 rfl VX He Hi))))))),BZ (N:=["_law_rows","_law_name","_law_up_here","_law_by_name","_law_row"]) (np:=2) (nl:=3) (Ac fD (Ac gj (Ac (Pa (Ux AL) AZ (gh (i:=3) AL (AY Bc AL AM))) (Ac (VO (QM (A7 (AY OT AL Be)) (A7 (e9 (i:=3) AL))) (Ac (RV (bX (i:=2) Ql (AE AL AS))) (BX (AY Bc (e8 (i:=3) AL) AM) AZ))) (gg (i:=2)))))) rfl h⟩
theorem ai(F:Fun K "_law_low" "_law_low" EO f fd)(z_abs:mg "abs"=none):FnOk P w K mg base CX0 1 f fd ["_law_top","_law_bottom"] (spD ⟨K,w⟩ HB false):=by
 have nd:=sc_L_low.nd
 refine F.ok sc_L_low (fun vs H Q E h=>Ba Ak h) (fun cdv A outer s H vs Q E hr h=>?_)
 exact⟨_,(@AO _ _ _ _ _ (@aO _ _ 2 3 _ _ _ _ _ _ _ _ _ _ _ rfl nd rfl rfl (by decide) TL TJ (@AB _ _ _ _ _ (@Ab _ _ _ _ _ _ _ _ _ RS Wa z_abs PyProof.Rows.boot_abs (@AB _ _ _ _ _ (pv 0 rfl Si OA OF) AN ⋯) UQ VF ⋯ ⋯) (@AB _ _ _ _ _ (pv 1 rfl Sh FK FO) AN ⋯) ⋯) (by kernel_rfl) ⋯) (@AO _ _ _ _ _ (@QU _ _ _ _ _ _ PassesOwn.never (@Az _ _ _ _ _ _ _ _ Vm (pv 3 rfl OM JK JR) AH (A0 _)) (@AV _ _ _ (@aO _ _ 2 3 _ _ _ _ _ _ _ _ _ _ _ rfl nd rfl rfl (by decide) TL TJ (@AB _ _ _ _ _ (pv 3 rfl OM JK JR) (@AB _ _ _ _ _ (@Af _ _ _ _ _ _ _ _ Bp (pv 2 rfl ON Ie Ii) (pv 3 rfl OM JK JR)) AN ⋯) ⋯) (by kernel_rfl) ⋯))) (@AV _ _ _ (@Ae _ _ _ _ (@BJ _ _ _ _ _ (@AB _ _ _ _ _ (@Af _ _ _ _ _ _ _ _ A8 (pv 0 rfl Si OA OF) (pv 2 rfl ON Ie Ii)) (@AB _ _ _ _ _ (@Af _ _ _ _ _ _ _ _ A8 (pv 1 rfl Sh FK FO) (pv 2 rfl ON Ie Ii)) AN ⋯) ⋯)))))),BZ (N:=["_law_top","_law_bottom","_law_one","_law_other"]) (np:=2) (nl:=2) (Ac (fB (i:=2) (j:=3) (AE (CD bj (AE AL AS)) (AE AL AS))) (Ac (VO (A7 (AY av AL AM)) (fB (i:=2) (j:=3) (AE AL (AE (AY CC AL AL) AS)))) (Aw (Bs (AE (AY CQ AL AL) (AE (AY CQ AL AL) AS))) (by decide)))) rfl h⟩
theorem Rp(F:Fun K "_law_share_of" "_law_share_of" Cr f fd)(c88:Cal P w K mg base 1 "_law_low" ["_law_top","_law_bottom"] (spD ⟨K,w⟩ HB false)):FnOk P w K mg base CX0 2 f fd ["_law_big_here"] (spD ⟨K,w⟩ FE false):=by
 have nd:=sc_L_share_of.nd
 refine F.ok sc_L_share_of (fun vs H Q E h=>Ba Ak h) (fun cdv A outer s H vs Q E hr h=>?_)
 exact⟨_,(@AO _ _ _ _ _ (@BC _ _ 1 _ _ _ _ nd rfl HA (@BL _ _ _ _ _ _ _ Ay (@BJ _ _ _ _ _ (@AB _ _ _ _ _ AH (@AB _ _ _ _ _ AH (@AB _ _ _ _ _ AH (@AB _ _ _ _ _ AH AN ⋯) ⋯) ⋯) ⋯)) (@Af _ _ _ _ _ _ _ _ Bp (pv 0 rfl DE AJ AK) AH) (fun _ _=>rfl)) ⋯ ⋯) (@AO _ _ _ _ _ (@B6 _ _ _ _ _ _ _ _ (@Az _ _ _ _ _ _ _ _ (@Bq _ (Cn hr)) (@Af _ _ _ _ _ _ _ _ Bp (@Af _ _ _ _ _ _ _ _ A8 (pv 0 rfl DE AJ AK) AH) AH) AH (A0 _)) (@AV _ _ _ (@BC _ _ 1 _ _ _ _ nd rfl HA (@Af _ _ _ _ _ _ _ _ Fj AH (@Af _ _ _ _ _ _ _ _ Bp (@Af _ _ _ _ _ _ _ _ A8 (pv 0 rfl DE AJ AK) AH) AH)) ⋯ ⋯)) A9) (@AO _ _ _ _ _ (@B6 _ _ _ _ _ _ _ _ (@Az _ _ _ _ _ _ _ _ (@Bq _ (Cn hr)) (@Af _ _ _ _ _ _ _ _ Bp (@Af _ _ _ _ _ _ _ _ A8 (pv 0 rfl DE AJ AK) AH) AH) AH (A0 _)) (@AV _ _ _ (@BC _ _ 1 _ _ _ _ nd rfl HA (@Af _ _ _ _ _ _ _ _ Fj AH (@Af _ _ _ _ _ _ _ _ Bp (@Af _ _ _ _ _ _ _ _ A8 (pv 0 rfl DE AJ AK) AH) AH)) ⋯ ⋯)) A9) (@AO _ _ _ _ _ (@BC _ _ 0 _ _ _ _ nd rfl LY (@Af _ _ _ _ _ _ _ _ A8 (pv 0 rfl DE AJ AK) AH) ⋯ ⋯) (@AV _ _ _ (@Ae _ _ _ _ (@BJ _ _ _ _ _ (@AB _ _ _ _ _ (@AW _ _ _ _ _ _ _ _ _ _ c88 hr LF (@AB _ _ _ _ _ (@Af _ _ _ _ _ _ _ _ Bp (pv 0 rfl DE AJ AK) (@Af _ _ _ _ _ _ _ _ Fj (pv 1 rfl Ip FK FO) AH)) (@AB _ _ _ _ _ (pv 1 rfl Ip FK FO) AN ⋯) ⋯) OC ⋯ ⋯) (@AB _ _ _ _ _ (@Af _ _ _ _ _ _ _ _ A8 (pv 0 rfl DE AJ AK) (@Af _ _ _ _ _ _ _ _ Fj (pv 1 rfl Ip FK FO) AH)) AN ⋯) ⋯)))))))),BZ (N:=["_law_big_here","_law_bottom"]) (np:=1) (nl:=1) (Ac (BX (AY Bc (Bs (AE AM (AE AM (AE AM (AE AM AS))))) (AY CC AL AM)) AZ) (Ac (C3 (A7 (AY Ds (AY CC (AY CQ AL AM) AM) AM)) (BX (AY Ht AM (AY CC (AY CQ AL AM) AM)) AZ) B8) (Ac (C3 (A7 (AY Ds (AY CC (AY CQ AL AM) AM) AM)) (BX (AY Ht AM (AY CC (AY CQ AL AM) AM)) AZ) B8) (Ac (BX (AY CQ AL AM) AZ) (Aw (Bs (AE (Ad (AE (AY CC AL (AY Ht AL AM)) (AE AL AS))) (AE (AY CQ AL (AY Ht AL AM)) AS))) (by decide)))))) rfl h⟩
theorem Rq(F:Fun K "_law_paint_of" "_law_paint_of" CN f fd)(c66:Cal P w K mg base 2 "_law_share_of" ["_law_big_here"] (spD ⟨K,w⟩ FE false)):FnOk P w K mg base CX0 3 f fd ["_law_big_here"] (spD ⟨K,w⟩ EU false):=by
 have nd:=sc_L_paint_of.nd
 refine F.ok sc_L_paint_of (fun vs H Q E h=>Ba Ak h) (fun cdv A outer s H vs Q E hr h=>?_)
 exact⟨_,(@AO _ _ _ _ _ (@Eg _ _ _ _ _ _ (@AW _ _ _ _ _ _ _ _ _ _ c66 hr Fp (@AB _ _ _ _ _ (pv 0 rfl Fe AJ AK) AN ⋯) Jb ⋯ ⋯) (@Fi _ _ _ _ _ _ rfl (@Bj _ _ _ _ _ (@BK _ _ 1 _ nd rfl La ⋯) (@Bj _ _ _ _ _ (@BK _ _ 0 _ nd rfl Iv ⋯) ET ⋯) ⋯) ⋯ ⋯) ⋯ ⋯ ⋯) (@AO _ _ _ _ _ (@B6 _ _ _ _ _ _ _ _ (@Az _ _ _ _ _ _ _ _ (@Bq _ (Cn hr)) (@Af _ _ _ _ _ _ _ _ Bp (pv 0 rfl Fe AJ AK) AH) AH (A0 _)) (@AV _ _ _ (@Ae _ _ _ _ (@BJ _ _ _ _ _ (@AB _ _ _ _ _ (pv 1 rfl LL Ew Ez) (@AB _ _ _ _ _ (@BJ _ _ _ _ _ (@AB _ _ _ _ _ AH (@AB _ _ _ _ _ AH AN ⋯) ⋯)) (@AB _ _ _ _ _ (@Af _ _ _ _ _ _ _ _ A8 (pv 0 rfl Fe AJ AK) AH) AN ⋯) ⋯) ⋯)))) A9) (@AO _ _ _ _ _ (@Eg _ _ _ _ _ _ (@AW _ _ _ _ _ _ _ _ _ _ c66 hr Fp (@AB _ _ _ _ _ (@Af _ _ _ _ _ _ _ _ A8 (pv 0 rfl Fe AJ AK) AH) AN ⋯) Jb ⋯ ⋯) (@Fi _ _ _ _ _ _ rfl (@Bj _ _ _ _ _ (@BK _ _ 2 _ nd rfl LZ ⋯) (@Bj _ _ _ _ _ (@BK _ _ 0 _ nd rfl Iv ⋯) ET ⋯) ⋯) ⋯ ⋯) ⋯ ⋯ ⋯) (@AV _ _ _ (@Ae _ _ _ _ (@BJ _ _ _ _ _ (@AB _ _ _ _ _ (pv 1 rfl LL Ew Ez) (@AB _ _ _ _ _ (pv 2 rfl QI Eu Ey) (@AB _ _ _ _ _ (pv 0 rfl Fe AJ AK) AN ⋯) ⋯) ⋯))))))),BZ (N:=["_law_big_here","_law_shade","_law_share"]) (np:=1) (nl:=2) (Ac (BX (Ad (AE AL AS)) (Hw (B3 AZ (B3 AZ Fo)) (Bk (Bk EX)))) (Ac (C3 (A7 (AY Ds (AY CC AL AM) AM)) (Aw (Bs (AE AL (AE (Bs (AE AM (AE AM AS))) (AE (AY CQ AL AM) AS)))) (by decide)) B8) (Ac (BX (Ad (AE (AY CQ AL AM) AS)) (Hw (B3 AZ (B3 AZ Fo)) (Bk (Bk EX)))) (Aw (Bs (AE AL (AE AL (AE AL AS)))) (by decide))))) rfl h⟩
theorem Pe(F:Fun K "_law_stencil_of" "_law_stencil_of" BN f fd)(z_range:mg "range"=none)(z_tuple:mg "tuple"=none):FnOk P w K mg base CX0 1 f fd ["_law_big_here"] (spD ⟨K,w⟩ Et false):=by
 have nd:=sc_L_stencil_of.nd
 refine F.ok sc_L_stencil_of (fun vs H Q E h=>Ba Ak h) (fun cdv A outer s H vs Q E hr h=>?_)
 exact⟨_,(@AO _ _ _ _ _ (@BC _ _ 1 _ _ _ _ nd rfl J4 (@Af _ _ _ _ _ _ _ _ Fj AH (@Af _ _ _ _ _ _ _ _ Bp (pv 0 rfl Dr AJ AK) AH)) ⋯ ⋯) (@AO _ _ _ _ _ (@BC _ _ 2 _ _ _ _ nd rfl J3 (@Af _ _ _ _ _ _ _ _ Fj AH (@Af _ _ _ _ _ _ _ _ Bp (@Af _ _ _ _ _ _ _ _ A8 (pv 0 rfl Dr AJ AK) AH) AH)) ⋯ ⋯) (@AO _ _ _ _ _ (@BC _ _ 0 _ _ _ _ nd rfl HW (@Af _ _ _ _ _ _ _ _ A8 (pv 0 rfl Dr AJ AK) AH) ⋯ ⋯) (@AO _ _ _ _ _ (@BC _ _ 3 _ _ _ _ nd rfl J0 (@IF _ _ _ _ AN) ⋯ ⋯) (@AO _ _ _ _ _ (@LO _ _ _ _ _ _ _ _ PassesOwn.never rfl (@Jw _ _ _ _ _ _ IC z_range (@AB _ _ _ _ _ (pv 2 rfl OK SW Sd) AN ⋯) ⋯) (@BK _ _ 4 _ nd rfl OY ⋯) (@AO _ _ _ _ _ (@BC _ _ 5 _ _ _ _ nd rfl HV Ao ⋯ ⋯) (@AO _ _ _ _ _ (@LO _ _ _ _ _ _ _ _ PassesOwn.never rfl (@Jw _ _ _ _ _ _ IC z_range (@AB _ _ _ _ _ (pv 1 rfl OL SU SY) AN ⋯) ⋯) (@BK _ _ 6 _ nd rfl OX ⋯) (@AO _ _ _ _ _ (@BC _ _ 5 _ _ _ _ nd rfl HV (@Af _ _ _ _ _ _ _ _ Mw (pv 5 rfl Js A5 A6) (@BL _ _ _ _ _ _ _ Xf Ao (@Af _ _ _ _ _ _ _ _ Bp (pv 0 rfl Dr AJ AK) AH) (fun _ _=>rfl))) ⋯ ⋯) (@AV _ _ _ (@BC _ _ 0 _ _ _ _ nd rfl HW (@Af _ _ _ _ _ _ _ _ A8 (pv 0 rfl Dr AJ AK) AH) ⋯ ⋯))) ⋯) (@AV _ _ _ (@NT _ _ _ _ (@Vj _ _ _ _ _ _ _ _ _ _ _ _ PySem.F.plainAttrs_list PySem.F.slot_list_append PySem.F.type_list_append L1 (pv 3 rfl Jt Dm Dq) (@AB _ _ _ _ _ (pv 5 rfl Js A5 A6) AN ⋯) ⋯ ⋯ ⋯ ⋯ ⋯) ⋯)))) ⋯) (@AV _ _ _ (@Ae _ _ _ _ (@BJ _ _ _ _ _ (@AB _ _ _ _ _ (@Jx _ _ _ _ _ _ _ _ _ Jr Lh z_tuple PySem.Pv.boot_tuple (@AB _ _ _ _ _ (pv 3 rfl Jt Dm Dq) AN ⋯) FQ FV ⋯ ⋯) (@AB _ _ _ _ _ (pv 0 rfl Dr AJ AK) AN ⋯) ⋯))))))))),BZ (N:=["_law_big_here","_law_wide","_law_high","_law_rows","_law_j","_law_row","_law_i"]) (np:=1) (nl:=6) (Ac (BX (AY Ht AM (AY CC AL AM)) AZ) (Ac (BX (AY Ht AM (AY CC (AY CQ AL AM) AM)) AZ) (Ac (BX (AY CQ AL AM) AZ) (Ac fD (Ac (Pa (J7 (AE AL AS)) AZ (Ac (BX Be AZ) (Ac (Pa (J7 (AE AL AS)) AZ (Ac (BX (AY XZ AL (AY aq Be (AY CC AL AM))) AZ) (BX (AY CQ AL AM) AZ))) (RV (bX (i:=3) Ql (AE AL AS)))))) (Aw (PV (i:=3) (Bs (AE (CD VL (AE AL AS)) (AE AL AS)))) (by decide))))))) rfl h⟩
theorem UI(F:Fun K "_law_size_of" "_law_size_of" Dg f fd):FnOk P w K mg base CX0 1 f fd ["_law_big_here","_law_most"] (spD ⟨K,w⟩ Dj false):=by
 have nd:=sc_L_size_of.nd
 refine F.ok sc_L_size_of (fun vs H Q E h=>Ba Ak h) (fun cdv A outer s H vs Q E hr h=>?_)
 exact⟨_,(@AO _ _ _ _ _ (@B6 _ _ _ _ _ _ _ _ (@Az _ _ _ _ _ _ _ _ (@Bq _ (Cn hr)) (@Af _ _ _ _ _ _ _ _ Bp (pv 0 rfl GU AJ AK) AH) AH (A0 _)) (@AV _ _ _ (@Ae _ _ _ _ (@BJ _ _ _ _ _ (@AB _ _ _ _ _ (@Af _ _ _ _ _ _ _ _ Fj AH (@Af _ _ _ _ _ _ _ _ Bp (@Af _ _ _ _ _ _ _ _ A8 (pv 0 rfl GU AJ AK) AH) (pv 1 rfl MH FX FZ))) (@AB _ _ _ _ _ (@Af _ _ _ _ _ _ _ _ A8 (@Af _ _ _ _ _ _ _ _ A8 (pv 0 rfl GU AJ AK) AH) (pv 1 rfl MH FX FZ)) AN ⋯) ⋯)))) A9) (@AV _ _ _ (@Ae _ _ _ _ (@BJ _ _ _ _ _ (@AB _ _ _ _ _ (@Af _ _ _ _ _ _ _ _ Fj AH (@Af _ _ _ _ _ _ _ _ Bp (@Af _ _ _ _ _ _ _ _ A8 (pv 0 rfl GU AJ AK) AH) AH)) (@AB _ _ _ _ _ (@Af _ _ _ _ _ _ _ _ A8 (pv 0 rfl GU AJ AK) AH) AN ⋯) ⋯))))),BZ (N:=["_law_big_here","_law_most"]) (np:=2) (nl:=0) (Ac (C3 (A7 (AY Ds (AY CC AL AM) AM)) (Aw (Bs (AE (AY Ht AM (AY CC (AY CQ AL AM) AL)) (AE (AY CQ (AY CQ AL AM) AL) AS))) (by decide)) B8) (Aw (Bs (AE (AY Ht AM (AY CC (AY CQ AL AM) AM)) (AE (AY CQ AL AM) AS))) (by decide))) rfl h⟩
theorem UG(F:Fun K "_law_word_of" "_law_word_of" CV f fd)(z_range:mg "range"=none):FnOk P w K mg base CX0 1 f fd ["_law_big_here"] (spD ⟨K,w⟩ Gk false):=by
 have nd:=sc_L_word_of.nd
 refine F.ok sc_L_word_of (fun vs H Q E h=>Ba Ak h) (fun cdv A outer s H vs Q E hr h=>?_)
 exact⟨_,(@AO _ _ _ _ _ (@BC _ _ 1 _ _ _ _ nd rfl Jd Ao ⋯ ⋯) (@AO _ _ _ _ _ (@BC _ _ 2 _ _ _ _ nd rfl MS (@Af _ _ _ _ _ _ _ _ Bp (pv 0 rfl GQ AJ AK) AH) ⋯ ⋯) (@AO _ _ _ _ _ (@BC _ _ 0 _ _ _ _ nd rfl Je (@Af _ _ _ _ _ _ _ _ A8 (pv 0 rfl GQ AJ AK) AH) ⋯ ⋯) (@AO _ _ _ _ _ (@LO _ _ _ _ _ _ _ _ PassesOwn.never rfl (@Jw _ _ _ _ _ _ N3 z_range (@AB _ _ _ _ _ (pv 2 rfl Rb Mi Mm) AN ⋯) ⋯) (@BK _ _ 3 _ nd rfl R4 ⋯) (@AO _ _ _ _ _ (@BC _ _ 1 _ _ _ _ nd rfl Jd (@Af _ _ _ _ _ _ _ _ Mw (pv 1 rfl MG Jp Jq) (@BL _ _ _ _ _ _ _ Xf Ao (@Af _ _ _ _ _ _ _ _ Bp (pv 0 rfl GQ AJ AK) AH) (fun _ _=>rfl))) ⋯ ⋯) (@AV _ _ _ (@BC _ _ 0 _ _ _ _ nd rfl Je (@Af _ _ _ _ _ _ _ _ A8 (pv 0 rfl GQ AJ AK) AH) ⋯ ⋯))) ⋯) (@AV _ _ _ (@Ae _ _ _ _ (@BJ _ _ _ _ _ (@AB _ _ _ _ _ (pv 1 rfl MG Jp Jq) (@AB _ _ _ _ _ (pv 0 rfl GQ AJ AK) AN ⋯) ⋯)))))))),BZ (N:=["_law_big_here","_law_text","_law_size","_law_k"]) (np:=1) (nl:=3) (Ac (BX Be AZ) (Ac (BX (AY CC AL AM) AZ) (Ac (BX (AY CQ AL AM) AZ) (Ac (Pa (J7 (AE AL AS)) AZ (Ac (BX (AY XZ AL (AY aq Be (AY CC AL AM))) AZ) (BX (AY CQ AL AM) AZ))) (Aw (Bs (AE AL (AE AL AS))) (by decide)))))) rfl h⟩
theorem UM(F:Fun K "_law_data_of" "_law_data_of" Au f fd)(c08:Cal P w K mg base 3 "_law_size_of" ["_law_big_here","_law_most"] (spD ⟨K,w⟩ Dj false))(c05:Cal P w K mg base 3 "_law_step_of" ["_law_big_here"] (spD ⟨K,w⟩ Cj false))(c98:Cal P w K mg base 3 "_law_paint_of" ["_law_big_here"] (spD ⟨K,w⟩ EU false))(d05:Cal P w K mg base 3 "_law_word_of" ["_law_big_here"] (spD ⟨K,w⟩ Gk false))(c89:Cal P w K mg base 3 "_law_stencil_of" ["_law_big_here"] (spD ⟨K,w⟩ Et false)):FnOk P w K mg base CX0 4 f fd ["_law_kind","_law_big_here"] (spD ⟨K,w⟩ B2 false):=by
 have nd:=sc_L_data_of.nd
 refine F.ok sc_L_data_of (fun vs H Q E h=>Ba Ak h) (fun cdv A outer s H vs Q E hr h=>?_)
 exact⟨_,(@AO _ _ _ _ _ (@B6 _ _ _ _ _ _ _ _ (@Az _ _ _ _ _ _ _ _ (@XN _ (gM hr)) (pv 0 rfl De A3 A4) (@BJ _ _ _ _ _ (@AB _ _ _ _ _ Ao (@AB _ _ _ _ _ Ao AN ⋯) ⋯)) (by with_unfolding_all rfl)) (@AV _ _ _ (@Ae _ _ _ _ (@BJ _ _ _ _ _ (@AB _ _ _ _ _ (@BJ _ _ _ _ _ AN) (@AB _ _ _ _ _ (pv 1 rfl As AJ AK) AN ⋯) ⋯)))) A9) (@AO _ _ _ _ _ (@B6 _ _ _ _ _ _ _ _ (@Az _ _ _ _ _ _ _ _ (@Bq _ (Cn hr)) (pv 0 rfl De A3 A4) Ao (A0 _)) (@AV _ _ _ (@Ae _ _ _ _ (@BJ _ _ _ _ _ (@AB _ _ _ _ _ (@BJ _ _ _ _ _ (@AB _ _ _ _ _ (@Af _ _ _ _ _ _ _ _ Bp (pv 1 rfl As AJ AK) AH) (@AB _ _ _ _ _ (@Cs _ _ _ _ _ _ _ _ (@Bq _ (Cn hr)) (@Af _ _ _ _ _ _ _ _ Bp (@Af _ _ _ _ _ _ _ _ A8 (pv 1 rfl As AJ AK) AH) AH) AH (A0 _)) AN ⋯) ⋯)) (@AB _ _ _ _ _ (@Af _ _ _ _ _ _ _ _ A8 (pv 1 rfl As AJ AK) AH) AN ⋯) ⋯)))) A9) (@AO _ _ _ _ _ (@B6 _ _ _ _ _ _ _ _ (@Az _ _ _ _ _ _ _ _ (@Bq _ (Cn hr)) (pv 0 rfl De A3 A4) Ao (A0 _)) (@AO _ _ _ _ _ (@BC _ _ 2 _ _ _ _ nd rfl Jj (@BJ _ _ _ _ _ (@AB _ _ _ _ _ (@Af _ _ _ _ _ _ _ _ Fj AH (@Af _ _ _ _ _ _ _ _ Bp (pv 1 rfl As AJ AK) AH)) (@AB _ _ _ _ _ (@Af _ _ _ _ _ _ _ _ Fj AH (@Af _ _ _ _ _ _ _ _ Bp (@Af _ _ _ _ _ _ _ _ A8 (pv 1 rfl As AJ AK) AH) AH)) (@AB _ _ _ _ _ (@Af _ _ _ _ _ _ _ _ OS (@Af _ _ _ _ _ _ _ _ Bp (@Af _ _ _ _ _ _ _ _ A8 (pv 1 rfl As AJ AK) AH) AH) AH) (@AB _ _ _ _ _ (@Af _ _ _ _ _ _ _ _ OS (@Af _ _ _ _ _ _ _ _ Bp (@Af _ _ _ _ _ _ _ _ A8 (pv 1 rfl As AJ AK) AH) AH) AH) AN ⋯) ⋯) ⋯) ⋯)) ⋯ ⋯) (@AO _ _ _ _ _ (@B6 _ _ _ _ _ _ _ _ (@Az _ _ _ _ _ _ _ _ Vm (@Af _ _ _ _ _ _ _ _ Bp (@Af _ _ _ _ _ _ _ _ A8 (pv 1 rfl As AJ AK) AH) AH) AH (A0 _)) (@AV _ _ _ (@BC _ _ 2 _ _ _ _ nd rfl Jj (@Af _ _ _ _ _ _ _ _ YN (@Vh _ _ _ _ _ _ _ _ _ _ aB (pv 2 rfl Hn Ai Aj) YM (@YL _ _ _ AH)) (@BJ _ _ _ _ _ (@AB _ _ _ _ _ (@Af _ _ _ _ _ _ _ _ Bp (@BL _ _ _ _ _ _ _ Ay (pv 2 rfl Hn Ai Aj) AH (fun _ _=>rfl)) AH) (@AB _ _ _ _ _ (@Af _ _ _ _ _ _ _ _ Bp (@BL _ _ _ _ _ _ _ Ay (pv 2 rfl Hn Ai Aj) AH (fun _ _=>rfl)) AH) AN ⋯) ⋯))) ⋯ ⋯)) A9) (@AV _ _ _ (@Ae _ _ _ _ (@BJ _ _ _ _ _ (@AB _ _ _ _ _ (pv 2 rfl Hn Ai Aj) (@AB _ _ _ _ _ (@Af _ _ _ _ _ _ _ _ A8 (pv 1 rfl As AJ AK) AH) AN ⋯) ⋯)))))) A9) (@AO _ _ _ _ _ (@B6 _ _ _ _ _ _ _ _ (@Az _ _ _ _ _ _ _ _ (@Bq _ (Cn hr)) (pv 0 rfl De A3 A4) Ao (A0 _)) (@AO _ _ _ _ _ (@Eg _ _ _ _ _ _ (@AW _ _ _ _ _ _ _ _ _ _ c08 hr DD (@AB _ _ _ _ _ (pv 1 rfl As AJ AK) (@AB _ _ _ _ _ AH AN ⋯) ⋯) GC ⋯ ⋯) (@Fi _ _ _ _ _ _ rfl (@Bj _ _ _ _ _ (@BK _ _ 3 _ nd rfl Ji ⋯) (@Bj _ _ _ _ _ (@BK _ _ 1 _ nd rfl Cp ⋯) ET ⋯) ⋯) ⋯ ⋯) ⋯ ⋯ ⋯) (@AO _ _ _ _ _ (@Eg _ _ _ _ _ _ (@AW _ _ _ _ _ _ _ _ _ _ c08 hr DD (@AB _ _ _ _ _ (pv 1 rfl As AJ AK) (@AB _ _ _ _ _ AH AN ⋯) ⋯) GC ⋯ ⋯) (@Fi _ _ _ _ _ _ rfl (@Bj _ _ _ _ _ (@BK _ _ 4 _ nd rfl Jh ⋯) (@Bj _ _ _ _ _ (@BK _ _ 1 _ nd rfl Cp ⋯) ET ⋯) ⋯) ⋯ ⋯) ⋯ ⋯ ⋯) (@AO _ _ _ _ _ (@Eg _ _ _ _ _ _ (@AW _ _ _ _ _ _ _ _ _ _ c05 hr Ga (@AB _ _ _ _ _ (pv 1 rfl As AJ AK) AN ⋯) GB ⋯ ⋯) (@Fi _ _ _ _ _ _ rfl (@Bj _ _ _ _ _ (@BK _ _ 5 _ nd rfl Mf ⋯) (@Bj _ _ _ _ _ (@BK _ _ 1 _ nd rfl Cp ⋯) ET ⋯) ⋯) ⋯ ⋯) ⋯ ⋯ ⋯) (@AO _ _ _ _ _ (@Eg _ _ _ _ _ _ (@AW _ _ _ _ _ _ _ _ _ _ c05 hr Ga (@AB _ _ _ _ _ (pv 1 rfl As AJ AK) AN ⋯) GB ⋯ ⋯) (@Fi _ _ _ _ _ _ rfl (@Bj _ _ _ _ _ (@BK _ _ 6 _ nd rfl Me ⋯) (@Bj _ _ _ _ _ (@BK _ _ 1 _ nd rfl Cp ⋯) ET ⋯) ⋯) ⋯ ⋯) ⋯ ⋯ ⋯) (@AV _ _ _ (@Ae _ _ _ _ (@BJ _ _ _ _ _ (@AB _ _ _ _ _ (@BJ _ _ _ _ _ (@AB _ _ _ _ _ (pv 3 rfl MN RA RN) (@AB _ _ _ _ _ (pv 4 rfl MM RD RQ) (@AB _ _ _ _ _ (pv 5 rfl Rk Wn Wx) (@AB _ _ _ _ _ (pv 6 rfl Rj Wm Ww) AN ⋯) ⋯) ⋯) ⋯)) (@AB _ _ _ _ _ (pv 1 rfl As AJ AK) AN ⋯) ⋯)))))))) A9) (@AO _ _ _ _ _ (@Eg _ _ _ _ _ _ (@AW _ _ _ _ _ _ _ _ _ _ c98 hr JV (@AB _ _ _ _ _ (pv 1 rfl As AJ AK) AN ⋯) OB ⋯ ⋯) (@Fi _ _ _ _ _ _ rfl (@Bj _ _ _ _ _ (@BK _ _ 7 _ nd rfl Md ⋯) (@Bj _ _ _ _ _ (@BK _ _ 8 _ nd rfl Mc ⋯) (@Bj _ _ _ _ _ (@BK _ _ 1 _ nd rfl Cp ⋯) ET ⋯) ⋯) ⋯) ⋯ ⋯) ⋯ ⋯ ⋯) (@AO _ _ _ _ _ (@B6 _ _ _ _ _ _ _ _ (@Az _ _ _ _ _ _ _ _ (@Bq _ (Cn hr)) (pv 0 rfl De A3 A4) Ao (A0 _)) (@AV _ _ _ (@Ae _ _ _ _ (@BJ _ _ _ _ _ (@AB _ _ _ _ _ (@BJ _ _ _ _ _ (@AB _ _ _ _ _ (pv 8 rfl GW Eu Ey) AN ⋯)) (@AB _ _ _ _ _ (pv 1 rfl As AJ AK) AN ⋯) ⋯)))) A9) (@AO _ _ _ _ _ (@B6 _ _ _ _ _ _ _ _ (@Az _ _ _ _ _ _ _ _ (@Bq _ (Cn hr)) (pv 0 rfl De A3 A4) Ao (A0 _)) (@AO _ _ _ _ _ (@Eg _ _ _ _ _ _ (@AW _ _ _ _ _ _ _ _ _ _ c08 hr DD (@AB _ _ _ _ _ (pv 1 rfl As AJ AK) (@AB _ _ _ _ _ AH AN ⋯) ⋯) GC ⋯ ⋯) (@Fi _ _ _ _ _ _ rfl (@Bj _ _ _ _ _ (@BK _ _ 3 _ nd rfl Ji ⋯) (@Bj _ _ _ _ _ (@BK _ _ 1 _ nd rfl Cp ⋯) ET ⋯) ⋯) ⋯ ⋯) ⋯ ⋯ ⋯) (@AO _ _ _ _ _ (@Eg _ _ _ _ _ _ (@AW _ _ _ _ _ _ _ _ _ _ c08 hr DD (@AB _ _ _ _ _ (pv 1 rfl As AJ AK) (@AB _ _ _ _ _ AH AN ⋯) ⋯) GC ⋯ ⋯) (@Fi _ _ _ _ _ _ rfl (@Bj _ _ _ _ _ (@BK _ _ 4 _ nd rfl Jh ⋯) (@Bj _ _ _ _ _ (@BK _ _ 1 _ nd rfl Cp ⋯) ET ⋯) ⋯) ⋯ ⋯) ⋯ ⋯ ⋯) (@AV _ _ _ (@Ae _ _ _ _ (@BJ _ _ _ _ _ (@AB _ _ _ _ _ (@BJ _ _ _ _ _ (@AB _ _ _ _ _ (pv 3 rfl MN RA RN) (@AB _ _ _ _ _ (pv 4 rfl MM RD RQ) (@AB _ _ _ _ _ (pv 7 rfl Hm Ew Ez) (@AB _ _ _ _ _ (pv 8 rfl GW Eu Ey) AN ⋯) ⋯) ⋯) ⋯)) (@AB _ _ _ _ _ (pv 1 rfl As AJ AK) AN ⋯) ⋯)))))) A9) (@AO _ _ _ _ _ (@B6 _ _ _ _ _ _ _ _ (@Az _ _ _ _ _ _ _ _ (@Bq _ (Cn hr)) (pv 0 rfl De A3 A4) Ao (A0 _)) (@AV _ _ _ (@Ae _ _ _ _ (@BJ _ _ _ _ _ (@AB _ _ _ _ _ (@BJ _ _ _ _ _ (@AB _ _ _ _ _ (@Af _ _ _ _ _ _ _ _ OS (@Af _ _ _ _ _ _ _ _ Bp (pv 1 rfl As AJ AK) AH) AH) (@AB _ _ _ _ _ (@Af _ _ _ _ _ _ _ _ OS (@Af _ _ _ _ _ _ _ _ Bp (@Af _ _ _ _ _ _ _ _ A8 (pv 1 rfl As AJ AK) AH) AH) AH) (@AB _ _ _ _ _ (pv 7 rfl Hm Ew Ez) (@AB _ _ _ _ _ (pv 8 rfl GW Eu Ey) AN ⋯) ⋯) ⋯) ⋯)) (@AB _ _ _ _ _ (@Af _ _ _ _ _ _ _ _ A8 (pv 1 rfl As AJ AK) AH) AN ⋯) ⋯)))) A9) (@AO _ _ _ _ _ (@B6 _ _ _ _ _ _ _ _ (@Az _ _ _ _ _ _ _ _ (@Bq _ (Cn hr)) (pv 0 rfl De A3 A4) Ao (A0 _)) (@AO _ _ _ _ _ (@Eg _ _ _ _ _ _ (@AW _ _ _ _ _ _ _ _ _ _ d05 hr Jn (@AB _ _ _ _ _ (pv 1 rfl As AJ AK) AN ⋯) Oz ⋯ ⋯) (@Fi _ _ _ _ _ _ rfl (@Bj _ _ _ _ _ (@BK _ _ 9 _ nd rfl Mb ⋯) (@Bj _ _ _ _ _ (@BK _ _ 1 _ nd rfl Cp ⋯) ET ⋯) ⋯) ⋯ ⋯) ⋯ ⋯ ⋯) (@AV _ _ _ (@Ae _ _ _ _ (@BJ _ _ _ _ _ (@AB _ _ _ _ _ (@BJ _ _ _ _ _ (@AB _ _ _ _ _ (pv 9 rfl Ri Jp Jq) (@AB _ _ _ _ _ (pv 7 rfl Hm Ew Ez) (@AB _ _ _ _ _ (pv 8 rfl GW Eu Ey) AN ⋯) ⋯) ⋯)) (@AB _ _ _ _ _ (pv 1 rfl As AJ AK) AN ⋯) ⋯))))) A9) (@AO _ _ _ _ _ (@Eg _ _ _ _ _ _ (@AW _ _ _ _ _ _ _ _ _ _ c89 hr IY (@AB _ _ _ _ _ (pv 1 rfl As AJ AK) AN ⋯) MC ⋯ ⋯) (@Fi _ _ _ _ _ _ rfl (@Bj _ _ _ _ _ (@BK _ _ 10 _ nd rfl Lb ⋯) (@Bj _ _ _ _ _ (@BK _ _ 1 _ nd rfl Cp ⋯) ET ⋯) ⋯) ⋯ ⋯) ⋯ ⋯ ⋯) (@AV _ _ _ (@Ae _ _ _ _ (@BJ _ _ _ _ _ (@AB _ _ _ _ _ (@BJ _ _ _ _ _ (@AB _ _ _ _ _ (pv 10 rfl QK Dm Dq) (@AB _ _ _ _ _ (pv 7 rfl Hm Ew Ez) (@AB _ _ _ _ _ (pv 8 rfl GW Eu Ey) AN ⋯) ⋯) ⋯)) (@AB _ _ _ _ _ (pv 1 rfl As AJ AK) AN ⋯) ⋯)))))))))))))),BZ (N:=["_law_kind","_law_big_here","_law_data","_law_w","_law_h","_law_sx","_law_sy","_law_shade","_law_share","_law_text","_law_rows"]) (np:=2) (nl:=9) (Ac (C3 (A7 (AY fi AL (Bs (AE Be (AE Be AS))))) (Aw (Bs (AE (Bs AS) (AE AL AS))) (by decide)) B8) (Ac (C3 (A7 (AY Ds AL Be)) (Aw (Bs (AE (Bs (AE (AY CC AL AM) (AE (AY Ds (AY CC (AY CQ AL AM) AM) AM) AS))) (AE (AY CQ AL AM) AS))) (by decide)) B8) (Ac (C3 (A7 (AY Ds AL Be)) (Ac (BX (Bs (AE (AY Ht AM (AY CC AL AM)) (AE (AY Ht AM (AY CC (AY CQ AL AM) AM)) (AE (AY Sz (AY CC (AY CQ AL AM) AM) AM) (AE (AY Sz (AY CC (AY CQ AL AM) AM) AM) AS))))) AZ) (Ac (C3 (A7 (AY av (AY CC (AY CQ AL AM) AM) AM)) (BX (AY aw (e6 AL eN (iS AM)) (Bs (AE (AY CC (AY Bc AL AM) AM) (AE (AY CC (AY Bc AL AM) AM) AS)))) AZ) B8) (Aw (Bs (AE AL (AE (AY CQ AL AM) AS))) (by decide)))) B8) (Ac (C3 (A7 (AY Ds AL Be)) (Ac (BX (Ad (AE AL (AE AM AS))) (Hw (B3 AZ (B3 AZ Fo)) (Bk (Bk EX)))) (Ac (BX (Ad (AE AL (AE AM AS))) (Hw (B3 AZ (B3 AZ Fo)) (Bk (Bk EX)))) (Ac (BX (Ad (AE AL AS)) (Hw (B3 AZ (B3 AZ Fo)) (Bk (Bk EX)))) (Ac (BX (Ad (AE AL AS)) (Hw (B3 AZ (B3 AZ Fo)) (Bk (Bk EX)))) (Aw (Bs (AE (Bs (AE AL (AE AL (AE AL (AE AL AS))))) (AE AL AS))) (by decide)))))) B8) (Ac (BX (Ad (AE AL AS)) (Hw (B3 AZ (B3 AZ (B3 AZ Fo))) (Bk (Bk (Bk EX))))) (Ac (C3 (A7 (AY Ds AL Be)) (Aw (Bs (AE (Bs (AE AL AS)) (AE AL AS))) (by decide)) B8) (Ac (C3 (A7 (AY Ds AL Be)) (Ac (BX (Ad (AE AL (AE AM AS))) (Hw (B3 AZ (B3 AZ Fo)) (Bk (Bk EX)))) (Ac (BX (Ad (AE AL (AE AM AS))) (Hw (B3 AZ (B3 AZ Fo)) (Bk (Bk EX)))) (Aw (Bs (AE (Bs (AE AL (AE AL (AE AL (AE AL AS))))) (AE AL AS))) (by decide)))) B8) (Ac (C3 (A7 (AY Ds AL Be)) (Aw (Bs (AE (Bs (AE (AY Sz (AY CC AL AM) AM) (AE (AY Sz (AY CC (AY CQ AL AM) AM) AM) (AE AL (AE AL AS))))) (AE (AY CQ AL AM) AS))) (by decide)) B8) (Ac (C3 (A7 (AY Ds AL Be)) (Ac (BX (Ad (AE AL AS)) (Hw (B3 AZ (B3 AZ Fo)) (Bk (Bk EX)))) (Aw (Bs (AE (Bs (AE AL (AE AL (AE AL AS)))) (AE AL AS))) (by decide))) B8) (Ac (BX (Ad (AE AL AS)) (Hw (B3 AZ (B3 AZ Fo)) (Bk (Bk EX)))) (Aw (Bs (AE (Bs (AE AL (AE AL (AE AL AS)))) (AE AL AS))) (by decide)))))))))))) rfl h⟩
theorem XX(F:Fun K "_law_kinds" "_law_kinds" Gj f fd):FnOk P w K mg base CX0 1 f fd [] (spD ⟨K,w⟩ Fw false):=by
 have nd:=sc_L_kinds.nd
 refine F.ok sc_L_kinds (fun vs H Q E h=>Ba Ak h) (fun cdv A outer s H vs Q E hr h=>?_)
 exact⟨_,(@AO _ _ _ _ _ (@BC _ _ 0 _ _ _ _ nd rfl PM (@BJ _ _ _ _ _ (@AB _ _ _ _ _ Ao (@AB _ _ _ _ _ Ao (@AB _ _ _ _ _ Ao (@AB _ _ _ _ _ Ao (@AB _ _ _ _ _ Ao (@AB _ _ _ _ _ Ao AN ⋯) ⋯) ⋯) ⋯) ⋯) ⋯)) ⋯ ⋯) (@AV _ _ _ (@Ae _ _ _ _ (@Af _ _ _ _ _ _ _ _ YN (pv 0 rfl VY Pw Px) (@BJ _ _ _ _ _ (@AB _ _ _ _ _ Ao (@AB _ _ _ _ _ Ao (@AB _ _ _ _ _ Ao (@AB _ _ _ _ _ Ao (@AB _ _ _ _ _ Ao (@AB _ _ _ _ _ Ao AN ⋯) ⋯) ⋯) ⋯) ⋯) ⋯)))))),BZ (N:=["_law_leaves"]) (np:=0) (nl:=1) (Ac (BX (Bs (AE Be (AE Be (AE Be (AE Be (AE Be (AE Be AS))))))) AZ) (Aw (AY aw AL (Bs (AE Be (AE Be (AE Be (AE Be (AE Be (AE Be AS)))))))) (by decide))) rfl h⟩
theorem V0(F:Fun K "_law_row_of" "_law_row_of" Ax f fd)(d06:Cal P w K mg base 4 "_law_name_of" ["_law_big_here"] (spD ⟨K,w⟩ Gm false))(d77:Cal P w K mg base 4 "_law_up" ["_law_rows","_law_name"] (spD ⟨K,w⟩ Jk true))(c93:Cal P w K mg base 4 "_law_kinds" [] (spD ⟨K,w⟩ Fw false))(c05:Cal P w K mg base 4 "_law_step_of" ["_law_big_here"] (spD ⟨K,w⟩ Cj false))(d07:Cal P w K mg base 4 "_law_data_of" ["_law_kind","_law_big_here"] (spD ⟨K,w⟩ B2 false))(z_len:mg "len"=none):FnOk P w K mg base CX0 5 f fd ["_law_rows","_law_big_here"] (spD ⟨K,w⟩ FF false):=by
 have nd:=sc_L_row_of.nd
 refine F.ok sc_L_row_of (fun vs H Q E h=>Ba Ak h) (fun cdv A outer s H vs Q E hr h=>?_)
 exact⟨_,(@AO _ _ _ _ _ (@Eg _ _ _ _ _ _ (@AW _ _ _ _ _ _ _ _ _ _ d06 hr KL (@AB _ _ _ _ _ (pv 1 rfl C8 AJ AK) AN ⋯) O0 ⋯ ⋯) (@Fi _ _ _ _ _ _ rfl (@Bj _ _ _ _ _ (@BK _ _ 2 _ nd rfl Nl ⋯) (@Bj _ _ _ _ _ (@BK _ _ 1 _ nd rfl Fv ⋯) ET ⋯) ⋯) ⋯ ⋯) ⋯ ⋯ ⋯) (@AO _ _ _ _ _ (@BC _ _ 3 _ _ _ _ nd rfl Nk (@IF _ _ _ _ (@AB _ _ _ _ _ Ao AN ⋯)) ⋯ ⋯) (@AO _ _ _ _ _ (@LO _ _ _ _ _ _ _ _ PassesOwn.never rfl (@T6 _ _ _ _ (pv 0 rfl IV Dm Dq)) (@BK _ _ 4 _ nd rfl Nj ⋯) (@AV _ _ _ (@B6 _ _ _ _ _ _ _ _ (@PW.pt _ _ _ (@Mu _ _ _ _ _ _ _ (@Az _ _ _ _ _ _ _ _ (@XN _ (gM hr)) (@BL _ _ _ _ _ _ _ Ay (pv 4 rfl Kb A5 A6) AH (fun _ _=>rfl)) (@Vh _ _ _ _ _ _ _ _ _ _ aB (@Sy _ _ _ _ _ _ _ c93 hr HQ Ls) (@YL _ _ _ AH) YM) (by with_unfolding_all rfl)) (@Kj _ _ _ _ (@Az _ _ _ _ _ _ _ _ Vl (@Ab _ _ _ _ _ _ _ _ _ Bh HE z_len PySem.boot_len (@AB _ _ _ _ _ (@AW _ _ _ _ _ _ _ _ _ _ d77 hr JD (@AB _ _ _ _ _ (pv 0 rfl IV Dm Dq) (@AB _ _ _ _ _ (@BL _ _ _ _ _ _ _ Ay (pv 4 rfl Kb A5 A6) AH (fun _ _=>rfl)) AN ⋯) ⋯) PY ⋯ ⋯) AN ⋯) Bv By ⋯ ⋯) AH (A0 _))))) (@AV _ _ _ (@NT _ _ _ _ (@Vj _ _ _ _ _ _ _ _ _ _ _ _ PySem.F.plainAttrs_list PySem.F.slot_list_append PySem.F.type_list_append L1 (pv 3 rfl Ft Du Dv) (@AB _ _ _ _ _ (@BL _ _ _ _ _ _ _ Ay (pv 4 rfl Kb A5 A6) AH (fun _ _=>rfl)) AN ⋯) ⋯ ⋯ ⋯ ⋯ ⋯) ⋯)) A9)) ⋯) (@AO _ _ _ _ _ (@BC _ _ 5 _ _ _ _ nd rfl Kl (@BL _ _ _ _ _ _ _ P8 (pv 3 rfl Ft Du Dv) (@Af _ _ _ _ _ _ _ _ Bp (pv 1 rfl C8 AJ AK) (@Ab _ _ _ _ _ _ _ _ _ Bh HE z_len PySem.boot_len (@AB _ _ _ _ _ (pv 3 rfl Ft Du Dv) AN ⋯) Bv By ⋯ ⋯)) (fun _ _=>rfl)) ⋯ ⋯) (@AO _ _ _ _ _ (@B6 _ _ _ _ _ _ _ _ (@Az _ _ _ _ _ _ _ _ (@Bq _ (Cn hr)) (@Af _ _ _ _ _ _ _ _ Bp (@Af _ _ _ _ _ _ _ _ A8 (pv 1 rfl C8 AJ AK) (@Ab _ _ _ _ _ _ _ _ _ Bh HE z_len PySem.boot_len (@AB _ _ _ _ _ (pv 3 rfl Ft Du Dv) AN ⋯) Bv By ⋯ ⋯)) AH) AH (A0 _)) (@AV _ _ _ (@BC _ _ 5 _ _ _ _ nd rfl Kl (@BL _ _ _ _ _ _ _ P8 (pv 3 rfl Ft Du Dv) (@GY _ _ _ _ _ _ Ed AH) (fun _ _=>rfl)) ⋯ ⋯)) A9) (@AO _ _ _ _ _ (@BC _ _ 1 _ _ _ _ nd rfl Fv (@Af _ _ _ _ _ _ _ _ A8 (@Af _ _ _ _ _ _ _ _ A8 (pv 1 rfl C8 AJ AK) (@Ab _ _ _ _ _ _ _ _ _ Bh HE z_len PySem.boot_len (@AB _ _ _ _ _ (pv 3 rfl Ft Du Dv) AN ⋯) Bv By ⋯ ⋯)) AH) ⋯ ⋯) (@AO _ _ _ _ _ (@Eg _ _ _ _ _ _ (@AW _ _ _ _ _ _ _ _ _ _ c05 hr Gn (@AB _ _ _ _ _ (pv 1 rfl C8 AJ AK) AN ⋯) GB ⋯ ⋯) (@Fi _ _ _ _ _ _ rfl (@Bj _ _ _ _ _ (@BK _ _ 6 _ nd rfl Ni ⋯) (@Bj _ _ _ _ _ (@BK _ _ 1 _ nd rfl Fv ⋯) ET ⋯) ⋯) ⋯ ⋯) ⋯ ⋯ ⋯) (@AO _ _ _ _ _ (@Eg _ _ _ _ _ _ (@AW _ _ _ _ _ _ _ _ _ _ c05 hr Gn (@AB _ _ _ _ _ (pv 1 rfl C8 AJ AK) AN ⋯) GB ⋯ ⋯) (@Fi _ _ _ _ _ _ rfl (@Bj _ _ _ _ _ (@BK _ _ 7 _ nd rfl Nh ⋯) (@Bj _ _ _ _ _ (@BK _ _ 1 _ nd rfl Fv ⋯) ET ⋯) ⋯) ⋯ ⋯) ⋯ ⋯ ⋯) (@AO _ _ _ _ _ (@BC _ _ 8 _ _ _ _ nd rfl Kk (@BL _ _ _ _ _ _ _ Ay (@Sy _ _ _ _ _ _ _ c93 hr HQ Ls) (@Af _ _ _ _ _ _ _ _ Bp (pv 1 rfl C8 AJ AK) AH) (fun _ _=>rfl)) ⋯ ⋯) (@AO _ _ _ _ _ (@BC _ _ 9 _ _ _ _ nd rfl Uo (@AW _ _ _ _ _ _ _ _ _ _ d77 hr JD (@AB _ _ _ _ _ (pv 0 rfl IV Dm Dq) (@AB _ _ _ _ _ (pv 5 rfl NM K4 K6) AN ⋯) ⋯) PY ⋯ ⋯) ⋯ ⋯) (@AO _ _ _ _ _ (@B6 _ _ _ _ _ _ _ _ (@PW.pt _ _ _ (@Mu _ _ _ _ _ _ _ (@Az _ _ _ _ _ _ _ _ (@Bq _ (Cn hr)) (pv 8 rfl Ka A3 A4) Ao (A0 _)) (@Kj _ _ _ _ (@Az _ _ _ _ _ _ _ _ (@HU _ (Cn hr)) (@Sx _ ["_law_row","_law_up_here"] 1 [9] _ _ _ _ _ _ _ _ _ _ rfl (@Qo _ ["_law_row","_law_up_here"] 1 [9] _ ["_law_rows","_law_big_here","_law_name","_law_holders","_law_row","_law_holder","_law_x","_law_y","_law_kind","_law_up_here","_law_shown","_law_data"] (AD Ax) rfl rfl ∅) (@T6 _ _ _ _ (pv 0 rfl IV Dm Dq)) (fun cl fp s3 H3=>(@BK _ _ 0 _ UO rfl (HZ ∅) (Or.inr (G9 ∅)))) (fun cl fp s3 H3=>(@T5 _ _ _ (@PW.pt _ _ _ (@Mu _ _ _ _ _ _ _ (@Az _ _ _ _ _ _ _ _ (@XN _ (gM hr)) (@BL _ _ _ _ _ _ _ Ay (pv 0 rfl (Em ∅) A5 A6) AH (fun _ _=>rfl)) (pv 1 rfl (NG ∅) He Hi) (by with_unfolding_all rfl)) (@Kj _ _ _ _ (@Az _ _ _ _ _ _ _ _ (@Bq _ (Cn hr)) (@BL _ _ _ _ _ _ _ Ay (pv 0 rfl (Em ∅) A5 A6) AH (fun _ _=>rfl)) Ao (A0 _))))))) (fun cl fp s3 H3=>(pv 0 rfl (Em ∅) A5 A6)) ⋯) (@IF _ _ _ _ AN) (A0 _))))) (@AV _ _ _ (@BC _ _ 8 _ _ _ _ nd rfl Kk Ao ⋯ ⋯)) A9) (@AO _ _ _ _ _ (@BC _ _ 10 _ _ _ _ nd rfl MU (@Cs _ _ _ _ _ _ _ _ Vm (@Af _ _ _ _ _ _ _ _ Bp (@Af _ _ _ _ _ _ _ _ A8 (pv 1 rfl C8 AJ AK) AH) AH) AH (A0 _)) ⋯ ⋯) (@AO _ _ _ _ _ (@Eg _ _ _ _ _ _ (@AW _ _ _ _ _ _ _ _ _ _ d07 hr KN (@AB _ _ _ _ _ (pv 8 rfl Ka A3 A4) (@AB _ _ _ _ _ (@Af _ _ _ _ _ _ _ _ A8 (pv 1 rfl C8 AJ AK) AH) AN ⋯) ⋯) O3 ⋯ ⋯) (@Fi _ _ _ _ _ _ rfl (@Bj _ _ _ _ _ (@BK _ _ 11 _ nd rfl MT ⋯) (@Bj _ _ _ _ _ (@BK _ _ 1 _ nd rfl Fv ⋯) ET ⋯) ⋯) ⋯ ⋯) ⋯ ⋯ ⋯) (@AV _ _ _ (@Ae _ _ _ _ (@BJ _ _ _ _ _ (@AB _ _ _ _ _ (@BJ _ _ _ _ _ (@AB _ _ _ _ _ (pv 2 rfl Tv Ej Ek) (@AB _ _ _ _ _ (pv 5 rfl NM K4 K6) (@AB _ _ _ _ _ (pv 6 rfl Tu Xs Xz) (@AB _ _ _ _ _ (pv 7 rfl Tt Xr Xy) (@AB _ _ _ _ _ (pv 10 rfl Rf RB RO) (@AB _ _ _ _ _ (pv 8 rfl Ka A3 A4) (@AB _ _ _ _ _ (pv 11 rfl Rc Ai Aj) AN ⋯) ⋯) ⋯) ⋯) ⋯) ⋯) ⋯)) (@AB _ _ _ _ _ (pv 1 rfl C8 AJ AK) AN ⋯) ⋯))))))))))))))))),BZ (N:=["_law_rows","_law_big_here","_law_name","_law_holders","_law_row","_law_holder","_law_x","_law_y","_law_kind","_law_up_here","_law_shown","_law_data"]) (np:=2) (nl:=10) (Ac (BX (Ad (AE AL AS)) (Hw (B3 AZ (B3 AZ Fo)) (Bk (Bk EX)))) (Ac (X1 (Mh (AE Be AS))) (Ac (Pa (Ux AL) AZ (C3 (QM (A7 (AY fi (AY Bc AL AM) (e6 (Ad AS) (iS AM) eN))) (A7 (AY ao (CD DV (AE (Ad (AE AL (AE (AY Bc AL AM) AS))) AS)) AM))) (RV (bX (i:=3) Ql (AE (AY Bc AL AM) AS))) B8)) (Ac (BX (PV (i:=3) (AY au AL (AY CC AL (CD DV (AE AL AS))))) AZ) (Ac (C3 (Z6 (i:=3) (A7 (AY Ds (AY CC (AY CQ AL (CD DV (AE AL AS))) AM) AM))) (BX (PV (i:=3) (AY au AL (Jo GX AM))) AZ) B8) (Ac (BX (PV (i:=3) (AY CQ (AY CQ AL (CD DV (AE AL AS))) AM)) AZ) (Ac (BX (Ad (AE AL AS)) (Hw (B3 AZ (B3 AZ Fo)) (Bk (Bk EX)))) (Ac (BX (Ad (AE AL AS)) (Hw (B3 AZ (B3 AZ Fo)) (Bk (Bk EX)))) (Ac (BX (AY Bc (Ad AS) (AY CC AL AM)) AZ) (Ac (BX (Ad (AE AL (AE AL AS))) AZ) (Ac (C3 (QM (A7 (AY Ds AL Be)) (A7 (AY OT (Xp (Ux AL) AZ (QM (A7 (AY fi (AY Bc AL AM) AL)) (A7 (AY Ds (AY Bc AL AM) Be))) AL) (Mh AS)))) (BX Be AZ) B8) (Ac (BX (AY av (AY CC (AY CQ AL AM) AM) AM) AZ) (Ac (BX (Ad (AE AL (AE (AY CQ AL AM) AS))) (Hw (B3 AZ (B3 AZ Fo)) (Bk (Bk EX)))) (Aw (Bs (AE (Bs (AE AL (AE AL (AE AL (AE AL (AE AL (AE AL (AE AL AS)))))))) (AE AL AS))) (by decide))))))))))))))) rfl h⟩
theorem UN(F:Fun K "_law_cell_at" "_law_cell_at" DJ f fd)(z_len:mg "len"=none):FnOk P w K mg base CX0 1 f fd ["_law_script","_law_k"] (spD ⟨K,w⟩ EW false):=by
 have nd:=sc_L_cell_at.nd
 refine F.ok sc_L_cell_at (fun vs H Q E h=>Ba Ak h) (fun cdv A outer s H vs Q E hr h=>?_)
 exact⟨_,(@AO _ _ _ _ _ (@B6 _ _ _ _ _ _ _ _ (@Az _ _ _ _ _ _ _ _ Vl (pv 1 rfl MO FG FH) (@Ab _ _ _ _ _ _ _ _ _ Bh Pr z_len PySem.boot_len (@AB _ _ _ _ _ (pv 0 rfl MP DZ Dc) AN ⋯) Bv By ⋯ ⋯) (A0 _)) (@AV _ _ _ (@Ae _ _ _ _ (@BL _ _ _ _ _ _ _ P8 (pv 0 rfl MP DZ Dc) (pv 1 rfl MO FG FH) (fun _ _=>rfl)))) A9) (@AV _ _ _ (@Ae _ _ _ _ AH))),BZ (N:=["_law_script","_law_k"]) (np:=2) (nl:=0) (Ac (C3 (A7 (AY ao AL (bY (i:=0)))) (Aw (i8 (i:=0) AL) (by decide)) B8) (Aw AM (by decide))) rfl h⟩
theorem aj(F:Fun K "_law_big" "_law_big" Cm f fd)(c74:Cal P w K mg base 1 "_law_cell_at" ["_law_script","_law_k"] (spD ⟨K,w⟩ EW false))(z_range:mg "range"=none):FnOk P w K mg base CX0 2 f fd ["_law_script","_law_at"] (spD ⟨K,w⟩ Fz false):=by
 have nd:=sc_L_big.nd
 refine F.ok sc_L_big (fun vs H Q E h=>Ba Ak h) (fun cdv A outer s H vs Q E hr h=>?_)
 exact⟨_,(@AO _ _ _ _ _ (@BC _ _ 2 _ _ _ _ nd rfl TB (@BJ _ _ _ _ _ (@AB _ _ _ _ _ AH (@AB _ _ _ _ _ AH (@AB _ _ _ _ _ AH (@AB _ _ _ _ _ AH (@AB _ _ _ _ _ AH (@AB _ _ _ _ _ AH (@AB _ _ _ _ _ AH (@AB _ _ _ _ _ AH AN ⋯) ⋯) ⋯) ⋯) ⋯) ⋯) ⋯) ⋯)) ⋯ ⋯) (@AO _ _ _ _ _ (@BC _ _ 3 _ _ _ _ nd rfl S9 (@BJ _ _ _ _ _ (@AB _ _ _ _ _ AH (@AB _ _ _ _ _ AH (@AB _ _ _ _ _ AH (@AB _ _ _ _ _ AH (@AB _ _ _ _ _ AH (@AB _ _ _ _ _ AH (@AB _ _ _ _ _ AH (@AB _ _ _ _ _ AH AN ⋯) ⋯) ⋯) ⋯) ⋯) ⋯) ⋯) ⋯)) ⋯ ⋯) (@AO _ _ _ _ _ (@BC _ _ 4 _ _ _ _ nd rfl S8 (@AW _ _ _ _ _ _ _ _ _ _ c74 hr ID (@AB _ _ _ _ _ (pv 0 rfl Sn DZ Dc) (@AB _ _ _ _ _ (pv 1 rfl Sm Gr Gu) AN ⋯) ⋯) KR ⋯ ⋯) ⋯ ⋯) (@AO _ _ _ _ _ (@B6 _ _ _ _ _ _ _ _ (@Az _ _ _ _ _ _ _ _ eL (pv 4 rfl Sk Ml Mo) (@Af _ _ _ _ _ _ _ _ aa AH AH) (A0 _)) (@AV _ _ _ (@Ae _ _ _ _ (pv 4 rfl Sk Ml Mo))) A9) (@AO _ _ _ _ _ (@BC _ _ 5 _ _ _ _ nd rfl OZ AH ⋯ ⋯) (@AO _ _ _ _ _ (@LO _ _ _ _ _ _ _ _ PassesOwn.never rfl (@Jw _ _ _ _ _ _ SO z_range (@AB _ _ _ _ _ AH AN ⋯) ⋯) (@BK _ _ 6 _ nd rfl S7 ⋯) (@AO _ _ _ _ _ (@BC _ _ 7 _ _ _ _ nd rfl S6 (@Af _ _ _ _ _ _ _ _ Fj (@Af _ _ _ _ _ _ _ _ Fj (@Af _ _ _ _ _ _ _ _ Bp (@AW _ _ _ _ _ _ _ _ _ _ c74 hr ID (@AB _ _ _ _ _ (pv 0 rfl Sn DZ Dc) (@AB _ _ _ _ _ (@Af _ _ _ _ _ _ _ _ Fj (pv 1 rfl Sm Gr Gu) (@Af _ _ _ _ _ _ _ _ Bp (pv 6 rfl Ju FG FH) AH)) AN ⋯) ⋯) KR ⋯ ⋯) (@Af _ _ _ _ _ _ _ _ aa AH AH)) AH) (@Af _ _ _ _ _ _ _ _ T9 (pv 6 rfl Ju FG FH) (pv 6 rfl Ju FG FH))) ⋯ ⋯) (@AV _ _ _ (@BC _ _ 5 _ _ _ _ nd rfl OZ (@Af _ _ _ _ _ _ _ _ Fj (@Af _ _ _ _ _ _ _ _ T9 (pv 5 rfl Sj AJ AK) AH) (@Af _ _ _ _ _ _ _ _ Bp (@Af _ _ _ _ _ _ _ _ Bp (@Af _ _ _ _ _ _ _ _ T9 (pv 7 rfl Y0 Ie Ii) (@BL _ _ _ _ _ _ _ Ay (pv 2 rfl Y2 Wo Wy) (@Af _ _ _ _ _ _ _ _ Bp (pv 6 rfl Ju FG FH) AH) (fun _ _=>rfl))) (@BL _ _ _ _ _ _ _ Ay (pv 3 rfl Y1 RC RP) (@Af _ _ _ _ _ _ _ _ Bp (pv 6 rfl Ju FG FH) AH) (fun _ _=>rfl))) AH)) ⋯ ⋯))) ⋯) (@AV _ _ _ (@Ae _ _ _ _ (pv 5 rfl Sj AJ AK))))))))),BZ (N:=["_law_script","_law_at","_law_by","_law_prime","_law_cell","_law_big_here","_law_k","_law_one"]) (np:=2) (nl:=6) (Ac (BX (Bs (AE AM (AE AM (AE AM (AE AM (AE AM (AE AM (AE AM (AE AM AS))))))))) AZ) (Ac (BX (Bs (AE AM (AE AM (AE AM (AE AM (AE AM (AE AM (AE AM (AE AM AS))))))))) AZ) (Ac (BX (QB (i:=0) (AE AL AS)) AZ) (Ac (C3 (A7 (AY iU AL (AY eM AM AM))) (Aw AL (by decide)) B8) (Ac (BX AM AZ) (Ac (Pa (J7 (AE AM AS)) AZ (Ac (BX (AY Ht (AY Ht (AY CC (QB (i:=0) (AE (AY Ht AL (AY CC AL AM)) AS)) (AY eM AM AM)) AM) (AY ak AL AL)) AZ) (BX (AY Ht (AY ak AL AM) (AY CC (AY CC (AY ak AL (AY Bc AL (AY CC AL AM))) (AY Bc AL (AY CC AL AM))) AM)) AZ))) (Aw AL (by decide)))))))) rfl h⟩
theorem ag(F:Fun K "_law_odd" "_law_odd" G4 f fd)(z_len:mg "len"=none):FnOk P w K mg base CX0 1 f fd ["_law_big_here"] (spD ⟨K,w⟩ Ko false):=by
 have nd:=sc_L_odd.nd
 refine F.ok sc_L_odd (fun vs H Q E h=>Ba Ak h) (fun cdv A outer s H vs Q E hr h=>?_)
 exact⟨_,(@AO _ _ _ _ _ (@BC _ _ 1 _ _ _ _ nd rfl Il (@IF _ _ _ _ (@AB _ _ _ _ _ AH (@AB _ _ _ _ _ AH (@AB _ _ _ _ _ (@GY _ _ _ _ _ _ Ed AH) (@AB _ _ _ _ _ AH (@AB _ _ _ _ _ AH (@AB _ _ _ _ _ AH (@AB _ _ _ _ _ AH (@AB _ _ _ _ _ (@GY _ _ _ _ _ _ Ed AH) (@AB _ _ _ _ _ (@GY _ _ _ _ _ _ Ed AH) (@AB _ _ _ _ _ AH (@AB _ _ _ _ _ AH (@AB _ _ _ _ _ AH (@AB _ _ _ _ _ AH (@AB _ _ _ _ _ (@GY _ _ _ _ _ _ Ed AH) (@AB _ _ _ _ _ (@GY _ _ _ _ _ _ Ed AH) (@AB _ _ _ _ _ AH (@AB _ _ _ _ _ AH (@AB _ _ _ _ _ (@GY _ _ _ _ _ _ Ed AH) (@AB _ _ _ _ _ (@GY _ _ _ _ _ _ Ed AH) (@AB _ _ _ _ _ E7 (@AB _ _ _ _ _ E7 AN ⋯) ⋯) ⋯) ⋯) ⋯) ⋯) ⋯) ⋯) ⋯) ⋯) ⋯) ⋯) ⋯) ⋯) ⋯) ⋯) ⋯) ⋯) ⋯) ⋯) ⋯)) ⋯ ⋯) (@AO _ _ _ _ _ (@BC _ _ 1 _ _ _ _ nd rfl Il (@Af _ _ _ _ _ _ _ _ UA (pv 1 rfl Ik FW FY) (@IF _ _ _ _ (@AB _ _ _ _ _ Ao (@AB _ _ _ _ _ Ao (@AB _ _ _ _ _ Ao (@AB _ _ _ _ _ Ao (@AB _ _ _ _ _ Ao (@AB _ _ _ _ _ Ao (@AB _ _ _ _ _ Ao (@AB _ _ _ _ _ Ao (@AB _ _ _ _ _ Ao (@AB _ _ _ _ _ Ao AN ⋯) ⋯) ⋯) ⋯) ⋯) ⋯) ⋯) ⋯) ⋯) ⋯))) ⋯ ⋯) (@AO _ _ _ _ _ (@BC _ _ 1 _ _ _ _ nd rfl Il (@Af _ _ _ _ _ _ _ _ UA (pv 1 rfl Ik FW FY) (@IF _ _ _ _ (@AB _ _ _ _ _ Ao (@AB _ _ _ _ _ Ao (@AB _ _ _ _ _ Ao (@AB _ _ _ _ _ Ao (@AB _ _ _ _ _ Ao (@AB _ _ _ _ _ Ao (@AB _ _ _ _ _ Ao (@AB _ _ _ _ _ Ao (@AB _ _ _ _ _ Ao (@AB _ _ _ _ _ Ao AN ⋯) ⋯) ⋯) ⋯) ⋯) ⋯) ⋯) ⋯) ⋯) ⋯))) ⋯ ⋯) (@AO _ _ _ _ _ (@BC _ _ 1 _ _ _ _ nd rfl Il (@Af _ _ _ _ _ _ _ _ UA (pv 1 rfl Ik FW FY) (@IF _ _ _ _ (@AB _ _ _ _ _ (@BJ _ _ _ _ _ (@AB _ _ _ _ _ AH (@AB _ _ _ _ _ AH AN ⋯) ⋯)) (@AB _ _ _ _ _ (@BJ _ _ _ _ _ (@AB _ _ _ _ _ AH (@AB _ _ _ _ _ AH AN ⋯) ⋯)) (@AB _ _ _ _ _ (@BJ _ _ _ _ _ (@AB _ _ _ _ _ AH (@AB _ _ _ _ _ AH AN ⋯) ⋯)) (@AB _ _ _ _ _ (@BJ _ _ _ _ _ (@AB _ _ _ _ _ AH (@AB _ _ _ _ _ AH AN ⋯) ⋯)) (@AB _ _ _ _ _ (@BJ _ _ _ _ _ (@AB _ _ _ _ _ AH (@AB _ _ _ _ _ AH AN ⋯) ⋯)) (@AB _ _ _ _ _ (@BJ _ _ _ _ _ (@AB _ _ _ _ _ AH (@AB _ _ _ _ _ AH AN ⋯) ⋯)) (@AB _ _ _ _ _ (@BJ _ _ _ _ _ (@AB _ _ _ _ _ AH (@AB _ _ _ _ _ AH AN ⋯) ⋯)) (@AB _ _ _ _ _ (@BJ _ _ _ _ _ (@AB _ _ _ _ _ AH (@AB _ _ _ _ _ AH AN ⋯) ⋯)) (@AB _ _ _ _ _ (@BJ _ _ _ _ _ (@AB _ _ _ _ _ (@GY _ _ _ _ _ _ Ed AH) (@AB _ _ _ _ _ AH AN ⋯) ⋯)) (@AB _ _ _ _ _ (@BJ _ _ _ _ _ (@AB _ _ _ _ _ AH (@AB _ _ _ _ _ E7 AN ⋯) ⋯)) AN ⋯) ⋯) ⋯) ⋯) ⋯) ⋯) ⋯) ⋯) ⋯) ⋯))) ⋯ ⋯) (@AO _ _ _ _ _ (@BC _ _ 1 _ _ _ _ nd rfl Il (@Af _ _ _ _ _ _ _ _ UA (pv 1 rfl Ik FW FY) (@IF _ _ _ _ (@AB _ _ _ _ _ (@BJ _ _ _ _ _ (@AB _ _ _ _ _ AH AN ⋯)) (@AB _ _ _ _ _ (@BJ _ _ _ _ _ AN) (@AB _ _ _ _ _ (@BJ _ _ _ _ _ (@AB _ _ _ _ _ Ao (@AB _ _ _ _ _ Ao AN ⋯) ⋯)) (@AB _ _ _ _ _ (@BJ _ _ _ _ _ (@AB _ _ _ _ _ Ao (@AB _ _ _ _ _ Ao AN ⋯) ⋯)) (@AB _ _ _ _ _ (@BJ _ _ _ _ _ (@AB _ _ _ _ _ Ao AN ⋯)) (@AB _ _ _ _ _ (@BJ _ _ _ _ _ (@AB _ _ _ _ _ Ao AN ⋯)) (@AB _ _ _ _ _ (@Af _ _ _ _ _ _ _ _ cN (@BJ _ _ _ _ _ (@AB _ _ _ _ _ Ao AN ⋯)) AH) (@AB _ _ _ _ _ (@BJ _ _ _ _ _ (@AB _ _ _ _ _ AH (@AB _ _ _ _ _ AH AN ⋯) ⋯)) (@AB _ _ _ _ _ (@BJ _ _ _ _ _ (@AB _ _ _ _ _ Ao (@AB _ _ _ _ _ AH AN ⋯) ⋯)) AN ⋯) ⋯) ⋯) ⋯) ⋯) ⋯) ⋯) ⋯) ⋯))) ⋯ ⋯) (@AV _ _ _ (@Ae _ _ _ _ (@BL _ _ _ _ _ _ _ P8 (pv 1 rfl Ik FW FY) (@Af _ _ _ _ _ _ _ _ Bp (pv 0 rfl Yz AJ AK) (@Ab _ _ _ _ _ _ _ _ _ Bh WZ z_len PySem.boot_len (@AB _ _ _ _ _ (pv 1 rfl Ik FW FY) AN ⋯) Bv By ⋯ ⋯)) (fun _ _=>rfl))))))))),BZ (N:=["_law_big_here","_law_some"]) (np:=1) (nl:=1) (Ac (BX (Mh (AE AM (AE AM (AE (Jo GX AM) (AE AM (AE AM (AE AM (AE AM (AE (Jo GX AM) (AE (Jo GX AM) (AE AM (AE AM (AE AM (AE AM (AE (Jo GX AM) (AE (Jo GX AM) (AE AM (AE AM (AE (Jo GX AM) (AE (Jo GX AM) (AE IE (AE IE AS)))))))))))))))))))))) AZ) (Ac (BX (AY YQ AL (Mh (AE Be (AE Be (AE Be (AE Be (AE Be (AE Be (AE Be (AE Be (AE Be (AE Be AS)))))))))))) AZ) (Ac (BX (AY YQ AL (Mh (AE Be (AE Be (AE Be (AE Be (AE Be (AE Be (AE Be (AE Be (AE Be (AE Be AS)))))))))))) AZ) (Ac (BX (AY YQ AL (Mh (AE (Bs (AE AM (AE AM AS))) (AE (Bs (AE AM (AE AM AS))) (AE (Bs (AE AM (AE AM AS))) (AE (Bs (AE AM (AE AM AS))) (AE (Bs (AE AM (AE AM AS))) (AE (Bs (AE AM (AE AM AS))) (AE (Bs (AE AM (AE AM AS))) (AE (Bs (AE AM (AE AM AS))) (AE (Bs (AE (Jo GX AM) (AE AM AS))) (AE (Bs (AE AM (AE IE AS))) AS)))))))))))) AZ) (Ac (BX (AY YQ AL (Mh (AE (Bs (AE AM AS)) (AE (Bs AS) (AE (Bs (AE Be (AE Be AS))) (AE (Bs (AE Be (AE Be AS))) (AE (Bs (AE Be AS)) (AE (Bs (AE Be AS)) (AE (AY fg (Bs (AE Be AS)) AM) (AE (Bs (AE AM (AE AM AS))) (AE (Bs (AE Be (AE AM AS))) AS))))))))))) AZ) (Aw (AY au AL (AY CC AL (CD DV (AE AL AS)))) (by decide))))))) rfl h⟩
theorem ZH(F:Fun K "_law_fits" "_law_fits" ER f fd)(z_str:mg "str"=none)(z_isinstance:mg "isinstance"=none)(z_tuple:mg "tuple"=none)(z_int:mg "int"=none):FnOk P w K mg base CX0 1 f fd ["_law_place","_law_thing"] (spD ⟨K,w⟩ J5 false):=by
 have nd:=sc_L_fits.nd
 refine F.ok sc_L_fits (fun vs H Q E h=>Ba Ak h) (fun cdv A outer s H vs Q E hr h=>?_)
 exact⟨_,(@AO _ _ _ _ _ (@B6 _ _ _ _ _ _ _ _ (@PW.pt _ _ _ (@ES _ _ _ _ _ _ _ (@Az _ _ _ _ _ _ _ _ (@Bq _ (Cn hr)) (pv 0 rfl Kc Ex E1) AH (A0 _)) (@ES _ _ _ _ _ _ _ (@Az _ _ _ _ _ _ _ _ (@Bq _ (Cn hr)) (pv 0 rfl Kc Ex E1) AH (A0 _)) (@EC _ _ _ _ (@Az _ _ _ _ _ _ _ _ (@Bq _ (Cn hr)) (pv 0 rfl Kc Ex E1) AH (A0 _)))))) (@AV _ _ _ (@Ae _ _ _ _ (@Ab _ _ _ _ _ _ _ _ _ CB GK z_isinstance PyProof.Rows.boot_isinstance (@AB _ _ _ _ _ (pv 1 rfl Ms BF BI) (@AB _ _ _ _ _ (GZ U3 z_str PySem.Pv.boot_str NX N8) AN ⋯) ⋯) BD BE ⋯ ⋯))) A9) (@AO _ _ _ _ _ (@B6 _ _ _ _ _ _ _ _ (@Az _ _ _ _ _ _ _ _ (@Bq _ (Cn hr)) (pv 0 rfl Kc Ex E1) AH (A0 _)) (@AV _ _ _ (@Ae _ _ _ _ (@Ab _ _ _ _ _ _ _ _ _ CB GK z_isinstance PyProof.Rows.boot_isinstance (@AB _ _ _ _ _ (pv 1 rfl Ms BF BI) (@AB _ _ _ _ _ (GZ Q4 z_tuple PySem.Pv.boot_tuple FQ FV) AN ⋯) ⋯) BD BE ⋯ ⋯))) A9) (@AV _ _ _ (@Ae _ _ _ _ (@Ab _ _ _ _ _ _ _ _ _ CB GK z_isinstance PyProof.Rows.boot_isinstance (@AB _ _ _ _ _ (pv 1 rfl Ms BF BI) (@AB _ _ _ _ _ (GZ U4 z_int PySem.Pv.boot_int UP VE) AN ⋯) ⋯) BD BE ⋯ ⋯))))),BZ (N:=["_law_place","_law_thing"]) (np:=2) (nl:=0) (Ac (C3 (Gz (A7 (AY Ds AL AM)) (Gz (A7 (AY Ds AL AM)) (A7 (AY Ds AL AM)))) (Aw (Gb (T:="str") AL) (by decide)) B8) (Ac (C3 (A7 (AY Ds AL AM)) (Aw (Gb (T:="tuple") AL) (by decide)) B8) (Aw (Gb (T:="int") AL) (by decide)))) rfl h⟩
theorem Vz(F:Fun K "_law_spoilt" "_law_spoilt" Bb f fd)(d89:Cal P w K mg base 1 "_law_odd" ["_law_big_here"] (spD ⟨K,w⟩ Ko false))(d85:Cal P w K mg base 1 "_law_fits" ["_law_place","_law_thing"] (spD ⟨K,w⟩ J5 false))(z_list:mg "list"=none)(z_len:mg "len"=none)(z_tuple:mg "tuple"=none):FnOk P w K mg base CX0 2 f fd ["_law_row","_law_big_here"] (spD ⟨K,w⟩ C2 false):=by
 have nd:=sc_L_spoilt.nd
 refine F.ok sc_L_spoilt (fun vs H Q E h=>Ba Ak h) (fun cdv A outer s H vs Q E hr h=>?_)
 exact⟨_,(@AO _ _ _ _ _ (@BC _ _ 2 _ _ _ _ nd rfl Ng (@Jx _ _ _ _ _ _ _ _ _ OG K1 z_list PySem.Pv.boot_list (@AB _ _ _ _ _ (pv 0 rfl NL A5 A6) AN ⋯) V5 Wi ⋯ ⋯) ⋯ ⋯) (@AO _ _ _ _ _ (@BC _ _ 3 _ _ _ _ nd rfl Nf (@Af _ _ _ _ _ _ _ _ Bp (pv 1 rfl Gx AJ AK) AH) ⋯ ⋯) (@AO _ _ _ _ _ (@BC _ _ 4 _ _ _ _ nd rfl Nd (@Af _ _ _ _ _ _ _ _ Bp (@Af _ _ _ _ _ _ _ _ A8 (pv 1 rfl Gx AJ AK) AH) AH) ⋯ ⋯) (@AO _ _ _ _ _ (@BC _ _ 5 _ _ _ _ nd rfl Nc (@AW _ _ _ _ _ _ _ _ _ _ d89 hr MB (@AB _ _ _ _ _ (@Af _ _ _ _ _ _ _ _ A8 (pv 1 rfl Gx AJ AK) AH) AN ⋯) VG ⋯ ⋯) ⋯ ⋯) (@AO _ _ _ _ _ (@B6 _ _ _ _ _ _ _ _ (@PW.pt _ _ _ (@Mu _ _ _ _ _ _ _ (@Az _ _ _ _ _ _ _ _ (@Bq _ (Cn hr)) (pv 3 rfl KY A3 A4) AH (A0 _)) (@Kj _ _ _ _ (@CK _ _ _ (@AW _ _ _ _ _ _ _ _ _ _ d85 hr Li (@AB _ _ _ _ _ (pv 4 rfl NK Ex E1) (@AB _ _ _ _ _ (pv 5 rfl IU DR DU) AN ⋯) ⋯) SX ⋯ ⋯) ⋯)))) (@AV _ _ _ (@Eg _ _ _ _ _ _ (pv 5 rfl IU DR DU) (@T7 _ _ _ _ _ _ _ (pv 2 rfl KZ IH IJ) (pv 4 rfl NK Ex E1) QQ ⋯) ⋯ ⋯ ⋯)) A9) (@AO _ _ _ _ _ (@B6 _ _ _ _ _ _ _ _ (@Az _ _ _ _ _ _ _ _ Vm (pv 3 rfl KY A3 A4) AH (A0 _)) (@AO _ _ _ _ _ (@BC _ _ 6 _ _ _ _ nd rfl Nb (@Jx _ _ _ _ _ _ _ _ _ OG K1 z_list PySem.Pv.boot_list (@AB _ _ _ _ _ (@BL _ _ _ _ _ _ _ Ay (pv 0 rfl NL A5 A6) AH (fun _ _=>rfl)) AN ⋯) V5 Wi ⋯ ⋯) ⋯ ⋯) (@AO _ _ _ _ _ (@BC _ _ 7 _ _ _ _ nd rfl Na (@Af _ _ _ _ _ _ _ _ Bp (@Af _ _ _ _ _ _ _ _ A8 (pv 1 rfl Gx AJ AK) AH) (@Af _ _ _ _ _ _ _ _ Fj (@Ab _ _ _ _ _ _ _ _ _ Bh JC z_len PySem.boot_len (@AB _ _ _ _ _ (pv 6 rfl EM Ai Aj) AN ⋯) Bv By ⋯ ⋯) AH)) ⋯ ⋯) (@AO _ _ _ _ _ (@B6 _ _ _ _ _ _ _ _ (@PW.pt _ _ _ (@Mu _ _ _ _ _ _ _ (@Az _ _ _ _ _ _ _ _ (@Bq _ (Cn hr)) (pv 3 rfl KY A3 A4) AH (A0 _)) (@Kj _ _ _ _ (@Az _ _ _ _ _ _ _ _ Vl (pv 7 rfl IS Gr Gu) (@Ab _ _ _ _ _ _ _ _ _ Bh JC z_len PySem.boot_len (@AB _ _ _ _ _ (pv 6 rfl EM Ai Aj) AN ⋯) Bv By ⋯ ⋯) (A0 _))))) (@AV _ _ _ (@Eg _ _ _ _ _ _ (pv 5 rfl IU DR DU) (@T7 _ _ _ _ _ _ _ (pv 6 rfl EM Ai Aj) (pv 7 rfl IS Gr Gu) QQ ⋯) ⋯ ⋯ ⋯)) (@AV _ _ _ (@B6 _ _ _ _ _ _ _ _ (@Az _ _ _ _ _ _ _ _ (@Bq _ (Cn hr)) (@Af _ _ _ _ _ _ _ _ Bp (@Af _ _ _ _ _ _ _ _ A8 (pv 1 rfl Gx AJ AK) AH) AH) AH (A0 _)) (@AV _ _ _ (@NT _ _ _ _ (@Vj _ _ _ _ _ _ _ _ _ _ _ _ PySem.F.plainAttrs_list PySem.F.slot_list_insert PySem.F.type_list_insert ZS (pv 6 rfl EM Ai Aj) (@AB _ _ _ _ _ (pv 7 rfl IS Gr Gu) (@AB _ _ _ _ _ (pv 5 rfl IU DR DU) AN ⋯) ⋯) ⋯ ⋯ ⋯ ⋯ ⋯) ⋯)) (@AV _ _ _ (@B6 _ _ _ _ _ _ _ _ (@Az _ _ _ _ _ _ _ _ (@HU _ (Cn hr)) (pv 6 rfl EM Ai Aj) (@IF _ _ _ _ AN) (A0 _)) (@AV _ _ _ (@NT _ _ _ _ (@Vj _ _ _ _ _ _ _ _ _ _ _ _ PySem.F.plainAttrs_list PySem.F.slot_list_pop PySem.F.type_list_pop bB (pv 6 rfl EM Ai Aj) (@AB _ _ _ _ _ (@Af _ _ _ _ _ _ _ _ Bp (pv 7 rfl IS Gr Gu) (@Ab _ _ _ _ _ _ _ _ _ Bh JC z_len PySem.boot_len (@AB _ _ _ _ _ (pv 6 rfl EM Ai Aj) AN ⋯) Bv By ⋯ ⋯)) AN ⋯) ⋯ ⋯ ⋯ ⋯ ⋯) ⋯)) A9))))) (@AV _ _ _ (@Eg _ _ _ _ _ _ (@Jx _ _ _ _ _ _ _ _ _ Jr KJ z_tuple PySem.Pv.boot_tuple (@AB _ _ _ _ _ (pv 6 rfl EM Ai Aj) AN ⋯) FQ FV ⋯ ⋯) (@T7 _ _ _ _ _ _ _ (pv 2 rfl KZ IH IJ) AH QQ ⋯) ⋯ ⋯ ⋯))))) A9) (@AV _ _ _ (@Ae _ _ _ _ (@Jx _ _ _ _ _ _ _ _ _ Jr KJ z_tuple PySem.Pv.boot_tuple (@AB _ _ _ _ _ (pv 2 rfl KZ IH IJ) AN ⋯) FQ FV ⋯ ⋯))))))))),BZ (N:=["_law_row","_law_big_here","_law_things","_law_kind","_law_place","_law_odd_here","_law_data","_law_at"]) (np:=2) (nl:=6) (Ac (X1 (CD bh (AE AL AS))) (Ac (BX (AY CC AL AM) AZ) (Ac (BX (AY CC (AY CQ AL AM) AM) AZ) (Ac (BX (Ad (AE (AY CQ AL AM) AS)) AZ) (Ac (C3 (QM (A7 (AY Ds AL AM)) (DF (Ad (AE AL (AE AL AS))))) (X2 (i:=2) AL AL) B8) (Ac (C3 (A7 (AY av AL AM)) (Ac (X1 (CD bh (AE (AY Bc AL AM) AS))) (Ac (BX (PV (i:=6) (AY CC (AY CQ AL AM) (AY Ht (CD DV (AE AL AS)) AM))) AZ) (Ac (C3 (Z6 (i:=6) (QM (A7 (AY Ds AL AM)) (A7 (AY ao AL (CD DV (AE AL AS)))))) (X2 (i:=6) AL AL) (C3 (A7 (AY Ds (AY CC (AY CQ AL AM) AM) AM)) (RV (bX (i:=6) bC (AE AL (AE AL AS)))) (C3 (Z6 (i:=6) (A7 (AY OT AL (Mh AS)))) (RV (bX (i:=6) cb (AE (PV (i:=6) (AY CC AL (CD DV (AE AL AS)))) AS))) B8))) (X2 (i:=2) (PV (i:=6) (CD VL (AE AL AS))) AM)))) B8) (Aw (PV (i:=2) (CD VL (AE AL AS))) (by decide)))))))) rfl h⟩
theorem Vy(F:Fun K "_law_within" "_law_within" Cd f fd)(z_bool:mg "bool"=none)(z_isinstance:mg "isinstance"=none)(z_int:mg "int"=none):FnOk P w K mg base CX0 1 f fd ["_law_thing","_law_least","_law_most"] (spD ⟨K,w⟩ A2 false):=by
 have nd:=sc_L_within.nd
 refine F.ok sc_L_within (fun vs H Q E h=>Ba Ak h) (fun cdv A outer s H vs Q E hr h=>?_)
 exact⟨_,(@AV _ _ _ (@Ae _ _ _ _ (@CO _ _ _ _ _ _ _ (@Ab _ _ _ _ _ _ _ _ _ CB HP z_isinstance PyProof.Rows.boot_isinstance (@AB _ _ _ _ _ (pv 0 rfl KU BF BI) (@AB _ _ _ _ _ (GZ Q2 z_int PySem.Pv.boot_int UP VE) AN ⋯) ⋯) BD BE ⋯ ⋯) (@CO _ _ _ _ _ _ _ (@aR _ _ _ _ (@Ab _ _ _ _ _ _ _ _ _ CB HP z_isinstance PyProof.Rows.boot_isinstance (@AB _ _ _ _ _ (pv 0 rfl KU BF BI) (@AB _ _ _ _ _ (GZ Po z_bool PySem.Pv.boot_bool Jz KQ) AN ⋯) ⋯) BD BE ⋯ ⋯)) (@DW _ _ _ _ _ (@QW _ _ _ _ _ _ _ _ _ _ _ _ Jy Jy (pv 1 rfl Ts HH HK) (pv 0 rfl KU BF BI) (pv 2 rfl Tr FX FZ) ⋯)))))),BZ (N:=["_law_thing","_law_least","_law_most"]) (np:=3) (nl:=0) (Aw (DQ (Gb (T:="int") AL) (DQ (e7 (Gb (T:="bool") AL)) (Kv OU OU AL AL AL))) (by decide)) rfl h⟩
theorem UK(F:Fun K "_law_is_part" "_law_is_part" Ci f fd)(c01:Cal P w K mg base 1 "_law_within" ["_law_thing","_law_least","_law_most"] (spD ⟨K,w⟩ A2 false))(c88:Cal P w K mg base 1 "_law_low" ["_law_top","_law_bottom"] (spD ⟨K,w⟩ HB false))(z_len:mg "len"=none)(z_tuple:mg "tuple"=none)(z_isinstance:mg "isinstance"=none):FnOk P w K mg base CX0 2 f fd ["_law_thing"] (spD ⟨K,w⟩ Dk false):=by
 have nd:=sc_L_is_part.nd
 refine F.ok sc_L_is_part (fun vs H Q E h=>Ba Ak h) (fun cdv A outer s H vs Q E hr h=>?_)
 exact⟨_,(@AO _ _ _ _ _ (@B6 _ _ _ _ _ _ _ _ (@PW.pt _ _ _ (@ES _ _ _ _ _ _ _ (@CF _ _ _ _ (@CK _ _ _ (@Ab _ _ _ _ _ _ _ _ _ CB Kr z_isinstance PyProof.Rows.boot_isinstance (@AB _ _ _ _ _ (pv 0 rfl Dd BF BI) (@AB _ _ _ _ _ (GZ N5 z_tuple PySem.Pv.boot_tuple FQ FV) AN ⋯) ⋯) BD BE ⋯ ⋯) ⋯)) (@ES _ _ _ _ _ _ _ (@Az _ _ _ _ _ _ _ _ (@HU _ (Cn hr)) (@Ab _ _ _ _ _ _ _ _ _ Bh Pq z_len PySem.boot_len (@AB _ _ _ _ _ (pv 0 rfl Dd BF BI) AN ⋯) Bv By ⋯ ⋯) AH (A0 _)) (@EC _ _ _ _ (@CF _ _ _ _ (@CK _ _ _ (@AW _ _ _ _ _ _ _ _ _ _ c01 hr Gp (@AB _ _ _ _ _ (@BL _ _ _ _ _ _ _ Ay (pv 0 rfl Dd BF BI) AH (fun _ _=>rfl)) (@AB _ _ _ _ _ AH (@AB _ _ _ _ _ AH AN ⋯) ⋯) ⋯) Cc ⋯ ⋯) ⋯)))))) (@AV _ _ _ (@Ae _ _ _ _ E7)) A9) (@AV _ _ _ (@Ae _ _ _ _ (@CO _ _ _ _ _ _ _ (@AW _ _ _ _ _ _ _ _ _ _ c01 hr Gp (@AB _ _ _ _ _ (@BL _ _ _ _ _ _ _ Ay (pv 0 rfl Dd BF BI) AH (fun _ _=>rfl)) (@AB _ _ _ _ _ AH (@AB _ _ _ _ _ (@BL _ _ _ _ _ _ _ Ay (pv 0 rfl Dd BF BI) AH (fun _ _=>rfl)) AN ⋯) ⋯) ⋯) Cc ⋯ ⋯) (@DW _ _ _ _ _ (@Cs _ _ _ _ _ _ _ _ (@Bq _ (Cn hr)) (@AW _ _ _ _ _ _ _ _ _ _ c88 hr Lk (@AB _ _ _ _ _ (@BL _ _ _ _ _ _ _ Ay (pv 0 rfl Dd BF BI) AH (fun _ _=>rfl)) (@AB _ _ _ _ _ (@BL _ _ _ _ _ _ _ Ay (pv 0 rfl Dd BF BI) AH (fun _ _=>rfl)) AN ⋯) ⋯) OC ⋯ ⋯) (pv 0 rfl Dd BF BI) (A0 _))))))),BZ (N:=["_law_thing"]) (np:=1) (nl:=0) (Ac (C3 (Gz (Cw (DF (Gb (T:="tuple") AL))) (Gz (A7 (AY OT (CD DV (AE AL AS)) AM)) (Cw (DF (Ad (AE (AY Bc AL AM) (AE AM (AE AM AS)))))))) (Aw IE (by decide)) B8) (Aw (DQ (Ad (AE (AY Bc AL AM) (AE AM (AE (AY Bc AL AM) AS)))) (AY Ds (Ad (AE (AY Bc AL AM) (AE (AY Bc AL AM) AS))) AL)) (by decide))) rfl h⟩
theorem Rr(F:Fun K "_law_is_paint" "_law_is_paint" Cb f fd)(c09:Cal P w K mg base 2 "_law_is_part" ["_law_thing"] (spD ⟨K,w⟩ Dk false))(z_len:mg "len"=none):FnOk P w K mg base CX0 3 f fd ["_law_data","_law_many"] (spD ⟨K,w⟩ B4 false):=by
 have nd:=sc_L_is_paint.nd
 refine F.ok sc_L_is_paint (fun vs H Q E h=>Ba Ak h) (fun cdv A outer s H vs Q E hr h=>?_)
 exact⟨_,(@AV _ _ _ (@Ae _ _ _ _ (@CO _ _ _ _ _ _ _ (@Cs _ _ _ _ _ _ _ _ (@Bq _ (Cn hr)) (@Ab _ _ _ _ _ _ _ _ _ Bh Oq z_len PySem.boot_len (@AB _ _ _ _ _ (pv 0 rfl Iq Ai Aj) AN ⋯) Bv By ⋯ ⋯) (pv 1 rfl QJ SV Sb) (A0 _)) (@CO _ _ _ _ _ _ _ (@AW _ _ _ _ _ _ _ _ _ _ c09 hr GG (@AB _ _ _ _ _ (@BL _ _ _ _ _ _ _ Ay (pv 0 rfl Iq Ai Aj) (@GY _ _ _ _ _ _ Ed AH) (fun _ _=>rfl)) AN ⋯) Hf ⋯ ⋯) (@DW _ _ _ _ _ (@AW _ _ _ _ _ _ _ _ _ _ c09 hr GG (@AB _ _ _ _ _ (@BL _ _ _ _ _ _ _ Ay (pv 0 rfl Iq Ai Aj) (@GY _ _ _ _ _ _ Ed AH) (fun _ _=>rfl)) AN ⋯) Hf ⋯ ⋯)))))),BZ (N:=["_law_data","_law_many"]) (np:=2) (nl:=0) (Aw (DQ (AY Ds (CD DV (AE AL AS)) AL) (DQ (Ad (AE (AY Bc AL (Jo GX AM)) AS)) (Ad (AE (AY Bc AL (Jo GX AM)) AS)))) (by decide)) rfl h⟩
theorem XY(F:Fun K "_law_is_of" "_law_is_of" Ct f fd)(z_len:mg "len"=none)(z_str:mg "str"=none)(z_isinstance:mg "isinstance"=none):FnOk P w K mg base CX0 1 f fd ["_law_thing","_law_signs","_law_least","_law_most"] (spD ⟨K,w⟩ EK false):=by
 have nd:=sc_L_is_of.nd
 refine F.ok sc_L_is_of (fun vs H Q E h=>Ba Ak h) (fun cdv A outer s H vs Q E hr h=>?_)
 exact⟨_,(@AO _ _ _ _ _ (@B6 _ _ _ _ _ _ _ _ (@PW.pt _ _ _ (@ES _ _ _ _ _ _ _ (@CF _ _ _ _ (@CK _ _ _ (@Ab _ _ _ _ _ _ _ _ _ CB Ll z_isinstance PyProof.Rows.boot_isinstance (@AB _ _ _ _ _ (pv 0 rfl LM BF BI) (@AB _ _ _ _ _ (GZ SM z_str PySem.Pv.boot_str NX N8) AN ⋯) ⋯) BD BE ⋯ ⋯) ⋯)) (@EC _ _ _ _ (@CF _ _ _ _ (@NS _ _ _ _ _ _ _ _ _ _ _ _ Jy Jy (pv 2 rfl Va HH HK) (@Ab _ _ _ _ _ _ _ _ _ Bh SN z_len PySem.boot_len (@AB _ _ _ _ _ (pv 0 rfl LM BF BI) AN ⋯) Bv By ⋯ ⋯) (pv 3 rfl VZ FX FZ) ⋯))))) (@AV _ _ _ (@Ae _ _ _ _ E7)) A9) (@AV _ _ _ (@Ae _ _ _ _ (@Cs _ _ _ _ _ _ _ _ (@Bq _ (Cn hr)) (@Sx _ ["_law_sign","_law_signs"] 1 [1] _ _ _ _ _ _ _ _ _ _ rfl (@Qo _ ["_law_sign","_law_signs"] 1 [1] _ ["_law_thing","_law_signs","_law_least","_law_most"] (AD Ct) rfl rfl ∅) (@XM _ _ _ _ (pv 0 rfl LM BF BI)) (fun cl fp s3 H3=>(@BK _ _ 0 _ V4 rfl (HZ ∅) (Or.inr (G9 ∅)))) (fun cl fp s3 H3=>(@T5 _ _ _ (@Az _ _ _ _ _ _ _ _ (@T8 _) (pv 0 rfl (Em ∅) Mj Mn) (pv 1 rfl (NG ∅) JI JQ) (by with_unfolding_all rfl)))) (fun cl fp s3 H3=>(pv 0 rfl (Em ∅) Mj Mn)) ⋯) (@IF _ _ _ _ AN) (A0 _))))),BZ (N:=["_law_thing","_law_signs","_law_least","_law_most"]) (np:=4) (nl:=0) (Ac (C3 (Gz (Cw (DF (Gb (T:="str") AL))) (Cw (A7 (Kv OU OU AL (CD DV (AE AL AS)) AL)))) (Aw IE (by decide)) B8) (Aw (AY Ds (Xp (Xi AL) AZ (A7 (AY fh AL AL)) AL) (Mh AS)) (by decide))) rfl h⟩
theorem Ru(F:Fun K "_law_are_rows" "_law_are_rows" B1 f fd)(c06:Cal P w K mg base 1 "_law_is_of" ["_law_thing","_law_signs","_law_least","_law_most"] (spD ⟨K,w⟩ EK false))(z_len:mg "len"=none)(z_tuple:mg "tuple"=none)(z_isinstance:mg "isinstance"=none)(z_min:mg "min"=none)(z_max:mg "max"=none):FnOk P w K mg base CX0 2 f fd ["_law_thing"] (spD ⟨K,w⟩ GA false):=by
 have nd:=sc_L_are_rows.nd
 refine F.ok sc_L_are_rows (fun vs H Q E h=>Ba Ak h) (fun cdv A outer s H vs Q E hr h=>?_)
 exact⟨_,(@AO _ _ _ _ _ (@B6 _ _ _ _ _ _ _ _ (@PW.pt _ _ _ (@ES _ _ _ _ _ _ _ (@CF _ _ _ _ (@CK _ _ _ (@Ab _ _ _ _ _ _ _ _ _ CB KP z_isinstance PyProof.Rows.boot_isinstance (@AB _ _ _ _ _ (pv 0 rfl Gy BF BI) (@AB _ _ _ _ _ (GZ NA z_tuple PySem.Pv.boot_tuple FQ FV) AN ⋯) ⋯) BD BE ⋯ ⋯) ⋯)) (@EC _ _ _ _ (@CF _ _ _ _ (@NS _ _ _ _ _ _ _ _ _ _ _ _ Vl Vl AH (@Ab _ _ _ _ _ _ _ _ _ Bh Hd z_len PySem.boot_len (@AB _ _ _ _ _ (pv 0 rfl Gy BF BI) AN ⋯) Bv By ⋯ ⋯) AH ⋯))))) (@AV _ _ _ (@Ae _ _ _ _ E7)) A9) (@AO _ _ _ _ _ (@aM _ ["_law_row"] 1 [] _ _ _ _ _ _ _ _ _ _ 1 _ _ _ nd rfl Qp rfl (@Qo _ ["_law_row"] 1 [] _ ["_law_thing","_law_sizes"] (AD B1) rfl rfl ∅) (@XJ _ _ _ _ (pv 0 rfl Gy BF BI)) (fun cl fp s3 H3=>(@BK _ _ 0 _ QZ rfl (HZ ∅) (Or.inr (G9 ∅)))) (fun cl fp s3 H3=>(@T5 _ _ _ (@CK _ _ _ (@AW _ _ _ _ _ _ _ _ _ _ c06 hr (Ly ∅) (@AB _ _ _ _ _ (pv 0 rfl (Em ∅) A5 A6) (@AB _ _ _ _ _ Ao (@AB _ _ _ _ _ AH (@AB _ _ _ _ _ AH AN ⋯) ⋯) ⋯) ⋯) HJ ⋯ ⋯) ⋯))) (fun cl fp s3 H3=>(@Ab _ _ _ _ _ _ _ _ _ Bh (Ly ∅) z_len PySem.boot_len (@AB _ _ _ _ _ (pv 0 rfl (Em ∅) A5 A6) AN ⋯) Bv By ⋯ ⋯)) ⋯ ⋯) (@AV _ _ _ (@Ae _ _ _ _ (@CO _ _ _ _ _ _ _ (@Cs _ _ _ _ _ _ _ _ (@Bq _ (Cn hr)) (@Ab _ _ _ _ _ _ _ _ _ Bh Hd z_len PySem.boot_len (@AB _ _ _ _ _ (pv 1 rfl Ir JH JP) AN ⋯) Bv By ⋯ ⋯) (@Ab _ _ _ _ _ _ _ _ _ Bh Hd z_len PySem.boot_len (@AB _ _ _ _ _ (pv 0 rfl Gy BF BI) AN ⋯) Bv By ⋯ ⋯) (A0 _)) (@DW _ _ _ _ _ (@Cs _ _ _ _ _ _ _ _ (@Bq _ (Cn hr)) (@Ab _ _ _ _ _ _ _ _ _ (@Zv _ rfl) Ou z_min PyProof.Rows.boot_min (@AB _ _ _ _ _ (pv 1 rfl Ir JH JP) AN ⋯) YR Yj ⋯ ⋯) (@Ab _ _ _ _ _ _ _ _ _ (@Zx _ rfl) Ov z_max PyProof.Rows.boot_max (@AB _ _ _ _ _ (pv 1 rfl Ir JH JP) AN ⋯) YS Yk ⋯ ⋯) (A0 _)))))))),BZ (N:=["_law_thing","_law_sizes"]) (np:=1) (nl:=1) (Ac (C3 (Gz (Cw (DF (Gb (T:="tuple") AL))) (Cw (A7 (Kv ao ao AM (CD DV (AE AL AS)) AM)))) (Aw IE (by decide)) B8) (Ac (jE (Xp (Xh AL) AZ (DF (Ad (AE AL (AE Be (AE AM (AE AM AS)))))) (CD DV (AE AL AS)))) (Aw (DQ (AY Ds (CD DV (AE AL AS)) (CD DV (AE AL AS))) (AY Ds (CD gU (AE AL AS)) (CD gX (AE AL AS)))) (by decide)))) rfl h⟩
theorem UL(F:Fun K "_law_is_data" "_law_is_data" BU f fd)(c09:Cal P w K mg base 3 "_law_is_part" ["_law_thing"] (spD ⟨K,w⟩ Dk false))(c01:Cal P w K mg base 3 "_law_within" ["_law_thing","_law_least","_law_most"] (spD ⟨K,w⟩ A2 false))(c06:Cal P w K mg base 3 "_law_is_of" ["_law_thing","_law_signs","_law_least","_law_most"] (spD ⟨K,w⟩ EK false))(c60:Cal P w K mg base 3 "_law_is_paint" ["_law_data","_law_many"] (spD ⟨K,w⟩ B4 false))(c99:Cal P w K mg base 3 "_law_are_rows" ["_law_thing"] (spD ⟨K,w⟩ GA false))(z_len:mg "len"=none)(z_bool:mg "bool"=none)(z_isinstance:mg "isinstance"=none):FnOk P w K mg base CX0 4 f fd ["_law_kind","_law_data"] (spD ⟨K,w⟩ EV false):=by
 have nd:=sc_L_is_data.nd
 refine F.ok sc_L_is_data (fun vs H Q E h=>Ba Ak h) (fun cdv A outer s H vs Q E hr h=>?_)
 exact⟨_,(@AO _ _ _ _ _ (@B6 _ _ _ _ _ _ _ _ (@PW.pt _ _ _ (@ES _ _ _ _ _ _ _ (@Az _ _ _ _ _ _ _ _ (@Bq _ (Cn hr)) (pv 0 rfl Ca A3 A4) Ao (A0 _)) (@EC _ _ _ _ (@Az _ _ _ _ _ _ _ _ (@Bq _ (Cn hr)) (pv 0 rfl Ca A3 A4) Ao (A0 _))))) (@AV _ _ _ (@Ae _ _ _ _ (@Cs _ _ _ _ _ _ _ _ (@Bq _ (Cn hr)) (pv 1 rfl Bu Ai Aj) (@BJ _ _ _ _ _ AN) (A0 _)))) A9) (@AO _ _ _ _ _ (@B6 _ _ _ _ _ _ _ _ (@Az _ _ _ _ _ _ _ _ (@Bq _ (Cn hr)) (pv 0 rfl Ca A3 A4) Ao (A0 _)) (@AV _ _ _ (@Ae _ _ _ _ (@CO _ _ _ _ _ _ _ (@Cs _ _ _ _ _ _ _ _ (@Bq _ (Cn hr)) (@Ab _ _ _ _ _ _ _ _ _ Bh IG z_len PySem.boot_len (@AB _ _ _ _ _ (pv 1 rfl Bu Ai Aj) AN ⋯) Bv By ⋯ ⋯) AH (A0 _)) (@DW _ _ _ _ _ (@AW _ _ _ _ _ _ _ _ _ _ c09 hr Jm (@AB _ _ _ _ _ (@BL _ _ _ _ _ _ _ Ay (pv 1 rfl Bu Ai Aj) AH (fun _ _=>rfl)) AN ⋯) Hf ⋯ ⋯))))) A9) (@AO _ _ _ _ _ (@B6 _ _ _ _ _ _ _ _ (@Az _ _ _ _ _ _ _ _ (@Bq _ (Cn hr)) (pv 0 rfl Ca A3 A4) Ao (A0 _)) (@AV _ _ _ (@Ae _ _ _ _ (@CO _ _ _ _ _ _ _ (@Cs _ _ _ _ _ _ _ _ (@Bq _ (Cn hr)) (@Ab _ _ _ _ _ _ _ _ _ Bh IG z_len PySem.boot_len (@AB _ _ _ _ _ (pv 1 rfl Bu Ai Aj) AN ⋯) Bv By ⋯ ⋯) AH (A0 _)) (@CO _ _ _ _ _ _ _ (@AW _ _ _ _ _ _ _ _ _ _ c01 hr Ck (@AB _ _ _ _ _ (@BL _ _ _ _ _ _ _ Ay (pv 1 rfl Bu Ai Aj) AH (fun _ _=>rfl)) (@AB _ _ _ _ _ AH (@AB _ _ _ _ _ AH AN ⋯) ⋯) ⋯) Cc ⋯ ⋯) (@DW _ _ _ _ _ (@Ab _ _ _ _ _ _ _ _ _ CB Ks z_isinstance PyProof.Rows.boot_isinstance (@AB _ _ _ _ _ (@BL _ _ _ _ _ _ _ Ay (pv 1 rfl Bu Ai Aj) AH (fun _ _=>rfl)) (@AB _ _ _ _ _ (GZ Ot z_bool PySem.Pv.boot_bool Jz KQ) AN ⋯) ⋯) BD BE ⋯ ⋯)))))) A9) (@AO _ _ _ _ _ (@B6 _ _ _ _ _ _ _ _ (@Az _ _ _ _ _ _ _ _ (@Bq _ (Cn hr)) (pv 0 rfl Ca A3 A4) Ao (A0 _)) (@AV _ _ _ (@Ae _ _ _ _ (@CO _ _ _ _ _ _ _ (@AW _ _ _ _ _ _ _ _ _ _ c60 hr ED (@AB _ _ _ _ _ (pv 1 rfl Bu Ai Aj) (@AB _ _ _ _ _ AH AN ⋯) ⋯) HI ⋯ ⋯) (@DW _ _ _ _ _ (@AW _ _ _ _ _ _ _ _ _ _ c06 hr Kt (@AB _ _ _ _ _ (@BL _ _ _ _ _ _ _ Ay (pv 1 rfl Bu Ai Aj) AH (fun _ _=>rfl)) (@AB _ _ _ _ _ Ao (@AB _ _ _ _ _ AH (@AB _ _ _ _ _ AH AN ⋯) ⋯) ⋯) ⋯) HJ ⋯ ⋯))))) A9) (@AO _ _ _ _ _ (@B6 _ _ _ _ _ _ _ _ (@Az _ _ _ _ _ _ _ _ (@Bq _ (Cn hr)) (pv 0 rfl Ca A3 A4) Ao (A0 _)) (@AV _ _ _ (@Ae _ _ _ _ (@CO _ _ _ _ _ _ _ (@AW _ _ _ _ _ _ _ _ _ _ c60 hr ED (@AB _ _ _ _ _ (pv 1 rfl Bu Ai Aj) (@AB _ _ _ _ _ AH AN ⋯) ⋯) HI ⋯ ⋯) (@DW _ _ _ _ _ (@AW _ _ _ _ _ _ _ _ _ _ c99 hr JU (@AB _ _ _ _ _ (@BL _ _ _ _ _ _ _ Ay (pv 1 rfl Bu Ai Aj) AH (fun _ _=>rfl)) AN ⋯) OE ⋯ ⋯))))) A9) (@AO _ _ _ _ _ (@BC _ _ 2 _ _ _ _ nd rfl MZ (Vi (Lz Ao (@BJ _ _ _ _ _ (@AB _ _ _ _ _ AH (@AB _ _ _ _ _ AH AN ⋯) ⋯)) (Lz Ao (@BJ _ _ _ _ _ (@AB _ _ _ _ _ (@GY _ _ _ _ _ _ Ed AH) (@AB _ _ _ _ _ AH AN ⋯) ⋯)) (Lz Ao (@BJ _ _ _ _ _ (@AB _ _ _ _ _ AH (@AB _ _ _ _ _ AH AN ⋯) ⋯)) (Lz Ao (@BJ _ _ _ _ _ (@AB _ _ _ _ _ AH (@AB _ _ _ _ _ AH AN ⋯) ⋯)) aV))))) ⋯ ⋯) (@AO _ _ _ _ _ (@B6 _ _ _ _ _ _ _ _ (@PW.pt _ _ _ (@ES _ _ _ _ _ _ _ (@Az _ _ _ _ _ _ _ _ ZE (pv 0 rfl Ca A3 A4) (pv 2 rfl ML K5 K7) (by with_unfolding_all rfl)) (@EC _ _ _ _ (@Az _ _ _ _ _ _ _ _ (@HU _ (Cn hr)) (@Ab _ _ _ _ _ _ _ _ _ Bh IG z_len PySem.boot_len (@AB _ _ _ _ _ (pv 1 rfl Bu Ai Aj) AN ⋯) Bv By ⋯ ⋯) AH (A0 _))))) (@AV _ _ _ (@Ae _ _ _ _ E7)) A9) (@AO _ _ _ _ _ (@Eg _ _ _ _ _ _ (@BL _ _ _ _ _ _ _ gD (pv 2 rfl ML K5 K7) (pv 0 rfl Ca A3 A4) (fun _ _=>rfl)) (@Fi _ _ _ _ _ _ rfl (@Bj _ _ _ _ _ (@BK _ _ 3 _ nd rfl MY ⋯) (@Bj _ _ _ _ _ (@BK _ _ 4 _ nd rfl MX ⋯) ET ⋯) ⋯) ⋯ ⋯) ⋯ ⋯ ⋯) (@AO _ _ _ _ _ (@B6 _ _ _ _ _ _ _ _ (@PW.pt _ _ _ (@ES _ _ _ _ _ _ _ (@CF _ _ _ _ (@CK _ _ _ (@AW _ _ _ _ _ _ _ _ _ _ c01 hr Ck (@AB _ _ _ _ _ (@BL _ _ _ _ _ _ _ Ay (pv 1 rfl Bu Ai Aj) AH (fun _ _=>rfl)) (@AB _ _ _ _ _ (pv 3 rfl MK HH HK) (@AB _ _ _ _ _ (pv 4 rfl MJ FX FZ) AN ⋯) ⋯) ⋯) Cc ⋯ ⋯) ⋯)) (@EC _ _ _ _ (@CF _ _ _ _ (@CK _ _ _ (@AW _ _ _ _ _ _ _ _ _ _ c01 hr Ck (@AB _ _ _ _ _ (@BL _ _ _ _ _ _ _ Ay (pv 1 rfl Bu Ai Aj) AH (fun _ _=>rfl)) (@AB _ _ _ _ _ (pv 3 rfl MK HH HK) (@AB _ _ _ _ _ (pv 4 rfl MJ FX FZ) AN ⋯) ⋯) ⋯) Cc ⋯ ⋯) ⋯))))) (@AV _ _ _ (@Ae _ _ _ _ E7)) A9) (@AO _ _ _ _ _ (@B6 _ _ _ _ _ _ _ _ (@PW.pt _ _ _ (@ES _ _ _ _ _ _ _ (@Az _ _ _ _ _ _ _ _ (@Bq _ (Cn hr)) (pv 0 rfl Ca A3 A4) Ao (A0 _)) (@EC _ _ _ _ (@Az _ _ _ _ _ _ _ _ (@Bq _ (Cn hr)) (pv 0 rfl Ca A3 A4) Ao (A0 _))))) (@AV _ _ _ (@Ae _ _ _ _ (@AW _ _ _ _ _ _ _ _ _ _ c60 hr ED (@AB _ _ _ _ _ (pv 1 rfl Bu Ai Aj) (@AB _ _ _ _ _ AH AN ⋯) ⋯) HI ⋯ ⋯))) A9) (@AO _ _ _ _ _ (@BC _ _ 5 _ _ _ _ nd rfl MW (@BL _ _ _ _ _ _ _ gD (Vi (Lz Ao AH (Lz Ao AH aV))) (pv 0 rfl Ca A3 A4) (fun _ _=>rfl)) ⋯ ⋯) (@AV _ _ _ (@Ae _ _ _ _ (@CO _ _ _ _ _ _ _ (@AW _ _ _ _ _ _ _ _ _ _ c01 hr Ck (@AB _ _ _ _ _ (@BL _ _ _ _ _ _ _ Ay (pv 1 rfl Bu Ai Aj) AH (fun _ _=>rfl)) (@AB _ _ _ _ _ (@GY _ _ _ _ _ _ Ed (pv 5 rfl Hl Ig Ij)) (@AB _ _ _ _ _ (pv 5 rfl Hl Ig Ij) AN ⋯) ⋯) ⋯) Cc ⋯ ⋯) (@DW _ _ _ _ _ (@AW _ _ _ _ _ _ _ _ _ _ c01 hr Ck (@AB _ _ _ _ _ (@BL _ _ _ _ _ _ _ Ay (pv 1 rfl Bu Ai Aj) AH (fun _ _=>rfl)) (@AB _ _ _ _ _ (@GY _ _ _ _ _ _ Ed (pv 5 rfl Hl Ig Ij)) (@AB _ _ _ _ _ (pv 5 rfl Hl Ig Ij) AN ⋯) ⋯) ⋯) Cc ⋯ ⋯)))))))))))))))),BZ (N:=["_law_kind","_law_data","_law_bounds","_law_least","_law_most","_law_far"]) (np:=2) (nl:=4) (Ac (C3 (Gz (A7 (AY Ds AL Be)) (A7 (AY Ds AL Be))) (Aw (AY Ds AL (Bs AS)) (by decide)) B8) (Ac (C3 (A7 (AY Ds AL Be)) (Aw (DQ (AY Ds (CD DV (AE AL AS)) AM) (Ad (AE (AY Bc AL AM) AS))) (by decide)) B8) (Ac (C3 (A7 (AY Ds AL Be)) (Aw (DQ (AY Ds (CD DV (AE AL AS)) AM) (DQ (Ad (AE (AY Bc AL AM) (AE AM (AE AM AS)))) (Gb (T:="bool") (AY Bc AL AM)))) (by decide)) B8) (Ac (C3 (A7 (AY Ds AL Be)) (Aw (DQ (Ad (AE AL (AE AM AS))) (Ad (AE (AY Bc AL AM) (AE Be (AE AM (AE AM AS)))))) (by decide)) B8) (Ac (C3 (A7 (AY Ds AL Be)) (Aw (DQ (Ad (AE AL (AE AM AS))) (Ad (AE (AY Bc AL AM) AS))) (by decide)) B8) (Ac (gd (L0 (Bs (AE AM (AE AM AS))) (fun _=>rfl) rfl (L0 (Bs (AE (Jo GX AM) (AE AM AS))) (fun _=>rfl) rfl (L0 (Bs (AE AM (AE AM AS))) (fun _=>rfl) rfl (L0 (Bs (AE AM (AE AM AS))) (fun _=>rfl) rfl aX)))) (by decide) (ay (l:=["plate","band","window","tiles"]) ∅)) (Ac (C3 (Gz (A7 (e9 (i:=2) AL)) (A7 (AY OT (CD DV (AE AL AS)) AM))) (Aw IE (by decide)) B8) (Ac (BX (e8 (i:=2) AL) (Hw (B3 AZ (B3 AZ Fo)) (Bk (Bk EX)))) (Ac (C3 (Gz (Cw (DF (Ad (AE (AY Bc AL AM) (AE AL (AE AL AS)))))) (Cw (DF (Ad (AE (AY Bc AL AM) (AE AL (AE AL AS))))))) (Aw IE (by decide)) B8) (Ac (C3 (Gz (A7 (AY Ds AL Be)) (A7 (AY Ds AL Be))) (Aw (Ad (AE AL (AE AM AS))) (by decide)) B8) (Ac (BX (gQ (L0 AM (fun _=>rfl) rfl (L0 AM (fun _=>rfl) rfl aX)) (by decide) (ay (l:=["window","tiles"]) ∅) AL) AZ) (Aw (DQ (Ad (AE (AY Bc AL AM) (AE (Jo GX AL) (AE AL AS)))) (Ad (AE (AY Bc AL AM) (AE (Jo GX AL) (AE AL AS))))) (by decide))))))))))))) rfl h⟩
theorem V1(F:Fun K "_law_is_row" "_law_is_row" Ce f fd)(c06:Cal P w K mg base 4 "_law_is_of" ["_law_thing","_law_signs","_law_least","_law_most"] (spD ⟨K,w⟩ EK false))(c01:Cal P w K mg base 4 "_law_within" ["_law_thing","_law_least","_law_most"] (spD ⟨K,w⟩ A2 false))(d08:Cal P w K mg base 4 "_law_is_data" ["_law_kind","_law_data"] (spD ⟨K,w⟩ EV false))(z_bool:mg "bool"=none)(z_isinstance:mg "isinstance"=none):FnOk P w K mg base CX0 5 f fd ["_law_row"] (spD ⟨K,w⟩ DY false):=by
 have nd:=sc_L_is_row.nd
 refine F.ok sc_L_is_row (fun vs H Q E h=>Ba Ak h) (fun cdv A outer s H vs Q E hr h=>?_)
 exact⟨_,(@AO _ _ _ _ _ (@BC _ _ 1 _ _ _ _ nd rfl Nm Ao ⋯ ⋯) (@AO _ _ _ _ _ (@B6 _ _ _ _ _ _ _ _ (@PW.pt _ _ _ (@ES _ _ _ _ _ _ _ (@CF _ _ _ _ (@CK _ _ _ (@AW _ _ _ _ _ _ _ _ _ _ c06 hr HR (@AB _ _ _ _ _ (@BL _ _ _ _ _ _ _ Ay (pv 0 rfl E8 A5 A6) AH (fun _ _=>rfl)) (@AB _ _ _ _ _ (pv 1 rfl NN JI JQ) (@AB _ _ _ _ _ AH (@AB _ _ _ _ _ AH AN ⋯) ⋯) ⋯) ⋯) HJ ⋯ ⋯) ⋯)) (@EC _ _ _ _ (@CF _ _ _ _ (@CK _ _ _ (@AW _ _ _ _ _ _ _ _ _ _ c06 hr HR (@AB _ _ _ _ _ (@BL _ _ _ _ _ _ _ Ay (pv 0 rfl E8 A5 A6) AH (fun _ _=>rfl)) (@AB _ _ _ _ _ (pv 1 rfl NN JI JQ) (@AB _ _ _ _ _ AH (@AB _ _ _ _ _ AH AN ⋯) ⋯) ⋯) ⋯) HJ ⋯ ⋯) ⋯))))) (@AV _ _ _ (@Ae _ _ _ _ E7)) A9) (@AO _ _ _ _ _ (@B6 _ _ _ _ _ _ _ _ (@PW.pt _ _ _ (@ES _ _ _ _ _ _ _ (@CF _ _ _ _ (@CK _ _ _ (@AW _ _ _ _ _ _ _ _ _ _ c01 hr HF (@AB _ _ _ _ _ (@BL _ _ _ _ _ _ _ Ay (pv 0 rfl E8 A5 A6) AH (fun _ _=>rfl)) (@AB _ _ _ _ _ (@GY _ _ _ _ _ _ Ed AH) (@AB _ _ _ _ _ AH AN ⋯) ⋯) ⋯) Cc ⋯ ⋯) ⋯)) (@ES _ _ _ _ _ _ _ (@CF _ _ _ _ (@CK _ _ _ (@AW _ _ _ _ _ _ _ _ _ _ c01 hr HF (@AB _ _ _ _ _ (@BL _ _ _ _ _ _ _ Ay (pv 0 rfl E8 A5 A6) AH (fun _ _=>rfl)) (@AB _ _ _ _ _ (@GY _ _ _ _ _ _ Ed AH) (@AB _ _ _ _ _ AH AN ⋯) ⋯) ⋯) Cc ⋯ ⋯) ⋯)) (@EC _ _ _ _ (@CF _ _ _ _ (@CK _ _ _ (@Ab _ _ _ _ _ _ _ _ _ CB LH z_isinstance PyProof.Rows.boot_isinstance (@AB _ _ _ _ _ (@BL _ _ _ _ _ _ _ Ay (pv 0 rfl E8 A5 A6) AH (fun _ _=>rfl)) (@AB _ _ _ _ _ (GZ Pp z_bool PySem.Pv.boot_bool Jz KQ) AN ⋯) ⋯) BD BE ⋯ ⋯) ⋯)))))) (@AV _ _ _ (@Ae _ _ _ _ E7)) A9) (@AV _ _ _ (@Ae _ _ _ _ (@AW _ _ _ _ _ _ _ _ _ _ d08 hr KO (@AB _ _ _ _ _ (@BL _ _ _ _ _ _ _ Ay (pv 0 rfl E8 A5 A6) AH (fun _ _=>rfl)) (@AB _ _ _ _ _ (@BL _ _ _ _ _ _ _ Ay (pv 0 rfl E8 A5 A6) AH (fun _ _=>rfl)) AN ⋯) ⋯) O1 ⋯ ⋯)))))),BZ (N:=["_law_row","_law_signs"]) (np:=1) (nl:=1) (Ac (BX Be AZ) (Ac (C3 (Gz (Cw (DF (Ad (AE (AY Bc AL AM) (AE AL (AE AM (AE AM AS))))))) (Cw (DF (Ad (AE (AY Bc AL AM) (AE AL (AE AM (AE AM AS)))))))) (Aw IE (by decide)) B8) (Ac (C3 (Gz (Cw (DF (Ad (AE (AY Bc AL AM) (AE (Jo GX AM) (AE AM AS)))))) (Gz (Cw (DF (Ad (AE (AY Bc AL AM) (AE (Jo GX AM) (AE AM AS)))))) (Cw (DF (Gb (T:="bool") (AY Bc AL AM)))))) (Aw IE (by decide)) B8) (Aw (Ad (AE (AY Bc AL AM) (AE (AY Bc AL AM) AS))) (by decide))))) rfl h⟩
theorem Rn(F:Fun K "is_text_of" "is_text_of" B0 f fd)(z_len:mg "len"=none)(z_str:mg "str"=none)(z_isinstance:mg "isinstance"=none)(z_all:mg "all"=none):FnOk P w K mg base CX0 1 f fd ["thing","signs","low","high"] (spD ⟨K,w⟩ CA false):=by
 have nd:=sc_is_text_of.nd
 refine F.ok sc_is_text_of (fun vs H Q E h=>Ba Ak h) (fun cdv A outer s H vs Q E hr h=>?_)
 exact⟨_,(@AO _ _ _ _ _ (@B6 _ _ _ _ _ _ _ _ (@PW.pt _ _ _ (@ES _ _ _ _ _ _ _ (@CF _ _ _ _ (@CK _ _ _ (@Ab _ _ _ _ _ _ _ _ _ CB KG z_isinstance PyProof.Rows.boot_isinstance (@AB _ _ _ _ _ (pv 0 rfl Im BQ BS) (@AB _ _ _ _ _ (GZ Og z_str PySem.Pv.boot_str NX N8) AN ⋯) ⋯) BD BE ⋯ ⋯) ⋯)) (@EC _ _ _ _ (@CF _ _ _ _ (@NS _ _ _ _ _ _ _ _ _ _ _ _ Jy Jy (pv 2 rfl QG Yl Yo) (@Ab _ _ _ _ _ _ _ _ _ Bh Oh z_len PySem.boot_len (@AB _ _ _ _ _ (pv 0 rfl Im BQ BS) AN ⋯) Bv By ⋯ ⋯) (pv 3 rfl QF Wl Wv) ⋯))))) (@AV _ _ _ (@Ae _ _ _ _ E7)) A9) (@AV _ _ _ (@Ae _ _ _ _ (@Ab _ _ _ _ _ _ _ _ _ (@L5 _ rfl) Oi z_all PyProof.Rows.boot_all (@AB _ _ _ _ _ (@Sx _ ["sign","signs"] 1 [1] _ _ _ _ _ _ _ _ _ _ rfl (@Qo _ ["sign","signs"] 1 [1] _ ["thing","signs","low","high"] (AD B0) rfl rfl ∅) (@XM _ _ _ _ (pv 0 rfl Im BQ BS)) (fun cl fp s3 H3=>(@BK _ _ 0 _ QY rfl (HZ ∅) (Or.inr (G9 ∅)))) (fun cl fp s3 H3=>P1) (fun cl fp s3 H3=>(@Cs _ _ _ _ _ _ _ _ (@ZF _) (pv 0 rfl (Em ∅) Q8 RL) (pv 1 rfl (NG ∅) Zh Zr) (by with_unfolding_all rfl))) ⋯) AN ⋯) P7 QC ⋯ ⋯)))),BZ (N:=["thing","signs","low","high"]) (np:=4) (nl:=0) (Ac (C3 (Gz (Cw (DF (Gb (T:="str") AL))) (Cw (A7 (Kv OU OU AL (CD DV (AE AL AS)) AL)))) (Aw IE (by decide)) B8) (Aw (CD VM (AE (Xp (Xi AL) AZ YC (AY iT AL AL)) AS)) (by decide))) rfl h⟩
theorem XS(F:Fun K "is_name" "is_name" FP f fd)(c61:Cal P w K mg base 1 "is_text_of" ["thing","signs","low","high"] (spD ⟨K,w⟩ CA false)){uv_NAME_SIGNS:Value}(kc_NAME_SIGNS:mg "NAME_SIGNS"=some uv_NAME_SIGNS)(kt_NAME_SIGNS:EB ⟨K,w⟩ (.str "abcdefghijklmnopqrstuvwxyz0123456789") uv_NAME_SIGNS=true):FnOk P w K mg base CX0 2 f fd ["thing"] (spD ⟨K,w⟩ EJ false):=by
 have nd:=sc_is_name.nd
 obtain⟨cv_NAME_SIGNS,rv_NAME_SIGNS,iv_NAME_SIGNS⟩:=Wt kt_NAME_SIGNS
 refine F.ok sc_is_name (fun vs H Q E h=>Ba Ak h) (fun cdv A outer s H vs Q E hr h=>?_)
 exact⟨_,(@AV _ _ _ (@Ae _ _ _ _ (@AW _ _ _ _ _ _ _ _ _ _ c61 hr Lf (@AB _ _ _ _ _ (pv 0 rfl VV BQ BS) (@AB _ _ _ _ _ (@P4 _ _ cv_NAME_SIGNS _ _ Lg kc_NAME_SIGNS rv_NAME_SIGNS RE) (@AB _ _ _ _ _ AH (@AB _ _ _ _ _ AH AN ⋯) ⋯) ⋯) ⋯) Lq ⋯ ⋯))),BZ (N:=["thing"]) (np:=1) (nl:=0) (Aw (Ad (AE AL (AE (e_c iv_NAME_SIGNS) (AE AM (AE AM AS))))) (by decide)) rfl h⟩
theorem Vr(F:Fun K "is_truth" "is_truth" Ee f fd)(z_bool:mg "bool"=none)(z_isinstance:mg "isinstance"=none):FnOk P w K mg base CX0 1 f fd ["thing"] (spD ⟨K,w⟩ HY false):=by
 have nd:=sc_is_truth.nd
 refine F.ok sc_is_truth (fun vs H Q E h=>Ba Ak h) (fun cdv A outer s H vs Q E hr h=>?_)
 exact⟨_,(@AV _ _ _ (@Ae _ _ _ _ (@Ab _ _ _ _ _ _ _ _ _ CB LA z_isinstance PyProof.Rows.boot_isinstance (@AB _ _ _ _ _ (pv 0 rfl Ti BQ BS) (@AB _ _ _ _ _ (GZ Pk z_bool PySem.Pv.boot_bool Jz KQ) AN ⋯) ⋯) BD BE ⋯ ⋯))),BZ (N:=["thing"]) (np:=1) (nl:=0) (Aw (Gb (T:="bool") AL) (by decide)) rfl h⟩
theorem Vq(F:Fun K "is_whole" "is_whole" Dw f fd)(z_bool:mg "bool"=none)(z_isinstance:mg "isinstance"=none)(z_int:mg "int"=none):FnOk P w K mg base CX0 1 f fd ["thing"] (spD ⟨K,w⟩ Fm false):=by
 have nd:=sc_is_whole.nd
 refine F.ok sc_is_whole (fun vs H Q E h=>Ba Ak h) (fun cdv A outer s H vs Q E hr h=>?_)
 exact⟨_,(@AV _ _ _ (@Ae _ _ _ _ (@CO _ _ _ _ _ _ _ (@Ab _ _ _ _ _ _ _ _ _ CB HN z_isinstance PyProof.Rows.boot_isinstance (@AB _ _ _ _ _ (pv 0 rfl NH BQ BS) (@AB _ _ _ _ _ (GZ Qu z_int PySem.Pv.boot_int UP VE) AN ⋯) ⋯) BD BE ⋯ ⋯) (@DW _ _ _ _ _ (@aR _ _ _ _ (@Ab _ _ _ _ _ _ _ _ _ CB HN z_isinstance PyProof.Rows.boot_isinstance (@AB _ _ _ _ _ (pv 0 rfl NH BQ BS) (@AB _ _ _ _ _ (GZ Pj z_bool PySem.Pv.boot_bool Jz KQ) AN ⋯) ⋯) BD BE ⋯ ⋯)))))),BZ (N:=["thing"]) (np:=1) (nl:=0) (Aw (DQ (Gb (T:="int") AL) (e7 (Gb (T:="bool") AL))) (by decide)) rfl h⟩
theorem UC(F:Fun K "is_within" "is_within" Cg f fd)(c58:Cal P w K mg base 1 "is_whole" ["thing"] (spD ⟨K,w⟩ Fm false)):FnOk P w K mg base CX0 2 f fd ["thing","low","high"] (spD ⟨K,w⟩ BV false):=by
 have nd:=sc_is_within.nd
 refine F.ok sc_is_within (fun vs H Q E h=>Ba Ak h) (fun cdv A outer s H vs Q E hr h=>?_)
 exact⟨_,(@AV _ _ _ (@Ae _ _ _ _ (@CO _ _ _ _ _ _ _ (@AW _ _ _ _ _ _ _ _ _ _ c58 hr Ld (@AB _ _ _ _ _ (pv 0 rfl MF BQ BS) AN ⋯) Kw ⋯ ⋯) (@DW _ _ _ _ _ (@QW _ _ _ _ _ _ _ _ _ _ _ _ Jy Jy (pv 1 rfl Ra Yl Yo) (pv 0 rfl MF BQ BS) (pv 2 rfl RZ Wl Wv) ⋯))))),BZ (N:=["thing","low","high"]) (np:=3) (nl:=0) (Aw (DQ (Ad (AE AL AS)) (Kv OU OU AL AL AL)) (by decide)) rfl h⟩
theorem NW(F:Fun K "common_divisor" "common_divisor" BM f fd)(z_abs:mg "abs"=none):FnOk P w K mg base CX0 1 f fd ["one","other"] (spD ⟨K,w⟩ C1 false):=by
 have nd:=sc_common_divisor.nd
 refine F.ok sc_common_divisor (fun vs H Q E h=>Ba Ak h) (fun cdv A outer s H vs Q E hr h=>?_)
 exact⟨_,(@AO _ _ _ _ _ (@BC _ _ 2 _ _ _ _ nd rfl Gh (@Ab _ _ _ _ _ _ _ _ _ RS IA z_abs PyProof.Rows.boot_abs (@AB _ _ _ _ _ (pv 0 rfl Mr dE dH) AN ⋯) UQ VF ⋯ ⋯) ⋯ ⋯) (@AO _ _ _ _ _ (@BC _ _ 3 _ _ _ _ nd rfl Gg (@Ab _ _ _ _ _ _ _ _ _ RS IA z_abs PyProof.Rows.boot_abs (@AB _ _ _ _ _ (pv 1 rfl Mq Zm Zu) AN ⋯) UQ VF ⋯ ⋯) ⋯ ⋯) (@AO _ _ _ _ _ (@QU _ _ _ _ _ _ PassesOwn.never (@Az _ _ _ _ _ _ _ _ (@HU _ (Cn hr)) (pv 3 rfl Gf Ox O6) AH (A0 _)) (@AO _ _ _ _ _ (@BC _ _ 4 _ _ _ _ nd rfl Iu (@Af _ _ _ _ _ _ _ _ Bp (pv 2 rfl Io Ym Yp) (pv 3 rfl Gf Ox O6)) ⋯ ⋯) (@AO _ _ _ _ _ (@BC _ _ 2 _ _ _ _ nd rfl Gh (pv 3 rfl Gf Ox O6) ⋯ ⋯) (@AV _ _ _ (@BC _ _ 3 _ _ _ _ nd rfl Gg (pv 4 rfl Mp ba bf) ⋯ ⋯))))) (@AV _ _ _ (@Ae _ _ _ _ (pv 2 rfl Io Ym Yp)))))),BZ (N:=["one","other","big","small","rest"]) (np:=2) (nl:=3) (Ac (BX (CD bj (AE AL AS)) AZ) (Ac (BX (CD bj (AE AL AS)) AZ) (Ac (VO (A7 (AY OT AL AM)) (Ac (BX (AY CC AL AL) AZ) (Ac (BX AL AZ) (BX AL AZ)))) (Aw AL (by decide))))) rfl h⟩
theorem Vs(F:Fun K "is_share" "is_share" CJ f fd)(c58:Cal P w K mg base 1 "is_whole" ["thing"] (spD ⟨K,w⟩ Fm false))(c79:Cal P w K mg base 1 "common_divisor" ["one","other"] (spD ⟨K,w⟩ C1 false))(z_len:mg "len"=none)(z_tuple:mg "tuple"=none)(z_isinstance:mg "isinstance"=none):FnOk P w K mg base CX0 2 f fd ["thing"] (spD ⟨K,w⟩ FD false):=by
 have nd:=sc_is_share.nd
 refine F.ok sc_is_share (fun vs H Q E h=>Ba Ak h) (fun cdv A outer s H vs Q E hr h=>?_)
 exact⟨_,(@AO _ _ _ _ _ (@B6 _ _ _ _ _ _ _ _ (@PW.pt _ _ _ (@ES _ _ _ _ _ _ _ (@CF _ _ _ _ (@CK _ _ _ (@Ab _ _ _ _ _ _ _ _ _ CB LD z_isinstance PyProof.Rows.boot_isinstance (@AB _ _ _ _ _ (pv 0 rfl IQ BQ BS) (@AB _ _ _ _ _ (GZ Ol z_tuple PySem.Pv.boot_tuple FQ FV) AN ⋯) ⋯) BD BE ⋯ ⋯) ⋯)) (@EC _ _ _ _ (@Az _ _ _ _ _ _ _ _ (@HU _ (Cn hr)) (@Ab _ _ _ _ _ _ _ _ _ Bh Qv z_len PySem.boot_len (@AB _ _ _ _ _ (pv 0 rfl IQ BQ BS) AN ⋯) Bv By ⋯ ⋯) AH (A0 _))))) (@AV _ _ _ (@Ae _ _ _ _ E7)) A9) (@AO _ _ _ _ _ (@BC _ _ 1 _ _ _ _ nd rfl NZ (@BL _ _ _ _ _ _ _ Ay (pv 0 rfl IQ BQ BS) AH (fun _ _=>rfl)) ⋯ ⋯) (@AO _ _ _ _ _ (@BC _ _ 2 _ _ _ _ nd rfl NY (@BL _ _ _ _ _ _ _ Ay (pv 0 rfl IQ BQ BS) AH (fun _ _=>rfl)) ⋯ ⋯) (@AO _ _ _ _ _ (@B6 _ _ _ _ _ _ _ _ (@PW.pt _ _ _ (@ES _ _ _ _ _ _ _ (@CF _ _ _ _ (@CK _ _ _ (@AW _ _ _ _ _ _ _ _ _ _ c58 hr IK (@AB _ _ _ _ _ (pv 1 rfl KS U9 VI) AN ⋯) Kw ⋯ ⋯) ⋯)) (@EC _ _ _ _ (@CF _ _ _ _ (@CK _ _ _ (@AW _ _ _ _ _ _ _ _ _ _ c58 hr IK (@AB _ _ _ _ _ (pv 2 rfl IP Kx Ky) AN ⋯) Kw ⋯ ⋯) ⋯))))) (@AV _ _ _ (@Ae _ _ _ _ E7)) A9) (@AV _ _ _ (@Ae _ _ _ _ (@CO _ _ _ _ _ _ _ (@Cs _ _ _ _ _ _ _ _ eL (pv 2 rfl IP Kx Ky) AH (A0 _)) (@CO _ _ _ _ _ _ _ (@QW _ _ _ _ _ _ _ _ _ _ _ _ Jy Jy AH (pv 1 rfl KS U9 VI) (pv 2 rfl IP Kx Ky) ⋯) (@DW _ _ _ _ _ (@Cs _ _ _ _ _ _ _ _ (@Bq _ (Cn hr)) (@AW _ _ _ _ _ _ _ _ _ _ c79 hr JT (@AB _ _ _ _ _ (pv 1 rfl KS U9 VI) (@AB _ _ _ _ _ (pv 2 rfl IP Kx Ky) AN ⋯) ⋯) NC ⋯ ⋯) AH (A0 _))))))))))),BZ (N:=["thing","top","bottom"]) (np:=1) (nl:=2) (Ac (C3 (Gz (Cw (DF (Gb (T:="tuple") AL))) (A7 (AY OT (CD DV (AE AL AS)) AM))) (Aw IE (by decide)) B8) (Ac (BX (AY Bc AL AM) AZ) (Ac (BX (AY Bc AL AM) AZ) (Ac (C3 (Gz (Cw (DF (Ad (AE AL AS)))) (Cw (DF (Ad (AE AL AS))))) (Aw IE (by decide)) B8) (Aw (DQ (AY iU AL AM) (DQ (Kv OU OU AM AL AL) (AY Ds (Ad (AE AL (AE AL AS))) AM))) (by decide)))))) rfl h⟩
theorem L6(F:Fun K "is_bounded_share" "is_bounded_share" B9 f fd)(d66:Cal P w K mg base 2 "is_share" ["thing"] (spD ⟨K,w⟩ FD false)):FnOk P w K mg base CX0 3 f fd ["thing"] (spD ⟨K,w⟩ Br false):=by
 have nd:=sc_is_bounded_share.nd
 refine F.ok sc_is_bounded_share (fun vs H Q E h=>Ba Ak h) (fun cdv A outer s H vs Q E hr h=>?_)
 exact⟨_,(@AV _ _ _ (@Ae _ _ _ _ (@CO _ _ _ _ _ _ _ (@AW _ _ _ _ _ _ _ _ _ _ d66 hr IX (@AB _ _ _ _ _ (pv 0 rfl Hq BQ BS) AN ⋯) VD ⋯ ⋯) (@DW _ _ _ _ _ (@Cs _ _ _ _ _ _ _ _ Jy (@BL _ _ _ _ _ _ _ Ay (pv 0 rfl Hq BQ BS) AH (fun _ _=>rfl)) AH (A0 _)))))),BZ (N:=["thing"]) (np:=1) (nl:=0) (Aw (DQ (Ad (AE AL AS)) (AY OU (AY Bc AL AM) AM)) (by decide)) rfl h⟩
theorem Vv(F:Fun K "is_paint" "is_paint" Dy f fd)(c02:Cal P w K mg base 3 "is_bounded_share" ["thing"] (spD ⟨K,w⟩ Br false)):FnOk P w K mg base CX0 4 f fd ["shade","share"] (spD ⟨K,w⟩ CU false):=by
 have nd:=sc_is_paint.nd
 refine F.ok sc_is_paint (fun vs H Q E h=>Ba Ak h) (fun cdv A outer s H vs Q E hr h=>?_)
 exact⟨_,(@AV _ _ _ (@Ae _ _ _ _ (@CO _ _ _ _ _ _ _ (@AW _ _ _ _ _ _ _ _ _ _ c02 hr Fc (@AB _ _ _ _ _ (pv 0 rfl To Zj Zt) AN ⋯) Fq ⋯ ⋯) (@DW _ _ _ _ _ (@AW _ _ _ _ _ _ _ _ _ _ c02 hr Fc (@AB _ _ _ _ _ (pv 1 rfl Tn Zi Zs) AN ⋯) Fq ⋯ ⋯))))),BZ (N:=["shade","share"]) (np:=2) (nl:=0) (Aw (DQ (Ad (AE AL AS)) (Ad (AE AL AS))) (by decide)) rfl h⟩
theorem Vt(F:Fun K "is_plate" "is_plate" Dx f fd)(c03:Cal P w K mg base 4 "is_paint" ["shade","share"] (spD ⟨K,w⟩ CU false))(c00:Cal P w K mg base 4 "is_within" ["thing","low","high"] (spD ⟨K,w⟩ BV false))(z_len:mg "len"=none):FnOk P w K mg base CX0 5 f fd ["data"] (spD ⟨K,w⟩ Eh false):=by
 have nd:=sc_is_plate.nd
 refine F.ok sc_is_plate (fun vs H Q E h=>Ba Ak h) (fun cdv A outer s H vs Q E hr h=>?_)
 exact⟨_,(@AO _ _ _ _ _ (@B6 _ _ _ _ _ _ _ _ (@PW.pt _ _ _ (@ES _ _ _ _ _ _ _ (@Az _ _ _ _ _ _ _ _ (@HU _ (Cn hr)) (@Ab _ _ _ _ _ _ _ _ _ Bh Qz z_len PySem.boot_len (@AB _ _ _ _ _ (pv 0 rfl Gw Bf Bg) AN ⋯) Bv By ⋯ ⋯) AH (A0 _)) (@EC _ _ _ _ (@CF _ _ _ _ (@CK _ _ _ (@AW _ _ _ _ _ _ _ _ _ _ c03 hr MA (@AB _ _ _ _ _ (@BL _ _ _ _ _ _ _ Ay (pv 0 rfl Gw Bf Bg) AH (fun _ _=>rfl)) (@AB _ _ _ _ _ (@BL _ _ _ _ _ _ _ Ay (pv 0 rfl Gw Bf Bg) AH (fun _ _=>rfl)) AN ⋯) ⋯) Ic ⋯ ⋯) ⋯))))) (@AV _ _ _ (@Ae _ _ _ _ E7)) A9) (@AV _ _ _ (@Ae _ _ _ _ (@CO _ _ _ _ _ _ _ (@AW _ _ _ _ _ _ _ _ _ _ c00 hr Hz (@AB _ _ _ _ _ (@BL _ _ _ _ _ _ _ Ay (pv 0 rfl Gw Bf Bg) AH (fun _ _=>rfl)) (@AB _ _ _ _ _ AH (@AB _ _ _ _ _ AH AN ⋯) ⋯) ⋯) CM ⋯ ⋯) (@DW _ _ _ _ _ (@AW _ _ _ _ _ _ _ _ _ _ c00 hr Hz (@AB _ _ _ _ _ (@BL _ _ _ _ _ _ _ Ay (pv 0 rfl Gw Bf Bg) AH (fun _ _=>rfl)) (@AB _ _ _ _ _ AH (@AB _ _ _ _ _ AH AN ⋯) ⋯) ⋯) CM ⋯ ⋯)))))),BZ (N:=["data"]) (np:=1) (nl:=0) (Ac (C3 (Gz (A7 (AY OT (CD DV (AE AL AS)) AM)) (Cw (DF (Ad (AE (AY Bc AL AM) (AE (AY Bc AL AM) AS)))))) (Aw IE (by decide)) B8) (Aw (DQ (Ad (AE (AY Bc AL AM) (AE AM (AE AM AS)))) (Ad (AE (AY Bc AL AM) (AE AM (AE AM AS))))) (by decide))) rfl h⟩
theorem XU(F:Fun K "is_band" "is_band" Er f fd)(c03:Cal P w K mg base 4 "is_paint" ["shade","share"] (spD ⟨K,w⟩ CU false))(c00:Cal P w K mg base 4 "is_within" ["thing","low","high"] (spD ⟨K,w⟩ BV false))(z_len:mg "len"=none):FnOk P w K mg base CX0 5 f fd ["data"] (spD ⟨K,w⟩ FU false):=by
 have nd:=sc_is_band.nd
 refine F.ok sc_is_band (fun vs H Q E h=>Ba Ak h) (fun cdv A outer s H vs Q E hr h=>?_)
 exact⟨_,(@AO _ _ _ _ _ (@B6 _ _ _ _ _ _ _ _ (@PW.pt _ _ _ (@ES _ _ _ _ _ _ _ (@Az _ _ _ _ _ _ _ _ (@HU _ (Cn hr)) (@Ab _ _ _ _ _ _ _ _ _ Bh SK z_len PySem.boot_len (@AB _ _ _ _ _ (pv 0 rfl Hr Bf Bg) AN ⋯) Bv By ⋯ ⋯) AH (A0 _)) (@EC _ _ _ _ (@CF _ _ _ _ (@CK _ _ _ (@AW _ _ _ _ _ _ _ _ _ _ c03 hr M9 (@AB _ _ _ _ _ (@BL _ _ _ _ _ _ _ Ay (pv 0 rfl Hr Bf Bg) AH (fun _ _=>rfl)) (@AB _ _ _ _ _ (@BL _ _ _ _ _ _ _ Ay (pv 0 rfl Hr Bf Bg) AH (fun _ _=>rfl)) AN ⋯) ⋯) Ic ⋯ ⋯) ⋯))))) (@AV _ _ _ (@Ae _ _ _ _ E7)) A9) (@AV _ _ _ (@Ae _ _ _ _ (@CO _ _ _ _ _ _ _ (@AW _ _ _ _ _ _ _ _ _ _ c00 hr IM (@AB _ _ _ _ _ (@BL _ _ _ _ _ _ _ Ay (pv 0 rfl Hr Bf Bg) AH (fun _ _=>rfl)) (@AB _ _ _ _ _ (@GY _ _ _ _ _ _ Ed AH) (@AB _ _ _ _ _ AH AN ⋯) ⋯) ⋯) CM ⋯ ⋯) (@DW _ _ _ _ _ (@AW _ _ _ _ _ _ _ _ _ _ c00 hr IM (@AB _ _ _ _ _ (@BL _ _ _ _ _ _ _ Ay (pv 0 rfl Hr Bf Bg) AH (fun _ _=>rfl)) (@AB _ _ _ _ _ (@GY _ _ _ _ _ _ Ed AH) (@AB _ _ _ _ _ AH AN ⋯) ⋯) ⋯) CM ⋯ ⋯)))))),BZ (N:=["data"]) (np:=1) (nl:=0) (Ac (C3 (Gz (A7 (AY OT (CD DV (AE AL AS)) AM)) (Cw (DF (Ad (AE (AY Bc AL AM) (AE (AY Bc AL AM) AS)))))) (Aw IE (by decide)) B8) (Aw (DQ (Ad (AE (AY Bc AL AM) (AE (Jo GX AM) (AE AM AS)))) (Ad (AE (AY Bc AL AM) (AE (Jo GX AM) (AE AM AS))))) (by decide))) rfl h⟩
theorem XR(F:Fun K "is_sign" "is_sign" Fu f fd){ad_SIGNS:Addr}(kc_SIGNS:mg "SIGNS"=some (.ref ad_SIGNS))(kd_SIGNS:KD ⟨K,w⟩ w ad_SIGNS Hs)(hs_SIGNS:(ad_SIGNS==sysModules)=false):FnOk P w K mg base CX0 1 f fd ["sign"] (spD ⟨K,w⟩ EI false):=by
 have nd:=sc_is_sign.nd
 refine F.ok sc_is_sign (fun vs H Q E h=>Ba Ak h) (fun cdv A outer s H vs Q E hr h=>?_)
 exact⟨_,(@AV _ _ _ (@Ae _ _ _ _ (@Cs _ _ _ _ _ _ _ _ (cP kd_SIGNS hs_SIGNS) (pv 0 rfl VU Q8 RL) (@P4 _ _ (.ref ad_SIGNS) _ _ Pl kc_SIGNS rfl Zn) (by with_unfolding_all rfl)))),BZ (N:=["sign"]) (np:=1) (nl:=0) (Aw (i9 AL) (by decide)) rfl h⟩
theorem Pd(F:Fun K "is_word_text" "is_word_text" B5 f fd)(d78:Cal P w K mg base 1 "is_sign" ["sign"] (spD ⟨K,w⟩ EI false))(z_len:mg "len"=none)(z_str:mg "str"=none)(z_isinstance:mg "isinstance"=none)(z_all:mg "all"=none):FnOk P w K mg base CX0 2 f fd ["thing"] (spD ⟨K,w⟩ DK false):=by
 have nd:=sc_is_word_text.nd
 refine F.ok sc_is_word_text (fun vs H Q E h=>Ba Ak h) (fun cdv A outer s H vs Q E hr h=>?_)
 exact⟨_,(@AO _ _ _ _ _ (@B6 _ _ _ _ _ _ _ _ (@PW.pt _ _ _ (@ES _ _ _ _ _ _ _ (@CF _ _ _ _ (@CK _ _ _ (@Ab _ _ _ _ _ _ _ _ _ CB JS z_isinstance PyProof.Rows.boot_isinstance (@AB _ _ _ _ _ (pv 0 rfl HS BQ BS) (@AB _ _ _ _ _ (GZ M1 z_str PySem.Pv.boot_str NX N8) AN ⋯) ⋯) BD BE ⋯ ⋯) ⋯)) (@EC _ _ _ _ (@Az _ _ _ _ _ _ _ _ Vm (@Ab _ _ _ _ _ _ _ _ _ Bh M3 z_len PySem.boot_len (@AB _ _ _ _ _ (pv 0 rfl HS BQ BS) AN ⋯) Bv By ⋯ ⋯) AH (A0 _))))) (@AV _ _ _ (@Ae _ _ _ _ E7)) A9) (@AV _ _ _ (@Ae _ _ _ _ (@Ab _ _ _ _ _ _ _ _ _ (@L5 _ rfl) M5 z_all PyProof.Rows.boot_all (@AB _ _ _ _ _ (@Sx _ ["sign"] 1 [] _ _ _ _ _ _ _ _ _ _ rfl (@Qo _ ["sign"] 1 [] _ ["thing"] (AD B5) rfl rfl ∅) (@XM _ _ _ _ (pv 0 rfl HS BQ BS)) (fun cl fp s3 H3=>(@BK _ _ 0 _ OV rfl (HZ ∅) (Or.inr (G9 ∅)))) (fun cl fp s3 H3=>P1) (fun cl fp s3 H3=>(@AW _ _ _ _ _ _ _ _ _ _ d78 hr (Ly ∅) (@AB _ _ _ _ _ (pv 0 rfl (Em ∅) Q8 RL) AN ⋯) Wj ⋯ ⋯)) ⋯) AN ⋯) P7 QC ⋯ ⋯)))),BZ (N:=["thing"]) (np:=1) (nl:=0) (Ac (C3 (Gz (Cw (DF (Gb (T:="str") AL))) (A7 (AY av (CD DV (AE AL AS)) AM))) (Aw IE (by decide)) B8) (Aw (CD VM (AE (Xp (Xi AL) AZ YC (Ad (AE AL AS))) AS)) (by decide))) rfl h⟩
theorem XO(F:Fun K "is_word" "is_word" Eo f fd)(c03:Cal P w K mg base 4 "is_paint" ["shade","share"] (spD ⟨K,w⟩ CU false))(c90:Cal P w K mg base 4 "is_word_text" ["thing"] (spD ⟨K,w⟩ DK false))(z_len:mg "len"=none):FnOk P w K mg base CX0 5 f fd ["data"] (spD ⟨K,w⟩ FR false):=by
 have nd:=sc_is_word.nd
 refine F.ok sc_is_word (fun vs H Q E h=>Ba Ak h) (fun cdv A outer s H vs Q E hr h=>?_)
 exact⟨_,(@AV _ _ _ (@Ae _ _ _ _ (@CO _ _ _ _ _ _ _ (@Cs _ _ _ _ _ _ _ _ (@Bq _ (Cn hr)) (@Ab _ _ _ _ _ _ _ _ _ Bh SH z_len PySem.boot_len (@AB _ _ _ _ _ (pv 0 rfl JW Bf Bg) AN ⋯) Bv By ⋯ ⋯) AH (A0 _)) (@CO _ _ _ _ _ _ _ (@AW _ _ _ _ _ _ _ _ _ _ c90 hr Kp (@AB _ _ _ _ _ (@BL _ _ _ _ _ _ _ Ay (pv 0 rfl JW Bf Bg) AH (fun _ _=>rfl)) AN ⋯) Oy ⋯ ⋯) (@DW _ _ _ _ _ (@AW _ _ _ _ _ _ _ _ _ _ c03 hr M6 (@AB _ _ _ _ _ (@BL _ _ _ _ _ _ _ Ay (pv 0 rfl JW Bf Bg) AH (fun _ _=>rfl)) (@AB _ _ _ _ _ (@BL _ _ _ _ _ _ _ Ay (pv 0 rfl JW Bf Bg) AH (fun _ _=>rfl)) AN ⋯) ⋯) Ic ⋯ ⋯)))))),BZ (N:=["data"]) (np:=1) (nl:=0) (Aw (DQ (AY Ds (CD DV (AE AL AS)) AM) (DQ (Ad (AE (AY Bc AL AM) AS)) (Ad (AE (AY Bc AL AM) (AE (AY Bc AL AM) AS))))) (by decide)) rfl h⟩
theorem L7(F:Fun K "are_stencil_rows" "are_stencil_rows" BW f fd)(c61:Cal P w K mg base 1 "is_text_of" ["thing","signs","low","high"] (spD ⟨K,w⟩ CA false))(z_len:mg "len"=none)(z_tuple:mg "tuple"=none)(z_isinstance:mg "isinstance"=none)(z_all:mg "all"=none):FnOk P w K mg base CX0 2 f fd ["thing"] (spD ⟨K,w⟩ CL false):=by
 have nd:=sc_are_stencil_rows.nd
 refine F.ok sc_are_stencil_rows (fun vs H Q E h=>Ba Ak h) (fun cdv A outer s H vs Q E hr h=>?_)
 exact⟨_,(@AO _ _ _ _ _ (@B6 _ _ _ _ _ _ _ _ (@PW.pt _ _ _ (@ES _ _ _ _ _ _ _ (@CF _ _ _ _ (@CK _ _ _ (@Ab _ _ _ _ _ _ _ _ _ CB IB z_isinstance PyProof.Rows.boot_isinstance (@AB _ _ _ _ _ (pv 0 rfl EL BQ BS) (@AB _ _ _ _ _ (GZ Jl z_tuple PySem.Pv.boot_tuple FQ FV) AN ⋯) ⋯) BD BE ⋯ ⋯) ⋯)) (@EC _ _ _ _ (@CF _ _ _ _ (@NS _ _ _ _ _ _ _ _ _ _ _ _ Jy Jy AH (@Ab _ _ _ _ _ _ _ _ _ Bh Kq z_len PySem.boot_len (@AB _ _ _ _ _ (pv 0 rfl EL BQ BS) AN ⋯) Bv By ⋯ ⋯) AH ⋯))))) (@AV _ _ _ (@Ae _ _ _ _ E7)) A9) (@AO _ _ _ _ _ (@B6 _ _ _ _ _ _ _ _ (@CF _ _ _ _ (@CK _ _ _ (@Ab _ _ _ _ _ _ _ _ _ (@L5 _ rfl) HC z_all PyProof.Rows.boot_all (@AB _ _ _ _ _ (@Sx _ ["row"] 1 [] _ _ _ _ _ _ _ _ _ _ rfl (@Qo _ ["row"] 1 [] _ ["thing"] (AD BW) rfl rfl ∅) (@XJ _ _ _ _ (pv 0 rfl EL BQ BS)) (fun cl fp s3 H3=>(@BK _ _ 0 _ LV rfl (HZ ∅) (Or.inr (G9 ∅)))) (fun cl fp s3 H3=>P1) (fun cl fp s3 H3=>(@AW _ _ _ _ _ _ _ _ _ _ c61 hr (Ly ∅) (@AB _ _ _ _ _ (pv 0 rfl (Em ∅) Ia Ih) (@AB _ _ _ _ _ Ao (@AB _ _ _ _ _ AH (@AB _ _ _ _ _ AH AN ⋯) ⋯) ⋯) ⋯) Lq ⋯ ⋯)) ⋯) AN ⋯) P7 QC ⋯ ⋯) ⋯)) (@AV _ _ _ (@Ae _ _ _ _ E7)) A9) (@AV _ _ _ (@Ae _ _ _ _ (@Ab _ _ _ _ _ _ _ _ _ (@L5 _ rfl) HC z_all PyProof.Rows.boot_all (@AB _ _ _ _ _ (@Sx _ ["row","thing"] 1 [0] _ _ _ _ _ _ _ _ _ _ rfl (@Qo _ ["row","thing"] 1 [0] _ ["thing"] (AD BW) rfl rfl ∅) (@XJ _ _ _ _ (pv 0 rfl EL BQ BS)) (fun cl fp s3 H3=>(@BK _ _ 0 _ LU rfl (HZ ∅) (Or.inr (G9 ∅)))) (fun cl fp s3 H3=>P1) (fun cl fp s3 H3=>(@Cs _ _ _ _ _ _ _ _ (@Bq _ (Cn hr)) (@Ab _ _ _ _ _ _ _ _ _ Bh (Ly ∅) z_len PySem.boot_len (@AB _ _ _ _ _ (pv 0 rfl (Em ∅) Ia Ih) AN ⋯) Bv By ⋯ ⋯) (@Ab _ _ _ _ _ _ _ _ _ Bh (Ly ∅) z_len PySem.boot_len (@AB _ _ _ _ _ (@BL _ _ _ _ _ _ _ Ay (pv 1 rfl (NG ∅) BQ BS) AH (fun _ _=>rfl)) AN ⋯) Bv By ⋯ ⋯) (A0 _))) ⋯) AN ⋯) P7 QC ⋯ ⋯))))),BZ (N:=["thing"]) (np:=1) (nl:=0) (Ac (C3 (Gz (Cw (DF (Gb (T:="tuple") AL))) (Cw (A7 (Kv OU OU AM (CD DV (AE AL AS)) AM)))) (Aw IE (by decide)) B8) (Ac (C3 (Cw (DF (CD VM (AE (Xp (Xh AL) AZ YC (Ad (AE AL (AE Be (AE AM (AE AM AS)))))) AS)))) (Aw IE (by decide)) B8) (Aw (CD VM (AE (Xp (Xh AL) AZ YC (AY Ds (CD DV (AE AL AS)) (CD DV (AE (AY Bc AL AM) AS)))) AS)) (by decide)))) rfl h⟩
theorem Ro(F:Fun K "is_stencil" "is_stencil" Cq f fd)(c03:Cal P w K mg base 4 "is_paint" ["shade","share"] (spD ⟨K,w⟩ CU false))(c67:Cal P w K mg base 4 "are_stencil_rows" ["thing"] (spD ⟨K,w⟩ CL false))(z_len:mg "len"=none):FnOk P w K mg base CX0 5 f fd ["data"] (spD ⟨K,w⟩ DC false):=by
 have nd:=sc_is_stencil.nd
 refine F.ok sc_is_stencil (fun vs H Q E h=>Ba Ak h) (fun cdv A outer s H vs Q E hr h=>?_)
 exact⟨_,(@AV _ _ _ (@Ae _ _ _ _ (@CO _ _ _ _ _ _ _ (@Cs _ _ _ _ _ _ _ _ (@Bq _ (Cn hr)) (@Ab _ _ _ _ _ _ _ _ _ Bh Oj z_len PySem.boot_len (@AB _ _ _ _ _ (pv 0 rfl Gv Bf Bg) AN ⋯) Bv By ⋯ ⋯) AH (A0 _)) (@CO _ _ _ _ _ _ _ (@AW _ _ _ _ _ _ _ _ _ _ c67 hr Hy (@AB _ _ _ _ _ (@BL _ _ _ _ _ _ _ Ay (pv 0 rfl Gv Bf Bg) AH (fun _ _=>rfl)) AN ⋯) Lr ⋯ ⋯) (@DW _ _ _ _ _ (@AW _ _ _ _ _ _ _ _ _ _ c03 hr LB (@AB _ _ _ _ _ (@BL _ _ _ _ _ _ _ Ay (pv 0 rfl Gv Bf Bg) AH (fun _ _=>rfl)) (@AB _ _ _ _ _ (@BL _ _ _ _ _ _ _ Ay (pv 0 rfl Gv Bf Bg) AH (fun _ _=>rfl)) AN ⋯) ⋯) Ic ⋯ ⋯)))))),BZ (N:=["data"]) (np:=1) (nl:=0) (Aw (DQ (AY Ds (CD DV (AE AL AS)) AM) (DQ (Ad (AE (AY Bc AL AM) AS)) (Ad (AE (AY Bc AL AM) (AE (AY Bc AL AM) AS))))) (by decide)) rfl h⟩
theorem Vx(F:Fun K "is_empty" "is_empty" FC f fd)(z_len:mg "len"=none):FnOk P w K mg base CX0 1 f fd ["data"] (spD ⟨K,w⟩ D0 false):=by
 have nd:=sc_is_empty.nd
 refine F.ok sc_is_empty (fun vs H Q E h=>Ba Ak h) (fun cdv A outer s H vs Q E hr h=>?_)
 exact⟨_,(@AV _ _ _ (@Ae _ _ _ _ (@Cs _ _ _ _ _ _ _ _ (@Bq _ (Cn hr)) (@Ab _ _ _ _ _ _ _ _ _ Bh Q1 z_len PySem.boot_len (@AB _ _ _ _ _ (pv 0 rfl Tq Bf Bg) AN ⋯) Bv By ⋯ ⋯) AH (A0 _)))),BZ (N:=["data"]) (np:=1) (nl:=0) (Aw (AY Ds (CD DV (AE AL AS)) AM) (by decide)) rfl h⟩
theorem Vw(F:Fun K "is_glass" "is_glass" Ef f fd)(c02:Cal P w K mg base 3 "is_bounded_share" ["thing"] (spD ⟨K,w⟩ Br false))(z_len:mg "len"=none):FnOk P w K mg base CX0 4 f fd ["data"] (spD ⟨K,w⟩ Ei false):=by
 have nd:=sc_is_glass.nd
 refine F.ok sc_is_glass (fun vs H Q E h=>Ba Ak h) (fun cdv A outer s H vs Q E hr h=>?_)
 exact⟨_,(@AV _ _ _ (@Ae _ _ _ _ (@CO _ _ _ _ _ _ _ (@Cs _ _ _ _ _ _ _ _ (@Bq _ (Cn hr)) (@Ab _ _ _ _ _ _ _ _ _ Bh Q0 z_len PySem.boot_len (@AB _ _ _ _ _ (pv 0 rfl NI Bf Bg) AN ⋯) Bv By ⋯ ⋯) AH (A0 _)) (@DW _ _ _ _ _ (@AW _ _ _ _ _ _ _ _ _ _ c02 hr IW (@AB _ _ _ _ _ (@BL _ _ _ _ _ _ _ Ay (pv 0 rfl NI Bf Bg) AH (fun _ _=>rfl)) AN ⋯) Fq ⋯ ⋯))))),BZ (N:=["data"]) (np:=1) (nl:=0) (Aw (DQ (AY Ds (CD DV (AE AL AS)) AM) (Ad (AE (AY Bc AL AM) AS))) (by decide)) rfl h⟩
theorem Vu(F:Fun K "is_place" "is_place" FA f fd)(c00:Cal P w K mg base 2 "is_within" ["thing","low","high"] (spD ⟨K,w⟩ BV false)):FnOk P w K mg base CX0 3 f fd ["thing"] (spD ⟨K,w⟩ CT false):=by
 have nd:=sc_is_place.nd
 refine F.ok sc_is_place (fun vs H Q E h=>Ba Ak h) (fun cdv A outer s H vs Q E hr h=>?_)
 exact⟨_,(@AV _ _ _ (@Ae _ _ _ _ (@AW _ _ _ _ _ _ _ _ _ _ c00 hr Le (@AB _ _ _ _ _ (pv 0 rfl Tj BQ BS) (@AB _ _ _ _ _ (@GY _ _ _ _ _ _ Ed AH) (@AB _ _ _ _ _ AH AN ⋯) ⋯) ⋯) CM ⋯ ⋯))),BZ (N:=["thing"]) (np:=1) (nl:=0) (Aw (Ad (AE AL (AE (Jo GX AM) (AE AM AS)))) (by decide)) rfl h⟩
theorem UD(F:Fun K "is_window" "is_window" DH f fd)(c07:Cal P w K mg base 3 "is_place" ["thing"] (spD ⟨K,w⟩ CT false))(c00:Cal P w K mg base 3 "is_within" ["thing","low","high"] (spD ⟨K,w⟩ BV false))(z_len:mg "len"=none):FnOk P w K mg base CX0 4 f fd ["data"] (spD ⟨K,w⟩ Dh false):=by
 have nd:=sc_is_window.nd
 refine F.ok sc_is_window (fun vs H Q E h=>Ba Ak h) (fun cdv A outer s H vs Q E hr h=>?_)
 exact⟨_,(@AO _ _ _ _ _ (@B6 _ _ _ _ _ _ _ _ (@PW.pt _ _ _ (@ES _ _ _ _ _ _ _ (@Az _ _ _ _ _ _ _ _ (@HU _ (Cn hr)) (@Ab _ _ _ _ _ _ _ _ _ Bh Ph z_len PySem.boot_len (@AB _ _ _ _ _ (pv 0 rfl GO Bf Bg) AN ⋯) Bv By ⋯ ⋯) AH (A0 _)) (@ES _ _ _ _ _ _ _ (@CF _ _ _ _ (@CK _ _ _ (@AW _ _ _ _ _ _ _ _ _ _ c07 hr Hx (@AB _ _ _ _ _ (@BL _ _ _ _ _ _ _ Ay (pv 0 rfl GO Bf Bg) AH (fun _ _=>rfl)) AN ⋯) Ib ⋯ ⋯) ⋯)) (@EC _ _ _ _ (@CF _ _ _ _ (@CK _ _ _ (@AW _ _ _ _ _ _ _ _ _ _ c07 hr Hx (@AB _ _ _ _ _ (@BL _ _ _ _ _ _ _ Ay (pv 0 rfl GO Bf Bg) AH (fun _ _=>rfl)) AN ⋯) Ib ⋯ ⋯) ⋯)))))) (@AV _ _ _ (@Ae _ _ _ _ E7)) A9) (@AV _ _ _ (@Ae _ _ _ _ (@CO _ _ _ _ _ _ _ (@AW _ _ _ _ _ _ _ _ _ _ c00 hr HM (@AB _ _ _ _ _ (@BL _ _ _ _ _ _ _ Ay (pv 0 rfl GO Bf Bg) AH (fun _ _=>rfl)) (@AB _ _ _ _ _ AH (@AB _ _ _ _ _ AH AN ⋯) ⋯) ⋯) CM ⋯ ⋯) (@DW _ _ _ _ _ (@AW _ _ _ _ _ _ _ _ _ _ c00 hr HM (@AB _ _ _ _ _ (@BL _ _ _ _ _ _ _ Ay (pv 0 rfl GO Bf Bg) AH (fun _ _=>rfl)) (@AB _ _ _ _ _ AH (@AB _ _ _ _ _ AH AN ⋯) ⋯) ⋯) CM ⋯ ⋯)))))),BZ (N:=["data"]) (np:=1) (nl:=0) (Ac (C3 (Gz (A7 (AY OT (CD DV (AE AL AS)) AM)) (Gz (Cw (DF (Ad (AE (AY Bc AL AM) AS)))) (Cw (DF (Ad (AE (AY Bc AL AM) AS)))))) (Aw IE (by decide)) B8) (Aw (DQ (Ad (AE (AY Bc AL AM) (AE AM (AE AM AS)))) (Ad (AE (AY Bc AL AM) (AE AM (AE AM AS))))) (by decide))) rfl h⟩
theorem XQ(F:Fun K "is_turn" "is_turn" Ep f fd)(c62:Cal P w K mg base 2 "is_truth" ["thing"] (spD ⟨K,w⟩ HY false))(c00:Cal P w K mg base 2 "is_within" ["thing","low","high"] (spD ⟨K,w⟩ BV false))(z_len:mg "len"=none):FnOk P w K mg base CX0 3 f fd ["data"] (spD ⟨K,w⟩ FT false):=by
 have nd:=sc_is_turn.nd
 refine F.ok sc_is_turn (fun vs H Q E h=>Ba Ak h) (fun cdv A outer s H vs Q E hr h=>?_)
 exact⟨_,(@AV _ _ _ (@Ae _ _ _ _ (@CO _ _ _ _ _ _ _ (@Cs _ _ _ _ _ _ _ _ (@Bq _ (Cn hr)) (@Ab _ _ _ _ _ _ _ _ _ Bh SI z_len PySem.boot_len (@AB _ _ _ _ _ (pv 0 rfl LJ Bf Bg) AN ⋯) Bv By ⋯ ⋯) AH (A0 _)) (@CO _ _ _ _ _ _ _ (@AW _ _ _ _ _ _ _ _ _ _ c00 hr L8 (@AB _ _ _ _ _ (@BL _ _ _ _ _ _ _ Ay (pv 0 rfl LJ Bf Bg) AH (fun _ _=>rfl)) (@AB _ _ _ _ _ AH (@AB _ _ _ _ _ AH AN ⋯) ⋯) ⋯) CM ⋯ ⋯) (@DW _ _ _ _ _ (@AW _ _ _ _ _ _ _ _ _ _ c62 hr M7 (@AB _ _ _ _ _ (@BL _ _ _ _ _ _ _ Ay (pv 0 rfl LJ Bf Bg) AH (fun _ _=>rfl)) AN ⋯) N9 ⋯ ⋯)))))),BZ (N:=["data"]) (np:=1) (nl:=0) (Aw (DQ (AY Ds (CD DV (AE AL AS)) AM) (DQ (Ad (AE (AY Bc AL AM) (AE AM (AE AM AS)))) (Ad (AE (AY Bc AL AM) AS)))) (by decide)) rfl h⟩
theorem UE(F:Fun K "are_tiles" "are_tiles" Df f fd)(c00:Cal P w K mg base 2 "is_within" ["thing","low","high"] (spD ⟨K,w⟩ BV false))(z_len:mg "len"=none):FnOk P w K mg base CX0 3 f fd ["data"] (spD ⟨K,w⟩ Di false):=by
 have nd:=sc_are_tiles.nd
 refine F.ok sc_are_tiles (fun vs H Q E h=>Ba Ak h) (fun cdv A outer s H vs Q E hr h=>?_)
 exact⟨_,(@AO _ _ _ _ _ (@B6 _ _ _ _ _ _ _ _ (@PW.pt _ _ _ (@ES _ _ _ _ _ _ _ (@Az _ _ _ _ _ _ _ _ (@HU _ (Cn hr)) (@Ab _ _ _ _ _ _ _ _ _ Bh Pn z_len PySem.boot_len (@AB _ _ _ _ _ (pv 0 rfl GP Bf Bg) AN ⋯) Bv By ⋯ ⋯) AH (A0 _)) (@ES _ _ _ _ _ _ _ (@CF _ _ _ _ (@CK _ _ _ (@AW _ _ _ _ _ _ _ _ _ _ c00 hr D1 (@AB _ _ _ _ _ (@BL _ _ _ _ _ _ _ Ay (pv 0 rfl GP Bf Bg) AH (fun _ _=>rfl)) (@AB _ _ _ _ _ AH (@AB _ _ _ _ _ AH AN ⋯) ⋯) ⋯) CM ⋯ ⋯) ⋯)) (@EC _ _ _ _ (@CF _ _ _ _ (@CK _ _ _ (@AW _ _ _ _ _ _ _ _ _ _ c00 hr D1 (@AB _ _ _ _ _ (@BL _ _ _ _ _ _ _ Ay (pv 0 rfl GP Bf Bg) AH (fun _ _=>rfl)) (@AB _ _ _ _ _ AH (@AB _ _ _ _ _ AH AN ⋯) ⋯) ⋯) CM ⋯ ⋯) ⋯)))))) (@AV _ _ _ (@Ae _ _ _ _ E7)) A9) (@AV _ _ _ (@Ae _ _ _ _ (@CO _ _ _ _ _ _ _ (@AW _ _ _ _ _ _ _ _ _ _ c00 hr D1 (@AB _ _ _ _ _ (@BL _ _ _ _ _ _ _ Ay (pv 0 rfl GP Bf Bg) AH (fun _ _=>rfl)) (@AB _ _ _ _ _ (@GY _ _ _ _ _ _ Ed AH) (@AB _ _ _ _ _ AH AN ⋯) ⋯) ⋯) CM ⋯ ⋯) (@DW _ _ _ _ _ (@AW _ _ _ _ _ _ _ _ _ _ c00 hr D1 (@AB _ _ _ _ _ (@BL _ _ _ _ _ _ _ Ay (pv 0 rfl GP Bf Bg) AH (fun _ _=>rfl)) (@AB _ _ _ _ _ (@GY _ _ _ _ _ _ Ed AH) (@AB _ _ _ _ _ AH AN ⋯) ⋯) ⋯) CM ⋯ ⋯)))))),BZ (N:=["data"]) (np:=1) (nl:=0) (Ac (C3 (Gz (A7 (AY OT (CD DV (AE AL AS)) AM)) (Gz (Cw (DF (Ad (AE (AY Bc AL AM) (AE AM (AE AM AS)))))) (Cw (DF (Ad (AE (AY Bc AL AM) (AE AM (AE AM AS)))))))) (Aw IE (by decide)) B8) (Aw (DQ (Ad (AE (AY Bc AL AM) (AE (Jo GX AM) (AE AM AS)))) (Ad (AE (AY Bc AL AM) (AE (Jo GX AM) (AE AM AS))))) (by decide))) rfl h⟩
theorem XT(F:Fun K "is_data" "is_data" DM f fd)(e00:Cal P w K mg base 5 "is_plate" ["data"] (spD ⟨K,w⟩ Eh false))(e03:Cal P w K mg base 5 "is_band" ["data"] (spD ⟨K,w⟩ FU false))(e04:Cal P w K mg base 5 "is_word" ["data"] (spD ⟨K,w⟩ FR false))(d96:Cal P w K mg base 5 "is_stencil" ["data"] (spD ⟨K,w⟩ DC false))(e01:Cal P w K mg base 5 "is_empty" ["data"] (spD ⟨K,w⟩ D0 false))(e02:Cal P w K mg base 5 "is_glass" ["data"] (spD ⟨K,w⟩ Ei false))(d98:Cal P w K mg base 5 "is_window" ["data"] (spD ⟨K,w⟩ Dh false))(e05:Cal P w K mg base 5 "is_turn" ["data"] (spD ⟨K,w⟩ FT false))(d99:Cal P w K mg base 5 "are_tiles" ["data"] (spD ⟨K,w⟩ Di false))(z_tuple:mg "tuple"=none)(z_isinstance:mg "isinstance"=none)(z_str:mg "str"=none){ad_FORMS:Addr}{ta_FORMS:List (Str×Addr)}(kc_FORMS:mg "FORMS"=some (.ref ad_FORMS))(kf_FORMS:KF ⟨K,w⟩ w ad_FORMS ta_FORMS)(hs_FORMS:(ad_FORMS==sysModules)=false)(tm_FORMS:TMs (jM P w K mg base 5) ta_FORMS C0):FnOk P w K mg base CX0 6 f fd ["kind","data"] (spD ⟨K,w⟩ Es false):=by
 have nd:=sc_is_data.nd
 refine F.ok sc_is_data (fun vs H Q E h=>Ba Ak h) (fun cdv A outer s H vs Q E hr h=>?_)
 exact⟨_,(@AV _ _ _ (@Ae _ _ _ _ (@CO _ _ _ _ _ _ _ (@Ab _ _ _ _ _ _ _ _ _ CB H0 z_isinstance PyProof.Rows.boot_isinstance (@AB _ _ _ _ _ (pv 0 rfl LK Q9 RM) (@AB _ _ _ _ _ (GZ SJ z_str PySem.Pv.boot_str NX N8) AN ⋯) ⋯) BD BE ⋯ ⋯) (@CO _ _ _ _ _ _ _ (@Cs _ _ _ _ _ _ _ _ (cO kf_FORMS hs_FORMS) (pv 0 rfl LK Q9 RM) (@P4 _ _ (.ref ad_FORMS) _ _ K0 kc_FORMS rfl TR) (by with_unfolding_all rfl)) (@CO _ _ _ _ _ _ _ (@Ab _ _ _ _ _ _ _ _ _ CB H0 z_isinstance PyProof.Rows.boot_isinstance (@AB _ _ _ _ _ (pv 1 rfl O9 Bf Bg) (@AB _ _ _ _ _ (GZ Pm z_tuple PySem.Pv.boot_tuple FQ FV) AN ⋯) ⋯) BD BE ⋯ ⋯) (@DW _ _ _ _ _ (@aT _ _ _ _ _ _ _ _ _ _ (cx hr) (@BL _ _ _ _ _ _ _ (ia kf_FORMS) (@P4 _ _ (.ref ad_FORMS) _ _ K0 kc_FORMS rfl TR) (pv 0 rfl LK Q9 RM) (fun _ _=>rfl)) (@AB _ _ _ _ _ (pv 1 rfl O9 Bf Bg) AN ⋯) ⋯ ⋯))))))),BZ (N:=["kind","data"]) (np:=2) (nl:=0) (Aw (DQ (Gb (T:="str") AL) (DQ (jA tm_FORMS AL) (DQ (Gb (T:="tuple") AL) (dD tm_FORMS AL (AE AL AS))))) (by decide)) rfl h⟩
theorem Vn(F:Fun K "row_name" "row_name" Ff f fd):FnOk P w K mg base CX0 1 f fd ["row"] (spD ⟨K,w⟩ HX false):=by
 have nd:=sc_row_name.nd
 refine F.ok sc_row_name (fun vs H Q E h=>Ba Ak h) (fun cdv A outer s H vs Q E hr h=>?_)
 exact⟨_,(@AV _ _ _ (@Ae _ _ _ _ (@BL _ _ _ _ _ _ _ Ay (pv 0 rfl Td Ia Ih) AH (fun _ _=>rfl)))),BZ (N:=["row"]) (np:=1) (nl:=0) (Aw (AY Bc AL AM) (by decide)) rfl h⟩
theorem Rm(F:Fun K "row_holder" "row_holder" EN f fd):FnOk P w K mg base CX0 1 f fd ["row"] (spD ⟨K,w⟩ C9 false):=by
 have nd:=sc_row_holder.nd
 refine F.ok sc_row_holder (fun vs H Q E h=>Ba Ak h) (fun cdv A outer s H vs Q E hr h=>?_)
 exact⟨_,(@AV _ _ _ (@Ae _ _ _ _ (@BL _ _ _ _ _ _ _ Ay (pv 0 rfl QE Ia Ih) AH (fun _ _=>rfl)))),BZ (N:=["row"]) (np:=1) (nl:=0) (Aw (AY Bc AL AM) (by decide)) rfl h⟩
theorem UB(F:Fun K "row_shown" "row_shown" E5 f fd):FnOk P w K mg base CX0 1 f fd ["row"] (spD ⟨K,w⟩ Hu false):=by
 have nd:=sc_row_shown.nd
 refine F.ok sc_row_shown (fun vs H Q E h=>Ba Ak h) (fun cdv A outer s H vs Q E hr h=>?_)
 exact⟨_,(@AV _ _ _ (@Ae _ _ _ _ (@BL _ _ _ _ _ _ _ Ay (pv 0 rfl RY Ia Ih) AH (fun _ _=>rfl)))),BZ (N:=["row"]) (np:=1) (nl:=0) (Aw (AY Bc AL AM) (by decide)) rfl h⟩
theorem Vo(F:Fun K "row_kind" "row_kind" Fg f fd):FnOk P w K mg base CX0 1 f fd ["row"] (spD ⟨K,w⟩ Iw false):=by
 have nd:=sc_row_kind.nd
 refine F.ok sc_row_kind (fun vs H Q E h=>Ba Ak h) (fun cdv A outer s H vs Q E hr h=>?_)
 exact⟨_,(@AV _ _ _ (@Ae _ _ _ _ (@BL _ _ _ _ _ _ _ Ay (pv 0 rfl Te Ia Ih) AH (fun _ _=>rfl)))),BZ (N:=["row"]) (np:=1) (nl:=0) (Aw (AY Bc AL AM) (by decide)) rfl h⟩
theorem Vp(F:Fun K "row_data" "row_data" Fh f fd):FnOk P w K mg base CX0 1 f fd ["row"] (spD ⟨K,w⟩ Iy false):=by
 have nd:=sc_row_data.nd
 refine F.ok sc_row_data (fun vs H Q E h=>Ba Ak h) (fun cdv A outer s H vs Q E hr h=>?_)
 exact⟨_,(@AV _ _ _ (@Ae _ _ _ _ (@BL _ _ _ _ _ _ _ Ay (pv 0 rfl Tf Ia Ih) AH (fun _ _=>rfl)))),BZ (N:=["row"]) (np:=1) (nl:=0) (Aw (AY Bc AL AM) (by decide)) rfl h⟩
theorem af(F:Fun K "row_x" "row_x" JY f fd):FnOk P w K mg base CX0 1 f fd ["row"] (spD ⟨K,w⟩ L4 false):=by
 have nd:=sc_row_x.nd
 refine F.ok sc_row_x (fun vs H Q E h=>Ba Ak h) (fun cdv A outer s H vs Q E hr h=>?_)
 exact⟨_,(@AV _ _ _ (@Ae _ _ _ _ (@BL _ _ _ _ _ _ _ Ay (pv 0 rfl Yy Ia Ih) AH (fun _ _=>rfl)))),BZ (N:=["row"]) (np:=1) (nl:=0) (Aw (AY Bc AL AM) (by decide)) rfl h⟩
theorem ae(F:Fun K "row_y" "row_y" JX f fd):FnOk P w K mg base CX0 1 f fd ["row"] (spD ⟨K,w⟩ L3 false):=by
 have nd:=sc_row_y.nd
 refine F.ok sc_row_y (fun vs H Q E h=>Ba Ak h) (fun cdv A outer s H vs Q E hr h=>?_)
 exact⟨_,(@AV _ _ _ (@Ae _ _ _ _ (@BL _ _ _ _ _ _ _ Ay (pv 0 rfl Yx Ia Ih) AH (fun _ _=>rfl)))),BZ (N:=["row"]) (np:=1) (nl:=0) (Aw (AY Bc AL AM) (by decide)) rfl h⟩
theorem ZG(F:Fun K "is_row" "is_row" CP f fd)(c94:Cal P w K mg base 6 "is_name" ["thing"] (spD ⟨K,w⟩ EJ false))(d67:Cal P w K mg base 6 "row_name" ["row"] (spD ⟨K,w⟩ HX false))(c68:Cal P w K mg base 6 "row_holder" ["row"] (spD ⟨K,w⟩ C9 false))(c07:Cal P w K mg base 6 "is_place" ["thing"] (spD ⟨K,w⟩ CT false))(d90:Cal P w K mg base 6 "row_y" ["row"] (spD ⟨K,w⟩ L3 false))(d91:Cal P w K mg base 6 "row_x" ["row"] (spD ⟨K,w⟩ L4 false))(d79:Cal P w K mg base 6 "is_data" ["kind","data"] (spD ⟨K,w⟩ Es false))(d68:Cal P w K mg base 6 "row_data" ["row"] (spD ⟨K,w⟩ Iy false))(d69:Cal P w K mg base 6 "row_kind" ["row"] (spD ⟨K,w⟩ Iw false))(c62:Cal P w K mg base 6 "is_truth" ["thing"] (spD ⟨K,w⟩ HY false))(d09:Cal P w K mg base 6 "row_shown" ["row"] (spD ⟨K,w⟩ Hu false))(z_len:mg "len"=none)(z_tuple:mg "tuple"=none)(z_isinstance:mg "isinstance"=none):FnOk P w K mg base CX0 7 f fd ["thing"] (spD ⟨K,w⟩ Hv false):=by
 have nd:=sc_is_row.nd
 refine F.ok sc_is_row (fun vs H Q E h=>Ba Ak h) (fun cdv A outer s H vs Q E hr h=>?_)
 exact⟨_,(@AO _ _ _ _ _ (@B6 _ _ _ _ _ _ _ _ (@PW.pt _ _ _ (@ES _ _ _ _ _ _ _ (@CF _ _ _ _ (@CK _ _ _ (@Ab _ _ _ _ _ _ _ _ _ CB L9 z_isinstance PyProof.Rows.boot_isinstance (@AB _ _ _ _ _ (pv 0 rfl Ec BQ BS) (@AB _ _ _ _ _ (GZ Qw z_tuple PySem.Pv.boot_tuple FQ FV) AN ⋯) ⋯) BD BE ⋯ ⋯) ⋯)) (@EC _ _ _ _ (@Az _ _ _ _ _ _ _ _ (@HU _ (Cn hr)) (@Ab _ _ _ _ _ _ _ _ _ Bh U2 z_len PySem.boot_len (@AB _ _ _ _ _ (pv 0 rfl Ec BQ BS) AN ⋯) Bv By ⋯ ⋯) AH (A0 _))))) (@AV _ _ _ (@Ae _ _ _ _ E7)) A9) (@AO _ _ _ _ _ (@B6 _ _ _ _ _ _ _ _ (@CF _ _ _ _ (@CK _ _ _ (@AW _ _ _ _ _ _ _ _ _ _ c94 hr KI (@AB _ _ _ _ _ (@AW _ _ _ _ _ _ _ _ _ _ d67 hr Nz (@AB _ _ _ _ _ (pv 0 rfl Ec BQ BS) AN ⋯) VA ⋯ ⋯) AN ⋯) PX ⋯ ⋯) ⋯)) (@AV _ _ _ (@Ae _ _ _ _ E7)) A9) (@AO _ _ _ _ _ (@B6 _ _ _ _ _ _ _ _ (@PW.pt _ _ _ (@Mu _ _ _ _ _ _ _ (@Az _ _ _ _ _ _ _ _ (@HU _ (Cn hr)) (@AW _ _ _ _ _ _ _ _ _ _ c68 hr IL (@AB _ _ _ _ _ (pv 0 rfl Ec BQ BS) AN ⋯) Lp ⋯ ⋯) Ao (A0 _)) (@Kj _ _ _ _ (@CF _ _ _ _ (@CK _ _ _ (@AW _ _ _ _ _ _ _ _ _ _ c94 hr KI (@AB _ _ _ _ _ (@AW _ _ _ _ _ _ _ _ _ _ c68 hr IL (@AB _ _ _ _ _ (pv 0 rfl Ec BQ BS) AN ⋯) Lp ⋯ ⋯) AN ⋯) PX ⋯ ⋯) ⋯))))) (@AV _ _ _ (@Ae _ _ _ _ E7)) A9) (@AO _ _ _ _ _ (@B6 _ _ _ _ _ _ _ _ (@PW.pt _ _ _ (@ES _ _ _ _ _ _ _ (@CF _ _ _ _ (@CK _ _ _ (@AW _ _ _ _ _ _ _ _ _ _ c07 hr Ja (@AB _ _ _ _ _ (@AW _ _ _ _ _ _ _ _ _ _ d91 hr Qy (@AB _ _ _ _ _ (pv 0 rfl Ec BQ BS) AN ⋯) Zl ⋯ ⋯) AN ⋯) Ib ⋯ ⋯) ⋯)) (@EC _ _ _ _ (@CF _ _ _ _ (@CK _ _ _ (@AW _ _ _ _ _ _ _ _ _ _ c07 hr Ja (@AB _ _ _ _ _ (@AW _ _ _ _ _ _ _ _ _ _ d90 hr Qx (@AB _ _ _ _ _ (pv 0 rfl Ec BQ BS) AN ⋯) Zk ⋯ ⋯) AN ⋯) Ib ⋯ ⋯) ⋯))))) (@AV _ _ _ (@Ae _ _ _ _ E7)) A9) (@AV _ _ _ (@Ae _ _ _ _ (@CO _ _ _ _ _ _ _ (@AW _ _ _ _ _ _ _ _ _ _ c62 hr N2 (@AB _ _ _ _ _ (@AW _ _ _ _ _ _ _ _ _ _ d09 hr M8 (@AB _ _ _ _ _ (pv 0 rfl Ec BQ BS) AN ⋯) SS ⋯ ⋯) AN ⋯) N9 ⋯ ⋯) (@DW _ _ _ _ _ (@AW _ _ _ _ _ _ _ _ _ _ d79 hr Om (@AB _ _ _ _ _ (@AW _ _ _ _ _ _ _ _ _ _ d69 hr N0 (@AB _ _ _ _ _ (pv 0 rfl Ec BQ BS) AN ⋯) VB ⋯ ⋯) (@AB _ _ _ _ _ (@AW _ _ _ _ _ _ _ _ _ _ d68 hr N1 (@AB _ _ _ _ _ (pv 0 rfl Ec BQ BS) AN ⋯) VC ⋯ ⋯) AN ⋯) ⋯) Wk ⋯ ⋯))))))))),BZ (N:=["thing"]) (np:=1) (nl:=0) (Ac (C3 (Gz (Cw (DF (Gb (T:="tuple") AL))) (A7 (AY OT (CD DV (AE AL AS)) AM))) (Aw IE (by decide)) B8) (Ac (C3 (Cw (DF (Ad (AE (Ad (AE AL AS)) AS)))) (Aw IE (by decide)) B8) (Ac (C3 (QM (A7 (AY OT (Ad (AE AL AS)) Be)) (Cw (DF (Ad (AE (Ad (AE AL AS)) AS))))) (Aw IE (by decide)) B8) (Ac (C3 (Gz (Cw (DF (Ad (AE (Ad (AE AL AS)) AS)))) (Cw (DF (Ad (AE (Ad (AE AL AS)) AS))))) (Aw IE (by decide)) B8) (Aw (DQ (Ad (AE (Ad (AE AL AS)) AS)) (Ad (AE (Ad (AE AL AS)) (AE (Ad (AE AL AS)) AS)))) (by decide)))))) rfl h⟩
theorem XW(F:Fun K "_law_right" "_law_right" DN f fd)(d86:Cal P w K mg base 7 "is_row" ["thing"] (spD ⟨K,w⟩ Hv false))(c63:Cal P w K mg base 7 "_law_is_row" ["_law_row"] (spD ⟨K,w⟩ DY false))(z_bool:mg "bool"=none)(z_isinstance:mg "isinstance"=none):FnOk P w K mg base CX0 8 f fd ["_law_row"] (spD ⟨K,w⟩ CZ false):=by
 have nd:=sc_L_right.nd
 refine F.ok sc_L_right (fun vs H Q E h=>Ba Ak h) (fun cdv A outer s H vs Q E hr h=>?_)
 exact⟨_,(@AO _ _ _ _ _ (@BC _ _ 1 _ _ _ _ nd rfl PL (@AW _ _ _ _ _ _ _ _ _ _ d86 hr Oo (@AB _ _ _ _ _ (pv 0 rfl PF A5 A6) AN ⋯) Xq ⋯ ⋯) ⋯ ⋯) (@AV _ _ _ (@Ae _ _ _ _ (@CO _ _ _ _ _ _ _ (@Ab _ _ _ _ _ _ _ _ _ CB Lj z_isinstance PyProof.Rows.boot_isinstance (@AB _ _ _ _ _ (pv 1 rfl PB Lu Lx) (@AB _ _ _ _ _ (GZ Q3 z_bool PySem.Pv.boot_bool Jz KQ) AN ⋯) ⋯) BD BE ⋯ ⋯) (@DW _ _ _ _ _ (@Cs _ _ _ _ _ _ _ _ (@Bq _ (Cn hr)) (pv 1 rfl PB Lu Lx) (@AW _ _ _ _ _ _ _ _ _ _ c63 hr LG (@AB _ _ _ _ _ (pv 0 rfl PF A5 A6) AN ⋯) K3 ⋯ ⋯) (A0 _))))))),BZ (N:=["_law_row","_law_found"]) (np:=1) (nl:=1) (Ac (BX (Ad (AE AL AS)) AZ) (Aw (DQ (Gb (T:="bool") AL) (AY Ds AL (Ad (AE AL AS)))) (by decide))) rfl h⟩
theorem fZ(F:Fun K "law" "law" El f fd)(d70:Cal P w K mg base 8 "_law_row_of" ["_law_rows","_law_big_here"] (spD ⟨K,w⟩ FF false))(d64:Cal P w K mg base 8 "_law_big" ["_law_script","_law_at"] (spD ⟨K,w⟩ Fz false))(c81:Cal P w K mg base 8 "_law_spoilt" ["_law_row","_law_big_here"] (spD ⟨K,w⟩ C2 false))(c69:Cal P w K mg base 8 "_law_right" ["_law_row"] (spD ⟨K,w⟩ CZ false))(c63:Cal P w K mg base 8 "_law_is_row" ["_law_row"] (spD ⟨K,w⟩ DY false))(z_len:mg "len"=none)(z_min:mg "min"=none)(z_max:mg "max"=none)(z_range:mg "range"=none):FnOk P w K mg base CX0 9 f fd ["_law_script"] (spD ⟨K,w⟩ Qk false):=by
 have nd:=sc_law.nd
 refine F.ok sc_law (fun vs H Q E h=>Ba Ak h) (fun cdv A outer s H vs Q E hr h=>?_)
 exact⟨_,(@AO _ _ _ _ _ (@LO _ _ _ _ _ _ _ _ PassesOwn.never rfl (@ZC _ _ _ _ _ _ _ _ WY z_range (@AB _ _ _ _ _ AH (@AB _ _ _ _ _ (@Ab _ _ _ _ _ _ _ _ _ (@Zy _ rfl) Ze z_max PyProof.Rows.boot_max (@AB _ _ _ _ _ AH (@AB _ _ _ _ _ (@Ab _ _ _ _ _ _ _ _ _ (@Zw _ rfl) Zd z_min PyProof.Rows.boot_min (@AB _ _ _ _ _ AH (@AB _ _ _ _ _ (@Ab _ _ _ _ _ _ _ _ _ Bh Zf z_len PySem.boot_len (@AB _ _ _ _ _ (pv 0 rfl Th DZ Dc) AN ⋯) Bv By ⋯ ⋯) AN ⋯) ⋯) YR Yj ⋯ ⋯) AN ⋯) ⋯) YS Yk ⋯ ⋯) (@AB _ _ _ _ _ AH AN ⋯) ⋯) ⋯) ⋯ ⋯) (@BK _ _ 1 _ nd rfl YU ⋯) (@AO _ _ _ _ _ (@Eg _ _ _ _ _ _ (@AW _ _ _ _ _ _ _ _ _ _ d70 hr Nx (@AB _ _ _ _ _ (@IF _ _ _ _ AN) (@AB _ _ _ _ _ (@AW _ _ _ _ _ _ _ _ _ _ d64 hr Lc (@AB _ _ _ _ _ (pv 0 rfl Th DZ Dc) (@AB _ _ _ _ _ (pv 1 rfl X7 FG FH) AN ⋯) ⋯) OD ⋯ ⋯) AN ⋯) ⋯) Pu ⋯ ⋯) (@Fi _ _ _ _ _ _ rfl (@Bj _ _ _ _ _ (@BK _ _ 2 _ nd rfl YT ⋯) (@Bj _ _ _ _ _ (@BK _ _ 3 _ nd rfl UX ⋯) ET ⋯) ⋯) ⋯ ⋯) ⋯ ⋯ ⋯) (@AO _ _ _ _ _ (@BC _ _ 3 _ _ _ _ nd rfl UX (@AW _ _ _ _ _ _ _ _ _ _ d64 hr Lc (@AB _ _ _ _ _ (pv 0 rfl Th DZ Dc) (@AB _ _ _ _ _ (@Af _ _ _ _ _ _ _ _ Fj (pv 1 rfl X7 FG FH) AH) AN ⋯) ⋯) OD ⋯ ⋯) ⋯ ⋯) (@AO _ _ _ _ _ (@BC _ _ 4 _ _ _ _ nd rfl UW (@AW _ _ _ _ _ _ _ _ _ _ c81 hr JZ (@AB _ _ _ _ _ (pv 2 rfl Pz A5 A6) (@AB _ _ _ _ _ (pv 3 rfl Tg AJ AK) AN ⋯) ⋯) K2 ⋯ ⋯) ⋯ ⋯) (@AO _ _ _ _ _ (@B6 _ _ _ _ _ _ _ _ (@Az _ _ _ _ _ _ _ _ (@Bq _ (Cn hr)) (@Af _ _ _ _ _ _ _ _ Bp (pv 3 rfl Tg AJ AK) AH) AH (A0 _)) (@AV _ _ _ (@BC _ _ 4 _ _ _ _ nd rfl UW (@AW _ _ _ _ _ _ _ _ _ _ c81 hr JZ (@AB _ _ _ _ _ (pv 4 rfl X6 DR DU) (@AB _ _ _ _ _ (@Af _ _ _ _ _ _ _ _ A8 (pv 3 rfl Tg AJ AK) AH) AN ⋯) ⋯) K2 ⋯ ⋯) ⋯ ⋯)) A9) (@AV _ _ _ (@B6 _ _ _ _ _ _ _ _ (@PW.pt _ _ _ (@ES _ _ _ _ _ _ _ (@CF _ _ _ _ (@CK _ _ _ (@AW _ _ _ _ _ _ _ _ _ _ c63 hr Ny (@AB _ _ _ _ _ (pv 2 rfl Pz A5 A6) AN ⋯) K3 ⋯ ⋯) ⋯)) (@ES _ _ _ _ _ _ _ (@CF _ _ _ _ (@CK _ _ _ (@AW _ _ _ _ _ _ _ _ _ _ c69 hr Hc (@AB _ _ _ _ _ (pv 2 rfl Pz A5 A6) AN ⋯) JJ ⋯ ⋯) ⋯)) (@ES _ _ _ _ _ _ _ (@CF _ _ _ _ (@CK _ _ _ (@AW _ _ _ _ _ _ _ _ _ _ c69 hr Hc (@AB _ _ _ _ _ (pv 4 rfl X6 DR DU) AN ⋯) JJ ⋯ ⋯) ⋯)) (@EC _ _ _ _ (@CF _ _ _ _ (@CK _ _ _ (@AW _ _ _ _ _ _ _ _ _ _ c69 hr Hc (@AB _ _ _ _ _ (pv 2 rfl Pz A5 A6) AN ⋯) JJ ⋯ ⋯) ⋯))))))) (@AV _ _ _ (@Ae _ _ _ _ E7)) A9)))))) ⋯) (@AV _ _ _ (@Ae _ _ _ _ E7))),BZ (N:=["_law_script","_law_k","_law_row","_law_big_here","_law_odd_here"]) (np:=1) (nl:=4) (Ac (Pa (ZX (AE AM (AE (CD gY (AE AM (AE (CD gW (AE AM (AE (bY (i:=0)) AS))) AS))) (AE AM AS)))) AZ (Ac (BX (Ad (AE (Mh AS) (AE (QB (i:=0) (AE AL AS)) AS))) (Hw (B3 AZ (B3 AZ Fo)) (Bk (Bk EX)))) (Ac (BX (QB (i:=0) (AE (AY Ht AL AM) AS)) AZ) (Ac (BX (Ad (AE AL (AE AL AS))) AZ) (Ac (C3 (A7 (AY Ds (AY CC AL AM) AM)) (BX (Ad (AE AL (AE (AY CQ AL AM) AS))) AZ) B8) (C3 (Gz (Cw (DF (Ad (AE AL AS)))) (Gz (Cw (DF (Ad (AE AL AS)))) (Gz (Cw (DF (Ad (AE AL AS)))) (Cw (DF (Ad (AE AL AS))))))) (Aw IE (by decide)) B8)))))) (Aw IE (by decide))) rfl h⟩
end
theorem Dt{i j:Int}(h:0<j):Bm (.int i) (.int j)=some (.int (i % j)):=if_pos h
theorem E3{i j:Int}(h:0<j)(h1:j<10 ^ 70):B7 (.int i) (.int j)=some (.int (i / j)):=if_pos ⟨h,bq h h1⟩
theorem fj{i j:Int}(h:CMulB i j):Q5 (.int i) (.int j)=some (.int (i*j)):=if_pos h
theorem aP:bV (.int 10) (.int 18)=some (.int 1000000000000000000):=rfl
theorem Tb{ns:List Int}{k:Int}(h0:0<=k):∃v:Int,EW [.c (ns.map .int),.d (.int k)]=some (.int v,[.c (ns.map .int),.d (.int k)]):=by
 by_cases h:k<(ns.length:Int)
 ·have hk:k.toNat<ns.length:=by omega
  have e:(ns.map PyData.int)[k.toNat]?=some (.int ns[k.toNat]):=by simp[hk]
  exact⟨ns[k.toNat],by simp only[EW,List.length_map,h0,h,decide_true,e,Bo,Aa,Ah,dN,An,BO,BA,Ea,AF,dC,dOp,fI,CG,EE,fLt,fLe,fGt,fGe,Am,AQ,AI,AA,Cy,Bn,A1,AU,Bl,Bw,C5,C6,C4,E4,CY,atI,ixN,sz',Option.bind_some,Option.map_some,List.map_cons,List.map_nil,List.cons_append,List.nil_append,List.length_cons,List.length_nil,List.getElem?_cons_zero,List.getElem?_cons_succ,List.set_cons_zero,List.set_cons_succ,List.replicate_succ,List.replicate_zero,if_true,if_false,reduceIte,Bool.false_eq_true,Nat.reduceAdd,Nat.reduceLT,Int.reduceAdd,Int.reduceLT,Int.reduceLE,Int.reduceToNat,Nat.reduceLeDiff,and_self,Int.toNat_zero,Int.le_refl,Int.natCast_add,Int.cast_ofNat_Int,Nat.zero_add]⟩
 ·exact⟨0,by simp only[EW,List.length_map,h0,h,decide_false,Bo,Aa,Ah,dN,An,BO,BA,Ea,AF,dC,dOp,fI,CG,EE,fLt,fLe,fGt,fGe,Am,AQ,AI,AA,Cy,Bn,A1,AU,Bl,Bw,C5,C6,C4,E4,CY,atI,ixN,sz',Option.bind_some,Option.map_some,List.map_cons,List.map_nil,List.cons_append,List.nil_append,List.length_cons,List.length_nil,List.getElem?_cons_zero,List.getElem?_cons_succ,List.set_cons_zero,List.set_cons_succ,List.replicate_succ,List.replicate_zero,if_true,if_false,reduceIte,Bool.false_eq_true,Nat.reduceAdd,Nat.reduceLT,Int.reduceAdd,Int.reduceLT,Int.reduceLE,Int.reduceToNat,Nat.reduceLeDiff,and_self,Int.toNat_zero,Int.le_refl,Int.natCast_add,Int.cast_ofNat_Int,Nat.zero_add]⟩
theorem fM{xs:List Int}{k:Int}(h0:0<=k)(h:k<(xs.length:Int)):∃v:Int,atI (xs.map PyData.int) k=some (.int v)/\v∈xs:=by
 have hk:k.toNat<xs.length:=by omega
 refine⟨xs[k.toNat],?_,List.getElem_mem hk⟩
 unfold atI ixN
 rw[List.length_map,if_pos h0,if_pos h]
 simp[hk]
def by8:PyData:=.tuple ([48271,69621,16807,39373,21401,60493,87721,31337].map .int)
def pr8:PyData:=.tuple ([99991,99989,99971,99961,99929,99923,99907,99901].map .int)
theorem fF{ns:List Int}{k:Int}(h0:0<=k):∃(v:Int) (ls:List L),Fz [.c (ns.map .int),.d (.int k)]=some (.int v,ls):=by
 obtain⟨cell,hc⟩:=Tb (ns:=ns) h0
 by_cases hb:(1000000000000000000:Int)<=cell
 ·exact⟨cell,_,by simp only[Fz,hc,aP,hb,decide_true,Bo,Aa,Ah,dN,An,BO,BA,Ea,AF,dC,dOp,fI,CG,EE,fLt,fLe,fGt,fGe,Am,AQ,AI,AA,Cy,Bn,A1,AU,Bl,Bw,C5,C6,C4,E4,CY,atI,ixN,sz',Option.bind_some,Option.map_some,List.map_cons,List.map_nil,List.cons_append,List.nil_append,List.length_cons,List.length_nil,List.getElem?_cons_zero,List.getElem?_cons_succ,List.set_cons_zero,List.set_cons_succ,List.replicate_succ,List.replicate_zero,if_true,if_false,reduceIte,Bool.false_eq_true,Nat.reduceAdd,Nat.reduceLT,Int.reduceAdd,Int.reduceLT,Int.reduceLE,Int.reduceToNat,Nat.reduceLeDiff,and_self,Int.toNat_zero,Int.le_refl,Int.natCast_add,Int.cast_ofNat_Int,Nat.zero_add];rfl⟩
 ·have lp:∃τ',Gs (dN 6) (Aa (Ah (dOp CG (dOp CG (dOp Bm (Bl 0 EW (AA (dOp CG (AF 1) (dOp Bm (AF 6) (dC (.int 9)))) AI)) (dOp bV (dC (.int 10)) (dC (.int 18)))) (dC (.int 1))) (dOp Q5 (AF 6) (AF 6))) (dN 7)) (Ah (dOp CG (dOp Q5 (AF 5) (dC (.int 7919))) (dOp Bm (dOp Bm (dOp Q5 (AF 7) (dOp Am (AF 2) (dOp Bm (AF 6) (dC (.int 8))))) (dOp Am (AF 3) (dOp Bm (AF 6) (dC (.int 8))))) (dC (.int 7919)))) (dN 5)))
    ((rng 0 60).map PyData.int) [some (.c (ns.map .int)),some (.d (.int k)),some (.d by8),some (.d pr8),some (.d (.int cell)),some (.d (.int 0)),none,none]=some (.nx τ') /\
    ∃(b:Int) (o1 o2:Option L),nM o1/\nM o2/\τ'=[some (.c (ns.map .int)),some (.d (.int k)),some (.d by8),some (.d pr8),some (.d (.int cell)),some (.d (.int b)),o1,o2]:=by
   refine TC (enc:=PyData.int) (pre:=[]) (fun _ τ=>∃(b:Int) (o1 o2:Option L),nM o1/\nM o2/\τ=[some (.c (ns.map .int)),some (.d (.int k)),some (.d by8),some (.d pr8),some (.d (.int cell)),some (.d (.int b)),o1,o2]) ⟨0,none,none,Fb,Fb,rfl⟩ ?_
   rintro j _ τ hj ⟨b,o1,o2,n1,n2,rfl⟩
   have hj':=(cY (n:=60)).mp hj
   have h9:0<=j % 9:=Int.emod_nonneg _ (by decide)
   obtain⟨c,hc⟩:=Tb (ns:=ns) (k:=k+j % 9) (by omega)
   obtain⟨u1,hu1,m1⟩:=fM (xs:=[48271,69621,16807,39373,21401,60493,87721,31337]) (k:=j % 8) (Int.emod_nonneg _ (by decide)) (Int.emod_lt_of_pos _ (by decide))
   obtain⟨u2,hu2,m2⟩:=fM (xs:=[99991,99989,99971,99961,99929,99923,99907,99901]) (k:=j % 8) (Int.emod_nonneg _ (by decide)) (Int.emod_lt_of_pos _ (by decide))
   have hu1':Am by8 (.int (j % 8))=some (.int u1):=hu1
   have hu2':Am pr8 (.int (j % 8))=some (.int u2):=hu2
   have m1':-(2 ^ 64)<u1/\u1<2 ^ 64:=by
    simp only[List.mem_cons,List.not_mem_nil,or_false]at m1
    omega
   have m2':0<u2:=by
    simp only[List.mem_cons,List.not_mem_nil,or_false]at m2
    omega
   have x1:Q5 (.int j) (.int j)=some (.int (j*j)):=fj (.inl (.inl ⟨by omega,by omega⟩))
   have x2:Q5 (.int b) (.int 7919)=some (.int (b*7919)):=fj (.inl (.inr ⟨by decide,by decide⟩))
   have x3:∀z:Int,Q5 (.int z) (.int u1)=some (.int (z*u1)):=fun z=>fj (.inl (.inr m1'))
   have x4:∀z:Int,Bm (.int z) (.int u2)=some (.int (z % u2)):=fun z=>Dt m2'
   have x5:∀z:Int,Bm (.int z) (.int 7919)=some (.int (z % 7919)):=fun z=>Dt (by decide)
   have x6:∀z:Int,Bm (.int z) (.int 9)=some (.int (z % 9)):=fun z=>Dt (by decide)
   have x7:∀z:Int,Bm (.int z) (.int 8)=some (.int (z % 8)):=fun z=>Dt (by decide)
   have x8:∀z:Int,Bm (.int z) (.int 1000000000000000000)=some (.int (z % 1000000000000000000)):=fun z=>Dt (by decide)
   refine⟨_,[some (.c (ns.map .int)),some (.d (.int k)),some (.d by8),some (.d pr8),some (.d (.int cell)),some (.d (.int (b*7919+(c % 1000000000000000000+1+j*j)*u1 % u2 % 7919))),some (.d (.int j)),some (.d (.int (c % 1000000000000000000+1+j*j)))],Jc rfl n1,?_,_,_,_,K9,K9,rfl⟩
   refine(AR (τ1:=[some (.c (ns.map .int)),some (.d (.int k)),some (.d by8),some (.d pr8),some (.d (.int cell)),some (.d (.int b)),some (.d (.int j)),some (.d (.int (c % 1000000000000000000+1+j*j)))]) (Bt (d:=.int (c % 1000000000000000000+1+j*j)) (τ1:=[some (.c (ns.map .int)),some (.d (.int k)),some (.d by8),some (.d pr8),some (.d (.int cell)),some (.d (.int b)),some (.d (.int j)),o2]) ?_ (Jc rfl n2))).trans ?_
   ·simp only[dOp,AF,dC,Bl,AA,AI,Cy,CG,fI,aP,hc,x1,x6,x8,List.getElem?_cons_zero,List.getElem?_cons_succ,List.set_cons_zero,List.set_cons_succ,Option.bind_some,Option.map_some,List.map_cons,List.map_nil]
   ·simp only[Ah,dN,dOp,AF,dC,CG,fI,hu1',hu2',x2,x3,x4,x5,x7,List.getElem?_cons_zero,List.getElem?_cons_succ,List.set_cons_zero,List.set_cons_succ,Option.bind_some,Option.map_some]
  obtain⟨τ',e,b,o1,o2,n1,n2,rfl⟩:=lp
  refine⟨b,[.c (ns.map .int),.d (.int k)],?_⟩
  have hr:dR1 (AA (dC (.int 60)) AI) [some (.c (ns.map .int)),some (.d (.int k)),some (.d by8),some (.d pr8),some (.d (.int cell)),some (.d (.int 0)),none,none]=some ((rng 0 60).map PyData.int,[some (.c (ns.map .int)),some (.d (.int k)),some (.d by8),some (.d pr8),some (.d (.int cell)),some (.d (.int 0)),none,none]):=by
   rw[<- Sw];rfl
  refine Ag (τ:=[some (.c (ns.map .int)),some (.d (.int k)),some (.d by8),some (.d pr8),some (.d (.int cell)),some (.d (.int b)),o1,o2]) ?_ rfl rfl
  refine(AR rfl).trans ((AR rfl).trans ((AR (τ1:=[some (.c (ns.map .int)),some (.d (.int k)),some (.d by8),some (.d pr8),some (.d (.int cell)),none,none,none]) (Bt (RT (xs:=ns.map .int) rfl rfl rfl hc) rfl)).trans ?_))
  refine(AR (τ1:=[some (.c (ns.map .int)),some (.d (.int k)),some (.d by8),some (.d pr8),some (.d (.int cell)),none,none,none]) ?_).trans ((AR (τ1:=[some (.c (ns.map .int)),some (.d (.int k)),some (.d by8),some (.d pr8),some (.d (.int cell)),some (.d (.int 0)),none,none]) rfl).trans ((AR ((Lm hr).trans e)).trans rfl))
  simp only[aP,hb,decide_false,Bo,Aa,Ah,dN,An,BO,BA,Ea,AF,dC,dOp,fI,CG,EE,fLt,fLe,fGt,fGe,Am,AQ,AI,AA,Cy,Bn,A1,AU,Bl,Bw,C5,C6,C4,E4,CY,atI,ixN,sz',Option.bind_some,Option.map_some,List.map_cons,List.map_nil,List.cons_append,List.nil_append,List.length_cons,List.length_nil,List.getElem?_cons_zero,List.getElem?_cons_succ,List.set_cons_zero,List.set_cons_succ,List.replicate_succ,List.replicate_zero,if_true,if_false,reduceIte,Bool.false_eq_true,Nat.reduceAdd,Nat.reduceLT,Int.reduceAdd,Int.reduceLT,Int.reduceLE,Int.reduceToNat,Nat.reduceLeDiff,and_self,Int.toNat_zero,Int.le_refl,Int.natCast_add,Int.cast_ofNat_Int,Nat.zero_add]
def gI(a b:Int):Int:=(Int.gcd a b:Nat)
theorem bO{a b:Int}(ha:0<=a)(hb:0<b):gI b (a % b)=gI a b:=by
 unfold gI
 rw[Int.gcd_eq_natAbs_gcd_natAbs,Int.gcd_eq_natAbs_gcd_natAbs]
 have e:(a % b).natAbs=a.natAbs % b.natAbs:=by
  rw[Int.natAbs_emod_of_nonneg ha]
 rw[e,Nat.gcd_comm,<- Nat.gcd_rec,Nat.gcd_comm]
theorem Yh{a:Int}(ha:0<=a):gI a 0=a:=by
 unfold gI
 rw[Int.gcd_zero_right]
 omega
theorem bN{a b:Int}(hb:0<b):0<gI a b:=by
 unfold gI
 have:0<Int.gcd a b:=Int.gcd_pos_of_ne_zero_right _ (by omega)
 omega
theorem iz{a b:Int}(hb:0<b):gI a b<=b:=by
 exact Int.gcd_le_right a hb
def frm(t b:Int):Cl:=(t / gI t b,b / gI t b)
def O8(i:Int):Int:=if i<0 then -i else i
theorem br{i:Int}(h:0<=i):O8 i=i:=by unfold O8;rw[if_neg (by omega)]
theorem Yv(i:Int):0<=O8 i:=by unfold O8;split<;>omega
theorem bP(a b:Int):gI (O8 a) b=gI a b:=by
 unfold gI O8
 split
 ·rw[Int.neg_gcd]
 ·rfl
structure OkF(s:Cl):Prop where
 lo:0<=s.1
 hi:s.1<=s.2
 b1:1<=s.2
 b2:s.2<=1000
 zero:s.1=0->s=(0,1)
 red:∃t b:Int,0<b/\s=frm t b
theorem WO{d1 d2:PyData}:∀(n:Nat) (a b:Int),0<=a->0<=b->b.toNat<n ->
  dWh (AQ (dOp fGt (AF 3) (dC (.int 0)))) (Ea 2 3 (AA (AF 3) (AA (dOp Bm (AF 2) (AF 3)) AI))) n [some (.d d1),some (.d d2),some (.d (.int a)),some (.d (.int b))]=some (.nx [some (.d d1),some (.d d2),some (.d (.int (gI a b))),some (.d (.int 0))])
 |0,a,b,_,_,h=>absurd h (Nat.not_lt_zero _)
 |n+1,a,b,ha,hb,h=>by
  let st:Int->Int->DS:=fun x y=>[some (.d d1),some (.d d2),some (.d (.int x)),some (.d (.int y))]
  have t:AQ (dOp fGt (AF 3) (dC (.int 0))) (st a b)=some (decide (0<b),st a b):=rfl
  unfold dWh
  rw[show AQ (dOp fGt (AF 3) (dC (.int 0))) [some (.d d1),some (.d d2),some (.d (.int a)),some (.d (.int b))]=some (decide (0<b),st a b) from t]
  by_cases hz:b=0
  ·subst hz
   rw[Yh ha];rfl
  ·have hp:0<b:=by omega
   have md:=Int.emod_lt_of_pos a hp
   have mn:=Int.emod_nonneg a (show b≠0 by omega)
   have e:=WO (d1:=d1) (d2:=d2) n b (a % b) hb mn (by omega)
   rw[decide_eq_true hp]
   have bd:Ea 2 3 (AA (AF 3) (AA (dOp Bm (AF 2) (AF 3)) AI)) (st a b)=some (.nx (st b (a % b))):=by
    have:AA (AF 3) (AA (dOp Bm (AF 2) (AF 3)) AI) (st a b)=some ([.d (.int b),.d (.int (a % b))],st a b):=by
     show(((((Bm (.int a) (.int b)).map fun d=>(d,st a b)).bind fun p=>_).map _))=_
     rw[Dt hp];rfl
    unfold Ea
    rw[this];rfl
   show((Ea _ _ _ (st a b)).bind _)=_
   rw[bd]
   show dWh _ _ n (st b (a % b))=_
   rw[<- bO ha hp]
   exact e
theorem bD{t b:Int}(hb:0<b)(hb2:b<10 ^ 70):HB [.d (.int t),.d (.int b)]=some (ec (frm t b),[.d (.int t),.d (.int b)]):=by
 have gp:=bN (a:=t) hb
 have gl:=iz (a:=t) hb
 have e:=WO (d1:=.int t) (d2:=.int b) (b.toNat+1) (O8 t) b (Yv t) (by omega) (Nat.lt_succ_self _)
 rw[bP]at e
 let st:Option L->Option L->DS:=fun o p=>[some (.d (.int t)),some (.d (.int b)),o,p]
 unfold HB
 refine Ag (τ:=st (some (.d (.int (gI t b)))) (some (.d (.int 0)))) ?_ rfl rfl
 refine(AR (τ1:=st (some (.d (.int (O8 t)))) (some (.d (.int b)))) rfl).trans ?_
 refine(AR e).trans ?_
 refine BB (τ1:=st (some (.d (.int (gI t b)))) (some (.d (.int 0)))) ?_
 have d1:=E3 (i:=t) gp (by omega)
 have d2:=E3 (i:=b) gp (by omega)
 simp only[st,d1,d2,ec,frm,Bo,Aa,Ah,dN,An,BO,BA,Ea,AF,dC,dOp,fI,CG,EE,fLt,fLe,fGt,fGe,Am,AQ,AI,AA,Cy,Bn,A1,AU,Bl,Bw,C5,C6,C4,E4,CY,atI,ixN,sz',Option.bind_some,Option.map_some,List.map_cons,List.map_nil,List.cons_append,List.nil_append,List.length_cons,List.length_nil,List.getElem?_cons_zero,List.getElem?_cons_succ,List.set_cons_zero,List.set_cons_succ,List.replicate_succ,List.replicate_zero,if_true,if_false,reduceIte,Bool.false_eq_true,Nat.reduceAdd,Nat.reduceLT,Int.reduceAdd,Int.reduceLT,Int.reduceLE,Int.reduceToNat,Nat.reduceLeDiff,and_self,Int.toNat_zero,Int.le_refl,Int.natCast_add,Int.cast_ofNat_Int,Nat.zero_add]
theorem bQ{t b:Int}(h0:0<=t)(h1:t<=b)(h2:1<=b)(h3:b<=1000):OkF (frm t b):=by
 have gp:=bN (a:=t) (show 0<b by omega)
 have db:gI t b ∣ b:=by unfold gI;exact Int.gcd_dvd_right ..
 obtain⟨q,hq⟩:=db
 have eb:b / gI t b=q:=Int.ediv_eq_of_eq_mul_right (by omega) hq
 have q1:1<=q:=by
  rcases Int.lt_or_le q 1 with z|z
  ·have:gI t b*q<=0:=Int.mul_nonpos_of_nonneg_of_nonpos (by omega) (by omega)
   omega
  ·exact z
 have tl:t / gI t b<=b / gI t b:=Int.ediv_le_ediv gp h1
 have bl:b / gI t b<=b:=Int.ediv_le_self _ (by omega)
 refine⟨Int.ediv_nonneg h0 (by omega),tl,by show 1<=b / gI t b;omega,by show b / gI t b<=1000;omega,fun z=>?_,t,b,by omega,rfl⟩
 have z:t / gI t b=0:=z
 have dt:gI t b ∣ t:=by unfold gI;exact Int.gcd_dvd_left ..
 obtain⟨r,hr⟩:=dt
 have er:t / gI t b=r:=Int.ediv_eq_of_eq_mul_right (by omega) hr
 have r0:r=0:=by omega
 have t0:t=0:=by rw[hr,r0,Int.mul_zero]
 have g0:gI t b=b:=by
  rw[t0];unfold gI
  rw[Int.gcd_zero_left];omega
 unfold frm
 rw[g0,t0,Int.zero_ediv,Int.ediv_self (by omega)]
theorem PH(v:Int):∃(s:Cl) (w:Int) (ls:List L),FE [.d (.int v)]=some (.tuple [ec s,.int w],ls)/\OkF s:=by
 obtain⟨b0,e0,hb0⟩:=fM (xs:=[1,1,2,3]) (k:=v % 4) (by omega) (by show v % 4<4;omega)
 have hb0:1<=b0/\b0<=1000:=by
  rcases List.mem_cons.mp hb0 with rfl|hb0
  ·decide
  ·rcases List.mem_cons.mp hb0 with rfl|hb0
   ·decide
   ·rcases List.mem_cons.mp hb0 with rfl|hb0
    ·decide
    ·rw[List.mem_singleton.mp hb0];decide
 let st:Int->Option L->DS:=fun x o=>[some (.d (.int x)),o]
 have fin:∀b:Int,1<=b->b<=1000->∃(s:Cl) (w:Int),Aa (Ah (dOp B7 (AF 0) (dC (.int 16000))) (dN 0)) (An (Bn (AA (AU HB (AA (dOp Bm (AF 0) (dOp CG (AF 1) (dC (.int 1)))) (AA (AF 1) AI))) (AA (dOp B7 (AF 0) (dOp CG (AF 1) (dC (.int 1)))) AI)))) (st v (some (.d (.int b))))=some (.rt (.tuple [ec s,.int w]) (st (v / 16000) (some (.d (.int b)))))/\OkF s:=fun b h1 h2=>by
  have m0:=Int.emod_nonneg (v / 16000) (show b+1≠0 by omega)
  have m1:=Int.emod_lt_of_pos (v / 16000) (show 0<b+1 by omega)
  refine⟨frm (v / 16000 % (b+1)) b,v / 16000 / (b+1),?_,bQ m0 (by omega) h1 h2⟩
  have l:=bD (t:=v / 16000 % (b+1)) (b:=b) (by omega) (by omega)
  have d1:=E3 (i:=v) (j:=16000) (by decide) (by decide)
  have d2:=Dt (i:=v / 16000) (j:=b+1) (by omega)
  have d3:=E3 (i:=v / 16000) (j:=b+1) (by omega) (by omega)
  simp only[st,l,d1,d2,d3,Bo,Aa,Ah,dN,An,BO,BA,Ea,AF,dC,dOp,fI,CG,EE,fLt,fLe,fGt,fGe,Am,AQ,AI,AA,Cy,Bn,A1,AU,Bl,Bw,C5,C6,C4,E4,CY,atI,ixN,sz',Option.bind_some,Option.map_some,List.map_cons,List.map_nil,List.cons_append,List.nil_append,List.length_cons,List.length_nil,List.getElem?_cons_zero,List.getElem?_cons_succ,List.set_cons_zero,List.set_cons_succ,List.replicate_succ,List.replicate_zero,if_true,if_false,reduceIte,Bool.false_eq_true,Nat.reduceAdd,Nat.reduceLT,Int.reduceAdd,Int.reduceLT,Int.reduceLE,Int.reduceToNat,Nat.reduceLeDiff,and_self,Int.toNat_zero,Int.le_refl,Int.natCast_add,Int.cast_ofNat_Int,Nat.zero_add]
 have c2:∀b:Int,1<=b->b<=1000->∃b',1<=b'/\b'<=1000/\BA (AQ (dOp fEq (dOp Bm (dOp B7 (AF 0) (dC (.int 4))) (dC (.int 16))) (dC (.int 1)))) (Ah (dOp CG (dC (.int 1)) (dOp Bm (dOp B7 (AF 0) (dC (.int 16))) (dC (.int 1000)))) (dN 1)) BO (st v (some (.d (.int b))))=some (.nx (st v (some (.d (.int b'))))):=fun b h1 h2=>by
  have d1:=E3 (i:=v) (j:=4) (by decide) (by decide)
  have d2:=Dt (i:=v / 4) (j:=16) (by decide)
  have d3:=E3 (i:=v) (j:=16) (by decide) (by decide)
  have d4:=Dt (i:=v / 16) (j:=1000) (by decide)
  by_cases h:v / 4 % 16=1
  ·refine⟨1+v / 16 % 1000,by omega,by omega,?_⟩
   have q:fEq (.int (v / 4 % 16)) (.int 1)=some (.bool true):=by rw[encI.fEq,decide_eq_true h]
   simp only[st,d1,d2,q,d3,d4,Bo,Aa,Ah,dN,An,BO,BA,Ea,AF,dC,dOp,fI,CG,EE,fLt,fLe,fGt,fGe,Am,AQ,AI,AA,Cy,Bn,A1,AU,Bl,Bw,C5,C6,C4,E4,CY,atI,ixN,sz',Option.bind_some,Option.map_some,List.map_cons,List.map_nil,List.cons_append,List.nil_append,List.length_cons,List.length_nil,List.getElem?_cons_zero,List.getElem?_cons_succ,List.set_cons_zero,List.set_cons_succ,List.replicate_succ,List.replicate_zero,if_true,if_false,reduceIte,Bool.false_eq_true,Nat.reduceAdd,Nat.reduceLT,Int.reduceAdd,Int.reduceLT,Int.reduceLE,Int.reduceToNat,Nat.reduceLeDiff,and_self,Int.toNat_zero,Int.le_refl,Int.natCast_add,Int.cast_ofNat_Int,Nat.zero_add]
  ·refine⟨b,h1,h2,?_⟩
   have q:fEq (.int (v / 4 % 16)) (.int 1)=some (.bool false):=by rw[encI.fEq,decide_eq_false h]
   simp only[st,d1,d2,q,Bo,Aa,Ah,dN,An,BO,BA,Ea,AF,dC,dOp,fI,CG,EE,fLt,fLe,fGt,fGe,Am,AQ,AI,AA,Cy,Bn,A1,AU,Bl,Bw,C5,C6,C4,E4,CY,atI,ixN,sz',Option.bind_some,Option.map_some,List.map_cons,List.map_nil,List.cons_append,List.nil_append,List.length_cons,List.length_nil,List.getElem?_cons_zero,List.getElem?_cons_succ,List.set_cons_zero,List.set_cons_succ,List.replicate_succ,List.replicate_zero,if_true,if_false,reduceIte,Bool.false_eq_true,Nat.reduceAdd,Nat.reduceLT,Int.reduceAdd,Int.reduceLT,Int.reduceLE,Int.reduceToNat,Nat.reduceLeDiff,and_self,Int.toNat_zero,Int.le_refl,Int.natCast_add,Int.cast_ofNat_Int,Nat.zero_add]
 have c1:∀b:Int,1<=b->b<=1000->∃b',1<=b'/\b'<=1000/\BA (AQ (dOp fEq (dOp Bm (dOp B7 (AF 0) (dC (.int 4))) (dC (.int 4))) (dC (.int 0)))) (Ah (dOp CG (dC (.int 1)) (dOp Bm (dOp B7 (AF 0) (dC (.int 16))) (dC (.int 12)))) (dN 1)) BO (st v (some (.d (.int b))))=some (.nx (st v (some (.d (.int b'))))):=fun b h1 h2=>by
  have d1:=E3 (i:=v) (j:=4) (by decide) (by decide)
  have d2:=Dt (i:=v / 4) (j:=4) (by decide)
  have d3:=E3 (i:=v) (j:=16) (by decide) (by decide)
  have d4:=Dt (i:=v / 16) (j:=12) (by decide)
  by_cases h:v / 4 % 4=0
  ·refine⟨1+v / 16 % 12,by omega,by omega,?_⟩
   have q:fEq (.int (v / 4 % 4)) (.int 0)=some (.bool true):=by rw[encI.fEq,decide_eq_true h]
   simp only[st,d1,d2,q,d3,d4,Bo,Aa,Ah,dN,An,BO,BA,Ea,AF,dC,dOp,fI,CG,EE,fLt,fLe,fGt,fGe,Am,AQ,AI,AA,Cy,Bn,A1,AU,Bl,Bw,C5,C6,C4,E4,CY,atI,ixN,sz',Option.bind_some,Option.map_some,List.map_cons,List.map_nil,List.cons_append,List.nil_append,List.length_cons,List.length_nil,List.getElem?_cons_zero,List.getElem?_cons_succ,List.set_cons_zero,List.set_cons_succ,List.replicate_succ,List.replicate_zero,if_true,if_false,reduceIte,Bool.false_eq_true,Nat.reduceAdd,Nat.reduceLT,Int.reduceAdd,Int.reduceLT,Int.reduceLE,Int.reduceToNat,Nat.reduceLeDiff,and_self,Int.toNat_zero,Int.le_refl,Int.natCast_add,Int.cast_ofNat_Int,Nat.zero_add]
  ·refine⟨b,h1,h2,?_⟩
   have q:fEq (.int (v / 4 % 4)) (.int 0)=some (.bool false):=by rw[encI.fEq,decide_eq_false h]
   simp only[st,d1,d2,q,Bo,Aa,Ah,dN,An,BO,BA,Ea,AF,dC,dOp,fI,CG,EE,fLt,fLe,fGt,fGe,Am,AQ,AI,AA,Cy,Bn,A1,AU,Bl,Bw,C5,C6,C4,E4,CY,atI,ixN,sz',Option.bind_some,Option.map_some,List.map_cons,List.map_nil,List.cons_append,List.nil_append,List.length_cons,List.length_nil,List.getElem?_cons_zero,List.getElem?_cons_succ,List.set_cons_zero,List.set_cons_succ,List.replicate_succ,List.replicate_zero,if_true,if_false,reduceIte,Bool.false_eq_true,Nat.reduceAdd,Nat.reduceLT,Int.reduceAdd,Int.reduceLT,Int.reduceLE,Int.reduceToNat,Nat.reduceLeDiff,and_self,Int.toNat_zero,Int.le_refl,Int.natCast_add,Int.cast_ofNat_Int,Nat.zero_add]
 obtain⟨b1,g1,g2,e1⟩:=c1 b0 hb0.1 hb0.2
 obtain⟨b2,g3,g4,e2⟩:=c2 b1 g1 g2
 obtain⟨s,w,e3,hs⟩:=fin b2 g3 g4
 refine⟨s,w,[.d (.int v)],?_,hs⟩
 unfold FE
 refine Ag (τ:=st (v / 16000) (some (.d (.int b2)))) ?_ rfl rfl
 refine(AR (τ1:=st v (some (.d (.int b0)))) (Bt (d:=.int b0) (τ1:=st v none) ?_ rfl)).trans ((AR e1).trans ((AR e2).trans e3))
 have m:=Dt (i:=v) (j:=4) (by decide)
 show(((Bm (.int v) (.int 4)).map fun d=>(d,st v none)).bind fun q=>(Am (.tuple ([1,1,2,3].map PyData.int)) q.1).map fun d=>(d,q.2))=_
 rw[m]
 show((atI ([1,1,2,3].map PyData.int) (v % 4)).map fun d=>(d,st v none))=_
 rw[e0];rfl
theorem acc{f:DX}{a:DA}{τ τ1 τ2:DS}{d:PyData}{rs:List Ar}(h:f τ=some (d,τ1))(k:a τ1=some (rs,τ2)):AA f a τ=some (.d d::rs,τ2):=by
 unfold AA
 rw[h]
 show((a τ1).map _)=_
 rw[k];rfl
theorem tst{f:DX}{τ τ1:DS}{b:Bool}(h:f τ=some (.bool b,τ1)):AQ f τ=some (b,τ1):=by
 unfold AQ
 rw[h];rfl
theorem E9{t:DT}{τ τ1:DS}{b:Bool}(h:t τ=some (b,τ1)):BP t τ=some (!b,τ1):=by
 unfold BP
 rw[h];rfl
theorem op2{F:PyData->PyData->Option PyData}{f g:DX}{τ τ1 τ2:DS}{x y r:PyData}(h:f τ=some (x,τ1))(k:g τ1=some (y,τ2))(e:F x y=some r):dOp F f g τ=some (r,τ2):=by
 unfold dOp
 rw[h]
 show((g τ1).bind _)=_
 rw[k]
 show((F x y).map _)=_
 rw[e];rfl
theorem Tw{i:Nat}{f:DT}{τ τ1:DS}{b:Bool}{xs:List PyData}(hi:τ[i]?=some (some (.m xs)))(hf:f (τ.set i (some (.d (.list xs))))=some (b,τ1))(hx:τ1.all okM=true):FL i f τ=some (b,τ1.set i (some (.m xs))):=by
 unfold FL
 rw[hi]
 dsimp only
 rw[hf]
 dsimp only[Option.bind]
 rw[if_pos hx]
theorem Mv{x y:DT}{τ τ1 τ2:DS}(h1:x τ=some (false,τ1))(h2:y τ1=some (false,τ2)):CH x y τ=some (false,τ2):=by
 unfold CH
 rw[h1];exact h2
theorem YG{np i:Nat}{e:DX}{τ τ1:DS}{xs:List PyData}(h:e τ=some (.list xs,τ1))(h1:np<=i)(h2:i<τ1.length)(h3:τ1.all okM=true):Ge np i e τ=some (.nx (τ1.set i (some (.m xs)))):=by
 unfold Ge
 rw[h]
 dsimp only[Option.bind]
 rw[if_pos ⟨h1,h2,h3⟩]
theorem XB{a b:DT}{τ:DS}{p q:Bool}(h1:a τ=some (p,τ))(h2:b τ=some (q,τ)):C7 a b τ=some (p&&q,τ):=by
 unfold C7
 rw[h1]
 cases p with
 |true=>exact h2
 |false=>rfl
theorem Fd{a b:DX}{τ τ1:DS}(h:a τ=some (.bool true,τ1)):Co a b τ=b τ1:=by
 unfold Co
 rw[tst h];rfl
abbrev Tx:={ s:Str // PyData.strOk s=true }
def eT(t:Tx):PyData:=.str t.1
theorem encT:Enc eT:=by
 refine⟨fun a b=>?_,fun a=>?_,fun a=>?_,fun _=>rfl⟩
 ·unfold eT
  rw[PyData.eqv]
  by_cases h:a=b
  ·subst h;simp
  ·rw[decide_eq_false h]
   exact beq_eq_false_iff_ne.mpr fun z=>h (Subtype.ext z)
 ·show PyData.canLay0 (.str a.1)=true
  rw[PyData.canLay0];exact a.2
 ·show PyData.depth (.str a.1)<=20
  rw[PyData.depth];decide
def t0:Tx:=⟨"",∅⟩
inductive Dz where
 |plate (w h:Int) (a b:Cl)
 |band (w h:Int) (a b:Cl)
 |word (t:Tx) (a b:Cl)
 |stencil (rs:List Tx) (a b:Cl)
 |group
 |glass (a:Cl)
 |window (w h x y:Int)
 |turn (q:Int) (f:Bool)
 |tiles (a b x y:Int)
 |mask
 deriving DecidableEq
def kz:Dz->Nat
 |.plate ..=>0
 |.band ..=>1
 |.word ..=>2
 |.stencil ..=>3
 |.group=>4
 |.glass _=>5
 |.window ..=>6
 |.turn ..=>7
 |.tiles ..=>8
 |.mask=>9
def kS:Nat->Tx
 |0=>⟨"plate",∅⟩
 |1=>⟨"band",∅⟩
 |2=>⟨"word",∅⟩
 |3=>⟨"stencil",∅⟩
 |4=>⟨"group",∅⟩
 |5=>⟨"glass",∅⟩
 |6=>⟨"window",∅⟩
 |7=>⟨"turn",∅⟩
 |8=>⟨"tiles",∅⟩
 |_=>⟨"mask",∅⟩
theorem gC:∀i j:Fin 10,kS i=kS j->i=j:=∅
theorem WR(d:Dz):kz d<10:=by cases d<;>simp[kz]
theorem Oc{i j:Nat}(hi:i<10)(hj:j<10)(h:kS i=kS j):i=j:=Fin.mk.inj (gC ⟨i,hi⟩ ⟨j,hj⟩ h)
def eD:Dz->PyData
 |.plate w h a b=>.tuple [.int w,.int h,ec a,ec b]
 |.band w h a b=>.tuple [.int w,.int h,ec a,ec b]
 |.word t a b=>.tuple [eT t,ec a,ec b]
 |.stencil rs a b=>.tuple [.tuple (rs.map eT),ec a,ec b]
 |.group=>.tuple []
 |.glass a=>.tuple [ec a]
 |.window w h x y=>.tuple [.int w,.int h,.int x,.int y]
 |.turn q f=>.tuple [.int q,.bool f]
 |.tiles a b x y=>.tuple [.int a,.int b,.int x,.int y]
 |.mask=>.tuple []
structure Rz where
 n:Tx
 h:Tx
 x:Int
 y:Int
 s:Bool
 d:Dz
 deriving DecidableEq
def eZ(r:Rz):PyData:=.tuple [eT r.n,eT r.h,.int r.x,.int r.y,.bool r.s,eT (kS (kz r.d)),eD r.d]
theorem ecq(a b:Cl):PyData.eqv (ec a) (ec b)=decide (a=b):=encC.eqv a b
theorem ie(a b:Int):PyData.eqv (.int a) (.int b)=decide (a=b):=encI.eqv a b
theorem fA(a b:Bool):PyData.eqv (.bool a) (.bool b)=decide (a=b):=by rw[PyData.eqv];cases a<;>cases b<;>rfl
theorem jb(a b:Int):(a==b)=decide (a=b):=rfl
theorem jc(a b:Bool):(a==b)=decide (a=b):=by cases a<;>cases b<;>rfl
theorem eDq:∀a b:Dz,kz a=kz b->PyData.eqv (eD a) (eD b)=decide (a=b):=by
 intro a b h
 cases a<;>cases b<;>first
  |(exfalso;simp[kz]at h;done)
  |(simp only[eD,PyData.eqv,PyData.eqvAll,ecq,ie,fA,jb,jc,encT.eqv,encT.eqvL,Bool.and_true,Dz.plate.injEq,Dz.band.injEq,Dz.word.injEq,Dz.stencil.injEq,Dz.glass.injEq,Dz.window.injEq,Dz.turn.injEq,Dz.tiles.injEq,Bool.decide_and,decide_true])
theorem bZ:∀rs:List Tx,PyData.depthAll (rs.map eT)<=1
 |[]=>by rw[List.map_nil,PyData.depthAll];decide
 |r::rs=>by
  have:=bZ rs
  rw[List.map_cons,PyData.depthAll]
  unfold eT at *
  simp only[PyData.depth]
  omega
theorem encZ:Enc eZ:=by
 refine⟨fun a b=>?_,fun a=>?_,fun a=>?_,fun a=>?_⟩
 ·unfold eZ
  simp only[PyData.eqv,PyData.eqvAll,ie,fA,encT.eqv,Bool.and_true]
  obtain⟨a1,a2,a3,a4,a5,a6⟩:=a
  obtain⟨b1,b2,b3,b4,b5,b6⟩:=b
  simp only[Rz.mk.injEq,Bool.decide_and]
  by_cases h:kz a6=kz b6
  ·rw[eDq a6 b6 h,h,decide_eq_true rfl,Bool.true_and]
   simp[Bool.beq_eq_decide_eq]
  ·have h1:kS (kz a6)≠kS (kz b6):=fun z=>h (Oc (WR _) (WR _) z)
   have h2:a6≠b6:=fun z=>h (by rw[z])
   rw[decide_eq_false h1,decide_eq_false h2]
   simp
 ·show PyData.canLay0 (.tuple _)=true
  simp only[PyData.canLay0,PyData.canLayAll0,encT.can,Bool.true_and,Bool.and_true]
  cases a.d<;>simp only[eD,PyData.canLay0,PyData.canLayAll0,encT.can,encC.can,encT.canL,Bool.true_and,Bool.and_true]
 ·have hc:=encC.dep
  have key:PyData.depth (eD a.d)<=10:=by
   cases a.d with
   |stencil rs x y =>
    have:=bZ rs
    simp only[eD,ec,PyData.depth,PyData.depthAll]
    omega
   |word t x y=>simp[eD,eT,ec,PyData.depth,PyData.depthAll]
   |_=>simp[eD,ec,PyData.depth,PyData.depthAll]
  show PyData.depth (.tuple _)<=20
  simp only[PyData.depth,PyData.depthAll,eT]
  omega
 ·show EZ (.tuple _)=true
  simp only[EZ,fixDs,encT.fix,Bool.true_and,Bool.and_true]
  cases a.d<;>simp only[eD,EZ,fixDs,encT.fix,encC.fix,encT.fixL,Bool.true_and,Bool.and_true]
theorem T4(n:Nat):(rng 0 n).map PyData.int=(List.range n).map fun(k:Nat)=>PyData.int (k:Int):=by
 unfold rng
 rw[List.map_map]
 refine List.map_congr_left fun k _=>?_
 show PyData.int (0+(k:Int))=_
 rw[Int.zero_add]
theorem gZ{i:Nat}{f:DX}{τ τ1:DS}{d:PyData}{xs:List PyData}(hi:τ[i]?=some (some (.m xs)))(hf:f (τ.set i (some (.d (.list xs))))=some (d,τ1))(hx:(EZ d&&τ1.all okM)=true):Fs i f τ=some (d,τ1.set i (some (.m xs))):=by
 unfold Fs
 rw[hi]
 show(f _).bind _=_
 rw[hf]
 show(if _ then _ else _)=_
 rw[if_pos hx]
theorem GN{F:List PyData->Option PyData}{f:DX}{τ τ1:DS}{d r:PyData}(h:f τ=some (d,τ1))(e:F [d]=some r):A1 F (AA f AI) τ=some (r,τ1):=by
 unfold A1
 rw[acc h rfl]
 show((F [d]).map _)=_
 rw[e];rfl
theorem gm{i:Nat}{a:DA}{τ τ1:DS}{d:PyData}{xs:List PyData}(h:a τ=some ([.d d],τ1))(m:τ1[i]?=some (some (.m xs)))(hz:xs.length<900):Eb (dMt i Cv a) τ=some (.nx (τ1.set i (some (.m (xs++[d]))))):=by
 have hs:xs.length<sizeLine:=Nat.lt_of_lt_of_le hz (by decide)
 unfold Eb dMt
 rw[h]
 show((match τ1[i]? with|some (some (.m xs))=>_|_=>_):Option (PyData×DS)).map _=_
 rw[m]
 show((if xs.length<sizeLine then some (PyData.none,xs++[d]) else none).map _).map _=_
 rw[if_pos hs]
 rfl
theorem jO{c:DT}{b:DB}{n:Nat}{τ τ1:DS}(h:c τ=some (false,τ1)):dWh c b (n+1) τ=some (.nx τ1):=by
 rw[dWh,h];rfl
theorem jN{c:DT}{b:DB}{n:Nat}{τ τ1 τ2:DS}(h:c τ=some (true,τ1))(k:b τ1=some (.nx τ2)):dWh c b (n+1) τ=dWh c b n τ2:=by
 rw[dWh,h]
 show(b τ1).bind _=_
 rw[k];rfl
theorem X0{i:Nat}{f:DX}{τ:DS}{xs:List PyData}{d:PyData}(hi:τ[i]?=some (some (.m xs)))(hf:f (τ.set i (some (.d (.list xs))))=some (d,τ.set i (some (.d (.list xs)))))(hd:EZ d=true)(hok:(τ.set i (some (.d (.list xs)))).all okM=true):Fs i f τ=some (d,τ):=by
 unfold Fs
 rw[hi]
 dsimp only
 rw[hf]
 dsimp only[Option.bind]
 rw[hd,hok,Bool.and_self,if_pos rfl,List.set_set]
 congr 2
 obtain⟨hlt,he⟩:=List.getElem?_eq_some_iff.mp hi
 rw[<- he,List.set_getElem_self]
def I0(al s:Str):Prop:=∀c∈s.cps.toList,c∈al.cps.toList
def alN:Str:="abcdefghijklmnopqrstuvwxyz0123456789"
def alW:Str:="0123456789abcdef-_"
def alS:Str:="#."
theorem Uz{al s:Str}(ha:PyData.strOk al=true)(h:I0 al s):PyData.strOk s=true:=by
 unfold PyData.strOk at *
 rw[Array.all_eq_true_iff_forall_mem]at *
 exact fun c hc=>ha c (Array.mem_toList_iff.mp (h c (Array.mem_toList_iff.mpr hc)))
theorem ixA{al:Str}{m:Int}(h0:0<m)(hl:(al.length:Int)=m)(hz:m<=100)(v:Int):∃c,c∈al.cps.toList/\SQ (.str al) (.int (v % m))=some (.str ⟨#[c]⟩):=by
 have hk0:=Int.emod_nonneg v (show m≠0 by omega)
 have hk1:=Int.emod_lt_of_pos v h0
 have e:al.cps.toList.length=al.length:=rfl
 have hk:(v % m).toNat<al.cps.toList.length:=by omega
 refine⟨al.cps.toList[(v % m).toNat],List.getElem_mem hk,?_⟩
 show(if al.length<=sizeLine then _ else _)=_
 rw[if_pos (sz (by omega))]
 unfold atI ixN
 rw[if_pos hk0,if_pos (by omega)]
 show(al.cps.toList[(v % m).toNat]?).map _=_
 rw[List.getElem?_eq_getElem hk];rfl
theorem jC{s:Str}{c:Nat}(h:s.length<=100):Mg (.str s) (.str ⟨#[c]⟩)=some (.str (s++(⟨#[c]⟩:Str))):=by
 show(if s.length+1<=sizeLine then _ else _)=_
 rw[if_pos (sz (by omega))]
theorem Ys(s:Str)(c:Nat):(s++(⟨#[c]⟩:Str)).length=s.length+1:=by
 show(s.cps++#[c]).size=_
 rw[Array.size_append];rfl
theorem bg{al s:Str}{c:Nat}(h:I0 al s)(hc:c∈al.cps.toList):I0 al (s++(⟨#[c]⟩:Str)):=by
 intro x hx
 have:x∈(s.cps++#[c]).toList:=hx
 rw[Array.toList_append]at this
 rcases List.mem_append.mp this with z|z
 ·exact h x z
 ·rw[List.mem_singleton.mp z];exact hc
theorem bI(al:Str):I0 al "":=by
 intro c hc
 have:(Str.cps "").toList=[]:=∅
 rw[this]at hc;cases hc
def sgB(al:Str)(m:Int):DB:=Aa (Ah (dOp Mg (AF 1) (dOp SQ (dC (.str al)) (dOp Bm (AF 0) (dC (.int m))))) (dN 1)) (Ah (dOp B7 (AF 0) (dC (.int m))) (dN 0))
theorem YF{al:Str}{m:Int}(h0:0<m)(hl:(al.length:Int)=m)(hz:m<=100)(n:Int)(n0:0<=n)(n1:n<=50)(v:Int):∃(u:Int) (s:Str) (o:Option L),nM o/\(s.length:Int)=n/\I0 al s /\
  Gs (dN 3) (sgB al m) ((rng 0 n.toNat).map PyData.int) [some (.d (.int v)),some (.d (.str "")),some (.d (.int n)),none]=some (.nx [some (.d (.int u)),some (.d (.str s)),some (.d (.int n)),o]):=by
 let st:Int->Str->Option L->DS:=fun u s o=>[some (.d (.int u)),some (.d (.str s)),some (.d (.int n)),o]
 have lp:∃τ',Gs (dN 3) (sgB al m) ((List.range n.toNat).map fun(k:Nat)=>PyData.int (k:Int)) (st v "" none)=some (.nx τ')/\∃u s o,nM o/\s.length=(List.range n.toNat).length/\I0 al s/\τ'=st u s o:=by
  refine J6 (fun(pre:List Nat) τ=>∃u s o,nM o/\s.length=pre.length/\I0 al s/\τ=st u s o) ⟨v,"",none,Fb,∅,bI al,rfl⟩ ?_
  rintro pre k post τ hp ⟨u,s,o,ho,hr,hall,rfl⟩
  have hl':=Jv hp
  rw[List.length_range]at hl'
  let K:Option L:=some (.d (.int (k:Int)))
  obtain⟨c,hc,ej⟩:=ixA h0 hl hz u
  let s':=s++(⟨#[c]⟩:Str)
  have s1:Ah (dOp Mg (AF 1) (dOp SQ (dC (.str al)) (dOp Bm (AF 0) (dC (.int m))))) (dN 1) (st u s K)=some (.nx (st u s' K)) :=
   Bt (d:=.str s') (τ1:=st u s K) (op2 (x:=.str s) (y:=.str ⟨#[c]⟩) (τ1:=st u s K) rfl (op2 (x:=.str al) (y:=.int (u % m)) (τ1:=st u s K) rfl (op2 (x:=.int u) (y:=.int m) (τ1:=st u s K) rfl rfl (Dt h0)) ej) (jC (by omega))) rfl
  have s2:Ah (dOp B7 (AF 0) (dC (.int m))) (dN 0) (st u s' K)=some (.nx (st (u / m) s' K)) :=
   Bt (d:=.int (u / m)) (τ1:=st u s' K) (op2 (x:=.int u) (y:=.int m) (τ1:=st u s' K) rfl rfl (E3 h0 (by omega))) rfl
  exact⟨st u s K,_,Jc (o:=o) rfl ho,(AR s1).trans s2,u / m,s',K,K9,by rw[Ys,List.length_append,hr];rfl,bg hall hc,rfl⟩
 obtain⟨τ',e,u,s,o,ho,hl,hall,rfl⟩:=lp
 rw[<- T4]at e
 rw[List.length_range]at hl
 exact⟨u,s,o,ho,by omega,hall,e⟩
theorem Xa(v:Int):∃(t:Tx) (w:Int) (ls:List L),Gm [.d (.int v)]=some (.tuple [eT t,.int w],ls)/\1<=t.1.length/\t.1.length<=8/\I0 alN t.1:=by
 obtain⟨u,s,o,ho,hl,ha,e⟩:=YF (al:=alN) (m:=36) (by decide) ∅ (by decide) (1+v % 8) (by omega) (by omega) (v / 8)
 refine⟨⟨s,Uz ∅ ha⟩,u,[.d (.int v)],?_,by show 1<=s.length;omega,by show s.length<=8;omega,ha⟩
 unfold Gm
 let I:Int->Option L:=fun i=>some (.d (.int i))
 let T:Option L:=some (.d (.str ""))
 refine Ag (τ:=[I u,some (.d (.str s)),I (1+v % 8),o]) ?_ rfl rfl
 have z2:Ah (dOp CG (dC (.int 1)) (dOp Bm (AF 0) (dC (.int 8)))) (dN 2) [I v,T,none,none]=some (.nx [I v,T,I (1+v % 8),none]):=by
  have d:=Dt (i:=v) (j:=8) (by decide)
  simp only[I,T,d,Bo,Aa,Ah,dN,An,BO,BA,Ea,AF,dC,dOp,fI,CG,EE,fLt,fLe,fGt,fGe,Am,AQ,AI,AA,Cy,Bn,A1,AU,Bl,Bw,C5,C6,C4,E4,CY,atI,ixN,sz',Option.bind_some,Option.map_some,List.map_cons,List.map_nil,List.cons_append,List.nil_append,List.length_cons,List.length_nil,List.getElem?_cons_zero,List.getElem?_cons_succ,List.set_cons_zero,List.set_cons_succ,List.replicate_succ,List.replicate_zero,if_true,if_false,reduceIte,Bool.false_eq_true,Nat.reduceAdd,Nat.reduceLT,Int.reduceAdd,Int.reduceLT,Int.reduceLE,Int.reduceToNat,Nat.reduceLeDiff,and_self,Int.toNat_zero,Int.le_refl,Int.natCast_add,Int.cast_ofNat_Int,Nat.zero_add]
 have z3:Ah (dOp B7 (AF 0) (dC (.int 8))) (dN 0) [I v,T,I (1+v % 8),none]=some (.nx [I (v / 8),T,I (1+v % 8),none]):=by
  have d:=E3 (i:=v) (j:=8) (by decide) (by decide)
  simp only[I,T,d,Bo,Aa,Ah,dN,An,BO,BA,Ea,AF,dC,dOp,fI,CG,EE,fLt,fLe,fGt,fGe,Am,AQ,AI,AA,Cy,Bn,A1,AU,Bl,Bw,C5,C6,C4,E4,CY,atI,ixN,sz',Option.bind_some,Option.map_some,List.map_cons,List.map_nil,List.cons_append,List.nil_append,List.length_cons,List.length_nil,List.getElem?_cons_zero,List.getElem?_cons_succ,List.set_cons_zero,List.set_cons_succ,List.replicate_succ,List.replicate_zero,if_true,if_false,reduceIte,Bool.false_eq_true,Nat.reduceAdd,Nat.reduceLT,Int.reduceAdd,Int.reduceLT,Int.reduceLE,Int.reduceToNat,Nat.reduceLeDiff,and_self,Int.toNat_zero,Int.le_refl,Int.natCast_add,Int.cast_ofNat_Int,Nat.zero_add]
 refine(AR rfl).trans ((AR z2).trans ((AR z3).trans ?_))
 exact(AR ((Lm (YJ (n:=1+v % 8) (τ1:=[I (v / 8),T,I (1+v % 8),none]) rfl (by omega) (by omega))).trans e)).trans rfl
theorem W7(v:Int):∃(t:Tx) (w:Int) (ls:List L),Gk [.d (.int v)]=some (.tuple [eT t,.int w],ls)/\t.1.length<=6/\I0 alW t.1:=by
 obtain⟨u,s,o,ho,hl,ha,e⟩:=YF (al:=alW) (m:=18) (by decide) ∅ (by decide) (v % 7) (by omega) (by omega) (v / 7)
 refine⟨⟨s,Uz ∅ ha⟩,u,[.d (.int v)],?_,by show s.length<=6;omega,ha⟩
 unfold Gk
 let I:Int->Option L:=fun i=>some (.d (.int i))
 let T:Option L:=some (.d (.str ""))
 refine Ag (τ:=[I u,some (.d (.str s)),I (v % 7),o]) ?_ rfl rfl
 have z2:Ah (dOp Bm (AF 0) (dC (.int 7))) (dN 2) [I v,T,none,none]=some (.nx [I v,T,I (v % 7),none]):=by
  have d:=Dt (i:=v) (j:=7) (by decide)
  simp only[I,T,d,Bo,Aa,Ah,dN,An,BO,BA,Ea,AF,dC,dOp,fI,CG,EE,fLt,fLe,fGt,fGe,Am,AQ,AI,AA,Cy,Bn,A1,AU,Bl,Bw,C5,C6,C4,E4,CY,atI,ixN,sz',Option.bind_some,Option.map_some,List.map_cons,List.map_nil,List.cons_append,List.nil_append,List.length_cons,List.length_nil,List.getElem?_cons_zero,List.getElem?_cons_succ,List.set_cons_zero,List.set_cons_succ,List.replicate_succ,List.replicate_zero,if_true,if_false,reduceIte,Bool.false_eq_true,Nat.reduceAdd,Nat.reduceLT,Int.reduceAdd,Int.reduceLT,Int.reduceLE,Int.reduceToNat,Nat.reduceLeDiff,and_self,Int.toNat_zero,Int.le_refl,Int.natCast_add,Int.cast_ofNat_Int,Nat.zero_add]
 have z3:Ah (dOp B7 (AF 0) (dC (.int 7))) (dN 0) [I v,T,I (v % 7),none]=some (.nx [I (v / 7),T,I (v % 7),none]):=by
  have d:=E3 (i:=v) (j:=7) (by decide) (by decide)
  simp only[I,T,d,Bo,Aa,Ah,dN,An,BO,BA,Ea,AF,dC,dOp,fI,CG,EE,fLt,fLe,fGt,fGe,Am,AQ,AI,AA,Cy,Bn,A1,AU,Bl,Bw,C5,C6,C4,E4,CY,atI,ixN,sz',Option.bind_some,Option.map_some,List.map_cons,List.map_nil,List.cons_append,List.nil_append,List.length_cons,List.length_nil,List.getElem?_cons_zero,List.getElem?_cons_succ,List.set_cons_zero,List.set_cons_succ,List.replicate_succ,List.replicate_zero,if_true,if_false,reduceIte,Bool.false_eq_true,Nat.reduceAdd,Nat.reduceLT,Int.reduceAdd,Int.reduceLT,Int.reduceLE,Int.reduceToNat,Nat.reduceLeDiff,and_self,Int.toNat_zero,Int.le_refl,Int.natCast_add,Int.cast_ofNat_Int,Nat.zero_add]
 refine(AR rfl).trans ((AR z2).trans ((AR z3).trans ?_))
 exact(AR ((Lm (YJ (n:=v % 7) (τ1:=[I (v / 7),T,I (v % 7),none]) rfl (by omega) (by omega))).trans e)).trans rfl
theorem Ke(v:Int):∃(x w:Int) (ls:List L),Cj [.d (.int v)]=some (.tuple [.int x,.int w],ls)/\-60<=x/\x<=60:=by
 have d1:=Dt (i:=v) (j:=6) (by decide)
 have d2:=E3 (i:=v) (j:=6) (by decide) (by decide)
 have d3:=Dt (i:=v / 6) (j:=121) (by decide)
 have d4:=Dt (i:=v / 6) (j:=12) (by decide)
 have d5:=E3 (i:=v) (j:=726) (by decide) (by decide)
 have d6:=E3 (i:=v) (j:=72) (by decide) (by decide)
 by_cases h:v % 6=0
 ·refine⟨v / 6 % 121-60,v / 726,[.d (.int v)],?_,by omega,by omega⟩
  have q:fEq (.int (v % 6)) (.int 0)=some (.bool true):=by rw[encI.fEq,decide_eq_true h]
  simp only[Cj,d1,d2,d3,d5,q,Bo,Aa,Ah,dN,An,BO,BA,Ea,AF,dC,dOp,fI,CG,EE,fLt,fLe,fGt,fGe,Am,AQ,AI,AA,Cy,Bn,A1,AU,Bl,Bw,C5,C6,C4,E4,CY,atI,ixN,sz',Option.bind_some,Option.map_some,List.map_cons,List.map_nil,List.cons_append,List.nil_append,List.length_cons,List.length_nil,List.getElem?_cons_zero,List.getElem?_cons_succ,List.set_cons_zero,List.set_cons_succ,List.replicate_succ,List.replicate_zero,if_true,if_false,reduceIte,Bool.false_eq_true,Nat.reduceAdd,Nat.reduceLT,Int.reduceAdd,Int.reduceLT,Int.reduceLE,Int.reduceToNat,Nat.reduceLeDiff,and_self,Int.toNat_zero,Int.le_refl,Int.natCast_add,Int.cast_ofNat_Int,Nat.zero_add]
 ·refine⟨v / 6 % 12-3,v / 72,[.d (.int v)],?_,by omega,by omega⟩
  have q:fEq (.int (v % 6)) (.int 0)=some (.bool false):=by rw[encI.fEq,decide_eq_false h]
  simp only[Cj,d1,d2,d4,d6,q,Bo,Aa,Ah,dN,An,BO,BA,Ea,AF,dC,dOp,fI,CG,EE,fLt,fLe,fGt,fGe,Am,AQ,AI,AA,Cy,Bn,A1,AU,Bl,Bw,C5,C6,C4,E4,CY,atI,ixN,sz',Option.bind_some,Option.map_some,List.map_cons,List.map_nil,List.cons_append,List.nil_append,List.length_cons,List.length_nil,List.getElem?_cons_zero,List.getElem?_cons_succ,List.set_cons_zero,List.set_cons_succ,List.replicate_succ,List.replicate_zero,if_true,if_false,reduceIte,Bool.false_eq_true,Nat.reduceAdd,Nat.reduceLT,Int.reduceAdd,Int.reduceLT,Int.reduceLE,Int.reduceToNat,Nat.reduceLeDiff,and_self,Int.toNat_zero,Int.le_refl,Int.natCast_add,Int.cast_ofNat_Int,Nat.zero_add]
theorem Kg(v m:Int)(m0:5<=m)(m1:m<=100):∃(x w:Int) (ls:List L),Dj [.d (.int v),.d (.int m)]=some (.tuple [.int x,.int w],ls)/\1<=x/\x<=m:=by
 have d1:=Dt (i:=v) (j:=8) (by decide)
 have d2:=E3 (i:=v) (j:=8) (by decide) (by decide)
 have d3:=Dt (i:=v / 8) (j:=m) (by omega)
 have d4:=E3 (i:=v / 8) (j:=m) (by omega) (by omega)
 have d5:=Dt (i:=v / 8) (j:=5) (by decide)
 have d6:=E3 (i:=v) (j:=40) (by decide) (by decide)
 have g0:=Int.emod_nonneg (v / 8) (show m≠0 by omega)
 have g1:=Int.emod_lt_of_pos (v / 8) (show 0<m by omega)
 by_cases h:v % 8=0
 ·refine⟨1+v / 8 % m,v / 8 / m,[.d (.int v),.d (.int m)],?_,by omega,by omega⟩
  have q:fEq (.int (v % 8)) (.int 0)=some (.bool true):=by rw[encI.fEq,decide_eq_true h]
  simp only[Dj,d1,d2,d3,d4,q,Bo,Aa,Ah,dN,An,BO,BA,Ea,AF,dC,dOp,fI,CG,EE,fLt,fLe,fGt,fGe,Am,AQ,AI,AA,Cy,Bn,A1,AU,Bl,Bw,C5,C6,C4,E4,CY,atI,ixN,sz',Option.bind_some,Option.map_some,List.map_cons,List.map_nil,List.cons_append,List.nil_append,List.length_cons,List.length_nil,List.getElem?_cons_zero,List.getElem?_cons_succ,List.set_cons_zero,List.set_cons_succ,List.replicate_succ,List.replicate_zero,if_true,if_false,reduceIte,Bool.false_eq_true,Nat.reduceAdd,Nat.reduceLT,Int.reduceAdd,Int.reduceLT,Int.reduceLE,Int.reduceToNat,Nat.reduceLeDiff,and_self,Int.toNat_zero,Int.le_refl,Int.natCast_add,Int.cast_ofNat_Int,Nat.zero_add]
 ·refine⟨1+v / 8 % 5,v / 40,[.d (.int v),.d (.int m)],?_,by omega,by omega⟩
  have q:fEq (.int (v % 8)) (.int 0)=some (.bool false):=by rw[encI.fEq,decide_eq_false h]
  simp only[Dj,d1,d2,d5,d6,q,Bo,Aa,Ah,dN,An,BO,BA,Ea,AF,dC,dOp,fI,CG,EE,fLt,fLe,fGt,fGe,Am,AQ,AI,AA,Cy,Bn,A1,AU,Bl,Bw,C5,C6,C4,E4,CY,atI,ixN,sz',Option.bind_some,Option.map_some,List.map_cons,List.map_nil,List.cons_append,List.nil_append,List.length_cons,List.length_nil,List.getElem?_cons_zero,List.getElem?_cons_succ,List.set_cons_zero,List.set_cons_succ,List.replicate_succ,List.replicate_zero,if_true,if_false,reduceIte,Bool.false_eq_true,Nat.reduceAdd,Nat.reduceLT,Int.reduceAdd,Int.reduceLT,Int.reduceLE,Int.reduceToNat,Nat.reduceLeDiff,and_self,Int.toNat_zero,Int.le_refl,Int.natCast_add,Int.cast_ofNat_Int,Nat.zero_add]
theorem Vk(v:Int):∃(a b:Cl) (w:Int) (ls:List L),EU [.d (.int v)]=some (.tuple [ec a,ec b,.int w],ls)/\OkF a/\OkF b:=by
 obtain⟨a,u,l1,e1,oa⟩:=PH v
 obtain⟨b,w,l2,e2,ob⟩:=PH (u / 3)
 have d1:=Dt (i:=u) (j:=3) (by decide)
 have d2:=E3 (i:=u) (j:=3) (by decide) (by decide)
 by_cases h:u % 3=0
 ·refine⟨a,(1,1),u / 3,[.d (.int v)],?_,oa,?_⟩
  ·have q:fEq (.int (u % 3)) (.int 0)=some (.bool true):=by rw[encI.fEq,decide_eq_true h]
   simp only[EU,e1,q,d1,d2,Bo,Aa,Ah,dN,ME,Ge,An,JL,Lv,Eb,dMt,Cv,HG,JE,GH,BO,BA,RK,RJ,JM,II,Ea,AF,dC,dOp,dUn,fI,CG,EE,fLt,fLe,fGt,fGe,E2,Od,Q6,Ln,LI,Am,AQ,C7,CH,BP,dIf,Co,dOr,MD,Cf,AI,AA,Cy,Bn,Gi,A1,AU,JO,Bl,JN,dAS,mkL,nMb,isM,isC,Fs,Lw,FL,GL,dIL,dIT,dR1,dR2,Cu,BH,dGT,Bw,C5,C6,C4,Bz,f1,f2,NB,JG,JF,Lo,EA,RH,FN,E4,CY,atI,ixN,Fl,LQ,LR,LP,EZ,fixDs,sz',Option.bind_some,Option.bind_none,Option.map_some,Option.map_none,List.map_cons,List.map_nil,List.cons_append,List.nil_append,List.length_cons,List.length_nil,List.getElem?_cons_zero,List.getElem?_cons_succ,List.set_cons_zero,List.set_cons_succ,List.replicate_succ,List.replicate_zero,List.all_cons,List.all_nil,Bool.and_self,Bool.and_true,Bool.true_and,Bool.false_and,Bool.and_false,Bool.or_true,Bool.true_or,Bool.false_or,Bool.or_false,Bool.not_true,Bool.not_false,if_true,if_false,reduceIte,Bool.false_eq_true,Nat.reduceAdd,Nat.reduceLT,Nat.reduceSub,Nat.reduceMul,Int.reduceEq,Int.reduceSub,Int.reduceMul,Int.reducePow,Int.reduceDiv,Int.reduceMod,Nat.reduceLeDiff,Nat.reduceEqDiff,and_self,and_true,true_and,Int.natCast_add,Int.reduceAdd,Int.reduceLT,Int.reduceLE,Int.reduceToNat,Int.reduceNeg,Int.toNat_zero,Int.toNat_one,Int.zero_lt_one,Int.le_refl,Int.reduceNegSucc,Int.cast_ofNat_Int,Nat.zero_add,Nat.add_zero]
   rfl
  ·have:=bQ (t:=1) (b:=1) (by decide) (by decide) (by decide) (by decide)
   rwa [show frm 1 1=(1,1) by decide]at this
 ·refine⟨a,b,w,[.d (.int v)],?_,oa,ob⟩
  have q:fEq (.int (u % 3)) (.int 0)=some (.bool false):=by rw[encI.fEq,decide_eq_false h]
  simp only[EU,e1,e2,q,d1,d2,Bo,Aa,Ah,dN,ME,Ge,An,JL,Lv,Eb,dMt,Cv,HG,JE,GH,BO,BA,RK,RJ,JM,II,Ea,AF,dC,dOp,dUn,fI,CG,EE,fLt,fLe,fGt,fGe,E2,Od,Q6,Ln,LI,Am,AQ,C7,CH,BP,dIf,Co,dOr,MD,Cf,AI,AA,Cy,Bn,Gi,A1,AU,JO,Bl,JN,dAS,mkL,nMb,isM,isC,Fs,Lw,FL,GL,dIL,dIT,dR1,dR2,Cu,BH,dGT,Bw,C5,C6,C4,Bz,f1,f2,NB,JG,JF,Lo,EA,RH,FN,E4,CY,atI,ixN,Fl,LQ,LR,LP,EZ,fixDs,sz',Option.bind_some,Option.bind_none,Option.map_some,Option.map_none,List.map_cons,List.map_nil,List.cons_append,List.nil_append,List.length_cons,List.length_nil,List.getElem?_cons_zero,List.getElem?_cons_succ,List.set_cons_zero,List.set_cons_succ,List.replicate_succ,List.replicate_zero,List.all_cons,List.all_nil,Bool.and_self,Bool.and_true,Bool.true_and,Bool.false_and,Bool.and_false,Bool.or_true,Bool.true_or,Bool.false_or,Bool.or_false,Bool.not_true,Bool.not_false,if_true,if_false,reduceIte,Bool.false_eq_true,Nat.reduceAdd,Nat.reduceLT,Nat.reduceSub,Nat.reduceMul,Int.reduceEq,Int.reduceSub,Int.reduceMul,Int.reducePow,Int.reduceDiv,Int.reduceMod,Nat.reduceLeDiff,Nat.reduceEqDiff,and_self,and_true,true_and,Int.natCast_add,Int.reduceAdd,Int.reduceLT,Int.reduceLE,Int.reduceToNat,Int.reduceNeg,Int.toNat_zero,Int.toNat_one,Int.zero_lt_one,Int.le_refl,Int.reduceNegSucc,Int.cast_ofNat_Int,Nat.zero_add,Nat.add_zero]
theorem jZ:∀rs:List Tx,fixDs (rs.map eT)=true:=encT.fixL
theorem Rl(v:Int):∃(R:List Tx) (w:Nat) (v':Int) (ls:List L),Et [.d (.int v)]=some (.tuple [.tuple (R.map eT),.int v'],ls)/\1<=R.length/\R.length<=8/\1<=w/\w<=8/\∀r∈R,r.1.length=w/\I0 alS r.1:=by
 generalize hw:(1+v % 8:Int)=W
 generalize hh:(1+v / 8 % 8:Int)=Hh
 have w1:1<=W:=by omega
 have w2:W<=8:=by omega
 have h1:1<=Hh:=by omega
 have h2:Hh<=8:=by omega
 let I:Int->Option L:=fun i=>some (.d (.int i))
 let st:Int->List Tx->Option L->Option L->Option L->DS:=fun u R o4 o5 o6=>[I u,I W,I Hh,some (.m (R.map eT)),o4,o5,o6]
 let S:Str->Option L:=fun r=>some (.d (.str r))
 let Bi:DB:=Aa (Ah (dOp Mg (AF 5) (dOp SQ (dC (.str "#.")) (dOp Bm (AF 0) (dC (.int 2))))) (dN 5)) (Ah (dOp B7 (AF 0) (dC (.int 2))) (dN 0))
 have inner:∀(u:Int) (R:List Tx) (o4 o6:Option L),nM o6->∃τ',Gs (dN 6) Bi ((List.range W.toNat).map fun(k:Nat)=>PyData.int (k:Int)) (st u R o4 (S "") o6)=some (.nx τ')/\∃u' r o,nM o/\r.length=(List.range W.toNat).length/\I0 alS r/\τ'=st u' R o4 (S r) o:=by
  intro u R o4 o6 n6
  refine J6 (fun(pre:List Nat) τ=>∃u' r o,nM o/\r.length=pre.length/\I0 alS r/\τ=st u' R o4 (S r) o) ⟨u,"",o6,n6,∅,bI _,rfl⟩ ?_
  rintro pre k post τ hp ⟨u',r,o,ho,hr,hall,rfl⟩
  have hl:=Jv hp
  rw[List.length_range]at hl
  let K:Option L:=I (k:Int)
  let τ1:=st u' R o4 (S r) K
  obtain⟨c,hc,ej⟩:=ixA (al:=alS) (m:=2) (by decide) ∅ (by decide) u'
  let r':=r++(⟨#[c]⟩:Str)
  have s1:Ah (dOp Mg (AF 5) (dOp SQ (dC (.str "#.")) (dOp Bm (AF 0) (dC (.int 2))))) (dN 5) τ1=some (.nx (st u' R o4 (S r') K)) :=
   Bt (d:=.str r') (τ1:=τ1) (op2 (x:=.str r) (y:=.str ⟨#[c]⟩) (τ1:=τ1) rfl (op2 (x:=.str "#.") (y:=.int (u' % 2)) (τ1:=τ1) rfl (op2 (x:=.int u') (y:=.int 2) (τ1:=τ1) rfl rfl (Dt (by decide))) ej) (jC (by omega))) rfl
  have s2:Ah (dOp B7 (AF 0) (dC (.int 2))) (dN 0) (st u' R o4 (S r') K)=some (.nx (st (u' / 2) R o4 (S r') K)) :=
   Bt (d:=.int (u' / 2)) (τ1:=st u' R o4 (S r') K) (op2 (x:=.int u') (y:=.int 2) (τ1:=st u' R o4 (S r') K) rfl rfl (E3 (by decide) (by decide))) rfl
  exact⟨τ1,_,Jc (o:=o) rfl ho,(AR s1).trans s2,u' / 2,r',K,K9,by rw[Ys,List.length_append,hr];rfl,bg hall hc,rfl⟩
 have outer:∃τ',Gs (dN 4) (Aa (Ah (dC (.str "")) (dN 5)) (Aa (II (dR1 (AA (AF 1) AI)) (dN 6) Bi) (Eb (dMt 3 Cv (AA (AF 5) AI))))) ((List.range Hh.toNat).map fun(k:Nat)=>PyData.int (k:Int)) (st (v / 64) [] none none none)=some (.nx τ')/\∃u R o4 o5 o6,nM o4/\nM o5/\nM o6/\R.length=(List.range Hh.toNat).length/\(∀r∈R,r.1.length=W.toNat/\I0 alS r.1)/\τ'=st u R o4 o5 o6:=by
  refine J6 (fun(pre:List Nat) τ=>∃u R o4 o5 o6,nM o4/\nM o5/\nM o6/\R.length=pre.length/\(∀r∈R,r.1.length=W.toNat/\I0 alS r.1)/\τ=st u R o4 o5 o6) ⟨v / 64,[],none,none,none,Fb,Fb,Fb,rfl,(fun r hr=>by cases hr),rfl⟩ ?_
  rintro pre k post τ hp ⟨u,R,o4,o5,o6,n4,n5,n6,hR,hall,rfl⟩
  have hl:=Jv hp
  rw[List.length_range]at hl
  let K:Option L:=I (k:Int)
  have s1:Ah (dC (.str "")) (dN 5) (st u R K o5 o6)=some (.nx (st u R K (S "") o6)):=Bt (d:=.str "") (τ1:=st u R K o5 o6) rfl (Jc (o:=o5) rfl n5)
  obtain⟨τ',e,u',r,o,ho,hr,hal,rfl⟩:=inner u R K o6 n6
  rw[<- T4]at e
  let rt:Tx:=⟨r,Uz ∅ hal⟩
  have s2:II (dR1 (AA (AF 1) AI)) (dN 6) Bi (st u R K (S "") o6)=some (.nx (st u' R K (S r) o)):=(Lm (YJ (n:=W) (τ1:=st u R K (S "") o6) rfl (by omega) (by omega))).trans e
  have s3:Eb (dMt 3 Cv (AA (AF 5) AI)) (st u' R K (S r) o)=some (.nx (st u' (R++[rt]) K (S r) o)):=by
   refine(gm (i:=3) (d:=eT rt) (xs:=R.map eT) (τ1:=st u' R K (S r) o) rfl rfl (by rw[List.length_map];omega)).trans ?_
   show some (Out.nx [_,_,_,some (.m (R.map eT++[eT rt])),_,_,_])=_
   rw[show R.map eT++[eT rt]=(R++[rt]).map eT by rw[List.map_append];rfl]
  refine⟨st u R K o5 o6,st u' (R++[rt]) K (S r) o,Jc (o:=o4) rfl n4,(AR s1).trans ((AR s2).trans s3),u',R++[rt],K,S r,o,K9,K9,ho,by rw[List.length_append,List.length_append,hR];rfl,fun x hx=>?_,rfl⟩
  rcases List.mem_append.mp hx with z|z
  ·exact hall x z
  ·rw[List.mem_singleton.mp z]
   rw[List.length_range]at hr
   exact⟨hr,hal⟩
 obtain⟨τ',e,u,R,o4,o5,o6,n4,n5,n6,hR,hall,rfl⟩:=outer
 rw[<- T4]at e
 rw[List.length_range]at hR
 unfold Et
 let s0:DS:=[I v,none,none,none,none,none,none]
 let s1:DS:=[I v,I W,none,none,none,none,none]
 let s2:DS:=[I v,I W,I Hh,none,none,none,none]
 let s3:DS:=[I (v / 64),I W,I Hh,none,none,none,none]
 have z1:Ah (dOp CG (dC (.int 1)) (dOp Bm (AF 0) (dC (.int 8)))) (dN 1) s0=some (.nx s1) :=
  Bt (d:=.int W) (τ1:=s0) (op2 (x:=.int 1) (y:=.int (v % 8)) (τ1:=s0) rfl (op2 (x:=.int v) (y:=.int 8) (τ1:=s0) rfl rfl (Dt (by decide))) (by rw[<- hw];rfl)) rfl
 have z2:Ah (dOp CG (dC (.int 1)) (dOp Bm (dOp B7 (AF 0) (dC (.int 8))) (dC (.int 8)))) (dN 2) s1=some (.nx s2) :=
  Bt (d:=.int Hh) (τ1:=s1) (op2 (x:=.int 1) (y:=.int (v / 8 % 8)) (τ1:=s1) rfl (op2 (x:=.int (v / 8)) (y:=.int 8) (τ1:=s1) (op2 (x:=.int v) (y:=.int 8) (τ1:=s1) rfl rfl (E3 (by decide) (by decide))) rfl (Dt (by decide))) (by rw[<- hh];rfl)) rfl
 have z3:Ah (dOp B7 (AF 0) (dC (.int 64))) (dN 0) s2=some (.nx s3) :=
  Bt (d:=.int (v / 64)) (τ1:=s2) (op2 (x:=.int v) (y:=.int 64) (τ1:=s2) rfl rfl (E3 (by decide) (by decide))) rfl
 have z4:ME 1 3 s3=some (.nx (st (v / 64) [] none none none)):=rfl
 refine⟨R,W.toNat,u,_,Ag (τ:=st u R o4 o5 o6) ?_ rfl rfl,by omega,by omega,by omega,by omega,hall⟩
 refine(AR z1).trans ((AR z2).trans ((AR z3).trans ((AR z4).trans ?_)))
 refine(AR ((Lm (YJ (n:=Hh) (τ1:=st (v / 64) [] none none none) rfl (by omega) (by omega))).trans e)).trans (BB (τ1:=st u R o4 o5 o6) ?_)
 let τd:DS:=[I u,I W,I Hh,some (.d (.list (R.map eT))),o4,o5,o6]
 refine gZ (i:=3) (xs:=R.map eT) (τ1:=τd) rfl ?_ ?_
 ·unfold Bn
  show((AA (A1 Ku (AA (AF 3) AI)) (AA (AF 0) AI) τd).bind _)=_
  rw[acc (GN (d:=.list (R.map eT)) (r:=.tuple (R.map eT)) rfl rfl) (acc (τ1:=τd) (d:=.int u) rfl rfl)]
  rfl
 ·show((fixDs (R.map eT)&&(true&&true))&&(true&&(true&&(true&&(true&&(okM o4&&(okM o5&&(okM o6&&true))))))))=true
  rw[jZ,YO n4,YO n5,YO n6];rfl
def X5:Dz->Prop
 |.plate w h a b=>1<=w/\w<=12/\1<=h/\h<=12/\OkF a/\OkF b
 |.band w h a b=>-12<=w/\w<=12/\-12<=h/\h<=12/\OkF a/\OkF b
 |.word t a b=>t.1.length<=6/\I0 alW t.1/\OkF a/\OkF b
 |.stencil R a b=>1<=R.length/\R.length<=8/\(∃w,1<=w/\w<=8/\∀r∈R,r.1.length=w/\I0 alS r.1)/\OkF a/\OkF b
 |.group=>True
 |.glass a=>OkF a
 |.window w h x y=>1<=w/\w<=16/\1<=h/\h<=16/\-60<=x/\x<=60/\-60<=y/\y<=60
 |.turn q _=>0<=q/\q<=3
 |.tiles a b x y=>1<=a/\a<=3/\1<=b/\b<=3/\-20<=x/\x<=20/\-20<=y/\y<=20
 |.mask=>True
theorem inT(t:Tx)(ts:List Tx):fIn false (eT t) (.tuple (ts.map eT))=some (.bool (decide (t∈ts))):=by
 simp only[DL.fIn,encT.ok,encT.okL,encT.any,Bool.and_self,if_true,Bool.false_eq_true,if_false]
 exact congrArg (fun b=>some (PyData.bool b)) (decide_eq_decide.mpr Iff.rfl)
theorem sk{i j:Nat}(hi:i<10)(hj:j<10)(h:i≠j){a:DB}{τ:DS}(e:τ[0]?=some (some (.d (eT (kS i))))):BA (AQ (dOp fEq (AF 0) (dC (eT (kS j))))) a BO τ=some (.nx τ):=by
 refine(Dl (τ1:=τ) (tst (op2 (x:=eT (kS i)) (y:=eT (kS j)) (τ1:=τ) (by unfold AF;rw[e]) rfl ?_))).trans rfl
 rw[encT.fEq,decide_eq_false fun z=>h (Oc hi hj z)]
theorem tk{i:Nat}{a:DB}{τ:DS}(e:τ[0]?=some (some (.d (eT (kS i))))):BA (AQ (dOp fEq (AF 0) (dC (eT (kS i))))) a BO τ=a τ:=by
 refine JA (τ1:=τ) (tst (op2 (x:=eT (kS i)) (y:=eT (kS i)) (τ1:=τ) (by unfold AF;rw[e]) rfl ?_))
 rw[encT.fEq,decide_eq_true rfl]
theorem Xt{i:Nat}(hi:i<10)(v:Int):∃(d:Dz) (w:Int) (ls:List L),B2 [.d (eT (kS i)),.d (.int v)]=some (.tuple [eD d,.int w],ls)/\kz d=i/\X5 d:=by
 let I:Int->Option L:=fun i=>some (.d (.int i))
 let K:Option L:=some (.d (eT (kS i)))
 let N:Option L:=none
 let LS:List L:=[.d (eT (kS i)),.d (.int v)]
 let τ0:DS:=[K,I v,N,N,N,N,N,N,N,N,N]
 have g1:AQ (dOp (fIn false) (AF 0) (Bn (AA (dC (.str "group")) (AA (dC (.str "mask")) AI)))) τ0=some (decide (kS i∈[kS 4,kS 9]),τ0) :=
  tst (op2 (x:=eT (kS i)) (y:=.tuple ([kS 4,kS 9].map eT)) (τ1:=τ0) rfl rfl (inT _ _))
 have g0:i≠4->i≠9->∀a:DB,BA (AQ (dOp (fIn false) (AF 0) (Bn (AA (dC (.str "group")) (AA (dC (.str "mask")) AI))))) a BO τ0=some (.nx τ0):=fun h4 h9 a=>by
  refine(Dl (τ1:=τ0) (g1.trans ?_)).trans rfl
  rw[decide_eq_false]
  intro z
  rcases List.mem_cons.mp z with z|z
  ·exact h4 (Oc hi (by decide) z)
  ·exact h9 (Oc hi (by decide) (List.mem_singleton.mp z))
 have g2:i=4\/i=9->B2 [.d (eT (kS i)),.d (.int v)]=some (.tuple [.tuple [],.int v],[.d (eT (kS i)),.d (.int v)]):=fun h=>by
  unfold B2
  refine Ag (τ:=τ0) ((Kh ((JA (τ1:=τ0) (g1.trans ?_)).trans rfl))) rfl rfl
  rw[decide_eq_true]
  rcases h with rfl|rfl
  ·exact List.mem_cons_self
  ·exact List.mem_cons_of_mem _ List.mem_cons_self
 have q1:i=4->∃(d:Dz) (w:Int) (ls:List L),B2 [.d (eT (kS i)),.d (.int v)]=some (.tuple [eD d,.int w],ls)/\kz d=i/\X5 d:=fun h=>⟨.group,v,_,g2 (.inl h),by rw[h];rfl,trivial⟩
 have q2:i=9->∃(d:Dz) (w:Int) (ls:List L),B2 [.d (eT (kS i)),.d (.int v)]=some (.tuple [eD d,.int w],ls)/\kz d=i/\X5 d:=fun h=>⟨.mask,v,_,g2 (.inr h),by rw[h];rfl,trivial⟩
 by_cases h4:i=4
 ·exact q1 h4
 by_cases h9:i=9
 ·exact q2 h9
 have G0:=g0 h4 h9
 by_cases h7:i=7
 ·subst h7
  have d1:=Dt (i:=v) (j:=4) (by decide)
  have d2:=E3 (i:=v) (j:=4) (by decide) (by decide)
  have d3:=Dt (i:=v / 4) (j:=2) (by decide)
  have d4:=E3 (i:=v) (j:=8) (by decide) (by decide)
  have d5:fEq (.int (v / 4 % 2)) (.int 1)=some (.bool (decide (v / 4 % 2=1))):=encI.fEq _ _
  refine⟨.turn (v % 4) (decide (v / 4 % 2=1)),v / 8,LS,?_,rfl,by show 0<=v % 4;omega,by show v % 4<=3;omega⟩
  unfold B2
  refine Ag (τ:=τ0) ((AR (G0 _)).trans (Kh ((tk (i:=7) (τ:=τ0) rfl).trans (BB (τ1:=τ0) ?_)))) rfl rfl
  simp only[τ0,K,I,N,d1,d2,d3,d4,d5,eD,Bo,Aa,Ah,dN,An,BO,BA,Ea,AF,dC,dOp,fI,CG,EE,fLt,fLe,fGt,fGe,Am,AQ,AI,AA,Cy,Bn,A1,AU,Bl,Bw,C5,C6,C4,E4,CY,atI,ixN,sz',Option.bind_some,Option.map_some,List.map_cons,List.map_nil,List.cons_append,List.nil_append,List.length_cons,List.length_nil,List.getElem?_cons_zero,List.getElem?_cons_succ,List.set_cons_zero,List.set_cons_succ,List.replicate_succ,List.replicate_zero,if_true,if_false,reduceIte,Bool.false_eq_true,Nat.reduceAdd,Nat.reduceLT,Int.reduceAdd,Int.reduceLT,Int.reduceLE,Int.reduceToNat,Nat.reduceLeDiff,and_self,Int.toNat_zero,Int.le_refl,Int.natCast_add,Int.cast_ofNat_Int,Nat.zero_add]
 have G1:∀a:DB,BA (AQ (dOp fEq (AF 0) (dC (.str "turn")))) a BO τ0=some (.nx τ0):=fun a=>sk hi (j:=7) (by decide) h7 rfl
 by_cases h8:i=8
 ·subst h8
  have d1:=Dt (i:=v) (j:=3) (by decide)
  have d2:=E3 (i:=v) (j:=3) (by decide) (by decide)
  have d3:=Dt (i:=v / 3) (j:=3) (by decide)
  have d4:=E3 (i:=v) (j:=9) (by decide) (by decide)
  have d5:=Dt (i:=v / 9) (j:=41) (by decide)
  have d6:=E3 (i:=v) (j:=369) (by decide) (by decide)
  have d7:=Dt (i:=v / 369) (j:=41) (by decide)
  have d8:=E3 (i:=v) (j:=15129) (by decide) (by decide)
  have d9:=Dt (i:=v / 15129) (j:=4) (by decide)
  have da:=E3 (i:=v) (j:=60516) (by decide) (by decide)
  generalize ha:1+v % 3=a
  generalize hb:1+v / 3 % 3=b
  generalize hx:v / 9 % 41-20=x
  generalize hy:v / 369 % 41-20=y
  have db:=Dt (i:=x) (j:=7) (by decide)
  have dc:=Dt (i:=y) (j:=7) (by decide)
  let T:Int->Int->Option L:=fun x y=>some (.d (.tuple [.int a,.int b,.int x,.int y]))
  let τ1:Int->Int->DS:=fun x y=>[K,I v,T x y,N,N,N,N,N,N,N,N]
  have s1:Ah (Bn (AA (dOp CG (dC (.int 1)) (dOp Bm (AF 1) (dC (.int 3)))) (AA (dOp CG (dC (.int 1)) (dOp Bm (dOp B7 (AF 1) (dC (.int 3))) (dC (.int 3)))) (AA (dOp EE (dOp Bm (dOp B7 (AF 1) (dC (.int 9))) (dC (.int 41))) (dC (.int 20))) (AA (dOp EE (dOp Bm (dOp B7 (AF 1) (dC (.int 369))) (dC (.int 41))) (dC (.int 20))) AI))))) (dN 2) τ0=some (.nx (τ1 x y)):=by
   simp only[τ0,τ1,T,K,I,N,d1,d2,d3,d4,d5,d6,d7,ha,hb,hx,hy,Bo,Aa,Ah,dN,An,BO,BA,Ea,AF,dC,dOp,fI,CG,EE,fLt,fLe,fGt,fGe,Am,AQ,AI,AA,Cy,Bn,A1,AU,Bl,Bw,C5,C6,C4,E4,CY,atI,ixN,sz',Option.bind_some,Option.map_some,List.map_cons,List.map_nil,List.cons_append,List.nil_append,List.length_cons,List.length_nil,List.getElem?_cons_zero,List.getElem?_cons_succ,List.set_cons_zero,List.set_cons_succ,List.replicate_succ,List.replicate_zero,if_true,if_false,reduceIte,Bool.false_eq_true,Nat.reduceAdd,Nat.reduceLT,Int.reduceAdd,Int.reduceLT,Int.reduceLE,Int.reduceToNat,Nat.reduceLeDiff,and_self,Int.toNat_zero,Int.le_refl,Int.natCast_add,Int.cast_ofNat_Int,Nat.zero_add]
  have fin:∀x y:Int,An (Bn (AA (AF 2) (AA (dOp B7 (AF 1) (dC (.int 60516))) AI))) (τ1 x y)=some (.rt (.tuple [.tuple [.int a,.int b,.int x,.int y],.int (v / 60516)]) (τ1 x y)):=fun x y=>by
   simp only[τ0,τ1,T,K,I,N,da,Bo,Aa,Ah,dN,An,BO,BA,Ea,AF,dC,dOp,fI,CG,EE,fLt,fLe,fGt,fGe,Am,AQ,AI,AA,Cy,Bn,A1,AU,Bl,Bw,C5,C6,C4,E4,CY,atI,ixN,sz',Option.bind_some,Option.map_some,List.map_cons,List.map_nil,List.cons_append,List.nil_append,List.length_cons,List.length_nil,List.getElem?_cons_zero,List.getElem?_cons_succ,List.set_cons_zero,List.set_cons_succ,List.replicate_succ,List.replicate_zero,if_true,if_false,reduceIte,Bool.false_eq_true,Nat.reduceAdd,Nat.reduceLT,Int.reduceAdd,Int.reduceLT,Int.reduceLE,Int.reduceToNat,Nat.reduceLeDiff,and_self,Int.toNat_zero,Int.le_refl,Int.natCast_add,Int.cast_ofNat_Int,Nat.zero_add]
  by_cases hp:v / 15129 % 4>0
  ·refine⟨.tiles a b (x % 7) (y % 7),v / 60516,LS,?_,rfl,?_⟩
   ·unfold B2
    refine Ag (τ:=τ1 (x % 7) (y % 7)) ((AR (G0 _)).trans ((AR (G1 _)).trans (Kh ((tk (i:=8) (τ:=τ0) rfl).trans ((AR s1).trans ((AR (τ1:=τ1 (x % 7) (y % 7)) ?_).trans (fin _ _))))))) rfl rfl
    refine(JA (τ1:=τ1 x y) ?_).trans ?_
    ·simp only[τ1,T,K,I,N,d8,d9,hp,decide_true,Bo,Aa,Ah,dN,An,BO,BA,Ea,AF,dC,dOp,fI,CG,EE,fLt,fLe,fGt,fGe,Am,AQ,AI,AA,Cy,Bn,A1,AU,Bl,Bw,C5,C6,C4,E4,CY,atI,ixN,sz',Option.bind_some,Option.map_some,List.map_cons,List.map_nil,List.cons_append,List.nil_append,List.length_cons,List.length_nil,List.getElem?_cons_zero,List.getElem?_cons_succ,List.set_cons_zero,List.set_cons_succ,List.replicate_succ,List.replicate_zero,if_true,if_false,reduceIte,Bool.false_eq_true,Nat.reduceAdd,Nat.reduceLT,Int.reduceAdd,Int.reduceLT,Int.reduceLE,Int.reduceToNat,Nat.reduceLeDiff,and_self,Int.toNat_zero,Int.le_refl,Int.natCast_add,Int.cast_ofNat_Int,Nat.zero_add]
    ·have e1:VH (AF 2) Xv (dPt (dC (.int 2))) (τ1 x y)=some (.tuple [.int a,.int b],τ1 x y):=rfl
     refine Bt (d:=.tuple [.int a,.int b,.int (x % 7),.int (y % 7)]) (τ1:=τ1 x y) (op2 e1 (y:=.tuple [.int (x % 7),.int (y % 7)]) (τ2:=τ1 x y) ?_ rfl) rfl
     simp only[τ1,T,K,I,N,db,dc,Bo,Aa,Ah,dN,An,BO,BA,Ea,AF,dC,dOp,fI,CG,EE,fLt,fLe,fGt,fGe,Am,AQ,AI,AA,Cy,Bn,A1,AU,Bl,Bw,C5,C6,C4,E4,CY,atI,ixN,sz',Option.bind_some,Option.map_some,List.map_cons,List.map_nil,List.cons_append,List.nil_append,List.length_cons,List.length_nil,List.getElem?_cons_zero,List.getElem?_cons_succ,List.set_cons_zero,List.set_cons_succ,List.replicate_succ,List.replicate_zero,if_true,if_false,reduceIte,Bool.false_eq_true,Nat.reduceAdd,Nat.reduceLT,Int.reduceAdd,Int.reduceLT,Int.reduceLE,Int.reduceToNat,Nat.reduceLeDiff,and_self,Int.toNat_zero,Int.le_refl,Int.natCast_add,Int.cast_ofNat_Int,Nat.zero_add]
   ·exact⟨by omega,by omega,by omega,by omega,by omega,by omega,by omega,by omega⟩
  ·refine⟨.tiles a b x y,v / 60516,LS,?_,rfl,?_⟩
   ·unfold B2
    refine Ag (τ:=τ1 x y) ((AR (G0 _)).trans ((AR (G1 _)).trans (Kh ((tk (i:=8) (τ:=τ0) rfl).trans ((AR s1).trans ((AR (τ1:=τ1 x y) ?_).trans (fin _ _))))))) rfl rfl
    refine(Dl (τ1:=τ1 x y) ?_).trans rfl
    simp only[τ1,T,K,I,N,d8,d9,hp,decide_false,Bo,Aa,Ah,dN,An,BO,BA,Ea,AF,dC,dOp,fI,CG,EE,fLt,fLe,fGt,fGe,Am,AQ,AI,AA,Cy,Bn,A1,AU,Bl,Bw,C5,C6,C4,E4,CY,atI,ixN,sz',Option.bind_some,Option.map_some,List.map_cons,List.map_nil,List.cons_append,List.nil_append,List.length_cons,List.length_nil,List.getElem?_cons_zero,List.getElem?_cons_succ,List.set_cons_zero,List.set_cons_succ,List.replicate_succ,List.replicate_zero,if_true,if_false,reduceIte,Bool.false_eq_true,Nat.reduceAdd,Nat.reduceLT,Int.reduceAdd,Int.reduceLT,Int.reduceLE,Int.reduceToNat,Nat.reduceLeDiff,and_self,Int.toNat_zero,Int.le_refl,Int.natCast_add,Int.cast_ofNat_Int,Nat.zero_add]
   ·exact⟨by omega,by omega,by omega,by omega,by omega,by omega,by omega,by omega⟩
 have G2:∀a:DB,BA (AQ (dOp fEq (AF 0) (dC (.str "tiles")))) a BO τ0=some (.nx τ0):=fun a=>sk hi (j:=8) (by decide) h8 rfl
 by_cases h6:i=6
 ·subst h6
  obtain⟨w,v1,l1,e1,w0,w1⟩:=Kg v 16 (by decide) (by decide)
  obtain⟨h,v2,l2,e2,h0,h1⟩:=Kg v1 16 (by decide) (by decide)
  obtain⟨x,v3,l3,e3,x0,x1⟩:=Ke v2
  obtain⟨y,v4,l4,e4,y0,y1⟩:=Ke v3
  refine⟨.window w h x y,v4,LS,?_,rfl,w0,w1,h0,h1,x0,x1,y0,y1⟩
  unfold B2
  let st:Int->Option L->Option L->Option L->Option L->DS:=fun v a b c d=>[K,I v,N,a,b,c,d,N,N,N,N]
  refine Ag (τ:=st v4 (I w) (I h) (I x) (I y)) ((AR (G0 _)).trans ((AR (G1 _)).trans ((AR (G2 _)).trans (Kh ((tk (i:=6) (τ:=τ0) rfl).trans ?_))))) rfl rfl
  refine(AR (τ1:=st v1 (I w) N N N) (Bt (AX (τ1:=τ0) (rs:=[.d (.int v),.d (.int 16)]) (ds:=[.int v,.int 16]) rfl rfl e1) rfl)).trans ?_
  refine(AR (τ1:=st v2 (I w) (I h) N N) (Bt (AX (τ1:=st v1 (I w) N N N) (rs:=[.d (.int v1),.d (.int 16)]) (ds:=[.int v1,.int 16]) rfl rfl e2) rfl)).trans ?_
  refine(AR (τ1:=st v3 (I w) (I h) (I x) N) (Bt (AX (τ1:=st v2 (I w) (I h) N N) (rs:=[.d (.int v2)]) (ds:=[.int v2]) rfl rfl e3) rfl)).trans ?_
  exact(AR (τ1:=st v4 (I w) (I h) (I x) (I y)) (Bt (AX (τ1:=st v3 (I w) (I h) (I x) N) (rs:=[.d (.int v3)]) (ds:=[.int v3]) rfl rfl e4) rfl)).trans rfl
 have G3:∀a:DB,BA (AQ (dOp fEq (AF 0) (dC (.str "window")))) a BO τ0=some (.nx τ0):=fun a=>sk hi (j:=6) (by decide) h6 rfl
 obtain⟨p,q,v',lp,ep,op,oq⟩:=Vk v
 let A:Option L:=some (.d (ec p))
 let B:Option L:=some (.d (ec q))
 let st:Int->Option L->Option L->Option L->Option L->DS:=fun v a b c d=>[K,I v,N,a,b,N,N,A,B,c,d]
 let τ1:=st v' N N N N
 have P:Ah (AU EU (AA (AF 1) AI)) (dGT (BH (dN 7) (BH (dN 8) (BH (dN 1) Cu)))) τ0=some (.nx τ1):=Bt (AX (τ1:=τ0) (rs:=[.d (.int v)]) (ds:=[.int v]) rfl rfl ep) rfl
 by_cases h5:i=5
 ·subst h5
  refine⟨.glass q,v',LS,?_,rfl,oq⟩
  unfold B2
  exact Ag (τ:=τ1) ((AR (G0 _)).trans ((AR (G1 _)).trans ((AR (G2 _)).trans ((AR (G3 _)).trans ((AR P).trans (Kh ((tk (i:=5) (τ:=τ1) rfl).trans rfl))))))) rfl rfl
 have G5:∀a:DB,BA (AQ (dOp fEq (AF 0) (dC (.str "glass")))) a BO τ1=some (.nx τ1):=fun a=>sk hi (j:=5) (by decide) h5 rfl
 by_cases hh:i=0
 ·subst hh
  obtain⟨w,v1,l1,e1,w0,w1⟩:=Kg v' 12 (by decide) (by decide)
  obtain⟨h,v2,l2,e2,h0,h1⟩:=Kg v1 12 (by decide) (by decide)
  refine⟨.plate w h p q,v2,LS,?_,rfl,w0,w1,h0,h1,op,oq⟩
  unfold B2
  refine Ag (τ:=st v2 (I w) (I h) N N) ((AR (G0 _)).trans ((AR (G1 _)).trans ((AR (G2 _)).trans ((AR (G3 _)).trans ((AR P).trans ((AR (G5 _)).trans (Kh ((tk (i:=0) (τ:=τ1) rfl).trans ?_)))))))) rfl rfl
  refine(AR (τ1:=st v1 (I w) N N N) (Bt (AX (τ1:=τ1) (rs:=[.d (.int v'),.d (.int 12)]) (ds:=[.int v',.int 12]) rfl rfl e1) rfl)).trans ?_
  exact(AR (τ1:=st v2 (I w) (I h) N N) (Bt (AX (τ1:=st v1 (I w) N N N) (rs:=[.d (.int v1),.d (.int 12)]) (ds:=[.int v1,.int 12]) rfl rfl e2) rfl)).trans rfl
 have G6:∀a:DB,BA (AQ (dOp fEq (AF 0) (dC (.str "plate")))) a BO τ1=some (.nx τ1):=fun a=>sk hi (j:=0) (by decide) hh rfl
 by_cases h1:i=1
 ·subst h1
  have d1:=Dt (i:=v') (j:=25) (by decide)
  have d2:=E3 (i:=v') (j:=25) (by decide) (by decide)
  have d3:=Dt (i:=v' / 25) (j:=25) (by decide)
  have d4:=E3 (i:=v') (j:=625) (by decide) (by decide)
  refine⟨.band (v' % 25-12) (v' / 25 % 25-12) p q,v' / 625,LS,?_,rfl,by omega,by omega,by omega,by omega,op,oq⟩
  unfold B2
  refine Ag (τ:=τ1) ((AR (G0 _)).trans ((AR (G1 _)).trans ((AR (G2 _)).trans ((AR (G3 _)).trans ((AR P).trans ((AR (G5 _)).trans ((AR (G6 _)).trans (Kh ((tk (i:=1) (τ:=τ1) rfl).trans (BB (τ1:=τ1) ?_)))))))))) rfl rfl
  simp only[τ1,st,K,I,N,A,B,d1,d2,d3,d4,eD,Bo,Aa,Ah,dN,An,BO,BA,Ea,AF,dC,dOp,fI,CG,EE,fLt,fLe,fGt,fGe,Am,AQ,AI,AA,Cy,Bn,A1,AU,Bl,Bw,C5,C6,C4,E4,CY,atI,ixN,sz',Option.bind_some,Option.map_some,List.map_cons,List.map_nil,List.cons_append,List.nil_append,List.length_cons,List.length_nil,List.getElem?_cons_zero,List.getElem?_cons_succ,List.set_cons_zero,List.set_cons_succ,List.replicate_succ,List.replicate_zero,if_true,if_false,reduceIte,Bool.false_eq_true,Nat.reduceAdd,Nat.reduceLT,Int.reduceAdd,Int.reduceLT,Int.reduceLE,Int.reduceToNat,Nat.reduceLeDiff,and_self,Int.toNat_zero,Int.le_refl,Int.natCast_add,Int.cast_ofNat_Int,Nat.zero_add]
 have G7:∀a:DB,BA (AQ (dOp fEq (AF 0) (dC (.str "band")))) a BO τ1=some (.nx τ1):=fun a=>sk hi (j:=1) (by decide) h1 rfl
 by_cases h2:i=2
 ·subst h2
  obtain⟨t,v1,l1,e1,t6,ta⟩:=W7 v'
  refine⟨.word t p q,v1,LS,?_,rfl,t6,ta,op,oq⟩
  unfold B2
  refine Ag (τ:=st v1 N N (some (.d (eT t))) N) ((AR (G0 _)).trans ((AR (G1 _)).trans ((AR (G2 _)).trans ((AR (G3 _)).trans ((AR P).trans ((AR (G5 _)).trans ((AR (G6 _)).trans ((AR (G7 _)).trans (Kh ((tk (i:=2) (τ:=τ1) rfl).trans ?_)))))))))) rfl rfl
  exact(AR (τ1:=st v1 N N (some (.d (eT t))) N) (Bt (AX (τ1:=τ1) (rs:=[.d (.int v')]) (ds:=[.int v']) rfl rfl e1) rfl)).trans rfl
 have G8:∀a:DB,BA (AQ (dOp fEq (AF 0) (dC (.str "word")))) a BO τ1=some (.nx τ1):=fun a=>sk hi (j:=2) (by decide) h2 rfl
 have h3:i=3:=by omega
 subst h3
 obtain⟨R,w,v1,l1,e1,r1,r2,w1,w2,hr⟩:=Rl v'
 refine⟨.stencil R p q,v1,LS,?_,rfl,r1,r2,⟨w,w1,w2,hr⟩,op,oq⟩
 unfold B2
 refine Ag (τ:=st v1 N N N (some (.d (.tuple (R.map eT))))) ((AR (G0 _)).trans ((AR (G1 _)).trans ((AR (G2 _)).trans ((AR (G3 _)).trans ((AR P).trans ((AR (G5 _)).trans ((AR (G6 _)).trans ((AR (G7 _)).trans ((AR (G8 _)).trans ?_))))))))) rfl rfl
 exact(AR (τ1:=st v1 N N N (some (.d (.tuple (R.map eT))))) (Bt (AX (τ1:=τ1) (rs:=[.d (.int v')]) (ds:=[.int v']) rfl rfl e1) rfl)).trans rfl
theorem lcg{α:Type}{enc:α->PyData}{rs:List α}{τ:DS}{fr:List Nat}{it:DI}{ex:DS}{c:DT}{e:DX}(p:α->Bool)(f:α->PyData)(h:it τ=some (rs.map enc,τ))(hz:rs.length<=1000)(hm:(fr.all fun j=>!isM τ j)=true)(hb:VN 1 fr τ=none::ex)
  (hc:∀r∈rs,c (some (.d (enc r))::ex)=some (p r,some (.d (enc r))::ex)) (he:∀r∈rs,p r=true->e (some (.d (enc r))::ex)=some (f r,some (.d (enc r))::ex)):dLC 1 fr it (dN 0) c e τ=some (.list ((rs.filter p).map f),τ):=by
 obtain ⟨τb, el⟩ := Uu (enc := enc) (g := dN 0) (c := c) (e := e) (fun τ => ∃ o1, nM o1 /\ τ = o1 :: ex) p f (xs := rs) (acc := []) (τ := none :: ex) ⟨none, Fb, rfl⟩ (by
  rintro x τ hx ⟨o1,n1,rfl⟩
  exact⟨some (.d (enc x))::ex,some (.d (enc x))::ex,Jc (o:=o1) rfl n1,hc x hx,fun _=>⟨_,K9,rfl⟩,fun hp=>⟨some (.d (enc x))::ex,he x hx hp,_,K9,rfl⟩⟩)
 rw[List.nil_append]at el
 exact gR (ds:=rs.map enc) (τ1:=τ) (τb:=τb) h (by rw[List.length_map];exact sz hz) hm (by rw[hb];exact el)
theorem Gq{α:Type}(l:List α):l.filter (fun _=>true)=l:=List.filter_eq_self.mpr fun _ _=>rfl
structure OkRow(r:Rz):Prop where
 n1:1<=r.n.1.length
 n8:r.n.1.length<=8
 na:I0 alN r.n.1
 x0:-60<=r.x
 x1:r.x<=60
 y0:-60<=r.y
 y1:r.y<=60
 d:X5 r.d
def OkR:List Rz->Prop
 |[]=>True
 |r::a=>OkR a/\OkRow r/\(∀q∈a,q.n≠r.n)/\(r.h=t0\/∃q∈a,q.n=r.h)
def hsR:List Rz->Tx->List Tx
 |[],_=>[]
 |r::a,n=>if r.n=n then n::hsR a r.h else hsR a n
def Xn(rs:List Rz)(t:Tx):Option Rz:=rs.find? fun r=>decide (r.n=t)
theorem OkRow.ne{r:Rz}(h:OkRow r):r.n≠t0:=fun z=>by
 have:=h.n1
 rw[z]at this
 exact absurd this ∅
theorem OkR.suf{p q:List Rz}(ok:OkR (p++q)):OkR q:=by
 induction p with
 |nil=>exact ok
 |cons x p ih=>exact ih ok.1
theorem OkR.inj{a:List Rz}(ok:OkR a):∀r∈a,∀q∈a,r.n=q.n->r=q:=by
 induction a with
 |nil=>intro r hr;cases hr
 |cons x a ih =>
  intro r hr q hq e
  rcases List.mem_cons.mp hr with h1|h1<;>rcases List.mem_cons.mp hq with h2|h2
  ·rw[h1,h2]
  ·rw[h1]at e;exact absurd e.symm (ok.2.2.1 q h2)
  ·rw[h2]at e;exact absurd e (ok.2.2.1 r h1)
  ·exact ih ok.1 r h1 q h2 e
theorem bK:∀{a:List Rz},OkR a->hsR a t0=[]
 |[],_=>rfl
 |r::a,⟨h,o,_⟩=>by
  unfold hsR
  rw[if_neg o.ne];exact bK h
abbrev OkZ(rs:List Rz):Prop:=OkR rs.reverse
theorem bR{rs:List Rz}(ok:OkZ rs){r:Rz}(hr:r∈rs):Xn rs r.n=some r:=by
 unfold Xn
 cases e:rs.find? fun q=>decide (q.n=r.n) with
 |none=>exact absurd (List.find?_eq_none.mp e r hr) (by simp)
 |some q =>
  have h1:=List.find?_some e
  have h2:=List.mem_of_find?_eq_some e
  rw[OkR.inj ok q (List.mem_reverse.mpr h2) r (List.mem_reverse.mpr hr) (of_decide_eq_true h1)]
theorem bS{rs:List Rz}{n:Tx}(h:∀q∈rs,q.n≠n):Xn rs n=none:=List.find?_eq_none.mpr fun q hq=>by simpa using h q hq
def kvZ(rs:List Rz):List (PyData×PyData):=rs.map fun r=>(eT r.n,eZ r)
theorem U1(t:Tx):∀rs:List Rz,KC (kvZ rs) t.1=(Xn rs t).map eZ
 |[]=>rfl
 |r::rs=>by
  show(if r.n.1=t.1 then some (eZ r) else KC (kvZ rs) t.1)=_
  unfold Xn
  rw[List.find?_cons]
  by_cases h:r.n=t
  ·rw[if_pos (by rw[h]),decide_eq_true h];rfl
  ·rw[if_neg (fun z=>h (Subtype.ext z)),decide_eq_false h];exact U1 t rs
theorem fW{rs:List Rz}{r:Rz}(h:∀q∈rs,q.n≠r.n):XH (kvZ rs) r.n.1 (eZ r)=kvZ (rs++[r]):=by
 unfold XH
 rw[U1,bS h]
 show(if (none:Option PyData).isSome=true then _ else _)=_
 rw[if_neg (by decide)]
 unfold kvZ
 rw[List.map_append];rfl
theorem aA{rs pre post:List Rz}{r:Rz}(ok:OkZ rs)(e:rs=pre++r::post):∀q∈pre,q.n≠r.n:=by
 have:OkR (post.reverse++(r::pre.reverse)):=by
  have:=ok
  unfold OkZ at this
  rw[e]at this
  simpa using this
 exact fun q hq=>this.suf.2.2.1 q (List.mem_reverse.mpr hq)
theorem i3(a b:Tx):fNe (eT a) (eT b)=some (.bool (!decide (a=b))):=encT.fNe a b
theorem i6(a b:Tx):fEq (eT a) (eT b)=some (.bool (decide (a=b))):=encT.fEq a b
theorem cH{i:Nat}{e k:DX}{τ τ1 τ2:DS}{d:PyData}{x:Str}{kv0 kvs:List (PyData×PyData)}(he:e τ=some (d,τ1))(h1:τ1[i]?=some (some (.g (.dict kv0))))(hk:k τ1=some (.str x,τ2))(h2:τ2[i]?=some (some (.g (.dict kvs))))(hf:EZ d=true)(hz:kvs.length<=1000) :
  TU i e k τ=some (.nx (τ2.set i (some (.g (.dict (XH kvs x d)))))):=by
 unfold TU
 rw[he]
 dsimp only[Option.bind]
 rw[h1]
 dsimp only
 rw[hk]
 dsimp only
 rw[h2]
 dsimp only
 rw[if_pos ⟨hf,Nat.lt_of_le_of_lt hz (by decide)⟩]
theorem gK{i:Nat}{f:DX}{τ τ1:DS}{x:Str}{kvs:List (PyData×PyData)}(hf:f τ=some (.str x,τ1))(h:τ1[i]?=some (some (.g (.dict kvs)))):ND false f i τ=some (.bool (KC kvs x).isSome,τ1):=by
 unfold ND
 rw[hf]
 dsimp only[Option.bind]
 rw[h]
 dsimp only
 rw[Bool.false_bne]
theorem gE{i:Nat}{f:DX}{τ τ1:DS}{x:Str}{kv0 kvs:List (PyData×PyData)}{d:PyData}(h0:τ[i]?=some (some (.g (.dict kv0))))(hf:f τ=some (.str x,τ1))(h:τ1[i]?=some (some (.g (.dict kvs))))(hd:KC kvs x=some d):RI i f τ=some (d,τ1):=by
 unfold RI
 rw[h0]
 dsimp only
 rw[hf]
 dsimp only[Option.bind]
 rw[h]
 dsimp only
 rw[hd];rfl
theorem hC{c:DT}{b:DB}{n:Nat}{τ:DS}{o:Option Out}(h:dWh c b n τ=o):O4 (fun _=>n) c b τ=o:=h
theorem dX{rs:List Rz}(ok:OkZ rs)(hl:rs.length<=30){a:Tx}(ha:a=t0\/∃q∈rs,q.n=a):∃ls,Jk [.d (.list (rs.map eZ)),.d (eT a)]=some (.list ((hsR rs.reverse a).map eT),ls):=by
 let R:Option L:=some (.d (.list (rs.map eZ)))
 let T:Tx->Option L:=fun a=>some (.d (eT a))
 let M:List Tx->Option L:=fun l=>some (.m (l.map eT))
 let G:List Rz->Option L:=fun l=>some (.g (.dict (kvZ l)))
 let st:List Rz->Option L->DS:=fun l o=>[R,T a,M [],G l,o]
 have lp:∃τ',Gs (dN 4) (TU 3 (AF 4) (dOp Am (AF 4) (dC (.int 0)))) (rs.map eZ) (st [] none)=some (.nx τ')/\∃o,nM o/\τ'=st rs o:=by
  refine J6 (fun pre τ=>∃o,nM o/\τ=st pre o) ⟨none,Fb,rfl⟩ ?_
  rintro pre r post τ e ⟨o,ho,rfl⟩
  have hz:=Jv e
  refine⟨st pre (some (.d (eZ r))),st (pre++[r]) (some (.d (eZ r))),Jc (o:=o) rfl ho,?_,_,K9,rfl⟩
  refine(cH (d:=eZ r) (x:=r.n.1) (kv0:=kvZ pre) (kvs:=kvZ pre) (τ1:=st pre (some (.d (eZ r)))) (τ2:=st pre (some (.d (eZ r)))) rfl rfl (op2 (x:=eZ r) (y:=.int 0) (τ1:=st pre (some (.d (eZ r)))) rfl rfl rfl) rfl (encZ.fix r) ?_).trans ?_
  ·rw[show(kvZ pre).length=pre.length from List.length_map ..];omega
  ·rw[fW (aA ok e)];rfl
 obtain⟨τ',e1,o,ho,rfl⟩:=lp
 let C:DT:=C7 (AQ (dOp fNe (AF 1) (dC (.str "")))) (AQ (ND false (AF 1) 3))
 let B:DB:=Aa (Eb (dMt 2 Cv (AA (AF 1) AI))) (Ah (dOp Am (RI 3 (AF 1)) (dC (.int 1))) (dN 1))
 let sw:Tx->List Tx->DS:=fun a l=>[R,T a,M l,G rs,o]
 have cT:∀b l,C (sw b l)=some (!decide (b=t0)&&(Xn rs b).isSome,sw b l):=fun b l=>by
  refine XB (tst (op2 (x:=eT b) (y:=eT t0) (τ1:=sw b l) rfl rfl (i3 b t0))) (tst ?_)
  rw[gK (x:=b.1) (kvs:=kvZ rs) (τ1:=sw b l) rfl rfl,U1,Option.isSome_map]
 have wl:∀(ah post:List Rz) (b:Tx) (l:List Tx) (n:Nat),rs.reverse=post++ah->(b=t0\/∃q∈ah,q.n=b)->ah.length<n->l.length+ah.length<=60->∃b',dWh C B n (sw b l)=some (.nx (sw b' (l++hsR ah b))):=by
  have stop:∀(ah:List Rz) (l:List Tx) (n:Nat),OkR ah->0<n->∃b',dWh C B n (sw t0 l)=some (.nx (sw b' (l++hsR ah t0))):=fun ah l n oa hn=>by
   obtain⟨n,rfl⟩:∃m,n=m+1:=⟨n-1,by omega⟩
   refine⟨t0,?_⟩
   rw[bK oa,List.append_nil]
   refine jO (τ1:=sw t0 l) ?_
   rw[cT,decide_eq_true rfl];rfl
  intro ah
  induction ah with
  |nil =>
   intro post b l n e hb hn _
   rcases hb with rfl|⟨q,hq,_⟩
   ·exact stop [] l n trivial (by omega)
   ·cases hq
  |cons r ah ih =>
   intro post b l n e hb hn hz
   have okr:OkR (r::ah):=(show OkR (post++r::ah) from e▸ok).suf
   rcases hb with rfl|⟨q,hq,hqb⟩
   ·exact stop (r::ah) l n okr (by omega)
   simp only[List.length_cons]at hn hz
   by_cases h:r.n=b
   ·obtain⟨n,rfl⟩:∃m,n=m+1:=⟨n-1,by omega⟩
    have hr:r∈rs:=List.mem_reverse.mp (e▸List.mem_append_right _ List.mem_cons_self)
    have hf:Xn rs b=some r:=h▸bR ok hr
    obtain⟨b',e2⟩:=ih (post++[r]) r.h (l++[b]) n (by rw[e];simp) okr.2.2.2 (by omega) (by rw[List.length_append];simp only[List.length_cons,List.length_nil];omega)
    refine⟨b',(jN (τ1:=sw b l) (τ2:=sw r.h (l++[b])) ?_ ?_).trans (e2.trans ?_)⟩
    ·rw[cT,hf,decide_eq_false (h▸okr.2.1.ne)];rfl
    ·have s1:Eb (dMt 2 Cv (AA (AF 1) AI)) (sw b l)=some (.nx (sw b (l++[b]))):=by
      refine(gm (i:=2) (d:=eT b) (xs:=l.map eT) (τ1:=sw b l) rfl rfl (by rw[List.length_map];omega)).trans ?_
      show some (Out.nx [R,T b,some (.m (l.map eT++[eT b])),G rs,o])=_
      rw[show l.map eT++[eT b]=(l++[b]).map eT by rw[List.map_append];rfl]
     refine(AR s1).trans (Bt (d:=eT r.h) (τ1:=sw b (l++[b])) (op2 (x:=eZ r) (y:=.int 1) (τ1:=sw b (l++[b])) (gE (x:=b.1) (kv0:=kvZ rs) (kvs:=kvZ rs) (τ1:=sw b (l++[b])) rfl rfl rfl (by rw[U1,hf];rfl)) rfl rfl) rfl)
    ·rw[show hsR (r::ah) b=b::hsR ah r.h from by rw[hsR,if_pos h],List.append_assoc]
     rfl
   ·have:∃q∈ah,q.n=b:=by
     rcases List.mem_cons.mp hq with rfl|hq
     ·exact absurd hqb h
     ·exact⟨q,hq,hqb⟩
    obtain⟨b',e2⟩:=ih (post++[r]) b l n (by rw[e];simp) (.inr this) (by omega) (by omega)
    refine⟨b',e2.trans ?_⟩
    rw[show hsR (r::ah) b=hsR ah b from by rw[hsR,if_neg h]]
 obtain⟨b',e2⟩:=wl rs.reverse [] a [] 100 rfl (ha.imp id fun⟨q,hq,e⟩=>⟨q,List.mem_reverse.mpr hq,e⟩) (by rw[List.length_reverse];omega) (by rw[List.length_reverse,List.length_nil];omega)
 rw[List.nil_append]at e2
 refine⟨[.d (.list (rs.map eZ)),.d (eT a)],?_⟩
 unfold Jk
 refine Ag (τ:=sw b' (hsR rs.reverse a)) ?_ rfl rfl
 exact(AR (τ1:=[R,T a,M [],none,none]) rfl).trans ((AR (τ1:=st [] none) rfl).trans ((AR ((Lm (ds:=rs.map eZ) (τ1:=st [] none) rfl).trans e1)).trans ((AR (τ1:=sw b' (hsR rs.reverse a)) (hC e2)).trans rfl)))
theorem HL{α:Type}{enc:α->PyData}{xs:List α}{k:Int}(h0:0<=k)(h1:k<(xs.length:Int)):∃a,atI (xs.map enc) k=some (enc a)/\xs[k.toNat]?=some a:=by
 have hk:k.toNat<xs.length:=by omega
 refine⟨xs[k.toNat],?_,List.getElem?_eq_getElem hk⟩
 unfold atI ixN
 rw[List.length_map,if_pos h0,if_pos h1]
 simp[hk]
theorem dJ{α:Type}{enc:α->PyData}{xs:List α}(h:0<xs.length):∃a∈xs,atI (xs.map enc) (-1)=some (enc a):=by
 have hk:xs.length-1<xs.length:=by omega
 refine⟨xs[xs.length-1],List.getElem_mem hk,?_⟩
 unfold atI ixN
 rw[List.length_map,if_neg (by decide),if_pos (by omega)]
 show(xs.map enc)[((-1:Int)+(xs.length:Int)).toNat]?=_
 rw[show((-1:Int)+(xs.length:Int)).toNat=xs.length-1 by omega]
 simp[hk]
def KH:List Tx:=[kS 4,kS 5,kS 6,kS 7,kS 8,kS 9]
def KA:List Nat:=[0,1,2,3,0,3,4,5,6,7,8,9]
theorem ck{τ:DS}:VH (AU Fw AI) (dPt (dC (.int 6))) Xv τ=some (.tuple (KH.map eT),τ):=rfl
theorem fw{i:Nat}(hi:i<10):kS i∈KH↔4<=i:=by
 have:∀i:Fin 10,decide (kS i∈KH)=decide (4<=i.1):=∅
 have:=this ⟨i,hi⟩
 rwa [decide_eq_decide]at this
theorem inL(t:Tx)(ts:List Tx):fIn false (eT t) (.list (ts.map eT))=some (.bool (decide (t∈ts))) :=
 (encT.fIn t ts).trans (congrArg (fun b=>some (PyData.bool b)) (decide_eq_decide.mpr Iff.rfl))
theorem W4{rs:List Rz}(ok:OkZ rs)(hl:rs.length<=30)(v:Int):∃(r:Rz) (w:Int) (ls:List L),FF [.d (.list (rs.map eZ)),.d (.int v)]=some (.tuple [eZ r,.int w],ls)/\OkRow r /\
  (r.h=t0\/∃q∈rs,q.n=r.h/\4<=kz q.d/\(hsR rs.reverse q.n).length<7)/\(kz r.d=8->∀q∈rs,q.n∈hsR rs.reverse r.h->kz q.d≠8):=by
 let D:PyData:=.list (rs.map eZ)
 let R:Option L:=some (.d D)
 let I:Int->Option L:=fun i=>some (.d (.int i))
 let T:Tx->Option L:=fun a=>some (.d (eT a))
 let M:List Tx->Option L:=fun l=>some (.m (l.map eT))
 obtain⟨nm,u,l1,e1,n1,n8,na⟩:=Xa v
 let p:Rz->Bool:=fun r=>decide (kS (kz r.d)∈KH)&&decide (((hsR rs.reverse r.n).length:Int)<7)
 let hsO:List Rz->List Tx:=fun l=>t0::(l.filter p).map (·.n)
 let ex:DS:=[none,none,none,none,none,none]
 let s3:List Tx->Option L->DS:=fun hs o4=>R::I u::T nm::M hs::o4::none::ex
 have lp:∃τ',Gs (dN 4) (BA (C7 (AQ (dOp (fIn false) (dOp Am (AF 4) (dC (.int 5))) (VH (AU Fw AI) (dPt (dC (.int 6))) Xv))) (AQ (dOp fLt (A1 Bz (AA (AU Jk (AA (AF 0) (AA (dOp Am (AF 4) (dC (.int 0))) AI))) AI)) (dC (.int 7))))) (Eb (dMt 3 Cv (AA (dOp Am (AF 4) (dC (.int 0))) AI))) BO) (rs.map eZ) (s3 (hsO []) none)=some (.nx τ')/\∃o,nM o/\τ'=s3 (hsO rs) o:=by
  refine J6 (fun pre τ=>∃o,nM o/\τ=s3 (hsO pre) o) ⟨none,Fb,rfl⟩ ?_
  rintro pre r post τ e ⟨o,ho,rfl⟩
  have hz:=Jv e
  have hr:r∈rs:=Y6 e
  let τ1:=s3 (hsO pre) (some (.d (eZ r)))
  obtain⟨lu,eu⟩:=dX ok hl (a:=r.n) (.inr ⟨r,hr,rfl⟩)
  have c1:AQ (dOp (fIn false) (dOp Am (AF 4) (dC (.int 5))) (VH (AU Fw AI) (dPt (dC (.int 6))) Xv)) τ1=some (decide (kS (kz r.d)∈KH),τ1) :=
   tst (op2 (x:=eT (kS (kz r.d))) (y:=.tuple (KH.map eT)) (τ1:=τ1) (op2 (x:=eZ r) (y:=.int 5) (τ1:=τ1) rfl rfl rfl) ck (inT _ _))
  have c2:AQ (dOp fLt (A1 Bz (AA (AU Jk (AA (AF 0) (AA (dOp Am (AF 4) (dC (.int 0))) AI))) AI)) (dC (.int 7))) τ1=some (decide (((hsR rs.reverse r.n).length:Int)<7),τ1):=by
   refine tst (op2 (x:=.int ((hsR rs.reverse r.n).length:Int)) (y:=.int 7) (τ1:=τ1) (GN (d:=.list ((hsR rs.reverse r.n).map eT)) (AX (τ1:=τ1) (rs:=[.d D,.d (eT r.n)]) (ds:=[D,eT r.n]) (acc (τ1:=τ1) rfl (acc (τ1:=τ1) (op2 (x:=eZ r) (y:=.int 0) (τ1:=τ1) rfl rfl rfl) rfl)) rfl eu) ?_) rfl rfl)
   show some (PyData.int (((hsR rs.reverse r.n).map eT).length:Int))=_
   rw[List.length_map]
  have c:=XB c1 c2
  refine⟨τ1,s3 (hsO (pre++[r])) (some (.d (eZ r))),Jc (o:=o) rfl ho,?_,_,K9,rfl⟩
  cases hp:p r with
  |true =>
   refine(JA (τ1:=τ1) (c.trans (by rw[show(_&&_)=true from hp]))).trans ?_
   have hpl:(pre.filter p).length<=pre.length:=List.length_filter_le ..
   refine(gm (i:=3) (d:=eT r.n) (xs:=(hsO pre).map eT) (τ1:=τ1) (acc (τ1:=τ1) (op2 (x:=eZ r) (y:=.int 0) (τ1:=τ1) rfl rfl rfl) rfl) rfl ?_).trans ?_
   ·rw[List.length_map]
    show((pre.filter p).map (·.n)).length+1<900
    rw[List.length_map];omega
   ·have:(hsO pre).map eT++[eT r.n]=(hsO (pre++[r])).map eT:=by
     show eT t0::((pre.filter p).map (·.n)).map eT++[eT r.n]=eT t0::(((pre++[r]).filter p).map (·.n)).map eT
     rw[List.filter_append,List.filter_cons,hp]
     simp
    show some (Out.nx (R::I u::T nm::some (.m ((hsO pre).map eT++[eT r.n]))::some (.d (eZ r))::none::ex))=_
    rw[this]
  |false =>
   refine(Dl (τ1:=τ1) (c.trans (by rw[show(_&&_)=false from hp]))).trans ?_
   have:hsO (pre++[r])=hsO pre:=by
    show t0::((pre++[r]).filter p).map (·.n)=t0::(pre.filter p).map (·.n)
    rw[List.filter_append,List.filter_cons,hp]
    simp
   rw[this];rfl
 obtain⟨τ',e3,o4,ho4,rfl⟩:=lp
 generalize hhs:hsO rs=hs at e3
 have hs0:0<hs.length:=by rw[<- hhs];exact Nat.succ_pos _
 have hs1:hs.length<=31:=by
  rw[<- hhs]
  show((rs.filter p).map (·.n)).length+1<=31
  have hpl:(rs.filter p).length<=rs.length:=List.length_filter_le ..
  rw[List.length_map];omega
 have hsm:∀h∈hs,h=t0\/∃q∈rs,q.n=h/\4<=kz q.d/\(hsR rs.reverse q.n).length<7:=fun h hh=>by
  rw[<- hhs]at hh
  rcases List.mem_cons.mp hh with rfl|hh
  ·exact .inl rfl
  ·obtain⟨q,hq,rfl⟩:=List.mem_map.mp hh
   obtain⟨hq1,hq2⟩:=List.mem_filter.mp hq
   have hq2:(decide (kS (kz q.d)∈KH)&&decide (((hsR rs.reverse q.n).length:Int)<7))=true:=hq2
   rw[Bool.and_eq_true,decide_eq_true_eq,decide_eq_true_eq,fw (WR _)]at hq2
   exact .inr ⟨q,hq1,rfl,hq2.1,by omega⟩
 have okm4:okM o4=true:=YO ho4
 let s5:Int->Option L->DS:=fun u o5=>R::I u::T nm::M hs::o4::o5::ex
 let b5:Int->Option L->DS:=fun u o5=>R::I u::T nm::some (.d (.list (hs.map eT)))::o4::o5::ex
 have hok:∀u o5,okM o5=true->(b5 u o5).all okM=true:=fun u o5 h=>by
  show(true&&(true&&(true&&(true&&(okM o4&&(okM o5&&true))))))=true
  rw[okm4,h];rfl
 have ln:∀u o5,A1 Bz (AA (AF 3) AI) (b5 u o5)=some (.int (hs.length:Int),b5 u o5):=fun u o5=>by
  refine GN (d:=.list (hs.map eT)) (τ1:=b5 u o5) rfl ?_
  show some (PyData.int ((hs.map eT).length:Int))=_
  rw[List.length_map]
 have n0:(0:Int)<(hs.length:Int):=by omega
 have k0:=Int.emod_nonneg u (show(hs.length:Int)≠0 by omega)
 have k1:=Int.emod_lt_of_pos u n0
 obtain⟨ha,ea,ha2⟩:=HL (enc:=eT) (xs:=hs) k0 k1
 have ha3:ha∈hs:=List.mem_of_getElem? ha2
 have z4:Ah (Fs 3 (dOp LI (AF 3) (dOp Bm (AF 1) (A1 Bz (AA (AF 3) AI))))) (dN 5) (s5 u none)=some (.nx (s5 u (T ha))):=by
  refine Bt (d:=eT ha) (τ1:=s5 u none) (X0 (i:=3) (xs:=hs.map eT) rfl ?_ rfl (hok u none rfl)) rfl
  exact op2 (x:=.list (hs.map eT)) (y:=.int (u % (hs.length:Int))) (τ1:=b5 u none) rfl (op2 (x:=.int u) (y:=.int (hs.length:Int)) (τ1:=b5 u none) rfl (ln u none) (Dt n0)) ea
 have z5:∃h∈hs,BA (FL 3 (AQ (dOp fEq (dOp Bm (dOp B7 (AF 1) (A1 Bz (AA (AF 3) AI))) (dC (.int 2))) (dC (.int 0))))) (Ah (Fs 3 (dOp LI (AF 3) (dUn E2 (dC (.int 1))))) (dN 5)) BO (s5 u (T ha))=some (.nx (s5 u (T h))):=by
  have c:FL 3 (AQ (dOp fEq (dOp Bm (dOp B7 (AF 1) (A1 Bz (AA (AF 3) AI))) (dC (.int 2))) (dC (.int 0)))) (s5 u (T ha))=some (decide (u / (hs.length:Int) % 2=0),s5 u (T ha)):=by
   refine Tw (i:=3) (xs:=hs.map eT) (τ1:=b5 u (T ha)) rfl (tst (op2 (x:=.int (u / (hs.length:Int) % 2)) (y:=.int 0) (τ1:=b5 u (T ha)) (op2 (x:=.int (u / (hs.length:Int))) (y:=.int 2) (τ1:=b5 u (T ha)) (op2 (x:=.int u) (y:=.int (hs.length:Int)) (τ1:=b5 u (T ha)) rfl (ln u _) (E3 n0 (by omega))) rfl (Dt (by decide))) rfl (encI.fEq _ _))) (hok u _ rfl)
  by_cases h:u / (hs.length:Int) % 2=0
  ·obtain⟨hb,hb1,eb⟩:=dJ (enc:=eT) hs0
   refine⟨hb,hb1,(JA (τ1:=s5 u (T ha)) (by rw[c,decide_eq_true h])).trans ?_⟩
   refine Bt (d:=eT hb) (τ1:=s5 u (T ha)) (X0 (i:=3) (xs:=hs.map eT) rfl ?_ rfl (hok u _ rfl)) rfl
   exact op2 (x:=.list (hs.map eT)) (y:=.int (-1)) (τ1:=b5 u (T ha)) rfl rfl eb
  ·exact⟨ha,ha3,(Dl (τ1:=s5 u (T ha)) (by rw[c,decide_eq_false h])).trans rfl⟩
 obtain⟨h,hh,z5⟩:=z5
 generalize hu2:u / (hs.length:Int) / 2=u2
 have z6:Ah (Fs 3 (dOp B7 (dOp B7 (AF 1) (A1 Bz (AA (AF 3) AI))) (dC (.int 2)))) (dN 1) (s5 u (T h))=some (.nx (s5 u2 (T h))):=by
  refine Bt (d:=.int u2) (τ1:=s5 u (T h)) (X0 (i:=3) (xs:=hs.map eT) rfl ?_ rfl (hok u _ rfl)) rfl
  rw[<- hu2]
  exact op2 (x:=.int (u / (hs.length:Int))) (y:=.int 2) (τ1:=b5 u (T h)) (op2 (x:=.int u) (y:=.int (hs.length:Int)) (τ1:=b5 u (T h)) rfl (ln u _) (E3 n0 (by omega))) rfl (E3 (by decide) (by decide))
 obtain⟨x,u3,l3,ex3,x0,x1⟩:=Ke u2
 obtain⟨y,u4,l4,ey4,y0,y1⟩:=Ke u3
 let s9:Int->Option L->Option L->Option L->Option L->Option L->Option L->DS:=fun u o6 o7 o8 o9 o10 o11=>[R,I u,T nm,M hs,o4,T h,o6,o7,o8,o9,o10,o11]
 have z7:Ah (AU Cj (AA (AF 1) AI)) (dGT (BH (dN 6) (BH (dN 1) Cu))) (s9 u2 none none none none none none)=some (.nx (s9 u3 (I x) none none none none none)) :=
  Bt (AX (τ1:=s9 u2 none none none none none none) (rs:=[.d (.int u2)]) (ds:=[.int u2]) rfl rfl ex3) rfl
 have z8:Ah (AU Cj (AA (AF 1) AI)) (dGT (BH (dN 7) (BH (dN 1) Cu))) (s9 u3 (I x) none none none none none)=some (.nx (s9 u4 (I x) (I y) none none none none)) :=
  Bt (AX (τ1:=s9 u3 (I x) none none none none none) (rs:=[.d (.int u3)]) (ds:=[.int u3]) rfl rfl ey4) rfl
 have m12:Bm (.int u4) (.int 12)=some (.int (u4 % 12)):=Dt (by decide)
 obtain⟨j,ej,ej2⟩:=HL (enc:=fun i=>eT (kS i)) (xs:=KA) (k:=u4 % 12) (by omega) (by show u4 % 12<12;omega)
 have hj:j<10:=by
  have:=List.mem_of_getElem? ej2
  have q:∀i∈KA,i<10:=by decide
  exact q j this
 let t8:Nat->DS:=fun j=>s9 u4 (I x) (I y) (T (kS j)) none none none
 have z9:Ah (dOp Am (AU Fw AI) (dOp Bm (AF 1) (dC (.int 12)))) (dN 8) (s9 u4 (I x) (I y) none none none none)=some (.nx (t8 j)) :=
  Bt (d:=eT (kS j)) (τ1:=s9 u4 (I x) (I y) none none none none) (op2 (x:=.tuple (KA.map fun i=>eT (kS i))) (y:=.int (u4 % 12)) (τ1:=s9 u4 (I x) (I y) none none none none) rfl (op2 (x:=.int u4) (y:=.int 12) (τ1:=s9 u4 (I x) (I y) none none none none) rfl rfl m12) ej) rfl
 have hup:h=t0\/∃q∈rs,q.n=h:=(hsm h hh).imp id fun⟨q,a,b,_⟩=>⟨q,a,b⟩
 obtain⟨lu,eu⟩:=dX ok hl hup
 let up:=hsR rs.reverse h
 let U:Option L:=some (.d (.list (up.map eT)))
 let ta:Nat->DS:=fun j=>s9 u4 (I x) (I y) (T (kS j)) U none none
 have za:Ah (AU Jk (AA (AF 0) (AA (AF 5) AI))) (dN 9) (t8 j)=some (.nx (ta j)) :=
  Bt (AX (τ1:=t8 j) (rs:=[.d D,.d (eT h)]) (ds:=[D,eT h]) rfl rfl eu) rfl
 let pt:Rz->Bool:=fun r=>decide (r.n∈up)&&decide (kS (kz r.d)=kS 8)
 have zb:∃j',j'<10/\(j'=8->rs.filter pt=[])/\BA (C7 (AQ (dOp fEq (AF 8) (dC (.str "tiles")))) (AQ (dOp fNe (dLC 1 [9] (dIL (AF 0)) (dN 0) (C7 (AQ (dOp (fIn false) (dOp Am (AF 0) (dC (.int 0))) (AF 1))) (AQ (dOp fEq (dOp Am (AF 0) (dC (.int 5))) (dC (.str "tiles"))))) (AF 0)) (Gi AI)))) (Ah (dC (.str "group")) (dN 8)) BO (ta j)=some (.nx (ta j')):=by
  have c1:AQ (dOp fEq (AF 8) (dC (.str "tiles"))) (ta j)=some (decide (kS j=kS 8),ta j):=tst (op2 (x:=eT (kS j)) (y:=eT (kS 8)) (τ1:=ta j) rfl rfl (i6 _ _))
  have lc:dLC 1 [9] (dIL (AF 0)) (dN 0) (C7 (AQ (dOp (fIn false) (dOp Am (AF 0) (dC (.int 0))) (AF 1))) (AQ (dOp fEq (dOp Am (AF 0) (dC (.int 5))) (dC (.str "tiles"))))) (AF 0) (ta j)=some (.list ((rs.filter pt).map eZ),ta j):=by
   refine lcg (enc:=eZ) (rs:=rs) (ex:=[U]) pt eZ rfl (by omega) rfl rfl (fun r hr=>?_) (fun r hr _=>rfl)
   let τ:DS:=[some (.d (eZ r)),U]
   exact XB (τ:=τ) (tst (op2 (x:=eT r.n) (y:=.list (up.map eT)) (τ1:=τ) (op2 (x:=eZ r) (y:=.int 0) (τ1:=τ) rfl rfl rfl) rfl (inL _ _))) (tst (op2 (x:=eT (kS (kz r.d))) (y:=eT (kS 8)) (τ1:=τ) (op2 (x:=eZ r) (y:=.int 5) (τ1:=τ) rfl rfl rfl) rfl (i6 _ _)))
  have c2:AQ (dOp fNe (dLC 1 [9] (dIL (AF 0)) (dN 0) (C7 (AQ (dOp (fIn false) (dOp Am (AF 0) (dC (.int 0))) (AF 1))) (AQ (dOp fEq (dOp Am (AF 0) (dC (.int 5))) (dC (.str "tiles"))))) (AF 0)) (Gi AI)) (ta j)=some (!decide (rs.filter pt=[]),ta j) :=
   tst (op2 (x:=.list ((rs.filter pt).map eZ)) (y:=.list (([]:List Rz).map eZ)) (τ1:=ta j) lc rfl (encZ.fNeL _ _))
  have c:=XB c1 c2
  by_cases hc:(decide (kS j=kS 8)&&!decide (rs.filter pt=[]))=true
  ·exact⟨4,by decide,fun z=>absurd z (by decide),(JA (τ1:=ta j) (by rw[c,hc])).trans rfl⟩
  ·have hc:=Bool.eq_false_iff.mpr hc
   refine⟨j,hj,fun z=>?_,(Dl (τ1:=ta j) (by rw[c,hc])).trans rfl⟩
   rw[z,decide_eq_true rfl,Bool.true_and,Bool.not_eq_false',decide_eq_true_eq]at hc
   exact hc
 obtain⟨k,hk,hk8,zb⟩:=zb
 generalize hsh:decide (u4 / 12 % 8>0)=sh
 let S:Option L:=some (.d (.bool sh))
 have zc:Ah (dOp fGt (dOp Bm (dOp B7 (AF 1) (dC (.int 12))) (dC (.int 8))) (dC (.int 0))) (dN 10) (ta k)=some (.nx (s9 u4 (I x) (I y) (T (kS k)) U S none)):=by
  refine Bt (d:=.bool sh) (τ1:=ta k) (op2 (x:=.int (u4 / 12 % 8)) (y:=.int 0) (τ1:=ta k) (op2 (x:=.int (u4 / 12)) (y:=.int 8) (τ1:=ta k) (op2 (x:=.int u4) (y:=.int 12) (τ1:=ta k) rfl rfl (E3 (by decide) (by decide))) rfl (Dt (by decide))) rfl ?_) rfl
  rw[<- hsh];rfl
 obtain⟨d,w,ld,ed,kd,okd⟩:=Xt hk (u4 / 96)
 let tz:DS:=s9 w (I x) (I y) (T (kS k)) U S (some (.d (eD d)))
 have zd:Ah (AU B2 (AA (AF 8) (AA (dOp B7 (AF 1) (dC (.int 96))) AI))) (dGT (BH (dN 11) (BH (dN 1) Cu))) (s9 u4 (I x) (I y) (T (kS k)) U S none)=some (.nx tz) :=
  Bt (AX (τ1:=s9 u4 (I x) (I y) (T (kS k)) U S none) (rs:=[.d (eT (kS k)),.d (.int (u4 / 96))]) (ds:=[eT (kS k),.int (u4 / 96)]) (acc (τ1:=s9 u4 (I x) (I y) (T (kS k)) U S none) rfl (acc (op2 (x:=.int u4) (y:=.int 96) (τ1:=s9 u4 (I x) (I y) (T (kS k)) U S none) rfl rfl (E3 (by decide) (by decide))) rfl)) rfl ed) rfl
 refine⟨⟨nm,h,x,y,sh,d⟩,w,[.d D,.d (.int v)],?_,⟨n1,n8,na,x0,x1,y0,y1,okd⟩,hsm h hh,fun hd8 q hq hqu z=>?_⟩
 ·unfold FF
  refine Ag (τ:=tz) ?_ rfl rfl
  refine(AR (τ1:=R::I u::T nm::none::none::none::ex) (Bt (AX (τ1:=R::I v::none::none::none::none::ex) (rs:=[.d (.int v)]) (ds:=[.int v]) rfl rfl e1) rfl)).trans ?_
  refine(AR (τ1:=s3 (hsO []) none) rfl).trans ((AR ((Lm (ds:=rs.map eZ) (τ1:=s3 (hsO []) none) rfl).trans e3)).trans ?_)
  refine(AR z4).trans ((AR z5).trans ((AR z6).trans ((AR z7).trans ((AR z8).trans ((AR z9).trans ((AR za).trans ((AR zb).trans ((AR zc).trans ((AR zd).trans (BB ?_))))))))))
  have ez:eZ ⟨nm,h,x,y,sh,d⟩ = .tuple [eT nm,eT h,.int x,.int y,.bool sh,eT (kS k),eD d]:=by rw[<- kd];rfl
  rw[ez];rfl
 ·have f:=hk8 (kd▸hd8)
  have : q ∈ rs.filter pt := List.mem_filter.mpr ⟨hq, by
   show(decide (q.n∈up)&&decide (kS (kz q.d)=kS 8))=true
   rw[decide_eq_true hqu,z,decide_eq_true rfl];rfl⟩
  rw[f]at this;cases this
theorem WX{d1 d2:PyData}:∀(n:Nat) (a b:Int) (o:Option L),nM o->0<=a->0<=b->b.toNat<n->∃o',nM o' /\
  dWh (AQ (dOp fNe (AF 3) (dC (.int 0)))) (Aa (Ah (dOp Bm (AF 2) (AF 3)) (dN 4)) (Aa (Ah (AF 3) (dN 2)) (Ah (AF 4) (dN 3)))) n [some (.d d1),some (.d d2),some (.d (.int a)),some (.d (.int b)),o]=some (.nx [some (.d d1),some (.d d2),some (.d (.int (gI a b))),some (.d (.int 0)),o'])
 |0,a,b,o,_,_,_,h=>absurd h (Nat.not_lt_zero _)
 |n+1,a,b,o,ho,ha,hb,h=>by
  let st:Int->Int->Option L->DS:=fun x y z=>[some (.d d1),some (.d d2),some (.d (.int x)),some (.d (.int y)),z]
  have t:AQ (dOp fNe (AF 3) (dC (.int 0))) (st a b o)=some (!decide (b=0),st a b o):=by
   show(((fNe (.int b) (.int 0)).map fun d=>(d,st a b o)).bind _)=_
   rw[encI.fNe];rfl
  unfold dWh
  rw[show AQ (dOp fNe (AF 3) (dC (.int 0))) [some (.d d1),some (.d d2),some (.d (.int a)),some (.d (.int b)),o]=some (!decide (b=0),st a b o) from t]
  by_cases hz:b=0
  ·subst hz
   exact⟨o,ho,by rw[Yh ha];rfl⟩
  ·have hp:0<b:=by omega
   have md:=Int.emod_lt_of_pos a hp
   have mn:=Int.emod_nonneg a (show b≠0 by omega)
   obtain⟨o',ho',e⟩:=WX (d1:=d1) (d2:=d2) n b (a % b) (some (.d (.int (a % b)))) K9 hb mn (by omega)
   refine⟨o',ho',?_⟩
   rw[decide_eq_false hz]
   have bd:Aa (Ah (dOp Bm (AF 2) (AF 3)) (dN 4)) (Aa (Ah (AF 3) (dN 2)) (Ah (AF 4) (dN 3))) (st a b o)=some (.nx (st b (a % b) (some (.d (.int (a % b)))))):=by
    refine(AR (τ1:=st a b (some (.d (.int (a % b))))) (Bt (d:=.int (a % b)) (τ1:=st a b o) ?_ (Jc rfl ho))).trans rfl
    show((Bm (.int a) (.int b)).map fun d=>(d,st a b o))=_
    rw[Dt hp];rfl
   show((Aa _ _ (st a b o)).bind _)=_
   rw[bd]
   show dWh _ _ n (st b (a % b) _)=_
   rw[<- bO ha hp]
   exact e
theorem Q7{t b:Int}(hb:0<b):C1 [.d (.int t),.d (.int b)]=some (.int (gI t b),[.d (.int t),.d (.int b)]):=by
 obtain⟨o,ho,e⟩:=WX (d1:=.int t) (d2:=.int b) (b.toNat+1) (O8 t) b none Fb (Yv t) (by omega) (Nat.lt_succ_self _)
 rw[bP]at e
 unfold C1
 refine Ag (τ:=[some (.d (.int t)),some (.d (.int b)),some (.d (.int (gI t b))),some (.d (.int 0)),o]) ?_ rfl rfl
 refine(AR (τ1:=[some (.d (.int t)),some (.d (.int b)),some (.d (.int (O8 t))),none,none]) rfl).trans ?_
 refine(AR (τ1:=[some (.d (.int t)),some (.d (.int b)),some (.d (.int (O8 t))),some (.d (.int b)),none]) ?_).trans ?_
 ·have:O8 b=b:=br (by omega)
  show some (Out.nx [_,_,_,some (.d (.int (O8 b))),_])=_
  rw[this]
 ·exact(AR e).trans rfl
theorem gO{s:Cl}(h:OkF s):gI s.1 s.2=1:=by
 obtain⟨t,b,hb,rfl⟩:=h.red
 have hg:0<Int.gcd t b:=Int.gcd_pos_of_ne_zero_right _ (by omega)
 show((Int.gcd (t / (Int.gcd t b:Nat)) (b / (Int.gcd t b:Nat)):Nat):Int)=1
 rw[Int.gcd_ediv_gcd_ediv_gcd hg];rfl
theorem VT(x:Int):Fm [.d (.int x)]=some (.bool true,[.d (.int x)]):=rfl
theorem EF{x a b:Int}(h1:a<=x)(h2:x<=b):BV [.d (.int x),.d (.int a),.d (.int b)]=some (.bool true,[.d (.int x),.d (.int a),.d (.int b)]):=by
 simp only[BV,VT,h1,h2,decide_true,Bo,Aa,Ah,dN,ME,Ge,An,JL,Lv,Eb,dMt,Cv,HG,JE,GH,BO,BA,RK,RJ,JM,II,Ea,AF,dC,dOp,dUn,fI,CG,EE,fLt,fLe,fGt,fGe,E2,Od,Q6,Ln,LI,Am,AQ,C7,CH,BP,dIf,Co,dOr,MD,Cf,AI,AA,Cy,Bn,Gi,A1,AU,JO,Bl,JN,dAS,mkL,nMb,isM,isC,Fs,Lw,FL,GL,dIL,dIT,dR1,dR2,Cu,BH,dGT,Bw,C5,C6,C4,Bz,f1,f2,NB,JG,JF,Lo,EA,RH,FN,E4,CY,atI,ixN,Fl,LQ,LR,LP,EZ,fixDs,sz',Option.bind_some,Option.bind_none,Option.map_some,Option.map_none,List.map_cons,List.map_nil,List.cons_append,List.nil_append,List.length_cons,List.length_nil,List.getElem?_cons_zero,List.getElem?_cons_succ,List.set_cons_zero,List.set_cons_succ,List.replicate_succ,List.replicate_zero,List.all_cons,List.all_nil,Bool.and_self,Bool.and_true,Bool.true_and,Bool.false_and,Bool.and_false,Bool.or_true,Bool.true_or,Bool.false_or,Bool.or_false,Bool.not_true,Bool.not_false,if_true,if_false,reduceIte,Bool.false_eq_true,Nat.reduceAdd,Nat.reduceLT,Nat.reduceSub,Nat.reduceMul,Int.reduceEq,Int.reduceSub,Int.reduceMul,Int.reducePow,Int.reduceDiv,Int.reduceMod,Nat.reduceLeDiff,Nat.reduceEqDiff,and_self,and_true,true_and,Int.natCast_add,Int.reduceAdd,Int.reduceLT,Int.reduceLE,Int.reduceToNat,Int.reduceNeg,Int.toNat_zero,Int.toNat_one,Int.zero_lt_one,Int.le_refl,Int.reduceNegSucc,Int.cast_ofNat_Int,Nat.zero_add,Nat.add_zero]
theorem NU{x:Int}(h1:-60<=x)(h2:x<=60):CT [.d (.int x)]=some (.bool true,[.d (.int x)]):=by
 have w:=EF h1 h2
 simp only[CT,w,Bo,Aa,Ah,dN,ME,Ge,An,JL,Lv,Eb,dMt,Cv,HG,JE,GH,BO,BA,RK,RJ,JM,II,Ea,AF,dC,dOp,dUn,fI,CG,EE,fLt,fLe,fGt,fGe,E2,Od,Q6,Ln,LI,Am,AQ,C7,CH,BP,dIf,Co,dOr,MD,Cf,AI,AA,Cy,Bn,Gi,A1,AU,JO,Bl,JN,dAS,mkL,nMb,isM,isC,Fs,Lw,FL,GL,dIL,dIT,dR1,dR2,Cu,BH,dGT,Bw,C5,C6,C4,Bz,f1,f2,NB,JG,JF,Lo,EA,RH,FN,E4,CY,atI,ixN,Fl,LQ,LR,LP,EZ,fixDs,sz',Option.bind_some,Option.bind_none,Option.map_some,Option.map_none,List.map_cons,List.map_nil,List.cons_append,List.nil_append,List.length_cons,List.length_nil,List.getElem?_cons_zero,List.getElem?_cons_succ,List.set_cons_zero,List.set_cons_succ,List.replicate_succ,List.replicate_zero,List.all_cons,List.all_nil,Bool.and_self,Bool.and_true,Bool.true_and,Bool.false_and,Bool.and_false,Bool.or_true,Bool.true_or,Bool.false_or,Bool.or_false,Bool.not_true,Bool.not_false,if_true,if_false,reduceIte,Bool.false_eq_true,Nat.reduceAdd,Nat.reduceLT,Nat.reduceSub,Nat.reduceMul,Int.reduceEq,Int.reduceSub,Int.reduceMul,Int.reducePow,Int.reduceDiv,Int.reduceMod,Nat.reduceLeDiff,Nat.reduceEqDiff,and_self,and_true,true_and,Int.natCast_add,Int.reduceAdd,Int.reduceLT,Int.reduceLE,Int.reduceToNat,Int.reduceNeg,Int.toNat_zero,Int.toNat_one,Int.zero_lt_one,Int.le_refl,Int.reduceNegSucc,Int.cast_ofNat_Int,Nat.zero_add,Nat.add_zero]
theorem aC{s:Cl}(h:OkF s):∃ls,FD [.d (ec s)]=some (.bool true,ls):=by
 have b1:=h.b1
 have lo:=h.lo
 have hi:=h.hi
 have dv:=Q7 (t:=s.1) (b:=s.2) (by omega)
 rw[gO h]at dv
 let I:Int->Option L:=fun i=>some (.d (.int i))
 let τ:DS:=[some (.d (ec s)),I s.1,I s.2]
 refine⟨[.d (ec s)],?_⟩
 unfold FD
 refine Ag (τ:=τ) ?_ rfl rfl
 refine(AR (τ1:=[some (.d (ec s)),none,none]) rfl).trans ((AR (τ1:=[some (.d (ec s)),I s.1,none]) rfl).trans ((AR (τ1:=τ) rfl).trans ((AR (τ1:=τ) rfl).trans (BB ?_))))
 have c1:dOp fGe (AF 2) (dC (.int 1)) τ=some (.bool true,τ):=op2 (x:=.int s.2) (y:=.int 1) (τ1:=τ) rfl rfl (by show some (PyData.bool (decide (s.2≥1)))=_;rw[decide_eq_true (by omega)])
 have c2:Cf fLe fLe (dC (.int 0)) (AF 1) (AF 2) τ=some (.bool true,τ):=by
  simp only[τ,I,lo,hi,decide_true,Bo,Aa,Ah,dN,ME,Ge,An,JL,Lv,Eb,dMt,Cv,HG,JE,GH,BO,BA,RK,RJ,JM,II,Ea,AF,dC,dOp,dUn,fI,CG,EE,fLt,fLe,fGt,fGe,E2,Od,Q6,Ln,LI,Am,AQ,C7,CH,BP,dIf,Co,dOr,MD,Cf,AI,AA,Cy,Bn,Gi,A1,AU,JO,Bl,JN,dAS,mkL,nMb,isM,isC,Fs,Lw,FL,GL,dIL,dIT,dR1,dR2,Cu,BH,dGT,Bw,C5,C6,C4,Bz,f1,f2,NB,JG,JF,Lo,EA,RH,FN,E4,CY,atI,ixN,Fl,LQ,LR,LP,EZ,fixDs,sz',Option.bind_some,Option.bind_none,Option.map_some,Option.map_none,List.map_cons,List.map_nil,List.cons_append,List.nil_append,List.length_cons,List.length_nil,List.getElem?_cons_zero,List.getElem?_cons_succ,List.set_cons_zero,List.set_cons_succ,List.replicate_succ,List.replicate_zero,List.all_cons,List.all_nil,Bool.and_self,Bool.and_true,Bool.true_and,Bool.false_and,Bool.and_false,Bool.or_true,Bool.true_or,Bool.false_or,Bool.or_false,Bool.not_true,Bool.not_false,if_true,if_false,reduceIte,Bool.false_eq_true,Nat.reduceAdd,Nat.reduceLT,Nat.reduceSub,Nat.reduceMul,Int.reduceEq,Int.reduceSub,Int.reduceMul,Int.reducePow,Int.reduceDiv,Int.reduceMod,Nat.reduceLeDiff,Nat.reduceEqDiff,and_self,and_true,true_and,Int.natCast_add,Int.reduceAdd,Int.reduceLT,Int.reduceLE,Int.reduceToNat,Int.reduceNeg,Int.toNat_zero,Int.toNat_one,Int.zero_lt_one,Int.le_refl,Int.reduceNegSucc,Int.cast_ofNat_Int,Nat.zero_add,Nat.add_zero]
 have c3:dOp fEq (AU C1 (AA (AF 1) (AA (AF 2) AI))) (dC (.int 1)) τ=some (.bool true,τ):=op2 (x:=.int 1) (y:=.int 1) (τ1:=τ) (AX (τ1:=τ) (rs:=[.d (.int s.1),.d (.int s.2)]) (ds:=[.int s.1,.int s.2]) rfl rfl dv) rfl (by rw[encI.fEq,decide_eq_true rfl])
 exact(Fd c1).trans ((Fd c2).trans c3)
theorem NF{s:Cl}(h:OkF s):∃ls,Br [.d (ec s)]=some (.bool true,ls):=by
 obtain⟨l1,e1⟩:=aC h
 have b2:=h.b2
 let τ:DS:=[some (.d (ec s))]
 refine⟨[.d (ec s)],?_⟩
 unfold Br
 refine Ag (τ:=τ) (BB ((Fd (AX (τ1:=τ) (ds:=[ec s]) rfl rfl e1)).trans (op2 (x:=.int s.2) (y:=.int 1000) (τ1:=τ) rfl rfl ?_))) rfl rfl
 show some (PyData.bool (decide (s.2<=1000)))=_
 rw[decide_eq_true b2]
theorem NV{a b:Cl}(ha:OkF a)(hb:OkF b):∃ls,CU [.d (ec a),.d (ec b)]=some (.bool true,ls):=by
 obtain⟨l1,e1⟩:=NF ha
 obtain⟨l2,e2⟩:=NF hb
 let τ:DS:=[some (.d (ec a)),some (.d (ec b))]
 refine⟨[.d (ec a),.d (ec b)],?_⟩
 unfold CU
 exact Ag (τ:=τ) (BB ((Fd (AX (τ1:=τ) (ds:=[ec a]) rfl rfl e1)).trans (AX (τ1:=τ) (ds:=[ec b]) rfl rfl e2))) rfl rfl
def inB(al:Str)(c:Nat):Bool:=match U8 (.str ⟨#[c]⟩) (.str al) with
 |some (.bool b)=>b
 |_=>false
theorem gL{al:Str}{c:Nat}(h:inB al c=true):U8 (.str ⟨#[c]⟩) (.str al)=some (.bool true):=by
 unfold inB at h
 split at h
 ·rename_i b e;rw[e,h]
 ·cases h
theorem ij:∀c∈alN.cps.toList,inB alN c=true:=∅
theorem ig:∀c∈alS.cps.toList,inB alS c=true:=∅
theorem iD:∀c∈alW.cps.toList,(MQ Hs ⟨#[c]⟩).isSome=true:=∅
theorem Yt{α:Type}:∀l:List α,Kz (l.map fun _=>PyData.bool true)=some (l.map fun _=>true)
 |[]=>rfl
 |a::l=>by
  rw[List.map_cons,Kz,Yt l];rfl
theorem Yu{α:Type}(l:List α):N7 [.list (l.map fun _=>PyData.bool true)]=some (.bool true):=by
 show(Kz (l.map fun _=>PyData.bool true)).map _=_
 rw[Yt]
 show some (PyData.bool ((l.map fun _=>true).all id))=_
 rw[show((l.map fun _=>true).all id)=true by simp]
def eC(c:Nat):PyData:=.str ⟨#[c]⟩
theorem Us{t:Tx}(h:t.1.length<=100):Bz [eT t]=some (.int (t.1.length:Nat)):=by
 show(if t.1.length<=sizeLine then _ else _)=_
 rw[if_pos (sz (by omega))]
theorem QL{al:Str}{t:Tx}{lo hi:Int}(ha:I0 al t.1)(hal:∀c∈al.cps.toList,inB al c=true)(h1:lo<=(t.1.length:Nat))(h2:((t.1.length:Nat):Int)<=hi)(hz:t.1.length<=100) :
  ∃ls,CA [.d (eT t),.d (.str al),.d (.int lo),.d (.int hi)]=some (.bool true,ls):=by
 let A:Option L:=some (.d (.str al))
 let τ:DS:=[some (.d (eT t)),A,some (.d (.int lo)),some (.d (.int hi))]
 refine⟨[.d (eT t),.d (.str al),.d (.int lo),.d (.int hi)],?_⟩
 unfold CA
 refine Ag (τ:=τ) ?_ rfl rfl
 have ln:A1 Bz (AA (AF 0) AI) τ=some (.int (t.1.length:Nat),τ):=GN (d:=eT t) (τ1:=τ) rfl (Us hz)
 have c1:BP (AQ (Cf fLe fLe (AF 2) (A1 Bz (AA (AF 0) AI)) (AF 3))) τ=some (false,τ):=by
  refine E9 (b:=true) (tst ?_)
  unfold Cf
  show((A1 Bz (AA (AF 0) AI) τ).bind _)=_
  rw[ln]
  simp only[τ,A,h1,h2,decide_true,Bo,Aa,Ah,dN,ME,Ge,An,JL,Lv,Eb,dMt,Cv,HG,JE,GH,BO,BA,RK,RJ,JM,II,Ea,AF,dC,dOp,dUn,fI,CG,EE,fLt,fLe,fGt,fGe,E2,Od,Q6,Ln,LI,Am,AQ,C7,CH,BP,dIf,Co,dOr,MD,Cf,AI,AA,Cy,Bn,Gi,A1,AU,JO,Bl,JN,dAS,mkL,nMb,isM,isC,Fs,Lw,FL,GL,dIL,dIT,dR1,dR2,Cu,BH,dGT,Bw,C5,C6,C4,Bz,f1,f2,NB,JG,JF,Lo,EA,RH,FN,E4,CY,atI,ixN,Fl,LQ,LR,LP,EZ,fixDs,sz',Option.bind_some,Option.bind_none,Option.map_some,Option.map_none,List.map_cons,List.map_nil,List.cons_append,List.nil_append,List.length_cons,List.length_nil,List.getElem?_cons_zero,List.getElem?_cons_succ,List.set_cons_zero,List.set_cons_succ,List.replicate_succ,List.replicate_zero,List.all_cons,List.all_nil,Bool.and_self,Bool.and_true,Bool.true_and,Bool.false_and,Bool.and_false,Bool.or_true,Bool.true_or,Bool.false_or,Bool.or_false,Bool.not_true,Bool.not_false,if_true,if_false,reduceIte,Bool.false_eq_true,Nat.reduceAdd,Nat.reduceLT,Nat.reduceSub,Nat.reduceMul,Int.reduceEq,Int.reduceSub,Int.reduceMul,Int.reducePow,Int.reduceDiv,Int.reduceMod,Nat.reduceLeDiff,Nat.reduceEqDiff,and_self,and_true,true_and,Int.natCast_add,Int.reduceAdd,Int.reduceLT,Int.reduceLE,Int.reduceToNat,Int.reduceNeg,Int.toNat_zero,Int.toNat_one,Int.zero_lt_one,Int.le_refl,Int.reduceNegSucc,Int.cast_ofNat_Int,Nat.zero_add,Nat.add_zero]
 refine(AR (τ1:=τ) ((Dl (τ1:=τ) (Mv (τ1:=τ) rfl c1)).trans rfl)).trans (BB ?_)
 have lc:dLC 1 [1] (dIS (AF 0)) (dN 0) GL (dOp U8 (AF 0) (AF 1)) τ=some (.list (t.1.cps.toList.map fun _=>PyData.bool true),τ):=by
  have := lcg (enc := eC) (rs := t.1.cps.toList) (τ := τ) (fr := [1]) (it := dIS (AF 0)) (ex := [A]) (c := GL) (e := dOp U8 (AF 0) (AF 1)) (fun _ => true) (fun _ => .bool true) rfl (by show t.1.length <= 1000; omega) rfl rfl (fun r _ => rfl) (fun c hc _ =>
   op2 (x:=eC c) (y:=.str al) (τ1:=[some (.d (eC c)),A]) rfl rfl (gL (hal c (ha c hc))))
  rw[this,Gq]
 exact GN lc (Yu _)
theorem Qs{t:Tx}(ha:I0 alN t.1)(h1:1<=t.1.length)(h2:t.1.length<=8):∃ls,EJ [.d (eT t)]=some (.bool true,ls):=by
 obtain⟨l1,e1⟩:=QL (lo:=1) (hi:=8) ha ij (by omega) (by omega) (by omega)
 refine⟨[.d (eT t)],?_⟩
 unfold EJ
 exact Ag (τ:=[some (.d (eT t))]) (BB (AX (τ1:=[some (.d (eT t))]) (rs:=[.d (eT t),.d (.str alN),.d (.int 1),.d (.int 8)]) (ds:=[eT t,.str alN,.int 1,.int 8]) rfl rfl e1)) rfl rfl
theorem Tc{t:Tx}(ha:I0 alW t.1)(h2:t.1.length<=6):∃ls,DK [.d (eT t)]=some (.bool true,ls):=by
 let τ:DS:=[some (.d (eT t))]
 refine⟨[.d (eT t)],?_⟩
 unfold DK
 refine Ag (τ:=τ) ?_ rfl rfl
 have c1:AQ (dOp fGt (A1 Bz (AA (AF 0) AI)) (dC (.int 6))) τ=some (false,τ):=by
  refine tst (op2 (x:=.int (t.1.length:Nat)) (y:=.int 6) (τ1:=τ) (GN (d:=eT t) (τ1:=τ) rfl (Us (by omega))) rfl ?_)
  show some (PyData.bool (decide (((t.1.length:Nat):Int)>6)))=_
  rw[decide_eq_false (by omega)]
 refine(AR (τ1:=τ) ((Dl (τ1:=τ) (Mv (τ1:=τ) rfl c1)).trans rfl)).trans (BB ?_)
 have sg:∀c∈t.1.cps.toList,EI [.d (eC c)]=some (.bool true,[.d (eC c)]):=fun c hc=>by
  unfold EI
  refine Ag (τ:=[some (.d (eC c))]) (BB ?_) rfl rfl
  show some (PyData.bool (MQ Hs ⟨#[c]⟩).isSome,_)=_
  rw[iD c (ha c hc)];rfl
 have lc:dLC 1 [] (dIS (AF 0)) (dN 0) GL (AU EI (AA (AF 0) AI)) τ=some (.list (t.1.cps.toList.map fun _=>PyData.bool true),τ):=by
  have := lcg (enc := eC) (rs := t.1.cps.toList) (τ := τ) (fr := []) (it := dIS (AF 0)) (ex := []) (c := GL) (e := AU EI (AA (AF 0) AI)) (fun _ => true) (fun _ => .bool true) rfl (by show t.1.length <= 1000; omega) rfl rfl (fun r _ => rfl) (fun c hc _ =>
   AX (τ1:=[some (.d (eC c))]) (ds:=[eC c]) rfl rfl (sg c hc))
  rw[this,Gq]
 exact GN lc (Yu _)
theorem Pc{R:List Tx}{w:Nat}(r1:1<=R.length)(r8:R.length<=8)(w1:1<=w)(w8:w<=8)(h:∀r∈R,r.1.length=w/\I0 alS r.1):∃ls,CL [.d (.tuple (R.map eT))]=some (.bool true,ls):=by
 let D:Option L:=some (.d (.tuple (R.map eT)))
 let τ:DS:=[D]
 refine⟨[.d (.tuple (R.map eT))],?_⟩
 unfold CL
 refine Ag (τ:=τ) ?_ rfl rfl
 have hn:(1:Int)<=(R.length:Nat):=by omega
 have hn8:((R.length:Nat):Int)<=8:=by omega
 have ln:A1 Bz (AA (AF 0) AI) τ=some (.int (R.length:Nat),τ):=GN (d:=.tuple (R.map eT)) (τ1:=τ) rfl (by show some (PyData.int ((R.map eT).length:Nat))=_;rw[List.length_map])
 have c1:BP (AQ (Cf fLe fLe (dC (.int 1)) (A1 Bz (AA (AF 0) AI)) (dC (.int 8)))) τ=some (false,τ):=by
  refine E9 (b:=true) (tst ?_)
  unfold Cf
  rw[show dC (.int 1) τ=some (.int 1,τ) from rfl]
  dsimp only[Option.bind]
  rw[ln]
  simp only[hn,hn8,decide_true,Bo,Aa,Ah,dN,ME,Ge,An,JL,Lv,Eb,dMt,Cv,HG,JE,GH,BO,BA,RK,RJ,JM,II,Ea,AF,dC,dOp,dUn,fI,CG,EE,fLt,fLe,fGt,fGe,E2,Od,Q6,Ln,LI,Am,AQ,C7,CH,BP,dIf,Co,dOr,MD,Cf,AI,AA,Cy,Bn,Gi,A1,AU,JO,Bl,JN,dAS,mkL,nMb,isM,isC,Fs,Lw,FL,GL,dIL,dIT,dR1,dR2,Cu,BH,dGT,Bw,C5,C6,C4,Bz,f1,f2,NB,JG,JF,Lo,EA,RH,FN,E4,CY,atI,ixN,Fl,LQ,LR,LP,EZ,fixDs,sz',Option.bind_some,Option.bind_none,Option.map_some,Option.map_none,List.map_cons,List.map_nil,List.cons_append,List.nil_append,List.length_cons,List.length_nil,List.getElem?_cons_zero,List.getElem?_cons_succ,List.set_cons_zero,List.set_cons_succ,List.replicate_succ,List.replicate_zero,List.all_cons,List.all_nil,Bool.and_self,Bool.and_true,Bool.true_and,Bool.false_and,Bool.and_false,Bool.or_true,Bool.true_or,Bool.false_or,Bool.or_false,Bool.not_true,Bool.not_false,if_true,if_false,reduceIte,Bool.false_eq_true,Nat.reduceAdd,Nat.reduceLT,Nat.reduceSub,Nat.reduceMul,Int.reduceEq,Int.reduceSub,Int.reduceMul,Int.reducePow,Int.reduceDiv,Int.reduceMod,Nat.reduceLeDiff,Nat.reduceEqDiff,and_self,and_true,true_and,Int.natCast_add,Int.reduceAdd,Int.reduceLT,Int.reduceLE,Int.reduceToNat,Int.reduceNeg,Int.toNat_zero,Int.toNat_one,Int.zero_lt_one,Int.le_refl,Int.reduceNegSucc,Int.cast_ofNat_Int,Nat.zero_add,Nat.add_zero]
 have lc:dLC 1 [] (dIT (AF 0)) (dN 0) GL (AU CA (AA (AF 0) (AA (dC (.str "#.")) (AA (dC (.int 1)) (AA (dC (.int 8)) AI))))) τ=some (.list (R.map fun _=>PyData.bool true),τ):=by
  have := lcg (enc := eT) (rs := R) (τ := τ) (fr := []) (it := dIT (AF 0)) (ex := []) (c := GL) (e := AU CA (AA (AF 0) (AA (dC (.str "#.")) (AA (dC (.int 1)) (AA (dC (.int 8)) AI))))) (fun _ => true) (fun _ => .bool true) rfl (by omega) rfl rfl (fun r _ => rfl) (fun r hr _ => by
   obtain⟨h1,h2⟩:=h r hr
   obtain⟨l1,e1⟩:=QL (lo:=1) (hi:=8) h2 ig (by omega) (by omega) (by omega)
   exact AX (τ1:=[some (.d (eT r))]) (rs:=[.d (eT r),.d (.str alS),.d (.int 1),.d (.int 8)]) (ds:=[eT r,.str alS,.int 1,.int 8]) rfl rfl e1)
  rw[this,Gq]
 have lc2:dLC 1 [0] (dIT (AF 0)) (dN 0) GL (dOp fEq (A1 Bz (AA (AF 0) AI)) (A1 Bz (AA (dOp Am (AF 1) (dC (.int 0))) AI))) τ=some (.list (R.map fun _=>PyData.bool true),τ):=by
  obtain⟨z,zs,rfl⟩:∃z zs,R=z::zs:=by
   cases R with
   |nil=>simp at r1
   |cons z zs=>exact⟨z,zs,rfl⟩
  have := lcg (enc := eT) (rs := z :: zs) (τ := τ) (fr := [0]) (it := dIT (AF 0)) (ex := [D]) (c := GL) (e := dOp fEq (A1 Bz (AA (AF 0) AI)) (A1 Bz (AA (dOp Am (AF 1) (dC (.int 0))) AI))) (fun _ => true) (fun _ => .bool true) rfl (by omega) rfl rfl (fun r _ => rfl) (fun r hr _ => by
   have h1:=(h r hr).1
   have h2:=(h z List.mem_cons_self).1
   let t:DS:=[some (.d (eT r)),D]
   obtain⟨a,ea,ha2⟩:=HL (enc:=eT) (xs:=z::zs) (k:=0) (by decide) (by simp only[List.length_cons];omega)
   cases (Option.some.inj ha2)
   refine op2 (x:=.int (r.1.length:Nat)) (y:=.int (z.1.length:Nat)) (τ1:=t) (GN (d:=eT r) (τ1:=t) rfl (Us (by omega))) (GN (d:=eT z) (τ1:=t) (op2 (x:=.tuple ((z::zs).map eT)) (y:=.int 0) (τ1:=t) rfl rfl ea) (Us (by omega))) ?_
   rw[encI.fEq,h1,h2,decide_eq_true rfl])
  rw[this,Gq]
 have c2:BP (AQ (A1 N7 (AA (dLC 1 [] (dIT (AF 0)) (dN 0) GL (AU CA (AA (AF 0) (AA (dC (.str "#.")) (AA (dC (.int 1)) (AA (dC (.int 8)) AI)))))) AI))) τ=some (false,τ):=E9 (b:=true) (tst (GN lc (Yu _)))
 exact(AR (τ1:=τ) ((Dl (τ1:=τ) (Mv (τ1:=τ) rfl c1)).trans rfl)).trans ((AR (τ1:=τ) ((Dl (τ1:=τ) c2).trans rfl)).trans (BB (GN lc2 (Yu _))))
def GF:Nat->Mir
 |0=>Eh
 |1=>FU
 |2=>FR
 |3=>DC
 |4=>D0
 |5=>Ei
 |6=>Dh
 |7=>FT
 |8=>Di
 |_=>D0
theorem Z5{i:Nat}(hi:i<10):∀{l:List Nat},i∈l->(∀j∈l,j<10)->FJ (l.map fun j=>((kS j).1,GF j)) (kS i).1=some (GF i)
 |[],h,_=>by cases h
 |j::l,h,hl=>by
  rw[List.map_cons,FJ]
  by_cases e:j=i
  ·subst e;rw[if_pos rfl]
  ·rw[if_neg fun z=>e (Oc (hl j List.mem_cons_self) hi (Subtype.ext z))]
   rcases List.mem_cons.mp h with z|z
   ·exact absurd z.symm e
   ·exact Z5 hi z fun k hk=>hl k (List.mem_cons_of_mem _ hk)
theorem ten{i:Nat}(hi:i<10):i∈[0,1,2,3,4,5,6,7,8,9]:=by
 have:∀i:Fin 10,i.1∈[0,1,2,3,4,5,6,7,8,9]:=by decide
 exact this ⟨i,hi⟩
theorem NO{i:Nat}(hi:i<10):FJ C0 (kS i).1=some (GF i):=Z5 (l:=[0,1,2,3,4,5,6,7,8,9]) hi (ten hi) (by decide)
theorem cz(d:Dz)(ok:X5 d):∃ls,GF (kz d) [.d (eD d)]=some (.bool true,ls):=by
 cases d with
 |plate w h a b =>
  obtain⟨w0,w1,h0,h1,oa,ob⟩:=ok
  obtain⟨lp,ep⟩:=NV oa ob
  have e1:=EF w0 w1
  have e2:=EF h0 h1
  let τ:DS:=[some (.d (eD (.plate w h a b)))]
  refine⟨[.d (eD (.plate w h a b))],?_⟩
  show Eh _=_
  unfold Eh
  refine Ag (τ:=τ) ?_ rfl rfl
  have c:=E9 (tst (AX (G:=CU) (a:=AA (dOp Am (AF 0) (dC (.int 2))) (AA (dOp Am (AF 0) (dC (.int 3))) AI)) (τ:=τ) (τ1:=τ) (rs:=[.d (ec a),.d (ec b)]) (ds:=[ec a,ec b]) rfl rfl ep))
  refine(AR (τ1:=τ) ((Dl (τ1:=τ) (Mv (τ1:=τ) rfl c)).trans rfl)).trans (BB ?_)
  exact(Fd (AX (τ1:=τ) (rs:=[.d (.int w),.d (.int 1),.d (.int 12)]) (ds:=[.int w,.int 1,.int 12]) rfl rfl e1)).trans (AX (τ1:=τ) (rs:=[.d (.int h),.d (.int 1),.d (.int 12)]) (ds:=[.int h,.int 1,.int 12]) rfl rfl e2)
 |band w h a b =>
  obtain⟨w0,w1,h0,h1,oa,ob⟩:=ok
  obtain⟨lp,ep⟩:=NV oa ob
  have e1:=EF w0 w1
  have e2:=EF h0 h1
  let τ:DS:=[some (.d (eD (.band w h a b)))]
  refine⟨[.d (eD (.band w h a b))],?_⟩
  show FU _=_
  unfold FU
  refine Ag (τ:=τ) ?_ rfl rfl
  have c:=E9 (tst (AX (G:=CU) (a:=AA (dOp Am (AF 0) (dC (.int 2))) (AA (dOp Am (AF 0) (dC (.int 3))) AI)) (τ:=τ) (τ1:=τ) (rs:=[.d (ec a),.d (ec b)]) (ds:=[ec a,ec b]) rfl rfl ep))
  refine(AR (τ1:=τ) ((Dl (τ1:=τ) (Mv (τ1:=τ) rfl c)).trans rfl)).trans (BB ?_)
  exact(Fd (AX (τ1:=τ) (rs:=[.d (.int w),.d (.int (-12)),.d (.int 12)]) (ds:=[.int w,.int (-12),.int 12]) rfl rfl e1)).trans (AX (τ1:=τ) (rs:=[.d (.int h),.d (.int (-12)),.d (.int 12)]) (ds:=[.int h,.int (-12),.int 12]) rfl rfl e2)
 |word t a b =>
  obtain⟨h6,ha,oa,ob⟩:=ok
  obtain⟨lp,ep⟩:=NV oa ob
  obtain⟨lt,et⟩:=Tc ha h6
  let τ:DS:=[some (.d (eD (.word t a b)))]
  refine⟨[.d (eD (.word t a b))],?_⟩
  show FR _=_
  unfold FR
  refine Ag (τ:=τ) (BB ?_) rfl rfl
  exact(Fd (τ1:=τ) rfl).trans ((Fd (AX (τ1:=τ) (rs:=[.d (eT t)]) (ds:=[eT t]) rfl rfl et)).trans (AX (τ1:=τ) (rs:=[.d (ec a),.d (ec b)]) (ds:=[ec a,ec b]) rfl rfl ep))
 |stencil R a b =>
  obtain⟨r1,r8,⟨w,w1,w8,hr⟩,oa,ob⟩:=ok
  obtain⟨lp,ep⟩:=NV oa ob
  obtain⟨lt,et⟩:=Pc r1 r8 w1 w8 hr
  let τ:DS:=[some (.d (eD (.stencil R a b)))]
  refine⟨[.d (eD (.stencil R a b))],?_⟩
  show DC _=_
  unfold DC
  refine Ag (τ:=τ) (BB ?_) rfl rfl
  exact(Fd (τ1:=τ) rfl).trans ((Fd (AX (τ1:=τ) (rs:=[.d (.tuple (R.map eT))]) (ds:=[.tuple (R.map eT)]) rfl rfl et)).trans (AX (τ1:=τ) (rs:=[.d (ec a),.d (ec b)]) (ds:=[ec a,ec b]) rfl rfl ep))
 |group=>exact⟨_,rfl⟩
 |mask=>exact⟨_,rfl⟩
 |glass a =>
  obtain⟨lb,eb⟩:=NF (show OkF a from ok)
  let τ:DS:=[some (.d (eD (.glass a)))]
  refine⟨[.d (eD (.glass a))],?_⟩
  show Ei _=_
  unfold Ei
  exact Ag (τ:=τ) (BB ((Fd (τ1:=τ) rfl).trans (AX (τ1:=τ) (rs:=[.d (ec a)]) (ds:=[ec a]) rfl rfl eb))) rfl rfl
 |window w h x y =>
  obtain⟨w0,w1,h0,h1,x0,x1,y0,y1⟩:=ok
  have e1:=EF w0 w1
  have e2:=EF h0 h1
  have e3:=NU x0 x1
  have e4:=NU y0 y1
  let τ:DS:=[some (.d (eD (.window w h x y)))]
  refine⟨[.d (eD (.window w h x y))],?_⟩
  show Dh _=_
  unfold Dh
  refine Ag (τ:=τ) ?_ rfl rfl
  have c1:=E9 (tst (AX (G:=CT) (a:=AA (dOp Am (AF 0) (dC (.int 2))) AI) (τ:=τ) (τ1:=τ) (rs:=[.d (.int x)]) (ds:=[.int x]) rfl rfl e3))
  have c2:=E9 (tst (AX (G:=CT) (a:=AA (dOp Am (AF 0) (dC (.int 3))) AI) (τ:=τ) (τ1:=τ) (rs:=[.d (.int y)]) (ds:=[.int y]) rfl rfl e4))
  refine(AR (τ1:=τ) ((Dl (τ1:=τ) (Mv (τ1:=τ) rfl (Mv c1 c2))).trans rfl)).trans (BB ?_)
  exact(Fd (AX (τ1:=τ) (rs:=[.d (.int w),.d (.int 1),.d (.int 16)]) (ds:=[.int w,.int 1,.int 16]) rfl rfl e1)).trans (AX (τ1:=τ) (rs:=[.d (.int h),.d (.int 1),.d (.int 16)]) (ds:=[.int h,.int 1,.int 16]) rfl rfl e2)
 |turn q f =>
  obtain⟨q0,q1⟩:=ok
  have e1:=EF q0 q1
  let τ:DS:=[some (.d (eD (.turn q f)))]
  refine⟨[.d (eD (.turn q f))],?_⟩
  show FT _=_
  unfold FT
  exact Ag (τ:=τ) (BB ((Fd (τ1:=τ) rfl).trans ((Fd (AX (τ1:=τ) (rs:=[.d (.int q),.d (.int 0),.d (.int 3)]) (ds:=[.int q,.int 0,.int 3]) rfl rfl e1)).trans rfl))) rfl rfl
 |tiles a b x y =>
  obtain⟨a0,a1,b0,b1,x0,x1,y0,y1⟩:=ok
  have e1:=EF a0 a1
  have e2:=EF b0 b1
  have e3:=EF x0 x1
  have e4:=EF y0 y1
  let τ:DS:=[some (.d (eD (.tiles a b x y)))]
  refine⟨[.d (eD (.tiles a b x y))],?_⟩
  show Di _=_
  unfold Di
  refine Ag (τ:=τ) ?_ rfl rfl
  have c1:=E9 (tst (AX (G:=BV) (a:=AA (dOp Am (AF 0) (dC (.int 0))) (AA (dC (.int 1)) (AA (dC (.int 3)) AI))) (τ:=τ) (τ1:=τ) (rs:=[.d (.int a),.d (.int 1),.d (.int 3)]) (ds:=[.int a,.int 1,.int 3]) rfl rfl e1))
  have c2:=E9 (tst (AX (G:=BV) (a:=AA (dOp Am (AF 0) (dC (.int 1))) (AA (dC (.int 1)) (AA (dC (.int 3)) AI))) (τ:=τ) (τ1:=τ) (rs:=[.d (.int b),.d (.int 1),.d (.int 3)]) (ds:=[.int b,.int 1,.int 3]) rfl rfl e2))
  refine(AR (τ1:=τ) ((Dl (τ1:=τ) (Mv (τ1:=τ) rfl (Mv c1 c2))).trans rfl)).trans (BB ?_)
  exact(Fd (AX (τ1:=τ) (rs:=[.d (.int x),.d (.int (-20)),.d (.int 20)]) (ds:=[.int x,.int (-20),.int 20]) rfl rfl e3)).trans (AX (τ1:=τ) (rs:=[.d (.int y),.d (.int (-20)),.d (.int 20)]) (ds:=[.int y,.int (-20),.int 20]) rfl rfl e4)
theorem Xl(d:Dz)(ok:X5 d):∃ls,Es [.d (eT (kS (kz d))),.d (eD d)]=some (.bool true,ls):=by
 obtain⟨lf,ef⟩:=cz d ok
 let τ:DS:=[some (.d (eT (kS (kz d)))),some (.d (eD d))]
 refine⟨[.d (eT (kS (kz d))),.d (eD d)],?_⟩
 unfold Es
 refine Ag (τ:=τ) (BB ?_) rfl rfl
 have c2:Xw C0 (AF 0) τ=some (.bool true,τ):=by
  show some (PyData.bool (FJ C0 (kS (kz d)).1).isSome,τ)=_
  rw[NO (WR d)];rfl
 have c3:FN "tuple" (AF 1) τ=some (.bool true,τ):=by cases d<;>rfl
 have c4:O5 C0 (AF 0) (AA (AF 1) AI) τ=some (.bool true,τ):=by
  show((FJ C0 (kS (kz d)).1).bind fun G=>AU G (AA (AF 1) AI) τ)=_
  rw[NO (WR d)]
  exact AX (G:=GF (kz d)) (a:=AA (AF 1) AI) (τ:=τ) (τ1:=τ) (rs:=[.d (eD d)]) (ds:=[eD d]) rfl rfl ef
 exact(Fd (τ1:=τ) rfl).trans ((Fd c2).trans ((Fd c3).trans c4))
structure OkN(t:Tx):Prop where
 n1:1<=t.1.length
 n8:t.1.length<=8
 na:I0 alN t.1
theorem ZY{r:Rz}(ok:OkRow r)(hh:r.h=t0\/OkN r.h):∃ls,Hv [.d (eZ r)]=some (.bool true,ls):=by
 obtain⟨l1,e1⟩:=Qs ok.na ok.n1 ok.n8
 obtain⟨l2,e2⟩:=Xl r.d ok.d
 have e3:=NU ok.x0 ok.x1
 have e4:=NU ok.y0 ok.y1
 let τ:DS:=[some (.d (eZ r))]
 refine⟨[.d (eZ r)],?_⟩
 unfold Hv
 refine Ag (τ:=τ) ?_ rfl rfl
 have c1:=E9 (tst (AX (G:=EJ) (a:=AA (AU HX (AA (AF 0) AI)) AI) (τ:=τ) (τ1:=τ) (rs:=[.d (eT r.n)]) (ds:=[eT r.n]) rfl rfl e1))
 have c2:C7 (AQ (dOp fNe (AU C9 (AA (AF 0) AI)) (dC (.str "")))) (BP (AQ (AU EJ (AA (AU C9 (AA (AF 0) AI)) AI)))) τ=some (false,τ):=by
  have t1:AQ (dOp fNe (AU C9 (AA (AF 0) AI)) (dC (.str ""))) τ=some (!decide (r.h=t0),τ):=tst (op2 (x:=eT r.h) (y:=eT t0) (τ1:=τ) rfl rfl (i3 _ _))
  by_cases h:r.h=t0
  ·rw[decide_eq_true h]at t1
   unfold C7
   rw[t1];rfl
  ·have hn:=hh.resolve_left h
   obtain⟨l3,e5⟩:=Qs hn.na hn.n1 hn.n8
   rw[decide_eq_false h]at t1
   exact(XB t1 (E9 (tst (AX (G:=EJ) (a:=AA (AU C9 (AA (AF 0) AI)) AI) (τ:=τ) (τ1:=τ) (rs:=[.d (eT r.h)]) (ds:=[eT r.h]) rfl rfl e5)))).trans rfl
 have c3:=E9 (tst (AX (G:=CT) (a:=AA (AU L4 (AA (AF 0) AI)) AI) (τ:=τ) (τ1:=τ) (rs:=[.d (.int r.x)]) (ds:=[.int r.x]) rfl rfl e3))
 have c4:=E9 (tst (AX (G:=CT) (a:=AA (AU L3 (AA (AF 0) AI)) AI) (τ:=τ) (τ1:=τ) (rs:=[.d (.int r.y)]) (ds:=[.int r.y]) rfl rfl e4))
 refine(AR (τ1:=τ) rfl).trans ((AR (τ1:=τ) ((Dl (τ1:=τ) c1).trans rfl)).trans ((AR (τ1:=τ) ((Dl (τ1:=τ) c2).trans rfl)).trans ((AR (τ1:=τ) ((Dl (τ1:=τ) (Mv c3 c4)).trans rfl)).trans (BB ?_))))
 exact(Fd (τ1:=τ) rfl).trans (AX (τ1:=τ) (rs:=[.d (eT (kS (kz r.d))),.d (eD r.d)]) (ds:=[eT (kS (kz r.d)),eD r.d]) rfl rfl e2)
theorem Hk{a b:DX}{τ:DS}{p q:Bool}(h:a τ=some (.bool p,τ))(k:p=true->b τ=some (.bool q,τ)):Co a b τ=some (.bool (p&&q),τ):=by
 cases p with
 |true=>exact(Fd h).trans (k rfl)
 |false=>unfold Co;rw[tst h];rfl
theorem orB{a b:DT}{τ:DS}{p q:Bool}(h:a τ=some (p,τ))(k:p=false->b τ=some (q,τ)):CH a b τ=some (p||q,τ):=by
 unfold CH
 rw[h]
 cases p with
 |true=>rfl
 |false=>exact k rfl
theorem hJ{a b:DT}{τ:DS}{p q:Bool}(h:a τ=some (p,τ))(k:p=true->b τ=some (q,τ)):C7 a b τ=some (p&&q,τ):=by
 unfold C7
 rw[h]
 cases p with
 |true=>exact k rfl
 |false=>rfl
theorem ifB{c:DT}{b:DB}{τ:DS}{p q:Bool}(h:c τ=some (p,τ))(k:p=false->b τ=some (.rt (.bool q) τ)):Aa (BA c (An (dC (.bool false))) BO) b τ=some (.rt (.bool (!p&&q)) τ):=by
 cases p with
 |true =>
  unfold Aa
  rw[JA h];rfl
 |false=>exact(AR ((Dl h).trans rfl)).trans (k rfl)
theorem chB{a b c:DX}{τ:DS}{i j k:Int}(h1:a τ=some (.int i,τ))(h2:b τ=some (.int j,τ))(h3:c τ=some (.int k,τ)):Cf fLe fLe a b c τ=some (.bool (decide (i<=j)&&decide (j<=k)),τ):=by
 unfold Cf
 rw[h1]
 show((b τ).bind _)=_
 rw[h2]
 by_cases h:i<=j
 ·simp only[h,h3,decide_true,Bool.true_and,Bo,Aa,Ah,dN,ME,Ge,An,JL,Lv,Eb,dMt,Cv,HG,JE,GH,BO,BA,RK,RJ,JM,II,Ea,AF,dC,dOp,dUn,fI,CG,EE,fLt,fLe,fGt,fGe,E2,Od,Q6,Ln,LI,Am,AQ,C7,CH,BP,dIf,Co,dOr,MD,Cf,AI,AA,Cy,Bn,Gi,A1,AU,JO,Bl,JN,dAS,mkL,nMb,isM,isC,Fs,Lw,FL,GL,dIL,dIT,dR1,dR2,Cu,BH,dGT,Bw,C5,C6,C4,Bz,f1,f2,NB,JG,JF,Lo,EA,RH,FN,E4,CY,atI,ixN,Fl,LQ,LR,LP,EZ,fixDs,sz',Option.bind_some,Option.bind_none,Option.map_some,Option.map_none,List.map_cons,List.map_nil,List.cons_append,List.nil_append,List.length_cons,List.length_nil,List.getElem?_cons_zero,List.getElem?_cons_succ,List.set_cons_zero,List.set_cons_succ,List.replicate_succ,List.replicate_zero,List.all_cons,List.all_nil,Bool.and_self,Bool.and_true,Bool.true_and,Bool.false_and,Bool.and_false,Bool.or_true,Bool.true_or,Bool.false_or,Bool.or_false,Bool.not_true,Bool.not_false,if_true,if_false,reduceIte,Bool.false_eq_true,Nat.reduceAdd,Nat.reduceLT,Nat.reduceSub,Nat.reduceMul,Int.reduceEq,Int.reduceSub,Int.reduceMul,Int.reducePow,Int.reduceDiv,Int.reduceMod,Nat.reduceLeDiff,Nat.reduceEqDiff,and_self,and_true,true_and,Int.natCast_add,Int.reduceAdd,Int.reduceLT,Int.reduceLE,Int.reduceToNat,Int.reduceNeg,Int.toNat_zero,Int.toNat_one,Int.zero_lt_one,Int.le_refl,Int.reduceNegSucc,Int.cast_ofNat_Int,Nat.zero_add,Nat.add_zero]
 ·simp only[h,h3,decide_false,Bool.false_and,Bo,Aa,Ah,dN,ME,Ge,An,JL,Lv,Eb,dMt,Cv,HG,JE,GH,BO,BA,RK,RJ,JM,II,Ea,AF,dC,dOp,dUn,fI,CG,EE,fLt,fLe,fGt,fGe,E2,Od,Q6,Ln,LI,Am,AQ,C7,CH,BP,dIf,Co,dOr,MD,Cf,AI,AA,Cy,Bn,Gi,A1,AU,JO,Bl,JN,dAS,mkL,nMb,isM,isC,Fs,Lw,FL,GL,dIL,dIT,dR1,dR2,Cu,BH,dGT,Bw,C5,C6,C4,Bz,f1,f2,NB,JG,JF,Lo,EA,RH,FN,E4,CY,atI,ixN,Fl,LQ,LR,LP,EZ,fixDs,sz',Option.bind_some,Option.bind_none,Option.map_some,Option.map_none,List.map_cons,List.map_nil,List.cons_append,List.nil_append,List.length_cons,List.length_nil,List.getElem?_cons_zero,List.getElem?_cons_succ,List.set_cons_zero,List.set_cons_succ,List.replicate_succ,List.replicate_zero,List.all_cons,List.all_nil,Bool.and_self,Bool.and_true,Bool.true_and,Bool.false_and,Bool.and_false,Bool.or_true,Bool.true_or,Bool.false_or,Bool.or_false,Bool.not_true,Bool.not_false,if_true,if_false,reduceIte,Bool.false_eq_true,Nat.reduceAdd,Nat.reduceLT,Nat.reduceSub,Nat.reduceMul,Int.reduceEq,Int.reduceSub,Int.reduceMul,Int.reducePow,Int.reduceDiv,Int.reduceMod,Nat.reduceLeDiff,Nat.reduceEqDiff,and_self,and_true,true_and,Int.natCast_add,Int.reduceAdd,Int.reduceLT,Int.reduceLE,Int.reduceToNat,Int.reduceNeg,Int.toNat_zero,Int.toNat_one,Int.zero_lt_one,Int.le_refl,Int.reduceNegSucc,Int.cast_ofNat_Int,Nat.zero_add,Nat.add_zero]
def wB(lo hi:Int):PyData->Bool
 |.int v=>decide (lo<=v)&&decide (v<=hi)
 |_=>false
theorem FI(x:PyData)(lo hi:Int):BV [.d x,.d (.int lo),.d (.int hi)]=some (.bool (wB lo hi x),[.d x,.d (.int lo),.d (.int hi)]):=by
 cases x with
 |int v =>
  unfold BV
  exact Ag (τ:=[some (.d (.int v)),some (.d (.int lo)),some (.d (.int hi))]) (BB ((Fd (AX (ds:=[.int v]) (τ1:=[some (.d (.int v)),some (.d (.int lo)),some (.d (.int hi))]) rfl rfl (VT v))).trans (chB rfl rfl rfl))) rfl rfl
 |_=>rfl
theorem P2(x:PyData):CT [.d x]=some (.bool (wB (-60) 60 x),[.d x]):=by
 unfold CT
 exact Ag (τ:=[some (.d x)]) (BB (AX (ds:=[x,.int (-60),.int 60]) (τ1:=[some (.d x)]) rfl rfl (FI x (-60) 60))) rfl rfl
theorem GD(x:PyData)(lo hi:Int):A2 [.d x,.d (.int lo),.d (.int hi)]=some (.bool (wB lo hi x),[.d x,.d (.int lo),.d (.int hi)]):=by
 cases x with
 |int v =>
  unfold A2
  exact Ag (τ:=[some (.d (.int v)),some (.d (.int lo)),some (.d (.int hi))]) (BB ((Fd (τ1:=[some (.d (.int v)),some (.d (.int lo)),some (.d (.int hi))]) rfl).trans ((Fd (τ1:=[some (.d (.int v)),some (.d (.int lo)),some (.d (.int hi))]) rfl).trans (chB rfl rfl rfl)))) rfl rfl
 |_=>rfl
def shB:PyData->Bool
 |.tuple [.int t,.int b]=>decide (1<=b)&&((decide (0<=t)&&decide (t<=b))&&decide (gI t b=1))&&decide (b<=1000)
 |_=>false
theorem PQ(l:List PyData):Bz [.tuple l]=some (.int (l.length:Nat)):=rfl
theorem neI(i j:Int):fNe (.int i) (.int j)=some (.bool (!decide (i=j))):=encI.fNe i j
theorem eqI(i j:Int):fEq (.int i) (.int j)=some (.bool (decide (i=j))):=encI.fEq i j
theorem geI(i j:Int):fGe (.int i) (.int j)=some (.bool (decide (i≥j))):=rfl
theorem leI(i j:Int):fLe (.int i) (.int j)=some (.bool (decide (i<=j))):=rfl
def Za:PyData->Bool
 |.tuple [.int t,.int b]=>decide (1<=b)&&((decide (0<=t)&&decide (t<=b))&&decide (gI t b=1))
 |_=>false
theorem eP(a b c:PyData)(l:List PyData):(decide (((a::b::c::l).length:Int)=2))=false:=by
 refine decide_eq_false fun z=>?_
 rw[List.length_cons,List.length_cons,List.length_cons]at z
 omega
theorem ZZ(a b c:PyData)(l:List PyData):Za (.tuple (a::b::c::l))=false:=by
 cases a<;>first|rfl|(cases b<;>rfl)
theorem aE(a b c:PyData)(l:List PyData):shB (.tuple (a::b::c::l))=false:=by
 cases a<;>first|rfl|(cases b<;>rfl)
theorem cD(x:PyData):FD [.d x]=some (.bool (Za x),[.d x]):=by
 cases x with
 |tuple l =>
  match l with
  |[]=>rfl
  |[a]=>cases a<;>rfl
  |[a,b] =>
   cases a with
   |int t =>
    cases b with
    |int b =>
     let τ:DS:=[some (.d (.tuple [.int t,.int b])),some (.d (.int t)),some (.d (.int b))]
     unfold FD
     refine Ag (τ:=τ) ?_ rfl rfl
     refine(AR (τ1:=[some (.d (.tuple [.int t,.int b])),none,none]) rfl).trans ((AR (τ1:=[some (.d (.tuple [.int t,.int b])),some (.d (.int t)),none]) rfl).trans ((AR (τ1:=τ) rfl).trans ((AR (τ1:=τ) rfl).trans (BB ?_))))
     refine Hk (p:=decide (1<=b)) (op2 (x:=.int b) (y:=.int 1) (τ1:=τ) rfl rfl (geI b 1)) fun hb=>?_
     have hb:=of_decide_eq_true hb
     refine Hk (chB (i:=0) (j:=t) (k:=b) rfl rfl rfl) fun _=>?_
     exact op2 (x:=.int (gI t b)) (y:=.int 1) (τ1:=τ) (AX (τ1:=τ) (rs:=[.d (.int t),.d (.int b)]) (ds:=[.int t,.int b]) rfl rfl (Q7 (by omega))) rfl (eqI _ _)
    |_=>rfl
   |_=>cases b<;>rfl
  |a::b::c::l =>
   let T:PyData:=.tuple (a::b::c::l)
   rw[ZZ]
   unfold FD
   refine Ag (τ:=[some (.d T),none,none]) ?_ rfl rfl
   refine(ifB (p:=true) (q:=true) (orB (p:=false) (q:=true) rfl fun _=>tst (op2 (x:=.int ((a::b::c::l).length:Nat)) (y:=.int 2) (τ1:=[some (.d T),none,none]) (GN (d:=T) (τ1:=[some (.d T),none,none]) rfl (PQ _)) rfl ?_)) fun z=>by cases z).trans rfl
   rw[neI,eP];rfl
 |_=>rfl
theorem O7(x:PyData):Br [.d x]=some (.bool (shB x),[.d x]):=by
 have e:=cD x
 unfold Br
 refine Ag (τ:=[some (.d x)]) (BB ?_) rfl rfl
 by_cases h:Za x=true
 ·have hx:∃t b,x = .tuple [.int t,.int b]:=by
   unfold Za at h
   split at h
   ·exact⟨_,_,rfl⟩
   ·cases h
  obtain⟨t,b,rfl⟩:=hx
  exact Hk (p:=Za (.tuple [.int t,.int b])) (AX (ds:=[.tuple [.int t,.int b]]) (τ1:=[some (.d (.tuple [.int t,.int b]))]) rfl rfl e) fun _=>op2 (x:=.int b) (y:=.int 1000) (τ1:=[some (.d (.tuple [.int t,.int b]))]) rfl rfl (leI b 1000)
 ·have h':Za x=false:=by simpa using h
  have hs:shB x=false:=by
   unfold shB
   split
   ·rename_i t b
    rw[show(decide (1<=b)&&((decide (0<=t)&&decide (t<=b))&&decide (gI t b=1)))=false from h'];rfl
   ·rfl
  rw[hs]
  rw[h']at e
  exact Hk (p:=false) (q:=false) (AX (ds:=[x]) (τ1:=[some (.d x)]) rfl rfl e) fun z=>by cases z
theorem P5(x y:PyData):CU [.d x,.d y]=some (.bool (shB x&&shB y),[.d x,.d y]):=by
 unfold CU
 exact Ag (τ:=[some (.d x),some (.d y)]) (BB (Hk (AX (ds:=[x]) (τ1:=[some (.d x),some (.d y)]) rfl rfl (O7 x)) fun _=>AX (ds:=[y]) (τ1:=[some (.d x),some (.d y)]) rfl rfl (O7 y))) rfl rfl
theorem cy{t b:Int}(hb:0<b):decide (frm t b=(t,b))=decide (gI t b=1):=by
 refine decide_eq_decide.mpr ⟨fun h=>?_,fun h=>?_⟩
 ·have h2:b / gI t b=b:=(Prod.mk.inj h).2
  have hg:0<gI t b:=by
   show(0:Int)<(Int.gcd t b:Nat)
   have:=Int.gcd_pos_of_ne_zero_right t (b:=b) (by omega)
   omega
  by_cases h1:gI t b=1
  ·exact h1
  ·have:b / gI t b<b:=Int.ediv_lt_self_of_pos_of_ne_one hb h1
   omega
 ·unfold frm
  rw[h,Int.ediv_one,Int.ediv_one]
theorem QX(x:PyData):Dk [.d x]=some (.bool (shB x),[.d x]):=by
 cases x with
 |tuple l =>
  match l with
  |[]=>rfl
  |[a]=>cases a<;>rfl
  |[a,c] =>
   let T:PyData:=.tuple [a,c]
   let τ:DS:=[some (.d T)]
   have w1:AU A2 (AA (dOp Am (AF 0) (dC (.int 1))) (AA (dC (.int 1)) (AA (dC (.int 1000)) AI))) τ=some (.bool (wB 1 1000 c),τ):=AX (ds:=[c,.int 1,.int 1000]) (τ1:=τ) rfl rfl (GD c 1 1000)
   unfold Dk
   cases c with
   |int b =>
    have w2:AU A2 (AA (dOp Am (AF 0) (dC (.int 0))) (AA (dC (.int 0)) (AA (dOp Am (AF 0) (dC (.int 1))) AI))) τ=some (.bool (wB 0 b a),τ):=AX (ds:=[a,.int 0,.int b]) (τ1:=τ) rfl rfl (GD a 0 b)
    have goal:∀q:Bool,(1<=b->b<=1000->Co (AU A2 (AA (dOp Am (AF 0) (dC (.int 0))) (AA (dC (.int 0)) (AA (dOp Am (AF 0) (dC (.int 1))) AI)))) (dOp fEq (AU HB (AA (dOp Am (AF 0) (dC (.int 0))) (AA (dOp Am (AF 0) (dC (.int 1))) AI))) (AF 0)) τ=some (.bool q,τ)) ->
      shB T=(!(!(wB 1 1000 (.int b)))&&q)->Bo false 1 0 (Aa (BA (CH (BP (AQ (FN "tuple" (AF 0)))) (CH (AQ (dOp fNe (A1 Bz (AA (AF 0) AI)) (dC (.int 2)))) (BP (AQ (AU A2 (AA (dOp Am (AF 0) (dC (.int 1))) (AA (dC (.int 1)) (AA (dC (.int 1000)) AI)))))))) (An (dC (.bool false))) BO) (An (Co (AU A2 (AA (dOp Am (AF 0) (dC (.int 0))) (AA (dC (.int 0)) (AA (dOp Am (AF 0) (dC (.int 1))) AI)))) (dOp fEq (AU HB (AA (dOp Am (AF 0) (dC (.int 0))) (AA (dOp Am (AF 0) (dC (.int 1))) AI))) (AF 0))))) [.d T]=some (.bool (shB T),[.d T]):=by
     intro q hq hs
     rw[hs]
     refine Ag (τ:=τ) ?_ rfl rfl
     refine ifB (p:=!(wB 1 1000 (.int b))) (orB (p:=false) rfl fun _=>orB (p:=false) rfl fun _=>E9 (tst w1)) fun z=>BB ?_
     have z:wB 1 1000 (.int b)=true:=by simpa using z
     unfold wB at z
     rw[Bool.and_eq_true,decide_eq_true_iff,decide_eq_true_iff]at z
     exact hq z.1 z.2
    cases a with
    |int t =>
     refine goal ((decide (0<=t)&&decide (t<=b))&&decide (gI t b=1)) (fun h1 h2=>?_) ?_
     ·refine Hk (p:=decide (0<=t)&&decide (t<=b)) w2 fun _=>?_
      refine op2 (x:=ec (frm t b)) (y:=ec (t,b)) (τ1:=τ) (AX (τ1:=τ) (rs:=[.d (.int t),.d (.int b)]) (ds:=[.int t,.int b]) rfl rfl (bD (by omega) (by omega))) rfl ?_
      rw[encC.fEq,cy (by omega)]
     ·show(decide (1<=b)&&((decide (0<=t)&&decide (t<=b))&&decide (gI t b=1))&&decide (b<=1000))=(!(!(decide (1<=b)&&decide (b<=1000)))&&((decide (0<=t)&&decide (t<=b))&&decide (gI t b=1)))
      rw[Bool.not_not]
      cases decide (1<=b)<;>cases decide (b<=1000)<;>cases ((decide (0<=t)&&decide (t<=b))&&decide (gI t b=1))<;>rfl
    |_ =>
     refine goal false (fun _ _=>Hk (p:=false) (q:=false) w2 fun z=>by cases z) ?_
     show false=_
     rw[Bool.and_false]
   |_=>cases a<;>rfl
  |a::b::c::l =>
   let T:PyData:=.tuple (a::b::c::l)
   rw[aE]
   unfold Dk
   refine Ag (τ:=[some (.d T)]) ?_ rfl rfl
   refine(ifB (p:=true) (q:=true) (orB (p:=false) (q:=true) rfl fun _=>orB (p:=true) (q:=true) (tst (op2 (x:=.int ((a::b::c::l).length:Nat)) (y:=.int 2) (τ1:=[some (.d T)]) (GN (d:=T) (τ1:=[some (.d T)]) rfl (PQ _)) rfl ?_)) fun z=>by cases z) fun z=>by cases z).trans rfl
   rw[neI,eP];rfl
 |_=>rfl
abbrev Ch:={ c:Nat // c<128 }
def eCh(c:Ch):PyData:=.str ⟨#[c.1]⟩
theorem iR:∀c:_root_.Fin 128,PyData.strOk ⟨#[(c:Nat)]⟩=true:=∅
theorem encCh:Enc eCh:=by
 refine⟨fun a b=>?_,fun a=>?_,fun a=>?_,fun _=>rfl⟩
 ·unfold eCh
  rw[PyData.eqv]
  by_cases h:a=b
  ·subst h;simp
  ·rw[decide_eq_false h]
   refine beq_eq_false_iff_ne.mpr fun z=>h (Subtype.ext ?_)
   have z2:#[a.1]=#[b.1]:=Str.mk.inj z
   simpa using z2
 ·show PyData.canLay0 (.str ⟨#[a.1]⟩)=true
  rw[PyData.canLay0];exact iR ⟨a.1,a.2⟩
 ·show PyData.depth (.str ⟨#[a.1]⟩)<=20
  rw[PyData.depth];decide
def OI(s:Str):Prop:=(∀c∈s.cps.toList,c<128)/\s.length<=100/\PyData.strOk s=true
def OJ:PyData->Prop
 |.str s=>OI s
 |_=>True
theorem dY:∀l:List Nat,(∀c∈l,c<128)->∃k:List Ch,l=k.map (·.1)
 |[],_=>⟨[],rfl⟩
 |c::l,h=>by
  obtain⟨k,e⟩:=dY l fun c hc=>h c (List.mem_cons_of_mem _ hc)
  exact⟨⟨c,h c (List.mem_cons_self ..)⟩::k,by rw[List.map_cons,<- e]⟩
theorem i7{l:List Nat}(h:∀c∈l,c<128):fEq (.list (l.map eC)) (.list [])=some (.bool l.isEmpty):=by
 obtain⟨k,rfl⟩:=dY l h
 have e:(k.map (·.1)).map eC=k.map eCh:=by rw[List.map_map];rfl
 rw[e]
 have:=encCh.fEqL k []
 rw[show([]:List Ch).map eCh=[] from rfl]at this
 rw[this]
 cases k<;>simp
theorem bo{α:Type}(p:α->Bool):∀l:List α,Kz (l.map fun c=>PyData.bool (p c))=some (l.map p)
 |[]=>rfl
 |a::l=>by
  rw[List.map_cons,Kz,bo p l];rfl
theorem dM{α:Type}(p:α->Bool)(l:List α):N7 [.list (l.map fun c=>PyData.bool (p c))]=some (.bool (l.all p)):=by
 show(Kz (l.map fun c=>PyData.bool (p c))).map _=_
 rw[bo]
 show some (PyData.bool ((l.map p).all id))=_
 rw[List.all_map];rfl
theorem Wd{α:Type}(p:α->Bool):∀l:List α,(l.filter fun c=>!p c).isEmpty=l.all p
 |[]=>rfl
 |a::l=>by
  rw[List.filter_cons,List.all_cons]
  cases h:p a with
  |true=>rw[if_neg (by simp),Bool.true_and];exact Wd p l
  |false=>rfl
def txB(al:Str)(lo hi:Int):PyData->Bool
 |.str s=>(decide (lo<=(s.length:Nat))&&decide (((s.length:Nat):Int)<=hi))&&s.cps.toList.all (inB al)
 |_=>false
theorem cc{s:Str}(h:s.length<=100):Bz [.str s]=some (.int (s.length:Nat)):=by
 show(if s.length<=sizeLine then _ else _)=_
 rw[if_pos (sz (by omega))]
theorem Z4{x:PyData}(hx:OJ x)(al:Str)(lo hi:Int):CA [.d x,.d (.str al),.d (.int lo),.d (.int hi)]=some (.bool (txB al lo hi x),[.d x,.d (.str al),.d (.int lo),.d (.int hi)]):=by
 cases x with
 |str s =>
  obtain⟨h128,hz,_⟩:=hx
  let A:Option L:=some (.d (.str al))
  let τ:DS:=[some (.d (.str s)),A,some (.d (.int lo)),some (.d (.int hi))]
  unfold CA
  refine Ag (τ:=τ) ?_ rfl rfl
  have e:txB al lo hi (.str s)=(!(!(decide (lo<=(s.length:Nat))&&decide (((s.length:Nat):Int)<=hi)))&&s.cps.toList.all (inB al)):=by rw[Bool.not_not];rfl
  rw[e]
  refine ifB (orB (p:=false) rfl fun _=>E9 (tst (chB (i:=lo) (j:=(s.length:Nat)) (k:=hi) rfl (GN (d:=.str s) (τ1:=τ) rfl (cc hz)) rfl))) fun _=>BB ?_
  have lc:dLC 1 [1] (dIS (AF 0)) (dN 0) GL (dOp U8 (AF 0) (AF 1)) τ=some (.list (s.cps.toList.map fun c=>PyData.bool (inB al c)),τ):=by
   have := lcg (enc := eC) (rs := s.cps.toList) (τ := τ) (fr := [1]) (it := dIS (AF 0)) (ex := [A]) (c := GL) (e := dOp U8 (AF 0) (AF 1)) (fun _ => true) (fun c => .bool (inB al c)) rfl (by show s.length <= 1000; omega) rfl rfl (fun r _ => rfl) (fun c _ _ =>
    op2 (x:=eC c) (y:=.str al) (τ1:=[some (.d (eC c)),A]) rfl rfl rfl)
   rw[this,Gq]
  exact GN lc (dM _ _)
 |_=>rfl
theorem cU{x:PyData}(hx:OJ x)(al:Str)(lo hi:Int):EK [.d x,.d (.str al),.d (.int lo),.d (.int hi)]=some (.bool (txB al lo hi x),[.d x,.d (.str al),.d (.int lo),.d (.int hi)]):=by
 cases x with
 |str s =>
  obtain⟨h128,hz,_⟩:=hx
  let A:Option L:=some (.d (.str al))
  let τ:DS:=[some (.d (.str s)),A,some (.d (.int lo)),some (.d (.int hi))]
  unfold EK
  refine Ag (τ:=τ) ?_ rfl rfl
  have e:txB al lo hi (.str s)=(!(!(decide (lo<=(s.length:Nat))&&decide (((s.length:Nat):Int)<=hi)))&&s.cps.toList.all (inB al)):=by rw[Bool.not_not];rfl
  rw[e]
  refine ifB (orB (p:=false) rfl fun _=>E9 (tst (chB (i:=lo) (j:=(s.length:Nat)) (k:=hi) rfl (GN (d:=.str s) (τ1:=τ) rfl (cc hz)) rfl))) fun _=>BB ?_
  have lc:dLC 1 [1] (dIS (AF 0)) (dN 0) (AQ (dOp We (AF 0) (AF 1))) (AF 0) τ=some (.list ((s.cps.toList.filter fun c=>!inB al c).map eC),τ) :=
   lcg (enc:=eC) (rs:=s.cps.toList) (τ:=τ) (fr:=[1]) (it:=dIS (AF 0)) (ex:=[A]) (c:=AQ (dOp We (AF 0) (AF 1))) (e:=AF 0) (fun c=>!inB al c) eC rfl (by show s.length<=1000;omega) rfl rfl (fun c _=>tst (op2 (x:=eC c) (y:=.str al) (τ1:=[some (.d (eC c)),A]) rfl rfl rfl)) (fun c _ _=>rfl)
  refine op2 (x:=.list ((s.cps.toList.filter fun c=>!inB al c).map eC)) (y:=.list []) (τ1:=τ) lc rfl ?_
  rw[i7 fun c hc=>h128 c (List.mem_filter.mp hc).1,Wd]
 |_=>rfl
theorem fQ:∀c:_root_.Fin 128,(MQ Hs ⟨#[(c:Nat)]⟩).isSome=inB alW c:=∅
theorem fP{c:Nat}(h:c<128):EI [.d (eC c)]=some (.bool (inB alW c),[.d (eC c)]):=by
 unfold EI
 refine Ag (τ:=[some (.d (eC c))]) (BB ?_) rfl rfl
 show some (PyData.bool (MQ Hs ⟨#[c]⟩).isSome,_)=_
 rw[fQ ⟨c,h⟩];rfl
theorem VS{x:PyData}(hx:OJ x):DK [.d x]=some (.bool (txB alW 0 6 x),[.d x]):=by
 cases x with
 |str s =>
  obtain⟨h128,hz,_⟩:=hx
  let τ:DS:=[some (.d (.str s))]
  unfold DK
  refine Ag (τ:=τ) ?_ rfl rfl
  have e:txB alW 0 6 (.str s)=(!(decide (((s.length:Nat):Int)>6))&&s.cps.toList.all (inB alW)):=by
   show((decide ((0:Int)<=(s.length:Nat))&&decide (((s.length:Nat):Int)<=6))&&_)=_
   rw[decide_eq_true (show(0:Int)<=(s.length:Nat) by omega),Bool.true_and]
   congr 1
   by_cases h:((s.length:Nat):Int)<=6
   ·rw[decide_eq_true h,decide_eq_false (by omega)];rfl
   ·rw[decide_eq_false h,decide_eq_true (by omega)];rfl
  rw[e]
  refine ifB (orB (p:=false) rfl fun _=>tst (op2 (x:=.int (s.length:Nat)) (y:=.int 6) (τ1:=τ) (GN (d:=.str s) (τ1:=τ) rfl (cc hz)) rfl rfl)) fun _=>BB ?_
  have lc:dLC 1 [] (dIS (AF 0)) (dN 0) GL (AU EI (AA (AF 0) AI)) τ=some (.list (s.cps.toList.map fun c=>PyData.bool (inB alW c)),τ):=by
   have := lcg (enc := eC) (rs := s.cps.toList) (τ := τ) (fr := []) (it := dIS (AF 0)) (ex := []) (c := GL) (e := AU EI (AA (AF 0) AI)) (fun _ => true) (fun c => .bool (inB alW c)) rfl (by show s.length <= 1000; omega) rfl rfl (fun r _ => rfl) (fun c hc _ =>
    AX (τ1:=[some (.d (eC c))]) (ds:=[eC c]) rfl rfl (fP (h128 c hc)))
   rw[this,Gq]
  exact GN lc (dM _ _)
 |_=>rfl
theorem az{x:PyData}(hx:OJ x):EJ [.d x]=some (.bool (txB alN 1 8 x),[.d x]):=by
 unfold EJ
 exact Ag (τ:=[some (.d x)]) (BB (AX (τ1:=[some (.d x)]) (rs:=[.d x,.d (.str alN),.d (.int 1),.d (.int 8)]) (ds:=[x,.str alN,.int 1,.int 8]) rfl rfl (Z4 hx alN 1 8))) rfl rfl
def lnD:PyData->Int
 |.str s=>(s.length:Nat)
 |_=>0
theorem W8{al:Str}{lo hi:Int}{r:PyData}(hr:OJ r)(h:txB al lo hi r=true):Bz [r]=some (.int (lnD r)):=by
 cases r with
 |str s=>exact cc hr.2.1
 |_=>cases h
def stB:PyData->Bool
 |.tuple rows=>(decide ((1:Int)<=(rows.length:Nat))&&decide (((rows.length:Nat):Int)<=8))&&(rows.all (txB alS 1 8)&&rows.all fun r=>decide (lnD r=lnD (rows.headD .none)))
 |_=>false
def VR:PyData->Prop
 |.tuple l=>∀r∈l,OJ r
 |_=>True
theorem ifT{c:DT}{b:DB}{τ:DS}(h:c τ=some (true,τ)):Aa (BA c (An (dC (.bool false))) BO) b τ=some (.rt (.bool false) τ):=by
 unfold Aa
 rw[JA h];rfl
theorem ifF{c:DT}{b:DB}{τ:DS}(h:c τ=some (false,τ)):Aa (BA c (An (dC (.bool false))) BO) b τ=b τ:=AR ((Dl h).trans rfl)
theorem ix0(r0:PyData)(GJ:List PyData):Am (.tuple (r0::GJ)) (.int 0)=some r0:=by
 show atI (r0::GJ) 0=_
 unfold atI ixN
 simp
theorem Of:∀ns:List Int,PR (ns.map PyData.int)=some ns
 |[]=>rfl
 |n::ns=>by rw[List.map_cons,PR,Of ns];rfl
theorem Y5{x:PyData}(hx:VR x):CL [.d x]=some (.bool (stB x),[.d x]):=by
 cases x with
 |tuple rows =>
  let τ:DS:=[some (.d (.tuple rows))]
  unfold CL
  refine Ag (τ:=τ) ?_ rfl rfl
  have e:stB (.tuple rows)=(!(!(decide ((1:Int)<=(rows.length:Nat))&&decide (((rows.length:Nat):Int)<=8)))&&(!(!(rows.all (txB alS 1 8)))&&rows.all fun r=>decide (lnD r=lnD (rows.headD .none)))):=by rw[Bool.not_not,Bool.not_not];rfl
  rw[e]
  refine ifB (orB (p:=false) rfl fun _=>E9 (tst (chB (i:=1) (j:=(rows.length:Nat)) (k:=8) rfl (GN (d:=.tuple rows) (τ1:=τ) rfl (PQ _)) rfl))) fun z=>?_
  rw[Bool.not_eq_false',Bool.and_eq_true,decide_eq_true_iff,decide_eq_true_iff]at z
  have lc1:dLC 1 [] (dIT (AF 0)) (dN 0) GL (AU CA (AA (AF 0) (AA (dC (.str "#.")) (AA (dC (.int 1)) (AA (dC (.int 8)) AI))))) τ=some (.list (rows.map fun r=>PyData.bool (txB alS 1 8 r)),τ):=by
   have := lcg (enc := fun r => r) (rs := rows) (τ := τ) (fr := []) (it := dIT (AF 0)) (ex := []) (c := GL) (e := AU CA (AA (AF 0) (AA (dC (.str "#.")) (AA (dC (.int 1)) (AA (dC (.int 8)) AI))))) (fun _ => true) (fun r => .bool (txB alS 1 8 r)) (by rw [List.map_id']; rfl) (by omega) rfl rfl (fun r _ => rfl) (fun r hr _ =>
    AX (τ1:=[some (.d r)]) (rs:=[.d r,.d (.str alS),.d (.int 1),.d (.int 8)]) (ds:=[r,.str alS,.int 1,.int 8]) rfl rfl (Z4 (hx r hr) alS 1 8))
   rw[this,Gq]
  refine ifB (E9 (tst (GN lc1 (dM _ _)))) fun z2=>BB ?_
  have hall:∀r∈rows,txB alS 1 8 r=true:=List.all_eq_true.mp (by simpa using z2)
  match rows,hx,hall,z with
  |[],_,_,z=>exact absurd z.1 (by decide)
  |r0::GJ,hx,hall,z =>
   let τ:DS:=[some (.d (.tuple (r0::GJ)))]
   have lc2:dLC 1 [0] (dIT (AF 0)) (dN 0) GL (dOp fEq (A1 Bz (AA (AF 0) AI)) (A1 Bz (AA (dOp Am (AF 1) (dC (.int 0))) AI))) τ=some (.list ((r0::GJ).map fun r=>PyData.bool (decide (lnD r=lnD r0))),τ):=by
    have := lcg (enc := fun r => r) (rs := r0 :: GJ) (τ := τ) (fr := [0]) (it := dIT (AF 0)) (ex := [some (.d (.tuple (r0 :: GJ)))]) (c := GL) (e := dOp fEq (A1 Bz (AA (AF 0) AI)) (A1 Bz (AA (dOp Am (AF 1) (dC (.int 0))) AI))) (fun _ => true) (fun r => .bool (decide (lnD r = lnD r0))) (by rw [List.map_id']; rfl) (by omega) rfl rfl (fun r _ => rfl) (fun r hr _ =>
     op2 (x:=.int (lnD r)) (y:=.int (lnD r0)) (τ1:=[some (.d r),some (.d (.tuple (r0::GJ)))]) (GN (d:=r) (τ1:=[some (.d r),some (.d (.tuple (r0::GJ)))]) rfl (W8 (hx r hr) (hall r hr))) (GN (d:=r0) (τ1:=[some (.d r),some (.d (.tuple (r0::GJ)))]) (op2 (x:=.tuple (r0::GJ)) (y:=.int 0) (τ1:=[some (.d r),some (.d (.tuple (r0::GJ)))]) rfl rfl (ix0 r0 GJ)) (W8 (hx r0 (List.mem_cons_self ..)) (hall r0 (List.mem_cons_self ..)))) (eqI _ _))
    rw[this,Gq]
   exact GN lc2 (dM _ _)
 |_=>rfl
theorem ja{a b c:DX}{τ:DS}{i j k:Int}(h1:a τ=some (.int i,τ))(h2:b τ=some (.int j,τ))(h3:c τ=some (.int k,τ)):Cf fLt fLt a b c τ=some (.bool (decide (i<j)&&decide (j<k)),τ):=by
 unfold Cf
 rw[h1]
 show((b τ).bind _)=_
 rw[h2]
 by_cases h:i<j
 ·simp only[h,h3,decide_true,Bool.true_and,Bo,Aa,Ah,dN,ME,Ge,An,JL,Lv,Eb,dMt,Cv,HG,JE,GH,BO,BA,RK,RJ,JM,II,Ea,AF,dC,dOp,dUn,fI,CG,EE,fLt,fLe,fGt,fGe,E2,Od,Q6,Ln,LI,Am,AQ,C7,CH,BP,dIf,Co,dOr,MD,Cf,AI,AA,Cy,Bn,Gi,A1,AU,JO,Bl,JN,dAS,mkL,nMb,isM,isC,Fs,Lw,FL,GL,dIL,dIT,dR1,dR2,Cu,BH,dGT,Bw,C5,C6,C4,Bz,f1,f2,NB,JG,JF,Lo,EA,RH,FN,E4,CY,atI,ixN,Fl,LQ,LR,LP,EZ,fixDs,sz',Option.bind_some,Option.bind_none,Option.map_some,Option.map_none,List.map_cons,List.map_nil,List.cons_append,List.nil_append,List.length_cons,List.length_nil,List.getElem?_cons_zero,List.getElem?_cons_succ,List.set_cons_zero,List.set_cons_succ,List.replicate_succ,List.replicate_zero,List.all_cons,List.all_nil,Bool.and_self,Bool.and_true,Bool.true_and,Bool.false_and,Bool.and_false,Bool.or_true,Bool.true_or,Bool.false_or,Bool.or_false,Bool.not_true,Bool.not_false,if_true,if_false,reduceIte,Bool.false_eq_true,Nat.reduceAdd,Nat.reduceLT,Nat.reduceSub,Nat.reduceMul,Int.reduceEq,Int.reduceSub,Int.reduceMul,Int.reducePow,Int.reduceDiv,Int.reduceMod,Nat.reduceLeDiff,Nat.reduceEqDiff,and_self,and_true,true_and,Int.natCast_add,Int.reduceAdd,Int.reduceLT,Int.reduceLE,Int.reduceToNat,Int.reduceNeg,Int.toNat_zero,Int.toNat_one,Int.zero_lt_one,Int.le_refl,Int.reduceNegSucc,Int.cast_ofNat_Int,Nat.zero_add,Nat.add_zero]
 ·simp only[h,h3,decide_false,Bool.false_and,Bo,Aa,Ah,dN,ME,Ge,An,JL,Lv,Eb,dMt,Cv,HG,JE,GH,BO,BA,RK,RJ,JM,II,Ea,AF,dC,dOp,dUn,fI,CG,EE,fLt,fLe,fGt,fGe,E2,Od,Q6,Ln,LI,Am,AQ,C7,CH,BP,dIf,Co,dOr,MD,Cf,AI,AA,Cy,Bn,Gi,A1,AU,JO,Bl,JN,dAS,mkL,nMb,isM,isC,Fs,Lw,FL,GL,dIL,dIT,dR1,dR2,Cu,BH,dGT,Bw,C5,C6,C4,Bz,f1,f2,NB,JG,JF,Lo,EA,RH,FN,E4,CY,atI,ixN,Fl,LQ,LR,LP,EZ,fixDs,sz',Option.bind_some,Option.bind_none,Option.map_some,Option.map_none,List.map_cons,List.map_nil,List.cons_append,List.nil_append,List.length_cons,List.length_nil,List.getElem?_cons_zero,List.getElem?_cons_succ,List.set_cons_zero,List.set_cons_succ,List.replicate_succ,List.replicate_zero,List.all_cons,List.all_nil,Bool.and_self,Bool.and_true,Bool.true_and,Bool.false_and,Bool.and_false,Bool.or_true,Bool.true_or,Bool.false_or,Bool.or_false,Bool.not_true,Bool.not_false,if_true,if_false,reduceIte,Bool.false_eq_true,Nat.reduceAdd,Nat.reduceLT,Nat.reduceSub,Nat.reduceMul,Int.reduceEq,Int.reduceSub,Int.reduceMul,Int.reducePow,Int.reduceDiv,Int.reduceMod,Nat.reduceLeDiff,Nat.reduceEqDiff,and_self,and_true,true_and,Int.natCast_add,Int.reduceAdd,Int.reduceLT,Int.reduceLE,Int.reduceToNat,Int.reduceNeg,Int.toNat_zero,Int.toNat_one,Int.zero_lt_one,Int.le_refl,Int.reduceNegSucc,Int.cast_ofNat_Int,Nat.zero_add,Nat.add_zero]
theorem Wc{α:Type}(p:α->Bool):∀l:List α,decide (((l.filter p).length:Int)=(l.length:Nat))=l.all p
 |[]=>rfl
 |a::l=>by
  have ih:=Wc p l
  have le:=List.length_filter_le p l
  rw[List.filter_cons,List.all_cons,<- ih]
  cases h:p a with
  |true =>
   rw[if_pos rfl,Bool.true_and,List.length_cons,List.length_cons]
   exact decide_eq_decide.mpr ⟨fun z=>by omega,fun z=>by omega⟩
  |false =>
   rw[if_neg (by simp),Bool.false_and,List.length_cons]
   exact decide_eq_false (by omega)
theorem fo{ns:List Int}(h:ns≠[]):Wf [.list (ns.map .int)]=some (.int (Nn ns)):=by
 show(PR (ns.map PyData.int)).bind _=_
 rw[Of]
 show(if ns=[] then none else _)=_
 rw[if_neg h]
theorem fq{ns:List Int}(h:ns≠[]):Wg [.list (ns.map .int)]=some (.int (Np ns)):=by
 show(PR (ns.map PyData.int)).bind _=_
 rw[Of]
 show(if ns=[] then none else _)=_
 rw[if_neg h]
theorem fk(r0:PyData)(GJ:List PyData):decide (Nn ((r0::GJ).map lnD)=Np ((r0::GJ).map lnD))=(r0::GJ).all fun r=>decide (lnD r=lnD r0):=by
 have hne:(r0::GJ).map lnD≠[]:=by simp
 obtain⟨m1,m2⟩:=Oa hne
 obtain⟨x1,x2⟩:=Ob hne
 have h0:lnD r0∈(r0::GJ).map lnD:=List.mem_map_of_mem (List.mem_cons_self ..)
 by_cases h:((r0::GJ).all fun r=>decide (lnD r=lnD r0))=true
 ·rw[h]
  have hh:=List.all_eq_true.mp h
  refine decide_eq_true ?_
  obtain⟨a,ha,e1⟩:=List.mem_map.mp m1
  obtain⟨b,hb,e2⟩:=List.mem_map.mp x1
  rw[<- e1,<- e2,of_decide_eq_true (hh a ha),of_decide_eq_true (hh b hb)]
 ·have hf:((r0::GJ).all fun r=>decide (lnD r=lnD r0))=false:=by simpa using h
  rw[hf]
  refine decide_eq_false fun e=>h (List.all_eq_true.mpr fun r hr=>decide_eq_true ?_)
  have a1:=m2 _ (List.mem_map_of_mem (f:=lnD) hr)
  have a2:=x2 _ (List.mem_map_of_mem (f:=lnD) hr)
  have b1:=m2 _ h0
  have b2:=x2 _ h0
  omega
theorem dQ{x:PyData}(hx:VR x):GA [.d x]=some (.bool (stB x),[.d x]):=by
 cases x with
 |tuple rows =>
  let τ:DS:=[some (.d (.tuple rows)),none]
  have c0:CH (BP (AQ (FN "tuple" (AF 0)))) (BP (AQ (Cf fLt fLt (dC (.int 0)) (A1 Bz (AA (AF 0) AI)) (dC (.int 9))))) τ=some (false||!(decide ((0:Int)<(rows.length:Nat))&&decide (((rows.length:Nat):Int)<9)),τ) :=
   orB (p:=false) rfl fun _=>E9 (tst (ja (i:=0) (j:=(rows.length:Nat)) (k:=9) rfl (GN (d:=.tuple rows) (τ1:=τ) rfl (PQ _)) rfl))
  rw[Bool.false_or]at c0
  have e0:(decide ((1:Int)<=(rows.length:Nat))&&decide (((rows.length:Nat):Int)<=8))=(decide ((0:Int)<(rows.length:Nat))&&decide (((rows.length:Nat):Int)<9)):=by
   congr 1
   exact decide_eq_decide.mpr ⟨fun z=>by omega,fun z=>by omega⟩
  unfold GA
  by_cases z:(decide ((0:Int)<(rows.length:Nat))&&decide (((rows.length:Nat):Int)<9))=true
  ·rw[z]at c0
   rw[z]at e0
   have es:stB (.tuple rows)=(rows.all (txB alS 1 8)&&rows.all fun r=>decide (lnD r=lnD (rows.headD .none))):=by
    show((decide ((1:Int)<=(rows.length:Nat))&&decide (((rows.length:Nat):Int)<=8))&&_)=_
    rw[e0,Bool.true_and]
   rw[Bool.and_eq_true,decide_eq_true_iff,decide_eq_true_iff]at z
   let S:PyData:=.list ((rows.filter (txB alS 1 8)).map fun r=>PyData.int (lnD r))
   let τ2:DS:=[some (.d (.tuple rows)),some (.d S)]
   refine Ag (τ:=τ2) ?_ rfl rfl
   refine(ifF c0).trans ((AR (τ1:=τ2) (Bt (d:=S) (τ1:=τ) ?_ rfl)).trans (BB ?_))
   ·exact lcg (enc:=fun r=>r) (rs:=rows) (τ:=τ) (fr:=[]) (it:=dIT (AF 0)) (ex:=[]) (c:=AQ (AU EK (AA (AF 0) (AA (dC (.str "#.")) (AA (dC (.int 1)) (AA (dC (.int 8)) AI)))))) (e:=A1 Bz (AA (AF 0) AI)) (txB alS 1 8) (fun r=>.int (lnD r)) (by rw[List.map_id'];rfl) (by omega) rfl rfl (fun r hr=>tst (AX (τ1:=[some (.d r)]) (rs:=[.d r,.d (.str alS),.d (.int 1),.d (.int 8)]) (ds:=[r,.str alS,.int 1,.int 8]) rfl rfl (cU (hx r hr) alS 1 8))) (fun r hr hp=>GN (d:=r) (τ1:=[some (.d r)]) rfl (W8 (hx r hr) hp))
   ·rw[es]
    have ln:Bz [S]=some (.int ((rows.filter (txB alS 1 8)).length:Nat)):=by
     show some (PyData.int (((rows.filter (txB alS 1 8)).map fun r=>PyData.int (lnD r)).length:Nat))=_
     rw[List.length_map]
    refine Hk (p:=rows.all (txB alS 1 8)) ?_ fun ha=>?_
    ·rw[<- Wc]
     exact op2 (x:=.int ((rows.filter (txB alS 1 8)).length:Nat)) (y:=.int (rows.length:Nat)) (τ1:=τ2) (GN (d:=S) (τ1:=τ2) rfl ln) (GN (d:=.tuple rows) (τ1:=τ2) rfl (PQ _)) (eqI _ _)
    ·have hf:rows.filter (txB alS 1 8)=rows:=List.filter_eq_self.mpr (List.all_eq_true.mp ha)
     have eS:S = .list ((rows.map lnD).map .int):=by
      show PyData.list ((rows.filter (txB alS 1 8)).map fun r=>PyData.int (lnD r))=_
      rw[hf,List.map_map];rfl
     have hne:rows.map lnD≠[]:=by
      intro q
      have:=congrArg List.length q
      rw[List.length_map,List.length_nil]at this
      omega
     have g:dOp fEq (A1 Wf (AA (AF 1) AI)) (A1 Wg (AA (AF 1) AI)) τ2=some (.bool (decide (Nn (rows.map lnD)=Np (rows.map lnD))),τ2) :=
      op2 (x:=.int (Nn (rows.map lnD))) (y:=.int (Np (rows.map lnD))) (τ1:=τ2) (GN (d:=S) (τ1:=τ2) rfl (by rw[eS];exact fo hne)) (GN (d:=S) (τ1:=τ2) rfl (by rw[eS];exact fq hne)) (eqI _ _)
     rw[g]
     cases rows with
     |nil=>exact absurd rfl hne
     |cons r0 GJ=>rw[fk];rfl
  ·have z':(decide ((0:Int)<(rows.length:Nat))&&decide (((rows.length:Nat):Int)<9))=false:=by simpa using z
   rw[z']at c0
   rw[z']at e0
   have es:stB (.tuple rows)=false:=by
    show((decide ((1:Int)<=(rows.length:Nat))&&decide (((rows.length:Nat):Int)<=8))&&_)=_
    rw[e0,Bool.false_and]
   rw[es]
   exact Ag (τ:=τ) (ifT c0) rfl rfl
 |_=>rfl
def q1(g:PyData->Bool):List PyData->Bool
 |[a]=>g a
 |_=>false
def q2(g:PyData->PyData->Bool):List PyData->Bool
 |[a,b]=>g a b
 |_=>false
def q3(g:PyData->PyData->PyData->Bool):List PyData->Bool
 |[a,b,c]=>g a b c
 |_=>false
def q4(g:PyData->PyData->PyData->PyData->Bool):List PyData->Bool
 |[a,b,c,d]=>g a b c d
 |_=>false
theorem eK{g:PyData->Bool}{l:List PyData}(h:l.length≠1):q1 g l=false:=by
 unfold q1;split
 ·exact absurd rfl h
 ·rfl
theorem eJ{g:PyData->PyData->Bool}{l:List PyData}(h:l.length≠2):q2 g l=false:=by
 unfold q2;split
 ·exact absurd rfl h
 ·rfl
theorem YK{g:PyData->PyData->PyData->Bool}{l:List PyData}(h:l.length≠3):q3 g l=false:=by
 unfold q3;split
 ·exact absurd rfl h
 ·rfl
theorem PJ{g:PyData->PyData->PyData->PyData->Bool}{l:List PyData}(h:l.length≠4):q4 g l=false:=by
 unfold q4;split
 ·exact absurd rfl h
 ·rfl
theorem one{l:List PyData}(h:l.length=1):∃a,l=[a]:=by
 match l,h with
 |[a],_=>exact⟨a,rfl⟩
theorem two{l:List PyData}(h:l.length=2):∃a b,l=[a,b]:=by
 match l,h with
 |[a,b],_=>exact⟨a,b,rfl⟩
theorem YA{l:List PyData}(h:l.length=3):∃a b c,l=[a,b,c]:=by
 match l,h with
 |[a,b,c],_=>exact⟨a,b,c,rfl⟩
theorem Wb{l:List PyData}(h:l.length=4):∃a b c d,l=[a,b,c,d]:=by
 match l,h with
 |[a,b,c,d],_=>exact⟨a,b,c,d,rfl⟩
def fmB:Nat->List PyData->Bool
 |0=>q4 fun a b c d=>(shB c&&shB d)&&(wB 1 12 a&&wB 1 12 b)
 |1=>q4 fun a b c d=>(shB c&&shB d)&&(wB (-12) 12 a&&wB (-12) 12 b)
 |2=>q3 fun t c d=>txB alW 0 6 t&&(shB c&&shB d)
 |3=>q3 fun t c d=>stB t&&(shB c&&shB d)
 |5=>q1 shB
 |6=>q4 fun a b c d=>(wB (-60) 60 c&&wB (-60) 60 d)&&(wB 1 16 a&&wB 1 16 b)
 |7=>q2 fun a b=>wB 0 3 a&&J9 "bool" b
 |8=>q4 fun a b c d=>(wB 1 3 a&&wB 1 3 b)&&(wB (-20) 20 c&&wB (-20) 20 d)
 |_=>fun l=>l.isEmpty
theorem eO{l:List PyData}{n:Nat}(h:l.length≠n):fNe (.int (l.length:Nat)) (.int (n:Nat))=some (.bool true):=by
 rw[neI,decide_eq_false (by omega)];rfl
theorem bW{l:List PyData}{n:Nat}(h:l.length≠n):fEq (.int (l.length:Nat)) (.int (n:Nat))=some (.bool false):=by
 rw[eqI,decide_eq_false (by omega)]
theorem eqLen'{l:List PyData}{n:Nat}:fEq (.int (l.length:Nat)) (.int (n:Nat))=some (.bool (decide (l.length=n))):=by
 rw[eqI]
 exact congrArg (fun b=>some (PyData.bool b)) (decide_eq_decide.mpr ⟨fun z=>by omega,fun z=>by omega⟩)
def fu:DX:=A1 Bz (AA (AF 0) AI)
theorem Nq(l:List PyData)(τ:DS):fu (some (.d (.tuple l))::τ)=some (.int (l.length:Nat),some (.d (.tuple l))::τ):=GN (d:=.tuple l) (τ1:=some (.d (.tuple l))::τ) rfl (PQ l)
theorem T1{l:List PyData}{n:Nat}{c:DT}{b:DB}(h:l.length≠n):Bo false 1 0 (Aa (BA (CH (AQ (dOp fNe (A1 Bz (AA (AF 0) AI)) (dC (.int (n:Nat))))) c) (An (dC (.bool false))) BO) b) [.d (.tuple l)]=some (.bool false,[.d (.tuple l)]) :=
 Ag (τ:=[some (.d (.tuple l))]) (ifT (orB (p:=true) (q:=true) (tst (op2 (x:=.int (l.length:Nat)) (y:=.int (n:Nat)) (τ1:=[some (.d (.tuple l))]) (Nq l []) rfl (eO h))) fun z=>by cases z)) rfl rfl
theorem T2{l:List PyData}{n:Nat}{b:DX}(h:l.length≠n):Bo false 1 0 (An (Co (dOp fEq (A1 Bz (AA (AF 0) AI)) (dC (.int (n:Nat)))) b)) [.d (.tuple l)]=some (.bool false,[.d (.tuple l)]) :=
 Ag (τ:=[some (.d (.tuple l))]) (BB (Hk (p:=false) (q:=false) (op2 (x:=.int (l.length:Nat)) (y:=.int (n:Nat)) (τ1:=[some (.d (.tuple l))]) (Nq l []) rfl (bW h)) fun z=>by cases z)) rfl rfl
theorem nn(x y:Bool):(!(false||(!x||!y)))=(x&&y):=by cases x<;>cases y<;>rfl
theorem nn1(x:Bool):(!(false||!x))=x:=by cases x<;>rfl
theorem gP{i:Nat}(hi:i<10){l:List PyData}(hl:∀d∈l,OJ d/\VR d):GF i [.d (.tuple l)]=some (.bool (fmB i l),[.d (.tuple l)]):=by
 match i,hi with
 |0,_ =>
  show Eh _=some (.bool (q4 _ l),_)
  by_cases h:l.length=4
  ·obtain⟨a,b,c,d,rfl⟩:=Wb h
   let τ:DS:=[some (.d (.tuple [a,b,c,d]))]
   show _=some (PyData.bool ((shB c&&shB d)&&(wB 1 12 a&&wB 1 12 b)),_)
   rw[<- nn1 (shB c&&shB d)]
   unfold Eh
   exact Ag (τ:=τ) (ifB (orB (p:=false) rfl fun _=>E9 (tst (AX (ds:=[c,d]) (τ1:=τ) rfl rfl (P5 c d)))) fun _=>BB (Hk (AX (ds:=[a,.int 1,.int 12]) (τ1:=τ) rfl rfl (FI a 1 12)) fun _=>AX (ds:=[b,.int 1,.int 12]) (τ1:=τ) rfl rfl (FI b 1 12))) rfl rfl
  ·rw[PJ h];unfold Eh;exact T1 (n:=4) h
 |1,_ =>
  show FU _=some (.bool (q4 _ l),_)
  by_cases h:l.length=4
  ·obtain⟨a,b,c,d,rfl⟩:=Wb h
   let τ:DS:=[some (.d (.tuple [a,b,c,d]))]
   show _=some (PyData.bool ((shB c&&shB d)&&(wB (-12) 12 a&&wB (-12) 12 b)),_)
   rw[<- nn1 (shB c&&shB d)]
   unfold FU
   exact Ag (τ:=τ) (ifB (orB (p:=false) rfl fun _=>E9 (tst (AX (ds:=[c,d]) (τ1:=τ) rfl rfl (P5 c d)))) fun _=>BB (Hk (AX (ds:=[a,.int (-12),.int 12]) (τ1:=τ) rfl rfl (FI a (-12) 12)) fun _=>AX (ds:=[b,.int (-12),.int 12]) (τ1:=τ) rfl rfl (FI b (-12) 12))) rfl rfl
  ·rw[PJ h];unfold FU;exact T1 (n:=4) h
 |2,_ =>
  show FR _=some (.bool (q3 _ l),_)
  by_cases h:l.length=3
  ·obtain⟨t,c,d,rfl⟩:=YA h
   let τ:DS:=[some (.d (.tuple [t,c,d]))]
   show _=some (PyData.bool (txB alW 0 6 t&&(shB c&&shB d)),_)
   unfold FR
   exact Ag (τ:=τ) (BB ((Fd (τ1:=τ) rfl).trans (Hk (AX (ds:=[t]) (τ1:=τ) rfl rfl (VS (hl t (List.mem_cons_self ..)).1)) fun _=>AX (ds:=[c,d]) (τ1:=τ) rfl rfl (P5 c d)))) rfl rfl
  ·rw[YK h];unfold FR;exact T2 (n:=3) h
 |3,_ =>
  show DC _=some (.bool (q3 _ l),_)
  by_cases h:l.length=3
  ·obtain⟨t,c,d,rfl⟩:=YA h
   let τ:DS:=[some (.d (.tuple [t,c,d]))]
   show _=some (PyData.bool (stB t&&(shB c&&shB d)),_)
   unfold DC
   exact Ag (τ:=τ) (BB ((Fd (τ1:=τ) rfl).trans (Hk (AX (ds:=[t]) (τ1:=τ) rfl rfl (Y5 (hl t (List.mem_cons_self ..)).2)) fun _=>AX (ds:=[c,d]) (τ1:=τ) rfl rfl (P5 c d)))) rfl rfl
  ·rw[YK h];unfold DC;exact T2 (n:=3) h
 |4,_ =>
  show D0 _=some (.bool l.isEmpty,_)
  unfold D0
  refine Ag (τ:=[some (.d (.tuple l))]) (BB (op2 (x:=.int (l.length:Nat)) (y:=.int (0:Nat)) (τ1:=[some (.d (.tuple l))]) (Nq l []) rfl (eqLen'.trans ?_))) rfl rfl
  cases l<;>rfl
 |5,_ =>
  show Ei _=some (.bool (q1 _ l),_)
  by_cases h:l.length=1
  ·obtain⟨a,rfl⟩:=one h
   let τ:DS:=[some (.d (.tuple [a]))]
   show _=some (PyData.bool (shB a),_)
   unfold Ei
   exact Ag (τ:=τ) (BB ((Fd (τ1:=τ) rfl).trans (AX (ds:=[a]) (τ1:=τ) rfl rfl (O7 a)))) rfl rfl
  ·rw[eK h];unfold Ei;exact T2 (n:=1) h
 |6,_ =>
  show Dh _=some (.bool (q4 _ l),_)
  by_cases h:l.length=4
  ·obtain⟨a,b,c,d,rfl⟩:=Wb h
   let τ:DS:=[some (.d (.tuple [a,b,c,d]))]
   show _=some (PyData.bool ((wB (-60) 60 c&&wB (-60) 60 d)&&(wB 1 16 a&&wB 1 16 b)),_)
   rw[<- nn (wB (-60) 60 c) (wB (-60) 60 d)]
   unfold Dh
   exact Ag (τ:=τ) (ifB (orB (p:=false) rfl fun _=>orB (E9 (tst (AX (ds:=[c]) (τ1:=τ) rfl rfl (P2 c)))) fun _=>E9 (tst (AX (ds:=[d]) (τ1:=τ) rfl rfl (P2 d)))) fun _=>BB (Hk (AX (ds:=[a,.int 1,.int 16]) (τ1:=τ) rfl rfl (FI a 1 16)) fun _=>AX (ds:=[b,.int 1,.int 16]) (τ1:=τ) rfl rfl (FI b 1 16))) rfl rfl
  ·rw[PJ h];unfold Dh;exact T1 (n:=4) h
 |7,_ =>
  show FT _=some (.bool (q2 _ l),_)
  by_cases h:l.length=2
  ·obtain⟨a,b,rfl⟩:=two h
   let τ:DS:=[some (.d (.tuple [a,b]))]
   show _=some (PyData.bool (wB 0 3 a&&J9 "bool" b),_)
   unfold FT
   exact Ag (τ:=τ) (BB ((Fd (τ1:=τ) rfl).trans (Hk (AX (ds:=[a,.int 0,.int 3]) (τ1:=τ) rfl rfl (FI a 0 3)) fun _=>AX (ds:=[b]) (τ1:=τ) (ls:=[.d b]) rfl rfl rfl))) rfl rfl
  ·rw[eJ h];unfold FT;exact T2 (n:=2) h
 |8,_ =>
  show Di _=some (.bool (q4 _ l),_)
  by_cases h:l.length=4
  ·obtain⟨a,b,c,d,rfl⟩:=Wb h
   let τ:DS:=[some (.d (.tuple [a,b,c,d]))]
   show _=some (PyData.bool ((wB 1 3 a&&wB 1 3 b)&&(wB (-20) 20 c&&wB (-20) 20 d)),_)
   rw[<- nn (wB 1 3 a) (wB 1 3 b)]
   unfold Di
   exact Ag (τ:=τ) (ifB (orB (p:=false) rfl fun _=>orB (E9 (tst (AX (ds:=[a,.int 1,.int 3]) (τ1:=τ) rfl rfl (FI a 1 3)))) fun _=>E9 (tst (AX (ds:=[b,.int 1,.int 3]) (τ1:=τ) rfl rfl (FI b 1 3)))) fun _=>BB (Hk (AX (ds:=[c,.int (-20),.int 20]) (τ1:=τ) rfl rfl (FI c (-20) 20)) fun _=>AX (ds:=[d,.int (-20),.int 20]) (τ1:=τ) rfl rfl (FI d (-20) 20))) rfl rfl
  ·rw[PJ h];unfold Di;exact T1 (n:=4) h
 |9,_ =>
  show D0 _=some (.bool l.isEmpty,_)
  unfold D0
  refine Ag (τ:=[some (.d (.tuple l))]) (BB (op2 (x:=.int (l.length:Nat)) (y:=.int (0:Nat)) (τ1:=[some (.d (.tuple l))]) (Nq l []) rfl (eqLen'.trans ?_))) rfl rfl
  cases l<;>rfl
theorem YB{k:Str}:∀{l:List Nat},(∀j∈l,(kS j).1≠k)->FJ (l.map fun j=>((kS j).1,GF j)) k=none
 |[],_=>rfl
 |j::l,h=>by
  rw[List.map_cons,FJ,if_neg (h j (List.mem_cons_self ..))]
  exact YB fun i hi=>h i (List.mem_cons_of_mem _ hi)
theorem gS{i:Nat}(hi:i<10){l:List PyData}(hl:∀d∈l,OJ d/\VR d):Es [.d (eT (kS i)),.d (.tuple l)]=some (.bool (fmB i l),[.d (eT (kS i)),.d (.tuple l)]):=by
 let τ:DS:=[some (.d (eT (kS i))),some (.d (.tuple l))]
 unfold Es
 refine Ag (τ:=τ) (BB ?_) rfl rfl
 have c2:Xw C0 (AF 0) τ=some (.bool true,τ):=by
  show some (PyData.bool (FJ C0 (kS i).1).isSome,τ)=_
  rw[NO hi];rfl
 have c4:O5 C0 (AF 0) (AA (AF 1) AI) τ=some (.bool (fmB i l),τ):=by
  show((FJ C0 (kS i).1).bind fun G=>AU G (AA (AF 1) AI) τ)=_
  rw[NO hi]
  exact AX (G:=GF i) (a:=AA (AF 1) AI) (τ:=τ) (τ1:=τ) (rs:=[.d (.tuple l)]) (ds:=[.tuple l]) rfl rfl (gP hi hl)
 exact(Fd (τ1:=τ) rfl).trans ((Fd c2).trans ((Fd (τ1:=τ) rfl).trans c4))
theorem jS:∀j∈[0,1,2,3,4,5,6,7,8,9],j<10:=by decide
theorem dF{k:Tx}(hk:∀i,i<10->kS i≠k)(l:List PyData):Es [.d (eT k),.d (.tuple l)]=some (.bool false,[.d (eT k),.d (.tuple l)]):=by
 let τ:DS:=[some (.d (eT k)),some (.d (.tuple l))]
 unfold Es
 refine Ag (τ:=τ) (BB ?_) rfl rfl
 have c2:Xw C0 (AF 0) τ=some (.bool false,τ):=by
  show some (PyData.bool (FJ C0 k.1).isSome,τ)=_
  rw[show FJ C0 k.1=none from YB (l:=[0,1,2,3,4,5,6,7,8,9]) fun j hj z=>hk j (jS j hj) (Subtype.ext z)];rfl
 exact(Fd (τ1:=τ) rfl).trans (Hk (p:=false) (q:=false) c2 fun z=>by cases z)
theorem skT{c:DT}{a b:DB}{τ:DS}(h:c τ=some (false,τ)):Aa (BA c a BO) b τ=b τ:=AR ((Dl h).trans rfl)
theorem tkT{c:DT}{a b:DB}{τ τ':DS}{d:PyData}(h:c τ=some (true,τ))(k:a τ=some (.rt d τ')):Aa (BA c a BO) b τ=some (.rt d τ'):=by
 unfold Aa
 rw[JA h,k];rfl
theorem kq(k:Tx)(j:Nat)(τ:DS):AQ (dOp fEq (AF 0) (dC (eT (kS j)))) (some (.d (eT k))::τ)=some (decide (k=kS j),some (.d (eT k))::τ) :=
 tst (op2 (x:=eT k) (y:=eT (kS j)) (τ1:=some (.d (eT k))::τ) rfl rfl (encT.fEq k (kS j)))
theorem bt{l:List PyData}{n:Nat}(h:l.length≠n):B4 [.d (.tuple l),.d (.int (n:Nat))]=some (.bool false,[.d (.tuple l),.d (.int (n:Nat))]):=by
 unfold B4
 exact Ag (τ:=[some (.d (.tuple l)),some (.d (.int (n:Nat)))]) (BB (Hk (p:=false) (q:=false) (op2 (x:=.int (l.length:Nat)) (y:=.int (n:Nat)) (τ1:=[some (.d (.tuple l)),some (.d (.int (n:Nat)))]) (Nq l [some (.d (.int (n:Nat)))]) rfl (bW h)) fun z=>by cases z)) rfl rfl
theorem Yw(t c d:PyData):B4 [.d (.tuple [t,c,d]),.d (.int 3)]=some (.bool (shB c&&shB d),[.d (.tuple [t,c,d]),.d (.int 3)]):=by
 let τ:DS:=[some (.d (.tuple [t,c,d])),some (.d (.int 3))]
 unfold B4
 exact Ag (τ:=τ) (BB ((Fd (τ1:=τ) rfl).trans (Hk (AX (ds:=[c]) (τ1:=τ) rfl rfl (QX c)) fun _=>AX (ds:=[d]) (τ1:=τ) rfl rfl (QX d)))) rfl rfl
theorem dR(a b c d:PyData):B4 [.d (.tuple [a,b,c,d]),.d (.int 4)]=some (.bool (shB c&&shB d),[.d (.tuple [a,b,c,d]),.d (.int 4)]):=by
 let τ:DS:=[some (.d (.tuple [a,b,c,d])),some (.d (.int 4))]
 unfold B4
 exact Ag (τ:=τ) (BB ((Fd (τ1:=τ) rfl).trans (Hk (AX (ds:=[c]) (τ1:=τ) rfl rfl (QX c)) fun _=>AX (ds:=[d]) (τ1:=τ) rfl rfl (QX d)))) rfl rfl
def WS:List (PyData×PyData):=[(.str "plate",(.tuple [(.int 1),(.int 12)])),(.str "band",(.tuple [(.int (-12)),(.int 12)])),(.str "window",(.tuple [(.int 1),(.int 16)])),(.str "tiles",(.tuple [(.int 1),(.int 3)]))]
def Sv:DB:=(Aa (Wq 2 2 WS) (Aa (BA (CH (AQ (ND true (AF 0) 2)) (AQ (dOp fNe (A1 Bz (AA (AF 1) AI)) (dC (.int 4))))) (An (dC (.bool false))) BO) (Aa (Ah (RI 2 (AF 0)) (dGT (BH (dN 3) (BH (dN 4) Cu)))) (Aa (BA (CH (BP (AQ (AU A2 (AA (dOp Am (AF 1) (dC (.int 0))) (AA (AF 3) (AA (AF 4) AI)))))) (BP (AQ (AU A2 (AA (dOp Am (AF 1) (dC (.int 1))) (AA (AF 3) (AA (AF 4) AI))))))) (An (dC (.bool false))) BO) (Aa (BA (CH (AQ (dOp fEq (AF 0) (dC (.str "plate")))) (AQ (dOp fEq (AF 0) (dC (.str "band"))))) (An (AU B4 (AA (AF 1) (AA (dC (.int 4)) AI)))) BO) (Aa (Ah (PZ [(.str "window",(.int 60)),(.str "tiles",(.int 20))] (AF 0)) (dN 5)) (An (Co (AU A2 (AA (dOp Am (AF 1) (dC (.int 2))) (AA (dUn E2 (AF 5)) (AA (AF 5) AI)))) (AU A2 (AA (dOp Am (AF 1) (dC (.int 3))) (AA (dUn E2 (AF 5)) (AA (AF 5) AI))))))))))))
def st0(k:Tx)(l:List PyData):DS:=[some (.d (eT k)),some (.d (.tuple l)),none,none,none,none]
def stG(k:Tx)(l:List PyData):DS:=[some (.d (eT k)),some (.d (.tuple l)),some (.g (.dict WS)),none,none,none]
theorem T3(k:Tx)(l:List PyData):Wq 2 2 WS (st0 k l)=some (.nx (stG k l)):=rfl
theorem cg(k:Tx)(l:List PyData):A1 Bz (AA (AF 1) AI) (stG k l)=some (.int (l.length:Nat),stG k l):=GN (d:=.tuple l) (τ1:=stG k l) rfl (PQ l)
theorem cE{k:Tx}(hk:∀i,i<10->kS i≠k)(l:List PyData):∃τ,Sv (st0 k l)=some (.rt (.bool false) τ)/\τ=stG k l:=by
 refine⟨_,?_,rfl⟩
 have g:KC WS k.1=none:=by
  have n:∀i,i<10->(kS i).1≠k.1:=fun i hi z=>hk i hi (Subtype.ext z)
  show(if _ then _ else if _ then _ else if _ then _ else if _ then _ else none)=none
  rw[if_neg (show ¬("plate":Str)=k.1 from n 0 (by decide)),if_neg (show ¬("band":Str)=k.1 from n 1 (by decide)),if_neg (show ¬("window":Str)=k.1 from n 6 (by decide)),if_neg (show ¬("tiles":Str)=k.1 from n 8 (by decide))]
 have c:ND true (AF 0) 2 (stG k l)=some (.bool true,stG k l):=by
  show some (PyData.bool (true != (KC WS k.1).isSome),stG k l)=_
  rw[g];rfl
 exact(AR (T3 k l)).trans (ifT (orB (p:=true) (q:=true) (tst c) fun z=>by cases z))
theorem NQ{k:Tx}{l:List PyData}(h:l.length≠4):∃τ,Sv (st0 k l)=some (.rt (.bool false) τ)/\τ=stG k l:=by
 refine⟨_,?_,rfl⟩
 have c:ND true (AF 0) 2 (stG k l)=some (.bool (true != (KC WS k.1).isSome),stG k l):=rfl
 have e:CH (AQ (ND true (AF 0) 2)) (AQ (dOp fNe (A1 Bz (AA (AF 1) AI)) (dC (.int 4)))) (stG k l)=some (true,stG k l):=by
  have:CH (AQ (ND true (AF 0) 2)) (AQ (dOp fNe (A1 Bz (AA (AF 1) AI)) (dC (.int 4)))) (stG k l)=some ((true != (KC WS k.1).isSome)||true,stG k l):=orB (q:=true) (tst c) fun _=>tst (op2 (x:=.int (l.length:Nat)) (y:=.int (4:Nat)) (τ1:=stG k l) (cg k l) rfl (eO h))
  rw[Bool.or_true]at this
  exact this
 exact(AR (T3 k l)).trans (ifT e)
def stW(i:Nat)(l:List PyData)(lo hi:Int)(o:Option L):DS:=[some (.d (eT (kS i))),some (.d (.tuple l)),some (.g (.dict WS)),some (.d (.int lo)),some (.d (.int hi)),o]
theorem win(i:Nat)(a b c d:PyData)(lo hi:Int)(o:Option L):CH (BP (AQ (AU A2 (AA (dOp Am (AF 1) (dC (.int 0))) (AA (AF 3) (AA (AF 4) AI)))))) (BP (AQ (AU A2 (AA (dOp Am (AF 1) (dC (.int 1))) (AA (AF 3) (AA (AF 4) AI)))))) (stW i [a,b,c,d] lo hi o)=some (!wB lo hi a||!wB lo hi b,stW i [a,b,c,d] lo hi o) :=
 orB (E9 (tst (AX (ds:=[a,.int lo,.int hi]) (τ1:=stW i [a,b,c,d] lo hi o) rfl rfl (GD a lo hi)))) fun _=>E9 (tst (AX (ds:=[b,.int lo,.int hi]) (τ1:=stW i [a,b,c,d] lo hi o) rfl rfl (GD b lo hi)))
theorem orN{x y:Bool}(h:(!x||!y)=false):x=true/\y=true:=by cases x<;>cases y<;>first|exact⟨rfl,rfl⟩|cases h
theorem orY{x y:Bool}(h:(!x||!y)=true):(x&&y)=false:=by cases x<;>cases y<;>first|rfl|cases h
theorem QR{i:Nat}{a b c d:PyData}{lo hi:Int}(hi2:i<2)(g:RI 2 (AF 0) (stG (kS i) [a,b,c,d])=some (.tuple [.int lo,.int hi],stG (kS i) [a,b,c,d]))(gi:ND true (AF 0) 2 (stG (kS i) [a,b,c,d])=some (.bool false,stG (kS i) [a,b,c,d])) :
  ∃τ,Sv (st0 (kS i) [a,b,c,d])=some (.rt (.bool ((shB c&&shB d)&&(wB lo hi a&&wB lo hi b))) τ)/\fin [.d (eT (kS i)),.d (.tuple [a,b,c,d])] τ=some [.d (eT (kS i)),.d (.tuple [a,b,c,d])]:=by
 let W:=stW i [a,b,c,d] lo hi none
 have z1:Sv (st0 (kS i) [a,b,c,d])=(Aa (BA (CH (BP (AQ (AU A2 (AA (dOp Am (AF 1) (dC (.int 0))) (AA (AF 3) (AA (AF 4) AI)))))) (BP (AQ (AU A2 (AA (dOp Am (AF 1) (dC (.int 1))) (AA (AF 3) (AA (AF 4) AI))))))) (An (dC (.bool false))) BO) (Aa (BA (CH (AQ (dOp fEq (AF 0) (dC (.str "plate")))) (AQ (dOp fEq (AF 0) (dC (.str "band"))))) (An (AU B4 (AA (AF 1) (AA (dC (.int 4)) AI)))) BO) (Aa (Ah (PZ [(.str "window",(.int 60)),(.str "tiles",(.int 20))] (AF 0)) (dN 5)) (An (Co (AU A2 (AA (dOp Am (AF 1) (dC (.int 2))) (AA (dUn E2 (AF 5)) (AA (AF 5) AI)))) (AU A2 (AA (dOp Am (AF 1) (dC (.int 3))) (AA (dUn E2 (AF 5)) (AA (AF 5) AI))))))))) W :=
  (AR (T3 (kS i) [a,b,c,d])).trans ((ifF (orB (p:=false) (q:=false) (tst gi) fun _=>rfl)).trans (AR (Bt g rfl)))
 rw[z1]
 by_cases h:(!wB lo hi a||!wB lo hi b)=true
 ·have w:=win i a b c d lo hi none
  rw[h]at w
  rw[orY h,Bool.and_false]
  exact⟨W,ifT w,rfl⟩
 ·have h':(!wB lo hi a||!wB lo hi b)=false:=by simpa using h
  have w:=win i a b c d lo hi none
  rw[h']at w
  obtain⟨e1,e2⟩:=orN h'
  rw[e1,e2,Bool.and_self,Bool.and_true]
  refine⟨W,(ifF w).trans (tkT (τ':=W) ?_ (BB (AX (ds:=[.tuple [a,b,c,d],.int 4]) (τ1:=W) rfl rfl (dR a b c d)))),rfl⟩
  match i,hi2 with
  |0,_=>exact orB (p:=true) (q:=true) ((kq (kS 0) 0 _).trans (by rw[decide_eq_true rfl];rfl)) fun z=>by cases z
  |1,_=>exact orB (p:=false) (q:=true) ((kq (kS 1) 0 _).trans (by rw[decide_eq_false ∅];rfl)) fun _=>(kq (kS 1) 1 _).trans (by rw[decide_eq_true rfl];rfl)
theorem Vg{i:Nat}{a b c d:PyData}{lo hi far:Int}(hi6:i=6\/i=8)(g:RI 2 (AF 0) (stG (kS i) [a,b,c,d])=some (.tuple [.int lo,.int hi],stG (kS i) [a,b,c,d]))(gi:ND true (AF 0) 2 (stG (kS i) [a,b,c,d])=some (.bool false,stG (kS i) [a,b,c,d]))
  (gf:PZ [(.str "window",(.int 60)),(.str "tiles",(.int 20))] (AF 0) (stW i [a,b,c,d] lo hi none)=some (.int far,stW i [a,b,c,d] lo hi none)) :
  ∃τ,Sv (st0 (kS i) [a,b,c,d])=some (.rt (.bool ((wB lo hi a&&wB lo hi b)&&(wB (-far) far c&&wB (-far) far d))) τ)/\fin [.d (eT (kS i)),.d (.tuple [a,b,c,d])] τ=some [.d (eT (kS i)),.d (.tuple [a,b,c,d])]:=by
 let W:=stW i [a,b,c,d] lo hi none
 let W2:=stW i [a,b,c,d] lo hi (some (.d (.int far)))
 have z1:Sv (st0 (kS i) [a,b,c,d])=(Aa (BA (CH (BP (AQ (AU A2 (AA (dOp Am (AF 1) (dC (.int 0))) (AA (AF 3) (AA (AF 4) AI)))))) (BP (AQ (AU A2 (AA (dOp Am (AF 1) (dC (.int 1))) (AA (AF 3) (AA (AF 4) AI))))))) (An (dC (.bool false))) BO) (Aa (BA (CH (AQ (dOp fEq (AF 0) (dC (.str "plate")))) (AQ (dOp fEq (AF 0) (dC (.str "band"))))) (An (AU B4 (AA (AF 1) (AA (dC (.int 4)) AI)))) BO) (Aa (Ah (PZ [(.str "window",(.int 60)),(.str "tiles",(.int 20))] (AF 0)) (dN 5)) (An (Co (AU A2 (AA (dOp Am (AF 1) (dC (.int 2))) (AA (dUn E2 (AF 5)) (AA (AF 5) AI)))) (AU A2 (AA (dOp Am (AF 1) (dC (.int 3))) (AA (dUn E2 (AF 5)) (AA (AF 5) AI))))))))) W :=
  (AR (T3 (kS i) [a,b,c,d])).trans ((ifF (orB (p:=false) (q:=false) (tst gi) fun _=>rfl)).trans (AR (Bt g rfl)))
 rw[z1]
 by_cases h:(!wB lo hi a||!wB lo hi b)=true
 ·have w:=win i a b c d lo hi none
  rw[h]at w
  rw[orY h,Bool.false_and]
  exact⟨W,ifT w,rfl⟩
 ·have h':(!wB lo hi a||!wB lo hi b)=false:=by simpa using h
  have w:=win i a b c d lo hi none
  rw[h']at w
  obtain⟨e1,e2⟩:=orN h'
  rw[e1,e2,Bool.and_self,Bool.true_and]
  have k0:CH (AQ (dOp fEq (AF 0) (dC (.str "plate")))) (AQ (dOp fEq (AF 0) (dC (.str "band")))) W=some (false,W):=by
   rcases hi6 with rfl|rfl
   ·exact orB (p:=false) (q:=false) ((kq (kS 6) 0 _).trans (by rw[decide_eq_false ∅];rfl)) fun _=>(kq (kS 6) 1 _).trans (by rw[decide_eq_false ∅];rfl)
   ·exact orB (p:=false) (q:=false) ((kq (kS 8) 0 _).trans (by rw[decide_eq_false ∅];rfl)) fun _=>(kq (kS 8) 1 _).trans (by rw[decide_eq_false ∅];rfl)
  refine⟨W2,(ifF w).trans ((skT k0).trans ((AR (τ1:=W2) (Bt gf rfl)).trans (BB ?_))),rfl⟩
  exact Hk (AX (ds:=[c,.int (-far),.int far]) (τ1:=W2) rfl rfl (GD c (-far) far)) fun _=>AX (ds:=[d,.int (-far),.int far]) (τ1:=W2) rfl rfl (GD d (-far) far)
theorem dK{i j:Nat}(hi:i<10)(hj:j<10):decide (kS i=kS j)=decide (i=j):=decide_eq_decide.mpr ⟨Oc hi hj,fun z=>by rw[z]⟩
theorem kqn{i j:Nat}(hi:i<10)(hj:j<10)(τ:DS):AQ (dOp fEq (AF 0) (dC (eT (kS j)))) (some (.d (eT (kS i)))::τ)=some (decide (i=j),some (.d (eT (kS i)))::τ):=by
 rw[kq,dK hi hj]
theorem eqE{l:List PyData}(h:okD (.tuple l)=true):fEq (.tuple l) (.tuple [])=some (.bool l.isEmpty):=by
 unfold fEq
 rw[h]
 cases l<;>rfl
theorem jT(k:Tx)(l:List PyData):A1 Bz (AA (AF 1) AI) (st0 k l)=some (.int (l.length:Nat),st0 k l):=GN (d:=.tuple l) (τ1:=st0 k l) rfl (PQ l)
theorem aD{k:Tx}{l:List PyData}{n:Nat}{b:DX}(h:l.length≠n):Co (dOp fEq (A1 Bz (AA (AF 1) AI)) (dC (.int (n:Nat)))) b (st0 k l)=some (.bool false,st0 k l) :=
 Hk (p:=false) (q:=false) (op2 (x:=.int (l.length:Nat)) (y:=.int (n:Nat)) (τ1:=st0 k l) (jT k l) rfl (bW h)) fun z=>by cases z
theorem aZ{k:Tx}{l:List PyData}(b:DX)(h:l.length≠3):Co (AU B4 (AA (AF 1) (AA (dC (.int 3)) AI))) b (st0 k l)=some (.bool false,st0 k l) :=
 Hk (p:=false) (q:=false) (AX (ds:=[.tuple l,.int (3:Nat)]) (τ1:=st0 k l) rfl rfl (bt h)) fun z=>by cases z
theorem dS{i:Nat}(hi:i<10){l:List PyData}(hl:∀d∈l,OJ d/\VR d)(ok:okD (.tuple l)=true):EV [.d (eT (kS i)),.d (.tuple l)]=some (.bool (fmB i l),[.d (eT (kS i)),.d (.tuple l)]):=by
 have c1:CH (AQ (dOp fEq (AF 0) (dC (.str "group")))) (AQ (dOp fEq (AF 0) (dC (.str "mask")))) (st0 (kS i) l)=some (decide (i=4)||decide (i=9),st0 (kS i) l):=orB (kqn (j:=4) hi (by decide) _) fun _=>kqn (j:=9) hi (by decide) _
 have c2:AQ (dOp fEq (AF 0) (dC (.str "glass"))) (st0 (kS i) l)=some (decide (i=5),st0 (kS i) l):=kqn (j:=5) hi (by decide) _
 have c3:AQ (dOp fEq (AF 0) (dC (.str "turn"))) (st0 (kS i) l)=some (decide (i=7),st0 (kS i) l):=kqn (j:=7) hi (by decide) _
 have c4:AQ (dOp fEq (AF 0) (dC (.str "word"))) (st0 (kS i) l)=some (decide (i=2),st0 (kS i) l):=kqn (j:=2) hi (by decide) _
 have c5:AQ (dOp fEq (AF 0) (dC (.str "stencil"))) (st0 (kS i) l)=some (decide (i=3),st0 (kS i) l):=kqn (j:=3) hi (by decide) _
 unfold EV
 match i,hi with
 |4,_=>exact Ag (τ:=(st0 (kS 4) l)) (tkT c1 (BB (op2 (x:=.tuple l) (y:=.tuple []) (τ1:=(st0 (kS 4) l)) rfl rfl (eqE ok)))) rfl rfl
 |9,_=>exact Ag (τ:=(st0 (kS 9) l)) (tkT c1 (BB (op2 (x:=.tuple l) (y:=.tuple []) (τ1:=(st0 (kS 9) l)) rfl rfl (eqE ok)))) rfl rfl
 |5,_ =>
  refine Ag (τ:=(st0 (kS 5) l)) ((skT c1).trans (tkT c2 (BB ?_))) rfl rfl
  show _=some (PyData.bool (q1 _ l),_)
  by_cases h:l.length=1
  ·obtain⟨a,rfl⟩:=one h
   exact(Fd (τ1:=(st0 (kS 5) [a])) rfl).trans (AX (ds:=[a]) (τ1:=(st0 (kS 5) [a])) rfl rfl (QX a))
  ·rw[eK h];exact aD (n:=1) h
 |7,_ =>
  refine Ag (τ:=(st0 (kS 7) l)) ((skT c1).trans ((skT c2).trans (tkT c3 (BB ?_)))) rfl rfl
  show _=some (PyData.bool (q2 _ l),_)
  by_cases h:l.length=2
  ·obtain⟨a,b,rfl⟩:=two h
   exact(Fd (τ1:=(st0 (kS 7) [a,b])) rfl).trans (Hk (AX (ds:=[a,.int 0,.int 3]) (τ1:=(st0 (kS 7) [a,b])) rfl rfl (GD a 0 3)) fun _=>rfl)
  ·rw[eJ h];exact aD (n:=2) h
 |2,_ =>
  refine Ag (τ:=(st0 (kS 2) l)) ((skT c1).trans ((skT c2).trans ((skT c3).trans (tkT c4 (BB ?_))))) rfl rfl
  show _=some (PyData.bool (q3 _ l),_)
  by_cases h:l.length=3
  ·obtain⟨t,c,d,rfl⟩:=YA h
   show _=some (PyData.bool (txB alW 0 6 t&&(shB c&&shB d)),_)
   rw[Bool.and_comm]
   exact Hk (AX (ds:=[.tuple [t,c,d],.int 3]) (τ1:=(st0 (kS 2) [t,c,d])) rfl rfl (Yw t c d)) fun _=>AX (rs:=[.d t,.d (.str alW),.d (.int 0),.d (.int 6)]) (ds:=[t,.str alW,.int 0,.int 6]) (τ1:=(st0 (kS 2) [t,c,d])) rfl rfl (cU (hl t (List.mem_cons_self ..)).1 alW 0 6)
  ·rw[YK h];exact aZ _ h
 |3,_ =>
  refine Ag (τ:=(st0 (kS 3) l)) ((skT c1).trans ((skT c2).trans ((skT c3).trans ((skT c4).trans (tkT c5 (BB ?_)))))) rfl rfl
  show _=some (PyData.bool (q3 _ l),_)
  by_cases h:l.length=3
  ·obtain⟨t,c,d,rfl⟩:=YA h
   show _=some (PyData.bool (stB t&&(shB c&&shB d)),_)
   rw[Bool.and_comm]
   exact Hk (AX (ds:=[.tuple [t,c,d],.int 3]) (τ1:=(st0 (kS 3) [t,c,d])) rfl rfl (Yw t c d)) fun _=>AX (ds:=[t]) (τ1:=(st0 (kS 3) [t,c,d])) rfl rfl (dQ (hl t (List.mem_cons_self ..)).2)
  ·rw[YK h];exact aZ _ h
 |0,_ =>
  show _=some (PyData.bool (q4 _ l),_)
  by_cases h:l.length=4
  ·obtain⟨a,b,c,d,rfl⟩:=Wb h
   obtain⟨τ2,e,f⟩:=QR (i:=0) (a:=a) (b:=b) (c:=c) (d:=d) (lo:=1) (hi:=12) (by decide) rfl rfl
   exact Ag (τ:=τ2) ((skT c1).trans ((skT c2).trans ((skT c3).trans ((skT c4).trans ((skT c5).trans e))))) rfl f
  ·obtain⟨τ2,e,rfl⟩:=NQ (k:=kS 0) h
   rw[PJ h]
   exact Ag (τ:=stG (kS 0) l) ((skT c1).trans ((skT c2).trans ((skT c3).trans ((skT c4).trans ((skT c5).trans e))))) rfl rfl
 |1,_ =>
  show _=some (PyData.bool (q4 _ l),_)
  by_cases h:l.length=4
  ·obtain⟨a,b,c,d,rfl⟩:=Wb h
   obtain⟨τ2,e,f⟩:=QR (i:=1) (a:=a) (b:=b) (c:=c) (d:=d) (lo:=-12) (hi:=12) (by decide) rfl rfl
   exact Ag (τ:=τ2) ((skT c1).trans ((skT c2).trans ((skT c3).trans ((skT c4).trans ((skT c5).trans e))))) rfl f
  ·obtain⟨τ2,e,rfl⟩:=NQ (k:=kS 1) h
   rw[PJ h]
   exact Ag (τ:=stG (kS 1) l) ((skT c1).trans ((skT c2).trans ((skT c3).trans ((skT c4).trans ((skT c5).trans e))))) rfl rfl
 |6,_ =>
  show _=some (PyData.bool (q4 _ l),_)
  by_cases h:l.length=4
  ·obtain⟨a,b,c,d,rfl⟩:=Wb h
   obtain⟨τ2,e,f⟩:=Vg (i:=6) (a:=a) (b:=b) (c:=c) (d:=d) (lo:=1) (hi:=16) (far:=60) (.inl rfl) rfl rfl rfl
   show _=some (PyData.bool ((wB (-60) 60 c&&wB (-60) 60 d)&&(wB 1 16 a&&wB 1 16 b)),_)
   rw[Bool.and_comm]
   exact Ag (τ:=τ2) ((skT c1).trans ((skT c2).trans ((skT c3).trans ((skT c4).trans ((skT c5).trans e))))) rfl f
  ·obtain⟨τ2,e,rfl⟩:=NQ (k:=kS 6) h
   rw[PJ h]
   exact Ag (τ:=stG (kS 6) l) ((skT c1).trans ((skT c2).trans ((skT c3).trans ((skT c4).trans ((skT c5).trans e))))) rfl rfl
 |8,_ =>
  show _=some (PyData.bool (q4 _ l),_)
  by_cases h:l.length=4
  ·obtain⟨a,b,c,d,rfl⟩:=Wb h
   obtain⟨τ2,e,f⟩:=Vg (i:=8) (a:=a) (b:=b) (c:=c) (d:=d) (lo:=1) (hi:=3) (far:=20) (.inr rfl) rfl rfl rfl
   exact Ag (τ:=τ2) ((skT c1).trans ((skT c2).trans ((skT c3).trans ((skT c4).trans ((skT c5).trans e))))) rfl f
  ·obtain⟨τ2,e,rfl⟩:=NQ (k:=kS 8) h
   rw[PJ h]
   exact Ag (τ:=stG (kS 8) l) ((skT c1).trans ((skT c2).trans ((skT c3).trans ((skT c4).trans ((skT c5).trans e))))) rfl rfl
theorem bu{k:Tx}(hk:∀i,i<10->kS i≠k)(l:List PyData):EV [.d (eT k),.d (.tuple l)]=some (.bool false,[.d (eT k),.d (.tuple l)]):=by
 let τ:=st0 k l
 have n:∀i,i<10->decide (k=kS i)=false:=fun i hi=>decide_eq_false fun z=>hk i hi z.symm
 have c:∀j,j<10->AQ (dOp fEq (AF 0) (dC (eT (kS j)))) τ=some (false,τ):=fun j hj=>by
  have:=kq k j [some (.d (.tuple l)),none,none,none,none]
  rw[n j hj]at this
  exact this
 obtain⟨τ2,e,rfl⟩:=cE hk l
 unfold EV
 exact Ag (τ:=stG k l) ((skT (Mv (c 4 (by decide)) (c 9 (by decide)))).trans ((skT (c 5 (by decide))).trans ((skT (c 7 (by decide))).trans ((skT (c 2 (by decide))).trans ((skT (c 3 (by decide))).trans e))))) rfl rfl
theorem Zo(k:Tx){l:List PyData}(hl:∀d∈l,OJ d/\VR d)(ok:okD (.tuple l)=true):∃b:Bool,Es [.d (eT k),.d (.tuple l)]=some (.bool b,[.d (eT k),.d (.tuple l)])/\EV [.d (eT k),.d (.tuple l)]=some (.bool b,[.d (eT k),.d (.tuple l)]):=by
 by_cases h:∃i,i<10/\kS i=k
 ·obtain⟨i,hi,rfl⟩:=h
  exact⟨_,gS hi hl,dS hi hl ok⟩
 ·have hk:∀i,i<10->kS i≠k:=fun i hi z=>h ⟨i,hi,z⟩
  exact⟨false,dF hk l,bu hk l⟩
structure Rg where
 n:Tx
 h:Tx
 k:Tx
 x:PyData
 y:PyData
 s:PyData
 l:List PyData
def eR(r:Rg):PyData:=.tuple [eT r.n,eT r.h,r.x,r.y,r.s,eT r.k,.tuple r.l]
theorem bL{h:Tx}(ha:OI h.1):(!(!decide (h=t0)&&!txB alN 1 8 (eT h)))=txB alN 0 8 (eT h):=by
 by_cases e:h=t0
 ·subst e;rfl
 ·rw[decide_eq_false e]
  have hl:1<=h.1.length:=by
   apply Decidable.byContradiction
   intro z
   refine e (Subtype.ext ?_)
   have z0:h.1.cps.size=0:=by
    have:h.1.length=h.1.cps.size:=rfl
    omega
   obtain⟨⟨cps⟩,hp⟩:=h
   have:cps=#[]:=Array.eq_empty_of_size_eq_zero z0
   subst this;rfl
  show(!(true&&!((decide ((1:Int)<=(h.1.length:Nat))&&decide (((h.1.length:Nat):Int)<=8))&&_)))=((decide ((0:Int)<=(h.1.length:Nat))&&decide (((h.1.length:Nat):Int)<=8))&&_)
  rw[decide_eq_true (show(1:Int)<=(h.1.length:Nat) by omega),decide_eq_true (show(0:Int)<=(h.1.length:Nat) by omega),Bool.true_and,Bool.not_not]
theorem Ve{r:Rg}(hn:OI r.n.1)(hh:OI r.h.1)(hl:∀d∈r.l,OJ d/\VR d)(ok:okD (.tuple r.l)=true):∃b:Bool,Hv [.d (eR r)]=some (.bool b,[.d (eR r)])/\DY [.d (eR r)]=some (.bool b,[.d (eR r)]):=by
 obtain⟨b,e1,e2⟩:=Zo r.k hl ok
 let B:Bool:=(txB alN 1 8 (eT r.n)&&(txB alN 0 8 (eT r.h)&&((wB (-60) 60 r.x&&wB (-60) 60 r.y)&&(J9 "bool" r.s&&b))))
 refine⟨B,?_,?_⟩
 ·let τ:DS:=[some (.d (eR r))]
  have r0:AU HX (AA (AF 0) AI) τ=some (eT r.n,τ):=rfl
  have r1:AU C9 (AA (AF 0) AI) τ=some (eT r.h,τ):=rfl
  have r2:AU L4 (AA (AF 0) AI) τ=some (r.x,τ):=rfl
  have r3:AU L3 (AA (AF 0) AI) τ=some (r.y,τ):=rfl
  have r4:AU Hu (AA (AF 0) AI) τ=some (r.s,τ):=rfl
  have r5:AU Iw (AA (AF 0) AI) τ=some (eT r.k,τ):=rfl
  have r6:AU Iy (AA (AF 0) AI) τ=some (.tuple r.l,τ):=rfl
  have s1:∀{F:Mir} {f:DX} {d v:PyData} {ls:List L},f τ=some (d,τ)->F [.d d]=some (v,ls)->AU F (AA f AI) τ=some (v,τ):=fun h g=>AX (τ1:=τ) (acc h rfl) rfl g
  have eB:B=(!(!(txB alN 1 8 (eT r.n)))&&(!(!decide (r.h=t0)&&!txB alN 1 8 (eT r.h))&&(!(!wB (-60) 60 r.x||!wB (-60) 60 r.y)&&(J9 "bool" r.s&&b)))):=by
   rw[bL hh,Bool.not_not]
   show(_&&(_&&((wB (-60) 60 r.x&&wB (-60) 60 r.y)&&_)))=_
   rw[<- nn (wB (-60) 60 r.x) (wB (-60) 60 r.y),Bool.false_or]
  rw[eB]
  unfold Hv
  refine Ag (τ:=τ) ?_ rfl rfl
  refine(ifF (Mv (τ1:=τ) rfl rfl)).trans (ifB (E9 (tst (s1 r0 (az (x:=eT r.n) hn)))) fun _=>ifB (hJ (tst (op2 (x:=eT r.h) (y:=eT t0) (τ1:=τ) r1 rfl (encT.fNe r.h t0))) fun _=>E9 (tst (s1 r1 (az (x:=eT r.h) hh)))) fun _=>ifB (orB (E9 (tst (s1 r2 (P2 r.x)))) fun _=>E9 (tst (s1 r3 (P2 r.y)))) fun _=>BB (Hk (s1 (v:=.bool (J9 "bool" r.s)) (ls:=[.d r.s]) r4 rfl) fun _=>?_))
  exact AX (τ1:=τ) (rs:=[.d (eT r.k),.d (.tuple r.l)]) (ds:=[eT r.k,.tuple r.l]) (acc r5 (acc r6 rfl)) rfl e1
 ·let τ:DS:=[some (.d (eR r)),some (.d (.str alN))]
  have eB:B=(!(!(txB alN 1 8 (eT r.n))||!txB alN 0 8 (eT r.h))&&(!(!wB (-60) 60 r.x||(!wB (-60) 60 r.y||!J9 "bool" r.s))&&b)):=by
   show(txB alN 1 8 (eT r.n)&&(txB alN 0 8 (eT r.h)&&((wB (-60) 60 r.x&&wB (-60) 60 r.y)&&(J9 "bool" r.s&&b))))=_
   generalize txB alN 1 8 (eT r.n)=a1
   generalize txB alN 0 8 (eT r.h)=a2
   generalize wB (-60) 60 r.x=a3
   generalize wB (-60) 60 r.y=a4
   generalize J9 "bool" r.s=a5
   cases a1<;>cases a2<;>cases a3<;>cases a4<;>cases a5<;>rfl
  rw[eB]
  unfold DY
  refine Ag (τ:=τ) ?_ rfl rfl
  refine (AR (τ1 := τ) rfl).trans (ifB (orB (E9 (tst (AX (τ1 := τ) (rs := [.d (eT r.n), .d (.str alN), .d (.int 1), .d (.int 8)]) (ds := [eT r.n, .str alN, .int 1, .int 8]) rfl rfl (cU (x := eT r.n) hn alN 1 8)))) fun _ => E9 (tst (AX (τ1 := τ) (rs := [.d (eT r.h), .d (.str alN), .d (.int 0), .d (.int 8)]) (ds := [eT r.h, .str alN, .int 0, .int 8]) rfl rfl (cU (x := eT r.h) hh alN 0 8)))) fun _ =>
   ifB (orB (E9 (tst (AX (τ1:=τ) (ds:=[r.x,.int (-60),.int 60]) rfl rfl (GD r.x (-60) 60)))) fun _=>orB (E9 (tst (AX (τ1:=τ) (ds:=[r.y,.int (-60),.int 60]) rfl rfl (GD r.y (-60) 60)))) fun _=>E9 (tst rfl)) fun _=>BB ?_)
  exact AX (τ1:=τ) (rs:=[.d (eT r.k),.d (.tuple r.l)]) (ds:=[eT r.k,.tuple r.l]) rfl rfl e2
def Se:PyData->Bool
 |.str s=>(s.cps.toList.all fun c=>decide (c<128))&&decide (s.length<=100)&&PyData.strOk s
 |_=>true
theorem RW{d:PyData}(h:Se d=true):OJ d:=by
 cases d with
 |str s =>
  unfold Se at h
  rw[Bool.and_eq_true,Bool.and_eq_true]at h
  exact⟨fun c hc=>of_decide_eq_true (List.all_eq_true.mp h.1.1 c hc),of_decide_eq_true h.1.2,h.2⟩
 |_=>exact True.intro
def Y4:PyData->Bool
 |.tuple q=>q.all Se
 |_=>true
def itB(d:PyData):Bool:=(Se d&&Y4 d)&&(PyData.canLay0 d&&(decide (PyData.depth d<=5)&&EZ d))
theorem Xj{d:PyData}(h:itB d=true):Se d=true:=by unfold itB at h;simp only[Bool.and_eq_true]at h;exact h.1.1
theorem jX{d:PyData}(h:itB d=true):OJ d/\VR d:=by
 unfold itB at h
 simp only[Bool.and_eq_true]at h
 refine⟨RW h.1.1,?_⟩
 cases d with
 |tuple q=>exact fun r hr=>RW (List.all_eq_true.mp h.1.2 r hr)
 |_=>exact True.intro
theorem gF{d:PyData}(h:itB d=true):EZ d=true:=by unfold itB at h;simp only[Bool.and_eq_true]at h;exact h.2.2.2
theorem gH{d:PyData}(h:itB d=true):PyData.canLay0 d=true:=by unfold itB at h;simp only[Bool.and_eq_true]at h;exact h.2.1
theorem gG{d:PyData}(h:itB d=true):PyData.depth d<=5:=by unfold itB at h;simp only[Bool.and_eq_true]at h;exact of_decide_eq_true h.2.2.1
theorem Uw:∀{l:List PyData},(∀d∈l,itB d=true)->PyData.canLayAll0 l=true
 |[],_=>rfl
 |d::l,h=>by rw[PyData.canLayAll0,gH (h d (List.mem_cons_self ..)),Uw fun x hx=>h x (List.mem_cons_of_mem _ hx)];rfl
theorem Uv:∀{l:List PyData},(∀d∈l,itB d=true)->PyData.depthAll l<=5
 |[],_=>Nat.zero_le _
 |d::l,h=>by
  rw[PyData.depthAll]
  have:=gG (h d (List.mem_cons_self ..))
  have:=Uv fun x hx=>h x (List.mem_cons_of_mem _ hx)
  omega
theorem Yd{l:List PyData}(h:∀d∈l,itB d=true):okD (.tuple l)=true:=by
 unfold okD SeqAt.shaped
 rw[Bool.and_eq_true,PyData.canLay0,PyData.depth]
 exact⟨Uw h,decide_eq_true (by have:=Uv h;omega)⟩
theorem cm{l:List PyData}(h:∀d∈l,itB d=true):okD (.list l)=true:=by
 unfold okD SeqAt.shaped
 rw[Bool.and_eq_true,PyData.canLay0,PyData.depth]
 exact⟨Uw h,decide_eq_true (by have:=Uv h;omega)⟩
theorem Nu:∀{l:List PyData},(∀d∈l,itB d=true)->fixDs l=true
 |[],_=>rfl
 |d::l,h=>by
  show(EZ d&&fixDs l)=true
  rw[gF (h d (List.mem_cons_self ..)),Nu fun x hx=>h x (List.mem_cons_of_mem _ hx)];rfl
def S0:List PyData:=[.int 0,.int 1,.int (-1),.int 3,.int 4,.int 12,.int 13,.int (-12),.int (-13),.int 16,.int 17,.int 20,.int 21,.int (-20),.int (-21),.int 60,.int 61,.int (-60),.int (-61),.bool true,.bool false]
def S1:List PyData:=[.str "",.str "a",.str "A",.str ".",.str "#",.str "abcdefgh",.str "abcdefghi",.str "#.#",.str "##.#..##",.str "##.#..##."]
def S2:List PyData:=[.str "012345",.str "0123456",.str "g",.str "plate",.str "mask",.str "glass",.str "turn",.str "tiles",.str "window",.str "word"]
def S3:List PyData:=[.tuple [.int 0,.int 1],.tuple [.int 1,.int 1],.tuple [.int 2,.int 4],.tuple [.int 3,.int 2],.tuple [.int 1,.int 0],.tuple [.int 0,.int 2],.tuple [.int 1,.int 1000],.tuple [.int 1,.int 1001],.tuple [.int (-1),.int 2],.tuple [.int 1,.bool true]]
def S4:List PyData:=[.tuple [.int 1],.tuple [],.tuple [.str "#",.str "."],.tuple [.str "#",.str ".."],.tuple [.str ""],.tuple [.str "x"],.tuple [.str "#",.str "#",.str "#",.str "#",.str "#",.str "#",.str "#",.str "#",.str "#"],.tuple [.int 1,.int 2],.tuple [.str "##",.int 1]]
def SL:List PyData:=S0++S1++S2++S3++S4
def fL:PyData->Bool
 |.tuple q=>q.all itB&&decide (q.length<=9)
 |_=>true
theorem jJ:(SL.all fun o=>itB o&&fL o)=true:=∅
theorem gk{xs:List PyData}{i:Int}(h0:0<=i)(h1:i<(xs.length:Nat)):∃o∈xs,atI xs i=some o:=by
 have hl:i.toNat<xs.length:=by omega
 refine⟨xs[i.toNat],List.getElem_mem hl,?_⟩
 unfold atI ixN
 rw[if_pos h0,if_pos h1]
 exact List.getElem?_eq_getElem hl
theorem ff(v:Int):∃o,Ko [.d (.int v)]=some (o,[.d (.int v)])/\itB o=true/\fL o=true:=by
 obtain⟨o,ho,e⟩:=gk (xs:=SL) (i:=v % 60) (Int.emod_nonneg v (by decide)) (by have:=Int.emod_lt_of_pos v (show(0:Int)<60 by decide);exact this)
 have hb:=List.all_eq_true.mp jJ o ho
 rw[Bool.and_eq_true]at hb
 refine⟨o,?_,hb⟩
 let V:Option L:=some (.d (.int v))
 let st:List PyData->DS:=fun l=>[V,some (.d (.list l))]
 unfold Ko
 refine Ag (τ:=st SL) ?_ rfl rfl
 refine(AR (τ1:=st S0) rfl).trans ((AR (τ1:=st (S0++S1)) rfl).trans ((AR (τ1:=st (S0++S1++S2)) rfl).trans ((AR (τ1:=st (S0++S1++S2++S3)) rfl).trans ((AR (τ1:=st SL) rfl).trans (BB ?_)))))
 exact op2 (x:=.list SL) (y:=.int (v % 60)) (τ1:=st SL) rfl (op2 (x:=.int v) (y:=.int 60) (τ1:=st SL) rfl rfl (Dt (by decide))) e
def ibB:PyData->Bool
 |.int _=>true
 |.bool _=>true
 |_=>false
theorem Xm{d:PyData}(h:ibB d=true):EZ d=true:=by cases d<;>first|rfl|cases h
structure OkG(N:Nat)(r:Rg):Prop where
 n:OI r.n.1
 h:OI r.h.1
 x:ibB r.x=true
 y:ibB r.y=true
 s:ibB r.s=true
 l:∀d∈r.l,itB d=true
 z:r.l.length<=N
def tR(r:Rg):List PyData:=[eT r.n,eT r.h,r.x,r.y,r.s,eT r.k,.tuple r.l]
theorem U6{N:Nat}{r:Rg}(ok:OkG N r):fixDs (tR r)=true:=by
 show(true&&(true&&(EZ r.x&&(EZ r.y&&(EZ r.s&&(true&&(fixDs r.l&&true)))))))=true
 rw[Xm ok.x,Xm ok.y,Xm ok.s,Nu ok.l];rfl
def st8(r:Rg)(v:Int)(t:List PyData)(k p:Int)(o:PyData)(m a:Option L):DS:=[some (.d (eR r)),some (.d (.int v)),some (.m t),some (.d (.int k)),some (.d (.int p)),some (.d o),m,a]
theorem ok8{r:Rg}{v:Int}{t:List PyData}{k p:Int}{o:PyData}{m a:Option L}(ht:fixDs t=true)(hm:okM m=true)(ha:okM a=true):(st8 r v t k p o m a).all okM=true:=by
 show(true&&(true&&(fixDs t&&(true&&(true&&(true&&(okM m&&(okM a&&true))))))))=true
 rw[ht,hm,ha];rfl
theorem Xo{r:Rg}{v:Int}{t:List PyData}{k p:Int}{o:PyData}{m a:Option L}(ht:fixDs t=true)(hm:okM m=true)(ha:okM a=true):An (Fs 2 (A1 Ku (AA (AF 2) AI))) (st8 r v t k p o m a)=some (.rt (.tuple t) (st8 r v t k p o m a)):=by
 refine BB (X0 (xs:=t) rfl rfl ht ?_)
 show(true&&(true&&(true&&(true&&(true&&(true&&(okM m&&(okM a&&true))))))))=true
 rw[hm,ha];rfl
theorem XE{o:PyData}(h:J9 "str" o=true):∃s,o = .str s:=by
 cases o with
 |str s=>exact⟨s,rfl⟩
 |_=>cases h
theorem fK{o:PyData}(h:J9 "tuple" o=true):∃q,o = .tuple q:=by
 cases o with
 |tuple q=>exact⟨q,rfl⟩
 |_=>cases h
theorem bJ{o:PyData}(h:J9 "int" o=true):ibB o=true:=by
 cases o<;>first|rfl|cases h
theorem jR{N:Nat}{r:Rg}(ok:OkG N r){o:PyData}(h1:itB o=true)(h2:fL o=true){p:Int}(p0:0<=p)(p7:p<7):∃b:Bool,J5 [.d (.int p),.d o]=some (.bool b,[.d (.int p),.d o])/\(b=true->∃r',OkG (max N 9) r'/\(tR r).set p.toNat o=tR r'):=by
 have up:∀{q:Rg},OkG N q->OkG (max N 9) q:=fun h=>⟨h.n,h.h,h.x,h.y,h.s,h.l,Nat.le_trans h.z (Nat.le_max_left ..)⟩
 have hp:p=0\/p=1\/p=2\/p=3\/p=4\/p=5\/p=6:=by omega
 rcases hp with rfl|rfl|rfl|rfl|rfl|rfl|rfl
 ·refine⟨J9 "str" o,rfl,fun h=>?_⟩
  obtain⟨s,rfl⟩:=XE h
  have a:OI s:=RW (Xj h1)
  exact⟨{ r with n:=⟨s,a.2.2⟩ },up ⟨a,ok.h,ok.x,ok.y,ok.s,ok.l,ok.z⟩,rfl⟩
 ·refine⟨J9 "str" o,rfl,fun h=>?_⟩
  obtain⟨s,rfl⟩:=XE h
  have a:OI s:=RW (Xj h1)
  exact⟨{ r with h:=⟨s,a.2.2⟩ },up ⟨ok.n,a,ok.x,ok.y,ok.s,ok.l,ok.z⟩,rfl⟩
 ·exact⟨J9 "int" o,rfl,fun h=>⟨{ r with x:=o },up ⟨ok.n,ok.h,bJ h,ok.y,ok.s,ok.l,ok.z⟩,rfl⟩⟩
 ·exact⟨J9 "int" o,rfl,fun h=>⟨{ r with y:=o },up ⟨ok.n,ok.h,ok.x,bJ h,ok.s,ok.l,ok.z⟩,rfl⟩⟩
 ·exact⟨J9 "int" o,rfl,fun h=>⟨{ r with s:=o },up ⟨ok.n,ok.h,ok.x,ok.y,bJ h,ok.l,ok.z⟩,rfl⟩⟩
 ·refine⟨J9 "str" o,rfl,fun h=>?_⟩
  obtain⟨s,rfl⟩:=XE h
  have a:OI s:=RW (Xj h1)
  exact⟨{ r with k:=⟨s,a.2.2⟩ },up ⟨ok.n,ok.h,ok.x,ok.y,ok.s,ok.l,ok.z⟩,rfl⟩
 ·refine⟨J9 "tuple" o,rfl,fun h=>?_⟩
  obtain⟨q,rfl⟩:=fK h
  have hq:(q.all itB&&decide (q.length<=9))=true:=h2
  rw[Bool.and_eq_true]at hq
  exact⟨{ r with l:=q },⟨ok.n,ok.h,ok.x,ok.y,ok.s,List.all_eq_true.mp hq.1,Nat.le_trans (of_decide_eq_true hq.2) (Nat.le_max_right ..)⟩,rfl⟩
theorem bG{n:Nat}{i:Int}(h0:0<=i)(h1:i<(n:Nat)):ixN n i=some i.toNat:=by
 unfold ixN
 rw[if_pos h0,if_pos h1]
theorem XF{i j:Nat}{e k:DX}{τ τ1 τ2:DS}{d:PyData}{n:Int}{xs:List PyData}(he:e τ=some (d,τ1))(hk:k τ1=some (.int n,τ2))(hm:τ2[i]?=some (some (.m xs)))(hj:ixN xs.length n=some j):GH i e k τ=some (.nx (τ2.set i (some (.m (xs.set j d))))):=by
 unfold GH
 rw[he,Option.bind_some]
 dsimp only
 rw[hk,Option.bind_some]
 dsimp only
 rw[hm]
 dsimp only
 rw[hj];rfl
theorem iW{i:Nat}{G:List PyData->List PyData->Option (PyData×List PyData)}{a:DA}{τ τ1:DS}{rs:List Ar}{ds xs xs':List PyData}{d:PyData}(h:a τ=some (rs,τ1))(k:Cy rs=some ds)(m:τ1[i]?=some (some (.m xs)))(g:G xs ds=some (d,xs')):Eb (dMt i G a) τ=some (.nx (τ1.set i (some (.m xs')))):=by
 unfold Eb dMt
 rw[h,Option.bind_some]
 dsimp only
 rw[k,Option.bind_some,m]
 dsimp only
 rw[g];rfl
theorem jQ{N:Nat}{r:Rg}(ok:OkG N r)(hN:N<=50){o:PyData}(h1:itB o=true)(v k p:Int):∃(l':List PyData) (a:Int),(∀d∈l',itB d=true)/\l'.length<=N+1 /\
  (Aa (Ge 2 6 (A1 EA (AA (dOp Am (AF 0) (dC (.int 6))) AI))) (Aa (Ah (Fs 6 (dOp Bm (dOp B7 (AF 1) (dC (.int 1323))) (dOp CG (A1 Bz (AA (AF 6) AI)) (dC (.int 1))))) (dN 7)) (Aa (BA (FL 6 (C7 (AQ (dOp fEq (AF 3) (dC (.int 1)))) (AQ (dOp fLt (AF 7) (A1 Bz (AA (AF 6) AI)))))) (GH 6 (AF 5) (AF 7)) (BA (AQ (dOp fEq (dOp Bm (dOp B7 (AF 1) (dC (.int 21))) (dC (.int 2))) (dC (.int 0)))) (Eb (dMt 6 QA (AA (AF 7) (AA (AF 5) AI)))) (BA (FL 6 (AQ (dOp fNe (AF 6) (Gi AI)))) (Eb (dMt 6 U5 (AA (Fs 6 (dOp Bm (AF 7) (A1 Bz (AA (AF 6) AI)))) AI))) BO))) (GH 2 (Fs 6 (A1 Ku (AA (AF 6) AI))) (dC (.int 6)))))) (st8 r v (tR r) k p o none none)=some (.nx (st8 r v (tR { r with l:=l' }) k p o (some (.m l')) (some (.d (.int a))))):=by
 have ft:=U6 ok
 have fl:=Nu ok.l
 have hz:=ok.z
 let n:Int:=(r.l.length:Nat)
 have n0:(0:Int)<=n:=by omega
 let a:Int:=v / 1323 % (n+1)
 have a0:0<=a:=Int.emod_nonneg _ (by omega)
 have a1:a<n+1:=Int.emod_lt_of_pos _ (by omega)
 let A:Option L:=some (.d (.int a))
 let M:List PyData->Option L:=fun l=>some (.m l)
 let s (l:List PyData):DS:=st8 r v (tR r) k p o (M l) A
 let sd:DS:=st8 r v (tR r) k p o (some (.d (.list r.l))) A
 have okd:sd.all okM=true:=ok8 ft rfl rfl
 have z1:Ge 2 6 (A1 EA (AA (dOp Am (AF 0) (dC (.int 6))) AI)) (st8 r v (tR r) k p o none none)=some (.nx (st8 r v (tR r) k p o (M r.l) none)) :=
  YG (xs:=r.l) (τ1:=st8 r v (tR r) k p o none none) rfl (by decide) (by show 6<8;decide) (ok8 ft rfl rfl)
 have z2:Ah (Fs 6 (dOp Bm (dOp B7 (AF 1) (dC (.int 1323))) (dOp CG (A1 Bz (AA (AF 6) AI)) (dC (.int 1))))) (dN 7) (st8 r v (tR r) k p o (M r.l) none)=some (.nx (s r.l)):=by
  refine Bt (d:=.int a) (τ1:=st8 r v (tR r) k p o (M r.l) none) (X0 (xs:=r.l) rfl ?_ rfl (ok8 (m:=some (.d (.list r.l))) ft rfl rfl)) rfl
  exact op2 (x:=.int (v / 1323)) (y:=.int (n+1)) (τ1:=st8 r v (tR r) k p o (some (.d (.list r.l))) none) (op2 (x:=.int v) (y:=.int 1323) (τ1:=st8 r v (tR r) k p o (some (.d (.list r.l))) none) rfl rfl (E3 (by decide) (by decide))) rfl (Dt (by omega))
 have z4:∀l':List PyData,(∀d∈l',itB d=true)->GH 2 (Fs 6 (A1 Ku (AA (AF 6) AI))) (dC (.int 6)) (s l')=some (.nx (st8 r v (tR { r with l:=l' }) k p o (M l') A)):=fun l' hl' =>
  XF (d:=.tuple l') (n:=6) (j:=6) (xs:=tR r) (τ1:=s l') (τ2:=s l') (X0 (xs:=l') rfl rfl (Nu hl') (ok8 (m:=some (.d (.list l'))) ft rfl rfl)) rfl rfl rfl
 have cA:FL 6 (C7 (AQ (dOp fEq (AF 3) (dC (.int 1)))) (AQ (dOp fLt (AF 7) (A1 Bz (AA (AF 6) AI))))) (s r.l)=some (decide (k=1)&&decide (a<n),s r.l) :=
  Tw (xs:=r.l) (τ1:=sd) rfl (XB (τ:=sd) (tst (op2 (x:=.int k) (y:=.int 1) (τ1:=sd) rfl rfl (eqI k 1))) (tst (op2 (x:=.int a) (y:=.int n) (τ1:=sd) rfl rfl rfl))) okd
 by_cases hA:(decide (k=1)&&decide (a<n))=true
 ·rw[hA]at cA
  rw[Bool.and_eq_true,decide_eq_true_iff,decide_eq_true_iff]at hA
  have hm:∀d∈r.l.set a.toNat o,itB d=true:=fun d hd=>by
   rcases List.mem_or_eq_of_mem_set hd with h|h
   ·exact ok.l d h
   ·rw[h];exact h1
  refine⟨r.l.set a.toNat o,a,hm,by rw[List.length_set];omega,?_⟩
  exact(AR z1).trans ((AR z2).trans ((AR ((JA cA).trans (XF (d:=o) (n:=a) (j:=a.toNat) (xs:=r.l) (τ1:=s r.l) (τ2:=s r.l) rfl rfl rfl (bG a0 hA.2)))).trans (z4 _ hm)))
 ·have hA':(decide (k=1)&&decide (a<n))=false:=by simpa using hA
  rw[hA']at cA
  have cB:AQ (dOp fEq (dOp Bm (dOp B7 (AF 1) (dC (.int 21))) (dC (.int 2))) (dC (.int 0))) (s r.l)=some (decide (v / 21 % 2=0),s r.l) :=
   tst (op2 (x:=.int (v / 21 % 2)) (y:=.int 0) (τ1:=s r.l) (op2 (x:=.int (v / 21)) (y:=.int 2) (τ1:=s r.l) (op2 (x:=.int v) (y:=.int 21) (τ1:=s r.l) rfl rfl (E3 (by decide) (by decide))) rfl (Dt (by decide))) rfl (eqI _ _))
  by_cases hB:v / 21 % 2=0
  ·rw[decide_eq_true hB]at cB
   have hm:∀d∈Iz r.l a.toNat o,itB d=true:=fun d hd=>by
    unfold Iz at hd
    rcases List.mem_append.mp hd with h|h
    ·exact ok.l d (List.mem_of_mem_take h)
    ·rcases List.mem_cons.mp h with h|h
     ·rw[h];exact h1
     ·exact ok.l d (List.mem_of_mem_drop h)
   refine⟨Iz r.l a.toNat o,a,hm,?_,?_⟩
   ·unfold Iz
    rw[List.length_append,List.length_cons,List.length_take,List.length_drop]
    omega
   ·refine(AR z1).trans ((AR z2).trans ((AR ((Dl cA).trans ((JA cB).trans (iW (rs:=[.d (.int a),.d o]) (ds:=[.int a,o]) (xs:=r.l) (xs':=Iz r.l a.toNat o) (d:=.none) (τ1:=s r.l) rfl rfl rfl ?_)))).trans (z4 _ hm)))
    show(if 0<=a/\a<=(r.l.length:Int)/\r.l.length<sizeLine then some (PyData.none,Iz r.l a.toNat o) else none)=_
    rw[if_pos ⟨a0,by omega,Nat.lt_of_le_of_lt (Nat.le_trans hz hN) (by decide)⟩]
  ·rw[decide_eq_false hB]at cB
   have cC:FL 6 (AQ (dOp fNe (AF 6) (Gi AI))) (s r.l)=some (!r.l.isEmpty,s r.l):=by
    refine Tw (xs:=r.l) (τ1:=sd) rfl (tst (op2 (x:=.list r.l) (y:=.list []) (τ1:=sd) rfl rfl ?_)) okd
    unfold fNe
    rw[cm ok.l]
    cases r.l<;>rfl
   cases hE:r.l.isEmpty with
   |true =>
    rw[hE]at cC
    exact⟨r.l,a,ok.l,by omega,(AR z1).trans ((AR z2).trans ((AR ((Dl cA).trans ((Dl cB).trans ((Dl cC).trans rfl)))).trans (z4 _ ok.l)))⟩
   |false =>
    rw[hE]at cC
    have np:0<r.l.length:=by
     cases h:r.l with
     |nil=>rw[h]at hE;cases hE
     |cons x y=>simp
    have b0:0<=a % n:=Int.emod_nonneg _ (by omega)
    have b1:a % n<n:=Int.emod_lt_of_pos _ (by omega)
    have bl:(a % n).toNat<r.l.length:=by omega
    have hm:∀d∈r.l.eraseIdx (a % n).toNat,itB d=true:=fun d hd=>ok.l d (List.mem_of_mem_eraseIdx hd)
    refine⟨r.l.eraseIdx (a % n).toNat,a,hm,by have:=List.length_eraseIdx_le r.l (a % n).toNat;omega,?_⟩
    refine(AR z1).trans ((AR z2).trans ((AR ((Dl cA).trans ((Dl cB).trans ((JA cC).trans (iW (rs:=[.d (.int (a % n))]) (ds:=[.int (a % n)]) (xs:=r.l) (xs':=r.l.eraseIdx (a % n).toNat) (d:=r.l[(a % n).toNat]) (τ1:=s r.l) (acc (X0 (i:=6) (xs:=r.l) (τ:=s r.l) rfl ?_ rfl okd) rfl) rfl rfl ?_))))).trans (z4 _ hm)))
    ·exact op2 (x:=.int a) (y:=.int n) (τ1:=sd) rfl rfl (Dt (by omega))
    ·show(if 0<=a % n/\a % n<(r.l.length:Int)/\r.l.length<=1000000 then (r.l[(a % n).toNat]?).map _ else none)=_
     rw[if_pos ⟨b0,b1,by omega⟩,List.getElem?_eq_getElem bl];rfl
theorem Su{N:Nat}{r:Rg}(ok:OkG N r)(hN:N<=50)(v:Int):∃(r':Rg) (ls:List L),C2 [.d (eR r),.d (.int v)]=some (eR r',ls)/\OkG (max (N+1) 9) r':=by
 obtain⟨o,eo,h1,h2⟩:=ff (v / 21)
 have ft:=U6 ok
 let k:Int:=v % 3
 let p:Int:=v / 3 % 7
 have k0:0<=k:=Int.emod_nonneg _ (by decide)
 have k3:k<3:=Int.emod_lt_of_pos _ (by decide)
 have p0:0<=p:=Int.emod_nonneg _ (by decide)
 have p7:p<7:=Int.emod_lt_of_pos _ (by decide)
 let R:Option L:=some (.d (eR r))
 let V:Option L:=some (.d (.int v))
 let I:Int->Option L:=fun i=>some (.d (.int i))
 let T:Option L:=some (.m (tR r))
 let s1:DS:=[R,V,T,none,none,none,none,none]
 let s2:DS:=[R,V,T,I k,none,none,none,none]
 let s3:DS:=[R,V,T,I k,I p,none,none,none]
 let s4:DS:=st8 r v (tR r) k p o none none
 have z1:Ge 2 2 (A1 EA (AA (AF 0) AI)) [R,V,none,none,none,none,none,none]=some (.nx s1):=YG (xs:=tR r) (τ1:=[R,V,none,none,none,none,none,none]) rfl (by decide) (by show 2<8;decide) rfl
 have z2:Ah (dOp Bm (AF 1) (dC (.int 3))) (dN 3) s1=some (.nx s2):=Bt (d:=.int k) (τ1:=s1) (op2 (x:=.int v) (y:=.int 3) (τ1:=s1) rfl rfl (Dt (by decide))) rfl
 have z3:Ah (dOp Bm (dOp B7 (AF 1) (dC (.int 3))) (dC (.int 7))) (dN 4) s2=some (.nx s3):=Bt (d:=.int p) (τ1:=s2) (op2 (x:=.int (v / 3)) (y:=.int 7) (τ1:=s2) (op2 (x:=.int v) (y:=.int 3) (τ1:=s2) rfl rfl (E3 (by decide) (by decide))) rfl (Dt (by decide))) rfl
 have z4:Ah (AU Ko (AA (dOp B7 (AF 1) (dC (.int 21))) AI)) (dN 5) s3=some (.nx s4):=Bt (d:=o) (τ1:=s3) (AX (rs:=[.d (.int (v / 21))]) (ds:=[.int (v / 21)]) (τ1:=s3) (acc (op2 (x:=.int v) (y:=.int 21) (τ1:=s3) rfl rfl (E3 (by decide) (by decide))) rfl) rfl eo) rfl
 obtain⟨b,ef,hb⟩:=jR ok h1 h2 p0 p7
 have c5:C7 (AQ (dOp fEq (AF 3) (dC (.int 0)))) (AQ (AU J5 (AA (AF 4) (AA (AF 5) AI)))) s4=some (decide (k=0)&&b,s4) :=
  XB (τ:=s4) (tst (op2 (x:=.int k) (y:=.int 0) (τ1:=s4) rfl rfl (eqI k 0))) (tst (AX (rs:=[.d (.int p),.d o]) (ds:=[.int p,o]) (τ1:=s4) rfl rfl ef))
 have c6:∀t:List PyData,AQ (dOp fGt (AF 3) (dC (.int 0))) (st8 r v t k p o none none)=some (decide (k>0),st8 r v t k p o none none):=fun t=>tst (op2 (x:=.int k) (y:=.int 0) (τ1:=st8 r v t k p o none none) rfl rfl rfl)
 unfold C2
 by_cases hk:k=0
 ·rw[decide_eq_true hk,Bool.true_and]at c5
  have c6':∀t:List PyData,AQ (dOp fGt (AF 3) (dC (.int 0))) (st8 r v t k p o none none)=some (false,st8 r v t k p o none none):=fun t=>by rw[c6,decide_eq_false (by omega)]
  cases b with
  |true =>
   obtain⟨r',ok',er⟩:=hb rfl
   refine⟨r',_,Ag (τ:=st8 r v (tR r') k p o none none) ?_ rfl rfl,⟨ok'.n,ok'.h,ok'.x,ok'.y,ok'.s,ok'.l,by have:=ok'.z;omega⟩⟩
   have z5:GH 2 (AF 5) (AF 4) s4=some (.nx (st8 r v (tR r') k p o none none)):=by
    rw[<- er]
    exact XF (d:=o) (n:=p) (j:=p.toNat) (xs:=tR r) (τ1:=s4) (τ2:=s4) rfl rfl rfl (bG p0 (by show p<7;exact p7))
   exact(AR z1).trans ((AR z2).trans ((AR z3).trans ((AR z4).trans ((AR ((JA c5).trans z5)).trans ((AR ((Dl (c6' _)).trans rfl)).trans (Xo (U6 ok') rfl rfl))))))
  |false =>
   refine⟨r,_,Ag (τ:=s4) ?_ rfl rfl,⟨ok.n,ok.h,ok.x,ok.y,ok.s,ok.l,by have:=ok.z;omega⟩⟩
   exact(AR z1).trans ((AR z2).trans ((AR z3).trans ((AR z4).trans ((AR ((Dl c5).trans rfl)).trans ((AR ((Dl (c6' _)).trans rfl)).trans (Xo ft rfl rfl))))))
 ·rw[decide_eq_false hk,Bool.false_and]at c5
  have c6':AQ (dOp fGt (AF 3) (dC (.int 0))) s4=some (true,s4):=by rw[show s4=st8 r v (tR r) k p o none none from rfl,c6,decide_eq_true (by omega)]
  obtain⟨l',a,hl',hz',e⟩:=jQ ok hN h1 v k p
  have ok':OkG (max (N+1) 9) { r with l:=l' }:=⟨ok.n,ok.h,ok.x,ok.y,ok.s,hl',Nat.le_trans hz' (Nat.le_max_left ..)⟩
  refine⟨{ r with l:=l' },_,Ag (τ:=st8 r v (tR { r with l:=l' }) k p o (some (.m l')) (some (.d (.int a)))) ?_ rfl rfl,ok'⟩
  exact(AR z1).trans ((AR z2).trans ((AR z3).trans ((AR z4).trans ((AR ((Dl c5).trans rfl)).trans ((AR ((JA c6').trans e)).trans (Xo (U6 ok') (Nu hl') rfl))))))
theorem X3{al:Str}(ha:∀c∈al.cps.toList,c<128){t:Tx}(h:I0 al t.1)(hz:t.1.length<=100):OI t.1:=⟨fun c hc=>ha c (h c hc),hz,t.2⟩
theorem aN:∀c∈alN.cps.toList,c<128:=∅
theorem aW:∀c∈alW.cps.toList,c<128:=∅
theorem aS:∀c∈alS.cps.toList,c<128:=∅
theorem fE{t:Tx}(h:OI t.1):Se (eT t)=true:=by
 show((t.1.cps.toList.all fun c=>decide (c<128))&&decide (t.1.length<=100)&&PyData.strOk t.1)=true
 rw[List.all_eq_true.mpr fun c hc=>decide_eq_true (h.1 c hc),decide_eq_true h.2.1,t.2];rfl
theorem jV{t:Tx}(h:OI t.1):itB (eT t)=true:=by
 unfold itB
 rw[fE h,show Y4 (eT t)=true from rfl,show PyData.canLay0 (eT t)=true from encT.can t,show PyData.depth (eT t)=0 by unfold eT;rw[PyData.depth],show EZ (eT t)=true from rfl];rfl
theorem bH(i:Int):itB (.int i)=true:=by
 unfold itB
 rw[show Se (.int i)=true from rfl,show Y4 (.int i)=true from rfl,show PyData.canLay0 (.int i)=true from rfl,show PyData.depth (.int i)=0 by rw[PyData.depth],show EZ (.int i)=true from rfl];rfl
theorem ib(i:Bool):itB (.bool i)=true:=by
 unfold itB
 rw[show Se (.bool i)=true from rfl,show Y4 (.bool i)=true from rfl,show PyData.canLay0 (.bool i)=true from rfl,show PyData.depth (.bool i)=0 by rw[PyData.depth],show EZ (.bool i)=true from rfl];rfl
theorem WT(a:Cl):itB (ec a)=true:=by
 unfold itB
 rw[show Se (ec a)=true from rfl,show Y4 (ec a)=true from rfl,show PyData.canLay0 (ec a)=true from encC.can a,show PyData.depth (ec a)=1 by unfold ec;simp[PyData.depth,PyData.depthAll],show EZ (ec a)=true from rfl];rfl
theorem jW{R:List Tx}(h:∀r∈R,OI r.1):itB (.tuple (R.map eT))=true:=by
 unfold itB
 have d:=bZ R
 rw[show Se (.tuple (R.map eT))=true from rfl,show Y4 (.tuple (R.map eT))=true from List.all_eq_true.mpr fun x hx=>(by obtain⟨r,hr,rfl⟩:=List.mem_map.mp hx;exact fE (h r hr)),show PyData.canLay0 (.tuple (R.map eT))=true by rw[PyData.canLay0];exact encT.canL R,decide_eq_true (show PyData.depth (.tuple (R.map eT))<=5 by rw[PyData.depth];omega),show EZ (.tuple (R.map eT))=true from encT.fixL R];rfl
def itD:Dz->List PyData
 |.plate w h a b=>[.int w,.int h,ec a,ec b]
 |.band w h a b=>[.int w,.int h,ec a,ec b]
 |.word t a b=>[eT t,ec a,ec b]
 |.stencil rs a b=>[.tuple (rs.map eT),ec a,ec b]
 |.group=>[]
 |.glass a=>[ec a]
 |.window w h x y=>[.int w,.int h,.int x,.int y]
 |.turn q f=>[.int q,.bool f]
 |.tiles a b x y=>[.int a,.int b,.int x,.int y]
 |.mask=>[]
theorem jB(d:Dz):eD d = .tuple (itD d):=by cases d<;>rfl
theorem cq(d:Dz):(itD d).length<=4:=by cases d<;>simp[itD]
theorem gJ{d:Dz}(ok:X5 d):∀x∈itD d,itB x=true:=by
 cases d with
 |plate w h a b=>simp only[itD,List.forall_mem_cons,bH,WT,List.not_mem_nil,false_implies,implies_true,and_self]
 |band w h a b=>simp only[itD,List.forall_mem_cons,bH,WT,List.not_mem_nil,false_implies,implies_true,and_self]
 |word t a b =>
  have h:=jV (X3 aW ok.2.1 (Nat.le_trans ok.1 (by decide)))
  simp only[itD,List.forall_mem_cons,h,WT,List.not_mem_nil,false_implies,implies_true,and_self]
 |stencil R a b =>
  obtain⟨_,_,⟨w,_,w8,hw⟩,_,_⟩:=ok
  have h:=jW (R:=R) fun r hr=>X3 aS (hw r hr).2 (by rw[(hw r hr).1];omega)
  simp only[itD,List.forall_mem_cons,h,WT,List.not_mem_nil,false_implies,implies_true,and_self]
 |group=>intro x hx;cases hx
 |glass a=>simp only[itD,List.forall_mem_cons,WT,List.not_mem_nil,false_implies,implies_true,and_self]
 |window w h x y=>simp only[itD,List.forall_mem_cons,bH,List.not_mem_nil,false_implies,implies_true,and_self]
 |turn q f=>simp only[itD,List.forall_mem_cons,bH,ib,List.not_mem_nil,false_implies,implies_true,and_self]
 |tiles a b x y=>simp only[itD,List.forall_mem_cons,bH,List.not_mem_nil,false_implies,implies_true,and_self]
 |mask=>intro x hx;cases hx
def gz(r:Rz):Rg:=⟨r.n,r.h,kS (kz r.d),.int r.x,.int r.y,.bool r.s,itD r.d⟩
theorem eh(r:Rz):eZ r=eR (gz r):=by
 unfold eZ eR gz
 rw[jB]
theorem eg{r:Rz}(ok:OkRow r)(hh:r.h=t0):OkG 4 (gz r):=by
 have n8:=ok.n8
 refine⟨X3 aN ok.na (Nat.le_trans n8 (by decide)),?_,rfl,rfl,rfl,gJ ok.d,cq r.d⟩
 show OI r.h.1
 rw[hh]
 exact⟨fun c hc=>absurd hc (by show ¬c∈([]:List Nat);exact List.not_mem_nil),by decide,t0.2⟩
theorem eV{N:Nat}{r:Rg}(ok:OkG N r):∀d∈r.l,OJ d/\VR d:=fun d hd=>jX (ok.l d hd)
theorem Vf{N:Nat}{r:Rg}(ok:OkG N r):CZ [.d (eR r)]=some (.bool true,[.d (eR r)]):=by
 obtain⟨b,e1,e2⟩:=Ve ok.n ok.h (eV ok) (Yd ok.l)
 let τ:DS:=[some (.d (eR r)),some (.d (.bool b))]
 unfold CZ
 refine Ag (τ:=τ) ?_ rfl rfl
 refine(AR (τ1:=τ) (Bt (d:=.bool b) (τ1:=[some (.d (eR r)),none]) (AX (ds:=[eR r]) (τ1:=[some (.d (eR r)),none]) rfl rfl e1) rfl)).trans (BB ((Fd (τ1:=τ) rfl).trans (op2 (x:=.bool b) (y:=.bool b) (τ1:=τ) rfl (AX (ds:=[eR r]) (τ1:=τ) rfl rfl e2) ?_)))
 cases b<;>rfl
theorem jY{r:Rz}(ok:OkRow r)(hh:r.h=t0):DY [.d (eR (gz r))]=some (.bool true,[.d (eR (gz r))]):=by
 have g:=eg ok hh
 obtain⟨b,e1,e2⟩:=Ve g.n g.h (eV g) (Yd g.l)
 obtain⟨ls,e⟩:=ZY ok (.inl hh)
 rw[eh,e1]at e
 cases e
 exact e2
theorem gn{F:List PyData->Option PyData}{f g:DX}{τ τ1 τ2:DS}{x y r:PyData}(h:f τ=some (x,τ1))(k:g τ1=some (y,τ2))(e:F [x,y]=some r):A1 F (AA f (AA g AI)) τ=some (r,τ2):=by
 unfold A1
 rw[acc h (acc k rfl)]
 show((F [x,y]).map _)=_
 rw[e];rfl
theorem bz{ns:List Int}(k:Int)(k0:0<=k){o1 o2 o3 o4:Option L}(n1:nM o1)(n2:nM o2)(n3:nM o3)(n4:nM o4):∃p2 p3 p4:Option L,nM p2/\nM p3/\nM p4 /\
  (Aa (Ah (AU FF (AA (Gi AI) (AA (Bl 0 Fz (AA (AF 1) AI)) AI))) (dGT (BH (dN 2) (BH (dN 3) Cu)))) (Aa (Ah (Bl 0 Fz (AA (dOp CG (AF 1) (dC (.int 1))) AI)) (dN 3)) (Aa (Ah (AU C2 (AA (AF 2) (AA (AF 3) AI))) (dN 4)) (Aa (BA (AQ (dOp fEq (dOp Bm (AF 3) (dC (.int 2))) (dC (.int 1)))) (Ah (AU C2 (AA (AF 4) (AA (dOp B7 (AF 3) (dC (.int 50000))) AI))) (dN 4)) BO) (BA (CH (BP (AQ (AU DY (AA (AF 2) AI)))) (CH (BP (AQ (AU CZ (AA (AF 2) AI)))) (CH (BP (AQ (AU CZ (AA (AF 4) AI)))) (BP (AQ (AU CZ (AA (AF 2) AI))))))) (An (dC (.bool false))) BO)))))
  [some (.c (ns.map .int)),some (.d (.int k)),o2,o3,o4]=some (.nx [some (.c (ns.map .int)),some (.d (.int k)),p2,p3,p4]):=by
 let C:Option L:=some (.c (ns.map .int))
 let I:Int->Option L:=fun i=>some (.d (.int i))
 obtain⟨v1,l1,b1⟩:=fF (ns:=ns) k0
 obtain⟨v2,l2,b2⟩:=fF (ns:=ns) (k:=k+1) (by omega)
 obtain⟨r,w,lr,er,okr,hr,_⟩:=W4 (rs:=[]) (show OkZ [] from(by unfold OkZ;exact True.intro)) (by decide) v1
 have hh:r.h=t0:=by
  rcases hr with h|⟨q,hq,_⟩
  ·exact h
  ·cases hq
 rw[eh]at er
 have g:=eg okr hh
 obtain⟨r1,ls1,e1,g1⟩:=Su g (by decide) v2
 let G:Option L:=some (.d (eR (gz r)))
 let s0:DS:=[C,I k,o2,o3,o4]
 let s1:DS:=[C,I k,G,I w,o4]
 let s2:DS:=[C,I k,G,I v2,o4]
 let s3 (q:Rg):DS:=[C,I k,G,I v2,some (.d (eR q))]
 have z1:Ah (AU FF (AA (Gi AI) (AA (Bl 0 Fz (AA (AF 1) AI)) AI))) (dGT (BH (dN 2) (BH (dN 3) Cu))) s0=some (.nx s1):=by
  refine Bt (d:=.tuple [eR (gz r),.int w]) (τ1:=s0) (AX (rs:=[.d (.list []),.d (.int v1)]) (ds:=[.list [],.int v1]) (τ1:=s0) (acc (d:=.list []) (τ1:=s0) rfl (acc (RT (xs:=ns.map .int) (rs:=[.d (.int k)]) (ds:=[.int k]) (τ1:=s0) rfl rfl rfl b1) rfl)) rfl er) ?_
  show(dN 2 (eR (gz r)) s0).bind _=_
  rw[Jc (o:=o2) rfl n2]
  show(dN 3 (.int w) [C,I k,G,o3,o4]).bind _=_
  rw[Jc (o:=o3) rfl n3];rfl
 have z2:Ah (Bl 0 Fz (AA (dOp CG (AF 1) (dC (.int 1))) AI)) (dN 3) s1=some (.nx s2):=Bt (d:=.int v2) (τ1:=s1) (RT (xs:=ns.map .int) (rs:=[.d (.int (k+1))]) (ds:=[.int (k+1)]) (τ1:=s1) rfl rfl rfl b2) rfl
 have z3:Ah (AU C2 (AA (AF 2) (AA (AF 3) AI))) (dN 4) s2=some (.nx (s3 r1)):=Bt (d:=eR r1) (τ1:=s2) (AX (rs:=[.d (eR (gz r)),.d (.int v2)]) (ds:=[eR (gz r),.int v2]) (τ1:=s2) rfl rfl e1) (Jc (o:=o4) rfl n4)
 have c4:AQ (dOp fEq (dOp Bm (AF 3) (dC (.int 2))) (dC (.int 1))) (s3 r1)=some (decide (v2 % 2=1),s3 r1):=tst (op2 (x:=.int (v2 % 2)) (y:=.int 1) (τ1:=s3 r1) (op2 (x:=.int v2) (y:=.int 2) (τ1:=s3 r1) rfl rfl (Dt (by decide))) rfl (eqI _ _))
 have fin5:∀{N:Nat} {q:Rg},OkG N q->BA (CH (BP (AQ (AU DY (AA (AF 2) AI)))) (CH (BP (AQ (AU CZ (AA (AF 2) AI)))) (CH (BP (AQ (AU CZ (AA (AF 4) AI)))) (BP (AQ (AU CZ (AA (AF 2) AI))))))) (An (dC (.bool false))) BO (s3 q)=some (.nx (s3 q)):=fun {N q} hq=>by
  have rR:BP (AQ (AU CZ (AA (AF 2) AI))) (s3 q)=some (false,s3 q):=E9 (b:=true) (tst (AX (ds:=[eR (gz r)]) (τ1:=s3 q) rfl rfl (Vf g)))
  exact(Dl (Mv (E9 (b:=true) (tst (AX (ds:=[eR (gz r)]) (τ1:=s3 q) rfl rfl (jY okr hh)))) (Mv rR (Mv (E9 (b:=true) (tst (AX (ds:=[eR q]) (τ1:=s3 q) rfl rfl (Vf hq)))) rR)))).trans rfl
 by_cases h2:v2 % 2=1
 ·rw[decide_eq_true h2]at c4
  obtain⟨r2,ls2,e2,g2⟩:=Su g1 (by decide) (v2 / 50000)
  have z4:Ah (AU C2 (AA (AF 4) (AA (dOp B7 (AF 3) (dC (.int 50000))) AI))) (dN 4) (s3 r1)=some (.nx (s3 r2)):=Bt (d:=eR r2) (τ1:=s3 r1) (AX (rs:=[.d (eR r1),.d (.int (v2 / 50000))]) (ds:=[eR r1,.int (v2 / 50000)]) (τ1:=s3 r1) (acc (d:=eR r1) (τ1:=s3 r1) rfl (acc (op2 (x:=.int v2) (y:=.int 50000) (τ1:=s3 r1) rfl rfl (E3 (by decide) (by decide))) rfl)) rfl e2) rfl
  exact⟨G,I v2,some (.d (eR r2)),K9,K9,K9,(AR z1).trans ((AR z2).trans ((AR z3).trans ((AR ((JA c4).trans z4)).trans (fin5 g2))))⟩
 ·rw[decide_eq_false h2]at c4
  exact⟨G,I v2,some (.d (eR r1)),K9,K9,K9,(AR z1).trans ((AR z2).trans ((AR z3).trans ((AR ((Dl c4).trans rfl)).trans (fin5 g1))))⟩
theorem WN(ns:List Int)(hns:ns.length<=63):∃ls,Qk [.c (ns.map .int)]=some (.bool true,ls):=by
 let C:Option L:=some (.c (ns.map .int))
 let n:Int:=(ns.length:Nat)
 let lo:Int:=if n<40 then n else 40
 let hi:Int:=if lo>4 then lo else 4
 have hlo:lo<=40:=by show(if n<40 then n else 40)<=40;split<;>omega
 have h4:4<=hi/\hi<=40:=by show 4<=(if lo>4 then lo else 4)/\(if lo>4 then lo else 4)<=40;split<;>omega
 have it:dR3 (AA (dC (.int 0)) (AA (A1 JG (AA (dC (.int 4)) (AA (A1 JF (AA (dC (.int 40)) (AA (CY 0) AI))) AI))) (AA (dC (.int 2)) AI))) [C,none,none,none,none]=some ((List.range (rgN 0 hi 2)).map (fun(k:Nat)=>PyData.int (0+(k:Int)*2)),[C,none,none,none,none]):=by
  unfold dR3
  have e1:AA (dC (.int 0)) (AA (A1 JG (AA (dC (.int 4)) (AA (A1 JF (AA (dC (.int 40)) (AA (CY 0) AI))) AI))) (AA (dC (.int 2)) AI)) [C,none,none,none,none]=some ([.d (.int 0),.d (.int hi),.d (.int 2)],[C,none,none,none,none]):=by
   have el:CY 0 [C,none,none,none,none]=some (.int n,[C,none,none,none,none]):=by
    show some (PyData.int ((ns.map PyData.int).length:Nat),_)=_
    rw[List.length_map]
   refine acc (d:=.int 0) (τ1:=[C,none,none,none,none]) rfl (acc (d:=.int hi) (τ1:=[C,none,none,none,none]) ?_ rfl)
   exact gn (x:=.int 4) (y:=.int lo) (τ1:=[C,none,none,none,none]) (τ2:=[C,none,none,none,none]) rfl (gn (x:=.int 40) (y:=.int n) (τ1:=[C,none,none,none,none]) (τ2:=[C,none,none,none,none]) rfl el rfl) rfl
  rw[e1]
  show(if CRg 0 hi 2 then some (QS 0 2 (rgN 0 hi 2),_) else none)=_
  rw[if_pos ⟨by decide,by decide,by omega,by omega,by decide,by decide⟩];rfl
 obtain⟨τ',el,o1,o2,o3,o4,m1,m2,m3,m4,rfl⟩:=J6 (enc:=fun(k:Nat)=>PyData.int (0+(k:Int)*2)) (g:=dN 1) (b:=Aa (Ah (AU FF (AA (Gi AI) (AA (Bl 0 Fz (AA (AF 1) AI)) AI))) (dGT (BH (dN 2) (BH (dN 3) Cu)))) (Aa (Ah (Bl 0 Fz (AA (dOp CG (AF 1) (dC (.int 1))) AI)) (dN 3)) (Aa (Ah (AU C2 (AA (AF 2) (AA (AF 3) AI))) (dN 4)) (Aa (BA (AQ (dOp fEq (dOp Bm (AF 3) (dC (.int 2))) (dC (.int 1)))) (Ah (AU C2 (AA (AF 4) (AA (dOp B7 (AF 3) (dC (.int 50000))) AI))) (dN 4)) BO) (BA (CH (BP (AQ (AU DY (AA (AF 2) AI)))) (CH (BP (AQ (AU CZ (AA (AF 2) AI)))) (CH (BP (AQ (AU CZ (AA (AF 4) AI)))) (BP (AQ (AU CZ (AA (AF 2) AI))))))) (An (dC (.bool false))) BO)))))
  (xs := List.range (rgN 0 hi 2)) (τ := [C, none, none, none, none]) (fun (_ : List Nat) τ => ∃ o1 o2 o3 o4 : Option L, nM o1 /\ nM o2 /\ nM o3 /\ nM o4 /\ τ = [C, o1, o2, o3, o4]) ⟨none, none, none, none, Fb, Fb, Fb, Fb, rfl⟩ (by
   rintro pre x post τ-⟨o1,o2,o3,o4,m1,m2,m3,m4,rfl⟩
   obtain⟨p2,p3,p4,q2,q3,q4,e⟩:=bz (ns:=ns) (0+(x:Int)*2) (by omega) (o1:=o1) m1 m2 m3 m4
   exact⟨[C,some (.d (.int (0+(x:Int)*2))),o2,o3,o4],_,Jc (o:=o1) rfl m1,e,_,p2,p3,p4,K9,q2,q3,q4,rfl⟩)
 unfold Qk
 exact⟨_,Ag (τ:=[C,o1,o2,o3,o4]) ((AR ((Lm it).trans el)).trans rfl) rfl rfl⟩
theorem all_mk{l:PySem.W.OpenLaw}{w:World}{K:PySem.W.Frag}{h:Heap}{mg:Str->Option Value}{fa:Addr}(X:K.In h)(G:h.Ns mainGlobals mg)(hfa:mg "law"=some (.ref fa))
  (a0:PySem.W.nsIn K mainGlobals "_law_name_of"=some (some (.ref f0))) (l0:K.lookup f0=some ⟨oc0,od0,.func (PySem.W.fnOf "_law_name_of" "_law_name_of" (Aq CW) (Ap CW) (AD CW) .none kV0 dc0 pm0 an0 cd0 ct0),sl0⟩) (c0:PySem.W.codeIn K cd0 "_law_name_of"=true) (k0:PySem.W.keepIn K (.ref f0)=true)
  {f1:Addr}
  (a1:PySem.W.nsIn K mainGlobals "_law_step_of"=some (some (.ref f1))) (l1:K.lookup f1=some ⟨oc1,od1,.func (PySem.W.fnOf "_law_step_of" "_law_step_of" (Aq E6) (Ap E6) (AD E6) .none kV1 dc1 pm1 an1 cd1 ct1),sl1⟩) (c1:PySem.W.codeIn K cd1 "_law_step_of"=true) (k1:PySem.W.keepIn K (.ref f1)=true)
  {f2:Addr}
  (a2:PySem.W.nsIn K mainGlobals "_law_up"=some (some (.ref f2))) (l2:K.lookup f2=some ⟨oc2,od2,.func (PySem.W.fnOf "_law_up" "_law_up" (Aq GI) (Ap GI) (AD GI) .none kV2 dc2 pm2 an2 cd2 ct2),sl2⟩) (c2:PySem.W.codeIn K cd2 "_law_up"=true) (k2:PySem.W.keepIn K (.ref f2)=true)
  (a3:PySem.W.nsIn K mainGlobals "_law_low"=some (some (.ref f3))) (l3:K.lookup f3=some ⟨oc3,od3,.func (PySem.W.fnOf "_law_low" "_law_low" (Aq EO) (Ap EO) (AD EO) .none kV3 dc3 pm3 an3 cd3 ct3),sl3⟩) (c3:PySem.W.codeIn K cd3 "_law_low"=true) (k3:PySem.W.keepIn K (.ref f3)=true)
  (a4:PySem.W.nsIn K mainGlobals "_law_share_of"=some (some (.ref f4))) (l4:K.lookup f4=some ⟨oc4,od4,.func (PySem.W.fnOf "_law_share_of" "_law_share_of" (Aq Cr) (Ap Cr) (AD Cr) .none kV4 dc4 pm4 an4 cd4 ct4),sl4⟩) (c4:PySem.W.codeIn K cd4 "_law_share_of"=true) (k4:PySem.W.keepIn K (.ref f4)=true)
  (a5:PySem.W.nsIn K mainGlobals "_law_paint_of"=some (some (.ref f5))) (l5:K.lookup f5=some ⟨oc5,od5,.func (PySem.W.fnOf "_law_paint_of" "_law_paint_of" (Aq CN) (Ap CN) (AD CN) .none kV5 dc5 pm5 an5 cd5 ct5),sl5⟩) (c5:PySem.W.codeIn K cd5 "_law_paint_of"=true) (k5:PySem.W.keepIn K (.ref f5)=true)
  (a6:PySem.W.nsIn K mainGlobals "_law_stencil_of"=some (some (.ref f6))) (l6:K.lookup f6=some ⟨oc6,od6,.func (PySem.W.fnOf "_law_stencil_of" "_law_stencil_of" (Aq BN) (Ap BN) (AD BN) .none kV6 dc6 pm6 an6 cd6 ct6),sl6⟩) (c6:PySem.W.codeIn K cd6 "_law_stencil_of"=true) (k6:PySem.W.keepIn K (.ref f6)=true)
  (a7:PySem.W.nsIn K mainGlobals "_law_size_of"=some (some (.ref f7))) (l7:K.lookup f7=some ⟨oc7,od7,.func (PySem.W.fnOf "_law_size_of" "_law_size_of" (Aq Dg) (Ap Dg) (AD Dg) .none kV7 dc7 pm7 an7 cd7 ct7),sl7⟩) (c7:PySem.W.codeIn K cd7 "_law_size_of"=true) (k7:PySem.W.keepIn K (.ref f7)=true)
  (a8:PySem.W.nsIn K mainGlobals "_law_word_of"=some (some (.ref f8))) (l8:K.lookup f8=some ⟨oc8,od8,.func (PySem.W.fnOf "_law_word_of" "_law_word_of" (Aq CV) (Ap CV) (AD CV) .none kV8 dc8 pm8 an8 cd8 ct8),sl8⟩) (c8:PySem.W.codeIn K cd8 "_law_word_of"=true) (k8:PySem.W.keepIn K (.ref f8)=true)
  (a9:PySem.W.nsIn K mainGlobals "_law_data_of"=some (some (.ref f9))) (l9:K.lookup f9=some ⟨oc9,od9,.func (PySem.W.fnOf "_law_data_of" "_law_data_of" (Aq Au) (Ap Au) (AD Au) .none kV9 dc9 pm9 an9 cd9 ct9),sl9⟩) (c9:PySem.W.codeIn K cd9 "_law_data_of"=true) (k9:PySem.W.keepIn K (.ref f9)=true)
  (a10:PySem.W.nsIn K mainGlobals "_law_kinds"=some (some (.ref f10))) (l10:K.lookup f10=some ⟨oc10,od10,.func (PySem.W.fnOf "_law_kinds" "_law_kinds" (Aq Gj) (Ap Gj) (AD Gj) .none kV10 dc10 pm10 an10 cd10 ct10),sl10⟩) (c10:PySem.W.codeIn K cd10 "_law_kinds"=true) (k10:PySem.W.keepIn K (.ref f10)=true)
  (a11:PySem.W.nsIn K mainGlobals "_law_row_of"=some (some (.ref f11))) (l11:K.lookup f11=some ⟨oc11,od11,.func (PySem.W.fnOf "_law_row_of" "_law_row_of" (Aq Ax) (Ap Ax) (AD Ax) .none kV11 dc11 pm11 an11 cd11 ct11),sl11⟩) (c11:PySem.W.codeIn K cd11 "_law_row_of"=true) (k11:PySem.W.keepIn K (.ref f11)=true)
  (a12:PySem.W.nsIn K mainGlobals "_law_cell_at"=some (some (.ref f12))) (l12:K.lookup f12=some ⟨oc12,od12,.func (PySem.W.fnOf "_law_cell_at" "_law_cell_at" (Aq DJ) (Ap DJ) (AD DJ) .none kV12 dc12 pm12 an12 cd12 ct12),sl12⟩) (c12:PySem.W.codeIn K cd12 "_law_cell_at"=true) (k12:PySem.W.keepIn K (.ref f12)=true)
  (a13:PySem.W.nsIn K mainGlobals "_law_big"=some (some (.ref f13))) (l13:K.lookup f13=some ⟨oc13,od13,.func (PySem.W.fnOf "_law_big" "_law_big" (Aq Cm) (Ap Cm) (AD Cm) .none kV13 dc13 pm13 an13 cd13 ct13),sl13⟩) (c13:PySem.W.codeIn K cd13 "_law_big"=true) (k13:PySem.W.keepIn K (.ref f13)=true)
  (a14:PySem.W.nsIn K mainGlobals "_law_odd"=some (some (.ref f14))) (l14:K.lookup f14=some ⟨oc14,od14,.func (PySem.W.fnOf "_law_odd" "_law_odd" (Aq G4) (Ap G4) (AD G4) .none kV14 dc14 pm14 an14 cd14 ct14),sl14⟩) (c14:PySem.W.codeIn K cd14 "_law_odd"=true) (k14:PySem.W.keepIn K (.ref f14)=true)
  (a15:PySem.W.nsIn K mainGlobals "_law_fits"=some (some (.ref f15))) (l15:K.lookup f15=some ⟨oc15,od15,.func (PySem.W.fnOf "_law_fits" "_law_fits" (Aq ER) (Ap ER) (AD ER) .none kV15 dc15 pm15 an15 cd15 ct15),sl15⟩) (c15:PySem.W.codeIn K cd15 "_law_fits"=true) (k15:PySem.W.keepIn K (.ref f15)=true)
  (a16:PySem.W.nsIn K mainGlobals "_law_spoilt"=some (some (.ref f16))) (l16:K.lookup f16=some ⟨oc16,od16,.func (PySem.W.fnOf "_law_spoilt" "_law_spoilt" (Aq Bb) (Ap Bb) (AD Bb) .none kV16 dc16 pm16 an16 cd16 ct16),sl16⟩) (c16:PySem.W.codeIn K cd16 "_law_spoilt"=true) (k16:PySem.W.keepIn K (.ref f16)=true)
  (a17:PySem.W.nsIn K mainGlobals "_law_within"=some (some (.ref f17))) (l17:K.lookup f17=some ⟨oc17,od17,.func (PySem.W.fnOf "_law_within" "_law_within" (Aq Cd) (Ap Cd) (AD Cd) .none kV17 dc17 pm17 an17 cd17 ct17),sl17⟩) (c17:PySem.W.codeIn K cd17 "_law_within"=true) (k17:PySem.W.keepIn K (.ref f17)=true)
  (a18:PySem.W.nsIn K mainGlobals "_law_is_part"=some (some (.ref f18))) (l18:K.lookup f18=some ⟨oc18,od18,.func (PySem.W.fnOf "_law_is_part" "_law_is_part" (Aq Ci) (Ap Ci) (AD Ci) .none kV18 dc18 pm18 an18 cd18 ct18),sl18⟩) (c18:PySem.W.codeIn K cd18 "_law_is_part"=true) (k18:PySem.W.keepIn K (.ref f18)=true)
  (a19:PySem.W.nsIn K mainGlobals "_law_is_paint"=some (some (.ref f19))) (l19:K.lookup f19=some ⟨oc19,od19,.func (PySem.W.fnOf "_law_is_paint" "_law_is_paint" (Aq Cb) (Ap Cb) (AD Cb) .none kV19 dc19 pm19 an19 cd19 ct19),sl19⟩) (c19:PySem.W.codeIn K cd19 "_law_is_paint"=true) (k19:PySem.W.keepIn K (.ref f19)=true)
  (a20:PySem.W.nsIn K mainGlobals "_law_is_of"=some (some (.ref f20))) (l20:K.lookup f20=some ⟨oc20,od20,.func (PySem.W.fnOf "_law_is_of" "_law_is_of" (Aq Ct) (Ap Ct) (AD Ct) .none kV20 dc20 pm20 an20 cd20 ct20),sl20⟩) (c20:PySem.W.codeIn K cd20 "_law_is_of"=true) (k20:PySem.W.keepIn K (.ref f20)=true)
  (a21:PySem.W.nsIn K mainGlobals "_law_are_rows"=some (some (.ref f21))) (l21:K.lookup f21=some ⟨oc21,od21,.func (PySem.W.fnOf "_law_are_rows" "_law_are_rows" (Aq B1) (Ap B1) (AD B1) .none kV21 dc21 pm21 an21 cd21 ct21),sl21⟩) (c21:PySem.W.codeIn K cd21 "_law_are_rows"=true) (k21:PySem.W.keepIn K (.ref f21)=true)
  (a22:PySem.W.nsIn K mainGlobals "_law_is_data"=some (some (.ref f22))) (l22:K.lookup f22=some ⟨oc22,od22,.func (PySem.W.fnOf "_law_is_data" "_law_is_data" (Aq BU) (Ap BU) (AD BU) .none kV22 dc22 pm22 an22 cd22 ct22),sl22⟩) (c22:PySem.W.codeIn K cd22 "_law_is_data"=true) (k22:PySem.W.keepIn K (.ref f22)=true)
  (a23:PySem.W.nsIn K mainGlobals "_law_is_row"=some (some (.ref f23))) (l23:K.lookup f23=some ⟨oc23,od23,.func (PySem.W.fnOf "_law_is_row" "_law_is_row" (Aq Ce) (Ap Ce) (AD Ce) .none kV23 dc23 pm23 an23 cd23 ct23),sl23⟩) (c23:PySem.W.codeIn K cd23 "_law_is_row"=true) (k23:PySem.W.keepIn K (.ref f23)=true)
  (a24:PySem.W.nsIn K mainGlobals "is_text_of"=some (some (.ref f24))) (l24:K.lookup f24=some ⟨oc24,od24,.func (PySem.W.fnOf "is_text_of" "is_text_of" (Aq B0) (Ap B0) (AD B0) .none kV24 dc24 pm24 an24 cd24 ct24),sl24⟩) (c24:PySem.W.codeIn K cd24 "is_text_of"=true) (k24:PySem.W.keepIn K (.ref f24)=true)
  (a25:PySem.W.nsIn K mainGlobals "is_name"=some (some (.ref f25))) (l25:K.lookup f25=some ⟨oc25,od25,.func (PySem.W.fnOf "is_name" "is_name" (Aq FP) (Ap FP) (AD FP) .none kV25 dc25 pm25 an25 cd25 ct25),sl25⟩) (c25:PySem.W.codeIn K cd25 "is_name"=true) (k25:PySem.W.keepIn K (.ref f25)=true)
  (a26:PySem.W.nsIn K mainGlobals "is_truth"=some (some (.ref f26))) (l26:K.lookup f26=some ⟨oc26,od26,.func (PySem.W.fnOf "is_truth" "is_truth" (Aq Ee) (Ap Ee) (AD Ee) .none kV26 dc26 pm26 an26 cd26 ct26),sl26⟩) (c26:PySem.W.codeIn K cd26 "is_truth"=true) (k26:PySem.W.keepIn K (.ref f26)=true)
  (a27:PySem.W.nsIn K mainGlobals "is_whole"=some (some (.ref f27))) (l27:K.lookup f27=some ⟨oc27,od27,.func (PySem.W.fnOf "is_whole" "is_whole" (Aq Dw) (Ap Dw) (AD Dw) .none kV27 dc27 pm27 an27 cd27 ct27),sl27⟩) (c27:PySem.W.codeIn K cd27 "is_whole"=true) (k27:PySem.W.keepIn K (.ref f27)=true)
  (a28:PySem.W.nsIn K mainGlobals "is_within"=some (some (.ref f28))) (l28:K.lookup f28=some ⟨oc28,od28,.func (PySem.W.fnOf "is_within" "is_within" (Aq Cg) (Ap Cg) (AD Cg) .none kV28 dc28 pm28 an28 cd28 ct28),sl28⟩) (c28:PySem.W.codeIn K cd28 "is_within"=true) (k28:PySem.W.keepIn K (.ref f28)=true)
  (a29:PySem.W.nsIn K mainGlobals "common_divisor"=some (some (.ref f29))) (l29:K.lookup f29=some ⟨oc29,od29,.func (PySem.W.fnOf "common_divisor" "common_divisor" (Aq BM) (Ap BM) (AD BM) .none kV29 dc29 pm29 an29 cd29 ct29),sl29⟩) (c29:PySem.W.codeIn K cd29 "common_divisor"=true) (k29:PySem.W.keepIn K (.ref f29)=true)
  (a30:PySem.W.nsIn K mainGlobals "is_share"=some (some (.ref f30))) (l30:K.lookup f30=some ⟨oc30,od30,.func (PySem.W.fnOf "is_share" "is_share" (Aq CJ) (Ap CJ) (AD CJ) .none kV30 dc30 pm30 an30 cd30 ct30),sl30⟩) (c30:PySem.W.codeIn K cd30 "is_share"=true) (k30:PySem.W.keepIn K (.ref f30)=true)
  (a31:PySem.W.nsIn K mainGlobals "is_bounded_share"=some (some (.ref f31))) (l31:K.lookup f31=some ⟨oc31,od31,.func (PySem.W.fnOf "is_bounded_share" "is_bounded_share" (Aq B9) (Ap B9) (AD B9) .none kV31 dc31 pm31 an31 cd31 ct31),sl31⟩) (c31:PySem.W.codeIn K cd31 "is_bounded_share"=true) (k31:PySem.W.keepIn K (.ref f31)=true)
  (a32:PySem.W.nsIn K mainGlobals "is_paint"=some (some (.ref f32))) (l32:K.lookup f32=some ⟨oc32,od32,.func (PySem.W.fnOf "is_paint" "is_paint" (Aq Dy) (Ap Dy) (AD Dy) .none kV32 dc32 pm32 an32 cd32 ct32),sl32⟩) (c32:PySem.W.codeIn K cd32 "is_paint"=true) (k32:PySem.W.keepIn K (.ref f32)=true)
  (a33:PySem.W.nsIn K mainGlobals "is_plate"=some (some (.ref f33))) (l33:K.lookup f33=some ⟨oc33,od33,.func (PySem.W.fnOf "is_plate" "is_plate" (Aq Dx) (Ap Dx) (AD Dx) .none kV33 dc33 pm33 an33 cd33 ct33),sl33⟩) (c33:PySem.W.codeIn K cd33 "is_plate"=true) (k33:PySem.W.keepIn K (.ref f33)=true)
  (a34:PySem.W.nsIn K mainGlobals "is_band"=some (some (.ref f34))) (l34:K.lookup f34=some ⟨oc34,od34,.func (PySem.W.fnOf "is_band" "is_band" (Aq Er) (Ap Er) (AD Er) .none kV34 dc34 pm34 an34 cd34 ct34),sl34⟩) (c34:PySem.W.codeIn K cd34 "is_band"=true) (k34:PySem.W.keepIn K (.ref f34)=true)
  (a35:PySem.W.nsIn K mainGlobals "is_sign"=some (some (.ref f35))) (l35:K.lookup f35=some ⟨oc35,od35,.func (PySem.W.fnOf "is_sign" "is_sign" (Aq Fu) (Ap Fu) (AD Fu) .none kV35 dc35 pm35 an35 cd35 ct35),sl35⟩) (c35:PySem.W.codeIn K cd35 "is_sign"=true) (k35:PySem.W.keepIn K (.ref f35)=true)
  (a36:PySem.W.nsIn K mainGlobals "is_word_text"=some (some (.ref f36))) (l36:K.lookup f36=some ⟨oc36,od36,.func (PySem.W.fnOf "is_word_text" "is_word_text" (Aq B5) (Ap B5) (AD B5) .none kV36 dc36 pm36 an36 cd36 ct36),sl36⟩) (c36:PySem.W.codeIn K cd36 "is_word_text"=true) (k36:PySem.W.keepIn K (.ref f36)=true)
  (a37:PySem.W.nsIn K mainGlobals "is_word"=some (some (.ref f37))) (l37:K.lookup f37=some ⟨oc37,od37,.func (PySem.W.fnOf "is_word" "is_word" (Aq Eo) (Ap Eo) (AD Eo) .none kV37 dc37 pm37 an37 cd37 ct37),sl37⟩) (c37:PySem.W.codeIn K cd37 "is_word"=true) (k37:PySem.W.keepIn K (.ref f37)=true)
  (a38:PySem.W.nsIn K mainGlobals "are_stencil_rows"=some (some (.ref f38))) (l38:K.lookup f38=some ⟨oc38,od38,.func (PySem.W.fnOf "are_stencil_rows" "are_stencil_rows" (Aq BW) (Ap BW) (AD BW) .none kV38 dc38 pm38 an38 cd38 ct38),sl38⟩) (c38:PySem.W.codeIn K cd38 "are_stencil_rows"=true) (k38:PySem.W.keepIn K (.ref f38)=true)
  (a39:PySem.W.nsIn K mainGlobals "is_stencil"=some (some (.ref f39))) (l39:K.lookup f39=some ⟨oc39,od39,.func (PySem.W.fnOf "is_stencil" "is_stencil" (Aq Cq) (Ap Cq) (AD Cq) .none kV39 dc39 pm39 an39 cd39 ct39),sl39⟩) (c39:PySem.W.codeIn K cd39 "is_stencil"=true) (k39:PySem.W.keepIn K (.ref f39)=true)
  (a40:PySem.W.nsIn K mainGlobals "is_empty"=some (some (.ref f40))) (l40:K.lookup f40=some ⟨oc40,od40,.func (PySem.W.fnOf "is_empty" "is_empty" (Aq FC) (Ap FC) (AD FC) .none kV40 dc40 pm40 an40 cd40 ct40),sl40⟩) (c40:PySem.W.codeIn K cd40 "is_empty"=true) (k40:PySem.W.keepIn K (.ref f40)=true)
  (a41:PySem.W.nsIn K mainGlobals "is_glass"=some (some (.ref f41))) (l41:K.lookup f41=some ⟨oc41,od41,.func (PySem.W.fnOf "is_glass" "is_glass" (Aq Ef) (Ap Ef) (AD Ef) .none kV41 dc41 pm41 an41 cd41 ct41),sl41⟩) (c41:PySem.W.codeIn K cd41 "is_glass"=true) (k41:PySem.W.keepIn K (.ref f41)=true)
  (a42:PySem.W.nsIn K mainGlobals "is_place"=some (some (.ref f42))) (l42:K.lookup f42=some ⟨oc42,od42,.func (PySem.W.fnOf "is_place" "is_place" (Aq FA) (Ap FA) (AD FA) .none kV42 dc42 pm42 an42 cd42 ct42),sl42⟩) (c42:PySem.W.codeIn K cd42 "is_place"=true) (k42:PySem.W.keepIn K (.ref f42)=true)
  (a43:PySem.W.nsIn K mainGlobals "is_window"=some (some (.ref f43))) (l43:K.lookup f43=some ⟨oc43,od43,.func (PySem.W.fnOf "is_window" "is_window" (Aq DH) (Ap DH) (AD DH) .none kV43 dc43 pm43 an43 cd43 ct43),sl43⟩) (c43:PySem.W.codeIn K cd43 "is_window"=true) (k43:PySem.W.keepIn K (.ref f43)=true)
  (a44:PySem.W.nsIn K mainGlobals "is_turn"=some (some (.ref f44))) (l44:K.lookup f44=some ⟨oc44,od44,.func (PySem.W.fnOf "is_turn" "is_turn" (Aq Ep) (Ap Ep) (AD Ep) .none kV44 dc44 pm44 an44 cd44 ct44),sl44⟩) (c44:PySem.W.codeIn K cd44 "is_turn"=true) (k44:PySem.W.keepIn K (.ref f44)=true)
  (a45:PySem.W.nsIn K mainGlobals "are_tiles"=some (some (.ref f45))) (l45:K.lookup f45=some ⟨oc45,od45,.func (PySem.W.fnOf "are_tiles" "are_tiles" (Aq Df) (Ap Df) (AD Df) .none kV45 dc45 pm45 an45 cd45 ct45),sl45⟩) (c45:PySem.W.codeIn K cd45 "are_tiles"=true) (k45:PySem.W.keepIn K (.ref f45)=true)
  (a46:PySem.W.nsIn K mainGlobals "is_data"=some (some (.ref f46))) (l46:K.lookup f46=some ⟨oc46,od46,.func (PySem.W.fnOf "is_data" "is_data" (Aq DM) (Ap DM) (AD DM) .none kV46 dc46 pm46 an46 cd46 ct46),sl46⟩) (c46:PySem.W.codeIn K cd46 "is_data"=true) (k46:PySem.W.keepIn K (.ref f46)=true)
  (a47:PySem.W.nsIn K mainGlobals "row_name"=some (some (.ref f47))) (l47:K.lookup f47=some ⟨oc47,od47,.func (PySem.W.fnOf "row_name" "row_name" (Aq Ff) (Ap Ff) (AD Ff) .none kV47 dc47 pm47 an47 cd47 ct47),sl47⟩) (c47:PySem.W.codeIn K cd47 "row_name"=true) (k47:PySem.W.keepIn K (.ref f47)=true)
  (a48:PySem.W.nsIn K mainGlobals "row_holder"=some (some (.ref f48))) (l48:K.lookup f48=some ⟨oc48,od48,.func (PySem.W.fnOf "row_holder" "row_holder" (Aq EN) (Ap EN) (AD EN) .none kV48 dc48 pm48 an48 cd48 ct48),sl48⟩) (c48:PySem.W.codeIn K cd48 "row_holder"=true) (k48:PySem.W.keepIn K (.ref f48)=true)
  (a49:PySem.W.nsIn K mainGlobals "row_shown"=some (some (.ref f49))) (l49:K.lookup f49=some ⟨oc49,od49,.func (PySem.W.fnOf "row_shown" "row_shown" (Aq E5) (Ap E5) (AD E5) .none kV49 dc49 pm49 an49 cd49 ct49),sl49⟩) (c49:PySem.W.codeIn K cd49 "row_shown"=true) (k49:PySem.W.keepIn K (.ref f49)=true)
  (a50:PySem.W.nsIn K mainGlobals "row_kind"=some (some (.ref f50))) (l50:K.lookup f50=some ⟨oc50,od50,.func (PySem.W.fnOf "row_kind" "row_kind" (Aq Fg) (Ap Fg) (AD Fg) .none kV50 dc50 pm50 an50 cd50 ct50),sl50⟩) (c50:PySem.W.codeIn K cd50 "row_kind"=true) (k50:PySem.W.keepIn K (.ref f50)=true)
  (a51:PySem.W.nsIn K mainGlobals "row_data"=some (some (.ref f51))) (l51:K.lookup f51=some ⟨oc51,od51,.func (PySem.W.fnOf "row_data" "row_data" (Aq Fh) (Ap Fh) (AD Fh) .none kV51 dc51 pm51 an51 cd51 ct51),sl51⟩) (c51:PySem.W.codeIn K cd51 "row_data"=true) (k51:PySem.W.keepIn K (.ref f51)=true)
  (a52:PySem.W.nsIn K mainGlobals "row_x"=some (some (.ref f52))) (l52:K.lookup f52=some ⟨oc52,od52,.func (PySem.W.fnOf "row_x" "row_x" (Aq JY) (Ap JY) (AD JY) .none kV52 dc52 pm52 an52 cd52 ct52),sl52⟩) (c52:PySem.W.codeIn K cd52 "row_x"=true) (k52:PySem.W.keepIn K (.ref f52)=true)
  (a53:PySem.W.nsIn K mainGlobals "row_y"=some (some (.ref f53))) (l53:K.lookup f53=some ⟨oc53,od53,.func (PySem.W.fnOf "row_y" "row_y" (Aq JX) (Ap JX) (AD JX) .none kV53 dc53 pm53 an53 cd53 ct53),sl53⟩) (c53:PySem.W.codeIn K cd53 "row_y"=true) (k53:PySem.W.keepIn K (.ref f53)=true)
  (a54:PySem.W.nsIn K mainGlobals "is_row"=some (some (.ref f54))) (l54:K.lookup f54=some ⟨oc54,od54,.func (PySem.W.fnOf "is_row" "is_row" (Aq CP) (Ap CP) (AD CP) .none kV54 dc54 pm54 an54 cd54 ct54),sl54⟩) (c54:PySem.W.codeIn K cd54 "is_row"=true) (k54:PySem.W.keepIn K (.ref f54)=true)
  (a55:PySem.W.nsIn K mainGlobals "_law_right"=some (some (.ref f55))) (l55:K.lookup f55=some ⟨oc55,od55,.func (PySem.W.fnOf "_law_right" "_law_right" (Aq DN) (Ap DN) (AD DN) .none kV55 dc55 pm55 an55 cd55 ct55),sl55⟩) (c55:PySem.W.codeIn K cd55 "_law_right"=true) (k55:PySem.W.keepIn K (.ref f55)=true)
  (a56:PySem.W.nsIn K mainGlobals "law"=some (some (.ref f56))) (l56:K.lookup f56=some ⟨oc56,od56,.func (PySem.W.fnOf "law" "law" (Aq El) (Ap El) (AD El) .none kV56 dc56 pm56 an56 cd56 ct56),sl56⟩) (c56:PySem.W.codeIn K cd56 "law"=true) (k56:PySem.W.keepIn K (.ref f56)=true)
  (z_abs:PySem.W.nsIn K mainGlobals "abs"=some none)
  (z_all:PySem.W.nsIn K mainGlobals "all"=some none)
  (z_bool:PySem.W.nsIn K mainGlobals "bool"=some none)
  (z_int:PySem.W.nsIn K mainGlobals "int"=some none)
  (z_isinstance:PySem.W.nsIn K mainGlobals "isinstance"=some none)
  (z_len:PySem.W.nsIn K mainGlobals "len"=some none)
  (z_list:PySem.W.nsIn K mainGlobals "list"=some none)
  (z_max:PySem.W.nsIn K mainGlobals "max"=some none)
  (z_min:PySem.W.nsIn K mainGlobals "min"=some none)
  (z_range:PySem.W.nsIn K mainGlobals "range"=some none)
  (z_str:PySem.W.nsIn K mainGlobals "str"=some none)
  (z_tuple:PySem.W.nsIn K mainGlobals "tuple"=some none)
  {ad_FORMS:Addr} {es_FORMS:Array DictEntry} {nn_FORMS:Nat} (kn_FORMS:PySem.W.nsIn K mainGlobals "FORMS"=some (some (.ref ad_FORMS))) (kl_FORMS:K.lookup ad_FORMS=some ⟨.type "dict",none,.dict es_FORMS nn_FORMS,#[]⟩) (kq_FORMS:KfL w es_FORMS.toList [("plate",f33),("band",f34),("word",f37),("stencil",f39),("group",f40),("glass",f41),("window",f43),("turn",f44),("tiles",f45),("mask",f40)]) (hs_FORMS:(ad_FORMS==sysModules)=false)
  {uv_NAME_SIGNS:Value} (kn_NAME_SIGNS:PySem.W.nsIn K mainGlobals "NAME_SIGNS"=some (some uv_NAME_SIGNS)) (kt_NAME_SIGNS:EB ⟨K,w⟩ (.str "abcdefghijklmnopqrstuvwxyz0123456789") uv_NAME_SIGNS=true)
  {ad_SIGNS:Addr} {es_SIGNS:Array DictEntry} {nn_SIGNS:Nat} (kn_SIGNS:PySem.W.nsIn K mainGlobals "SIGNS"=some (some (.ref ad_SIGNS))) (kl_SIGNS:K.lookup ad_SIGNS=some ⟨.type "dict",none,.dict es_SIGNS nn_SIGNS,#[]⟩) (kq_SIGNS:KdL ⟨K,w⟩ w es_SIGNS.toList Hs) (hs_SIGNS:(ad_SIGNS==sysModules)=false)
  : ∃fd:FuncData,(∀(s:Shared) (v:Value),BindsTo s fd ⟨[v],[]⟩ [("_law_script",v)])/\∀base:Heap,K.In base->base.Ns mainGlobals mg->FnOk l.prog w K mg base CX0 9 fa fd ["_law_script"] (spD ⟨K,w⟩ Qk false):=by
 have e:=hfa.symm.trans (PySem.W.mg_of X G a56)
 cases e
 have F0:=BY (st:=CW) l0 c0 k0
 have F1:=BY (st:=E6) l1 c1 k1
 have F2:=BY (st:=GI) l2 c2 k2
 have F3:=BY (st:=EO) l3 c3 k3
 have F4:=BY (st:=Cr) l4 c4 k4
 have F5:=BY (st:=CN) l5 c5 k5
 have F6:=BY (st:=BN) l6 c6 k6
 have F7:=BY (st:=Dg) l7 c7 k7
 have F8:=BY (st:=CV) l8 c8 k8
 have F9:=BY (st:=Au) l9 c9 k9
 have F10:=BY (st:=Gj) l10 c10 k10
 have F11:=BY (st:=Ax) l11 c11 k11
 have F12:=BY (st:=DJ) l12 c12 k12
 have F13:=BY (st:=Cm) l13 c13 k13
 have F14:=BY (st:=G4) l14 c14 k14
 have F15:=BY (st:=ER) l15 c15 k15
 have F16:=BY (st:=Bb) l16 c16 k16
 have F17:=BY (st:=Cd) l17 c17 k17
 have F18:=BY (st:=Ci) l18 c18 k18
 have F19:=BY (st:=Cb) l19 c19 k19
 have F20:=BY (st:=Ct) l20 c20 k20
 have F21:=BY (st:=B1) l21 c21 k21
 have F22:=BY (st:=BU) l22 c22 k22
 have F23:=BY (st:=Ce) l23 c23 k23
 have F24:=BY (st:=B0) l24 c24 k24
 have F25:=BY (st:=FP) l25 c25 k25
 have F26:=BY (st:=Ee) l26 c26 k26
 have F27:=BY (st:=Dw) l27 c27 k27
 have F28:=BY (st:=Cg) l28 c28 k28
 have F29:=BY (st:=BM) l29 c29 k29
 have F30:=BY (st:=CJ) l30 c30 k30
 have F31:=BY (st:=B9) l31 c31 k31
 have F32:=BY (st:=Dy) l32 c32 k32
 have F33:=BY (st:=Dx) l33 c33 k33
 have F34:=BY (st:=Er) l34 c34 k34
 have F35:=BY (st:=Fu) l35 c35 k35
 have F36:=BY (st:=B5) l36 c36 k36
 have F37:=BY (st:=Eo) l37 c37 k37
 have F38:=BY (st:=BW) l38 c38 k38
 have F39:=BY (st:=Cq) l39 c39 k39
 have F40:=BY (st:=FC) l40 c40 k40
 have F41:=BY (st:=Ef) l41 c41 k41
 have F42:=BY (st:=FA) l42 c42 k42
 have F43:=BY (st:=DH) l43 c43 k43
 have F44:=BY (st:=Ep) l44 c44 k44
 have F45:=BY (st:=Df) l45 c45 k45
 have F46:=BY (st:=DM) l46 c46 k46
 have F47:=BY (st:=Ff) l47 c47 k47
 have F48:=BY (st:=EN) l48 c48 k48
 have F49:=BY (st:=E5) l49 c49 k49
 have F50:=BY (st:=Fg) l50 c50 k50
 have F51:=BY (st:=Fh) l51 c51 k51
 have F52:=BY (st:=JY) l52 c52 k52
 have F53:=BY (st:=JX) l53 c53 k53
 have F54:=BY (st:=CP) l54 c54 k54
 have F55:=BY (st:=DN) l55 c55 k55
 have F56:=BY (st:=El) l56 c56 k56
 have b0:=F0.binds (ps:=["_law_big_here"]) fun _ _ _ _ _ _ us hl=>match us,hl with|[_],_=>rfl
 have b1:=F1.binds (ps:=["_law_big_here"]) fun _ _ _ _ _ _ us hl=>match us,hl with|[_],_=>rfl
 have b2:=F2.binds (ps:=["_law_rows","_law_name"]) fun _ _ _ _ _ _ us hl=>match us,hl with|[_,_],_=>rfl
 have b3:=F3.binds (ps:=["_law_top","_law_bottom"]) fun _ _ _ _ _ _ us hl=>match us,hl with|[_,_],_=>rfl
 have b4:=F4.binds (ps:=["_law_big_here"]) fun _ _ _ _ _ _ us hl=>match us,hl with|[_],_=>rfl
 have b5:=F5.binds (ps:=["_law_big_here"]) fun _ _ _ _ _ _ us hl=>match us,hl with|[_],_=>rfl
 have b6:=F6.binds (ps:=["_law_big_here"]) fun _ _ _ _ _ _ us hl=>match us,hl with|[_],_=>rfl
 have b7:=F7.binds (ps:=["_law_big_here","_law_most"]) fun _ _ _ _ _ _ us hl=>match us,hl with|[_,_],_=>rfl
 have b8:=F8.binds (ps:=["_law_big_here"]) fun _ _ _ _ _ _ us hl=>match us,hl with|[_],_=>rfl
 have b9:=F9.binds (ps:=["_law_kind","_law_big_here"]) fun _ _ _ _ _ _ us hl=>match us,hl with|[_,_],_=>rfl
 have b10:=F10.binds (ps:=[]) fun _ _ _ _ _ _ us hl=>match us,hl with|[],_=>rfl
 have b11:=F11.binds (ps:=["_law_rows","_law_big_here"]) fun _ _ _ _ _ _ us hl=>match us,hl with|[_,_],_=>rfl
 have b12:=F12.binds (ps:=["_law_script","_law_k"]) fun _ _ _ _ _ _ us hl=>match us,hl with|[_,_],_=>rfl
 have b13:=F13.binds (ps:=["_law_script","_law_at"]) fun _ _ _ _ _ _ us hl=>match us,hl with|[_,_],_=>rfl
 have b14:=F14.binds (ps:=["_law_big_here"]) fun _ _ _ _ _ _ us hl=>match us,hl with|[_],_=>rfl
 have b15:=F15.binds (ps:=["_law_place","_law_thing"]) fun _ _ _ _ _ _ us hl=>match us,hl with|[_,_],_=>rfl
 have b16:=F16.binds (ps:=["_law_row","_law_big_here"]) fun _ _ _ _ _ _ us hl=>match us,hl with|[_,_],_=>rfl
 have b17:=F17.binds (ps:=["_law_thing","_law_least","_law_most"]) fun _ _ _ _ _ _ us hl=>match us,hl with|[_,_,_],_=>rfl
 have b18:=F18.binds (ps:=["_law_thing"]) fun _ _ _ _ _ _ us hl=>match us,hl with|[_],_=>rfl
 have b19:=F19.binds (ps:=["_law_data","_law_many"]) fun _ _ _ _ _ _ us hl=>match us,hl with|[_,_],_=>rfl
 have b20:=F20.binds (ps:=["_law_thing","_law_signs","_law_least","_law_most"]) fun _ _ _ _ _ _ us hl=>match us,hl with|[_,_,_,_],_=>rfl
 have b21:=F21.binds (ps:=["_law_thing"]) fun _ _ _ _ _ _ us hl=>match us,hl with|[_],_=>rfl
 have b22:=F22.binds (ps:=["_law_kind","_law_data"]) fun _ _ _ _ _ _ us hl=>match us,hl with|[_,_],_=>rfl
 have b23:=F23.binds (ps:=["_law_row"]) fun _ _ _ _ _ _ us hl=>match us,hl with|[_],_=>rfl
 have b24:=F24.binds (ps:=["thing","signs","low","high"]) fun _ _ _ _ _ _ us hl=>match us,hl with|[_,_,_,_],_=>rfl
 have b25:=F25.binds (ps:=["thing"]) fun _ _ _ _ _ _ us hl=>match us,hl with|[_],_=>rfl
 have b26:=F26.binds (ps:=["thing"]) fun _ _ _ _ _ _ us hl=>match us,hl with|[_],_=>rfl
 have b27:=F27.binds (ps:=["thing"]) fun _ _ _ _ _ _ us hl=>match us,hl with|[_],_=>rfl
 have b28:=F28.binds (ps:=["thing","low","high"]) fun _ _ _ _ _ _ us hl=>match us,hl with|[_,_,_],_=>rfl
 have b29:=F29.binds (ps:=["one","other"]) fun _ _ _ _ _ _ us hl=>match us,hl with|[_,_],_=>rfl
 have b30:=F30.binds (ps:=["thing"]) fun _ _ _ _ _ _ us hl=>match us,hl with|[_],_=>rfl
 have b31:=F31.binds (ps:=["thing"]) fun _ _ _ _ _ _ us hl=>match us,hl with|[_],_=>rfl
 have b32:=F32.binds (ps:=["shade","share"]) fun _ _ _ _ _ _ us hl=>match us,hl with|[_,_],_=>rfl
 have b33:=F33.binds (ps:=["data"]) fun _ _ _ _ _ _ us hl=>match us,hl with|[_],_=>rfl
 have b34:=F34.binds (ps:=["data"]) fun _ _ _ _ _ _ us hl=>match us,hl with|[_],_=>rfl
 have b35:=F35.binds (ps:=["sign"]) fun _ _ _ _ _ _ us hl=>match us,hl with|[_],_=>rfl
 have b36:=F36.binds (ps:=["thing"]) fun _ _ _ _ _ _ us hl=>match us,hl with|[_],_=>rfl
 have b37:=F37.binds (ps:=["data"]) fun _ _ _ _ _ _ us hl=>match us,hl with|[_],_=>rfl
 have b38:=F38.binds (ps:=["thing"]) fun _ _ _ _ _ _ us hl=>match us,hl with|[_],_=>rfl
 have b39:=F39.binds (ps:=["data"]) fun _ _ _ _ _ _ us hl=>match us,hl with|[_],_=>rfl
 have b40:=F40.binds (ps:=["data"]) fun _ _ _ _ _ _ us hl=>match us,hl with|[_],_=>rfl
 have b41:=F41.binds (ps:=["data"]) fun _ _ _ _ _ _ us hl=>match us,hl with|[_],_=>rfl
 have b42:=F42.binds (ps:=["thing"]) fun _ _ _ _ _ _ us hl=>match us,hl with|[_],_=>rfl
 have b43:=F43.binds (ps:=["data"]) fun _ _ _ _ _ _ us hl=>match us,hl with|[_],_=>rfl
 have b44:=F44.binds (ps:=["data"]) fun _ _ _ _ _ _ us hl=>match us,hl with|[_],_=>rfl
 have b45:=F45.binds (ps:=["data"]) fun _ _ _ _ _ _ us hl=>match us,hl with|[_],_=>rfl
 have b46:=F46.binds (ps:=["kind","data"]) fun _ _ _ _ _ _ us hl=>match us,hl with|[_,_],_=>rfl
 have b47:=F47.binds (ps:=["row"]) fun _ _ _ _ _ _ us hl=>match us,hl with|[_],_=>rfl
 have b48:=F48.binds (ps:=["row"]) fun _ _ _ _ _ _ us hl=>match us,hl with|[_],_=>rfl
 have b49:=F49.binds (ps:=["row"]) fun _ _ _ _ _ _ us hl=>match us,hl with|[_],_=>rfl
 have b50:=F50.binds (ps:=["row"]) fun _ _ _ _ _ _ us hl=>match us,hl with|[_],_=>rfl
 have b51:=F51.binds (ps:=["row"]) fun _ _ _ _ _ _ us hl=>match us,hl with|[_],_=>rfl
 have b52:=F52.binds (ps:=["row"]) fun _ _ _ _ _ _ us hl=>match us,hl with|[_],_=>rfl
 have b53:=F53.binds (ps:=["row"]) fun _ _ _ _ _ _ us hl=>match us,hl with|[_],_=>rfl
 have b54:=F54.binds (ps:=["thing"]) fun _ _ _ _ _ _ us hl=>match us,hl with|[_],_=>rfl
 have b55:=F55.binds (ps:=["_law_row"]) fun _ _ _ _ _ _ us hl=>match us,hl with|[_],_=>rfl
 have y_abs:=PySem.W.mg_none_of X G z_abs
 have y_all:=PySem.W.mg_none_of X G z_all
 have y_bool:=PySem.W.mg_none_of X G z_bool
 have y_int:=PySem.W.mg_none_of X G z_int
 have y_isinstance:=PySem.W.mg_none_of X G z_isinstance
 have y_len:=PySem.W.mg_none_of X G z_len
 have y_list:=PySem.W.mg_none_of X G z_list
 have y_max:=PySem.W.mg_none_of X G z_max
 have y_min:=PySem.W.mg_none_of X G z_min
 have y_range:=PySem.W.mg_none_of X G z_range
 have y_str:=PySem.W.mg_none_of X G z_str
 have y_tuple:=PySem.W.mg_none_of X G z_tuple
 have kc_FORMS:=PySem.W.mg_of X G kn_FORMS
 have kf_FORMS:KF ⟨K,w⟩ w ad_FORMS [("plate",f33),("band",f34),("word",f37),("stencil",f39),("group",f40),("glass",f41),("window",f43),("turn",f44),("tiles",f45),("mask",f40)]:=⟨⟨es_FORMS,nn_FORMS,kl_FORMS,kq_FORMS⟩⟩
 have kc_NAME_SIGNS:=PySem.W.mg_of X G kn_NAME_SIGNS
 have kc_SIGNS:=PySem.W.mg_of X G kn_SIGNS
 have kd_SIGNS:KD ⟨K,w⟩ w ad_SIGNS Hs:=⟨⟨es_SIGNS,nn_SIGNS,kl_SIGNS,kq_SIGNS⟩⟩
 refine⟨PySem.W.fnOf "law" "law" (Aq El) (Ap El) (AD El) .none kV56 dc56 pm56 an56 cd56 ct56,fun s v=>.of_eq rfl,fun base _ _=>?_⟩
 have d57:Cal l.prog w K mg base 1 "_law_name_of" ["_law_big_here"] (spD ⟨K,w⟩ Gm false):=Cal.of F0 (UJ F0 y_range) b0 (PySem.W.mg_of X G a0)
 have c75:Cal l.prog w K mg base 1 "_law_step_of" ["_law_big_here"] (spD ⟨K,w⟩ Cj false):=Cal.of F1 (UH F1) b1 (PySem.W.mg_of X G a1)
 have d97:Cal l.prog w K mg base 1 "_law_up" ["_law_rows","_law_name"] (spD ⟨K,w⟩ Jk true):=Cal.of F2 (cR F2) b2 (PySem.W.mg_of X G a2)
 have d65:Cal l.prog w K mg base 1 "_law_low" ["_law_top","_law_bottom"] (spD ⟨K,w⟩ HB false):=Cal.of F3 (ai F3 y_abs) b3 (PySem.W.mg_of X G a3)
 have c91:Cal l.prog w K mg base 1 "_law_stencil_of" ["_law_big_here"] (spD ⟨K,w⟩ Et false):=Cal.of F6 (Pe F6 y_range y_tuple) b6 (PySem.W.mg_of X G a6)
 have d58:Cal l.prog w K mg base 1 "_law_size_of" ["_law_big_here","_law_most"] (spD ⟨K,w⟩ Dj false):=Cal.of F7 (UI F7) b7 (PySem.W.mg_of X G a7)
 have d59:Cal l.prog w K mg base 1 "_law_word_of" ["_law_big_here"] (spD ⟨K,w⟩ Gk false):=Cal.of F8 (UG F8 y_range) b8 (PySem.W.mg_of X G a8)
 have d80:Cal l.prog w K mg base 1 "_law_kinds" [] (spD ⟨K,w⟩ Fw false):=Cal.of F10 (XX F10) b10 (PySem.W.mg_of X G a10)
 have d60:Cal l.prog w K mg base 1 "_law_cell_at" ["_law_script","_law_k"] (spD ⟨K,w⟩ EW false):=Cal.of F12 (UN F12 y_len) b12 (PySem.W.mg_of X G a12)
 have d92:Cal l.prog w K mg base 1 "_law_odd" ["_law_big_here"] (spD ⟨K,w⟩ Ko false):=Cal.of F14 (ag F14 y_len) b14 (PySem.W.mg_of X G a14)
 have d87:Cal l.prog w K mg base 1 "_law_fits" ["_law_place","_law_thing"] (spD ⟨K,w⟩ J5 false):=Cal.of F15 (ZH F15 y_str y_isinstance y_tuple y_int) b15 (PySem.W.mg_of X G a15)
 have c64:Cal l.prog w K mg base 1 "_law_within" ["_law_thing","_law_least","_law_most"] (spD ⟨K,w⟩ A2 false):=Cal.of F17 (Vy F17 y_bool y_isinstance y_int) b17 (PySem.W.mg_of X G a17)
 have c70:Cal l.prog w K mg base 1 "_law_is_of" ["_law_thing","_law_signs","_law_least","_law_most"] (spD ⟨K,w⟩ EK false):=Cal.of F20 (XY F20 y_len y_str y_isinstance) b20 (PySem.W.mg_of X G a20)
 have c71:Cal l.prog w K mg base 1 "is_text_of" ["thing","signs","low","high"] (spD ⟨K,w⟩ CA false):=Cal.of F24 (Rn F24 y_len y_str y_isinstance y_all) b24 (PySem.W.mg_of X G a24)
 have c82:Cal l.prog w K mg base 1 "is_truth" ["thing"] (spD ⟨K,w⟩ HY false):=Cal.of F26 (Vr F26 y_bool y_isinstance) b26 (PySem.W.mg_of X G a26)
 have c83:Cal l.prog w K mg base 1 "is_whole" ["thing"] (spD ⟨K,w⟩ Fm false):=Cal.of F27 (Vq F27 y_bool y_isinstance y_int) b27 (PySem.W.mg_of X G a27)
 have c80:Cal l.prog w K mg base 1 "common_divisor" ["one","other"] (spD ⟨K,w⟩ C1 false):=Cal.of F29 (NW F29 y_abs) b29 (PySem.W.mg_of X G a29)
 have d81:Cal l.prog w K mg base 1 "is_sign" ["sign"] (spD ⟨K,w⟩ EI false):=Cal.of F35 (XR F35 kc_SIGNS kd_SIGNS hs_SIGNS) b35 (PySem.W.mg_of X G a35)
 have c65:Cal l.prog w K mg base 1 "is_empty" ["data"] (spD ⟨K,w⟩ D0 false):=Cal.of F40 (Vx F40 y_len) b40 (PySem.W.mg_of X G a40)
 have d71:Cal l.prog w K mg base 1 "row_name" ["row"] (spD ⟨K,w⟩ HX false):=Cal.of F47 (Vn F47) b47 (PySem.W.mg_of X G a47)
 have d00:Cal l.prog w K mg base 1 "row_holder" ["row"] (spD ⟨K,w⟩ C9 false):=Cal.of F48 (Rm F48) b48 (PySem.W.mg_of X G a48)
 have d61:Cal l.prog w K mg base 1 "row_shown" ["row"] (spD ⟨K,w⟩ Hu false):=Cal.of F49 (UB F49) b49 (PySem.W.mg_of X G a49)
 have d72:Cal l.prog w K mg base 1 "row_kind" ["row"] (spD ⟨K,w⟩ Iw false):=Cal.of F50 (Vo F50) b50 (PySem.W.mg_of X G a50)
 have d73:Cal l.prog w K mg base 1 "row_data" ["row"] (spD ⟨K,w⟩ Iy false):=Cal.of F51 (Vp F51) b51 (PySem.W.mg_of X G a51)
 have d93:Cal l.prog w K mg base 1 "row_x" ["row"] (spD ⟨K,w⟩ L4 false):=Cal.of F52 (af F52) b52 (PySem.W.mg_of X G a52)
 have d94:Cal l.prog w K mg base 1 "row_y" ["row"] (spD ⟨K,w⟩ L3 false):=Cal.of F53 (ae F53) b53 (PySem.W.mg_of X G a53)
 have d01:Cal l.prog w K mg base 2 "_law_share_of" ["_law_big_here"] (spD ⟨K,w⟩ FE false):=Cal.of F4 (Rp F4 (d65.mono (by decide))) b4 (PySem.W.mg_of X G a4)
 have d95:Cal l.prog w K mg base 2 "_law_big" ["_law_script","_law_at"] (spD ⟨K,w⟩ Fz false):=Cal.of F13 (aj F13 (d60.mono (by decide)) y_range) b13 (PySem.W.mg_of X G a13)
 have d74:Cal l.prog w K mg base 2 "_law_spoilt" ["_law_row","_law_big_here"] (spD ⟨K,w⟩ C2 false):=Cal.of F16 (Vz F16 (d92.mono (by decide)) (d87.mono (by decide)) y_list y_len y_tuple) b16 (PySem.W.mg_of X G a16)
 have c76:Cal l.prog w K mg base 2 "_law_is_part" ["_law_thing"] (spD ⟨K,w⟩ Dk false):=Cal.of F18 (UK F18 (c64.mono (by decide)) (d65.mono (by decide)) y_len y_tuple y_isinstance) b18 (PySem.W.mg_of X G a18)
 have d02:Cal l.prog w K mg base 2 "_law_are_rows" ["_law_thing"] (spD ⟨K,w⟩ GA false):=Cal.of F21 (Ru F21 (c70.mono (by decide)) y_len y_tuple y_isinstance y_min y_max) b21 (PySem.W.mg_of X G a21)
 have d82:Cal l.prog w K mg base 2 "is_name" ["thing"] (spD ⟨K,w⟩ EJ false):=Cal.of F25 (XS F25 (c71.mono (by decide)) kc_NAME_SIGNS kt_NAME_SIGNS) b25 (PySem.W.mg_of X G a25)
 have c04:Cal l.prog w K mg base 2 "is_within" ["thing","low","high"] (spD ⟨K,w⟩ BV false):=Cal.of F28 (UC F28 (c83.mono (by decide))) b28 (PySem.W.mg_of X G a28)
 have d75:Cal l.prog w K mg base 2 "is_share" ["thing"] (spD ⟨K,w⟩ FD false):=Cal.of F30 (Vs F30 (c83.mono (by decide)) (c80.mono (by decide)) y_len y_tuple y_isinstance) b30 (PySem.W.mg_of X G a30)
 have c92:Cal l.prog w K mg base 2 "is_word_text" ["thing"] (spD ⟨K,w⟩ DK false):=Cal.of F36 (Pd F36 (d81.mono (by decide)) y_len y_str y_isinstance y_all) b36 (PySem.W.mg_of X G a36)
 have c72:Cal l.prog w K mg base 2 "are_stencil_rows" ["thing"] (spD ⟨K,w⟩ CL false):=Cal.of F38 (L7 F38 (c71.mono (by decide)) y_len y_tuple y_isinstance y_all) b38 (PySem.W.mg_of X G a38)
 have d03:Cal l.prog w K mg base 3 "_law_paint_of" ["_law_big_here"] (spD ⟨K,w⟩ EU false):=Cal.of F5 (Rq F5 (d01.mono (by decide))) b5 (PySem.W.mg_of X G a5)
 have d04:Cal l.prog w K mg base 3 "_law_is_paint" ["_law_data","_law_many"] (spD ⟨K,w⟩ B4 false):=Cal.of F19 (Rr F19 (c76.mono (by decide)) y_len) b19 (PySem.W.mg_of X G a19)
 have c57:Cal l.prog w K mg base 3 "is_bounded_share" ["thing"] (spD ⟨K,w⟩ Br false):=Cal.of F31 (L6 F31 (d75.mono (by decide))) b31 (PySem.W.mg_of X G a31)
 have c84:Cal l.prog w K mg base 3 "is_place" ["thing"] (spD ⟨K,w⟩ CT false):=Cal.of F42 (Vu F42 (c04.mono (by decide))) b42 (PySem.W.mg_of X G a42)
 have c95:Cal l.prog w K mg base 3 "is_turn" ["data"] (spD ⟨K,w⟩ FT false):=Cal.of F44 (XQ F44 (c82.mono (by decide)) (c04.mono (by decide)) y_len) b44 (PySem.W.mg_of X G a44)
 have c77:Cal l.prog w K mg base 3 "are_tiles" ["data"] (spD ⟨K,w⟩ Di false):=Cal.of F45 (UE F45 (c04.mono (by decide)) y_len) b45 (PySem.W.mg_of X G a45)
 have d62:Cal l.prog w K mg base 4 "_law_data_of" ["_law_kind","_law_big_here"] (spD ⟨K,w⟩ B2 false):=Cal.of F9 (UM F9 (d58.mono (by decide)) (c75.mono (by decide)) (d03.mono (by decide)) (d59.mono (by decide)) (c91.mono (by decide))) b9 (PySem.W.mg_of X G a9)
 have d63:Cal l.prog w K mg base 4 "_law_is_data" ["_law_kind","_law_data"] (spD ⟨K,w⟩ EV false):=Cal.of F22 (UL F22 (c76.mono (by decide)) (c64.mono (by decide)) (c70.mono (by decide)) (d04.mono (by decide)) (d02.mono (by decide)) y_len y_bool y_isinstance) b22 (PySem.W.mg_of X G a22)
 have c59:Cal l.prog w K mg base 4 "is_paint" ["shade","share"] (spD ⟨K,w⟩ CU false):=Cal.of F32 (Vv F32 (c57.mono (by decide))) b32 (PySem.W.mg_of X G a32)
 have c85:Cal l.prog w K mg base 4 "is_glass" ["data"] (spD ⟨K,w⟩ Ei false):=Cal.of F41 (Vw F41 (c57.mono (by decide)) y_len) b41 (PySem.W.mg_of X G a41)
 have c78:Cal l.prog w K mg base 4 "is_window" ["data"] (spD ⟨K,w⟩ Dh false):=Cal.of F43 (UD F43 (c84.mono (by decide)) (c04.mono (by decide)) y_len) b43 (PySem.W.mg_of X G a43)
 have d76:Cal l.prog w K mg base 5 "_law_row_of" ["_law_rows","_law_big_here"] (spD ⟨K,w⟩ FF false):=Cal.of F11 (V0 F11 (d57.mono (by decide)) (d97.mono (by decide)) (d80.mono (by decide)) (c75.mono (by decide)) (d62.mono (by decide)) y_len) b11 (PySem.W.mg_of X G a11)
 have c86:Cal l.prog w K mg base 5 "_law_is_row" ["_law_row"] (spD ⟨K,w⟩ DY false):=Cal.of F23 (V1 F23 (c70.mono (by decide)) (c64.mono (by decide)) (d63.mono (by decide)) y_bool y_isinstance) b23 (PySem.W.mg_of X G a23)
 have c87:Cal l.prog w K mg base 5 "is_plate" ["data"] (spD ⟨K,w⟩ Eh false):=Cal.of F33 (Vt F33 (c59.mono (by decide)) (c04.mono (by decide)) y_len) b33 (PySem.W.mg_of X G a33)
 have c96:Cal l.prog w K mg base 5 "is_band" ["data"] (spD ⟨K,w⟩ FU false):=Cal.of F34 (XU F34 (c59.mono (by decide)) (c04.mono (by decide)) y_len) b34 (PySem.W.mg_of X G a34)
 have c97:Cal l.prog w K mg base 5 "is_word" ["data"] (spD ⟨K,w⟩ FR false):=Cal.of F37 (XO F37 (c59.mono (by decide)) (c92.mono (by decide)) y_len) b37 (PySem.W.mg_of X G a37)
 have c73:Cal l.prog w K mg base 5 "is_stencil" ["data"] (spD ⟨K,w⟩ DC false):=Cal.of F39 (Ro F39 (c59.mono (by decide)) (c72.mono (by decide)) y_len) b39 (PySem.W.mg_of X G a39)
 have d83:Cal l.prog w K mg base 6 "is_data" ["kind","data"] (spD ⟨K,w⟩ Es false):=Cal.of F46 (XT F46 (c87.mono (by decide)) (c96.mono (by decide)) (c97.mono (by decide)) (c73.mono (by decide)) (c65.mono (by decide)) (c85.mono (by decide)) (c78.mono (by decide)) (c95.mono (by decide)) (c77.mono (by decide)) y_tuple y_isinstance y_str kc_FORMS kf_FORMS hs_FORMS (.cons ⟨_,_,c87.mono (by decide),PySem.W.mg_of X G a33⟩ (.cons ⟨_,_,c96.mono (by decide),PySem.W.mg_of X G a34⟩ (.cons ⟨_,_,c97.mono (by decide),PySem.W.mg_of X G a37⟩ (.cons ⟨_,_,c73.mono (by decide),PySem.W.mg_of X G a39⟩ (.cons ⟨_,_,c65.mono (by decide),PySem.W.mg_of X G a40⟩ (.cons ⟨_,_,c85.mono (by decide),PySem.W.mg_of X G a41⟩ (.cons ⟨_,_,c78.mono (by decide),PySem.W.mg_of X G a43⟩ (.cons ⟨_,_,c95.mono (by decide),PySem.W.mg_of X G a44⟩ (.cons ⟨_,_,c77.mono (by decide),PySem.W.mg_of X G a45⟩ (.cons ⟨_,_,c65.mono (by decide),PySem.W.mg_of X G a40⟩ .nil))))))))))) b46 (PySem.W.mg_of X G a46)
 have d88:Cal l.prog w K mg base 7 "is_row" ["thing"] (spD ⟨K,w⟩ Hv false):=Cal.of F54 (ZG F54 (d82.mono (by decide)) (d71.mono (by decide)) (d00.mono (by decide)) (c84.mono (by decide)) (d94.mono (by decide)) (d93.mono (by decide)) (d83.mono (by decide)) (d73.mono (by decide)) (d72.mono (by decide)) (c82.mono (by decide)) (d61.mono (by decide)) y_len y_tuple y_isinstance) b54 (PySem.W.mg_of X G a54)
 have d84:Cal l.prog w K mg base 8 "_law_right" ["_law_row"] (spD ⟨K,w⟩ CZ false):=Cal.of F55 (XW F55 (d88.mono (by decide)) (c86.mono (by decide)) y_bool y_isinstance) b55 (PySem.W.mg_of X G a55)
 exact fZ F56 (d76.mono (by decide)) (d95.mono (by decide)) (d74.mono (by decide)) (d84.mono (by decide)) (c86.mono (by decide)) y_len y_min y_max y_range
theorem entry{K:KW}{H:Hp}{a:Addr}{ns:List Int}{Q:VK}{X:XK}(hS:SqL K H a (ns.map V.int))(h63:ns.length<=63)(q:∀H',Q (.bl true) H'):spD K Qk false [.ref a] H Q X:=by
 obtain⟨ls,e⟩:=WN ns h63
 refine⟨fun _=>False,fun _=>False,[.c (ns.map PyData.int)],.bool true,ls,⟨rfl,fun i x e=>?_,fun i x e=>?_,fun i x e=>?_,fun i j xs ys b e=>?_,fun _ h=>h.elim,fun _ h=>h.elim,GR.nil fun i x e=>?_⟩,e,fun v H' _ _ res=>?_⟩
 ·match i,e with
  |0,e=>cases e
  |i+1,e=>cases e
 ·match i,e with
  |0,e=>exact absurd (Option.some.inj (Option.some.inj e)).symm Ow.not_c
  |i+1,e=>cases e
 ·match i,e with
  |0,e =>
   cases e
   exact⟨a,ns.map V.int,rfl,bc hS,WV ns⟩
  |i+1,e=>cases e
 ·match i,e with
  |0,e=>exact absurd (Option.some.inj (Option.some.inj e)).symm Ow.not_c
  |i+1,e=>cases e
 ·match i,e with
  |0,e=>cases e
  |i+1,e=>cases e
 ·cases (show v = .bl true from res)
  exact q H'
theorem walk{l:PySem.W.OpenLaw}{q:Program}{loose:List Str}{XP:(Str->Option Value)->Heap->Prop}{YP:World->Heap->Prop}{d:DefRec}{K:Params->PySem.W.Frag}(hn:l.most=some 63)(hdf:d.params.defaults=[])
  (hY:∀(w:World) (h:Heap),YP w h->(K w.params).In h)
  (F : ∀ (w : World) (mg : Str -> Option Value) (fa : Addr) (h : Heap), (K w.params).In h -> h.Ns mainGlobals mg -> mg d.name = some (.ref fa) ->
   ∃fd:FuncData,(∀(s:Shared) (u:Value),BindsTo s fd ⟨[u],[]⟩ [("_law_script",u)])/\∀base:Heap,(K w.params).In base->base.Ns mainGlobals mg->FnOk l.prog w (K w.params) mg base CX0 9 fa fd ["_law_script"] (spD ⟨K w.params,w⟩ Qk false)) :
  PySem.W.WalkO q loose XP YP l.row.toRowW d [] (fun f vs=>PySem.call f vs) :=
 L2.walk_of (n:=63) (k:=9) (x:="_law_script") (CX:=fun _=>CX0) (sp:=fun w=>spD ⟨K w.params,w⟩ Qk false) hn (by decide) hdf ⟨rfl,by decide,by decide⟩ hY F (fun _ _ a ns hl _ hS=>entry hS hl fun _=>rfl) fun _ _ _ _ _ z=>z
end My
namespace PySem.W.Fast
def tw17806449183298697955:=0
def tw8178829413022842155:=0
def tw15310465769830628288:=0
def tw15051935854578899120:=0
def tw9031173844687963349:=0
def tw8499572107541155397:=0
def tw7587831714020353125:=0
def tw5658516718372611349:=0
def tw2226250862496040137:=0
def tw14168741691522392449:=0
def tw7760385938445835066:=0
def tw6125372013606579038:=0
def tw1933774067338864274:=0
def tw285417605468520251:=0
def tw15341860054753107180:=0
def tw9868214337619782103:=0
def tw6726023800189408928:=0
def tw3868562135125259697:=0
def tw3093412784166405126:=0
def tw3303298861892902632:=0
def tw14519353153088099895:=0
def tw16790556651131480533:=0
def tw1442290676311535659:=0
def tw2457848039194079132:=0
def tw84462285025086421:=0
def tw16944667498327105395:=0
def tw1575085744675173386:=0
def tw7123018575205715301:=0
def tw13182014346144643860:=0
def tw6377499596404180012:=0
def tw13314871493153631218:=0
def tw15518331570569798614:=0
def tw3609206036329242630:=0
def tw8424228784588162640:=0
def tw7050034346883371709:=0
def tw5633814529486873808:=0
def tw9346254013437739695:=0
def tw14202633493300931895:=0
def tw7100172330507422085:=0
def tw5262582219100118026:=0
def tw4825336617562375929:=0
def tw6033999180037864612:=0
def tw4631490503700833050:=0
def tw12948763672997367643:=0
def tw10220389423193300454:=0
def tw12798909208028767894:=0
def tw13051075043782512935:=0
def tw16629934653400757733:=0
def tw7156458113757277960:=0
def tw17229300856878270719:=0
def tw16604644118521827910:=0
def tw1920274203261100008:=0
def tw5836946044332647118:=0
def tw18346952854104507146:=0
def tw9493791944563834707:=0
def tw3878063863973507298:=0
def tw12284130042645702092:=0
def tw10702771000396682677:=0
def tw5508734206747418321:=0
def tw807937551669095459:=0
def tw13917722949000082926:=0
def tw4729566364012268239:=0
def tw7342754496259337812:=0
def tw12839780512633511580:=0
def tw4542173499254121401:=0
def tw8982432448185108542:=0
def tw1128698387029672812:=0
def tw17287806205573298346:=0
def tw10848245014793337957:=0
def tw4023365531079560962:=0
def tw3287744225316169398:=0
def tw11543536360353294431:=0
def tw3182030468276526080:=0
def tw14333809660673457566:=0
def tw1518958179414483206:=0
def tw9636662993917850003:=0
def tw4201766309697175064:=0
def tw11109273654594734261:=0
def tw3624967651928551224:=0
def tw8187702268382710533:=0
def tw9737151582821342098:=0
def tw4227146461284548193:=0
def tw13191158575770106731:=0
def tw3041986295831497103:=0
def tw9917363686881080959:=0
def tw11057896140607877955:=0
def tw5757824569574957780:=0
def tw6227682582735292659:=0
def tw7291798148985743481:=0
def tw1793651086148434061:=0
def tw3954696045333621733:=0
def tw11082524738449324961:=0
def tw4097155419435528503:=0
def tw2143370369506322932:=0
def tw5554231417437795184:=0
def tw16512963127768584293:=0
def tw5077864356827882617:=0
def tw11963588586966347834:=0
def tw6689529984140986536:=0
def tw527713266171630916:=0
def tw1041686675734140037:=0
def tw8683578214026150261:=0
def tw1759476825287923470:=0
def tw11891499082129565390:=0
def tw17079629356605158932:=0
def tw9164613249432772468:=0
def tw12658538331717659742:=0
def tw11858861093036308985:=0
def tw12820541855458774245:=0
def tw12432369756731264223:=0
def tw18194184916975646831:=0
def tw12746418169638040764:=0
def tw2872247745095865116:=0
def tw12453615164954916739:=0
def tw1748279533723353688:=0
def tw7518060541175388883:=0
def tw5288689621715570533:=0
def tw16100398056772997038:=0
def tw12135425208725568072:=0
def tw13029181846794249232:=0
def tw2885945963247536636:=0
def tw4139771406633127001:=0
def tw220060329279912897:=0
end PySem.W.Fast
open PySem PySem.W PyProof.Rows
set_option maxRecDepth 100000 in
set_option maxHeartbeats 0 in
theorem PySem.Challenge.cw_scenemend_k25_rows_of_parts_holds : PySem.Challenge.rw_scenemend_k25_rows_of_parts.Holds := by
 w_on;o_law;k_head;(case hw=>w_witness2)
 k_fill
 refine My.walk (l:=PySem.Challenge.rw_scenemend_k25_rows_of_parts) rfl rfl (fun w h Y=>PySem.W.kIn_of Y) ?F
 case F =>
  intro w mg fa h KX G hmg
  refine' My.all_mk KX G hmg ?a0 ?l0 ?c0 ?k0 ?a1 ?l1 ?c1 ?k1 ?a2 ?l2 ?c2 ?k2 ?a3 ?l3 ?c3 ?k3 ?a4 ?l4 ?c4 ?k4 ?a5 ?l5 ?c5 ?k5 ?a6 ?l6 ?c6 ?k6 ?a7 ?l7 ?c7 ?k7 ?a8 ?l8 ?c8 ?k8 ?a9 ?l9 ?c9 ?k9 ?a10 ?l10 ?c10 ?k10 ?a11 ?l11 ?c11 ?k11 ?a12 ?l12 ?c12 ?k12 ?a13 ?l13 ?c13 ?k13 ?a14 ?l14 ?c14 ?k14 ?a15 ?l15 ?c15 ?k15 ?a16 ?l16 ?c16 ?k16 ?a17 ?l17 ?c17 ?k17 ?a18 ?l18 ?c18 ?k18 ?a19 ?l19 ?c19 ?k19 ?a20 ?l20 ?c20 ?k20 ?a21 ?l21 ?c21 ?k21 ?a22 ?l22 ?c22 ?k22 ?a23 ?l23 ?c23 ?k23 ?a24 ?l24 ?c24 ?k24 ?a25 ?l25 ?c25 ?k25 ?a26 ?l26 ?c26 ?k26 ?a27 ?l27 ?c27 ?k27 ?a28 ?l28 ?c28 ?k28 ?a29 ?l29 ?c29 ?k29 ?a30 ?l30 ?c30 ?k30 ?a31 ?l31 ?c31 ?k31 ?a32 ?l32 ?c32 ?k32 ?a33 ?l33 ?c33 ?k33 ?a34 ?l34 ?c34 ?k34 ?a35 ?l35 ?c35 ?k35 ?a36 ?l36 ?c36 ?k36 ?a37 ?l37 ?c37 ?k37 ?a38 ?l38 ?c38 ?k38 ?a39 ?l39 ?c39 ?k39 ?a40 ?l40 ?c40 ?k40 ?a41 ?l41 ?c41 ?k41 ?a42 ?l42 ?c42 ?k42 ?a43 ?l43 ?c43 ?k43 ?a44 ?l44 ?c44 ?k44 ?a45 ?l45 ?c45 ?k45 ?a46 ?l46 ?c46 ?k46 ?a47 ?l47 ?c47 ?k47 ?a48 ?l48 ?c48 ?k48 ?a49 ?l49 ?c49 ?k49 ?a50 ?l50 ?c50 ?k50 ?a51 ?l51 ?c51 ?k51 ?a52 ?l52 ?c52 ?k52 ?a53 ?l53 ?c53 ?k53 ?a54 ?l54 ?c54 ?k54 ?a55 ?l55 ?c55 ?k55 ?a56 ?l56 ?c56 ?k56 ?z_abs ?z_all ?z_bool ?z_int ?z_isinstance ?z_len ?z_list ?z_max ?z_min ?z_range ?z_str ?z_tuple ?kn_FORMS ?kl_FORMS ?kq_FORMS ?hs_FORMS ?kn_NAME_SIGNS ?kt_NAME_SIGNS ?kn_SIGNS ?kl_SIGNS ?kq_SIGNS ?hs_SIGNS
  (case a0|l0|c0|k0|a1|l1|c1|k1|a2|l2|c2|k2|a3|l3|c3|k3|a4|l4|c4|k4|a5|l5|c5|k5|a6|l6|c6|k6|a7|l7|c7|k7|a8|l8|c8|k8|a9|l9|c9|k9|a10|l10|c10|k10|a11|l11|c11|k11|a12|l12|c12|k12|a13|l13|c13|k13|a14|l14|c14|k14|a15|l15|c15|k15|a16|l16|c16|k16|a17|l17|c17|k17|a18|l18|c18|k18|a19|l19|c19|k19|a20|l20|c20|k20|a21|l21|c21|k21|a22|l22|c22|k22|a23|l23|c23|k23|a24|l24|c24|k24|a25|l25|c25|k25|a26|l26|c26|k26|a27|l27|c27|k27|a28|l28|c28|k28|a29|l29|c29|k29|a30|l30|c30|k30|a31|l31|c31|k31|a32|l32|c32|k32|a33|l33|c33|k33|a34|l34|c34|k34|a35|l35|c35|k35|a36|l36|c36|k36|a37|l37|c37|k37|a38|l38|c38|k38|a39|l39|c39|k39|a40|l40|c40|k40|a41|l41|c41|k41|a42|l42|c42|k42|a43|l43|c43|k43|a44|l44|c44|k44|a45|l45|c45|k45|a46|l46|c46|k46|a47|l47|c47|k47|a48|l48|c48|k48|a49|l49|c49|k49|a50|l50|c50|k50|a51|l51|c51|k51|a52|l52|c52|k52|a53|l53|c53|k53|a54|l54|c54|k54|a55|l55|c55|k55|a56|l56|c56|k56|z_abs|z_all|z_bool|z_int|z_isinstance|z_len|z_list|z_max|z_min|z_range|z_str|z_tuple|kn_FORMS|kl_FORMS=>k_is)
  (case kq_FORMS=>(repeat' (first|exact trivial|(refine And.intro ⟨_,rfl⟩ (And.intro rfl (And.intro rfl ?_))))))
  (case hs_FORMS=>kernel_rfl)
  (case kn_NAME_SIGNS=>k_is)
  (case kt_NAME_SIGNS=>kernel_rfl)
  (case kn_SIGNS|kl_SIGNS=>k_is)
  (case kq_SIGNS=>(repeat' (first|exact trivial|(refine And.intro ⟨_,rfl⟩ (And.intro rfl (And.intro ?_ ?_)))|kernel_rfl)))
  (case hs_SIGNS=>kernel_rfl)
