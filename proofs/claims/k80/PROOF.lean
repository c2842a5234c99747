import PyProof.Rows.All
import Wide.All
import OpenK.AllK
import Wide.FinOn
import Lean
import PyProof.EqAt
import PyProof.EqKinds
import PyProof.TupleCall
import KE.KSortTup
import PyProof.EnumMake
import PyProof.EnumStmt
import PyProof.EnumFor
import PyProof.TupleKey
import PyProof.Rows.SetFrom
import PyProof.IsRules
import PyProof.DictWalks
import PyProof.FactsAll.set
import PyProof.CollectIter
import PyProof.ConsumeS
import PySem.SetOps
import KE.KDictList
import PyProof.DictRoadsH
import PyProof.DictFindH
import PyProof.Rows.SortRuns
import PyProof.Draws
import PyProof.Rows.TupIter
import PyProof.Rows.FStr
import PyProof.StrCalls2
import PyProof.SliceStr2
import PyProof.StrBlockI
import PyProof.StrLawsNeg
import PyProof.StrLawsJoin
import KE.KIntText
import PyProof.RaisesStr
import PyProof.ConsumeWalk
import PyProof.WalkInts
import PyProof.DictUpdate
import KE.KDictOf
import PyProof.Rows.Range3
import PyProof.DictTable
import PyProof.ListMulRoad
import PyProof.FactsAll.tuple_2
import PyProof.StrCalls3
import PySem.Challenge.RW_scenemend_k80_scenes_written
set_option Elab.async false
set_option linter.all false
set_option maxRecDepth 100000
theorem oB{α β:Type}{x:Option α}{f:α->Option β}{b:β}(h:x.bind f=some b):∃a,x=some a/\f a=some b:=Option.bind_eq_some_iff.mp h
theorem oM{α β:Type}{x:Option α}{f:α->β}{b:β}(h:x.map f=some b):∃a,x=some a/\f a=b:=Option.map_eq_some_iff.mp h
abbrev A':=@Option.some.inj
abbrev B':=@List.length_map
abbrev E':=@PySem.Heap.get?_push_of_some
abbrev F':=@List.getElem?_eq_some_iff
abbrev G':=@List.getElem?_map
abbrev J':=@Nat.le_refl
abbrev K':=@Bool.and_eq_true
abbrev L':=@List.mem_cons_self
abbrev O':=@List.mem_cons_of_mem
abbrev P':=@PySem.Heap.lt_size
abbrev R':=@PySem.Heap.get?_push_size
abbrev T':=@List.length_append
abbrev U':=@List.getElem?_set_self
abbrev V':=@List.size_toArray
abbrev W':=@Nat.le_trans
abbrev X':=@List.map_cons
abbrev Y':=@List.getElem?_set_ne
abbrev Z':=@List.mem_cons
abbrev aN:=@Nat.lt_of_lt_of_le
abbrev aO:=@List.mem_of_getElem?
abbrev aP:=@Bool.false_ne_true
abbrev aQ:=@List.mem_append_right
abbrev aR:=@List.length_cons
abbrev aS:=@List.getElem?_append_left
abbrev aT:=@List.mem_singleton
abbrev aU:=@List.length_set
abbrev aV:=@List.getElem?_append_right
abbrev aW:=@PySem.W.mg_none_of
abbrev aX:=@List.getElem?_eq_getElem
abbrev aY:=@PySem.W.kia_one
abbrev aZ:=@List.all_eq_true
abbrev aa:=@Int.emod_lt_of_pos
abbrev ae:=@List.mem_reverse
abbrev af:=@Array.toList_append
abbrev ai:=@Nat.ne_of_lt
abbrev aj:=@List.getElem?_replicate
abbrev ak:=@Int.emod_nonneg
abbrev ao:=@PySem.Heap.get?_update_other
abbrev aq:=@List.length_range
abbrev au:=@List.mem_append
abbrev av:=@List.mem_map
abbrev aw:=@Array.mem_toList_iff
abbrev ax:=@Nat.lt_irrefl
abbrev ay:=@List.map_map
abbrev a9:=@Array.getElem?_eq_some_iff
abbrev bA:=@PySem.mem_of_lookup
abbrev bB:=@List.length_replicate
abbrev bC:=@PySem.StrLaws.glued_eq_join
abbrev bD:=@List.append_nil
abbrev bE:=@List.map_append
abbrev bF:=@List.filterMap_cons
abbrev bG:=@PyProof.Rows.callWith_type1
abbrev bH:=@Nat.zero_le
abbrev bI:=@List.lookup_cons
abbrev bJ:=@PySem.Obj.data_mapFields
abbrev bK:=@PySem.Str.cps_append
abbrev bL:=@List.drop_eq_getElem_cons
abbrev bM:=@List.mem_append_left
abbrev bN:=@List.append_assoc
abbrev bO:=@PySem.Str.length_append
abbrev bP:=@PySem.W.mg_of
abbrev bR:=@List.mem_singleton_self
abbrev bS:=@List.getElem?_cons_succ
abbrev bT:=@Nat.ne_of_gt
abbrev bU:=@Array.find?_toList
abbrev bV:=@PySem.F.plainAttrs_str
abbrev bW:=@PySem.F.slot_str_split
abbrev bX:=@PySem.Heap.get?_update_self
abbrev bY:=@PySem.Obj.isFreed_of_fields
abbrev bZ:=@Nat.le_add_right
abbrev ba:=@PySem.F.args_str_split_2
abbrev bb:=@Iff.rfl
abbrev bc:=@List.nil_append
abbrev bg:=@PySem.F.entry_str_split
abbrev bh:=@List.mem_range
abbrev bj:=@List.reverse_cons
abbrev bo:=@PySem.Heap.size_after_update
abbrev bp:=@PySem.Heap.size_push
abbrev bq:=@Option.isSome_map
abbrev br:=@PyProof.Rows.slot_tuple_getitem
abbrev bu:=@List.length_singleton
abbrev bw:=@List.mem_iff_getElem?
abbrev bx:=@List.filter_cons
abbrev b7:=@PySem.call_meets
abbrev b8:=@List.mem_filter
abbrev b9:=@List.nodup_cons
abbrev cA:=@List.find?_cons
abbrev cB:=@PySem.F.slot_zip_next
abbrev cC:=@Int.gcd_eq_natAbs_gcd_natAbs
abbrev cD:=@Int.gcd_pos_of_ne_zero_right
abbrev cE:=@Array.length_toList
abbrev cF:=@List.length_reverse
abbrev cG:=@Nat.le_of_lt
abbrev cH:=@Int.ediv_eq_of_eq_mul_right
abbrev cI:=@PySem.Calls.Name_function_global
abbrev cJ:=@PySem.F.slot_str_partition
abbrev cK:=@Nat.lt_of_le_of_lt
abbrev cL:=@PySem.W.kitx_dict
abbrev cM:=@List.any_cons
abbrev cN:=@List.length_take
abbrev cO:=@List.drop_length
abbrev cP:=@Nat.lt_succ_self
abbrev cR:=@Option.bind_some
abbrev cS:=@List.getElem_mem
abbrev cU:=@List.of_mem_zip
abbrev cV:=@List.forIn_cons
abbrev cW:=@Sum.inr.inj
abbrev cX:=@Subtype.ext
section
namespace L2
open PySem PySem.Spec PyProof.Rows
abbrev Key:=Sum Int Str
def NK:Key->Value->Bool
 |.inl k,v=>Value.isInt k v
 |.inr x,v=>Value.isStrOf x v
def Zt(w:World):Key->Int
 |.inl k=>hashInt k
 |.inr x=>hashStr w x
theorem BD:∀{k:Key} {v:Value},NK k v=true->(∃i t,k=Sum.inl i/\v=Value.int i t)\/(∃x t,k=Sum.inr x/\v=Value.str x t)
 |.inl i,v,h=>by
  obtain⟨t,e⟩:=Value.isInt_shape (k:=i) (v:=v) h
  exact .inl ⟨i,t,rfl,e⟩
 |.inr x,v,h=>by
  obtain⟨t,e⟩:=Value.isStrOf_shape (x:=x) (v:=v) h
  exact .inr ⟨x,t,rfl,e⟩
theorem OD(x:Str)(t:Tok):NK (.inr x) (.str x t)=true:=by simp[NK,Value.isStrOf]
theorem U3(a b:Int):decide ((Sum.inl a:Key)=Sum.inl b)=(a==b):=by
 by_cases e:a=b
 ·subst e;simp
 ·have h:¬(Sum.inl a:Key)=Sum.inl b:=fun q=>e (Sum.inl.inj q)
  rw[decide_eq_false h]
  exact(beq_eq_false_iff_ne.mpr e).symm
theorem U0(a b:Str):decide ((Sum.inr a:Key)=Sum.inr b)=decide (a=b):=by
 by_cases e:a=b
 ·subst e;simp
 ·have h:¬(Sum.inr a:Key)=Sum.inr b:=fun q=>e (cW q)
  rw[decide_eq_false h,decide_eq_false e]
theorem U2(a:Int)(b:Str):decide ((Sum.inl a:Key)=Sum.inr b)=false:=decide_eq_false (fun q=>nomatch q)
theorem U1(a:Str)(b:Int):decide ((Sum.inr a:Key)=Sum.inl b)=false:=decide_eq_false (fun q=>nomatch q)
def GV(prog:Program)(w:World):PySem.KeyKind prog w Key where
 is:=NK
 hash:=Zt w
 inj:=fun v a b ha hb=>by
  rcases BD ha with ⟨i,t,rfl,rfl⟩|⟨x,t,rfl,rfl⟩
  ·rcases BD hb with ⟨j,u,rfl,e⟩|⟨y,u,rfl,e⟩
   ·injection e with e1 _;rw[e1]
   ·exact nomatch e
  ·rcases BD hb with ⟨j,u,rfl,e⟩|⟨y,u,rfl,e⟩
   ·exact nomatch e
   ·injection e with e1 _;rw[e1]
 byValue:=fun k v h=>by
  rcases BD h with ⟨i,t,rfl,rfl⟩|⟨x,t,rfl,rfl⟩<;>rfl
 pyHash:=fun hv h=>by
  rcases BD hv with ⟨i,t,rfl,rfl⟩|⟨x,t,rfl,rfl⟩
  ·exact wpAny_pyHash_int h
  ·exact wpAny_pyHash_str h
 eqBool:=fun hu hv h=>by
  rcases BD hu with ⟨i,t,rfl,rfl⟩|⟨x,t,rfl,rfl⟩
  ·rcases BD hv with ⟨j,u,rfl,rfl⟩|⟨y,u,rfl,rfl⟩
   ·rw[U3]at h;exact wpAny_eqBool_int h
   ·rw[U2]at h;exact SeqAt.EqAt.int_str i t y u _ _ _ _ h
  ·rcases BD hv with ⟨j,u,rfl,rfl⟩|⟨y,u,rfl,rfl⟩
   ·rw[U1]at h;exact SeqAt.EqAt.str_int x t j u _ _ _ _ h
   ·rw[U0]at h;exact wpAny_eqBool_str h
 «strs»:=fun k x t v h=>by
  rcases BD h with ⟨i,u,rfl,e⟩|⟨y,u,rfl,e⟩
  ·exact nomatch e
  ·injection e with e1 _
   subst e1
   cases v<;>rfl
theorem La(prog:Program)(w:World)(x:Str)(t:Tok):(GV prog w).is (.inr x) (.str x t)=true:=OD x t
end L2
namespace L2
open PySem PySem.Spec PyProof.Rows
inductive V where
 |non|bl (b:Bool)|int (i:Int)|str (x:Str)|byt (b:Array UInt8)|flt (b:UInt64)|ref (a:Addr)|ty (n:String)
 deriving DecidableEq
def RelV:V->Value->Prop
 |.non,u=>u=Value.none
 |.bl b,u=>u=Value.bool b
 |.int i,u=>∃t,u=Value.int i t
 |.str x,u=>∃t,u=Value.str x t
 |.byt b,u=>∃t,u=Value.bytes b t
 |.flt b,u=>∃t,u=Value.float b t
 |.ref a,u=>u=Value.ref a
 |.ty n,u=>u=Value.type n
abbrev Vals:List V->List Value->Prop:=Paired RelV
theorem Vals.length{xs:List V}{us:List Value}(r:Vals xs us):xs.length=us.length:=Paired.length r
theorem Vals.get:∀{xs:List V} {us:List Value} {i:Nat} {x:V},Vals xs us->xs[i]?=some x->∃u,us[i]?=some u/\RelV x u
 |_,_,_,_,.nil,e=>by simp at e
 |_,_,0,_,.cons r _,e=>by simp at e;subst e;exact⟨_,rfl,r⟩
 |_,_,i+1,x,.cons _ t,e=>by
  obtain⟨u,h1,h2⟩:=Vals.get (i:=i) (x:=x) t (by simpa using e)
  exact⟨u,by simpa using h1,h2⟩
theorem Vals.set{x:V}{u:Value}(r:RelV x u):∀{xs:List V} {us:List Value} (i:Nat),Vals xs us->Vals (xs.set i x) (us.set i u)
 |_,_,_,.nil=>.nil
 |_,_,0,.cons _ t=>.cons r t
 |_,_,i+1,.cons q t=>.cons q (Vals.set r i t)
theorem Vals.append:∀{xs ys:List V} {us ws:List Value},Vals xs us->Vals ys ws->Vals (xs++ys) (us++ws)
 |_,_,_,_,.nil,s=>s
 |_,_,_,_,.cons r t,s=>.cons r (Vals.append t s)
theorem Vals.take:∀{xs:List V} {us:List Value} (n:Nat),Vals xs us->Vals (xs.take n) (us.take n)
 |_,_,0,_=>.nil
 |_,_,_+1,.nil=>.nil
 |_,_,n+1,.cons r t=>.cons r (Vals.take n t)
theorem Vals.drop:∀{xs:List V} {us:List Value} (n:Nat),Vals xs us->Vals (xs.drop n) (us.drop n)
 |_,_,0,r=>r
 |_,_,_+1,.nil=>.nil
 |_,_,n+1,.cons _ t=>Vals.drop n t
def Ws:Option V->Option Value->Prop
 |some v,some u=>RelV v u
 |none,none=>True
 |_,_=>False
def KV{κ:Type}:List (κ×V)->List (κ×Value)->Prop:=Paired fun(p:κ×V) (q:κ×Value)=>p.1=q.1/\RelV p.2 q.2
def kV:Key->V
 |.inl i=>.int i
 |.inr x=>.str x
inductive HO where
 |lst (xs:List V)
 |tup (xs:List V)
 |dK (kvs:List (Key×V))|dT (kvs:List (List Key×V))
 |set (S:Int->Bool) (n:Nat)
 |ins (C dx:Addr) (fs:List (Str×V))
 |own (x:Addr)
 |xd (fs:List (Str×V))
 |met (f x:Addr)
 |rng (lo hi:Int)
 |frz (o:Obj) (u:HO)
 |tbl (ps:Array Value)
 |ext (φ:Heap->Prop)
abbrev Hp:=Addr->Option HO
def upd(H:Hp)(a:Addr)(o:HO):Hp:=fun b=>if b=a then some o else H b
theorem Ac{H:Hp}{a:Addr}{o:HO}:upd H a o a=some o:=by unfold upd;rw[if_pos rfl]
theorem An{H:Hp}{a b:Addr}{o:HO}(h:b≠a):upd H a o b=H b:=by unfold upd;rw[if_neg h]
theorem Ai{H:Hp}{a b:Addr}{o:HO}(h:H a=some o)(h':H b=none):a≠b:=by
 intro e;subst e;rw[h]at h';cases h'
section
variable (P:Program) (w:World)
def ObjOk(H:Hp)(h:Heap)(a:Addr):HO->Prop
 |.lst xs=>xs.length<=sizeLine/\∃(its:List Value) (n:Nat),Vals xs its/\h.get? a=some { cls:=.type "list",data:=.seq its.toArray n }
 |.tup xs=>xs.length<=sizeLine/\∃its:List Value,Vals xs its/\IsTup h a its.toArray
 |.dK kvs=>kvs.length<=sizeLine/\(a==sysModules)=false/\∃vs,KV kvs vs/\h.DictOf (GV P w) a vs
 |.dT kvs=>kvs.length<=sizeLine/\(a==sysModules)=false/\∃xs:List (List Key×Addr×Value),
   Paired (fun(p:List Key×V) (q:List Key×Addr×Value)=>p.1=q.1/\H q.2.1=some (.tup (p.1.map kV))/\RelV p.2 q.2.2) kvs xs /\
   ∃o es ep,h.get? a=some o/\o.ExactDict/\o.data = .dict es ep/\es.toList=xs.map (entryOfKey (tupleKind (GV P w)))/\(xs.map (·.1)).Nodup
 |.set S n=>h.SetOf (intKind P w) a S n
 |.ins C dx fs=>H dx=some (.own a)/\fs.length<=1000/\dx≠a/\h.get? a=some (PySem.W.instObj C dx) /\
   ∃mA,h.Ns1 dx mA/\(∀f,Ws (fs.lookup f) (mA f))/\PySem.Within mA (fs.map (·.1))
 |.own _=>∃o,h.get? a=some o
 |.xd fs=>∃mA,h.Ns1 a mA/\∀f,Ws (fs.lookup f) (mA f)
 |.rng lo hi=>∃t u v,h.get? a=some { cls:=.type "range",data:=.fields #[.int lo t,.int hi u,.int 1 v] }
 |.frz o u=>h.get? a=some o/\ObjOk H h a u
 |.tbl ps=>h.get? a=some { cls:=.none,data:=.fields ps }
 |.met f x=>h.get? a=some (PySem.W.methodObj (.ref f) (.ref x))
 |.ext φ=>φ h/\(∃o,h.get? a=some o)/\∀h1 h2:Heap,φ h1->(∀o,h1.get? a=some o->h2.get? a=some o)->φ h2
def HOk(H:Hp)(h:Heap):Prop:=∀a o,H a=some o->ObjOk P w H h a o
end
section
variable {P:Program} {w:World} {H H':Hp} {h h':Heap} {a:Addr} {o:HO}
theorem ObjOk.lt(x:ObjOk P w H h a o):a<h.objs.size:=by
 cases o with
 |lst xs=>obtain⟨_,_,_,_,e⟩:=x;exact P' e
 |tup xs=>obtain⟨_,_,_,p⟩:=x;exact p.lt
 |dK kvs=>obtain⟨_,_,_,_,o,_,_,e,_⟩:=x;exact P' e
 |dT kvs=>obtain⟨_,_,_,_,o,_,_,e,_⟩:=x;exact P' e
 |set S n=>obtain⟨o,_,_,_,e,_⟩:=x;exact P' e
 |ins C dx fs=>obtain⟨_,_,_,e,_⟩:=x;exact P' e
 |own y=>obtain⟨_,e⟩:=x;exact P' e
 |xd fs=>obtain⟨_,⟨_,_,_,e,_⟩,_⟩:=x;exact P' e
 |rng lo hi=>obtain⟨_,_,_,e⟩:=x;exact P' e
 |frz ob u=>obtain⟨e,_⟩:=x;exact P' e
 |tbl ps=>exact P' (show h.get? a=some _ from x)
 |met f y=>exact P' (show h.get? a=some _ from x)
 |ext φ=>obtain⟨_,⟨_,e⟩,_⟩:=x;exact P' e
theorem Paired.mapP{α β:Type}{F G:α->β->Prop}:∀{l₁:List α} {l₂:List β},Paired F l₁ l₂->(∀a b,F a b->G a b)->Paired G l₁ l₂
 |_,_,.nil,_=>.nil
 |_,_,.cons r t,f=>.cons (f _ _ r) (Paired.mapP t f)
theorem ObjOk.stay(x:ObjOk P w H h a o)(k:∀b u,(b=a\/H b=some (.own a))->h.get? b=some u->h'.get? b=some u)
  (ho:∀b,H b=some (.own a)->H' b=some (.own a)) (ht:∀b xs,H b=some (.tup xs)->H' b=some (.tup xs)):ObjOk P w H' h' a o:=by
 induction o with
 |lst xs=>obtain⟨z,its,n,r,e⟩:=x;exact⟨z,its,n,r,k _ _ (.inl rfl) e⟩
 |tup xs=>obtain⟨z,its,r,ob,e,c⟩:=x;exact⟨z,its,r,ob,k _ _ (.inl rfl) e,c⟩
 |dK kvs=>obtain⟨z,y,vs,r,ob,es,ep,e,c⟩:=x;exact⟨z,y,vs,r,ob,es,ep,k _ _ (.inl rfl) e,c⟩
 |dT kvs =>
  obtain⟨z,y,xs,r,ob,es,ep,e,c⟩:=x
  exact⟨z,y,xs,Paired.mapP r fun p q z=>⟨z.1,ht _ _ z.2.1,z.2.2⟩,ob,es,ep,k _ _ (.inl rfl) e,c⟩
 |set S n=>obtain⟨ob,es,ep,t,e,c⟩:=x;exact⟨ob,es,ep,t,k _ _ (.inl rfl) e,c⟩
 |ins C dx fs =>
  obtain⟨d,z,ne,e,mA,⟨od,es,ep,e2,c⟩,r⟩:=x
  exact⟨ho _ d,z,ne,k _ _ (.inl rfl) e,mA,⟨od,es,ep,k _ _ (.inr d) e2,c⟩,r⟩
 |own y=>obtain⟨ob,e⟩:=x;exact⟨ob,k _ _ (.inl rfl) e⟩
 |xd fs=>obtain⟨mA,⟨od,es,ep,e,c⟩,r⟩:=x;exact⟨mA,⟨od,es,ep,k _ _ (.inl rfl) e,c⟩,r⟩
 |rng lo hi=>obtain⟨t,u,v,e⟩:=x;exact⟨t,u,v,k _ _ (.inl rfl) e⟩
 |frz ob u ih=>obtain⟨e,q⟩:=x;exact⟨k _ _ (.inl rfl) e,ih q⟩
 |tbl ps =>
  have e:h.get? a=some { cls:=.none,data:=.fields ps }:=x
  show h'.get? a=some { cls:=.none,data:=.fields ps }
  exact k a _ (.inl rfl) e
 |met f y =>
  have e:h.get? a=some (PySem.W.methodObj (.ref f) (.ref y)):=x
  show h'.get? a=some (PySem.W.methodObj (.ref f) (.ref y))
  exact k a _ (.inl rfl) e
 |ext φ=>obtain⟨p,⟨o,e⟩,st⟩:=x;exact⟨st _ _ p fun o q=>k _ _ (.inl rfl) q,⟨o,k _ _ (.inl rfl) e⟩,st⟩
theorem HOk.lt(x:HOk P w H h)(e:H a=some o):a<h.objs.size:=(x a o e).lt
theorem HOk.fresh(x:HOk P w H h)(e:h.objs.size<=a):H a=none:=by
 cases q:H a with
 |none=>rfl
 |some u=>exact absurd (aN (x.lt q) e) (ax _)
theorem HOk.kept(x:HOk P w H h)(k:∀b u,h.get? b=some u->h'.get? b=some u):HOk P w H h':=fun a o e =>
 (x a o e).stay (fun b u _ q=>k b u q) (fun _ q=>q) fun _ _ q=>q
theorem HOk.laid(x:HOk P w H h)(k:∀b u,h.get? b=some u->h'.get? b=some u)(hp:h.objs.size<=a)(new:ObjOk P w (upd H a o) h' a o):HOk P w (upd H a o) h':=fun b u e=>by
 have hn:=x.fresh hp
 by_cases hb:b=a
 ·subst hb;rw[Ac]at e;cases e;exact new
 ·rw[An hb]at e
  exact(x b u e).stay (fun c v _ q=>k c v q) (fun c q=>by rw[An (Ai q hn)];exact q) fun c xs q=>by rw[An (Ai q hn)];exact q
end
def Rd(H:Hp)(a:Addr)(u:HO):Prop:=H a=some u\/∃o,H a=some (.frz o u)
theorem Rd.ok{P:Program}{w:World}{H:Hp}{h:Heap}{a:Addr}{u:HO}(r:Rd H a u)(x:HOk P w H h):ObjOk P w H h a u:=by
 rcases r with r|⟨o,r⟩
 ·exact x a u r
 ·obtain⟨_,q⟩:=x a _ r
  exact q
def Mut:Option HO->Prop
 |some (.lst _)=>True
 |some (.dK _)=>True
 |some (.dT _)=>True
 |some (.set _ _)=>True
 |some (.ins _ _ _)=>True
 |some (.ext _)=>True
 |_=>False
section
variable {P:Program} {w:World} {H:Hp} {h h':Heap} {x e:Addr} {o':HO}
theorem HOk.write(ok:HOk P w H h)(mu:Mut (H x))(he:e=x\/H e=some (.own x))(k:∀b u,b≠e->h.get? b=some u->h'.get? b=some u)(heo:∃u,h'.get? e=some u)
  (new:ObjOk P w (upd H x o') h' x o'):HOk P w (upd H x o') h':=fun b u q=>by
 have nown:∀c y,H c=some (.own y)->c≠x:=fun c y r z=>by subst z;rw[r]at mu;exact mu
 have ntup:∀c xs,H c=some (.tup xs)->c≠x:=fun c xs r z=>by subst z;rw[r]at mu;exact mu
 by_cases hb:b=x
 ·subst hb;rw[Ac]at q;cases q;exact new
 ·rw[An hb]at q
  by_cases hbe:b=e
  ·have q':H b=some (.own x):=by
    rcases he with z|z
    ·exact absurd (hbe.trans z) hb
    ·rw[hbe];exact z
   rw[q]at q';cases q'
   obtain⟨v,hv⟩:=heo
   exact⟨v,by rw[hbe];exact hv⟩
  ·refine(ok b u q).stay (fun c v hc r=>k c v ?_ r) (fun c r=>by rw[An (nown c b r)];exact r) fun c xs r=>by rw[An (ntup c xs r)];exact r
   rcases hc with rfl|hc
   ·exact hbe
   ·rintro rfl
    rcases he with z|z
    ·exact nown c b hc z
    ·rw[hc]at z;cases z;exact hb rfl
end
structure Un(fs ex:List Addr)(H H':Hp)(h h':Heap):Prop where
 keep:∀b o,h.get? b=some o->H b=none->b∉fs->b∉ex->h'.get? b=some o
 slot:∀b o,h.get? b=some o->H b=none->b∈fs->b∉ex->∃sl,h'.get? b=some { o with slots:=sl }
 free:∀b o,h.get? b=some o->H b=none->b∉ex->H' b=none
 there:∀b o,h.get? b=some o->b∉ex->∃o',h'.get? b=some o'
 tups:∀b xs,H b=some (.tup xs)->H' b=some (.tup xs)
 frzs:∀b o u,H b=some (.frz o u)->H' b=some (.frz o u)
 tbls:∀b ps,H b=some (.tbl ps)->∃more,H' b=some (.tbl (ps++more))
section
variable {fs fs' ex ex':List Addr} {H H1 H2:Hp} {h h1 h2 h':Heap} {a x e:Addr} {o:HO}
theorem Un.any(u:Un fs ex H H1 h h1){b:Addr}{ob:Obj}(q:h.get? b=some ob)(n:H b=none)(hx:b∉ex):∃sl,h1.get? b=some { ob with slots:=sl }:=by
 by_cases hb:b∈fs
 ·exact u.slot b ob q n hb hx
 ·exact⟨ob.slots,u.keep b ob q n hb hx⟩
theorem Un.trans(a:Un fs ex H H1 h h1)(b:Un fs ex H1 H2 h1 h2):Un fs ex H H2 h h2 where
 keep:=fun c ob q n hc hx=>b.keep c ob (a.keep c ob q n hc hx) (a.free c ob q n hx) hc hx
 slot:=fun c ob q n hc hx=>by
  obtain⟨sl,e1⟩:=a.slot c ob q n hc hx
  obtain⟨sl',e2⟩:=b.slot c _ e1 (a.free c ob q n hx) hc hx
  exact⟨sl',e2⟩
 free:=fun c ob q n hx=>by
  obtain⟨o',e1⟩:=a.there c ob q hx
  exact b.free c o' e1 (a.free c ob q n hx) hx
 there:=fun c ob q hx=>by
  obtain⟨o',e1⟩:=a.there c ob q hx
  exact b.there c o' e1 hx
 tups:=fun c xs q=>b.tups c xs (a.tups c xs q)
 frzs:=fun c ob xs q=>b.frzs c ob xs (a.frzs c ob xs q)
 tbls:=fun c ps q=>by
  obtain⟨m1,e1⟩:=a.tbls c ps q
  obtain⟨m2,e2⟩:=b.tbls c _ e1
  exact⟨m1++m2,by rw[e2,Array.append_assoc]⟩
theorem Un.kept(k:∀b u,h.get? b=some u->h'.get? b=some u):Un fs ex H H h h' :=
 ⟨fun b ob q _ _ _=>k b ob q,fun b ob q _ _ _=>⟨ob.slots,k b ob q⟩,fun _ _ _ n _=>n,fun b ob q _=>⟨ob,k b ob q⟩,fun _ _ q=>q,fun _ _ _ q=>q,fun _ ps q=>⟨#[],by rw[q];simp⟩⟩
theorem Un.refl:Un fs ex H H h h:=Un.kept fun _ _ q=>q
theorem Un.laid(k:∀b u,h.get? b=some u->h'.get? b=some u)(hp:h.objs.size<=a)(hn:H a=none):Un fs ex H (upd H a o) h h' where
 keep:=fun b u q _ _ _=>k b u q
 slot:=fun b u q _ _ _=>⟨u.slots,k b u q⟩
 free:=fun b u q n _=>by rw[An (ai (aN (P' q) hp))];exact n
 there:=fun b u q _=>⟨u,k b u q⟩
 tups:=fun b xs q=>by rw[An (Ai q hn)];exact q
 frzs:=fun b u xs q=>by rw[An (Ai q hn)];exact q
 tbls:=fun b ps q=>⟨#[],by rw[An (Ai q hn),q];simp⟩
theorem Un.write(mu:Mut (H x))(he:e=x\/H e=some (.own x))(k:∀b u,b≠e->h.get? b=some u->h'.get? b=some u)(heo:∃u,h'.get? e=some u):Un fs ex H (upd H x o) h h':=by
 have hx:∀b,H b=none->b≠x:=fun b n z=>by subst z;rw[n]at mu;exact mu
 have hb:∀b,H b=none->b≠e:=fun b n z=>by
  subst z
  rcases he with r|r
  ·exact hx b n r
  ·rw[n]at r;cases r
 have hm:∀b u,H b=some u->¬Mut (some u)->b≠x:=fun b u q nm z=>by subst z;rw[q]at mu;exact nm mu
 refine ⟨fun b u q n _ _ => k b u (hb b n) q, fun b u q n _ _ => ⟨u.slots, k b u (hb b n) q⟩, fun b u q n _ => by rw [An (hx b n)]; exact n, fun b u q _ => ?_,
  fun b xs q=>by rw[An (hm b _ q fun z=>z)];exact q,fun b u xs q=>by rw[An (hm b _ q fun z=>z)];exact q,fun b ps q=>⟨#[],by rw[An (hm b _ q fun z=>z),q];simp⟩⟩
 by_cases hbe:b=e
 ·subst hbe;exact heo
 ·exact⟨u,k b u hbe q⟩
end
def trk(h:Heap)(H:Hp):List Addr:=(List.range h.objs.size).filter fun a=>(H a).isSome
def Kl(h:Heap)(H:Hp):Heap:=PySem.W.hideAll h (trk h H)
theorem OI(h:Heap)(H:Hp):(Kl h H).objs.size=h.objs.size:=PySem.W.hideAll_size _ _
theorem QE{h:Heap}{H:Hp}{b:Addr}{o:Obj}(e:h.get? b=some o)(n:H b=none):(Kl h H).get? b=some o :=
 PySem.W.hideAll_get _ e fun hm=>by
  have q:(H b).isSome=true:=(b8.mp hm).2
  rw[n]at q;simp at q
theorem Rb{h:Heap}{H:Hp}{b:Addr}{o:Obj}(e:(Kl h H).get? b=some o):h.get? b=some o/\H b=none:=by
 have e':h.get? b=some o:=PySem.W.of_hideAll (trk h H) e
 refine⟨e',?_⟩
 cases q:H b with
 |none=>rfl
 |some x =>
  have hm:b∈trk h H:=b8.mpr ⟨bh.mpr (P' e'),by simp[q]⟩
  have z:(Kl h H).get? b=none:=PySem.W.hideAll_none (trk h H) hm
  rw[z]at e;cases e
def Su(g h:Heap)(L:Addr):List (Addr×Obj):=(List.range h.objs.size).filterMap fun a=>if a=L\/(g.get? a).isSome=true then none else (h.get? a).map fun o=>(a,o)
def Ca(g h:Heap)(L d:Addr):List (Addr×Obj):=(Su g h L).filter fun p=>decide (p.1≠d)
end L2
namespace L2
open PySem PySem.Spec PyProof.Rows
structure Mod(K:PySem.W.Frag)(mg:Str->Option Value)(base:Heap):Prop where
 kin:K.In base
 glob:base.Ns mainGlobals mg
 blt:∃mb,base.Ns builtinsNs mb/\∀x:Str,x≠"__name__"->mb x=bootBuiltins x
 nolimit:base.NoLimit
structure Cx where
 prog:Program
 w:World
 K:PySem.W.Frag
 mg:Str->Option Value
 base:Heap
 A:Around
 N:List Str
 s₀:Shared
 H₀:Hp
 env:Env
 outer:List Env
 stack:List Env
 ex:List Addr
 fn:Str->Bool
 calm:Bool
 pn:List (Addr×Obj)
 xe:Value->Shared->Prop
def frs(l:List Env):List Addr:=l.filterMap (·.frame)
abbrev Cx.fs(X:Cx):List Addr:=frs X.outer
def Vis(sc:Scope)(x:Str):Prop:=sc.names.lookup x=some .local\/sc.names.lookup x=some .cell\/sc.names.lookup x=some .free
def Loc(sc:Scope)(x:Str):Prop:=sc.names.lookup x=some .local\/sc.names.lookup x=some .cell
def aK(env:Env)(h:Heap)(m:Str->Option Value)(x:Str)(u:Value):Prop :=
 (env.kindOf x=some .local/\m x=some u)\/((env.kindOf x=some .cell\/env.kindOf x=some .free)/\∃c,env.cells.lookup x=some c/\h.IsCell c (some u))
structure Cx.Ok(X:Cx):Prop where
 mod:Mod X.K X.mg X.base
 kind:X.env.scope.kind = .function
 glob:X.env.globals=mainGlobals
 blt:X.env.builtins=builtinsNs
 above:X.s₀.heap.objs.size<=X.env.locals
 inj:∀x y c,X.env.cells.lookup x=some c->X.env.cells.lookup y=some c->x=y
 has:∀x,(X.env.kindOf x=some .cell\/X.env.kindOf x=some .free)->∃c,X.env.cells.lookup x=some c
 cab:∀x c,X.fn x=true->X.env.cells.lookup x=some c->X.s₀.heap.objs.size<=c
 hd:X.calm=true->X.A.handled=none
 frames:X.A.frames=some X.stack
 stk:X.stack=X.outer\/(X.stack=X.env::X.outer/\X.env.frame=some X.env.locals)
 exf:∀b∈X.ex,b≠X.env.locals/\∀x c,X.env.cells.lookup x=some c->c≠b
 bs:∀b o,X.base.get? b=some o->X.s₀.heap.get? b=some o/\X.H₀ b=none
 bsz:X.base.objs.size<=X.s₀.heap.objs.size
 noex:∀b o,X.base.get? b=some o->b∉X.ex
 exfs:∀b∈X.ex,b∉X.fs
 funs:X.s₀.heap.FunFrames X.base X.outer
 frf:∀b∈X.fs,X.H₀ b=none
structure Inv(X:Cx)(pins:List (Addr×Obj))(σ:List (Option V))(H:Hp)(s:Shared):Prop where
 ok:X.Ok
 os:s.os=X.s₀.os
 bare:AllBare s.gens
 base:Un X.fs X.ex X.H₀ H X.s₀.heap s.heap
 loc:∃m,s.heap.Ns X.env.locals m/\∀(i:Nat) (x:Str) (v:V),X.N[i]?=some x->σ[i]?=some (some v)->Vis X.env.scope x->∃u,RelV v u/\aK X.env s.heap m x u
 cell:∀x c,X.env.cells.lookup x=some c->∃v,s.heap.IsCell c v
 free:H X.env.locals=none
 freeC:∀x c,X.env.cells.lookup x=some c->H c=none
 pin:∀p∈X.pn++pins,s.heap.get? p.1=some p.2/\H p.1=none/\p.1≠X.env.locals/\p.1∉X.fs/\∀v,p.2.data≠.cell v
 hok:HOk X.prog X.w H s.heap
 len:σ.length=X.N.length
section
variable {X:Cx} {pins:List (Addr×Obj)} {σ:List (Option V)} {H H':Hp} {s:Shared} {h':Heap}
theorem Cx.Ok.nofr(ok:X.Ok){b:Addr}{o:Obj}(e:X.base.get? b=some o):b∉X.fs:=fun hb=>by
 have:=(ok.funs.mem hb).1
 rw[e]at this;cases this
theorem Inv.bs(I:Inv X pins σ H s):∀b o,X.base.get? b=some o->s.heap.get? b=some o/\H b=none:=fun b o e =>
 ⟨I.base.keep b o (I.ok.bs b o e).1 (I.ok.bs b o e).2 (I.ok.nofr e) (I.ok.noex b o e),I.base.free b o (I.ok.bs b o e).1 (I.ok.bs b o e).2 (I.ok.noex b o e)⟩
theorem Inv.bk(I:Inv X pins σ H s):∀b o,X.base.get? b=some o->s.heap.get? b=some o:=fun b o e=>(I.bs b o e).1
theorem Inv.mod(I:Inv X pins σ H s):Mod X.K X.mg X.base:=I.ok.mod
theorem Inv.kIn(I:Inv X pins σ H s):X.K.In s.heap:=I.ok.mod.kin.keeps I.bk
theorem Inv.lt(I:Inv X pins σ H s):X.env.locals<s.heap.objs.size:=let ⟨_,hn,_⟩:=I.loc;hn.lt
theorem Inv.sz(I:Inv X pins σ H s):X.s₀.heap.objs.size<=s.heap.objs.size:=W' I.ok.above (cG I.lt)
theorem Inv.nofs(I:Inv X pins σ H s){a:Addr}(h:s.heap.objs.size<=a):a∉X.fs:=fun hb=>by
 obtain⟨_,o,ho,_⟩:=I.ok.funs.mem hb
 exact absurd (aN (P' ho) (W' I.sz h)) (ax _)
theorem Inv.cne(I:Inv X pins σ H s):∀x c,X.env.cells.lookup x=some c->c≠X.env.locals:=fun x c e z=>by
 obtain⟨v,o,ho,hd⟩:=I.cell x c e
 obtain⟨m,⟨o',es,ep,ho',hd',_⟩,_⟩:=I.loc
 rw[z,ho']at ho;cases ho;rw[hd']at hd;cases hd
theorem Inv.funs(I:Inv X pins σ H s):s.heap.FunFrames X.base X.outer:=by
 have all:∀(l:List Env),(∀b∈frs l,b∈X.fs)->X.s₀.heap.FunFrames X.base l->s.heap.FunFrames X.base l:=by
  intro l
  induction l with
  |nil=>intro _ _;trivial
  |cons env r ih =>
   intro hs hl
   obtain⟨hk,⟨L,o,hf,hn,ho,hd⟩,hr⟩:=hl
   have hL:L∈X.fs:=hs L (by unfold frs;rw[bF,hf];exact L')
   obtain⟨sl,e⟩:=I.base.slot L o ho (I.ok.frf L hL) hL fun z=>I.ok.exfs L z hL
   exact⟨hk,⟨L,_,hf,hn,e,hd⟩,ih (fun b hb=>hs b (by unfold frs;rw[bF,hf];exact O' _ hb)) hr⟩
 exact all X.outer (fun _ hb=>hb) I.ok.funs
theorem Inv.stack(I:Inv X pins σ H s):s.heap.FunFrames X.base X.stack:=by
 rcases I.ok.stk with e|⟨e,hf⟩
 ·rw[e];exact I.funs
 ·rw[e]
  obtain⟨m,hn,_⟩:=I.loc
  refine .cons (by rw[I.ok.kind];decide) hf hn ?_ I.funs
  exact Heap.get?_none_of_le (W' I.ok.bsz I.ok.above)
theorem Inv.stkSub(I:Inv X pins σ H s):∀b∈frs X.stack,b∈X.env.locals::X.fs:=fun b hb=>by
 rcases I.ok.stk with e|⟨e,hf⟩
 ·rw[e]at hb;exact O' _ hb
 ·rw[e]at hb
  unfold frs at hb
  rw[bF,hf]at hb
  exact hb
theorem Inv.stkFree(I:Inv X pins σ H s):∀b∈frs X.stack,H b=none:=fun b hb=>by
 rcases Z'.mp (I.stkSub b hb)with e|hb
 ·rw[e];exact I.free
 ·obtain⟨_,o,ho,_⟩:=I.ok.funs.mem hb
  exact I.base.free b o ho (I.ok.frf b hb) fun z=>I.ok.exfs b z hb
theorem Inv.step{g':Array GenState}{t':Nat}{d':Drawn}{ch:List Addr}(I:Inv X pins σ H s)
  (hch:∀b∈ch,(b∈X.ex\/X.s₀.heap.objs.size<=b)/\b≠X.env.locals/\(∀x c,X.env.cells.lookup x=some c->c≠b)/\∀p∈X.pn++pins,p.1≠b)
  (keep:∀b o,b≠X.env.locals->b∉X.fs->b∉ch->s.heap.get? b=some o->H b=none->h'.get? b=some o)
  (slot:∀b o,b≠X.env.locals->b∈X.fs->b∉ch->s.heap.get? b=some o->H b=none->∃sl,h'.get? b=some { o with slots:=sl }) (free:∀b o,b∉ch->s.heap.get? b=some o->H b=none->H' b=none)
  (there:∀b o,b∉ch->s.heap.get? b=some o->∃o',h'.get? b=some o')
  (tups:∀b xs,H b=some (.tup xs)->H' b=some (.tup xs)) (frzs:∀b o u,H b=some (.frz o u)->H' b=some (.frz o u)) (tbls:∀b ps,H b=some (.tbl ps)->∃more,H' b=some (.tbl (ps++more)))
  (ns:∀m,s.heap.Ns X.env.locals m->h'.Ns X.env.locals m) (hok:HOk X.prog X.w H' h') (hg:AllBare g') :
  Inv X pins σ H' { s with heap:=h',gens:=g',drawn:=d',toks:=t' }:=by
 have neL:∀b o,X.s₀.heap.get? b=some o->b≠X.env.locals:=fun b o e=>ai (aN (P' e) I.ok.above)
 have neC:∀b o,X.s₀.heap.get? b=some o->b∉X.ex->b∉ch:=fun b o e hx hb=>by
  rcases(hch b hb).1 with z|z
  ·exact hx z
  ·exact absurd (aN (P' e) z) (ax _)
 have cellK:∀x c,X.env.cells.lookup x=some c->∀v,s.heap.IsCell c v->h'.IsCell c v:=fun x c e v ⟨o,ho,hd⟩=>by
  have nch:c∉ch:=fun z=>(hch c z).2.2.1 x c e rfl
  by_cases hc:c∈X.fs
  ·obtain⟨sl,q⟩:=slot c o (I.cne x c e) hc nch ho (I.freeC x c e)
   exact⟨_,q,hd⟩
  ·exact⟨o,keep c o (I.cne x c e) hc nch ho (I.freeC x c e),hd⟩
 refine⟨I.ok,I.os,hg,⟨fun b o e n hb hx=>?_,fun b o e n hb hx=>?_,fun b o e n hx=>?_,fun b o e hx=>?_,fun b xs e=>tups b xs (I.base.tups b xs e),fun b o xs e=>frzs b o xs (I.base.frzs b o xs e),fun b ps e=>?_⟩,?_,fun x c e=>?_,?_,fun x c e=>?_,fun p hp=>?_,hok,I.len⟩
 ·exact keep b o (neL b o e) hb (neC b o e hx) (I.base.keep b o e n hb hx) (I.base.free b o e n hx)
 ·obtain⟨sl,e1⟩:=I.base.slot b o e n hb hx
  obtain⟨sl',e2⟩:=slot b _ (neL b o e) hb (neC b o e hx) e1 (I.base.free b o e n hx)
  exact⟨sl',e2⟩
 ·obtain⟨o',e1⟩:=I.base.there b o e hx
  exact free b o' (neC b o e hx) e1 (I.base.free b o e n hx)
 ·obtain⟨o',e1⟩:=I.base.there b o e hx
  exact there b o' (neC b o e hx) e1
 ·obtain⟨m1,e1⟩:=I.base.tbls b ps e
  obtain⟨m2,e2⟩:=tbls b _ e1
  exact⟨m1++m2,by rw[e2,Array.append_assoc]⟩
 ·obtain⟨m,hn,hl⟩:=I.loc
  refine⟨m,ns m hn,fun i x v e1 e2 e3=>?_⟩
  obtain⟨u,r,l⟩:=hl i x v e1 e2 e3
  refine⟨u,r,?_⟩
  rcases l with l|⟨k,c,e,z⟩
  ·exact .inl l
  ·exact .inr ⟨k,c,e,cellK x c e _ z⟩
 ·obtain⟨v,z⟩:=I.cell x c e
  exact⟨v,cellK x c e v z⟩
 ·obtain⟨m,⟨o,_,_,ho,_⟩,_⟩:=I.loc
  exact free _ o (fun z=>(hch _ z).2.1 rfl) ho I.free
 ·obtain⟨v,o,ho,hd⟩:=I.cell x c e
  exact free c o (fun z=>(hch c z).2.2.1 x c e rfl) ho (I.freeC x c e)
 ·obtain⟨e,n,ne,nf,d⟩:=I.pin p hp
  have nch:p.1∉ch:=fun z=>(hch p.1 z).2.2.2 p hp rfl
  exact⟨keep p.1 p.2 ne nf nch e n,free p.1 p.2 nch e n,ne,nf,d⟩
theorem Inv.un{t':Nat}(I:Inv X pins σ H s)(u:Un X.fs [] H H' s.heap h')(hok:HOk X.prog X.w H' h'):Inv X pins σ H' { s with heap:=h',toks:=t' }:=by
 obtain⟨m,⟨o,es,ep,ho,r⟩,_⟩:=id I.loc
 obtain⟨sl,hL⟩:=u.any ho I.free (by simp)
 exact I.step (g' := s.gens) (d' := s.drawn) (ch := []) (fun _ z => nomatch z) (fun b o _ hb _ e n => u.keep b o e n hb (by simp)) (fun b o _ hb _ e n => u.slot b o e n hb (by simp)) (fun b o _ e n => u.free b o e n (by simp)) (fun b o _ e => u.there b o e (by simp)) u.tups u.frzs u.tbls (fun m' hm => by
  obtain⟨o',es',ep',ho',r'⟩:=hm
  rw[ho]at ho';cases ho'
  exact⟨_,es',ep',hL,r'⟩) hok I.bare
theorem Inv.call{g':Array GenState}{t':Nat}{d':Drawn}{ch:List Addr}(I:Inv X pins σ H s)(u:Un (frs X.stack) ch H H' s.heap h')(hok:HOk X.prog X.w H' h')(hg:AllBare g')
  (hch:∀b∈ch,(b∈X.ex\/X.s₀.heap.objs.size<=b)/\b≠X.env.locals/\(∀x c,X.env.cells.lookup x=some c->c≠b)/\∀p∈X.pn++pins,p.1≠b) :
  Inv X pins σ H' { s with heap:=h',gens:=g',drawn:=d',toks:=t' }:=by
 obtain⟨m,⟨o,es,ep,ho,r⟩,_⟩:=id I.loc
 obtain⟨sl,hL⟩:=u.any ho I.free fun z=>(hch _ z).2.1 rfl
 exact I.step (ch := ch) hch (fun b o hL hb hc e n => u.keep b o e n (fun z => (Z'.mp (I.stkSub b z)).elim hL hb) hc) (fun b o _ _ hc e n => u.any e n hc) (fun b o hc e n => u.free b o e n hc) (fun b o hc e => u.there b o e hc) u.tups u.frzs u.tbls (fun m' hm => by
  obtain⟨o',es',ep',ho',r'⟩:=hm
  rw[ho]at ho';cases ho'
  exact⟨_,es',ep',hL,r'⟩) hok hg
theorem Inv.turned{t':Nat}{it:Addr}(I:Inv X pins σ H s)(k:∀b o,b≠it->s.heap.get? b=some o->h'.get? b=some o)(hn:H it=none)(hL:it≠X.env.locals)
  (h1:it∈X.ex\/X.s₀.heap.objs.size<=it) (h2:∀x c,X.env.cells.lookup x=some c->c≠it) (h3:∀p∈X.pn++pins,p.1≠it):Inv X pins σ H { s with heap:=h',toks:=t' }:=by
 have nit:∀b u,H b=some u->b≠it:=fun b u e z=>by rw[z,hn]at e;cases e
 refine I.step (g':=s.gens) (d':=s.drawn) (ch:=[it]) (fun b hb=>?_) (fun b o _ _ hc e _=>k b o (fun z=>hc (by simp[z])) e) (fun b o _ _ hc e _=>⟨o.slots,k b o (fun z=>hc (by simp[z])) e⟩) (fun _ _ _ _ n=>n)
  (fun b o hc e=>⟨o,k b o (fun z=>hc (by simp[z])) e⟩) (fun _ _ e=>e) (fun _ _ _ e=>e) (fun b ps e=>⟨#[],by rw[e];simp⟩) (fun m hm=>?_) (fun b u e=>?_) I.bare
 ·have e:b=it:=by simpa using hb
  subst e
  exact⟨h1,hL,h2,h3⟩
 ·obtain⟨o,es,ep,ho,r⟩:=hm
  exact⟨o,es,ep,k _ o (Ne.symm hL) ho,r⟩
 ·refine(I.hok b u e).stay (fun c v hc q=>k c v ?_ q) (fun _ q=>q) fun _ _ q=>q
  rcases hc with z|z
  ·rw[z];exact nit b u e
  ·exact nit c _ z
theorem Inv.tok(I:Inv X pins σ H s)(t:Nat):Inv X pins σ H { s with toks:=t }:=I.un (h':=s.heap) (t':=t) Un.refl I.hok
theorem Inv.kept{t':Nat}(I:Inv X pins σ H s)(k:∀b u,s.heap.get? b=some u->h'.get? b=some u):Inv X pins σ H { s with heap:=h',toks:=t' }:=I.un (Un.kept k) (I.hok.kept k)
theorem Inv.laid{a:Addr}{o:HO}{t':Nat}(I:Inv X pins σ H s)(k:∀b u,s.heap.get? b=some u->h'.get? b=some u)(hp:s.heap.objs.size<=a)(new:ObjOk X.prog X.w (upd H a o) h' a o) :
  Inv X pins σ (upd H a o) { s with heap:=h',toks:=t' }:=I.un (Un.laid k hp (I.hok.fresh hp)) (I.hok.laid k hp new)
theorem Inv.write{x e:Addr}{o:HO}{t':Nat}(I:Inv X pins σ H s)(mu:Mut (H x))(he:e=x\/H e=some (.own x))(k:∀b u,b≠e->s.heap.get? b=some u->h'.get? b=some u)(heo:∃u,h'.get? e=some u)
  (new:ObjOk X.prog X.w (upd H x o) h' x o):Inv X pins σ (upd H x o) { s with heap:=h',toks:=t' }:=I.un (Un.write mu he k heo) (I.hok.write mu he k heo new)
theorem Inv.pins_of{pins':List (Addr×Obj)}(I:Inv X pins σ H s)(h:∀p∈pins',s.heap.get? p.1=some p.2/\H p.1=none/\p.1≠X.env.locals/\p.1∉X.fs/\∀v,p.2.data≠.cell v):Inv X pins' σ H s :=
 ⟨I.ok,I.os,I.bare,I.base,I.loc,I.cell,I.free,I.freeC,fun p hp=>(au.mp hp).elim (fun z=>I.pin p (bM _ z)) (h p),I.hok,I.len⟩
theorem LX{N:List Str}(hN:N.Nodup){i j:Nat}{x:Str}(a:N[i]?=some x)(b:N[j]?=some x):i=j:=by
 obtain⟨h1,e1⟩:=F'.mp a
 obtain⟨h2,e2⟩:=F'.mp b
 exact(List.getElem_inj hN).mp (e1.trans e2.symm)
theorem Ji{M:Model}{A:Around}{E:Value->Shared->Prop}{i:Nat}{x:Str}{v:V}{u:Value}{Q:Unit->Shared->Prop}(I:Inv X pins σ H s)(hN:X.N.Nodup)(hi:X.N[i]?=some x)(hx:Loc X.env.scope x)(r:RelV v u)
  (h:∀s',Inv X pins (σ.set i (some v)) H s'->(∃a,Heap.SameBut a s.heap s'.heap/\(a=X.env.locals\/X.env.cells.lookup x=some a))->Q () s') (hf:X.fn x=true\/X.env.scope.names.lookup x=some .local:=by first|exact .inl rfl|exact .inr rfl|assumption):wpAny M A (storeName X.env x u) Q E s:=by
 obtain⟨m,hn,hl⟩:=id I.loc
 have hcls:(X.env.scope.kind==.class||(X.env.scope.kind==.module&&X.env.locals != X.env.globals))=false:=by rw[I.ok.kind];rfl
 have hiσ:i<σ.length:=by rw[I.len];exact(F'.mp hi).1
 have cne:=I.cne
 have tracked:∀{a:Addr} {h':Heap},(∃o,s.heap.get? a=some o/\H a=none)->Heap.SameBut a s.heap h'->HOk X.prog X.w H h':=fun {a h'} ha hs b ob e=>by
  obtain⟨_,_,hfree⟩:=ha
  refine(I.hok b ob e).stay (fun c w' hc q=>(hs.2 c ?_).trans q) (fun _ q=>q) fun _ _ q=>q
  rintro rfl
  rcases hc with rfl|hc
  ·rw[hfree]at e;cases e
  ·rw[hfree]at hc;cases hc
 rcases hx with hk|hk
 ·refine wpAny_storeName_local hk hn (fun h' hn' hs=>?_) hcls
  obtain⟨oL,_,_,hoL,_⟩:=id hn
  refine h _ ⟨I.ok,I.os,I.bare,⟨fun b o e n hb hx=>?_,fun b o e n hb hx=>?_,I.base.free,fun b o e hx=>?_,I.base.tups,I.base.frzs,I.base.tbls⟩,⟨_,hn',fun j y v' e1 e2 e3=>?_⟩,fun y c e=>?_,I.free,I.freeC,fun p hp=>?_,tracked ⟨oL,hoL,I.free⟩ hs,by simpa using I.len⟩ ⟨_,hs,.inl rfl⟩
  ·exact(hs.2 b (ai (aN (P' e) I.ok.above))).trans (I.base.keep b o e n hb hx)
  ·obtain⟨sl,e1⟩:=I.base.slot b o e n hb hx
   exact⟨sl,(hs.2 b (ai (aN (P' e) I.ok.above))).trans e1⟩
  ·obtain⟨o',e1⟩:=I.base.there b o e hx
   exact⟨o',(hs.2 b (ai (aN (P' e) I.ok.above))).trans e1⟩
  ·by_cases hj:j=i
   ·subst hj
    rw[hi]at e1;cases e1
    rw[U' hiσ]at e2
    cases e2
    exact⟨u,r,.inl ⟨hk,by simp⟩⟩
   ·rw[Y' (Ne.symm hj)]at e2
    obtain⟨u',r',q⟩:=hl j y v' e1 e2 e3
    refine⟨u',r',?_⟩
    rcases q with ⟨k,e⟩|⟨k,c,e,z⟩
    ·refine .inl ⟨k,?_⟩
     have:y≠x:=fun e=>hj (LX hN e1 (e▸hi))
     simp[this,e]
    ·exact .inr ⟨k,c,e,z.sameBut hs (cne y c e)⟩
  ·obtain⟨w',z⟩:=I.cell y c e
   exact⟨w',z.sameBut hs (cne y c e)⟩
  ·obtain⟨e,n,ne,nf,d⟩:=I.pin p hp
   exact⟨(hs.2 p.1 ne).trans e,n,ne,nf,d⟩
 ·have hfn:X.fn x=true:=by
   rcases hf with z|z
   ·exact z
   ·rw[z]at hk;cases hk
  obtain⟨c,hc⟩:=I.ok.has x (.inl hk)
  obtain⟨w',z⟩:=I.cell x c hc
  refine wpAny_storeName_cell I.ok.kind hk hc z (fun h' hc' hs=>?_)
  obtain⟨oc,hoc,hocd⟩:=id z
  refine h { s with heap:=h' } ⟨I.ok,I.os,I.bare,⟨fun b o e n hb hx=>?_,fun b o e n hb hx=>?_,I.base.free,fun b o e hx=>?_,I.base.tups,I.base.frzs,I.base.tbls⟩,⟨m,hn.sameBut hs (Ne.symm (cne x c hc)),fun j y v' e1 e2 e3=>?_⟩,fun y c' e=>?_,I.free,I.freeC,fun p hp=>?_,tracked ⟨oc,hoc,I.freeC x c hc⟩ hs,by simpa using I.len⟩ ⟨c,hs,.inr hc⟩
  ·exact(hs.2 b (ai (aN (P' e) (I.ok.cab x c hfn hc)))).trans (I.base.keep b o e n hb hx)
  ·obtain⟨sl,e1⟩:=I.base.slot b o e n hb hx
   exact⟨sl,(hs.2 b (ai (aN (P' e) (I.ok.cab x c hfn hc)))).trans e1⟩
  ·obtain⟨o',e1⟩:=I.base.there b o e hx
   exact⟨o',(hs.2 b (ai (aN (P' e) (I.ok.cab x c hfn hc)))).trans e1⟩
  ·by_cases hj:j=i
   ·subst hj
    rw[hi]at e1;cases e1
    rw[U' hiσ]at e2
    cases e2
    exact⟨u,r,.inr ⟨.inl hk,c,hc,hc'⟩⟩
   ·rw[Y' (Ne.symm hj)]at e2
    obtain⟨u',r',q⟩:=hl j y v' e1 e2 e3
    refine⟨u',r',?_⟩
    rcases q with q|⟨k,c',e,z'⟩
    ·exact .inl q
    ·refine .inr ⟨k,c',e,z'.sameBut hs ?_⟩
     rintro rfl
     exact hj (LX hN e1 (I.ok.inj _ _ _ e hc▸hi))
  ·by_cases hcc:c'=c
   ·subst hcc;exact⟨_,hc'⟩
   ·obtain⟨w2,z2⟩:=I.cell y c' e
    exact⟨w2,z2.sameBut hs hcc⟩
  ·obtain⟨e,n,ne,nf,d⟩:=I.pin p hp
   refine⟨(hs.2 p.1 ?_).trans e,n,ne,nf,d⟩
   intro q
   rw[q,hoc]at e
   have q':oc=p.2:=A' e
   exact d w' (by rw[<- q'];exact hocd)
theorem F7{M:Model}{A:Around}{E:Value->Shared->Prop}{i:Nat}{x:Str}{v:V}{u:Value}{Q:Unit->Shared->Prop}(I:Inv X pins σ H s)(hN:X.N.Nodup)(hi:X.N[i]?=some x)(hx:Loc X.env.scope x)(r:RelV v u)
  (h:∀s',Inv X pins (σ.set i (some v)) H s'->Q () s') (hf:X.fn x=true\/X.env.scope.names.lookup x=some .local:=by first|exact .inl rfl|exact .inr rfl|assumption):wpAny M A (storeName X.env x u) Q E s :=
 Ji I hN hi hx r (fun s' I' _=>h s' I') hf
theorem Inv.call'{s':Shared}{ch:List Addr}(I:Inv X pins σ H s)(ho:s'.os=s.os)(u:Un (frs X.stack) ch H H' s.heap s'.heap)(hok:HOk X.prog X.w H' s'.heap)(hg:AllBare s'.gens)
  (hch:∀b∈ch,(b∈X.ex\/X.s₀.heap.objs.size<=b)/\b≠X.env.locals/\(∀x c,X.env.cells.lookup x=some c->c≠b)/\∀p∈X.pn++pins,p.1≠b):Inv X pins σ H' s':=by
 obtain⟨h',g',d',t',o'⟩:=s'
 have e:o'=s.os:=ho
 subst e
 exact I.call (g':=g') (t':=t') (d':=d') u hok hg hch
end
abbrev XK:=Value->Option Addr->Hp->Prop
abbrev St:=List (Option V)
abbrev VK:=V->Hp->Prop
abbrev TE:=St->Hp->VK->Prop
abbrev TT:=St->Hp->(Bool->Hp->Prop)->Prop
abbrev TA:=St->Hp->(List V->Hp->Prop)->Prop
structure JL where
 nx:St->Hp->Prop
 rt:VK
 bk:St->Hp->Prop:=fun _ _=>False
 ct:St->Hp->Prop:=fun _ _=>False
abbrev TS:=JL->St->Hp->Prop
def EP(X:Cx)(pins:List (Addr×Obj))(σ:St)(Q:VK)(u:Value)(s':Shared):Prop:=∃v H',Inv X pins σ H' s'/\RelV v u/\Q v H'
def TP(X:Cx)(pins:List (Addr×Obj))(σ:St)(Q:Bool->Hp->Prop)(b:Bool)(s':Shared):Prop:=∃H',Inv X pins σ H' s'/\Q b H'
def AP(X:Cx)(pins:List (Addr×Obj))(σ:St)(Q:List V->Hp->Prop)(us:List Value)(s':Shared):Prop:=∃vs H',Inv X pins σ H' s'/\Vals vs us/\Q vs H'
def SP(X:Cx)(pins:List (Addr×Obj))(D:JL)(f:Flow)(s':Shared):Prop :=
 match f with
 |.next=>∃σ' H',Inv X pins σ' H' s'/\D.nx σ' H'
 |.brk=>∃σ' H',Inv X pins σ' H' s'/\D.bk σ' H'
 |.cont=>∃σ' H',Inv X pins σ' H' s'/\D.ct σ' H'
 |.ret u=>∃v σ' H',Inv X pins σ' H' s'/\RelV v u/\D.rt v H'
def PE(X:Cx)(e:Expr)(t:TE):Prop :=
 ∀(pins:List (Addr×Obj)) (s:Shared) (σ:St) (H:Hp) (Q:VK),Inv X pins σ H s->t σ H Q->wpAny (model X.prog X.w) X.A (eval e X.env) (EP X pins σ Q) X.xe s
def PT(X:Cx)(e:Expr)(t:TT):Prop :=
 ∀(pins:List (Addr×Obj)) (s:Shared) (σ:St) (H:Hp) (Q:Bool->Hp->Prop),Inv X pins σ H s->t σ H Q->wpAny (model X.prog X.w) X.A (isTrue e X.env (eval e X.env)) (TP X pins σ Q) X.xe s
def PW(X:Cx)(e:Expr)(t:TT):Prop :=
 ∀(whole:Sem Value) (pins:List (Addr×Obj)) (s:Shared) (σ:St) (H:Hp) (Q:Bool->Hp->Prop),Inv X pins σ H s->t σ H Q->wpAny (model X.prog X.w) X.A (isTrue e X.env whole) (TP X pins σ Q) X.xe s
theorem PW.pt{X:Cx}{e:Expr}{t:TT}(h:PW X e t):PT X e t:=h _
def PA(X:Cx)(es:List Expr)(t:TA):Prop :=
 ∀(pos:Pos) (pins:List (Addr×Obj)) (s:Shared) (σ:St) (H:Hp) (Q:List V->Hp->Prop),Inv X pins σ H s->t σ H Q->wpAny (model X.prog X.w) X.A (spliced (backTo pos (starEach es X.env))) (AP X pins σ Q) X.xe s
def PS(X:Cx)(st:Stmt)(t:TS):Prop :=
 ∀(pins:List (Addr×Obj)) (s:Shared) (σ:St) (H:Hp) (D:JL),Inv X pins σ H s->t D σ H->wpAny (model X.prog X.w) X.A (exec st X.env) (SP X pins D) X.xe s
def PSs(X:Cx)(st:List Stmt)(t:TS):Prop :=
 ∀(pins:List (Addr×Obj)) (s:Shared) (σ:St) (H:Hp) (D:JL),Inv X pins σ H s->t D σ H->wpAny (model X.prog X.w) X.A (execs st X.env) (SP X pins D) X.xe s
theorem thn{α:Type}{t:Sem α}{Q Q':α->Shared->Prop}{M:Model}{A:Around}{E:Value->Shared->Prop}{s:Shared}(h:wpAny M A t Q E s)(hQ:∀a s,Q a s->Q' a s):wpAny M A t Q' E s:=wpAny_mono h hQ fun _ _ x=>x
end L2
namespace L2
open PySem PySem.Spec PyProof.Rows
section
variable {X:Cx}
def FL(i:Nat):TE:=fun σ H Q=>∃v,σ[i]?=some (some v)/\Q v H
def tC(v:V):TE:=fun _ H Q=>Q v H
theorem Pe{i:Nat}{x:Str}{pos:Pos}(hN:X.N[i]?=some x)(hv:Vis X.env.scope x)(hd:(x==("__debug__":Str))=false:=by decide)(hcd:(x==("__classdict__":Str))=false:=by decide):PE X (.Name x pos) (FL i):=by
 intro pins s σ H Q I h
 obtain⟨v,e,h⟩:=h
 obtain⟨m,hn,hl⟩:=I.loc
 obtain⟨u,r,l⟩:=hl i x v hN e hv
 have fin:EP X pins σ Q u s:=⟨v,H,I,r,h⟩
 rcases l with ⟨hk,hm⟩|⟨hk,c,hc,hcell⟩
 ·exact wpAny_Name (wpAny_loadName_local I.ok.kind hk hn hm fin) hd
 ·rcases hk with hk|hk
  ·exact wpAny_Name (wpAny_loadName_cell I.ok.kind hk hc hcell fin) hd
  ·exact wpAny_Name (wpAny_loadName_free I.ok.kind hk hc hcell fin hcd) hd
theorem Ua{i j pos}:PE X (.Constant (.int i) j pos) (tC (.int i)):=fun _ _ _ H _ I h=>wpAny_Constant_int ⟨.int i,H,I.tok _,⟨_,rfl⟩,h⟩
theorem Xc{b j pos}:PE X (.Constant (.bool b) j pos) (tC (.bl b)):=fun _ _ _ H _ I h=>Constant_bool ⟨.bl b,H,I,rfl,h⟩
theorem UZ{j pos}:PE X (.Constant .none j pos) (tC .non):=fun _ _ _ H _ I h=>Constant_none ⟨.non,H,I,rfl,h⟩
theorem KI{x j pos}:PE X (.Constant (.str x) j pos) (tC (.str x)):=fun _ _ _ H _ I h=>Calls.Constant_str ⟨.str x,H,I.tok _,⟨_,rfl⟩,h⟩
def Gl(X:Cx)(x:Str):Prop:=X.env.kindOf x=some .globalImplicit
theorem Ht{E:Value->Shared->Prop}{pins:List (Addr×Obj)}{s:Shared}{σ:St}{H:Hp}{x:Str}{u:Value}{pos:Pos}{Q:Value->Shared->Prop}(I:Inv X pins σ H s)(hg:Gl X x)(hm:X.mg x=some u)(h:Q u s)
  (hd:(x==("__debug__":Str))=false:=by decide):wpAny (model X.prog X.w) X.A (eval (.Name x pos) X.env) Q E s :=
 cI I.ok.kind hg (Calls.loadGlobal_global (by rw[I.ok.glob];exact I.mod.glob.keeps I.bk) hm h) hd
theorem Gr{E:Value->Shared->Prop}{pins:List (Addr×Obj)}{s:Shared}{σ:St}{H:Hp}{x:Str}{u:Value}{pos:Pos}{Q:Value->Shared->Prop}(I:Inv X pins σ H s)(hg:Gl X x)(hm:X.mg x=none)(hv:bootBuiltins x=some u)(h:Q u s)
  (hn:x≠"__name__":=by decide) (hd:(x==("__debug__":Str))=false:=by decide):wpAny (model X.prog X.w) X.A (eval (.Name x pos) X.env) Q E s:=by
 obtain⟨mb,h1,h2⟩:=I.mod.blt
 exact cI I.ok.kind hg (Calls.loadGlobal_builtin (by rw[I.ok.glob];exact I.mod.glob.keeps I.bk) hm (by rw[I.ok.blt];exact h1.keeps I.bk) ((h2 x hn).trans hv) h) hd
theorem EN{x:Str}{v:V}{u:Value}{pos:Pos}(hg:Gl X x)(hm:X.mg x=some u)(r:RelV v u)(hd:(x==("__debug__":Str))=false:=by decide):PE X (.Name x pos) (tC v) :=
 fun _ _ _ H _ I h=>Ht I hg hm ⟨v,H,I,r,h⟩ hd
theorem RN{x:Str}{v:V}{u:Value}{pos:Pos}(hg:Gl X x)(hm:X.mg x=none)(hv:bootBuiltins x=some u)(r:RelV v u)(hn:x≠"__name__":=by decide)(hd:(x==("__debug__":Str))=false:=by decide):PE X (.Name x pos) (tC v) :=
 fun _ _ _ H _ I h=>Gr I hg hm hv ⟨v,H,I,r,h⟩ hn hd
variable {a b:Expr} {ta tb:TE} {pos:Pos}
def tB(t:TE):TT:=fun σ H Q=>t σ H fun x H1=>∃c,x = .bl c/\Q c H1
theorem UL{e:Expr}{t:TE}(h:PE X e t)(he:∀whole,isTrue e X.env whole=(do let v <- whole;standAt e.pos;holding [v] (truthy v)):=by intro _;rfl):PT X e (tB t):=by
 intro pins s σ H Q I hw
 refine isTrue_plain (thn (h pins s σ H _ I hw) fun v s1 ⟨x,H1,I1,r1,q1⟩=>?_) (he _)
 obtain⟨d,rfl,q⟩:=q1
 cases r1
 exact wpAny_truthy_bool ⟨H1,I1,q⟩
variable {tA tB':TT} {Ca:List Expr}
def XE(t u:TT):TT:=fun σ H Q=>t σ H fun c H1=>if c=true then u σ H1 Q else Q false H1
def tOr(t u:TT):TT:=fun σ H Q=>t σ H fun c H1=>if c=true then Q true H1 else u σ H1 Q
def XC(t:TT):TT:=fun σ H Q=>t σ H fun c H1=>Q (!c) H1
theorem Q8(ha:PT X a tA):PW X (.BoolOp .And [a] pos) tA:=by
 intro wh pins s σ H Q I h
 refine isTrue_and (thn (ha pins s σ H Q I h) fun c s1 e=>?_)
 cases c with
 |true=>exact isTrue_and_nil e
 |false=>exact e
theorem UI(ha:PT X a tA):PW X (.BoolOp .Or [a] pos) tA:=by
 intro wh pins s σ H Q I h
 refine isTrue_or (thn (ha pins s σ H Q I h) fun c s1 e=>?_)
 cases c with
 |false=>exact isTrue_or_nil e
 |true=>exact e
theorem UJ(ha:PT X a tA)(hb:PW X (.BoolOp .And (b::Ca) pos) tB'):PW X (.BoolOp .And (a::b::Ca) pos) (XE tA tB'):=by
 intro wh pins s σ H Q I h
 refine isTrue_and (thn (ha pins s σ H _ I h) fun c s1 ⟨H1,I1,q1⟩=>?_)
 cases c with
 |true=>exact hb wh pins s1 σ H1 Q I1 q1
 |false=>exact⟨H1,I1,q1⟩
theorem XT(ha:PT X a tA)(hb:PW X (.BoolOp .Or (b::Ca) pos) tB'):PW X (.BoolOp .Or (a::b::Ca) pos) (tOr tA tB'):=by
 intro wh pins s σ H Q I h
 refine isTrue_or (thn (ha pins s σ H _ I h) fun c s1 ⟨H1,I1,q1⟩=>?_)
 cases c with
 |true=>exact⟨H1,I1,q1⟩
 |false=>exact hb wh pins s1 σ H1 Q I1 q1
theorem UM(ha:PT X a tA):PT X (.UnaryOp .Not a pos) (XC tA):=by
 intro pins s σ H Q I h
 exact isTrue_not (ha pins s σ H (fun c H1=>Q (!c) H1) I h)
def TF(ta tb:TE):TE:=fun σ H Q=>ta σ H fun x H1=>∃c,x = .bl c/\if c=true then tb σ H1 Q else Q (.bl false) H1
def XB(ta tb:TE):TE:=fun σ H Q=>ta σ H fun x H1=>∃c,x = .bl c/\if c=true then Q (.bl true) H1 else tb σ H1 Q
def S8(ta:TE):TE:=fun σ H Q=>ta σ H fun x H1=>∃c,x = .bl c/\Q (.bl (!c)) H1
theorem UX{op}{t:TE}(h:PE X a t):PE X (.BoolOp op [a] pos) t:=fun pins s σ H Q I hw=>BoolOp_one (h pins s σ H Q I hw)
theorem Uc(ha:PE X a ta)(hb:PE X (.BoolOp .And (b::Ca) pos) tb):PE X (.BoolOp .And (a::b::Ca) pos) (TF ta tb):=by
 intro pins s σ H Q I h
 refine BoolOp_and (thn (ha pins s σ H _ I h) fun v s1 ⟨x,H1,I1,r1,q1⟩=>?_)
 obtain⟨c,rfl,q1⟩:=q1
 cases r1
 refine wpAny_truthy_bool ?_
 cases c with
 |true=>exact hb pins s1 σ H1 Q I1 q1
 |false=>exact⟨.bl false,H1,I1,rfl,q1⟩
theorem XY(ha:PE X a ta)(hb:PE X (.BoolOp .Or (b::Ca) pos) tb):PE X (.BoolOp .Or (a::b::Ca) pos) (XB ta tb):=by
 intro pins s σ H Q I h
 refine BoolOp_or (thn (ha pins s σ H _ I h) fun v s1 ⟨x,H1,I1,r1,q1⟩=>?_)
 obtain⟨c,rfl,q1⟩:=q1
 cases r1
 refine wpAny_truthy_bool ?_
 cases c with
 |false=>exact hb pins s1 σ H1 Q I1 q1
 |true=>exact⟨.bl true,H1,I1,rfl,q1⟩
theorem UY(ha:PE X a ta):PE X (.UnaryOp .Not a pos) (S8 ta):=by
 intro pins s σ H Q I h
 refine UnaryOp_ (thn (ha pins s σ H _ I h) fun v s1 ⟨x,H1,I1,r1,q1⟩=>?_)
 obtain⟨c,rfl,q1⟩:=q1
 cases r1
 exact not_of (wpAny_truthy_bool ⟨.bl (!c),H1,I1,rfl,q1⟩)
def tIf(t:TT)(ta tb:TE):TE:=fun σ H Q=>t σ H fun c H1=>if c=true then ta σ H1 Q else tb σ H1 Q
theorem Pg{c:Expr}(hc:PT X c tA)(ha:PE X a ta)(hb:PE X b tb):PE X (.IfExp c a b pos) (tIf tA ta tb):=by
 intro pins s σ H Q I h
 refine wpAny_IfExp (thn (hc pins s σ H _ I h) fun d s1 ⟨H1,I1,q1⟩=>?_)
 cases d with
 |true=>exact ha pins s1 σ H1 Q I1 q1
 |false=>exact hb pins s1 σ H1 Q I1 q1
end
end L2
namespace L2
open PySem PySem.Spec PyProof.Rows
def SqL(K:PySem.W.Frag)(H:Hp)(a:Addr)(xs:List V):Prop :=
 Rd H a (.lst xs) \/
  ∃(o:Obj) (its:Array Value) (n:Nat),K.lookup a=some o/\o.cls = .type "list"/\o.dict=none/\o.data = .seq its n/\its.size<=sizeLine/\Vals xs its.toList
def SqT(K:PySem.W.Frag)(H:Hp)(a:Addr)(xs:List V):Prop :=
 Rd H a (.tup xs) \/
  ∃(o:Obj) (its:Array Value) (n:Nat),K.lookup a=some o/\o.cls = .type "tuple"/\o.data = .seq its n/\its.size<=sizeLine/\Vals xs its.toList
def aJ:Value->Option V
 |.none=>some .non
 |.bool b=>some (.bl b)
 |.int i _=>some (.int i)
 |.str x _=>some (.str x)
 |.bytes b _=>some (.byt b)
 |.float b _=>some (.flt b)
 |.ref a=>some (.ref a)
 |.type n=>some (.ty n)
 |_=>none
theorem RelV.abs{x:V}{u:Value}(r:RelV x u):aJ u=some x:=by
 cases x with
 |non=>cases r;rfl
 |bl _=>cases r;rfl
 |int _=>obtain⟨t,rfl⟩:=r;rfl
 |str _=>obtain⟨t,rfl⟩:=r;rfl
 |byt _=>obtain⟨t,rfl⟩:=r;rfl
 |flt _=>obtain⟨t,rfl⟩:=r;rfl
 |ref _=>cases r;rfl
 |ty _=>cases r;rfl
theorem RelV.inj{x y:V}{u:Value}(r:RelV x u)(q:RelV y u):x=y:=A' (r.abs.symm.trans q.abs)
theorem Vals.inj:∀{xs ys:List V} {us:List Value},Vals xs us->Vals ys us->xs=ys
 |_,_,_,.nil,.nil=>rfl
 |_,_,_,.cons r t,.cons r' t'=>by rw[r.inj r',Vals.inj t t']
section
variable {X:Cx} {pins:List (Addr×Obj)} {σ:St} {H:Hp} {s:Shared} {a:Addr} {xs ys:List V}
theorem SqL.of{K:PySem.W.Frag}(h:H a=some (.lst xs)):SqL K H a xs:=.inl (.inl h)
theorem SqT.of{K:PySem.W.Frag}(h:H a=some (.tup xs)):SqT K H a xs:=.inl (.inl h)
theorem Inv.list(I:Inv X pins σ H s)(h:SqL X.K H a xs):∃its:List Value,Vals xs its/\PlainL s.heap a its.toArray/\xs.length<=sizeLine:=by
 rcases h with h|⟨o,its,n,hk,hc,hd,hs,hz,r⟩
 ·obtain⟨z,its,n,r,e⟩:=h.ok I.hok
  exact⟨its,r,⟨_,n,e,rfl,rfl,rfl⟩,z⟩
 ·refine⟨its.toList,r,⟨o,n,I.kIn a o hk,hc,hd,by simpa using hs⟩,?_⟩
  have e:=r.length
  simp only[Array.length_toList]at e
  omega
theorem Inv.tuple(I:Inv X pins σ H s)(h:SqT X.K H a xs):∃its:List Value,Vals xs its/\IsTup s.heap a its.toArray/\xs.length<=sizeLine:=by
 rcases h with h|⟨o,its,n,hk,hc,hs,hz,r⟩
 ·obtain⟨z,its,r,p⟩:=h.ok I.hok
  exact⟨its,r,p,z⟩
 ·refine⟨its.toList,r,⟨o,I.kIn a o hk,hc,n,by simpa using hs⟩,?_⟩
  have e:=r.length
  simp only[Array.length_toList]at e
  omega
theorem Inv.list_inj(I:Inv X pins σ H s)(h:SqL X.K H a xs)(h':SqL X.K H a ys):xs=ys:=by
 obtain⟨its,r,⟨o,n,e,_,_,d⟩,_⟩:=I.list h
 obtain⟨its',r',⟨o',n',e',_,_,d'⟩,_⟩:=I.list h'
 rw[e]at e';cases e'
 rw[d]at d'
 injection d' with d1 _
 have:its=its':=by simpa using congrArg Array.toList d1
 subst this
 exact r.inj r'
theorem Inv.tuple_inj(I:Inv X pins σ H s)(h:SqT X.K H a xs)(h':SqT X.K H a ys):xs=ys:=by
 obtain⟨its,r,⟨o,e,_,n,d⟩,_⟩:=I.tuple h
 obtain⟨its',r',⟨o',e',_,n',d'⟩,_⟩:=I.tuple h'
 rw[e]at e';cases e'
 rw[d]at d'
 injection d' with d1 _
 have:its=its':=by simpa using congrArg Array.toList d1
 subst this
 exact r.inj r'
end
abbrev Cx.wish(X:Cx)(E:Value->Shared->Prop):Cx:={ X with xe:=E }
abbrev Cx.nox(X:Cx):Cx:=X.wish fun _ _=>False
theorem Cx.Ok.wish{X:Cx}(ok:X.Ok)(E:Value->Shared->Prop):(X.wish E).Ok :=
 ⟨ok.mod,ok.kind,ok.glob,ok.blt,ok.above,ok.inj,ok.has,ok.cab,ok.hd,ok.frames,ok.stk,ok.exf,ok.bs,ok.bsz,ok.noex,ok.exfs,ok.funs,ok.frf⟩
theorem Cx.Ok.unwish{X:Cx}{E:Value->Shared->Prop}(ok:(X.wish E).Ok):X.Ok :=
 ⟨ok.mod,ok.kind,ok.glob,ok.blt,ok.above,ok.inj,ok.has,ok.cab,ok.hd,ok.frames,ok.stk,ok.exf,ok.bs,ok.bsz,ok.noex,ok.exfs,ok.funs,ok.frf⟩
section
variable {X:Cx} {pins:List (Addr×Obj)} {σ:St} {H:Hp} {s:Shared} {E:Value->Shared->Prop}
theorem Inv.wish(I:Inv X pins σ H s)(E:Value->Shared->Prop):Inv (X.wish E) pins σ H s:=⟨I.ok.wish E,I.os,I.bare,I.base,I.loc,I.cell,I.free,I.freeC,I.pin,I.hok,I.len⟩
theorem Inv.unwish(I:Inv (X.wish E) pins σ H s):Inv X pins σ H s:=⟨I.ok.unwish,I.os,I.bare,I.base,I.loc,I.cell,I.free,I.freeC,I.pin,I.hok,I.len⟩
theorem SP.unwish{D:JL}{f:Flow}{s':Shared}(h:SP (X.wish E) pins D f s'):SP X pins D f s':=by
 cases f with
 |next=>obtain⟨σ',H',I,q⟩:=h;exact⟨σ',H',I.unwish,q⟩
 |brk=>obtain⟨σ',H',I,q⟩:=h;exact⟨σ',H',I.unwish,q⟩
 |cont=>obtain⟨σ',H',I,q⟩:=h;exact⟨σ',H',I.unwish,q⟩
 |ret u=>obtain⟨v,σ',H',I,r,q⟩:=h;exact⟨v,σ',H',I.unwish,r,q⟩
theorem PSs.nox{st:List Stmt}{t:TS}(h:PSs X.nox st t):PSs X st t:=fun pins s σ H D I hw =>
 wpAny_mono (h pins s σ H D (I.wish _) hw) (fun _ _ q=>q.unwish) fun _ _ z=>False.elim z
end
section
variable {X:Cx} {st:Stmt} {Ca:List Stmt} {t u:TS} {e:Expr} {te:TE} {pos:Pos}
def S9:TS:=fun D σ H=>D.nx σ H
def Tz(t u:TS):TS:=fun D σ H=>t { D with nx:=u D } σ H
theorem NC:PSs X [] S9:=fun _ _ σ H _ I h=>wpAny_execs_nil ⟨σ,H,I,h⟩
theorem LA(h1:PS X st t)(h2:PSs X Ca u):PSs X (st::Ca) (Tz t u):=by
 intro pins s σ H D I h
 refine wpAny_execs_cons (thn (h1 pins s σ H { D with nx:=u D } I h) fun f s1 q=>?_)
 cases f with
 |next =>
  obtain⟨σ',H',I',q⟩:=q
  exact h2 pins s1 σ' H' D I' q
 |ret v=>exact q
 |brk=>exact q
 |cont=>exact q
theorem NB(h1:PS X st t):PSs X [st] t:=by
 intro pins s σ H D I h
 refine wpAny_execs_cons (thn (h1 pins s σ H D I h) fun f s1 q=>?_)
 cases f with
 |next=>exact wpAny_execs_nil q
 |ret v=>exact q
 |brk=>exact q
 |cont=>exact q
theorem Inv.quiet{pins:List (Addr×Obj)}{σ:St}{H:Hp}{s:Shared}(I:Inv X pins σ H s):interactive X.env=false:=by simp[interactive,I.ok.kind]
def TC(te:TE):TS:=fun D σ H=>te σ H fun _ H1=>D.nx σ H1
theorem RD(he:PE X e te)(hs:swapsWith e none pos.line X.env=pure false:=by rfl):PS X (.Expr e pos) (TC te):=by
 intro pins s σ H D I h
 exact wpAny_Expr_any (thn (he pins s σ H _ I h) fun v s1 ⟨x,H1,I1,r1,q1⟩=>⟨σ,H1,I1,q1⟩) I.quiet hs
def T1(te:TE):TS:=fun D σ H=>te σ H D.rt
theorem PV(he:PE X e te):PS X (.Return (some e) pos) (T1 te):=by
 intro pins s σ H D I h
 exact wpAny_Return_some (thn (he pins s σ H _ I h) fun v s1 ⟨x,H1,I1,r1,q1⟩=>⟨x,σ,H1,I1,r1,q1⟩)
def T3(c:TT)(t u:TS):TS:=fun D σ H=>c σ H fun b H1=>if b=true then t D σ H1 else u D σ H1
theorem TV{c:Expr}{a b:List Stmt}{tc:TT}(hc:PT X c tc)(ha:PSs X a t)(hb:PSs X b u):PS X (.If c a b pos) (T3 tc t u):=by
 intro pins s σ H D I h
 refine wpAny_If (thn (hc pins s σ H _ I h) fun d s1 ⟨H1,I1,q1⟩=>?_)
 cases d with
 |true=>exact ha pins s1 σ H1 D I1 q1
 |false=>exact hb pins s1 σ H1 D I1 q1
end
abbrev TG:=V->St->Hp->(St->Hp->Prop)->Prop
abbrev TGs:=List V->St->Hp->(St->Hp->Prop)->Prop
def PG(X:Cx)(target:Expr)(t:TG):Prop :=
 ∀(pins:List (Addr×Obj)) (s:Shared) (σ:St) (H:Hp) (v:V) (u:Value) (Q:St->Hp->Prop),Inv X pins σ H s->RelV v u->t v σ H Q ->
  wpAny (model X.prog X.w) X.A (assign target X.env u) (fun _ s'=>∃σ' H',Inv X pins σ' H' s'/\Q σ' H') X.xe s
def PGs(X:Cx)(ts:List Expr)(t:TGs):Prop :=
 ∀(pins:List (Addr×Obj)) (s:Shared) (σ:St) (H:Hp) (vs:List V) (us:List Value) (Q:St->Hp->Prop),Inv X pins σ H s->Vals vs us->t vs σ H Q ->
  wpAny (model X.prog X.w) X.A (assignInOrder ((assignEach ts X.env).map (·.2)) us) (fun _ s'=>∃σ' H',Inv X pins σ' H' s'/\Q σ' H') X.xe s
abbrev Sv:=V->V->V->Hp->(Hp->Prop)->Prop
def Sw(X:Cx)(t:Sv):Prop :=
 ∀(pins:List (Addr×Obj)) (s:Shared) (σ:St) (H:Hp) (o i v:V) (ov iv u:Value) (Q:Hp->Prop),Inv X pins σ H s->RelV o ov->RelV i iv->RelV v u->t o i v H Q ->
  wpAny (model X.prog X.w) X.A (setItem ov iv u) (fun _ s'=>∃H',Inv X pins σ H' s'/\Q H') X.xe s
section
variable {X:Cx} {pos:Pos}
def HX(i:Nat):TG:=fun v σ H Q=>Q (σ.set i (some v)) H
theorem RK{i:Nat}{x:Str}(hN:X.N.Nodup)(hi:X.N[i]?=some x)(hx:Loc X.env.scope x)(hf:X.fn x=true\/X.env.scope.names.lookup x=some .local:=by first|exact .inl rfl|exact .inr rfl|assumption):PG X (.Name x pos) (HX i):=by
 intro pins s σ H v u Q I r h
 exact wpAny_assign_Name (F7 I hN hi hx r (fun s' I'=>⟨_,H,I',h⟩) hf)
def YG:TGs:=fun vs σ H Q=>vs=[]/\Q σ H
def Tb(t:TG)(u:TGs):TGs:=fun vs σ H Q=>∃v r,vs=v::r/\t v σ H fun σ' H'=>u r σ' H' Q
theorem RJ:PGs X [] YG:=by
 intro pins s σ H vs us Q I r h
 obtain⟨e,h⟩:=h
 subst e
 cases r
 exact assignInOrder_nil ⟨σ,H,I,h⟩
theorem Pd{e:Expr}{es:List Expr}{t:TG}{u:TGs}(h1:PG X e t)(h2:PGs X es u)
  (hs:(assignEach (e::es) X.env).map (·.2)=assign e X.env::(assignEach es X.env).map (·.2):=by rfl):PGs X (e::es) (Tb t u):=by
 intro pins s σ H vs us Q I r h
 obtain⟨v,vr,e1,h⟩:=h
 subst e1
 cases r with
 |cons r rr =>
  rw[hs]
  refine assignInOrder_cons (thn (h1 pins s σ H _ _ _ I r h) fun _ s1 ⟨σ1,H1,I1,q1⟩=>?_)
  exact h2 pins s1 σ1 H1 _ _ Q I1 rr q1
def Rx(K:PySem.W.Frag)(n:Nat)(t:TGs):TG:=fun v σ H Q=>∃a xs,v = .ref a/\SqT K H a xs/\xs.length=n/\t xs σ H Q
theorem UT{es:List Expr}{k:Nat}{t:TGs}{n:Nat}(hc:X.calm=true)(h:PGs X es t)
  (hn:(assignEach es X.env).length=n:=by rfl) (hst:(assignEach es X.env).findIdx? (·.1)=none:=by rfl):PG X (.Tuple es k pos) (Rx X.K n t):=by
 intro pins s σ H v u Q I r hw
 obtain⟨a,xs,e1,hq,hl,hw⟩:=hw
 subst e1
 cases r
 obtain⟨its,rv,ht,hz⟩:=I.tuple hq
 refine assign_Tuple_tuple (I.ok.hd hc) ht (by simp[hn,<- hl,rv.length]) hst fun h' hx=>?_
 have I1:Inv X pins σ H { s with heap:=h' }:=I.kept (t':=s.toks) fun b o e=>hx b o (ai (P' e)) e
 exact h pins _ σ H xs _ Q I1 (by simpa using rv) hw
def Ry(to ti:TE)(t:Sv):TG:=fun v σ H Q=>to σ H fun o H1=>ti σ H1 fun i H2=>t o i v H2 fun H3=>Q σ H3
theorem UU{o i:Expr}{to ti:TE}{t:Sv}(ho:PE X o to)(hi:PE X i ti)(hs:Sw X t)
  (ha : ∀ v, assign (.Subscript o i pos) X.env v = (do
   let ov <- holding [v] (eval o X.env)
   let iv <- holding [v,ov] (eval i X.env)
   standAt pos
   holding [v,ov,iv] (setItem ov iv v)
   release [v,ov,iv] []):=by intro _;rfl):PG X (.Subscript o i pos) (Ry to ti t):=by
 intro pins s σ H v u Q I r h
 rw[ha]
 refine wpAny_bind (wpAny_holding (thn (ho pins s σ H _ I h) fun ov s1 ⟨x,H1,I1,r1,q1⟩=>?_))
 refine wpAny_bind (wpAny_holding (thn (hi pins s1 σ H1 _ I1 q1) fun iv s2 ⟨y,H2,I2,r2,q2⟩=>?_))
 refine wpAny_bind (wpAny_standAt (wpAny_bind (wpAny_holding (thn (hs pins s2 σ H2 x y v ov iv u _ I2 r1 r2 r q2) fun _ s3 ⟨H3,I3,q3⟩=>?_))))
 exact wpAny_release ⟨σ,H3,I3,q3⟩
def JM(te:TE)(g:TG):TS:=fun D σ H=>te σ H fun x H1=>g x σ H1 D.nx
theorem PY{tg e:Expr}{te:TE}{g:TG}(he:PE X e te)(hg:PG X tg g)(hs:swapsWithSole [tg] e pos.line X.env=pure false:=by rfl)(hw:swappedStores [tg] e X.env=pure none:=by rfl)
  (h1:(assignEach [tg] X.env).map (·.2)=[assign tg X.env]:=by rfl):PS X (.Assign [tg] e pos) (JM te g):=by
 intro pins s σ H D I h
 refine wpAny_Assign_stores (thn (he pins s σ H _ I h) fun v s1 ⟨x,H1,I1,r1,q1⟩=>?_) hs hw
 rw[h1]
 exact thn (hg pins s1 σ H1 x v _ I1 r1 q1) fun _ s2 q=>q
theorem UN{i:Nat}{x:Str}{e:Expr}{te:TE}{pos':Pos}(hN:X.N.Nodup)(hi:X.N[i]?=some x)(hx:Loc X.env.scope x)(he:PE X e te)(hs:swapsWith e (some (.Name x pos')) pos.line X.env=pure false:=by rfl)(hf:X.fn x=true\/X.env.scope.names.lookup x=some .local:=by first|exact .inl rfl|exact .inr rfl|assumption) :
  PS X (.Assign [.Name x pos'] e pos) (JM te (HX i)):=by
 intro pins s σ H D I h
 refine wpAny_Assign_Name (thn (he pins s σ H _ I h) fun v s1 ⟨y,H1,I1,r1,q1⟩=>?_) hs
 exact F7 I1 hN hi hx r1 (fun s2 I2=>⟨_,H1,I2,q1⟩) hf
def XA(i j:Nat)(ta:TA):TS:=fun D σ H=>ta σ H fun vs H1=>∃v w,vs=[v,w]/\D.nx ((σ.set i (some v)).set j (some w)) H1
theorem UO{i j:Nat}{x y:Str}{a b:Expr}{ta:TA}{px py pt:Pos}{kt k2 pt2}(hc:X.calm=true)(hN:X.N.Nodup)(hi:X.N[i]?=some x)(hj:X.N[j]?=some y)(hij:i≠j)
  (hx:X.env.scope.names.lookup x=some .local) (hy:X.env.scope.names.lookup y=some .local) (ha:PA X [a,b] ta)
  (hw:swappedStores [.Tuple [.Name x px,.Name y py] kt pt] (.Tuple [a,b] k2 pt2) X.env=pure (some [x,y]))
  (hs:swapsWithSole [.Tuple [.Name x px,.Name y py] kt pt] (.Tuple [a,b] k2 pt2) pos.line X.env=pure false:=by rfl) :
  PS X (.Assign [.Tuple [.Name x px,.Name y py] kt pt] (.Tuple [a,b] k2 pt2) pos) (XA i j ta):=by
 intro pins s σ H D I h
 rw[exec_Assign_arm]
 refine wpAny_bind (wpAny_standAt ?_)
 rw[hs]
 refine wpAny_bind (wpAny_pure ?_)
 rw[if_neg (by decide)]
 refine wpAny_bind (Tuple_ (thn (ha _ pins s σ H _ I h) fun us s1 ⟨vs,H1,I1,r1,q1⟩=>?_))
 obtain⟨v,w,e1,q1⟩:=q1
 subst e1
 obtain⟨u1,u2,rfl,rv,rw'⟩:∃u1 u2,us=[u1,u2]/\RelV v u1/\RelV w u2:=by
  cases r1 with
  |cons p q =>
   cases q with
   |cons p' q' =>
    cases q'
    exact⟨_,_,rfl,p,p'⟩
 refine wpAny_newObj_type ?_ (by show 2<=sizeLine;decide)
 have I2:Inv X pins σ H1 { s1 with heap:=s1.heap.push { cls:=.type "tuple",data:=.seq [u1,u2].toArray } }:=I1.kept (t':=s1.toks) fun b o e=>E' _ e
 rw[hw]
 refine wpAny_bind (wpAny_pure ?_)
 show wpAny (model X.prog X.w) X.A (do rule "assign.swapped-stores";let items <- unpackItems (.ref s1.heap.objs.size) 2 none;assignInOrder [fun v=>bindName X.env y v,fun v=>bindName X.env x v] items.reverse;pure Flow.next) _ _ _
 refine wpAny_bind (wpAny_rule (wpAny_bind (unpackItems_tuple (items:=#[u1,u2]) (I.ok.hd hc) (IsTup.new s1.heap _) fun h' hx'=>?_)))
 have I3:=I2.kept (h':=h') (t':=s1.toks) fun b o e=>hx' b o (ai (P' e)) e
 show wpAny _ _ (assignInOrder [fun v=>bindName X.env y v,fun v=>bindName X.env x v] [u2,u1] >>= fun _=>pure Flow.next) _ _ _
 refine wpAny_bind (assignInOrder_cons (wpAny_bindName (F7 I3 hN hj (.inl hy) rw' (fun s2 I4=>?_) (.inr hy))))
 refine assignInOrder_cons (wpAny_bindName (F7 I4 hN hi (.inl hx) rv (fun s3 I5=>assignInOrder_nil (wpAny_pure ?_)) (.inr hx)))
 rw[List.set_comm _ _ (Ne.symm hij)]at I5
 exact⟨_,H1,I5,q1⟩
end
section
variable {X:Cx} {pos:Pos}
def Oo(c:TT)(tb:TS):TS:=fun D σ H=>∃W:Nat->St->Hp->Prop,(∃m,W m σ H)/\∀m σ H,W m σ H ->
 c σ H fun b H1=>if b=true then ∃N:St->Hp->Prop,(∀σ' H',N σ' H'->∃m',m'<m/\W m' σ' H')/\tb { D with nx:=N,ct:=N,bk:=D.nx } σ H1 else D.nx σ H1
theorem PR{c:Expr}{body:List Stmt}{tc:TT}{tb:TS}(hp:PassesOwn (model X.prog X.w) X.A X.env X.xe)(hc:PT X c tc)(hb:PSs X body tb):PS X (.While c body [] pos) (Oo tc tb):=by
 intro pins s σ H D I h
 obtain⟨W,⟨m0,w0⟩,turn⟩:=h
 refine wpAny_While (codeAny_whileLoop (fun n s'=>∃σ' H',Inv X pins σ' H' s'/\W n σ' H') ?_ m0 ⟨σ,H,I,w0⟩)
 rintro n s1 ⟨σ1,H1,I1,w1⟩
 refine wpAny_passesOwn hp (thn (hc pins s1 σ1 H1 _ I1 (turn n σ1 H1 w1)) fun b s2 ⟨H2,I2,q2⟩=>?_)
 cases b with
 |true =>
  obtain⟨N,hN,q2⟩:=q2
  rw[if_pos rfl]
  refine wpAny_passesOwn hp (thn (hb pins s2 σ1 H2 _ I2 q2) fun f s3 q3=>?_)
  cases f with
  |next =>
   obtain⟨σ3,H3,I3,n3⟩:=q3
   obtain⟨m',hm,w3⟩:=hN σ3 H3 n3
   exact⟨m',hm,σ3,H3,I3,w3⟩
  |cont =>
   obtain⟨σ3,H3,I3,n3⟩:=q3
   obtain⟨m',hm,w3⟩:=hN σ3 H3 n3
   exact⟨m',hm,σ3,H3,I3,w3⟩
  |brk=>exact q3
  |ret v=>exact q3
 |false =>
  rw[if_neg aP]
  exact wpAny_execs_nil ⟨σ1,H2,I2,q2⟩
end
structure It where
 go:Nat->Hp->Prop
 yld:Nat->Hp->V->Hp->Prop
 stop:Nat->Hp->Prop
def FC(X:Cx)(pins:List (Addr×Obj))(H:Hp)(b:Addr):Prop :=
 H b=none/\b≠X.env.locals/\b∉X.fs/\(b∈X.ex\/X.s₀.heap.objs.size<=b)/\(∀x c,X.env.cells.lookup x=some c->c≠b)/\∀p∈X.pn++pins,p.1≠b
theorem Inv.fpOk{X:Cx}{pins:List (Addr×Obj)}{σ:St}{H H':Hp}{s:Shared}{b:Addr}(I:Inv X pins σ H s)(hb:s.heap.objs.size<=b)(hn:H' b=none):FC X pins H' b:=by
 refine⟨hn,bT (aN I.lt hb),I.nofs hb,.inr (W' I.sz hb),fun x c e z=>?_,fun p hp z=>?_⟩
 ·obtain⟨v,q⟩:=I.cell x c e
  exact absurd (aN q.lt (by rw[z];exact hb)) (ax _)
 ·exact absurd (aN (P' (I.pin p hp).1) (by rw[z];exact hb)) (ax _)
structure Turn(P:Program)(w:World)(K:PySem.W.Frag)(tg:Expr)(J:It)(fp:List Addr)(it:Addr)(tn:Nat->Heap->Prop):Prop where
 mem:it∈fp
 obj:∀i h,tn i h->∀b∈fp,∃o,h.get? b=some o/\∀v,o.data≠.cell v
 keep:∀i h h',tn i h->(∀b∈fp,∀o,h.get? b=some o->h'.get? b=some o)->tn i h'
 item:∀(X:Cx),X.prog=P->X.w=w->X.K=K->X.calm=true->∀(i:Nat) (pins:List (Addr×Obj)) (s:Shared) (σ:St) (H:Hp) (E:Value->Shared->Prop),Inv X pins σ H s->(∀b∈fp,FC X pins H b)->tn i s.heap->J.go i H ->
  wpAny (model P w) X.A (pyNext (.ref it)) (fun r s1 => ∃ u, r = some u /\
   wpAny (model P w) X.A (letOwnedTupleGo tg (.ref it) u) (fun _ s2=>∃x H',Inv X pins σ H' s2/\RelV x u/\J.yld i H x H'/\tn (i+1) s2.heap/\∀b∈fp,H' b=none) E s1) E s
 done:∀(X:Cx),X.prog=P->X.w=w->X.K=K->X.calm=true->∀(i:Nat) (pins:List (Addr×Obj)) (s:Shared) (σ:St) (H:Hp) (E:Value->Shared->Prop),Inv X pins σ H s->(∀b∈fp,FC X pins H b)->tn i s.heap->J.stop i H ->
  wpAny (model P w) X.A (pyNext (.ref it)) (fun r s1=>r=none/\Inv X pins σ H s1) E s
 self:∀(A:Around) (i:Nat) (s:Shared) (Q:Value->Shared->Prop) (E:Value->Shared->Prop),tn i s.heap->Q (.ref it) s->wpAny (model P w) A (pyIter (.ref it)) Q E s
abbrev TI:=St->Hp->(It->Hp->Prop)->Prop
def PIE(X:Cx)(pins:List (Addr×Obj))(σ:St)(tg:Expr)(R:It->Hp->Prop)(itv:Value)(s2:Shared):Prop :=
 ∃(it:Addr) (fp:List Addr) (tn:Nat->Heap->Prop) (J:It) (H':Hp),itv = .ref it/\Inv X pins σ H' s2/\Turn X.prog X.w X.K tg J fp it tn/\tn 0 s2.heap/\(∀b∈fp,FC X pins H' b)/\R J H'
def PI(X:Cx)(tg iter:Expr)(wi:TI):Prop :=
 ∀(pins:List (Addr×Obj)) (s:Shared) (σ:St) (H:Hp) (R:It->Hp->Prop),Inv X pins σ H s->wi σ H R ->
  wpAny (model X.prog X.w) X.A (eval iter X.env) (fun v s1=>wpAny (model X.prog X.w) X.A (pyIter v) (PIE X pins σ tg R) X.xe s1) X.xe s
theorem NT{M:Model}{A:Around}{E:Value->Shared->Prop}{s:Shared}{tg:Expr}{it:Addr}{u:Value}{o:Obj}{n:String}{vs:Array Value}{Q:Unit->Shared->Prop}(ho:s.heap.get? it=some o)(hc:o.cls = .type n)(hd:o.data = .fields vs)
    (hn:["enumerate","zip","dict_itemiterator","dict_reverseitemiterator","odict_iterator","itertools.zip_longest","itertools.pairwise"].contains n=false) (hQ:Q () s):wpAny M A (letOwnedTupleGo tg (.ref it) u) Q E s:=by
  unfold letOwnedTupleGo
  cases tg<;>first
    |exact wpAny_pure hQ
    | (cases u <;> first
        |exact wpAny_pure hQ
        | (refine wpAny_bind (wpAny_load ho ?_)
           rw[hc,hd]
           show wpAny M A (if (["enumerate","zip","dict_itemiterator","dict_reverseitemiterator","odict_iterator","itertools.zip_longest","itertools.pairwise"].contains n&&vs[0]?==some (rawInt _))=true then _ else _) Q E s
           rw[if_neg (by intro h;rw[hn,Bool.false_and]at h;cases h)]
           exact wpAny_pure hQ))
def Itl(K:PySem.W.Frag)(a:Addr):It :=
 ⟨fun i H=>∃xs x,SqL K H a xs/\xs[i]?=some x,fun i H x H'=>H'=H/\∀xs,SqL K H a xs->xs[i]?=some x,fun i H=>∃xs,SqL K H a xs/\xs.length<=i⟩
def Itt(K:PySem.W.Frag)(a:Addr):It :=
 ⟨fun i H=>∃xs x,SqT K H a xs/\xs[i]?=some x,fun i H x H'=>H'=H/\∀xs,SqT K H a xs->xs[i]?=some x,fun i H=>∃xs,SqT K H a xs/\xs.length<=i⟩
def Itr(lo:Int)(n:Nat):It:=⟨fun i _=>i<n,fun i H x H'=>H'=H/\x = .int (lo+i),fun i _=>n<=i⟩
theorem Nn{P:Program}{w:World}{K:PySem.W.Frag}{tg:Expr}(a it:Addr):Turn P w K tg (Itl K a) [it] it (fun i h=>h.IsListIter it a i) where
 mem:=by simp
 obj:=fun i h st b hb=>by
  have e:b=it:=by simpa using hb
  subst e
  obtain⟨o,e,c,d⟩:=st
  exact⟨o,e,fun v z=>by rw[d]at z;cases z⟩
 keep:=fun i h h' st k=>st.at fun o e=>k it (by simp) o e
 item:=by
  intro X hP hw hK hc i pins s σ H E I hf st hg
  subst hP hw hK
  obtain⟨xs,x,hq,hx⟩:=hg
  obtain⟨its,rv,p,hz⟩:=I.list hq
  obtain⟨u,hu,ru⟩:=rv.get hx
  obtain⟨f0,f1,f2,f3,f4,f5⟩:=hf it (by simp)
  refine wpAny_pyNext_list_item st p.isList (x:=u) (by simpa using hu) fun h' st' sb=>?_
  have I1:Inv X pins σ H { s with heap:=h' }:=I.turned (t':=s.toks) (fun b o hb e=>(sb.2 b hb).trans e) f0 f1 f3 f4 f5
  obtain⟨o,e,c,d⟩:=id st'
  exact⟨u,rfl,NT (s:={ s with heap:=h' }) e c d (by decide) ⟨x,H,I1,ru,⟨rfl,fun ys hy=>by rw[I.list_inj hy hq];exact hx⟩,st',fun b hb=>(hf b hb).1⟩⟩
 done:=by
  intro X hP hw hK hc i pins s σ H E I hf st hg
  subst hP hw hK
  obtain⟨xs,hq,hx⟩:=hg
  obtain⟨its,rv,p,hz⟩:=I.list hq
  obtain⟨f0,f1,f2,f3,f4,f5⟩:=hf it (by simp)
  have hl:=rv.length
  exact wpAny_pyNext_list_end (I.ok.hd hc) st p.isList (by simp;omega) fun h' eb=>⟨rfl,I.turned (t':=s.toks) (fun b o hb e=>eb b o hb e) f0 f1 f3 f4 f5⟩
 self:=fun _ _ _ _ _ st h=>wpAny_pyIter_listiter st h
theorem L5{P:Program}{w:World}{K:PySem.W.Frag}{tg:Expr}(a it:Addr):Turn P w K tg (Itt K a) [it] it (fun i h=>h.IsTupleIter it a i) where
 mem:=by simp
 obj:=fun i h st b hb=>by
  have e:b=it:=by simpa using hb
  subst e
  obtain⟨o,e,c,d⟩:=st
  exact⟨o,e,fun v z=>by rw[d]at z;cases z⟩
 keep:=fun i h h' st k=>st.at fun o e=>k it (by simp) o e
 item:=by
  intro X hP hw hK hc i pins s σ H E I hf st hg
  subst hP hw hK
  obtain⟨xs,x,hq,hx⟩:=hg
  obtain⟨its,rv,p,hz⟩:=I.tuple hq
  obtain⟨u,hu,ru⟩:=rv.get hx
  obtain⟨f0,f1,f2,f3,f4,f5⟩:=hf it (by simp)
  refine wpAny_pyNext_tuple_item st (show s.heap.IsTuple a its.toArray from p) (x:=u) (by simpa using hu) fun h' st' sb=>?_
  have I1:Inv X pins σ H { s with heap:=h' }:=I.turned (t':=s.toks) (fun b o hb e=>(sb.2 b hb).trans e) f0 f1 f3 f4 f5
  obtain⟨o,e,c,d⟩:=id st'
  exact⟨u,rfl,NT (s:={ s with heap:=h' }) e c d (by decide) ⟨x,H,I1,ru,⟨rfl,fun ys hy=>by rw[I.tuple_inj hy hq];exact hx⟩,st',fun b hb=>(hf b hb).1⟩⟩
 done:=by
  intro X hP hw hK hc i pins s σ H E I hf st hg
  subst hP hw hK
  obtain⟨xs,hq,hx⟩:=hg
  obtain⟨its,rv,p,hz⟩:=I.tuple hq
  obtain⟨f0,f1,f2,f3,f4,f5⟩:=hf it (by simp)
  have hl:=rv.length
  exact wpAny_pyNext_tuple_end (I.ok.hd hc) st (show s.heap.IsTuple a its.toArray from p) (by simp;omega) fun h' eb=>⟨rfl,I.turned (t':=s.toks) (fun b o hb e=>eb b o hb e) f0 f1 f3 f4 f5⟩
 self:=fun _ _ _ _ _ st h=>wpAny_pyIter_tupleiter st h
theorem L6{P:Program}{w:World}{K:PySem.W.Frag}{tg:Expr}(it:Addr)(lo:Int)(n:Nat):Turn P w K tg (Itr lo n) [it] it (fun i h=>IsRangeIter h it (lo+(i:Nat)*1) ((n:Int)-(i:Nat)) 1) where
 mem:=by simp
 obj:=fun i h st b hb=>by
  have e:b=it:=by simpa using hb
  subst e
  exact ⟨_, st, fun v z => by
   have z':Data.fields _=Data.cell v:=z
   cases z'⟩
 keep:=fun i h h' st k=>k it (by simp) _ st
 item:=by
  intro X hP hw hK hc i pins s σ H E I hf st hg
  subst hP hw hK
  obtain⟨f0,f1,f2,f3,f4,f5⟩:=hf it (by simp)
  have W:=Walks.range (prog:=X.prog) (w:=X.w) (I.ok.hd hc) it lo 1 n
  refine W.item i s _ _ hg st fun v h' tk hv st' kk=>?_
  obtain⟨t,rfl⟩:=hv
  have I1:Inv X pins σ H { s with heap:=h',toks:=tk }:=I.turned (fun b o hb e=>kk b o (by simpa using hb) e) f0 f1 f3 f4 f5
  refine⟨_,rfl,NT (s:={ s with heap:=h',toks:=tk }) (n:="range_iterator") st' rfl rfl (by decide) ⟨.int (lo+i),H,I1,⟨t,?_⟩,⟨rfl,rfl⟩,st',fun b hb=>(hf b hb).1⟩⟩
  rw[Int.mul_one]
 done:=by
  intro X hP hw hK hc i pins s σ H E I hf st hg
  subst hP hw hK
  obtain⟨f0,f1,f2,f3,f4,f5⟩:=hf it (by simp)
  exact wpAny_pyNext_range_end (I.ok.hd hc) st (by have:n<=i:=hg;omega) fun h' eb=>⟨rfl,I.turned (t':=s.toks) (fun b o hb e=>eb b o hb e) f0 f1 f3 f4 f5⟩
 self:=fun _ _ _ _ _ st h=>wpAny_pyIter_rangeiter st h
end L2
namespace L2
open PySem PySem.Spec PyProof.Rows
section
variable {X:Cx} {tg:Expr}
def NS(K:PySem.W.Frag)(tl:TE):TI:=fun σ H R=>tl σ H fun x H1=>∃a,x = .ref a/\(∃xs,SqL K H1 a xs)/\R (Itl K a) H1
def Rv(K:PySem.W.Frag)(tl:TE):TI:=fun σ H R=>tl σ H fun x H1=>∃a,x = .ref a/\(∃xs,SqT K H1 a xs)/\R (Itt K a) H1
theorem RH{l:Expr}{tl:TE}(hl:PE X l tl):PI X tg l (NS X.K tl):=by
 intro pins s σ H R I h
 refine thn (hl pins s σ H _ I h) fun v s1 ⟨x,H1,I1,r1,q1⟩=>?_
 obtain⟨a,e,⟨xs,hq⟩,q⟩:=q1
 subst e
 cases r1
 obtain⟨its,rv,p,hz⟩:=I1.list hq
 refine wpAny_pyIter_list p.isList ?_
 refine⟨s1.heap.objs.size,[s1.heap.objs.size],_,_,H1,rfl,I1.kept (t':=s1.toks) fun b o e=>E' _ e,Nn a _,⟨_,R' _ rfl,rfl,rfl⟩,fun b hb=>?_,q⟩
 have e:b=s1.heap.objs.size:=by simpa using hb
 subst e
 exact I1.fpOk (J' _) (I1.hok.fresh (J' _))
theorem UQ{l:Expr}{tl:TE}(hl:PE X l tl):PI X tg l (Rv X.K tl):=by
 intro pins s σ H R I h
 refine thn (hl pins s σ H _ I h) fun v s1 ⟨x,H1,I1,r1,q1⟩=>?_
 obtain⟨a,e,⟨xs,hq⟩,q⟩:=q1
 subst e
 cases r1
 obtain⟨its,rv,p,hz⟩:=I1.tuple hq
 refine wpAny_pyIter_tuple (show s1.heap.IsTuple a its.toArray from p) ?_
 refine⟨s1.heap.objs.size,[s1.heap.objs.size],_,_,H1,rfl,I1.kept (t':=s1.toks) fun b o e=>E' _ e,L5 a _,⟨_,R' _ rfl,rfl,rfl⟩,fun b hb=>?_,q⟩
 have e:b=s1.heap.objs.size:=by simpa using hb
 subst e
 exact I1.fpOk (J' _) (I1.hok.fresh (J' _))
theorem O8{pins:List (Addr×Obj)}{σ:St}{H:Hp}{s:Shared}{R:It->Hp->Prop}{E:Value->Shared->Prop}{lo hi:Int}{t u v:Tok}{tk:Nat}(I:Inv X pins σ H s)(h1:-(2 ^ 62)<=lo)(h2:lo<2 ^ 62)(h3:-(2 ^ 62)<=hi)(h4:hi<2 ^ 62)
  (q:R (Itr lo (hi-lo).toNat) H):wpAny (model X.prog X.w) X.A (pyIter (.ref s.heap.objs.size)) (PIE X pins σ tg R) E { s with heap:=s.heap.push { cls:=.type "range",data:=.fields #[.int lo t,.int hi u,.int 1 v] },toks:=tk }:=by
 refine wpAny_pyIter_range (IsRange.new ..) (small_one h1 h2 h3 h4) ?_
 have I1:Inv X pins σ H { s with heap:=s.heap.push { cls:=.type "range",data:=.fields #[.int lo t,.int hi u,.int 1 v] },toks:=tk }:=I.kept fun b o e=>E' _ e
 refine ⟨(s.heap.push { cls := .type "range", data := .fields #[.int lo t, .int hi u, .int 1 v] }).objs.size, [(s.heap.push { cls := .type "range", data := .fields #[.int lo t, .int hi u, .int 1 v] }).objs.size], _, _, H, rfl,
  I1.kept (t':=tk) fun b o e=>E' _ e,L6 _ lo (hi-lo).toNat,?_,fun b hb=>?_,q⟩
 ·have e1:lo+((0:Nat):Int)*1=lo:=by simp
  have e2:(((hi-lo).toNat:Nat):Int)-((0:Nat):Int)=Builtin.Range.rangeSize lo hi 1:=by rw[rangeSize_one];split<;>omega
  show IsRangeIter _ _ (lo+((0:Nat):Int)*1) ((((hi-lo).toNat:Nat):Int)-((0:Nat):Int)) 1
  rw[e1,e2]
  exact R' _ rfl
 ·have e:b=(s.heap.push { cls:=.type "range",data:=.fields #[.int lo t,.int hi u,.int 1 v] }).objs.size:=by simpa using hb
  subst e
  exact I1.fpOk (J' _) (I1.hok.fresh (J' _))
def Ta(ta:TA):TI:=fun σ H R=>ta σ H fun vs H1=>∃j:Int,vs=[.int j]/\-(2 ^ 62)<=j/\j<2 ^ 62/\R (Itr 0 j.toNat) H1
theorem Nx{a:Expr}{ta:TA}{p pos:Pos}(hg:Gl X "range")(hm:X.mg "range"=none)(ha:PA X [a] ta)(hs:starEach [a] X.env=[(false,eval a X.env)]:=by rfl):PI X tg (.Call (.Name "range" p) [a] [] pos) (Ta ta):=by
 intro pins s σ H R I h
 refine Call_ (Gr I hg hm boot_range (bG (thn (ha pos pins s σ H _ I h) fun us s1 ⟨vs,H1,I1,r1,q1⟩=>?_) hs rfl))
 obtain⟨j,e,q1,q2,q⟩:=q1
 subst e
 cases r1 with
 |cons r rr =>
  cases rr
  obtain⟨t,rfl⟩:=r
  exact call_range_1 (O8 I1 (by omega) (by omega) q1 q2 (by simpa using q))
def XD(wi:TI)(g:TG)(tb:TS):TS:=fun D σ H=>wi σ H fun J H1=>∃W:Nat->Nat->St->Hp->Prop,(∃m,W 0 m σ H1)/\∀i m σ H,W i m σ H ->
 (J.stop i H/\D.nx σ H)\/(J.go i H/\∃N:St->Hp->Prop,(∀σ' H',N σ' H'->∃m',m'<m/\W (i+1) m' σ' H')/\∀x H',J.yld i H x H'->g x σ H' fun σ2 H2=>tb { D with nx:=N,ct:=N,bk:=D.nx } σ2 H2)
def IX(fp:List Addr)(h:Heap):List (Addr×Obj):=fp.filterMap fun b=>(h.get? b).map fun o=>(b,o)
theorem ER{fp:List Addr}{h:Heap}{b:Addr}{o:Obj}(hb:b∈fp)(e:h.get? b=some o):(b,o)∈IX fp h:=List.mem_filterMap.mpr ⟨b,hb,by rw[e];rfl⟩
theorem N4{fp:List Addr}{h:Heap}{p:Addr×Obj}(hp:p∈IX fp h):p.1∈fp/\h.get? p.1=some p.2:=by
 obtain⟨b,hb,e⟩:=List.mem_filterMap.mp hp
 cases q:h.get? b with
 |none=>rw[q]at e;cases e
 |some o =>
  rw[q]at e
  have e':(b,o)=p:=A' e
  subst e'
  exact⟨hb,q⟩
theorem Inv.pinned{pins:List (Addr×Obj)}{σ:St}{H:Hp}{s:Shared}{fp:List Addr}(I:Inv X pins σ H s)(hf:∀b∈fp,FC X pins H b)(ho:∀b∈fp,∃o,s.heap.get? b=some o/\∀v,o.data≠.cell v):Inv X (pins++IX fp s.heap) σ H s :=
 I.pins_of fun p hp=>(au.mp hp).elim (fun z=>I.pin p (aQ _ z)) fun z=>by
  obtain⟨hb,e⟩:=N4 z
  obtain⟨f0,f1,f2,_⟩:=hf p.1 hb
  obtain⟨o,e',d⟩:=ho p.1 hb
  rw[e]at e';cases e'
  exact⟨e,f0,f1,f2,d⟩
theorem Inv.unpinned{pins pl:List (Addr×Obj)}{σ:St}{H:Hp}{s:Shared}(I:Inv X (pins++pl) σ H s):Inv X pins σ H s:=I.pins_of fun p hp=>I.pin p (aQ _ (bM _ hp))
theorem UP{iter:Expr}{body:List Stmt}{wi:TI}{g:TG}{tb:TS}{pos:Pos}(hp:PassesOwn (model X.prog X.w) X.A X.env X.xe)(hc:X.calm=true)(hi:PI X tg iter wi)(hg:PG X tg g)(hb:PSs X body tb)
  (hs:∀x,foldedSetIterable iter X.env x=pure x:=by intro _;rfl):PS X (.For tg iter body [] pos) (XD wi g tb):=by
 intro pins s σ H D I h
 refine wpAny_For (thn (hi pins s σ H _ I h) fun v s1 h1=>thn h1 fun itv s2 h2=>?_) hs
 obtain⟨it,fp,tn,J,H2,e,I2,T,st2,f2,W,⟨m0,w0⟩,turn⟩:=h2
 subst e
 -- what stays true of the iterator's objects through the loop
 have stat:∀{H':Hp},(∀b∈fp,H' b=none)->∀b∈fp,FC X pins H' b:=fun hn b hb=>⟨hn b hb,(f2 b hb).2⟩
 refine codeAny_forLoop_any (fun n s'=>∃i σ' H',Inv X pins σ' H' s'/\tn i s'.heap/\(∀b∈fp,H' b=none)/\W i n σ' H') ?_ m0 ⟨0,σ,H2,I2,st2,fun b hb=>(f2 b hb).1,w0⟩
 rintro n s3 ⟨i,σ3,H3,I3,st3,fr3,w3⟩
 rcases turn i n σ3 H3 w3 with ⟨stop,qn⟩|⟨go,N,hN,step⟩
 ·refine wpAny_passesOwn hp (thn (T.done X rfl rfl rfl hc i pins s3 σ3 H3 X.xe I3 (stat fr3) st3 stop) fun r s4 ⟨hr,I4⟩=>?_)
  subst hr
  exact wpAny_execs_nil ⟨σ3,H3,I4,qn⟩
 ·refine wpAny_passesOwn hp (thn (T.item X rfl rfl rfl hc i pins s3 σ3 H3 X.xe I3 (stat fr3) st3 go) fun r s4 ⟨u,hr,h4⟩=>?_)
  subst hr
  refine wpAny_passesOwn hp (thn h4 fun _ s5 ⟨x,H5,I5,r5,y5,st5,fr5⟩=>?_)
  have I5':=I5.pinned (stat fr5) (T.obj _ _ st5)
  refine wpAny_passesOwn hp (thn (hg _ s5 σ3 H5 x u _ I5' r5 (step x H5 y5)) fun _ s6 ⟨σ6,H6,I6,q6⟩=>?_)
  refine wpAny_passesOwn hp (thn (hb _ s6 σ6 H6 _ I6 q6) fun f s7 q7=>?_)
  have again:∀{σ7:St} {H7:Hp},Inv X (pins++IX fp s5.heap) σ7 H7 s7->N σ7 H7->∃m,m<n/\∃i σ' H',Inv X pins σ' H' s7/\tn i s7.heap/\(∀b∈fp,H' b=none)/\W i m σ' H':=fun {σ7 H7} I7 n7=>by
   obtain⟨m',hm,w7⟩:=hN σ7 H7 n7
   refine⟨m',hm,i+1,σ7,H7,I7.unpinned,T.keep _ _ _ st5 fun b hb o e=>(I7.pin (b,o) (aQ _ (aQ _ (ER hb e)))).1,fun b hb=>?_,w7⟩
   obtain⟨o,e,d⟩:=T.obj _ _ st5 b hb
   exact(I7.pin (b,o) (aQ _ (aQ _ (ER hb e)))).2.1
  cases f with
  |next=>obtain⟨σ7,H7,I7,n7⟩:=q7;exact again I7 n7
  |cont=>obtain⟨σ7,H7,I7,n7⟩:=q7;exact again I7 n7
  |brk=>obtain⟨σ7,H7,I7,q7⟩:=q7;exact⟨σ7,H7,I7.unpinned,q7⟩
  |ret v=>obtain⟨x7,σ7,H7,I7,r7,q7⟩:=q7;exact⟨x7,σ7,H7,I7.unpinned,r7,q7⟩
end
end L2
namespace L2
open PySem PySem.Spec PyProof.Rows
abbrev R2:=V->V->Hp->VK->Prop
def OpR(X:Cx)(f:Value->Value->Sem Value)(r:R2):Prop :=
 ∀(pins:List (Addr×Obj)) (s:Shared) (σ:St) (H:Hp) (x y:V) (v u:Value) (Q:VK),Inv X pins σ H s->RelV x v->RelV y u->r x y H Q ->
  wpAny (model X.prog X.w) X.A (f v u) (EP X pins σ Q) X.xe s
def UnR(X:Cx)(f:Value->Sem Value)(r:V->Hp->VK->Prop):Prop :=
 ∀(pins:List (Addr×Obj)) (s:Shared) (σ:St) (H:Hp) (x:V) (v:Value) (Q:VK),Inv X pins σ H s->RelV x v->r x H Q ->
  wpAny (model X.prog X.w) X.A (f v) (EP X pins σ Q) X.xe s
def B8(X:Cx)(f:Value)(r:List V->Hp->VK->Prop):Prop :=
 ∀(pins:List (Addr×Obj)) (s:Shared) (σ:St) (H:Hp) (xs:List V) (us:List Value) (Q:VK),Inv X pins σ H s->Vals xs us->r xs H Q ->
  wpAny (model X.prog X.w) X.A (call f us) (EP X pins σ Q) X.xe s
def tOp(r:R2)(ta tb:TE):TE:=fun σ H Q=>ta σ H fun x H1=>tb σ H1 fun y H2=>r x y H2 Q
def tUn(r:V->Hp->VK->Prop)(ta:TE):TE:=fun σ H Q=>ta σ H fun x H1=>r x H1 Q
def rI(C:Int->Int->Prop)(g:Int->Int->V):R2:=fun x y H Q=>∃i j,x = .int i/\y = .int j/\C i j/\Q (g i j) H
def rI0(g:Int->Int->V):R2:=fun x y H Q=>∃i j,x = .int i/\y = .int j/\Q (g i j) H
def rU(g:Int->V):V->Hp->VK->Prop:=fun x H Q=>∃i,x = .int i/\Q (g i) H
section
variable {X:Cx} {a b c:Expr} {ta tb tc:TE} {pos:Pos}
theorem Wi(ha:PE X a ta)(hb:PE X b tb){pins:List (Addr×Obj)}{s:Shared}{σ:St}{H:Hp}{R:V->V->Hp->Prop}(I:Inv X pins σ H s)
  (h:ta σ H fun x H1=>tb σ H1 fun y H2=>R x y H2) {Q:Value->Shared->Prop} {f:Value->Value->Sem Value}
  (hf:∀v u s2 x y H2,Inv X pins σ H2 s2->RelV x v->RelV y u->R x y H2->wpAny (model X.prog X.w) X.A (f v u) Q X.xe s2) :
  wpAny (model X.prog X.w) X.A (eval a X.env) (fun v s₁=>wpAny (model X.prog X.w) X.A (eval b X.env) (fun u s₂=>wpAny (model X.prog X.w) X.A (f v u) Q X.xe s₂) X.xe s₁) X.xe s:=by
 refine thn (ha pins s σ H _ I h) fun v s1 ⟨x,H1,I1,r1,q1⟩=>?_
 refine thn (hb pins s1 σ H1 _ I1 q1) fun u s2 ⟨y,H2,I2,r2,q2⟩=>?_
 exact hf v u s2 x y H2 I2 r1 r2 q2
theorem XZ{op:Operator}{r:R2}(ho:OpR X (binaryOp op) r)(ha:PE X a ta)(hb:PE X b tb):PE X (.BinOp a op b pos) (tOp r ta tb):=by
 intro pins s σ H Q I h
 exact wpAny_BinOp (Wi ha hb I h fun v u s2 x y H2 I2 rx ry q=>ho pins s2 σ H2 x y v u Q I2 rx ry q)
theorem XW{op:UnaryOp}{r:V->Hp->VK->Prop}(ho:UnR X (unaryOp op) r)(ha:PE X a ta):PE X (.UnaryOp op a pos) (tUn r ta):=by
 intro pins s σ H Q I h
 exact UnaryOp_ (thn (ha pins s σ H _ I h) fun v s1 ⟨x,H1,I1,r1,q1⟩=>ho pins s1 σ H1 x v Q I1 r1 q1)
theorem opI{f:Value->Value->Sem Value}{C:Int->Int->Prop}{g:Int->Int->Int}
  (rule:∀(i j:Int) (t u:Tok) (s:Shared) (Q:Value->Shared->Prop) (E:Value->Shared->Prop),C i j->Q (.int (g i j) s.toks) { s with toks:=s.toks+1 }->wpAny (model X.prog X.w) X.A (f (.int i t) (.int j u)) Q E s) :
  OpR X f (rI C fun i j=>.int (g i j)):=by
 intro pins s σ H x y v u Q I rx ry h
 obtain⟨i,j,rfl,rfl,hc,q⟩:=h
 obtain⟨t,rfl⟩:=rx
 obtain⟨t',rfl⟩:=ry
 exact rule i j t t' s _ _ hc ⟨.int (g i j),H,I.tok _,⟨_,rfl⟩,q⟩
theorem Xh{f:Value->Value->Sem Value}{g:Int->Int->Int}
  (rule:∀(i j:Int) (t u:Tok) (s:Shared) (Q:Value->Shared->Prop) (E:Value->Shared->Prop),Q (.int (g i j) s.toks) { s with toks:=s.toks+1 }->wpAny (model X.prog X.w) X.A (f (.int i t) (.int j u)) Q E s) :
  OpR X f (rI0 fun i j=>.int (g i j)):=by
 intro pins s σ H x y v u Q I rx ry h
 obtain⟨i,j,rfl,rfl,q⟩:=h
 obtain⟨t,rfl⟩:=rx
 obtain⟨t',rfl⟩:=ry
 exact rule i j t t' s _ _ ⟨.int (g i j),H,I.tok _,⟨_,rfl⟩,q⟩
theorem RW{f:Value->Value->Sem Value}{g:Int->Int->Bool}
  (rule:∀(i j:Int) (t u:Tok) (s:Shared) (Q:Value->Shared->Prop) (E:Value->Shared->Prop),Q (.bool (g i j)) s->wpAny (model X.prog X.w) X.A (f (.int i t) (.int j u)) Q E s) :
  OpR X f (rI0 fun i j=>.bl (g i j)):=by
 intro pins s σ H x y v u Q I rx ry h
 obtain⟨i,j,rfl,rfl,q⟩:=h
 obtain⟨t,rfl⟩:=rx
 obtain⟨t',rfl⟩:=ry
 exact rule i j t t' s _ _ ⟨.bl (g i j),H,I,rfl,q⟩
def Qu(i j:Int):Prop:=0<=j/\j<=1000000/\i.natAbs<2 ^ 64
def CMul(i j:Int):Prop:=(-(2 ^ 64)<i/\i<2 ^ 64)\/(-(2 ^ 64)<j/\j<2 ^ 64)
theorem CMul.ok{i j:Int}(h:CMul i j):IntMulOk i j:=by
 rcases h with ⟨h1,h2⟩|⟨h1,h2⟩
 ·exact .of_left (intBits_le_64 h1 h2)
 ·exact .of_right (intBits_le_64 h1 h2)
theorem Uo:OpR X (binaryOp .Add) (rI0 fun i j=>.int (i+j)):=Xh fun _ _ _ _ _ _ _ q=>add_int q
theorem Ud:OpR X (binaryOp .Sub) (rI0 fun i j=>.int (i-j)):=Xh fun _ _ _ _ _ _ _ q=>sub_int q
theorem Uh:OpR X (binaryOp .Mod) (rI (fun _ j=>0<j) fun i j=>.int (i % j)):=opI fun i j _ _ _ _ _ hc q=>by
 have h1:(0:Int)<j:=hc
 exact mod_int' (by omega) (by rw[Int.fmod_eq_emod_of_nonneg i (by omega)];exact q)
theorem Ue:OpR X (binaryOp .Pow) (rI Qu fun i j=>.int (i ^ j.toNat)):=opI fun _ _ _ _ _ _ _ hc q=>pow_int_small hc.1 hc.2.1 hc.2.2 q
theorem unI{f:Value->Sem Value}{g:Int->Int}
  (rule:∀(i:Int) (t:Tok) (s:Shared) (Q:Value->Shared->Prop) (E:Value->Shared->Prop),Q (.int (g i) s.toks) { s with toks:=s.toks+1 }->wpAny (model X.prog X.w) X.A (f (.int i t)) Q E s) :
  UnR X f (rU fun i=>.int (g i)):=by
 intro pins s σ H x v Q I rx h
 obtain⟨i,rfl,q⟩:=h
 obtain⟨t,rfl⟩:=rx
 exact rule i t s _ _ ⟨.int (g i),H,I.tok _,⟨_,rfl⟩,q⟩
theorem Tt:UnR X (unaryOp .USub) (rU fun i=>.int (-i)):=unI fun _ _ _ _ _ q=>neg_int q
end
section
variable {X:Cx} {a b c:Expr} {ta tb tc:TE} {pos:Pos}
theorem QN{pins:List (Addr×Obj)}{σ:St}{H:Hp}{s:Shared}{Q:VK}{k k':Bool}(I:Inv X pins σ H s)(q:Q (.bl k) H)(e:k=k'):EP X pins σ Q (.bool k') s:=by
 subst e
 exact⟨.bl k,H,I,rfl,q⟩
theorem Xd:OpR X (compareOp .Lt) (rI0 fun i j=>.bl (decide (i<j))):=RW fun _ _ _ _ _ _ _ q=>lt_int q
theorem Xe:OpR X (compareOp .LtE) (rI0 fun i j=>.bl (decide (i<=j))):=RW fun _ _ _ _ _ _ _ q=>le_int q
theorem Xf:OpR X (compareOp .Gt) (rI0 fun i j=>.bl (decide (j<i))):=RW fun _ _ _ _ _ _ _ q=>gt_int q
theorem Xg:OpR X (compareOp .GtE) (rI0 fun i j=>.bl (decide (j<=i))):=RW fun _ _ _ _ _ _ _ q=>ge_int q
theorem N2:OpR X (compareOp .In) (fun x y H Q=>∃i j,x = .str i/\y = .str j/\Q (.bl (!(Builtin.Str.occurrences j i 0 j.length 1).isEmpty)) H):=by
 intro pins s σ H x y v u Q I rx ry h
 obtain⟨i,j,rfl,rfl,q⟩:=h
 obtain⟨t,rfl⟩:=rx
 obtain⟨t',rfl⟩:=ry
 exact in_str (QN I q rfl)
theorem Ui:OpR X (compareOp .Is) (fun x y H Q=>y = .non/\Q (.bl (decide (x = .non))) H):=by
 intro pins s σ H x y v u Q I rx ry h
 obtain⟨rfl,q⟩:=h
 cases ry
 refine is_none_gen (QN I q ?_)
 cases x<;>first
  |(cases rx;rfl)
  |(obtain⟨t,rfl⟩:=rx;rfl)
theorem KJ{op:CmpOp}{r:R2}(ho:OpR X (compareOp op) r)(ha:PE X a ta)(hb:PE X b tb)(hm:behindInMarks op b=false):PE X (.Compare a [op] [b] pos) (tOp r ta tb):=by
 intro pins s σ H Q I h
 exact wpAny_Compare1 (Wi ha hb I h fun v u s2 x y H2 I2 rx ry q=>ho pins s2 σ H2 x y v u Q I2 rx ry q) hm
def Oq(t:TE):TT:=fun σ H Q=>t σ H fun x H'=>∃k,x = .bl k/\Q k H'
theorem KG{op:CmpOp}{r:R2}(ho:OpR X (compareOp op) r)(ha:PE X a ta)(hb:PE X b tb)(hm:behindInMarks op b=false):PT X (.Compare a [op] [b] pos) (Oq (tOp r ta tb)):=by
 intro pins s σ H Q I h
 refine wpAny_isTrue_Compare1 (thn (ha pins s σ H _ I h) fun v s1 ⟨x, H1, I1, r1, q1⟩ => thn (hb pins s1 σ H1 _ I1 q1) fun u s2 ⟨y, H2, I2, r2, q2⟩ =>
  thn (ho pins s2 σ H2 x y v u _ I2 r1 r2 q2) fun c s3 ⟨z,H3,I3,r3,k,e,q3⟩=>?_) hm
 subst e
 cases r3
 exact wpAny_truthy_bool ⟨H3,I3,q3⟩
def L8(r r':R2)(ta tb tc:TE):TE:=fun σ H Q=>ta σ H fun x H1=>tb σ H1 fun y H2=>r x y H2 fun z H3=>∃k,z = .bl k /\
 (if k=true then tc σ H3 fun w' H4=>r' y w' H4 Q else Q (.bl false) H3)
theorem Ph{op op':CmpOp}{r r':R2}(ho:OpR X (compareOp op) r)(ho':OpR X (compareOp op') r')(ha:PE X a ta)(hb:PE X b tb)(hc:PE X c tc)
  (hm:lastMarks [op,op'] [b,c]=false:=by with_unfolding_all rfl):PE X (.Compare a [op,op'] [b,c] pos) (L8 r r' ta tb tc):=by
 intro pins s σ H Q I h
 refine Compare_chain (thn (ha pins s σ H _ I h) fun v s1 ⟨x, H1, I1, r1, q1⟩ => chain_link (thn (hb pins s1 σ H1 _ I1 q1) fun u s2 ⟨y, H2, I2, r2, q2⟩ =>
  thn (ho pins s2 σ H2 x y v u _ I2 r1 r2 q2) fun d s3 ⟨z,H3,I3,r3,k,e,q3⟩=>?_)) hm
 subst e
 cases r3
 refine wpAny_truthy_bool ?_
 cases k with
 |false=>exact ite_ff ⟨.bl false,H3,I3,rfl,q3⟩
 |true=>exact ite_tt (chain_last (thn (hc pins s3 σ H3 _ I3 q3) fun w' s4 ⟨z',H4,I4,r4,q4⟩=>ho' pins s4 σ H4 y z' u w' Q I4 r2 r4 q4))
theorem PQ{op op':CmpOp}{r r':R2}(ho:OpR X (compareOp op) r)(ho':OpR X (compareOp op') r')(ha:PE X a ta)(hb:PE X b tb)(hc:PE X c tc)
  (hm:lastMarks [op,op'] [b,c]=false:=by with_unfolding_all rfl):PT X (.Compare a [op,op'] [b,c] pos) (Oq (L8 r r' ta tb tc)):=by
 intro pins s σ H Q I h
 refine isTrue_chain (thn (ha pins s σ H _ I h) fun v s1 ⟨x, H1, I1, r1, q1⟩ => test_link (thn (hb pins s1 σ H1 _ I1 q1) fun u s2 ⟨y, H2, I2, r2, q2⟩ =>
  thn (ho pins s2 σ H2 x y v u _ I2 r1 r2 q2) fun d s3 ⟨z,H3,I3,r3,k,e,q3⟩=>?_)) hm
 subst e
 cases r3
 refine wpAny_truthy_bool ?_
 cases k with
 |false =>
  obtain⟨k',e',q'⟩:=q3
  cases e'
  exact ite_ff ⟨H3,I3,q'⟩
 |true =>
  refine ite_tt (test_last (thn (hc pins s3 σ H3 _ I3 q3) fun w' s4 ⟨z',H4,I4,r4,q4⟩=>thn (ho' pins s4 σ H4 y z' u w' _ I4 r2 r4 q4) fun d' s5 ⟨z2,H5,I5,r5,k2,e2,q5⟩=>?_))
  subst e2
  cases r5
  exact wpAny_truthy_bool ⟨H5,I5,q5⟩
theorem Ik:(sizeLine:Nat)<2 ^ 63:=by rw[sizeLine_eq];decide
theorem MH:OpR X (binaryOp .Add) (fun x y H Q=>∃i j,x = .str i/\y = .str j/\i.length+j.length<=sizeLine/\Q (.str (i++j)) H):=by
 intro pins s σ H x y v u Q I rx ry h
 obtain⟨i,j,rfl,rfl,hz,q⟩:=h
 obtain⟨t,rfl⟩:=rx
 obtain⟨t',rfl⟩:=ry
 exact add_str (fun t' tk=>⟨.str (i++j),H,I.tok _,⟨_,rfl⟩,q⟩) hz
theorem DH{x:V}{us:List Value}(r:Vals [x] us):∃u,us=[u]/\RelV x u:=by
 cases r with
 |cons r1 r2=>cases r2;exact⟨_,rfl,r1⟩
theorem Od{x y:V}{us:List Value}(r:Vals [x,y] us):∃u w',us=[u,w']/\RelV x u/\RelV y w':=by
 cases r with
 |cons r1 r2 =>
  cases r2 with
  |cons r3 r4=>cases r4;exact⟨_,_,rfl,r1,r3⟩
theorem Qi:B8 X (.builtin "abs") (fun xs H Q=>∃i,xs=[.int i]/\Q (.int (if i<0 then -i else i)) H):=by
 intro pins s σ H xs us Q I r h
 obtain⟨i,rfl,q⟩:=h
 obtain⟨u,rfl,t,rfl⟩:=DH r
 exact call_abs_int fun u tk=>⟨.int (if i<0 then -i else i),H,I.tok _,⟨_,rfl⟩,q⟩
theorem OT:B8 X (.type "int") (fun xs H Q=>(∃i,xs=[.int i]/\Q (.int i) H)\/∃k,xs=[.bl k]/\Q (.int (if k then 1 else 0)) H):=by
 intro pins s σ H xs us Q I r h
 rcases h with ⟨i,rfl,q⟩|⟨k,rfl,q⟩
 ·obtain⟨u,rfl,t,rfl⟩:=DH r
  exact call_int_int ⟨.int i,H,I,⟨_,rfl⟩,q⟩
 ·obtain⟨u,rfl,r1⟩:=DH r
  cases r1
  exact call_int_bool ⟨.int (if k then 1 else 0),H,I.tok _,⟨_,rfl⟩,q⟩
theorem Ks:B8 X (.type "str") (fun xs H Q=>∃i,xs=[.int i]/\i.natAbs.log2<1920/\Q (.str (toString i)) H):=by
 intro pins s σ H xs us Q I r h
 obtain⟨i,rfl,hz,q⟩:=h
 obtain⟨u,rfl,t,rfl⟩:=DH r
 exact PySem.P.str_of_int hz ⟨.str _,H,I.tok _,⟨_,rfl⟩,q⟩
def OX(K:PySem.W.Frag)(x:V)(H:Hp)(n:Nat):Prop :=
 match x with
 |.str y=>y.length<=sizeLine/\n=y.length
 |.byt y=>y.size<=sizeLine/\n=y.size
 |.ref p=>(∃xs,SqL K H p xs/\n=xs.length)\/∃xs,SqT K H p xs/\n=xs.length
 |_=>False
theorem Ly:B8 X (.builtin "len") (fun xs H Q=>∃x n,xs=[x]/\OX X.K x H n/\Q (.int n) H):=by
 intro pins s σ H xs us Q I r h
 obtain⟨x,n,rfl,e,q⟩:=h
 obtain⟨u,rfl,rx⟩:=DH r
 have hl:=Ik
 have hs:sizeLine=16777216:=sizeLine_eq
 cases x with
 |str y =>
  obtain⟨t,rfl⟩:=rx
  obtain⟨hy,e'⟩:y.length<=sizeLine/\n=y.length:=e
  subst e'
  exact len_str (by omega) ⟨.int _,H,I.tok _,⟨_,rfl⟩,q⟩
 |byt y =>
  obtain⟨t,rfl⟩:=rx
  obtain⟨hy,e'⟩:y.size<=sizeLine/\n=y.size:=e
  subst e'
  exact PySem.W.len_bytes (by omega) ⟨.int _,H,I.tok _,⟨_,rfl⟩,q⟩
 |ref p =>
  cases rx
  have e':(∃xs,SqL X.K H p xs/\n=xs.length)\/∃xs,SqT X.K H p xs/\n=xs.length:=e
  rcases e' with ⟨xs,hx,e'⟩|⟨xs,hx,e'⟩
  ·subst e'
   obtain⟨its,r',pl,hz⟩:=I.list hx
   have hlen:=r'.length
   exact Calls.call_len_list pl.isList (by simp only[List.size_toArray];omega) ⟨.int xs.length,H,I.tok _,⟨_,by simp only[List.size_toArray];rw[hlen]⟩,q⟩
  ·subst e'
   obtain⟨its,r',pl,hz⟩:=I.tuple hx
   have hlen:=r'.length
   exact len_tuple pl (by simp only[List.size_toArray];omega) ⟨.int xs.length,H,I.tok _,⟨_,by simp only[List.size_toArray];rw[hlen]⟩,q⟩
 |_=>exact(show False from e).elim
end
end L2
namespace L2
open PySem PySem.Spec PyProof.Rows
structure ObjM(h:Heap)(x dx C:Addr)(mA:Str->Option Value):Prop where
 obj:h.get? x=some (PySem.W.instObj C dx)
 ns:h.Ns1 dx mA
 ne:dx≠x
theorem N9{h:Heap}{dx:Addr}{mA:Str->Option Value}(n:h.Ns1 dx mA):∃od,h.get? dx=some od/\∀name,PySem.W.lookIn name od=some (mA name):=by
 obtain⟨o,es,ep,ho,hd,hk,_,hm⟩:=n
 refine⟨o,ho,fun name=>?_⟩
 have e:=hm name
 unfold nsFind findBy at e
 rw[<- bU]at e
 unfold PySem.W.lookIn
 rw[hd]
 dsimp only
 split
 ·rename_i y q
  rw[q]at e
  exact congrArg some e
 ·rename_i q
  rw[q]at e
  have a:es.toList.any (·.refKey)=false:=by
   rw[List.any_eq_false]
   intro y hy
   obtain⟨z,t,hkey⟩:=hk y (aw.mp hy)
   simp[DictEntry.refKey,hkey]
  have a':¬es.toList.any (·.refKey)=true:=by rw[a];exact aP
  rw[if_neg a']
  exact congrArg some e
theorem ObjM.look{h:Heap}{x dx C:Addr}{mA:Str->Option Value}(I:ObjM h x dx C mA):∃od,PySem.W.InstAt h x (PySem.W.instObj C dx) C (some od)/\∀name,PySem.W.lookIn name od=some (mA name) :=
 let ⟨od,ho,hl⟩:=N9 I.ns
 ⟨od,⟨I.obj,rfl,rfl,ho⟩,hl⟩
section
variable {prog:Program} {w:World} {A:Around} {E:Value->Shared->Prop} {s:Shared} {K:PySem.W.Frag} {x dx C f:Addr} {mA:Str->Option Value} {name:Str} {v:Value}
end
section
variable {P:Program} {w:World} {H H':Hp} {h h':Heap} {a C dx:Addr} {fs fs':List (Str×V)}
theorem Rr(hok:HOk P w H h)(e:H a=some (.ins C dx fs)):∃mA,ObjM h a dx C mA/\(∀f,Ws (fs.lookup f) (mA f))/\PySem.Within mA (fs.map (·.1))/\fs.length<=1000/\H dx=some (.own a):=by
 obtain⟨d,z,ne,ob,mA,n,r,q⟩:=(show ObjOk P w H h a (.ins C dx fs) from hok a _ e)
 exact⟨mA,⟨ob,n,ne⟩,r,q,z,d⟩
end
structure Cls(K:PySem.W.Frag)(C:Addr):Prop where
 pg:PySem.W.plainGet K C Str.empty=true
 hd:PySem.W.hasDictIn K C=true
 po:PySem.W.plainOver K C=true
 sa:PySem.W.findIn K (.ref C) "__setattr__"=some (some (.builtin "object.__setattr__"))
theorem Cls.get{K:PySem.W.Frag}{C:Addr}(c:Cls K C)(f:Str):PySem.W.plainGet K C f=true:=c.pg
section
variable {X:Cx} {pins:List (Addr×Obj)} {σ:St} {H:Hp} {s:Shared} {a C dx:Addr} {fs:List (Str×V)} {f:Str} {v:V} {A:Around} {E:Value->Shared->Prop}
end
section
variable {X:Cx} {o e value:Expr} {f:Str} {pos pos' tpos:Pos} {ta tv:TE}
end
section
variable {X:Cx} {pins:List (Addr×Obj)} {σ:St} {H:Hp} {s:Shared} {A:Around} {E:Value->Shared->Prop} {Q:Value->Shared->Prop} {c:Value} {b:Bool}
inductive Hq (K:PySem.W.Frag) (H:Hp):V->Value->Prop where
 |non:Hq K H .non (.type "NoneType")
 |bl (x:Bool):Hq K H (.bl x) (.type "bool")
 |int (i:Int):Hq K H (.int i) (.type "int")
 |str (x:Str):Hq K H (.str x) (.type "str")
 |flt (x:UInt64):Hq K H (.flt x) (.type "float")
 |lst {a:Addr} {xs:List V} (e:H a=some (.lst xs)):Hq K H (.ref a) (.type "list")
 |frz {a:Addr} {o:Obj} {xs:List V} (e:H a=some (.frz o (.lst xs))):Hq K H (.ref a) (.type "list")
 |tup {a:Addr} {xs:List V} (e:H a=some (.tup xs)):Hq K H (.ref a) (.type "tuple")
 |dK {a:Addr} {kvs:List (Key×V)} (e:H a=some (.dK kvs)):Hq K H (.ref a) (.type "dict")
 |dT {a:Addr} {kvs:List (List Key×V)} (e:H a=some (.dT kvs)):Hq K H (.ref a) (.type "dict")
 |ins {a C dx:Addr} {fs:List (Str×V)} (e:H a=some (.ins C dx fs)) (cl:Cls K C) (ha:PySem.W.findIn K (.ref C) "__class__"=some (some (.builtin "object.__class__")))
   (hn:PySem.W.specialIn K (.builtin "object.__class__") "__get__"=some (some (.builtin "getset_descriptor.__get__"))) (htk:PySem.W.takesIn K (.builtin "object.__class__")=some true)
   (hm:PySem.W.mroIn K C (.type "object")=some true):Hq K H (.ref a) (.ref C)
theorem ED{x:V}{u t:Value}(I:Inv X pins σ H s)(rx:RelV x u)(ty:Hq X.K H x t)(e:PySem.W.kitOne X.K t c=some b)(h:∀tk,Q (.bool b) { s with toks:=tk }) :
  wpAny (model X.prog X.w) A (call (.builtin "isinstance") [u,c]) Q E s:=by
 cases ty with
 |non=>cases (show u=Value.none from rx);exact aY PySem.W.kitx_none I.kIn True.intro e (fun z=>nomatch z) h
 |bl y=>cases (show u=Value.bool y from rx);exact aY PySem.W.kitx_bool I.kIn True.intro e (fun z=>nomatch z) h
 |int i=>obtain⟨t,q⟩:=(show ∃t,u=Value.int i t from rx);cases q;exact aY PySem.W.kitx_int I.kIn True.intro e (fun z=>nomatch z) h
 |str y=>obtain⟨t,q⟩:=(show ∃t,u=Value.str y t from rx);cases q;exact aY PySem.W.kitx_str I.kIn True.intro e (fun z=>nomatch z) h
 |flt y=>obtain⟨t,q⟩:=(show ∃t,u=Value.float y t from rx);cases q;exact aY PySem.W.kitx_float I.kIn True.intro e (fun z=>nomatch z) h
 |@lst a xs ea =>
  cases (show u=Value.ref a from rx)
  obtain⟨_,_,n,_,h1⟩:=(show ObjOk X.prog X.w H s.heap a (.lst xs) from I.hok a _ ea)
  exact aY PySem.W.kitx_list I.kIn ⟨_,h1,rfl⟩ e (fun z=>nomatch z) h
 |@frz a ob xs ea =>
  cases (show u=Value.ref a from rx)
  obtain⟨_,_,_,n,_,h1⟩:=(show ObjOk X.prog X.w H s.heap a (.frz ob (.lst xs)) from I.hok a _ ea)
  exact aY PySem.W.kitx_list I.kIn ⟨_,h1,rfl⟩ e (fun z=>nomatch z) h
 |@tup a xs ea =>
  cases (show u=Value.ref a from rx)
  obtain⟨_,_,_,p⟩:=(show ObjOk X.prog X.w H s.heap a (.tup xs) from I.hok a _ ea)
  obtain⟨o,h1,h2,_⟩:=p
  exact aY PySem.W.kitx_tuple I.kIn ⟨o,h1,h2⟩ e (fun z=>nomatch z) h
 |@dK a kvs ea =>
  cases (show u=Value.ref a from rx)
  obtain⟨_,_,vs,_,p⟩:=(show ObjOk X.prog X.w H s.heap a (.dK kvs) from I.hok a _ ea)
  obtain⟨o,es,ep,h1,h2,_⟩:=p
  exact aY cL I.kIn ⟨o,h1,h2.1⟩ e (fun z=>nomatch z) h
 |@dT a kvs ea =>
  cases (show u=Value.ref a from rx)
  obtain⟨_,_,xs,_,o,es,ep,h1,h2,_⟩:=(show ObjOk X.prog X.w H s.heap a (.dT kvs) from I.hok a _ ea)
  exact aY cL I.kIn ⟨o,h1,h2.1⟩ e (fun z=>nomatch z) h
 |@ins a C dx fs ea cl ha hn htk hm =>
  cases (show u=Value.ref a from rx)
  obtain⟨mA,O,_⟩:=Rr I.hok ea
  obtain⟨od,J,_⟩:=O.look
  exact aY (PySem.W.kitx_own (cl.get _) cl.hd ha hn htk hm) I.kIn J e (fun z=>nomatch z) h
end
end L2
namespace L2
open PySem PySem.Spec PyProof.Rows
structure Room(k:Nat)(A:Around):Prop where
 hd:A.handled=none
 dp:A.depth+3*k+5<recursionLimit
 un:A.units+16*k+200<cLine
theorem Room.mono{j k:Nat}{A:Around}(r:Room k A)(h:j<=k):Room j A:=⟨r.hd,by have:=r.dp;omega,by have:=r.un;omega⟩
theorem Room.deeper{k:Nat}{A:Around}(r:Room (k+1) A)(env:Env):Room k (A.deeper env) :=
 ⟨r.hd,by have:=r.dp;show A.depth+1+3*k+5<_;omega,by have:=r.un;show A.units+3+16*k+200<_;omega⟩
theorem Room.depth{k:Nat}{A:Around}(r:Room k A):A.depth<recursionLimit:=by have:=r.dp;omega
theorem Room.units{k:Nat}{A:Around}(r:Room k A):A.units+64<cLine:=by have:=r.un;omega
def Eo:TA:=fun _ H Q=>Q [] H
def Cs(ta:TE)(tr:TA):TA:=fun σ H Q=>ta σ H fun x H1=>tr σ H1 fun xs H2=>Q (x::xs) H2
section
variable {X:Cx} {e:Expr} {es:List Expr} {te:TE} {t:TA} {pos:Pos}
theorem EO:PA X [] Eo:=fun _ _ _ _ H Q I h=>Calls.spliced_nil ⟨[],H,I,.nil,h⟩
theorem Cm(ha:PE X e te)(hr:PA X es t)(hs:starEach (e::es) X.env=(false,eval e X.env)::starEach es X.env:=by rfl):PA X (e::es) (Cs te t):=by
 intro pos pins s σ H Q I h
 rw[hs]
 show wpAny _ _ (spliced ((false,eval e X.env)::backTo pos (starEach es X.env))) _ _ s
 refine Calls.spliced_cons (thn (ha pins s σ H _ I h) fun u s1 ⟨x,H1,I1,r1,q1⟩=>?_)
 exact thn (hr pos pins s1 σ H1 _ I1 q1) fun us s2 ⟨xs,H2,I2,r2,q2⟩=>⟨x::xs,H2,I2,.cons r1 r2,q2⟩
def W9(t:TA):TE:=fun σ H Q=>t σ H fun xs H1=>xs.length<=sizeLine/\∀p,H1 p=none->Q (.ref p) (upd H1 p (.tup xs))
def T2(t:TA):TE:=fun σ H Q=>t σ H fun xs H1=>xs.length<=sizeLine/\∀p,H1 p=none->Q (.ref p) (upd H1 p (.lst xs))
theorem UW{x1}(h:PA X es t):PE X (.Tuple es x1 pos) (W9 t):=by
 intro pins s σ H Q I hq
 refine wpAny_Tuple_spliced (thn (h pos pins s σ H _ I hq) fun us s1 ⟨xs,H1,I1,r,z,q⟩=>⟨by rw[<- r.length];exact z,?_⟩)
 have hf:H1 s1.heap.objs.size=none:=I1.hok.fresh (J' _)
 refine⟨.ref s1.heap.objs.size,upd H1 s1.heap.objs.size (.tup xs),I1.laid (t':=s1.toks) (fun b u e=>E' _ e) (J' _) ?_,rfl,q _ hf⟩
 exact⟨z,us,r,⟨_,R' _ rfl,rfl,_,rfl⟩⟩
theorem Pf(h:PA X es t):PE X (.List es pos) (T2 t):=by
 intro pins s σ H Q I hq
 refine wpAny_List_spliced (thn (h pos pins s σ H _ I hq) fun us s1 ⟨xs,H1,I1,r,z,q⟩=>⟨by rw[<- r.length];exact z,?_⟩)
 have hf:H1 s1.heap.objs.size=none:=I1.hok.fresh (J' _)
 refine⟨.ref s1.heap.objs.size,upd H1 s1.heap.objs.size (.lst xs),I1.laid (t':=s1.toks) (fun b u e=>E' _ e) (J' _) ?_,rfl,q _ hf⟩
 exact⟨z,us,0,r,R' _ rfl⟩
end
abbrev Sp:=List V->Hp->VK->XK->Prop
abbrev CXT:=List Env->Hp->Shared->XK->Value->Shared->Prop
structure Sy(P:Program)(w:World)(K:PySem.W.Frag)(mg:Str->Option Value)(base:Heap)(A:Around)(outer:List Env)(s:Shared)(H:Hp):Prop where
 frames:A.frames=some outer
 mod:Mod K mg base
 bs:∀b o,base.get? b=some o->s.heap.get? b=some o/\H b=none
 bsz:base.objs.size<=s.heap.objs.size
 funs:s.heap.FunFrames base outer
 frf:∀b∈frs outer,H b=none
 hok:HOk P w H s.heap
 bare:AllBare s.gens
def CE(outer:List Env)(P:Program)(w:World)(H:Hp)(s:Shared)(Q:VK)(u:Value)(s':Shared):Prop :=
 ∃v H',s'.os=s.os/\AllBare s'.gens/\Un (frs outer) [] H H' s.heap s'.heap/\HOk P w H' s'.heap/\RelV v u/\Q v H'
def CR(CX:CXT)(outer:List Env)(P:Program)(w:World)(H:Hp)(s:Shared)(Q:VK)(E:XK)(r:Result)(s':Shared):Prop :=
 match r with
 |.ok (.ret u)=>CE outer P w H s Q u s'
 |.ok _=>False
 |.error e=>CX outer H s E e s'
structure FnOk(P:Program)(w:World)(K:PySem.W.Frag)(mg:Str->Option Value)(base:Heap)(CX:CXT)(k:Nat)(f:Addr)(fd:FuncData)(ps:List Str)(sp:Sp):Prop where
 len:∀vs H Q E,sp vs H Q E->vs.length=ps.length
 run:∀(A:Around) (outer:List Env) (s:Shared) (H:Hp) (args:Args) (us:List Value) (vs:List V) (Q:VK) (E:XK),Room k A->Sy P w K mg base A outer s H->BindsTo s fd args (ps.zip us)->Vals vs us->sp vs H Q E ->
  codeAny (model P w) A (.call (.ref f) args) (CR CX outer P w H s Q E) s
theorem FnOk.mono{P:Program}{w:World}{K:PySem.W.Frag}{mg:Str->Option Value}{base:Heap}{CX:CXT}{j k:Nat}{f:Addr}{fd:FuncData}{ps:List Str}{sp:Sp}(F:FnOk P w K mg base CX j f fd ps sp)(h:j<=k) :
  FnOk P w K mg base CX k f fd ps sp:=⟨F.len,fun A outer s H args us vs Q E hr=>F.run A outer s H args us vs Q E (hr.mono h)⟩
section
variable {X:Cx} {pins:List (Addr×Obj)} {σ:St} {H:Hp} {s s':Shared}
theorem Inv.env0(I:Inv X pins σ H s):Sy X.prog X.w X.K X.mg X.base X.A X.stack s H :=
 ⟨I.ok.frames,I.ok.mod,I.bs,W' I.ok.bsz I.sz,I.stack,I.stkFree,I.hok,I.bare⟩
theorem Inv.after{Q:VK}{u:Value}(I:Inv X pins σ H s)(h:CE X.stack X.prog X.w H s Q u s'):EP X pins σ Q u s':=by
 obtain⟨v,H',os,bare,un,hok,r,q⟩:=h
 obtain⟨hh,g,d,t,os'⟩:=s'
 obtain rfl:os'=s.os:=os
 exact⟨v,H',I.call (h':=hh) (g':=g) (d':=d) (t':=t) (ch:=[]) un hok bare (fun b z=>absurd z (by simp)),r,q⟩
end
def F6(sp:Sp)(dvs:List V)(E:XK)(t:TA):TE:=fun σ H Q=>t σ H fun vs H1=>sp (vs++dvs) H1 Q E
def Binds(K:PySem.W.Frag)(fd:FuncData)(ps:List Str)(ds:List Value):Prop :=
 ∀(s:Shared) (us:List Value),K.In s.heap->(us++ds).length=ps.length->BindsTo s fd ⟨us,[]⟩ (ps.zip (us++ds))
theorem Binds.all{K:PySem.W.Frag}{fd:FuncData}{ps:List Str}(h:∀us:List Value,us.length=ps.length->bindArgs fd ⟨us,[]⟩=pure (ps.zip us)):Binds K fd ps []:=fun s us _ hl=>by
 rw[bD]at hl ⊢
 exact .of_eq (h us hl)
def HE(CX:CXT)(X:Cx)(E:XK):Prop:=∀(pins:List (Addr×Obj)) (σ:St) (H:Hp) (s:Shared) (e:Value) (s':Shared),Inv X pins σ H s->CX X.stack H s E e s'->X.xe e s'
section
variable {X:Cx} {CX:CXT} {k:Nat} {f C:Addr} {fd:FuncData} {ps:List Str} {sp:Sp} {dvs:List V} {ds:List Value} {E:XK} {x m:Str} {p pos apos:Pos} {e o:Expr} {es:List Expr} {ta:TE} {t:TA}
theorem L9{pins:List (Addr×Obj)}{σ:St}{H:Hp}{s:Shared}{Q:VK}{us:List Value}{vs:List V}(F:FnOk X.prog X.w X.K X.mg X.base CX k f fd ps sp)(hr:Room k X.A)(hb:Binds X.K fd ps ds)(hd:Vals dvs ds)(hx:HE CX X E)
  (I:Inv X pins σ H s) (r:Vals vs us) (h:sp (vs++dvs) H Q E):wpAny (model X.prog X.w) X.A (call (.ref f) us) (EP X pins σ Q) X.xe s:=by
 have r2:Vals (vs++dvs) (us++ds):=r.append hd
 have hl:(us++ds).length=ps.length:=by rw[<- r2.length];exact F.len _ _ _ _ h
 refine wpAny_call (codeAny_mono (F.run X.A X.stack s H ⟨us,[]⟩ (us++ds) (vs++dvs) Q E hr I.env0 (hb s us I.kIn hl) r2 h) fun r s' hq=>?_)
 cases r with
 |error e=>exact hx pins σ H s e s' I hq
 |ok fl =>
  cases fl with
  |ret u=>exact I.after hq
  |next=>exact False.elim hq
  |brk=>exact False.elim hq
  |cont=>exact False.elim hq
theorem RM(F:FnOk X.prog X.w X.K X.mg X.base CX k f fd ps sp)(hr:Room k X.A)(hg:Gl X x)(hm:X.mg x=some (.ref f))(hk:PySem.W.keepIn X.K (.ref f)=true)(hb:Binds X.K fd ps ds)(hd:Vals dvs ds)(hx:HE CX X E)
  (ha:PA X (e::es) t) (hdb:(x==("__debug__":Str))=false:=by decide) (he:starEach (e::es) X.env=(false,eval e X.env)::starEach es X.env:=by rfl) (hpl:(backTo pos (starEach es X.env)).any (·.1)=false:=by rfl) :
  PE X (.Call (.Name x p) (e::es) [] pos) (F6 sp dvs E t):=by
 intro pins s σ H Q I h
 refine wpAny_Call_Name_kw (Ht I hg hm ?_ hdb)
 refine PySem.W.callWith_K (h₀:=X.base) I.ok.mod.kin hk (thn (ha pos pins s σ H _ I h) fun us s1 ⟨vs,H1,I1,r,q⟩=>⟨I1.kIn,?_⟩) he hpl
 exact L9 F hr hb hd hx I1 r q
theorem Pl(F:FnOk X.prog X.w X.K X.mg X.base CX k f fd ps sp)(hr:Room k X.A)(hg:Gl X x)(hm:X.mg x=some (.ref f))(hk:PySem.W.keepIn X.K (.ref f)=true)(hb:Binds X.K fd ps ds)(hd:Vals dvs ds)(hx:HE CX X E)
  (hdb:(x==("__debug__":Str))=false:=by decide):PE X (.Call (.Name x p) [] [] pos) (F6 sp dvs E Eo):=by
 intro pins s σ H Q I h
 refine wpAny_Call_Name_kw (Ht I hg hm ?_ hdb)
 exact PySem.W.callWith_K0 I.kIn hk (L9 (us:=[]) F hr hb hd hx I .nil h)
end
section
variable {X:Cx} {CX:CXT} {k:Nat} {f C:Addr} {fd:FuncData} {ps ks:List Str} {sp:Sp} {E:XK} {x m:Str} {p pos apos kpos:Pos} {e o:Expr} {es:List Expr} {kws:List Keyword} {te ta:TE} {t tk:TA} {nm:Option Str}
variable {g:List Value->List Value->List Value} {gV:List V->List V->List V}
end
structure FJ(N P:List Str)(sc:Scope):Prop where
 kind:sc.kind = .function
 co:sc.isCoroutine=false
 gen:sc.isGenerator=false
 nd:N.Nodup
 pre:N.take P.length=P
 par:∀x∈P,sc.names.lookup x=some .local\/sc.names.lookup x=some .cell
 nofree:∀y∈sc.names,y.2≠.free
theorem Jy{kindOf:Str->Option NameKind}{x:Str}:∀{binds:List (Str×Value)} {m:Str->Option Value},(∀v,(x,v)∉binds)->bindL kindOf binds m x=m x
 |[],_,_=>rfl
 |(n,v)::r,m,h=>by
  unfold bindL
  rw[Jy fun w hw=>h w (O' _ hw)]
  split
  ·have:x≠n:=by rintro rfl;exact h v L'
   simp[this]
  ·rfl
theorem J0{kindOf:Str->Option NameKind}{x:Str}:∀{binds:List (Str×Value)} {m:Str->Option Value},(∀v,(x,v)∉binds)->bindC kindOf binds m x=m x
 |[],_,_=>rfl
 |(n,v)::r,m,h=>by
  unfold bindC
  rw[J0 fun w hw=>h w (O' _ hw)]
  split
  ·rfl
  ·have:x≠n:=by rintro rfl;exact h v L'
   simp[this]
theorem Jz{kindOf:Str->Option NameKind}{x:Str}{v:Value}:∀{P:List Str} {vs:List Value} {i:Nat} {m:Str->Option Value},P.Nodup->P[i]?=some x->vs[i]?=some v->kindOf x=some .local ->
  bindL kindOf (P.zip vs) m x=some v
 |[],_,_,_,_,h,_,_=>by simp at h
 |_::_,[],_,_,_,_,h,_=>by simp at h
 |p::P,w::vs,0,m,nd,h1,h2,hk=>by
  simp at h1 h2;subst h1;subst h2
  show bindL kindOf ((p,w)::P.zip vs) m p=_
  unfold bindL
  rw[Jy fun v hv=>(b9.mp nd).1 (cU hv).1,if_pos hk]
  simp
 |p::P,w::vs,i+1,m,nd,h1,h2,hk=>by
  show bindL kindOf ((p,w)::P.zip vs) m x=_
  unfold bindL
  exact Jz (i:=i) (b9.mp nd).2 (by simpa using h1) (by simpa using h2) hk
theorem J3{kindOf:Str->Option NameKind}{x:Str}{v:Value}:∀{P:List Str} {vs:List Value} {i:Nat} {m:Str->Option Value},P.Nodup->P[i]?=some x->vs[i]?=some v->kindOf x≠some .local ->
  bindC kindOf (P.zip vs) m x=some v
 |[],_,_,_,_,h,_,_=>by simp at h
 |_::_,[],_,_,_,_,h,_=>by simp at h
 |p::P,w::vs,0,m,nd,h1,h2,hk=>by
  simp at h1 h2;subst h1;subst h2
  show bindC kindOf ((p,w)::P.zip vs) m p=_
  unfold bindC
  rw[J0 fun v hv=>(b9.mp nd).1 (cU hv).1,if_neg hk]
  simp
 |p::P,w::vs,i+1,m,nd,h1,h2,hk=>by
  show bindC kindOf ((p,w)::P.zip vs) m x=_
  unfold bindC
  exact J3 (i:=i) (b9.mp nd).2 (by simpa using h1) (by simpa using h2) hk
def start(N:List Str)(vs:List V):St:=vs.map some++List.replicate (N.length-vs.length) none
def JF(CX:CXT)(P:Program)(w:World)(K:PySem.W.Frag)(mg:Str->Option Value)(base:Heap)(N:List Str)(qual:Str)(scope:Scope)(f:Addr)(cd:Value)(A:Around)(outer:List Env)(s:Shared)(H:Hp)(E:XK):Cx where
 prog:=P
 w:=w
 K:=K
 mg:=mg
 base:=base
 A:=A.deeper (envOfC qual scope s.heap.objs.size f cd)
 N:=N
 s₀:=s
 H₀:=H
 env:=envOfC qual scope s.heap.objs.size f cd
 outer:=outer
 stack:=envOfC qual scope s.heap.objs.size f cd::outer
 ex:=[]
 calm:=true
 fn:=fun _=>true
 pn:=[]
 xe:=fun e s'=>wpAny (model P w) (A.deeper (envOfC qual scope s.heap.objs.size f cd)) (leaving (envOfC qual scope s.heap.objs.size f cd) e) (fun _ s''=>CX outer H s E e s'') (fun e' s''=>CX outer H s E e' s'') s'
theorem Lx{sc:Scope}{n:Nat}{x:Str}(h:sc.names.lookup x=some .cell):∃c,(cellsFrom n sc.names []).lookup x=some c:=by
 have q:=PySem.W.cellsFrom_some sc.names n [] (.inl h)
 exact Option.isSome_iff_exists.mp q
theorem OH{CX:CXT}{P:Program}{w:World}{K:PySem.W.Frag}{mg:Str->Option Value}{base:Heap}{N ps:List Str}{qual:Str}{scope:Scope}{f:Addr}{cd:Value}{A:Around}{outer:List Env}{s s1:Shared}{H:Hp}{E:XK}{us:List Value}{vs:List V}
  (S:FJ N ps scope) (hd:A.handled=none) (e0:Sy P w K mg base A outer s H) (hl:vs.length=ps.length) (r:Vals vs us)
  (x:InCallC s s.heap.objs.size (bindL (envOfC qual scope s.heap.objs.size f cd).kindOf (ps.zip us) fun _=>none) (cellsFrom (s.heap.objs.size+1) scope.names []) (bindC (envOfC qual scope s.heap.objs.size f cd).kindOf (ps.zip us) fun _=>none) s1) :
  Inv (JF CX P w K mg base N qual scope f cd A outer s H E) [] (start N vs) H s1:=by
 have hpl:ps.length<=N.length:=by have:=congrArg List.length S.pre;rw[cN]at this;omega
 obtain⟨h1,tk,rfl,hk⟩:=x.done
 have noA:∀b:Addr,b∉(JF CX P w K mg base N qual scope f cd A outer s H E).ex:=fun b z=>absurd (show b∈([]:List Addr) from z) (by simp)
 refine ⟨⟨e0.mod, S.kind, rfl, rfl, J' _, fun y z c h1 h2 => ?_, fun y hy => ?_, fun y c _ h => ?_, fun _ => hd, Around.frames_deeper e0.frames, .inr ⟨rfl, rfl⟩, fun b z => absurd z (noA b), e0.bs, e0.bsz, fun b _ _ => noA b, fun b z => absurd z (noA b), e0.funs, e0.frf⟩,
  rfl,e0.bare,Un.kept hk,⟨_,x.toInCall.ns,fun i y v h1 h2 h3=>?_⟩,fun y c h=>⟨_,x.cell y c h⟩,e0.hok.fresh (J' _),fun y c h=>?_,fun p hp=>absurd (show p∈([]:List (Addr×Obj)) from hp) (by simp),e0.hok.kept hk,?_⟩
 ·exact name_of_addr x.apart (bA h1) (bA h2)
 ·have hy:scope.names.lookup y=some .cell\/scope.names.lookup y=some .free:=hy
  rcases hy with hy|hy
  ·exact Lx hy
  ·exact absurd rfl (S.nofree _ (bA hy))
 ·exact cG (x.above y c (bA h))
 ·have hi:i<vs.length:=by
   unfold start at h2
   by_cases hi:i<vs.length
   ·exact hi
   ·rw[aV (by simpa using hi)]at h2
    rw[aj]at h2
    split at h2<;>cases h2
  have ha:vs[i]?=some v:=by
   unfold start at h2
   rw[aS (by simpa using hi),G']at h2
   cases e:vs[i]? with
   |none=>rw[e]at h2;cases h2
   |some a=>rw[e]at h2;cases h2;rfl
  obtain⟨u,hu,rv⟩:=r.get ha
  have hp:ps[i]?=some y:=by
   rw[<- S.pre,List.getElem?_take_of_lt (by omega)];exact h1
  have ndP:ps.Nodup:=by rw[<- S.pre];exact S.nd.sublist (List.take_sublist _ _)
  refine⟨u,rv,?_⟩
  rcases S.par y (aO hp)with k|k
  ·exact .inl ⟨k,Jz ndP hp hu k⟩
  ·obtain⟨c,e⟩:=Lx (n:=s.heap.objs.size+1) k
   refine .inr ⟨.inl k,c,e,?_⟩
   have q:=x.cell y c e
   rw[J3 ndP hp hu (by show scope.names.lookup y≠_;rw[k];decide)]at q
   exact q
 ·exact e0.hok.fresh (cG (x.above y c (bA h)))
 ·unfold start
  show _=N.length
  rw[T',B',bB]
  omega
theorem Td{CX:CXT}{P:Program}{w:World}{K:PySem.W.Frag}{mg:Str->Option Value}{base:Heap}{k:Nat}{f:Addr}{name qual:Str}{params:Arguments}{body:List Stmt}{scope:Scope}{dV kV doc pm cdv ct oc:Value}{an od:Option Addr}
  {osl:Array (Option Value)} {N ps:List Str} {sp:Sp} (lk:K.lookup f=some ⟨oc,od,.func (PySem.W.fnOf name qual params body scope dV kV doc pm an cdv ct),osl⟩) (hcd:PySem.W.codeIn K cdv qual=true) (S:FJ N ps scope)
  (len:∀vs H Q E,sp vs H Q E->vs.length=ps.length)
  (hbody : ∀ (A : Around) (outer : List Env) (s : Shared) (H : Hp) (vs : List V) (Q : VK) (E : XK), Room k (A.deeper (envOfC qual scope s.heap.objs.size f cdv)) -> sp vs H Q E ->
   ∃t,PSs (JF CX P w K mg base N qual scope f cdv A outer s H E) body t/\t { nx:=fun _ H'=>Q .non H',rt:=Q } (start N vs) H) :
  FnOk P w K mg base CX (k+1) f (PySem.W.fnOf name qual params body scope dV kV doc pm an cdv ct) ps sp:=by
 refine⟨len,fun A outer s H args us vs Q E hr e0 hb r hsp=>?_⟩
 have hl:=len _ _ _ _ hsp
 have KX:K.In s.heap:=e0.mod.kin.keeps fun b o e=>(e0.bs b o e).1
 have lim:s.heap.NoLimit:=e0.mod.nolimit.keeps fun b o e=>(e0.bs b o e).1
 have hkind:∀y∈ps.zip us,scope.names.lookup y.1=some .local\/(scope.names.lookup y.1=some .cell/\((cellsFrom (s.heap.objs.size+1) scope.names []).lookup y.1).isSome=true):=fun⟨n,v⟩ hy=>by
  rcases S.par n (cU hy).1 with q|q
  ·exact .inl q
  ·exact .inr ⟨q,PySem.W.cellsFrom_some _ _ _ (.inl q)⟩
 refine codeAny_call_function hr.depth (KX _ _ lk) rfl S.co S.gen rfl (PySem.W.codeRec_of KX hcd) (hb _ _ _ _ ?_)
 refine wpAny_newFunctionEnv_cells S.kind hkind fun env he s1 x=>?_
 subst he
 refine⟨lim.keeps x.toInCall.keep,codeAny_func ?_⟩
 obtain⟨t,ht,hq⟩:=hbody A outer s H vs Q E (hr.deeper _) hsp
 have I:Inv (JF CX P w K mg base N qual scope f cdv A outer s H E) [] (start N vs) H s1:=OH S hr.hd e0 hl r x
 refine wpAny_mono (ht [] s1 (start N vs) H _ I hq) (fun fl s' hs=>?_) fun e s' hs=>hs
 have fin:∀{σ':St} {H':Hp} {v:V} {u:Value},Inv (JF CX P w K mg base N qual scope f cdv A outer s H E) [] σ' H' s'->RelV v u->Q v H'->CE outer P w H s Q u s' :=
  fun {σ' H' v u} J rv q=>⟨v,H',J.os,J.bare,J.base,J.hok,rv,q⟩
 cases fl with
 |ret u =>
  obtain⟨v,σ',H',J,rv,q⟩:=hs
  exact fin J rv q
 |next =>
  obtain⟨σ',H',J,q⟩:=hs
  exact fin (v:=V.non) (u:=Value.none) J rfl q
 |brk =>
  obtain⟨_,_,_,q⟩:=hs
  exact False.elim q
 |cont =>
  obtain⟨_,_,_,q⟩:=hs
  exact False.elim q
end L2
namespace L2
open PySem PySem.Spec PyProof.Rows
section
variable {X:Cx} {x:Str} {p pos:Pos} {e:Expr} {es:List Expr} {t:TA} {id T:String} {r:List V->Hp->VK->Prop}
def tCB(r:List V->Hp->VK->Prop)(t:TA):TE:=fun σ H Q=>t σ H fun vs H1=>r vs H1 Q
theorem LD(hc:B8 X (.builtin id) r)(hg:Gl X x)(hm:X.mg x=none)(hv:bootBuiltins x=some (.builtin id))(ha:PA X (e::es) t)(hn:x≠"__name__":=by decide)(hdb:(x==("__debug__":Str))=false:=by decide)
  (he:starEach (e::es) X.env=(false,eval e X.env)::starEach es X.env:=by rfl) (hpl:(backTo pos (starEach es X.env)).any (·.1)=false:=by rfl):PE X (.Call (.Name x p) (e::es) [] pos) (tCB r t):=by
 intro pins s σ H Q I h
 refine wpAny_Call_Name_kw (Gr I hg hm hv ?_ hn hdb)
 exact PyProof.Rows.callWith_builtin1 (thn (ha pos pins s σ H _ I h) fun us s1 ⟨vs,H1,I1,r1,q1⟩=>hc pins s1 σ H1 vs us Q I1 r1 q1) he hpl
theorem Ny(hc:B8 X (.type T) r)(hg:Gl X x)(hm:X.mg x=none)(hv:bootBuiltins x=some (.type T))(ha:PA X (e::es) t)(hn:x≠"__name__":=by decide)(hdb:(x==("__debug__":Str))=false:=by decide)
  (he:starEach (e::es) X.env=(false,eval e X.env)::starEach es X.env:=by rfl) (hpl:(backTo pos (starEach es X.env)).any (·.1)=false:=by rfl):PE X (.Call (.Name x p) (e::es) [] pos) (tCB r t):=by
 intro pins s σ H Q I h
 refine wpAny_Call_Name_kw (Gr I hg hm hv ?_ hn hdb)
 exact bG (thn (ha pos pins s σ H _ I h) fun us s1 ⟨vs,H1,I1,r1,q1⟩=>hc pins s1 σ H1 vs us Q I1 r1 q1) he hpl
end
end L2
namespace HT
open PySem PyProof.Rows
section
open PySem.SeqAt
open PySem.AutoSeq1 (wpAny_loadPart')
open PySem.MeetsSeq PySem.MeetsSeq2 PySem.MeetsSeq3
end
section
variable {prog:Program} {w:World} {A:Around} {E:Value->Shared->Prop} {s:Shared}
theorem cat_tup{t b:Addr}{vs ws:List Value}{Q:Value->Shared->Prop}(ht:IsTup s.heap t vs.toArray)(hb:IsTup s.heap b ws.toArray)(hv:vs≠[])
  (h1:ws=[]->Q (.ref t) s) (h2:ws≠[]->Q (.ref s.heap.objs.size) { s with heap:=s.heap.push { cls:=.type "tuple",data:=.seq (vs++ws).toArray } })
  (hsz:vs.length+ws.length<=sizeLine):wpAny (model prog w) A (binaryOp .Add (.ref t) (.ref b)) Q E s:=by
 obtain⟨⟨cls,dd,data,sl⟩,ho,hc,n,hd⟩:=id ht
 obtain⟨⟨cls2,dd2,data2,sl2⟩,ho2,hc2,n2,hd2⟩:=id hb
 simp only at hc hd hc2 hd2
 subst hc hd hc2 hd2
 have e:vs.toArray++ws.toArray=(vs++ws).toArray:=by simp
 by_cases hw:ws=[]
 ·exact concat_meets ⟨_,ho,rfl⟩ ⟨_,ho2,rfl⟩ noFill_tuple_add seq_tuple_add PySem.F.slot_tuple_add PySem.F.entry_tuple_add (PySem.F.args_tuple_add_2 _ _)
   (tuple_addW1 t b vs.toArray ws.toArray n n2 dd dd2 sl sl2 (by simpa using hv) (by simp[hw])) ⟨ho,ho2,h1 hw⟩
 ·refine concat_meets ⟨_,ho,rfl⟩ ⟨_,ho2,rfl⟩ noFill_tuple_add seq_tuple_add PySem.F.slot_tuple_add PySem.F.entry_tuple_add (PySem.F.args_tuple_add_2 _ _)
   (tuple_addW2 t b vs.toArray ws.toArray n n2 dd dd2 sl sl2 (by simpa using hv) (by simpa using hw) (by rw[V',V'];exact hsz)) ⟨ho,ho2,?_⟩
  rw[e]
  exact h2 hw
def sIx(n d:Nat):Option Int->Nat
 |none=>d
 |some v=>if v<0 then (v+(n:Int)).toNat else min v.toNat n
theorem T9(n d:Nat)(hd:d<=n)(o:Option Int):sIx n d o<=n:=by
 cases o with
 |none=>exact hd
 |some v =>
  show(if v<0 then (v+(n:Int)).toNat else min v.toNat n)<=n
  by_cases hv:v<0
  ·rw[if_pos hv];omega
  ·rw[if_neg hv];exact Nat.min_le_right _ _
theorem Nd(v:Int)(n d:Nat):(if v<0 then max (v+(n:Int)) 0 else min v (n:Int))=((sIx n d (some v):Nat):Int):=by
 show(if v<0 then max (v+(n:Int)) 0 else min v (n:Int))=(((if v<0 then (v+(n:Int)).toNat else min v.toNat n):Nat):Int)
 by_cases hv:v<0
 ·simp only[if_pos hv];omega
 ·simp only[if_neg hv];omega
theorem Mm(lo hi:Option Int)(n:Nat):Builtin.Slice.sliceAdjust lo hi 1 (n:Int)=(((sIx n 0 lo:Nat):Int),((sIx n n hi:Nat):Int)):=by
 have h1:¬((1:Int)<0):=by omega
 unfold Builtin.Slice.sliceAdjust
 simp only[h1,if_false]
 refine Prod.ext ?_ ?_
 ·cases lo with
  |none=>rfl
  |some v=>exact Nd v n 0
 ·cases hi with
  |none=>rfl
  |some v=>exact Nd v n n
theorem MF(i j:Nat):Builtin.Slice.slicePlaces (i:Int) (j:Int) 1=j-i:=by
 unfold Builtin.Slice.slicePlaces
 have h1:(1:Int)>0:=by omega
 simp only[h1,if_true,Int.ediv_one]
 split<;>omega
theorem IE{v:Value}{o:Option Int}{Q:Option Int->Shared->Prop}(p:IsPart v o)(h:Q o s):wpAny (model prog w) A (Builtin.Slice.slicePartIndex v) Q E s:=by
 cases p with
 |none=>exact slicePart_none h
 |int i t=>exact slicePart_int h
theorem Gn{sl:Addr}{vl vu:Value}{lo hi:Option Int}{n:Nat}{Q:Int×Int×Nat->Shared->Prop}(hs:s.heap.IsSliceOf sl vl vu .none)(pl:IsPart vl lo)(pu:IsPart vu hi)
  (h:Q (((sIx n 0 lo:Nat):Int),1,sIx n n hi-sIx n 0 lo) s):wpAny (model prog w) A (Builtin.Slice.sliceApplied (.ref sl) (pure (n:Int))) Q E s:=by
 obtain⟨os,hos,hcs,hds⟩:=id hs
 unfold Builtin.Slice.sliceApplied Builtin.Slice.sliceFields
 refine wpAny_bind (wpAny_bind (wpAny_field hos hds (x:=vl) rfl (wpAny_bind (wpAny_field hos hds (x:=vu) rfl (wpAny_bind (wpAny_field hos hds (x:=.none) rfl (wpAny_pure ?_)))))))
 refine wpAny_bind (slicePart_none ?_)
 show wpAny _ _ (if ((1:Int)==0)=true then _ else _) _ _ s
 rw[if_neg (by decide)]
 refine wpAny_bind (IE pl (wpAny_bind (IE pu (wpAny_bind (wpAny_pure ?_)))))
 show wpAny _ _ (match Builtin.Slice.sliceAdjust lo hi 1 (n:Int) with|(lo,hi)=>pure (lo,(1:Int),Builtin.Slice.slicePlaces lo hi 1)) _ _ s
 rw[Mm lo hi n]
 show wpAny _ _ (pure (((sIx n 0 lo:Nat):Int),(1:Int),Builtin.Slice.slicePlaces ((sIx n 0 lo:Nat):Int) ((sIx n n hi:Nat):Int) 1)) _ _ s
 rw[MF]
 exact wpAny_pure h
theorem Pa(xs:Array Value)(i k:Nat):((List.range k).filterMap fun(m:Nat)=>xs[((i:Int)+(m:Int)*1).toNat]?).toArray=((xs.toList.drop i).take k).toArray:=by
 have e:(fun(m:Nat)=>xs[((i:Int)+(m:Int)*1).toNat]?)=fun m=>xs[i+m]?:=by
  funext m
  have:((i:Int)+(m:Int)*1).toNat=i+m:=by omega
  rw[this]
 rw[e]
 have:=pick_run xs i k
 rw[List.filterMap_map]at this
 have e2:((fun x=>xs[x]?)∘fun x=>i+x)=fun m=>xs[i+m]?:=rfl
 rw[e2]at this
 rw[this]
theorem getItem_tuple_cut{t sl:Addr}{items:Array Value}{vl vu:Value}{lo hi:Option Int}{Q:Value->Shared->Prop}(ht:IsTup s.heap t items)(hs:s.heap.IsSliceOf sl vl vu .none)(pl:IsPart vl lo)(pu:IsPart vu hi)
  (hw:¬(sIx items.size 0 lo=0/\sIx items.size items.size hi=items.size))
  (h:Q (.ref s.heap.objs.size) { s with heap:=s.heap.push { cls:=.type "tuple",data:=.seq ((items.toList.drop (sIx items.size 0 lo)).take (sIx items.size items.size hi-sIx items.size 0 lo)).toArray } })
  (hsz:items.size<=sizeLine):wpAny (model prog w) A (getItem (.ref t) (.ref sl)) Q E s:=by
 have htake:sizeOk (.seq ((items.toList.drop (sIx items.size 0 lo)).take (sIx items.size items.size hi-sIx items.size 0 lo)).toArray):=by
  show((items.toList.drop (sIx items.size 0 lo)).take (sIx items.size items.size hi-sIx items.size 0 lo)).toArray.size<=sizeLine
  rw[V',cN,List.length_drop,cE]
  omega
 have hj:sIx items.size items.size hi<=items.size:=T9 _ _ (J' _) hi
 obtain⟨os,hos,hcs,hds⟩:=id hs
 have hTs:s.TypeIs (.ref sl) "slice":=⟨os,hos,hcs⟩
 unfold getItem
 try with_reducible refine wpAny_holding ?_
 first|refine wpAny_bind (wpAny_pure ?_)|skip
 refine wpAny_bind (wpAny_sequenceKey ht.typeIs (by decide) ?_)
 refine wpAny_bind (wpAny_callSpecial?_slot (name := Str.ofString "__getitem__") ht.typeIs br
  (wpAny_call_entry br ht.typeIs entry_tuple_getitem ?_ (args_tuple_getitem _ _)))
 show wpAny _ _ (Builtin.Tuple.tupleItemsOf (.ref t) >>= _) _ _ s
 refine wpAny_bind (tupleItemsOf_ ht ?_)
 refine wpAny_bind (wpAny_typeOf hTs ?_)
 rw[if_pos (by decide)]
 refine wpAny_bind (Gn hs pl pu ?_)
 have hno:¬((((sIx items.size 0 lo:Nat):Int)==0&&(1:Int)==1&&(sIx items.size items.size hi-sIx items.size 0 lo)==items.size)=true):=by
  intro q
  rw[K',K']at q
  have q1:((sIx items.size 0 lo:Nat):Int)=0:=eq_of_beq q.1.1
  have q2:sIx items.size items.size hi-sIx items.size 0 lo=items.size:=eq_of_beq q.2
  exact hw ⟨by omega,by omega⟩
 show wpAny _ _ (if (((sIx items.size 0 lo:Nat):Int)==0&&(1:Int)==1&&(sIx items.size items.size hi-sIx items.size 0 lo)==items.size)=true then _ else _) _ _ s
 rw[if_neg hno,Pa]
 first
  |exact wpAny_bind (m:=Builtin.Tuple.tupleExact _) (wpAny_newObj_type (wpAny_pure ⟨_,rfl,wpAny_pure h⟩) htake)
  |exact wpAny_bind (m:=Builtin.Tuple.tupleExact _) (wpAny_newObj_type (wpAny_bind (wpAny_pure (wpAny_pure ⟨_,rfl,wpAny_pure h⟩))) htake)
  |exact wpAny_bind (wpAny_bind (m:=Builtin.Tuple.tupleExact _) (wpAny_newObj_type (wpAny_pure (wpAny_pure ⟨_,rfl,wpAny_pure h⟩)) htake))
  |exact wpAny_bind (wpAny_bind (m:=Builtin.Tuple.tupleExact _) (wpAny_newObj_type (wpAny_pure ⟨_,rfl,wpAny_pure h⟩) htake))
end
end HT
namespace L2
open PySem PySem.Spec PyProof.Rows
abbrev TO:=St->Hp->(Option Int->Hp->Prop)->Prop
def PO(X:Cx)(e:Option Expr)(t:TO):Prop :=
 ∀(pins:List (Addr×Obj)) (s:Shared) (σ:St) (H:Hp) (Q:Option Int->Hp->Prop),Inv X pins σ H s->t σ H Q ->
  wpAny (model X.prog X.w) X.A (evalPart e X.env) (fun u s'=>∃o H',Inv X pins σ H' s'/\IsPart u o/\Q o H') X.xe s
def Mt:TO:=fun _ H Q=>Q none H
def S7(t:TE):TO:=fun σ H Q=>t σ H fun x H1=>∃i,x = .int i/\Q (some i) H1
section
variable {X:Cx} {e:Expr} {te:TE} {lo hi:Option Expr} {tl th:TO} {pos p2:Pos}
theorem RG:PO X none Mt:=by
 intro pins s σ H Q I h
 rw[evalPart_none]
 exact wpAny_pure ⟨none,H,I,.none,h⟩
theorem RE(h:PE X e te):PO X (some e) (S7 te):=by
 intro pins s σ H Q I hw
 rw[evalPart_some]
 refine thn (h pins s σ H _ I hw) fun u s1 ⟨x,H1,I1,r1,q1⟩=>?_
 obtain⟨i,rfl,q⟩:=q1
 obtain⟨t,rfl⟩:=r1
 exact⟨some i,H1,I1,.int i t,q⟩
def SlR(X:Cx)(r:V->Option Int->Option Int->Hp->VK->Prop):Prop :=
 ∀(pins:List (Addr×Obj)) (s:Shared) (σ:St) (H:Hp) (x:V) (v vl vu:Value) (lo hi:Option Int) (sl:Addr) (Q:VK),Inv X pins σ H s->RelV x v->s.heap.IsSliceOf sl vl vu .none->IsPart vl lo->IsPart vu hi->r x lo hi H Q ->
  ∃T id,typeLookup (.type T) "__getitem__"=pure (some (.builtin id))/\s.TypeIs v T/\wpAny (model X.prog X.w) X.A (getItem v (.ref sl)) (EP X pins σ Q) X.xe s
def tSl(r:V->Option Int->Option Int->Hp->VK->Prop)(te:TE)(tl th:TO):TE:=fun σ H Q=>te σ H fun x H1=>tl σ H1 fun l H2=>th σ H2 fun u H3=>r x l u H3 Q
theorem IY{r:V->Option Int->Option Int->Hp->VK->Prop}(hr:SlR X r)(he:PE X e te)(hl:PO X lo tl)(hu:PO X hi th):PE X (.Subscript e (.Slice lo hi none p2) pos) (tSl r te tl th):=by
 intro pins s σ H Q I h
 refine Subscript_ (thn (he pins s σ H _ I h) fun v s1 ⟨x,H1,I1,r1,q1⟩=>?_)
 refine wpAny_Slice (thn (hl pins s1 σ H1 _ I1 q1) fun vl s2 ⟨l,H2,I2,pl,q2⟩=>thn (hu pins s2 σ H2 _ I2 q2) fun vu s3 ⟨u,H3,I3,pu,q3⟩=>?_)
 rw[evalPart_none]
 refine wpAny_pure ?_
 have I4:Inv X pins σ H3 { s3 with heap:=s3.heap.push { cls:=.type "slice",data:=.fields #[vl,vu,.none] } }:=I3.kept (t':=s3.toks) fun b ob q=>E' _ q
 obtain⟨T,id,hT,ht,hg⟩:=hr pins { s3 with heap:=s3.heap.push { cls:=.type "slice",data:=.fields #[vl,vu,.none] } } σ H3 x v vl vu l u s3.heap.objs.size Q I4 r1 (Heap.IsSliceOf.new ..) pl pu q3
 show wpAny (model X.prog X.w) X.A (subscriptTail e (.Slice lo hi none p2) v (.ref s3.heap.objs.size)) (EP X pins σ Q) X.xe { s3 with heap:=s3.heap.push { cls:=.type "slice",data:=.fields #[vl,vu,.none] } }
 exact tail_any (ops:=[.ref s3.heap.objs.size,v]) ht hT hg (by with_unfolding_all rfl)
def Jb(xs:List V)(lo hi:Option Int):List V:=(xs.drop (HT.sIx xs.length 0 lo)).take (HT.sIx xs.length xs.length hi-HT.sIx xs.length 0 lo)
theorem Hb(xs:List V)(lo hi:Option Int):(Jb xs lo hi).length<=xs.length:=by
 unfold Jb
 rw[cN,List.length_drop]
 omega
def UD(K:PySem.W.Frag):V->Option Int->Option Int->Hp->VK->Prop:=fun x lo hi H Q=>∃a xs,x = .ref a/\SqT K H a xs /\
 ¬(HT.sIx xs.length 0 lo=0/\HT.sIx xs.length xs.length hi=xs.length)/\∀p,H p=none->Q (.ref p) (upd H p (.tup (Jb xs lo hi)))
theorem T5:SlR X (UD X.K):=by
 intro pins s σ H x v vl vu lo hi sl Q I rx hs pl pu h
 obtain⟨a,xs,rfl,hx,hw,q⟩:=h
 cases rx
 obtain⟨its,r,ht,hz⟩:=I.tuple hx
 have hlen:its.toArray.size=xs.length:=by rw[V'];exact r.length.symm
 refine⟨"tuple",_,PyProof.Rows.slot_tuple_getitem.lookup,ht.typeIs,?_⟩
 refine HT.getItem_tuple_cut ht hs pl pu (by rw[hlen];exact hw) ?_ (by rw[hlen];exact hz)
 rw[hlen]
 refine⟨.ref s.heap.objs.size,_,I.laid (t':=s.toks) (o:=.tup (Jb xs lo hi)) (fun b ob q=>E' _ q) (J' _) ?_,rfl,q _ (I.hok.fresh (J' _))⟩
 exact⟨W' (Hb xs lo hi) hz,_,(r.drop (HT.sIx xs.length 0 lo)).take (HT.sIx xs.length xs.length hi-HT.sIx xs.length 0 lo),IsTup.new _ _⟩
def M7(K:PySem.W.Frag):R2:=fun x y H Q=>∃a b xs ys,x = .ref a/\y = .ref b/\SqT K H a xs/\SqT K H b ys/\xs≠[]/\xs.length+ys.length<=sizeLine /\
 (ys=[]->Q (.ref a) H)/\(ys≠[]->∀p,H p=none->Q (.ref p) (upd H p (.tup (xs++ys))))
theorem Vals.nil_iff{xs:List V}{us:List Value}(r:Vals xs us):us=[]↔xs=[]:=by
 cases r with
 |nil=>simp
 |cons _ _=>simp
theorem RV:OpR X (binaryOp .Add) (M7 X.K):=by
 intro pins s σ H x y v u Q I rx ry h
 obtain⟨a,b,xs,ys,rfl,rfl,ha,hb,hx,hz,q1,q2⟩:=h
 cases rx
 cases ry
 obtain⟨its,r1,p1,_⟩:=I.tuple ha
 obtain⟨its2,r2,p2,_⟩:=I.tuple hb
 refine HT.cat_tup p1 p2 (fun z=>hx (r1.nil_iff.mp z)) (fun z=>⟨.ref a,H,I,rfl,q1 (r2.nil_iff.mp z)⟩) (fun z=>?_) (by rw[<- r1.length,<- r2.length];exact hz)
 refine⟨.ref s.heap.objs.size,_,I.laid (t':=s.toks) (o:=.tup (xs++ys)) (fun b ob q=>E' _ q) (J' _) ?_,rfl,q2 (fun w=>z (r2.nil_iff.mpr w)) _ (I.hok.fresh (J' _))⟩
 exact⟨by rw[T'];exact hz,_,r1.append r2,IsTup.new _ _⟩
end
end L2
namespace L2
open PySem PySem.Spec PyProof.Rows
def ixN(n:Nat)(i:Int):Option Nat:=if 0<=i then (if i<n then some i.toNat else none) else if -(n:Int)<=i then some (i+n).toNat else none
def atI{α:Type}(xs:List α)(i:Int):Option α:=(ixN xs.length i).bind fun j=>xs[j]?
theorem NO{n:Nat}{i:Int}{j:Nat}(h:ixN n i=some j):seqIndex? i n=some j/\j<n/\-(n:Int)<=i/\i<n:=by
 unfold ixN at h
 by_cases h0:0<=i
 ·rw[if_pos h0]at h
  by_cases h1:i<n
  ·rw[if_pos h1]at h
   have e:i.toNat=j:=A' h
   exact⟨by rw[seqIndex_of h0 h1,e],by omega,by omega,h1⟩
  ·rw[if_neg h1]at h;cases h
 ·rw[if_neg h0]at h
  by_cases h1:-(n:Int)<=i
  ·rw[if_pos h1]at h
   have e:(i+n).toNat=j:=A' h
   exact⟨by rw[seqIndex_neg (by omega) h1,e],by omega,h1,by omega⟩
  ·rw[if_neg h1]at h;cases h
theorem Kx{α:Type}{xs:List α}{i:Int}{v:α}(h:atI xs i=some v):∃j,seqIndex? i xs.length=some j/\xs[j]?=some v/\j<xs.length/\-(xs.length:Int)<=i/\i<xs.length:=by
 unfold atI at h
 cases e:ixN xs.length i with
 |none=>rw[e]at h;cases h
 |some j =>
  rw[e]at h
  obtain⟨h1,h2,h3,h4⟩:=NO e
  exact⟨j,h1,h,h2,h3,h4⟩
def FI(b:Expr):Prop:=∀o i,subscripted b false o i=operate [o,i] (getItem o i)
def IxR(X:Cx)(r:R2):Prop :=
 ∀(value slice:Expr) (pins:List (Addr×Obj)) (s:Shared) (σ:St) (H:Hp) (x y:V) (v u:Value) (Q:VK),Inv X pins σ H s->RelV x v->RelV y u->r x y H Q ->
  subscripted slice false v u=operate [v,u] (getItem v u)->wpAny (model X.prog X.w) X.A (subscriptTail value slice v u) (EP X pins σ Q) X.xe s
def MtR(X:Cx)(id:String)(r:V->List V->Hp->VK->Prop):Prop :=
 ∀(pins:List (Addr×Obj)) (s:Shared) (σ:St) (H:Hp) (x:V) (xs:List V) (v:Value) (us:List Value) (Q:VK),Inv X pins σ H s->RelV x v->Vals xs us->r x xs H Q ->
  wpAny (model X.prog X.w) X.A (call (.builtin id) (v::us)) (EP X pins σ Q) X.xe s
section
variable {X:Cx} {a b:Expr} {ta tb:TE} {pos:Pos}
theorem LB{r:R2}(hr:IxR X r)(ha:PE X a ta)(hb:PE X b tb)(hs:FI b):PE X (.Subscript a b pos) (tOp r ta tb):=by
 intro pins s σ H Q I h
 exact Subscript_ (Wi ha hb I h fun v u s2 x y H2 I2 rx ry q=>hr a b pins s2 σ H2 x y v u Q I2 rx ry q (hs _ _))
def Nu(K:PySem.W.Frag):R2:=fun x y H Q=>∃p xs i v,x = .ref p/\y = .int i/\SqL K H p xs/\atI xs i=some v/\Q v H
def Q6(K:PySem.W.Frag):R2:=fun x y H Q=>∃p xs i v,x = .ref p/\y = .int i/\SqT K H p xs/\atI xs i=some v/\Q v H
def XQ:R2:=fun x y H Q=>∃z i c,x = .str z/\y = .int i/\z.length<=sizeLine/\atI z.cps.toList i=some c/\Q (.str ⟨#[c]⟩) H
theorem NN:IxR X (Nu X.K):=by
 intro value slice pins s σ H x y v u Q I rx ry h hs
 obtain⟨p,xs,i,z,rfl,rfl,hq,he,q⟩:=h
 cases rx
 obtain⟨t,rfl⟩:=ry
 obtain⟨its,r,pl,hz⟩:=I.list hq
 obtain⟨j,h1,h2,h3,h4,h5⟩:=Kx he
 obtain⟨w,ew,rw'⟩:=r.get h2
 have hl:=r.length
 have hn:=Ik
 have fin:EP X pins σ Q w s:=⟨z,H,I,rw',q⟩
 by_cases h0:0<=i
 ·have hj:i.toNat=j:=by
   rw[seqIndex_of h0 h5]at h1
   exact A' h1
  exact item_listR pl.isList h0 (by omega) (by rw[hj];simpa using ew) fin hs
 ·have hj:(i+(its.toArray.size:Int)).toNat=j:=by
   rw[seqIndex_neg (by omega) h4]at h1
   rw[V',<- hl]
   exact A' h1
  exact subscriptTail_builtinR (x:=w) pl.isList.typeIs slot_list_getitem.lookup
   (wpAny_getItem_list_neg (Q:=fun r s'=>r=w/\EP X pins σ Q r s') pl.isList (by omega) (by rw[V']<;>omega) (by omega) (by rw[hj];simpa using ew) ⟨rfl,fin⟩) hs
theorem U5:IxR X (Q6 X.K):=by
 intro value slice pins s σ H x y v u Q I rx ry h hs
 obtain⟨p,xs,i,z,rfl,rfl,hq,he,q⟩:=h
 cases rx
 obtain⟨t,rfl⟩:=ry
 obtain⟨its,r,pl,hz⟩:=I.tuple hq
 obtain⟨j,h1,h2,h3,h4,h5⟩:=Kx he
 obtain⟨w,ew,rw'⟩:=r.get h2
 have hl:=r.length
 have hn:=Ik
 have fin:EP X pins σ Q w s:=⟨z,H,I,rw',q⟩
 exact subscriptTail_builtinR (x:=w) pl.typeIs slot_tuple_getitem.lookup
  (getItem_tuple (j:=j) (Q:=fun r s'=>r=w/\EP X pins σ Q r s') pl (by omega) (by omega) (by rw[V',<- hl];exact h1) (by simpa using ew) ⟨rfl,fin⟩) hs
theorem U6:IxR X XQ:=by
 intro value slice pins s σ H x y v u Q I rx ry h hs
 obtain⟨z,i,c,rfl,rfl,hz,he,q⟩:=h
 obtain⟨t,rfl⟩:=rx
 obtain⟨t',rfl⟩:=ry
 obtain⟨j,h1,h2,h3,h4,h5⟩:=Kx he
 have hl:z.cps.toList.length=z.length:=by simp[Str.length]
 rw[hl]at h1 h4 h5
 have hn:=Ik
 exact tail_any (typeIs_str s z t) slot_str_getitem.lookup (getItem_str (c := c) (by
  have e1:decide (i < -(2 ^ 63:Int))=false:=decide_eq_false (by omega)
  have e2:decide (i≥2 ^ 63)=false:=decide_eq_false (by omega)
  rw[e1,e2,Bool.or_false]) (by rw[h1];simpa using h2) ⟨.str ⟨#[c]⟩,H,I.tok _,⟨_,rfl⟩,q⟩) hs
theorem MT(its:List Value)(n j:Nat)(u:Value):Obj.mapSeq (·.setIfInBounds j u) { cls:=.type "list",data:=.seq its.toArray n }={ cls:=.type "list",data:=.seq (its.set j u).toArray n }:=by
 simp[Obj.mapSeq]
theorem Inv.lst{pins:List (Addr×Obj)}{σ:St}{H:Hp}{s:Shared}{p:Addr}{xs:List V}(I:Inv X pins σ H s)(h:H p=some (.lst xs)) :
  ∃(its:List Value) (n:Nat),Vals xs its/\s.heap.get? p=some { cls:=.type "list",data:=.seq its.toArray n }/\xs.length<=sizeLine:=by
 obtain⟨z,its,n,r,e⟩:=I.hok p _ h
 exact⟨its,n,r,e,z⟩
theorem Inv.lstUpd{pins:List (Addr×Obj)}{σ:St}{H:Hp}{s:Shared}{p:Addr}{xs ys:List V}{its its':List Value}{n n':Nat}{f:Obj->Obj}(I:Inv X pins σ H s)(h:H p=some (.lst xs))
  (ho:s.heap.get? p=some { cls:=.type "list",data:=.seq its.toArray n }) (hf:f { cls:=.type "list",data:=.seq its.toArray n }={ cls:=.type "list",data:=.seq its'.toArray n' }) (r:Vals ys its') (hz:ys.length<=sizeLine) (t:Nat) :
  Inv X pins σ (upd H p (.lst ys)) { s with heap:=s.heap.update p f,toks:=t }:=by
 have e:(s.heap.update p f).get? p=some { cls:=.type "list",data:=.seq its'.toArray n' }:=by
  rw[bX f ho (by rw[hf]<;>rfl),hf]
 refine I.write (x:=p) (e:=p) (by rw[h];trivial) (.inl rfl) (fun b u hb q=>(ao _ _ (Ne.symm hb)).trans q) ⟨_,e⟩ ?_
 exact⟨hz,its',n',r,e⟩
def TQ:V->V->V->Hp->(Hp->Prop)->Prop:=fun o i v H Q=>∃p xs k j,o = .ref p/\i = .int k/\H p=some (.lst xs)/\ixN xs.length k=some j/\Q (upd H p (.lst (xs.set j v)))
theorem O3:Sw X TQ:=by
 intro pins s σ H o i v ov iv u Q I ro ri rv h
 obtain⟨p,xs,k,j,rfl,rfl,hp,hj,q⟩:=h
 cases ro
 obtain⟨t,rfl⟩:=ri
 obtain⟨its,n,r,ho,hz⟩:=I.lst hp
 obtain⟨h1,h2,h3,h4⟩:=NO hj
 have hl:=r.length
 have hn:=Ik
 have I':Inv X pins σ (upd H p (.lst (xs.set j v))) { s with heap:=s.heap.update p (Obj.mapSeq (·.setIfInBounds j u)) } :=
  I.lstUpd hp ho (MT its n j u) (r.set rv j) (by rw[aU];exact hz) s.toks
 by_cases h0:0<=k
 ·have hk:k.toNat=j:=by
   rw[seqIndex_of h0 h4]at h1
   exact A' h1
  exact PySem.W.ki_setAt ho h0 (by omega) (by rw[V',<- hl];exact h4) (by rw[hk];exact⟨_,I',q⟩)
 ·have hk:(k+(its.toArray.size:Int)).toNat=j:=by
   rw[seqIndex_neg (by omega) h3]at h1
   rw[V',<- hl]
   exact A' h1
  exact PySem.W.ki_setBack ho (by omega) (by rw[V',<- hl];exact h3) (by omega) (by rw[hk];exact⟨_,I',q⟩)
theorem J8(lo hi:Option Int)(n:Nat):(sliceBounds lo hi none n).1=((HT.sIx n 0 lo:Nat):Int)/\(sliceBounds lo hi none n).2.1=((HT.sIx n n hi:Nat):Int)/\(sliceBounds lo hi none n).2.2=1:=by
 refine⟨?_,?_,rfl⟩
 ·cases lo with
  |none=>simp[sliceBounds,HT.sIx]
  |some i =>
   simp only[sliceBounds,HT.sIx,Option.getD_none,show(1:Int)>0 by decide,if_true]
   by_cases h:i<0
   ·simp only[h,if_true]<;>omega
   ·simp only[h,if_false]<;>omega
 ·cases hi with
  |none=>simp[sliceBounds,HT.sIx]
  |some i =>
   simp only[sliceBounds,HT.sIx,Option.getD_none,show(1:Int)>0 by decide,if_true]
   by_cases h:i<0
   ·simp only[h,if_true]<;>omega
   ·simp only[h,if_false]<;>omega
theorem JO(its:List Value)(lo hi:Option Int):slicePick its.toArray lo hi none=((its.drop (HT.sIx its.length 0 lo)).take (HT.sIx its.length its.length hi-HT.sIx its.length 0 lo)).toArray:=by
 obtain⟨h1,h2,h3⟩:=J8 lo hi its.toArray.size
 unfold slicePick
 rw[h1,h2,h3]
 simp only[sliceRange_one,pick_run,List.size_toArray]<;>rfl
def UE(K:PySem.W.Frag):V->Option Int->Option Int->Hp->VK->Prop:=fun x lo hi H Q=>∃a xs,x = .ref a/\SqL K H a xs/\∀p,H p=none->Q (.ref p) (upd H p (.lst (Jb xs lo hi)))
theorem Qz:SlR X (UE X.K):=by
 intro pins s σ H x v vl vu lo hi sl Q I rx hs pl pu h
 obtain⟨a,xs,rfl,hx,q⟩:=h
 cases rx
 obtain⟨its,r,ht,hz⟩:=I.list hx
 have hlen:=r.length
 refine⟨"list",_,slot_list_getitem.lookup,ht.isList.typeIs,?_⟩
 refine wpAny_getItem_list_slice ht.isList hs pl pu .none (by simp) ?_ (by rw[V']<;>omega)
 rw[JO,<- hlen]
 refine⟨.ref s.heap.objs.size,_,I.laid (t':=s.toks) (o:=.lst (Jb xs lo hi)) (fun b ob q=>E' _ q) (J' _) ?_,rfl,q _ (I.hok.fresh (J' _))⟩
 exact⟨W' (Hb xs lo hi) hz,_,0,(r.drop (HT.sIx xs.length 0 lo)).take (HT.sIx xs.length xs.length hi-HT.sIx xs.length 0 lo),R' _ rfl⟩
theorem Kt:B8 X (.type "list") (fun xs H Q=>∃p ys,xs=[.ref p]/\(SqL X.K H p ys\/SqT X.K H p ys)/\∀l,H l=none->Q (.ref l) (upd H l (.lst ys))):=by
 intro pins s σ H xs us Q I r h
 obtain⟨p,ys,rfl,hq,q⟩:=h
 obtain⟨u,rfl,rx⟩:=DH r
 cases rx
 have fin:∀(its:List Value),Vals ys its->ys.length<=sizeLine->∀(h':Heap) (c':Nat),(∀b o',s.heap.get? b=some o'->h'.get? b=some o') ->
   h'.get? s.heap.objs.size=some { cls:=.type "list",dict:=none,data:=.seq its.toArray c',slots:=#[] }->EP X pins σ Q (.ref s.heap.objs.size) { s with heap:=h' }:=fun its r' hz h' c' kp e =>
  ⟨.ref s.heap.objs.size,_,I.laid (t':=s.toks) kp (J' _) (show ObjOk X.prog X.w _ h' _ (.lst ys) from⟨hz,its,c',r',e⟩),rfl,q _ (I.hok.fresh (J' _))⟩
 rcases hq with hq|hq
 ·obtain⟨its,r',pl,hz⟩:=I.list hq
  have hlen:=r'.length
  obtain⟨o,ho,hc,n,hd⟩:=pl.isList
  exact call_list_seq p (.inl rfl) ho hc hd (fun h' c' kp e=>fin its r' hz h' c' kp e) (by simp only[List.size_toArray]<;>omega)
 ·obtain⟨its,r',pl,hz⟩:=I.tuple hq
  have hlen:=r'.length
  obtain⟨o,ho,hc,n,hd⟩:=pl
  exact call_list_seq p (.inr rfl) ho hc hd (fun h' c' kp e=>fin its r' hz h' c' kp e) (by simp only[List.size_toArray]<;>omega)
theorem Jc:B8 X (.type "tuple") (fun xs H Q=>∃p ys,xs=[.ref p]/\((SqL X.K H p ys/\∀l,H l=none->Q (.ref l) (upd H l (.tup ys)))\/(SqT X.K H p ys/\Q (.ref p) H))):=by
 intro pins s σ H xs us Q I r h
 obtain⟨p,ys,rfl,h⟩:=h
 obtain⟨u,rfl,rx⟩:=DH r
 cases rx
 rcases h with ⟨hq,q⟩|⟨hq,q⟩
 ·obtain⟨its,r',pl,hz⟩:=I.list hq
  have hlen:=r'.length
  refine call_tuple_list pl.isList (fun h' kp=>?_) (by simp only[List.size_toArray]<;>omega)
  have I1:Inv X pins σ H { s with heap:=h' }:=I.kept (t':=s.toks) kp
  have I2:Inv X pins σ (upd H h'.objs.size (.tup ys)) { s with heap:=h'.push { cls:=.type "tuple",data:=.seq its.toArray } } :=
   I1.laid (t':=s.toks) (fun b o e=>E' _ e) (J' _) (show ObjOk X.prog X.w _ _ _ (.tup ys) from⟨hz,its,r',IsTup.new _ _⟩)
  exact⟨.ref h'.objs.size,_,I2,rfl,q _ (I1.hok.fresh (J' _))⟩
 ·obtain⟨its,r',pl,hz⟩:=I.tuple hq
  exact call_tuple_same pl ⟨.ref p,H,I,rfl,q⟩
def tyV(K:PySem.W.Frag)(T:String)(x:V)(H:Hp):Prop:=match x with
 |.str _=>T="str"
 |.int _=>T="int"
 |.ref p=>(T="list"/\∃xs,SqL K H p xs)\/(T="tuple"/\∃o,K.lookup p=some o/\o.cls = .type "tuple"/\o.dict=none) \/
   (T="dict"/\((∃kvs,H p=some (.dK kvs))\/∃kvs,H p=some (.dT kvs)))\/(T="set"/\∃S n,H p=some (.set S n))
 |_=>False
theorem Of{pins:List (Addr×Obj)}{σ:St}{H:Hp}{s:Shared}{T:String}{x:V}{v:Value}(I:Inv X pins σ H s)(r:RelV x v)(ty:tyV X.K T x H) :
  s.TypeIs v T/\∀a,v = .ref a->∃ob,s.heap.get? a=some ob/\ob.dict=none:=by
 cases x with
 |str z =>
  obtain⟨t,rfl⟩:=r
  cases (show T="str" from ty)
  exact⟨typeIs_str s z t,fun _ e=>nomatch e⟩
 |int i =>
  obtain⟨t,rfl⟩:=r
  cases (show T="int" from ty)
  exact⟨typeIs_int s i t,fun _ e=>nomatch e⟩
 |ref p =>
  cases r
  rcases ty with ⟨rfl,xs,hq⟩|⟨rfl,o,hk,hc,hd⟩|⟨rfl,hk⟩|⟨rfl,S,n,hk⟩
  ·obtain⟨its,_,pl,_⟩:=I.list hq
   refine⟨pl.isList.typeIs,fun a e=>?_⟩
   cases e
   obtain⟨o,n,e,c,hd,_⟩:=pl
   exact⟨o,e,hd⟩
  ·refine⟨⟨o,I.kIn p o hk,hc⟩,fun a e=>?_⟩
   cases e
   exact⟨o,I.kIn _ o hk,hd⟩
  ·have z:∃o,s.heap.get? p=some o/\o.ExactDict:=by
    rcases hk with ⟨kvs,hk⟩|⟨kvs,hk⟩
    ·obtain⟨_,_,_,_,o,_,_,e,ex,_⟩:=I.hok p _ hk
     exact⟨o,e,ex⟩
    ·obtain⟨_,_,_,_,o,_,_,e,ex,_⟩:=I.hok p _ hk
     exact⟨o,e,ex⟩
   obtain⟨o,e,ex⟩:=z
   refine⟨⟨o,e,ex.1⟩,fun a e2=>?_⟩
   cases e2
   exact⟨o,e,ex.2.1⟩
  ·obtain⟨o,_,_,_,e,ex,_⟩:=I.hok p _ hk
   refine⟨⟨o,e,ex.1⟩,fun a e2=>?_⟩
   cases e2
   exact⟨o,e,ex.2.1⟩
 |_=>exact False.elim ty
def T4(K:PySem.W.Frag)(T:String)(r:V->List V->Hp->VK->Prop)(to:TE):TE:=fun σ H Q=>to σ H fun x H1=>tyV K T x H1/\r x [] H1 Q
def tBM(K:PySem.W.Frag)(T:String)(r:V->List V->Hp->VK->Prop)(to:TE)(t:TA):TE:=fun σ H Q=>to σ H fun x H1=>tyV K T x H1/\t σ H1 fun xs H2=>r x xs H2 Q
variable {o e:Expr} {es:List Expr} {to:TE} {t:TA} {name:Str} {apos cpos:Pos} {T id:String} {r:V->List V->Hp->VK->Prop}
theorem Ub(pa:PlainAttrs T)(slot:Slot T name id)(hty:typeOf (.builtin id)=pure (.type "method_descriptor"))(hm:MtR X id r)(ho:PE X o to)
  (hbase:attributeBase o name X.env (eval o X.env)=eval o X.env:=by rfl) (hline:(apos.endLine==cpos.line)=true:=by rfl):PE X (.Call (.Attribute o name apos) [] [] cpos) (T4 X.K T r to):=by
 intro pins s σ H Q I h
 refine wpAny_Call_method0_late hbase hline (thn (ho pins s σ H _ I h) fun v s1 ⟨x,H1,I1,r1,ty,q1⟩=>?_)
 obtain⟨h1,h2⟩:=Of I1 r1 ty
 exact⟨T,id,pa,slot,hty,h1,h2,Calls.callWith_builtin rfl (PySem.evalArgs_none (hm pins s1 σ H1 x [] v [] Q I1 r1 .nil q1))⟩
theorem LF(pa:PlainAttrs T)(slot:Slot T name id)(hty:typeOf (.builtin id)=pure (.type "method_descriptor"))(hm:MtR X id r)(ho:PE X o to)(ha:PA X (e::es) t)
  (hbase:attributeBase o name X.env (eval o X.env)=eval o X.env:=by rfl)
  (hfew : ((backTo cpos (starEach (e :: es) X.env)).all (fun x => !x.1) && (backToKw cpos (keywordEach [] X.env)).all (fun x => x.1.isSome)
   && decide ((e::es).length+([]:List Keyword).length+(if ([]:List Keyword).isEmpty then 0 else 1)<30))=true:=by rfl)
  (hline:(apos.endLine==cpos.line)=true:=by rfl) (hs:starEach (e::es) X.env=(false,eval e X.env)::starEach es X.env:=by rfl) (hplain:(backTo cpos (starEach es X.env)).any (·.1)=false:=by rfl) :
  PE X (.Call (.Attribute o name apos) (e::es) [] cpos) (tBM X.K T r to t):=by
 intro pins s σ H Q I h
 refine wpAny_Call_method_late hbase hfew hline rfl (thn (ho pins s σ H _ I h) fun v s1 ⟨x,H1,I1,r1,ty,q1⟩=>?_)
 obtain⟨h1,h2⟩:=Of I1 r1 ty
 refine⟨T,id,pa,slot,hty,h1,h2,?_⟩
 have hA:=ha cpos pins s1 σ H1 _ I1 q1
 rw[hs]at hA ⊢
 refine Calls.callWith_builtin (by show(false||(backTo cpos (starEach es X.env)).any (·.1))=false;rw[hplain]<;>rfl) (Calls.evalArgs_plain ?_)
 exact thn hA fun us s2 ⟨vs,H2,I2,r2,q2⟩=>hm pins s2 σ H2 x vs v us Q I2 r1 r2 q2
end
end L2
namespace L2
open PySem PySem.Spec PyProof.Rows
def MtM(X:Cx)(id:String)(r:V->List V->Hp->VK->Prop):Prop :=
 ∀(pins:List (Addr×Obj)) (s:Shared) (σ:St) (H:Hp) (x:V) (xs:List V) (v:Value) (us:List Value) (Q:VK),Inv X pins σ H s->RelV x v->Vals xs us->r x xs H Q ->
  wpAny (model X.prog X.w) X.A (call (.builtin id) (v::us)) (EP X pins σ Q) X.xe s
theorem Vals.one:∀{x:V} {us:List Value},Vals [x] us->∃u,us=[u]/\RelV x u
 |_,_,.cons r .nil=>⟨_,rfl,r⟩
theorem Vals.zero:∀{us:List Value},Vals [] us->us=[]
 |_,.nil=>rfl
theorem Vals.reverse{xs:List V}{us:List Value}(h:Vals xs us):Vals xs.reverse us.reverse:=by
 induction h with
 |nil=>exact .nil
 |cons r t ih=>rw[bj,bj];exact Vals.append ih (.cons r .nil)
section
variable {X:Cx} {pins:List (Addr×Obj)} {σ:St} {H:Hp} {s:Shared} {l b:Addr} {xs ys zs:List V}
theorem Inv.lset{its its':List Value}{n:Nat}{f:Array Value->Array Value}{t':Nat}(I:Inv X pins σ H s)(hH:H l=some (.lst xs))
  (e:s.heap.get? l=some { cls:=.type "list",data:=.seq its.toArray n }) (hf:f its.toArray=its'.toArray) (hv:Vals ys its') (hz:ys.length<=sizeLine) :
  Inv X pins σ (upd H l (.lst ys)) { s with heap:=s.heap.update l (Obj.mapSeq f),toks:=t' }:=by
 have q:=PySem.IsL.update e f
 rw[hf]at q
 refine I.write (x:=l) (e:=l) (by rw[hH];exact trivial) (.inl rfl) (fun b' u hb hu=>(ao s.heap (Obj.mapSeq f) (Ne.symm hb)).trans hu) ⟨_,q⟩ ?_
 exact⟨hz,its',_,hv,q⟩
theorem Inv.lnew{its:List Value}{t':Nat}(I:Inv X pins σ H s)(hv:Vals ys its)(hz:ys.length<=sizeLine) :
  Inv X pins σ (upd H s.heap.objs.size (.lst ys)) { s with heap:=s.heap.push { cls:=.type "list",data:=.seq its.toArray },toks:=t' } :=
 I.laid (fun _ _ q=>E' _ q) (J' _) ⟨hz,its,0,hv,R' _ rfl⟩
theorem Inv.fresh(I:Inv X pins σ H s):H s.heap.objs.size=none:=I.hok.fresh (J' _)
theorem Inv.lstM(I:Inv X pins σ H s)(hH:H l=some (.lst xs)):xs.length<=sizeLine/\∃(its:List Value) (n:Nat),Vals xs its/\xs.length=its.length/\s.heap.get? l=some { cls:=.type "list",data:=.seq its.toArray n }:=by
 obtain⟨z,its,n,r,e⟩:=I.hok l _ hH
 exact⟨z,its,n,r,r.length,e⟩
theorem Py{n:Nat}(h:n<=sizeLine):Builtin.List.listTooLong n=false:=by
 unfold Builtin.List.listTooLong
 exact decide_eq_false (by omega)
end
section
variable {X:Cx}
def M8:V->List V->Hp->VK->Prop:=fun x vs H Q=>∃l xs y,x = .ref l/\vs=[y]/\H l=some (.lst xs)/\xs.length<sizeLine/\Q .non (upd H l (.lst (xs++[y])))
theorem Js:MtM X "list.append" M8:=by
 intro pins s σ H x vs v us Q I rx rv h
 obtain⟨l,xs,y,rfl,rfl,hH,hz,q⟩:=h
 cases rx
 obtain⟨u,rfl,ru⟩:=rv.one
 obtain⟨z,its,n,r,hl,e⟩:=I.lstM hH
 refine call_meets F.slot_list_append ⟨_,e,rfl⟩ F.entry_list_append (F.args_list_append_2 _ _) (PySem.list_append l its.toArray n u (by rw[V'];omega)) ⟨e,?_⟩
 refine⟨.non,_,I.lset (its':=its++[u]) hH e (by simp) (r.append (.cons ru .nil)) ?_,rfl,q⟩
 rw[T',bu]
 omega
def M6:V->List V->Hp->VK->Prop:=fun x vs H Q=>∃l b xs zs,x = .ref l/\vs=[.ref b]/\H l=some (.lst xs)/\H b=some (.lst zs)/\xs.length+zs.length<=sizeLine/\Q .non (upd H l (.lst (xs++zs)))
theorem N7:MtM X "list.extend" M6:=by
 intro pins s σ H x vs v us Q I rx rv h
 obtain⟨l,b,xs,zs,rfl,rfl,hH,hB,hz,q⟩:=h
 cases rx
 obtain⟨u,rfl,ru⟩:=rv.one
 cases ru
 obtain⟨z,its,n,r,hl,e⟩:=I.lstM hH
 obtain⟨z2,its2,n2,r2,hl2,e2⟩:=I.lstM hB
 have hsz:its.toArray.size+its2.toArray.size<=sizeLine:=by rw[V',V'];omega
 have hlong:¬(!its.toArray.isEmpty&&Builtin.List.listTooLong (its.toArray.size+its2.toArray.size))=true:=by
  rw[Py hsz,Bool.and_false]
  exact aP
 refine call_meets F.slot_list_extend ⟨_,e,rfl⟩ F.entry_list_extend (F.args_list_extend_2 _ _)
  (AutoSeq1.list_extend_list_list_0 l its.toArray n b its2.toArray n2 hlong (by rw[V'];omega) (by omega)) ⟨e,e2,?_⟩
 refine⟨.non,_,I.lset (its':=its++its2) hH e (by simp) (r.append r2) ?_,rfl,q⟩
 rw[T']
 omega
def K9:V->List V->Hp->VK->Prop:=fun x vs H Q=>∃l xs,x = .ref l/\vs=[]/\H l=some (.lst xs)/\Q .non (upd H l (.lst xs.reverse))
theorem MS:MtM X "list.reverse" K9:=by
 intro pins s σ H x vs v us Q I rx rv h
 obtain⟨l,xs,rfl,rfl,hH,q⟩:=h
 cases rx
 have hus:=rv.zero
 subst hus
 obtain⟨z,its,n,r,hl,e⟩:=I.lstM hH
 refine call_meets F.slot_list_reverse ⟨_,e,rfl⟩ F.entry_list_reverse (F.args_list_reverse_1 _) (AutoSeq1.list_reverse_list_0 l its.toArray n (by rw[V'];omega)) ⟨e,?_⟩
 refine⟨.non,_,I.lset (its':=its.reverse) hH e (by simp) r.reverse ?_,rfl,q⟩
 rw[cF]
 omega
def XS:R2:=fun x y H Q=>∃l b xs zs,x = .ref l/\y = .ref b/\H l=some (.lst xs)/\H b=some (.lst zs)/\xs.length+zs.length<=sizeLine/\∀p,H p=none->Q (.ref p) (upd H p (.lst (xs++zs)))
theorem Um:OpR X (binaryOp .Add) XS:=by
 intro pins s σ H x y v u Q I rx ry h
 obtain⟨l,b,xs,zs,rfl,rfl,hH,hB,hz,q⟩:=h
 cases rx
 cases ry
 obtain⟨z,its,n,r,hl,e⟩:=I.lstM hH
 obtain⟨z2,its2,n2,r2,hl2,e2⟩:=I.lstM hB
 refine PySem.P.add_list e e2 ?_ (by rw[V',V'];omega)
 have ea:its.toArray++its2.toArray=(its++its2).toArray:=by simp
 rw[ea]
 exact⟨.ref _,_,I.lnew (t':=s.toks) (r.append r2) (by rw[T'];omega),rfl,q _ I.fresh⟩
end
section
variable {prog:Program} {w:World} {A:Around} {E:Value->Shared->Prop} {s:Shared}
end
section
variable {X:Cx}
end
end L2
namespace Att
open PySem PySem.W PySem.Calls PyProof.Rows
theorem Hj{P:Params}{h:Heap}:∀(ns:List Int) (vs:List Value),WellAll P h vs (ns.map WData.int)->IntsAre vs ns:=by
 intro ns
 induction ns with
 |nil =>
  intro vs w
  rw[List.map_nil]at w
  cases w
  exact .nil
 |cons n ns ih =>
  intro vs w
  rw[X']at w
  cases w with
  |cons a b =>
   cases a
   exact .cons _ _ (ih _ b)
theorem Nq{l:OpenLaw}{n:Nat}(hn:l.most=some n){P:Params}{h:Heap}{args:List WData}{vals:List Value}
  (hpre:l.row.toRowW.claim.pre args=true) (hwl:WellAll P h vals args) :
  ∃a vs ns,vals=[Value.ref a]/\args=[WData.list (ns.map WData.int)]/\h.get? a=some { cls:=.type "list",data:=.seq vs.toArray }/\IntsAre vs ns/\ns.length<=n:=by
 have hsh:WShape.hasAll [] args [.list .int]=true:=(pre_splitW hpre).1
 have hc:l.pre.holds [] { args:=args }=true:=(pre_splitW hpre).2
 obtain⟨d,r,rfl,h1,h2⟩:=hasAllW_cons hsh
 obtain rfl:=hasAllW_nil h2
 obtain⟨xs,rfl,h3⟩:=hasW_list h1
 obtain⟨ns,rfl⟩:=items_int h3
 have hlen:ns.length<=n:=by
  unfold OpenLaw.pre at hc
  have h4:(WTm.not (.lt (.lit (.int (n:Int))) (.len (.arg 0)))).holds [] { args:=[.list (ns.map .int)] }=true:=by
   have h4:=(holds_andW hc).1
   rw[hn]at h4
   exact h4
  have h5:=condW_of h4 (w_not (w_lt w_lit (w_len_list (w_arg rfl))))
  rw[B']at h5
  refine Nat.le_of_not_lt fun q=>?_
  have q':(n:Int)<((ns.length:Nat):Int):=by omega
  first
   |(rw[decide_eq_true q']at h5;exact absurd h5 (by decide))
   |(simp at h5;omega)
 cases hwl with
 |cons w1 w2 =>
  cases w2
  cases w1 with
  |list ho hall=>exact⟨_,_,ns,rfl,rfl,ho,Hj ns _ hall,hlen⟩
theorem Nv(l:OpenLaw)(args:List WData):l.row.toRowW.claim.post args (.bool true) args=true :=
 postW_of (r:=l.row.toRowW) (X:=(true==true))
  (show WShape.has [] (.bool true) .bool=true by first|rfl|decide|simp[WShape.has,WShape.arms,WShape.armsAll])
  (show(WTm.eq .res (.lit (.bool true))).value [] { args:=args,res:=some (.bool true),after:=args }=some (.bool (true==true)) from w_eq_bool (w_res rfl) w_lit) rfl
theorem attach_call{l:OpenLaw}{n:Nat}{q:Program}{loose:List Str}{XP:(Str->Option Value)->Heap->Prop}{YP:World->Heap->Prop}{d:DefRec}
  (hn:l.most=some n) (hdf:d.params.defaults=[])
  (call : ∀ (w : World) (s₀ s₁ : Shared) (mg mb : Str -> Option Value) (fa : Addr) (o : Obj) (pm cd doc : Value) (a : Addr) (vs : List Value) (ns : List Int),
   Ground q loose [] XP w s₀ mg mb s₁.heap->YP w s₁.heap ->
   s₁.heap.get? fa=some o->o.data = .func (docDef d.name d.params d.body d.scope pm cd doc)->s₁.heap.CodeRec cd d.name->mg d.name=some (.ref fa) ->
   s₁.heap.get? a=some { cls:=.type "list",data:=.seq vs.toArray }->IntsAre vs ns->ns.length<=n->s₁.gens=#[] ->
   codeAny (model l.prog w) callerA (.call (.ref fa) ⟨[.ref a],[]⟩) (fun r s'=>r = .ok (.ret (.bool true))/\OldK s₁.heap s'.heap/\s'.os=s₁.os/\AllBare s'.gens) s₁) :
  WalkO q loose XP YP l.row.toRowW d [] (fun f vs=>PySem.call f vs):=by
 intro w s₀ s₁ mg mb G Y fa o pm cd doc dV kV ho hd hcd hD hmg hg args vals as hpre hlay hrd hwl hlo
 obtain rfl:dV = .none:=Dflts.none hD hdf
 obtain rfl:kV = .none:=Dflts.noKw hD
 obtain⟨a,vs,ns,rfl,rfl,hobj,hints,hlen⟩:=Nq hn hpre hwl
 refine enter_call (codeAny_mono (call w s₀ s₁ mg mb fa o pm cd doc a vs ns G Y ho (fd_plain hd) hcd hmg hobj hints hlen hg) fun r s' hq=>?_)
 obtain⟨rfl,h2,h3,h4⟩:=hq
 exact⟨.inl ⟨.bool true,.bool true,[],rfl,fun _=>rfl,.bool true,Nv l _,fun _=>⟨List.Pairwise.nil,fun _ hm=>(nomatch hm)⟩⟩,h2,h3,h4⟩
section
variable {prog:Program} {w:World} {A:Around} {E:Value->Shared->Prop} {s:Shared} {K:Frag}
end
end Att
namespace L2
open PySem PySem.Spec PyProof.Rows
theorem Je:∀{vs:List Value} {ns:List Int},IntsAre vs ns->Vals (ns.map V.int) vs
 |_,_,.nil=>.nil
 |_,_,.cons n t h=>.cons ⟨t,rfl⟩ (Je h)
def Wt(H:Hp):Prop:=∀b,H b=none\/∃o xs,H b=some (.frz o (.lst xs))
theorem P8{P:Program}{w:World}{K:PySem.W.Frag}{mg mb:Str->Option Value}{CX:CXT}{k:Nat}{fa a:Addr}{fd:FuncData}{x:Str}{sp:Sp}{s₁:Shared}{vs:List Value}{ns:List Int}
  (KX:K.In s₁.heap) (hns:s₁.heap.Ns mainGlobals mg) (hb:s₁.heap.Ns builtinsNs mb) (hbb:∀x:Str,x≠"__name__"->mb x=bootBuiltins x) (hlim:s₁.heap.NoLimit) (hg:s₁.gens=#[])
  (ha:s₁.heap.get? a=some { cls:=.type "list",data:=.seq vs.toArray }) (hi:IntsAre vs ns) (hl:ns.length<=sizeLine) (hr:Room k callerA)
  (F:∀base:Heap,K.In base->base.Ns mainGlobals mg->FnOk P w K mg base CX k fa fd [x] sp) (hbind:∀(s:Shared) (u:Value),BindsTo s fd ⟨[u],[]⟩ [(x,u)])
  (hsp:∀H:Hp,Wt H->SqL K H a (ns.map V.int)->sp [.ref a] H (fun v _=>v = .bl true) fun _ _ _=>False)
  (hCX:∀H e s',CX [] H s₁ (fun _ _ _=>False) e s'->False) :
  codeAny (model P w) callerA (.call (.ref fa) ⟨[.ref a],[]⟩) (fun r s'=>r = .ok (.ret (.bool true))/\OldK s₁.heap s'.heap/\s'.os=s₁.os/\AllBare s'.gens) s₁:=by
 have rv:=Je hi
 have lenV:=hi.length
 -- from an abstract heap in which nothing but the script may be tracked
 have core:∀H:Hp,Wt H->SqL K H a (ns.map V.int)->HOk P w H s₁.heap->(∀b,H b≠none->b=a)->(H a≠none->K.lookup a=none) ->
   codeAny (model P w) callerA (.call (.ref fa) ⟨[.ref a],[]⟩) (fun r s'=>r = .ok (.ret (.bool true))/\OldK s₁.heap s'.heap/\s'.os=s₁.os/\AllBare s'.gens) s₁:=by
  intro H hO hS hok hA hK
  have base_of:∀{b:Addr} {o:Obj},s₁.heap.get? b=some o->H b=none->(Kl s₁.heap H).get? b=some o:=fun e n=>QE e n
  have noA:∀{b:Addr} {o:Obj} {es:Array DictEntry} {ep:Nat},s₁.heap.get? b=some o->o.data = .dict es ep->H b=none:=fun {b o es ep} e d=>by
   cases q:H b with
   |none=>rfl
   |some u =>
    have e':b=a:=hA b (by rw[q];simp)
    subst e'
    rw[ha]at e;cases e
    have d':Data.seq vs.toArray _=Data.dict es ep:=d
    cases d'
  have nsK:∀{b:Addr} {m:Str->Option Value},s₁.heap.Ns b m->(Kl s₁.heap H).Ns b m:=fun {b m} ⟨o,es,ep,e,d,r⟩=>⟨o,es,ep,base_of e (noA e d),d,r⟩
  have hKb : K.In (Kl s₁.heap H) := fun b o e => base_of (KX b o e) (by
   cases q:H b with
   |none=>rfl
   |some u =>
    have e':b=a:=hA b (by rw[q];simp)
    subst e'
    rw[hK (by rw[q];simp)]at e;cases e)
  have hM:Mod K mg (Kl s₁.heap H):=⟨hKb,nsK hns,⟨mb,nsK hb,hbb⟩,let ⟨mc,h1,h2⟩:=hlim;⟨mc,nsK h1,h2⟩⟩
  have e0:Sy P w K mg (Kl s₁.heap H) callerA [] s₁ H:=⟨rfl,hM,fun b o e=>Rb e,Nat.le_of_eq (OI _ _),trivial,fun b hb=>absurd (show b∈([]:List Addr) from hb) (by simp),hok,.of_eq hg⟩
  refine codeAny_mono ((F _ hKb (nsK hns)).run callerA [] s₁ H ⟨[.ref a],[]⟩ [.ref a] [.ref a] _ _ hr e0 (hbind s₁ (.ref a)) (.cons rfl .nil) (hsp H hO hS)) fun r s' h=>?_
  cases r with
  |error e=>exact(hCX H e s' h).elim
  |ok fl =>
   cases fl with
   |next=>exact False.elim h
   |brk=>exact False.elim h
   |cont=>exact False.elim h
   |ret u =>
    obtain⟨v,H',os,bare,un,hok',r',q⟩:=h
    have q':v = .bl true:=q
    subst q'
    obtain rfl:u=Value.bool true:=r'
    refine⟨rfl,OldK.of_keep fun b o e=>?_,os,bare⟩
    cases q:H b with
    |none=>exact un.keep b o e q (by intro z;exact absurd (show b∈([]:List Addr) from z) (by simp)) (by simp)
    |some u =>
     rcases hO b with z|⟨ob,xs,z⟩
     ·rw[q]at z;cases z
     ·have z2:=un.frzs b ob _ z
      obtain⟨e1,_⟩:=hok b _ z
      obtain⟨e2,_⟩:=hok' b _ z2
      rw[e]at e1;cases e1
      exact e2
 cases hk:K.lookup a with
 |some o =>
  -- the script is one of the module's own objects
  have e:=KX a o hk
  rw[ha]at e
  cases e
  refine core (fun _=>none) (fun _=>.inl rfl) (.inr ⟨_,vs.toArray,_,hk,rfl,rfl,rfl,by rw[V',lenV];exact hl,by simpa using rv⟩) (fun b u z=>by have z':(none:Option HO)=some u:=z;cases z') (fun b z=>absurd rfl z) fun z=>absurd rfl z
 |none =>
  refine core (fun b=>if b=a then some (.frz { cls:=.type "list",data:=.seq vs.toArray } (.lst (ns.map V.int))) else none) (fun b=>?_) (.inl (.inr ⟨{ cls:=.type "list",data:=.seq vs.toArray },if_pos rfl⟩)) (fun b u z=>?_) (fun b z=>?_) fun _=>hk
  ·by_cases hb:b=a
   ·exact .inr ⟨_,_,if_pos hb⟩
   ·exact .inl (if_neg hb)
  ·by_cases hb:b=a
   ·have z':=(if_pos hb).symm.trans z
    cases z'
    subst hb
    exact⟨ha,by rw[B'];exact hl,vs,_,rv,ha⟩
   ·have z':=(if_neg hb).symm.trans z
    cases z'
  ·by_cases hb:b=a
   ·exact hb
   ·exact absurd (if_neg hb) z
end L2
namespace L2
open PySem PySem.Spec PyProof.Rows
theorem walk_of{l:PySem.W.OpenLaw}{n k:Nat}{q:Program}{loose:List Str}{XP:(Str->Option Value)->Heap->Prop}{YP:World->Heap->Prop}{d:DefRec}{K:Params->PySem.W.Frag}{CX:World->CXT}{sp:World->Sp}{x:Str}
  (hn:l.most=some n) (hn2:n<=sizeLine) (hdf:d.params.defaults=[]) (hr:Room k callerA)
  (hY:∀(w:World) (h:Heap),YP w h->(K w.params).In h)
  (F : ∀ (w : World) (mg : Str -> Option Value) (fa : Addr) (h : Heap), (K w.params).In h -> h.Ns mainGlobals mg -> mg d.name = some (.ref fa) ->
   ∃fd:FuncData,(∀(s:Shared) (u:Value),BindsTo s fd ⟨[u],[]⟩ [(x,u)]) /\
    ∀base:Heap,(K w.params).In base->base.Ns mainGlobals mg->FnOk l.prog w (K w.params) mg base (CX w) k fa fd [x] (sp w))
  (hsp:∀(w:World) (H:Hp) (a:Addr) (ns:List Int),ns.length<=n->Wt H->SqL (K w.params) H a (ns.map V.int)->sp w [.ref a] H (fun v _=>v = .bl true) fun _ _ _=>False)
  (hCX:∀(w:World) (H:Hp) (s:Shared) (e:Value) (s':Shared),CX w [] H s (fun _ _ _=>False) e s'->False) :
  PySem.W.WalkO q loose XP YP l.row.toRowW d [] (fun f vs=>PySem.call f vs):=by
 refine Att.attach_call hn hdf fun w s₀ s₁ mg mb fa o pm cd doc a vs ns G Y ho hd hcd hmg hobj hints hlen hg=>?_
 have KX:=hY w _ Y
 obtain⟨fd,hb,hF⟩:=F w mg fa _ KX G.T.g hmg
 exact P8 KX G.T.g G.T.b G.T.builtins G.T.nolimit hg hobj hints (W' hlen hn2) hr hF hb (fun H hO hS=>hsp w H a ns hlen hO hS) fun H e s'=>hCX w H s₁ e s'
end L2
namespace L2
open PySem PySem.Spec PyProof.Rows
def Cq(s:Stmt):Arguments:=match s with
 |.FunctionDef _ a _ _ _ _ _ _ _ _=>a
 |_=>{ posonlyargs:=[],args:=[],vararg:=none,kwonlyargs:=[],kw_defaults:=[],kwarg:=none,defaults:=[] }
def Bh(s:Stmt):List Stmt:=match s with
 |.FunctionDef _ _ b _ _ _ _ _ _ _=>b
 |_=>[]
def Ak(s:Stmt):Scope:=match s with
 |.FunctionDef _ _ _ _ _ _ sc _ _ _=>sc
 |_=>{ kind:=.function,names:=[],isGenerator:=false,isCoroutine:=false }
abbrev CX0:CXT:=fun _ _ _ _ _ _=>False
abbrev E0:XK:=fun _ _ _=>False
theorem Pm{X:Cx}:HE CX0 X E0:=fun _ _ _ _ _ _ _ h=>h.elim
structure Fun(K:PySem.W.Frag)(x qual:Str)(st:Stmt)(f:Addr)(fd:FuncData):Prop where
 ex:∃(oc:Value) (od:Option Addr) (kV doc pm:Value) (an:Option Addr) (cdv ct:Value) (osl:Array (Option Value)),
  fd=PySem.W.fnOf x qual (Cq st) (Bh st) (Ak st) .none kV doc pm an cdv ct/\K.lookup f=some ⟨oc,od,.func fd,osl⟩/\PySem.W.codeIn K cdv qual=true
 kp:PySem.W.keepIn K (.ref f)=true
section
variable {P:Program} {w:World} {K:PySem.W.Frag} {mg:Str->Option Value} {base:Heap}
theorem Fun.ok{x qual:Str}{st:Stmt}{f:Addr}{fd:FuncData}{N ps:List Str}{k:Nat}{sp:Sp}(F:Fun K x qual st f fd)(S:FJ N ps (Ak st))(len:∀vs H Q E,sp vs H Q E->vs.length=ps.length)
  (hbody : ∀ (cdv : Value) (A : Around) (outer : List Env) (s : Shared) (H : Hp) (vs : List V) (Q : VK) (E : XK), Room k (A.deeper (envOfC qual (Ak st) s.heap.objs.size f cdv)) -> sp vs H Q E ->
   ∃t,PSs (JF CX0 P w K mg base N qual (Ak st) f cdv A outer s H E).nox (Bh st) t/\t { nx:=fun _ H'=>Q .non H',rt:=Q } (start N vs) H):FnOk P w K mg base CX0 (k+1) f fd ps sp:=by
 obtain⟨oc,od,kV,doc,pm,an,cdv,ct,osl,rfl,lk,hcd⟩:=F.ex
 refine Td lk hcd S len fun A outer s H vs Q E hr hsp=>?_
 obtain⟨t,h,q⟩:=hbody cdv A outer s H vs Q E hr hsp
 exact⟨t,h.nox,q⟩
theorem Fun.binds{x qual:Str}{st:Stmt}{f:Addr}{fd:FuncData}{ps:List Str}(F:Fun K x qual st f fd)
  (h:∀(kV doc pm:Value) (an:Option Addr) (cdv ct:Value) (us:List Value),us.length=ps.length->bindArgs (PySem.W.fnOf x qual (Cq st) (Bh st) (Ak st) .none kV doc pm an cdv ct) ⟨us,[]⟩=pure (ps.zip us)):Binds K fd ps []:=by
 obtain⟨oc,od,kV,doc,pm,an,cdv,ct,osl,rfl,lk,hcd⟩:=F.ex
 exact .all (h kV doc pm an cdv ct)
theorem VJ{x qual:Str}{st:Stmt}{f:Addr}{oc:Value}{od an:Option Addr}{osl:Array (Option Value)}{kV doc pm cdv ct:Value}(l:K.lookup f=some ⟨oc,od,.func (PySem.W.fnOf x qual (Cq st) (Bh st) (Ak st) .none kV doc pm an cdv ct),osl⟩)
  (c:PySem.W.codeIn K cdv qual=true) (k:PySem.W.keepIn K (.ref f)=true):Fun K x qual st f (PySem.W.fnOf x qual (Cq st) (Bh st) (Ak st) .none kV doc pm an cdv ct):=⟨⟨oc,od,kV,doc,pm,an,cdv,ct,osl,rfl,l,c⟩,k⟩
end
section
variable {X:Cx}
end
def Same(H H':Hp):Prop:=∀b o,H b=some o->H' b=some o
theorem Same.trans{H H1 H2:Hp}(a:Same H H1)(b:Same H1 H2):Same H H2:=fun c o h=>b c o (a c o h)
theorem Same.seq{K:PySem.W.Frag}{H H':Hp}{a:Addr}{xs:List V}(e:Same H H')(h:SqL K H a xs):SqL K H' a xs:=by
 rcases h with (h|⟨o,h⟩)|h
 ·exact .inl (.inl (e _ _ h))
 ·exact .inl (.inr ⟨o,e _ _ h⟩)
 ·exact .inr h
def Bd(n:Nat)(x:Int):Prop:=x.natAbs<2 ^ n
theorem Bd.mono{m n:Nat}{x:Int}(h:Bd m x)(k:m<=n):Bd n x:=aN h (Nat.pow_le_pow_right (by decide) k)
theorem Bd.bits{n:Nat}{x:Int}(h:Bd n x):Builtin.Int.intBits x<=n+1:=by
 unfold Builtin.Int.intBits
 split
 ·exact bH _
 ·have:x.natAbs.log2<=n:=by
   rcases Nat.eq_zero_or_pos x.natAbs with h0|hp
   ·rw[h0];simp
   ·exact cG ((Nat.log2_lt (bT hp)).mpr h)
  omega
theorem Bd.log{n:Nat}{x:Int}(h:Bd n x):x.natAbs.log2<=n:=by
 rcases Nat.eq_zero_or_pos x.natAbs with h0|hp
 ·rw[h0];simp
 ·exact cG ((Nat.log2_lt (bT hp)).mpr h)
theorem Bd.of{n:Nat}{x m:Int}(h1:-m<=x)(h2:x<=m)(hm:m.natAbs<2 ^ n):Bd n x:=by
 unfold Bd
 omega
section
variable {X:Cx}
def CMulB(i j:Int):Prop:=CMul i j\/(Bd 8000 i/\Bd 8000 j)
theorem CMulB.ok{i j:Int}(h:CMulB i j):IntMulOk i j:=by
 rcases h with h|⟨h,k⟩
 ·exact h.ok
 ·have a:=h.bits
  have b:=k.bits
  have e:(2:Nat) ^ 20=1048576:=by decide
  exact IntMulOk.of_bits (by omega) (by omega)
theorem RS:OpR X (binaryOp .Mult) (rI CMulB fun i j=>.int (i*j)):=opI fun _ _ _ _ _ _ _ hc q=>mul_int q hc.ok
def L0(i j:Int):Prop:=0<j/\Bd 8000 j
theorem Po:OpR X (binaryOp .FloorDiv) (rI L0 fun i j=>.int (i / j)):=opI fun i j _ _ _ _ _ hc q=>by
 have:=hc.2.log
 rw[<- Int.fdiv_eq_ediv_of_nonneg _ (Int.le_of_lt hc.1)]at q
 exact floordiv_int (by have:=hc.1;omega) q (.inl (PyProof.noPylong_of_log2 (by omega)))
def Ts(i j:Int):Prop:=j≠0/\Bd 8000 j
end
mutual
def Is(H:Hp):PyData->V->Prop
 |.none,v=>v = .non
 |.bool b,v=>v = .bl b
 |.int i,v=>v = .int i
 |.str x,v=>v = .str x
 |.tuple ds,v=>∃a vs,v = .ref a/\H a=some (.tup vs)/\IsL H ds vs
 |.list ds,v=>∃a vs,v = .ref a/\H a=some (.lst vs)/\IsL H ds vs
 |.dict _,_=>False
def IsL(H:Hp):List PyData->List V->Prop
 |[],vs=>vs=[]
 |d::ds,vs=>∃x xs,vs=x::xs/\Is H d x/\IsL H ds xs
end
mutual
def Cb:PyData->Bool
 |.none=>true
 |.bool _=>true
 |.int _=>true
 |.str _=>true
 |.tuple ds=>fixDs ds
 |.list _=>false
 |.dict _=>false
def fixDs:List PyData->Bool
 |[]=>true
 |d::ds=>Cb d&&fixDs ds
end
section
variable {X:Cx} {pins:List (Addr×Obj)} {σ:St} {H:Hp} {s:Shared}
end
def okD(d:PyData):Bool:=SeqAt.shaped d
section
variable {X:Cx}
theorem HH{es:List PyData}(h:okD (.list es)=true):PyData.canLayAll0 es=true/\PyData.depthAll es<=63:=by
 unfold okD SeqAt.shaped at h
 rw[K']at h
 obtain⟨h1,h2⟩:=h
 have h3:=of_decide_eq_true h2
 simp only[PyData.depth]at h3
 exact⟨by simpa only[PyData.canLay0] using h1,by omega⟩
theorem EK{d:PyData}(h:okD d=true):d.canLay0=true:=by
 unfold okD SeqAt.shaped at h
 rw[K']at h
 exact h.1
end
structure Cal(P:Program)(w:World)(K:PySem.W.Frag)(mg:Str->Option Value)(base:Heap)(k:Nat)(x:Str)(ps:List Str)(sp:Sp):Prop where
 ex:∃f fd,FnOk P w K mg base CX0 k f fd ps sp/\Binds K fd ps []/\PySem.W.keepIn K (.ref f)=true/\mg x=some (.ref f)
theorem Cal.mono{P:Program}{w:World}{K:PySem.W.Frag}{mg:Str->Option Value}{base:Heap}{j k:Nat}{x:Str}{ps:List Str}{sp:Sp}(C:Cal P w K mg base j x ps sp)(h:j<=k):Cal P w K mg base k x ps sp:=by
 obtain⟨f,fd,F,b,kp,m⟩:=C.ex
 exact⟨f,fd,F.mono h,b,kp,m⟩
theorem Cal.of{P:Program}{w:World}{K:PySem.W.Frag}{mg:Str->Option Value}{base:Heap}{k:Nat}{x:Str}{ps:List Str}{sp:Sp}{f:Addr}{fd:FuncData}{st:Stmt}(F:Fun K x x st f fd)(ok:FnOk P w K mg base CX0 k f fd ps sp)(b:Binds K fd ps [])(m:mg x=some (.ref f)):Cal P w K mg base k x ps sp:=⟨f,fd,ok,b,F.kp,m⟩
section
variable {X:Cx} {k:Nat} {ps:List Str} {sp:Sp} {x:Str} {p pos:Pos} {e:Expr} {es:List Expr} {t:TA}
theorem Pk(C:Cal X.prog X.w X.K X.mg X.base k x ps sp)(hr:Room k X.A)(hg:Gl X x)(ha:PA X (e::es) t)(hdb:(x==("__debug__":Str))=false:=by decide)
  (he:starEach (e::es) X.env=(false,eval e X.env)::starEach es X.env:=by rfl) (hpl:(backTo pos (starEach es X.env)).any (·.1)=false:=by rfl) :
  PE X (.Call (.Name x p) (e::es) [] pos) (F6 sp [] E0 t):=by
 obtain⟨f,fd,F,b,kp,m⟩:=C.ex
 exact RM F hr hg m kp b .nil Pm ha hdb he hpl
end
theorem XX{X:Cx}{x:Str}{T:String}{pos:Pos}(hg:Gl X x)(hm:X.mg x=none)(hv:bootBuiltins x=some (.type T))(hn:x≠"__name__")(hd:(x==("__debug__":Str))=false):PE X (.Name x pos) (tC (.ty T)):=RN hg hm hv rfl hn hd
theorem Ay{H:Hp}{p:Addr}(h:H p=none)(o:HO):Same H (upd H p o):=fun b u q=>by rw[An (Ai q h)];exact q
theorem P9{K:PySem.W.Frag}(T:String):PySem.W.kitOne K (.type T) (.type T)=some true:=by
 unfold PySem.W.kitOne
 rw[if_pos (beq_self_eq_true _)]
theorem Uy{K:PySem.W.Frag}{t T:String}{b:Bool}(h1:(Value.type t==Value.type T)=false)(h2:PySem.W.kitMeta T=true)(h3:(PySem.fastBuiltinMro t).map (·.contains (Value.type T))=some b):PySem.W.kitOne K (.type t) (.type T)=some b:=by
 unfold PySem.W.kitOne PySem.W.kitCls
 rw[h1,if_neg aP]
 simp only[h2,if_true]
 exact h3
theorem Kr{env:Env}:∀(names:List (Str×NameKind)) (cs:List (Str×Addr)),(∀x,(x,NameKind.free)∈names->∃c,env.cells.lookup x=some c) ->
  (∀x c,cs.lookup x=some c->env.cells.lookup x=some c) ->
  ∃ cl, (forIn names cs fun (x : Str × NameKind) (r : List (Str × Addr)) => match x with
   |(name,kind)=>if (kind==NameKind.free)=true then do let c <- cellOf env name;pure (ForInStep.yield ((name,c)::r)) else pure (ForInStep.yield r):Sem (List (Str×Addr)))=pure cl /\
   (∀x c,cl.lookup x=some c->env.cells.lookup x=some c)/\(∀x,(x,NameKind.free)∈names->∃c,cl.lookup x=some c)/\(∀x c,cs.lookup x=some c->∃c',cl.lookup x=some c')
 |[],cs,_,h2=>⟨cs,rfl,h2,fun x hx=>by simp at hx,fun x c e=>⟨c,e⟩⟩
 |(n,k)::r,cs,h1,h2=>by
  by_cases hk:k = .free
  ·subst hk
   obtain⟨c,hc⟩:=h1 n L'
   have hh:∀x c',((n,c)::cs).lookup x=some c'->env.cells.lookup x=some c':=by
    intro x c' e
    rw[bI]at e
    cases q:x==n with
    |true=>rw[q]at e;cases e;rw[eq_of_beq q];exact hc
    |false=>rw[q]at e;exact h2 x c' e
   obtain⟨cl,e,a,b,d⟩:=Kr (env:=env) r ((n,c)::cs) (fun x hx=>h1 x (O' _ hx)) hh
   refine⟨cl,?_,a,fun x hx=>?_,fun x c' e'=>?_⟩
   ·rw[cV]
    have ec:cellOf env n=pure c:=by
     unfold cellOf
     rw[hc]
    simp only[beq_self_eq_true,if_true]
    rw[ec]
    exact e
   ·rcases Z'.mp hx with z|z
    ·cases z
     exact d n c (by rw[bI,beq_self_eq_true])
    ·exact b x z
   ·cases q:x==n with
    |true=>exact d x c (by rw[bI,q])
    |false=>exact d x c' (by rw[bI,q];exact e')
  ·obtain⟨cl,e,a,b,d⟩:=Kr (env:=env) r cs (fun x hx=>h1 x (O' _ hx)) h2
   refine⟨cl,?_,a,fun x hx=>?_,d⟩
   ·rw[cV]
    have hb:(k==NameKind.free)=false:=by simpa using hk
    simp only[hb,Bool.false_eq_true,if_false]
    exact e
   ·rcases Z'.mp hx with z|z
    ·cases z;exact absurd rfl hk
    ·exact b x z
theorem Nc{env:Env}{scope:Scope}(h:∀x,(x,NameKind.free)∈scope.names->∃c,env.cells.lookup x=some c) :
  ∃cl,closureFor scope env=pure cl/\(∀x c,cl.lookup x=some c->env.cells.lookup x=some c)/\(∀x,(x,NameKind.free)∈scope.names->∃c,cl.lookup x=some c):=by
 obtain⟨cl,e,a,b,_⟩:=Kr (env:=env) scope.names [] h (fun x c e=>by simp at e)
 refine⟨cl,?_,a,b⟩
 exact(congrArg (fun m:Sem (List (Str×Addr))=>m >>= fun r=>(pure r:Sem (List (Str×Addr)))) e).trans rfl
theorem OQ{prog:Program}{w:World}{A:Around}{R:Result->Shared->Prop}{s:Shared}{elt target iter:Expr}{ifs:List Expr}{scope:Scope}{pos:Pos}{it acc:Value}{env:Env}(I:Nat->Shared->Prop)
  (turn : ∀ n s, I n s -> wpAny (model prog w) A (pyNext it) (fun r s₁ => match r with
   |none=>R (.ok .next) s₁
   | some v => wpAny (model prog w) A (letOwnedTupleGo target it v) (fun _ s₁ => wpAny (model prog w) A (assign target env v) (fun _ s₂ =>
     wpAny (model prog w) A (forIn ifs true fun c r => if r = true then do let ok <- isTrue c env (eval c env); pure (ForInStep.yield ok) else pure (ForInStep.yield r)) (fun ok s₃ =>
      if ok = true then wpAny (model prog w) A (eval elt env) (fun x s₄ =>
       wpAny (model prog w) A (call (.builtin "list.append") [acc,x]) (fun _ s₅=>∃m,m<n/\I m s₅) (fun _ _=>False) s₄) (fun _ _=>False) s₃
      else ∃m,m<n/\I m s₃) (fun _ _=>False) s₂) (fun _ _=>False) s₁) (fun _ _=>False) s₁) (fun _ _=>False) s)
  (n:Nat) (h:I n s) :
  codeAny (model prog w) A (.compLoop (.ListComp elt [⟨target,iter,ifs,0⟩] scope pos) 0 it acc env) R s:=by
 refine codeAny_loop rfl I (fun n s hI=>?_) n h
 show wpAny _ A ((compTurn (.ListComp elt [⟨target,iter,ifs,0⟩] scope pos) 0 it acc env).onRaise (fun x=>do noteFrame x env;theTreesLotGoes x)) _ _ s
 refine wpAny_noted ?_
 rw[compTurn_list]
 refine wpAny_bind (wpAny_standAt (wpAny_bind (wpAny_mono (turn n s hI) (fun r s₁ h₁=>?_) fun _ _ h'=>h'.elim)))
 cases r with
 |none=>exact wpAny_pure h₁
 |some v =>
  refine wpAny_bind (wpAny_mono h₁ (fun _ s₁ h₁=>?_) fun _ _ h'=>h'.elim)
  refine wpAny_bind (wpAny_mono h₁ (fun _ s₂ h₂=>wpAny_bind (wpAny_mono h₂ (fun ok s₃ h₃=>?_) fun _ _ h'=>h'.elim)) fun _ _ h'=>h'.elim)
  cases ok with
  |false=>exact wpAny_pure ⟨rfl,h₃⟩
  |true =>
   exact wpAny_bind (wpAny_bind (wpAny_mono h₃ (fun x s₄ h₄=>wpAny_bind (wpAny_mono h₄ (fun _ s₅ h₅=>wpAny_pure (wpAny_pure ⟨rfl,h₅⟩)) fun _ _ h'=>h'.elim)) fun _ _ h'=>h'.elim))
theorem FY{env:Env}:∀{names:List (Str×NameKind)} {x:Str} {k:NameKind},names.lookup x=some k ->
  (names.map fun(n,k)=>if (k==NameKind.free&&env.scope.kind==.function&&env.kindOf n==some .cell) then (n,NameKind.cell) else (n,k)).lookup x=some k \/
  (k = .free/\(names.map fun(n,k)=>if (k==NameKind.free&&env.scope.kind==.function&&env.kindOf n==some .cell) then (n,NameKind.cell) else (n,k)).lookup x=some .cell)
 |[],_,_,h=>by simp at h
 |(n,k')::r,x,k,h=>by
  rw[X']
  dsimp only
  cases hx:x==n with
  |true =>
   simp only[List.lookup_cons,hx]at h
   have e:k=k':=(A' h).symm
   subst e
   by_cases hc:(k==NameKind.free&&env.scope.kind==.function&&env.kindOf n==some .cell)=true
   ·rw[if_pos hc]
    refine .inr ⟨?_,by simp only[List.lookup_cons,hx]⟩
    simp only[Bool.and_eq_true]at hc
    exact eq_of_beq hc.1.1
   ·rw[if_neg hc]
    exact .inl (by simp only[List.lookup_cons,hx])
  |false =>
   simp only[List.lookup_cons,hx]at h
   have ih:=@FY env r x k h
   by_cases hc:(k'==NameKind.free&&env.scope.kind==.function&&env.kindOf n==some .cell)=true
   ·rw[if_pos hc];simp only[List.lookup_cons,hx];exact ih
   ·rw[if_neg hc];simp only[List.lookup_cons,hx];exact ih
theorem EM{env:Env}:∀{names:List (Str×NameKind)} {x:Str} {k:NameKind},(∀y∈names,y.2≠.cell) ->
  (names.map fun(n,k)=>if (k==NameKind.free&&env.scope.kind==.function&&env.kindOf n==some .cell) then (n,NameKind.cell) else (n,k)).lookup x=some k->(k = .cell\/k = .free)->(x,NameKind.free)∈names
 |[],_,_,_,h,_=>by simp at h
 |(n,k')::r,x,k,nc,h,hk=>by
  rw[X']at h
  dsimp only at h
  cases hx:x==n with
  |true =>
   have e:=eq_of_beq hx
   subst e
   by_cases hc:(k'==NameKind.free&&env.scope.kind==.function&&env.kindOf x==some .cell)=true
   ·simp only[Bool.and_eq_true]at hc
    rw[eq_of_beq hc.1.1]
    exact L'
   ·rw[if_neg hc,bI,hx]at h
    cases h
    rcases hk with rfl|rfl
    ·exact absurd rfl (nc _ L')
    ·exact L'
  |false =>
   refine O' _ (EM (env:=env) (fun y hy=>nc y (O' _ hy)) ?_ hk)
   by_cases hc:(k'==NameKind.free&&env.scope.kind==.function&&env.kindOf n==some .cell)=true
   ·rw[if_pos hc,bI,hx]at h;exact h
   ·rw[if_neg hc,bI,hx]at h;exact h
theorem GO{scope:Scope}{env:Env}{x:Str}(h:scope.names.lookup x=some .local):(relabel scope env).names.lookup x=some .local:=lookup_relabel_local h
theorem Q3{scope:Scope}{env:Env}{x:Str}(h:scope.names.lookup x=some .globalImplicit):(relabel scope env).names.lookup x=some .globalImplicit:=by
 rcases FY (env:=env) h with z|⟨z,_⟩
 ·exact z
 ·cases z
theorem KC{scope:Scope}{env:Env}{x:Str}(h:scope.names.lookup x=some .free):(relabel scope env).names.lookup x=some .cell\/(relabel scope env).names.lookup x=some .free:=by
 rcases FY (env:=env) h with z|⟨_,z⟩
 ·exact .inr z
 ·exact .inl z
theorem Nm{scope:Scope}{env:Env}{x:Str}(h:scope.names.lookup x=some .local):Vis (relabel scope env) x:=.inl (GO h)
theorem Oc{scope:Scope}{env:Env}{x:Str}(h:scope.names.lookup x=some .free):Vis (relabel scope env) x:=(KC h).elim (fun z=>.inr (.inl z)) fun z=>.inr (.inr z)
theorem OA{scope:Scope}{env:Env}{x:Str}(h:scope.names.lookup x=some .local):Loc (relabel scope env) x:=.inl (GO h)
def blk(own:Nat)(fr:List Nat)(σ:St):St:=List.replicate own none++fr.map fun j=>(σ[j]?).join
def cxC(X:Cx)(N':List Str)(scope:Scope)(cl:List (Str×Addr))(fp:List Addr)(s3:Shared)(H3:Hp):Cx:={ X with
 N:=N',s₀:=s3,H₀:=H3,env:=compEnvC scope cl s3.heap.objs.size X.env,outer:=X.stack,stack:=X.stack,ex:=fp,fn:=fun _=>false,pn:=[],xe:=fun _ _=>False }
structure OY(X:Cx)(N':List Str)(own:Nat)(fr:List Nat)(scope:Scope):Prop where
 kind:scope.kind = .function
 len:N'.length=own+fr.length
 cell:∀y∈scope.names,y.2≠.cell
 names:∀y∈scope.names,y.2 = .local->scope.names.lookup y.1=some .local
 free:∀x,(x,NameKind.free)∈scope.names->X.env.scope.names.lookup x=some .cell\/X.env.scope.names.lookup x=some .free
 slot:∀k j,fr[k]?=some j->∃x,N'[own+k]?=some x/\X.N[j]?=some x/\scope.names.lookup x=some .free
theorem Sn{own:Nat}{fr:List Nat}{σ:St}{i:Nat}{v:V}(h:(blk own fr σ)[i]?=some (some v)):∃k j,i=own+k/\fr[k]?=some j/\σ[j]?=some (some v):=by
 unfold blk at h
 by_cases hi:i<own
 ·rw[aS (by simpa using hi),aj,if_pos hi]at h
  cases h
 ·rw[aV (by simpa using hi),bB,G']at h
  cases e:fr[i-own]? with
  |none=>rw[e]at h;cases h
  |some j =>
   rw[e]at h
   simp only[Option.map_some,Option.some.injEq]at h
   refine⟨i-own,j,by omega,e,?_⟩
   cases q:σ[j]? with
   |none=>rw[q]at h;cases h
   |some o=>rw[q]at h;cases o with
    |none=>cases h
    |some u=>cases h;rfl
section
variable {X:Cx} {N':List Str} {own:Nat} {fr:List Nat} {scope:Scope}
theorem Rq{pins:List (Addr×Obj)}{σ:St}{H3:Hp}{s3:Shared}{cl:List (Str×Addr)}{fp:List Addr}{h4:Heap}{tk:Nat}(ok:OY X N' own fr scope)(I:Inv X pins σ H3 s3)(f2:∀b∈fp,FC X pins H3 b)(flt:∀b∈fp,b<s3.heap.objs.size)
  (cl1:∀x c,cl.lookup x=some c->X.env.cells.lookup x=some c) (cl2:∀x,(x,NameKind.free)∈scope.names->∃c,cl.lookup x=some c)
  (m4:Str->Option Value) (n4:h4.Ns s3.heap.objs.size m4) (k4:∀b o,s3.heap.get? b=some o->h4.get? b=some o) :
  Inv (cxC X N' scope cl fp s3 H3) [] (blk own fr σ) H3 { s3 with heap:=h4,toks:=tk }:=by
 have stk:∀b,b∈frs X.stack->b∈X.env.locals::X.fs:=I.stkSub
 have exfs:∀b∈fp,b∉frs X.stack:=fun b hb z=>by
  rcases Z'.mp (stk b z)with e|e
  ·exact(f2 b hb).2.1 e
  ·exact(f2 b hb).2.2.1 e
 have okk:(cxC X N' scope cl fp s3 H3).Ok:=by
  refine ⟨I.ok.mod, ok.kind, I.ok.glob, I.ok.blt, J' _, fun x y c e1 e2 => I.ok.inj x y c (cl1 x c e1) (cl1 y c e2), fun x hx => ?_, fun x c hf => ?_, I.ok.hd, I.ok.frames, .inl rfl, fun b hb => ⟨ai (flt b hb), fun x c e => (f2 b hb).2.2.2.2.1 x c (cl1 x c e)⟩,
   I.bs,W' I.ok.bsz I.sz,fun b o e hb=>?_,exfs,I.stack,I.stkFree⟩
  ·refine cl2 x ?_
   have hx:(relabel scope X.env).names.lookup x=some .cell\/(relabel scope X.env).names.lookup x=some .free:=hx
   rcases hx with hx|hx
   ·exact EM (env:=X.env) ok.cell hx (.inl rfl)
   ·exact EM (env:=X.env) ok.cell hx (.inr rfl)
  ·exact absurd (show false=true from hf) aP
  ·rcases(f2 b hb).2.2.2.1 with z|z
   ·exact I.ok.noex b o e z
   ·exact absurd (aN (P' e) (W' I.ok.bsz z)) (ax _)
 refine⟨okk,rfl,I.bare,Un.kept k4,⟨m4,n4,fun i x v e1 e2 e3=>?_⟩,fun x c e=>?_,I.hok.fresh (J' _),fun x c e=>I.freeC x c (cl1 x c e),fun p hp=>absurd (show p∈([]:List (Addr×Obj)) from hp) (by simp),I.hok.kept k4,?_⟩
 ·obtain⟨k,j,rfl,ej,es⟩:=Sn e2
  obtain⟨y,y1,y2,y0⟩:=ok.slot k j ej
  have y3:=bA y0
  rw[show(cxC X N' scope cl fp s3 H3).N=N' from rfl,y1]at e1
  cases e1
  obtain⟨m,hn,hl⟩:=I.loc
  have vis:Vis X.env.scope x:=(ok.free x y3).elim (fun z=>.inr (.inl z)) fun z=>.inr (.inr z)
  obtain⟨u,r,l⟩:=hl j x v y2 es vis
  refine⟨u,r,?_⟩
  rcases l with ⟨l,_⟩|⟨_,c,ec,z⟩
  ·exfalso
   have l':X.env.scope.names.lookup x=some .local:=l
   rcases ok.free x y3 with q|q
   ·rw[q]at l';cases l'
   ·rw[q]at l';cases l'
  ·obtain⟨c',ec'⟩:=cl2 x y3
   have:=cl1 x c' ec'
   rw[ec]at this
   cases this
   obtain⟨o,ho,hd⟩:=z
   refine .inr ⟨?_,c,ec',⟨o,k4 c o ho,hd⟩⟩
   rcases e3 with z|z|z
   ·exfalso
    have z':(relabel scope X.env).names.lookup x=some .local:=z
    rcases KC (env:=X.env) y0 with q|q
    ·rw[z']at q;cases q
    ·rw[z']at q;cases q
   ·exact .inl z
   ·exact .inr z
 ·obtain⟨v,o,ho,hd⟩:=I.cell x c (cl1 x c e)
  exact⟨v,o,k4 c o ho,hd⟩
 ·show(blk own fr σ).length=N'.length
  unfold blk
  rw[T',bB,B',ok.len]
end
def PTs(X:Cx)(ifs:List Expr)(tc:TT):Prop :=
 ∀(pins:List (Addr×Obj)) (s:Shared) (σ:St) (H:Hp) (Q:Bool->Hp->Prop),Inv X pins σ H s->tc σ H Q->wpAny (model X.prog X.w) X.A (forIn ifs true fun c r=>if r=true then do let ok <- isTrue c X.env (eval c X.env);pure (ForInStep.yield ok) else pure (ForInStep.yield r)) (TP X pins σ Q) X.xe s
def W8:TT:=fun _ H Q=>Q true H
theorem RC{X:Cx}:PTs X [] W8:=fun pins s σ H Q I h=>wpAny_tests_nil ⟨H,I,h⟩
theorem RB{X:Cx}{c:Expr}{tc:TT}(h:PT X c tc):PTs X [c] tc:=fun pins s σ H Q I hq=>wpAny_tests_one (h pins s σ H Q I hq)
def X4(own:Nat)(fr:List Nat)(g:TG)(tc:TT)(te:TE)(J:It)(σ:St)(H1:Hp)(Q:VK):Prop:=∀D,H1 D=none->∃W:Nat->Nat->List V->St->Hp->Prop,(∃m,W 0 m [] (blk own fr σ) (upd H1 D (.lst [])))/\∀i m ys σ' H',W i m ys σ' H' ->
 (J.stop i H' /\ Q (.ref D) H') \/ (J.go i H' /\ ∀ x H2, J.yld i H' x H2 -> g x σ' H2 fun σ3 H3 => tc σ3 H3 fun b H4 => if b = true then te σ3 H4 fun y H5 => H5 D = some (.lst ys) /\ ys.length < sizeLine /\ ∃ m', m' < m /\ W (i + 1) m' (ys ++ [y]) σ3 (upd H5 D (.lst (ys ++ [y])))
  else ∃m',m'<m/\W (i+1) m' ys σ3 H4)
def tLC(own:Nat)(fr:List Nat)(wi:TI)(g:TG)(tc:TT)(te:TE):TE:=fun σ H Q=>wi σ H fun J H1=>X4 own fr g tc te J σ H1 Q
structure Own(X:Cx)(pins:List (Addr×Obj))(C:Addr)(H:Hp)(s:Shared):Prop where
 ns:∃m,s.heap.Ns C m
 hn:H C=none
 ne:C≠X.env.locals
 ab:X.s₀.heap.objs.size<=C
 nc:∀x c,X.env.cells.lookup x=some c->c≠C
 np:∀p∈X.pn++pins,p.1≠C
structure Tr(G:Cx->Prop)(P:Program)(w:World)(K:PySem.W.Frag)(tg:Expr)(J:It)(fp:List Addr)(it:Addr)(tn:Nat->Heap->Prop):Prop where
 obj:∀i h,tn i h->∀b∈fp,∃o,h.get? b=some o/\∀v,o.data≠.cell v
 keep:∀i h h',tn i h->(∀b∈fp,∀o,h.get? b=some o->h'.get? b=some o)->tn i h'
 item:∀(X:Cx),X.prog=P->X.w=w->X.K=K->G X->∀(i:Nat) (pins:List (Addr×Obj)) (s:Shared) (σ:St) (H:Hp) (E:Value->Shared->Prop),Inv X pins σ H s->(∀b∈fp,FC X pins H b)->tn i s.heap->J.go i H ->
  wpAny (model P w) X.A (pyNext (.ref it)) (fun r s1 => ∃ u, r = some u /\
   wpAny (model P w) X.A (letOwnedTupleGo tg (.ref it) u) (fun _ s2=>∃x H',Inv X pins σ H' s2/\RelV x u/\J.yld i H x H'/\tn (i+1) s2.heap/\∀b∈fp,H' b=none) E s1) E s
 done:∀(X:Cx),X.prog=P->X.w=w->X.K=K->G X->∀(i:Nat) (pins:List (Addr×Obj)) (s:Shared) (σ:St) (H:Hp) (E:Value->Shared->Prop),Inv X pins σ H s->(∀b∈fp,FC X pins H b)->tn i s.heap->J.stop i H ->
  wpAny (model P w) X.A (pyNext (.ref it)) (fun r s1=>r=none/\Inv X pins σ H s1) E s
 self:∀(A:Around) (i:Nat) (s:Shared) (Q:Value->Shared->Prop) (E:Value->Shared->Prop),tn i s.heap->Q (.ref it) s->wpAny (model P w) A (pyIter (.ref it)) Q E s
theorem Turn.g{P:Program}{w:World}{K:PySem.W.Frag}{tg:Expr}{J:It}{fp:List Addr}{it:Addr}{tn:Nat->Heap->Prop}(T:Turn P w K tg J fp it tn):Tr (fun X=>X.calm=true) P w K tg J fp it tn:=⟨T.obj,T.keep,T.item,T.done,T.self⟩
section
variable {X:Cx} {N':List Str} {own:Nat} {fr:List Nat} {scope:Scope} {elt tg iter:Expr} {ifs:List Expr} {pos:Pos}
theorem Own.go{pins:List (Addr×Obj)}{σ:St}{H:Hp}{s:Shared}{C:Addr}{h':Heap}(O:Own X pins C H s)(I:Inv X pins σ H s)(sb:Heap.SameBut C s.heap h'):Inv X pins σ H { s with heap:=h' } :=
 I.turned (t':=s.toks) (fun b o hb e=>sb.extBut b o hb e) O.hn O.ne (.inr O.ab) O.nc O.np
theorem Lw{G:Cx->Prop}{pins:List (Addr×Obj)}{σ:St}{H2:Hp}{s2:Shared}{J:It}{fp:List Addr}{it:Addr}{tn:Nat->Heap->Prop}{cl:List (Str×Addr)}{Q:VK}{g:TG}{tc:TT}{te:TE}{RR:Value->Addr->Result->Shared->Prop}{E:Value->Shared->Prop}
  (hc:∀s3 H3,Inv X pins σ H3 s3->G (cxC X N' scope cl fp s3 H3)) (ok:OY X N' own fr scope) (I2:Inv X pins σ H2 s2) (T:Tr G X.prog X.w X.K tg J fp it tn) (st2:tn 0 s2.heap) (f2:∀b∈fp,FC X pins H2 b)
  (cl1:∀x c,cl.lookup x=some c->X.env.cells.lookup x=some c) (cl2:∀x,(x,NameKind.free)∈scope.names->∃c,cl.lookup x=some c)
  (hg:∀fp s3 H3,PG (cxC X N' scope cl fp s3 H3) tg g) (ht:∀fp s3 H3,PTs (cxC X N' scope cl fp s3 H3) ifs tc) (he:∀fp s3 H3,PE (cxC X N' scope cl fp s3 H3) elt te)
  (h:X4 own fr g tc te J σ H2 Q)
  (fin:∀D C s' H',Inv X pins σ H' s'->Own X pins C H' s'->Q (.ref D) H'->RR (.ref D) C (.ok .next) s') :
  wpAny (model X.prog X.w) X.A (newList []) (fun acc s₃ => wpAny (model X.prog X.w) X.A (newFunctionEnv scope X.env.globals cl [] X.env.qual none .none (some X.env)) (fun cenv s₄ =>
   codeAny (model X.prog X.w) X.A (.compStart (.ListComp elt [⟨tg,iter,ifs,0⟩] scope pos) 0 (.ref it) acc { cenv with scope:=relabel scope X.env }) (RR acc cenv.locals) s₄) E s₃) E s2:=by
 obtain⟨W,⟨m0,w0⟩,turn⟩:=h s2.heap.objs.size (I2.hok.fresh (J' _))
 refine wpAny_newObj_type (wpAny_newFunctionEnv ok.cell (by intro y hy;simp at hy) (fun h₁ hns₁ hsb₁=>?_) ok.kind)
 dsimp only at hns₁ hsb₁ ⊢
 have I3:Inv X pins σ (upd H2 s2.heap.objs.size (.lst [])) { s2 with heap:=s2.heap.push { cls:=.type "list",dict:=none,data:=.seq ([]:List Value).toArray } } :=
  I2.laid (t':=s2.toks) (fun b u e=>E' _ e) (J' _) ⟨bH _,[],0,.nil,R' _ rfl⟩
 generalize hH3:upd H2 s2.heap.objs.size (.lst [])=H3 at w0 I3
 generalize hS3:({ s2 with heap:=s2.heap.push { cls:=.type "list",dict:=none,data:=.seq ([]:List Value).toArray } }:Shared)=S3 at I3
 have e3:s2.heap.push { cls:=.type "list",dict:=none,data:=.seq ([]:List Value).toArray }=S3.heap:=by rw[<- hS3]
 have k23:∀b o,s2.heap.get? b=some o->S3.heap.get? b=some o:=fun b o e=>by rw[<- e3];exact E' _ e
 rw[e3]at hns₁ hsb₁ ⊢
 have st3:tn 0 S3.heap:=T.keep _ _ _ st2 fun b _ o e=>k23 b o e
 have flt:∀b∈fp,b<S3.heap.objs.size:=fun b hb=>by
  obtain⟨o,e,_⟩:=T.obj _ _ st3 b hb
  exact P' e
 have flt2:∀b∈fp,b<s2.heap.objs.size:=fun b hb=>by
  obtain⟨o,e,_⟩:=T.obj _ _ st2 b hb
  exact P' e
 have f3:∀b∈fp,FC X pins H3 b:=fun b hb=>by
  refine⟨?_,(f2 b hb).2⟩
  rw[<- hH3,An (ai (flt2 b hb))]
  exact(f2 b hb).1
 have k34:∀b o,S3.heap.get? b=some o->h₁.get? b=some o:=fun b o e=>hsb₁.extBut b o (ai (P' e)) (E' _ e)
 have I4:Inv (cxC X N' scope cl fp S3 H3) [] (blk own fr σ) H3 { S3 with heap:=h₁,toks:=s2.toks+([]:List (Str×Value)).length }:=Rq ok I3 f3 flt cl1 cl2 _ hns₁ k34
 have st4:tn 0 h₁:=T.keep _ _ _ st3 fun b _ o e=>k34 b o e
 -- back in the def
 have back:∀{σ' H' s'},Inv (cxC X N' scope cl fp S3 H3) [] σ' H' s'->Inv X pins σ H' s'/\Own X pins S3.heap.objs.size H' s':=fun {σ' H' s'} I'=>by
  have J1:Inv X pins σ H' s':=I3.call' I'.os I'.base I'.hok I'.bare fun b hb=>⟨(f3 b hb).2.2.2.1,(f3 b hb).2.1,(f3 b hb).2.2.2.2⟩
  refine⟨J1,⟨let ⟨m,hn,_⟩:=I'.loc;⟨m,hn⟩,I'.free,bT I3.lt,I3.sz,fun x c e z=>?_,fun p hp z=>?_⟩⟩
  ·obtain⟨v,q⟩:=I3.cell x c e
   exact absurd q.lt (by rw[z];exact ax _)
  ·exact absurd (P' (I3.pin p hp).1) (by rw[z];exact ax _)
 have stat:∀{H':Hp},(∀b∈fp,H' b=none)->∀b∈fp,FC (cxC X N' scope cl fp S3 H3) [] H' b:=fun hn b hb =>
  ⟨hn b hb,(I4.ok.exf b hb).1,I4.ok.exfs b hb,.inl hb,(I4.ok.exf b hb).2,fun p hp=>absurd (show p∈([]:List (Addr×Obj)) from hp) (by simp)⟩
 have loop:codeAny (model X.prog X.w) X.A (.compLoop (.ListComp elt [⟨tg,iter,ifs,0⟩] scope pos) 0 (.ref it) (.ref s2.heap.objs.size) (cxC X N' scope cl fp S3 H3).env) (RR (.ref s2.heap.objs.size) S3.heap.objs.size) { S3 with heap:=h₁,toks:=s2.toks+([]:List (Str×Value)).length }:=by
  refine OQ (fun n s'=>∃i ys σ' H',Inv (cxC X N' scope cl fp S3 H3) [] σ' H' s'/\tn i s'.heap/\(∀b∈fp,H' b=none)/\W i n ys σ' H') ?_ m0 ⟨0,[],_,H3,I4,st4,fun b hb=>(f3 b hb).1,w0⟩
  rintro n s5 ⟨i,ys,σ5,H5,I5,st5,fr5,w5⟩
  rcases turn i n ys σ5 H5 w5 with ⟨stop,qn⟩|⟨go,step⟩
  ·refine thn (T.done (cxC X N' scope cl fp S3 H3) rfl rfl rfl (hc _ _ I3) i [] s5 σ5 H5 (fun _ _=>False) I5 (stat fr5) st5 stop) fun r s6 ⟨hr,I6⟩=>?_
   subst hr
   obtain⟨J1,O⟩:=back I6
   exact fin _ _ s6 H5 J1 O qn
  ·refine thn (T.item (cxC X N' scope cl fp S3 H3) rfl rfl rfl (hc _ _ I3) i [] s5 σ5 H5 (fun _ _=>False) I5 (stat fr5) st5 go) fun r s6 ⟨u,hr,h6⟩=>?_
   subst hr
   refine thn h6 fun _ s7 ⟨x,H7,I7,r7,y7,st7,fr7⟩=>?_
   have I7':=I7.pinned (stat fr7) (T.obj _ _ st7)
   refine thn (hg fp S3 H3 _ s7 σ5 H7 x u _ I7' r7 (step x H7 y7)) fun _ s8 ⟨σ8,H8,I8,q8⟩=>?_
   refine thn (ht fp S3 H3 _ s8 σ8 H8 _ I8 q8) fun b s9 ⟨H9,I9,q9⟩=>?_
   have again:∀{σ' H' s' m' ys'},m'<n->Inv (cxC X N' scope cl fp S3 H3) ([]++IX fp s7.heap) σ' H' s'->W (i+1) m' ys' σ' H'->∃m,m<n/\∃i ys σ' H',Inv (cxC X N' scope cl fp S3 H3) [] σ' H' s'/\tn i s'.heap/\(∀b∈fp,H' b=none)/\W i m ys σ' H':=fun {σ' H' s' m' ys'} hm I' w'=>by
    refine⟨m',hm,i+1,ys',σ',H',I'.unpinned,T.keep _ _ _ st7 fun b hb o e=>(I'.pin (b,o) (aQ _ (aQ _ (ER hb e)))).1,fun b hb=>?_,w'⟩
    obtain⟨o,e,d⟩:=T.obj _ _ st7 b hb
    exact(I'.pin (b,o) (aQ _ (aQ _ (ER hb e)))).2.1
   cases b with
   |false =>
    rw[if_neg aP]at q9 ⊢
    obtain⟨m',hm,w9⟩:=q9
    exact again hm I9 w9
   |true =>
    rw[if_pos rfl]at q9 ⊢
    refine thn (he fp S3 H3 _ s9 σ8 H9 _ I9 q9) fun v s10 ⟨y,H10,I10,r10,q10⟩=>?_
    obtain⟨hD,hz,m',hm,w10⟩:=q10
    refine thn (Js (X:=cxC X N' scope cl fp S3 H3) _ s10 σ8 H10 (.ref s2.heap.objs.size) [y] (.ref s2.heap.objs.size) [v] (fun _ H'=>W (i+1) m' (ys++[y]) σ8 H') I10 rfl (.cons r10 .nil) ⟨_,ys,y,rfl,rfl,hD,hz,w10⟩) fun v' s11 ⟨_,H11,I11,_,q11⟩=>?_
    exact again hm I11 q11
 subst hS3
 exact codeAny_compStart_list loop (T.self _ 0 _ _ _ st4 loop)
theorem Xa{wi:TI}{g:TG}{tc:TT}{te:TE}(hc:X.calm=true)(ok:OY X N' own fr scope)(hi:PI X tg iter wi)
  (hg:∀cl fp s3 H3,PG (cxC X N' scope cl fp s3 H3) tg g) (ht:∀cl fp s3 H3,PTs (cxC X N' scope cl fp s3 H3) ifs tc) (he:∀cl fp s3 H3,PE (cxC X N' scope cl fp s3 H3) elt te)
  (hs:∀x,foldedSetIterable iter X.env x=pure x:=by intro _;rfl):PE X (.ListComp elt [⟨tg,iter,ifs,0⟩] scope pos) (tLC own fr wi g tc te):=by
 intro pins s σ H Q I h
 obtain⟨cl,ecl,cl1,cl2⟩:=Nc (env:=X.env) (scope:=scope) fun x hx=>I.ok.has x (ok.free x hx)
 rw[eval_ListComp]
 refine wpAny_comprehension_free (use:=none) rfl hs ecl ok.kind ok.names (thn (hi pins s σ H _ I h) fun v s1 h1=>thn h1 fun itv s2 h2=>?_)
 obtain⟨it,fp,tn,J,H2,rfl,I2,T,st2,f2,h2⟩:=h2
 refine Lw (RR:=fun acc C=>compPost (model X.prog X.w) X.A X.xe none (EP X pins σ Q) acc C) (fun _ _ _=>hc) ok I2 T.g st2 f2 cl1 cl2 (hg cl) (ht cl) (he cl) h2 ?_
 intro D C s' H' J1 O q
 obtain⟨m,hn⟩:=O.ns
 exact⟨m,hn,fun h'' sb=>⟨.ref D,H',O.go J1 sb,rfl,q⟩⟩
theorem PU{wi:TI}{g:TG}{tc:TT}{te:TE}{i:Nat}{y:Str}{py spos:Pos}(hN:X.N.Nodup)(hiN:X.N[i]?=some y)(hy:X.env.scope.names.lookup y=some .local)(hc:X.calm=true)(ok:OY X N' own fr scope)(hi:PI X tg iter wi)
  (hg:∀cl fp s3 H3,PG (cxC X N' scope cl fp s3 H3) tg g) (ht:∀cl fp s3 H3,PTs (cxC X N' scope cl fp s3 H3) ifs tc) (he:∀cl fp s3 H3,PE (cxC X N' scope cl fp s3 H3) elt te)
  (hsw:swapsWith (.ListComp elt [⟨tg,iter,ifs,0⟩] scope pos) (some (.Name y py)) spos.line X.env=pure true)
  (hs:∀x,foldedSetIterable iter X.env x=pure x:=by intro _;rfl):PS X (.Assign [.Name y py] (.ListComp elt [⟨tg,iter,ifs,0⟩] scope pos) spos) (fun D σ H=>tLC own fr wi g tc te σ H fun v H'=>D.nx (σ.set i (some v)) H'):=by
 intro pins s σ H D I h
 obtain⟨cl,ecl,cl1,cl2⟩:=Nc (env:=X.env) (scope:=scope) fun x hx=>I.ok.has x (ok.free x hx)
 rw[exec_Assign_Name_used _ _ _ _ hsw]
 refine wpAny_bind (wpAny_standAt (wpAny_bind ?_))
 show wpAny _ _ (do let _ <- comprehension (.ListComp elt [⟨tg,iter,ifs,0⟩] scope pos) scope X.env _ (newList []) false (eval iter X.env) (some (assign (.Name y py) X.env))) _ _ s
 refine wpAny_bind (wpAny_mono (wpAny_comprehension_free (use := some (assign (.Name y py) X.env)) (Q := fun _ s' => SP X pins D .next s') rfl hs ecl ok.kind ok.names
  (thn (hi pins s σ H _ I h) fun v s1 h1=>thn h1 fun itv s2 h2=>?_)) (fun _ s' hq=>wpAny_pure (wpAny_pure hq)) fun _ _ e=>e)
 obtain⟨it,fp,tn,J,H2,rfl,I2,T,st2,f2,h2⟩:=h2
 refine Lw (RR:=fun acc C=>compPost (model X.prog X.w) X.A X.xe (some (assign (.Name y py) X.env)) (fun _ s'=>SP X pins D .next s') acc C) (fun _ _ _=>hc) ok I2 T.g st2 f2 cl1 cl2 (hg cl) (ht cl) (he cl) h2 ?_
 intro D' C s' H' J1 O q
 show wpAny _ _ (assign (.Name y py) X.env (.ref D')) _ _ _
 refine wpAny_assign_Name (Ji J1 hN hiN (.inl hy) (v:=.ref D') rfl (fun s'' J2 sb=>?_) (.inr hy))
 obtain⟨m,hn⟩:=O.ns
 obtain⟨a,sb,ha⟩:=sb
 have nea:C≠a:=by
  rcases ha with ha|ha
  ·rw[ha];exact O.ne
  ·exact fun z=>O.nc y a ha z.symm
 refine⟨m,hn.sameBut sb nea,fun h'' sb'=>?_⟩
 have O2:Own X pins C H' s'':=⟨⟨m,hn.sameBut sb nea⟩,O.hn,O.ne,O.ab,O.nc,O.np⟩
 exact⟨_,H',O2.go J2 sb',q⟩
end
end L2
end
section
namespace DL
open PySem L2 PyProof.Rows
structure KW where
 fr:PySem.W.Frag
 w:World
instance:CoeOut KW PySem.W.Frag:=⟨KW.fr⟩
abbrev EB(X:Cx):KW:=⟨X.K,X.w⟩
def hT(ks:List Int):Int:=reduceHash (Builtin.Tuple.tupleHashOf (ks.map hashInt))
def RI(a:Addr)(ts:List (List Int×Addr×V))(ep:Nat):Heap->Prop:=fun h=>(a==sysModules)=false/\ts.length<=sizeLine/\(ts.map (·.1)).Nodup /\
 ∃xs:List (List Int×Addr×Value),Paired (fun(t:List Int×Addr×V) (x:List Int×Addr×Value)=>t.1=x.1/\t.2.1=x.2.1/\RelV t.2.2 x.2.2) ts xs /\
  ∃(o:Obj) (es:Array DictEntry),h.get? a=some o/\o.ExactDict/\o.data = .dict es ep/\es.toList=xs.map fun x=>⟨hT x.1,.ref x.2.1,x.2.2⟩
def HD(H:Hp)(a:Addr)(ts:List (List Int×Addr×V)):Prop:=∃ep,H a=some (.ext (RI a ts ep))
def txK(ts:List (Str×V)):List (Key×V):=ts.map fun t=>(Sum.inr t.1,t.2)
mutual
def Is(K:KW)(H:Hp):PyData->V->Prop
 |.none,v=>v = .non
 |.bool b,v=>v = .bl b
 |.int i,v=>v = .int i
 |.str x,v=>v = .str x
 |.tuple ds,v=>∃a vs,v = .ref a/\SqT K H a vs/\IsL K H ds vs
 |.list ds,v=>∃a vs,v = .ref a/\H a=some (.lst vs)/\IsL K H ds vs
 |.dict kvs,v=>∃a ts,v = .ref a/\HD H a ts/\IsKV K H kvs ts
def IsL(K:KW)(H:Hp):List PyData->List V->Prop
 |[],vs=>vs=[]
 |d::ds,vs=>∃x xs,vs=x::xs/\Is K H d x/\IsL K H ds xs
def IsKV(K:KW)(H:Hp):List (PyData×PyData)->List (List Int×Addr×V)->Prop
 |[],ts=>ts=[]
 |(k,d)::r,ts=>∃t tr,ts=t::tr/\k = .tuple (t.1.map PyData.int)/\SqT K H t.2.1 (t.1.map V.int)/\Is K H d t.2.2/\IsKV K H r tr
end
theorem Same.tup{K:KW}{H H':Hp}{a:Addr}{xs:List V}(e:Same H H')(h:SqT K H a xs):SqT K H' a xs:=by
 rcases h with (h|⟨o,h⟩)|h
 ·exact .inl (.inl (e _ _ h))
 ·exact .inl (.inr ⟨o,e _ _ h⟩)
 ·exact .inr h
def TSm(H H':Hp):Prop:=∀b o,H b=some o->(∀xs,o≠.lst xs)->(∀φ,o≠.ext φ)->H' b=some o
theorem TSm.tup{K:KW}{H H':Hp}{a:Addr}{xs:List V}(e:TSm H H')(h:SqT K H a xs):SqT K H' a xs:=by
 rcases h with (h|⟨o,h⟩)|h
 ·exact .inl (.inl (e _ _ h (fun _ z=>by cases z) fun _ z=>by cases z))
 ·exact .inl (.inr ⟨o,e _ _ h (fun _ z=>by cases z) fun _ z=>by cases z⟩)
 ·exact .inr h
section
variable {K:KW}
mutual
theorem Is.mono{H H':Hp}(s:Same H H'):∀{d:PyData} {v:V},Is K H d v->Is K H' d v
 |.none,_,h=>h
 |.bool _,_,h=>h
 |.int _,_,h=>h
 |.str _,_,h=>h
 |.tuple _,_,⟨a,vs,e,h,l⟩=>⟨a,vs,e,Same.tup s h,IsL.mono s l⟩
 |.list _,_,⟨a,vs,e,h,l⟩=>⟨a,vs,e,s _ _ h,IsL.mono s l⟩
 |.dict _,_,⟨a,ts,e,⟨ep,h⟩,l⟩=>⟨a,ts,e,⟨ep,s _ _ h⟩,IsKV.mono s l⟩
theorem IsL.mono{H H':Hp}(s:Same H H'):∀{ds:List PyData} {vs:List V},IsL K H ds vs->IsL K H' ds vs
 |[],_,h=>h
 |_::_,_,⟨x,xs,e,h,l⟩=>⟨x,xs,e,Is.mono s h,IsL.mono s l⟩
theorem IsKV.mono{H H':Hp}(s:Same H H'):∀{kvs:List (PyData×PyData)} {ts:List (List Int×Addr×V)},IsKV K H kvs ts->IsKV K H' kvs ts
 |[],_,h=>h
 |(_,_)::_,_,⟨t,tr,e,ek,hk,h,l⟩=>⟨t,tr,e,ek,Same.tup s hk,Is.mono s h,IsKV.mono s l⟩
end
mutual
theorem Is.monoT{H H':Hp}(s:TSm H H'):∀{d:PyData} {v:V},Cb d=true->Is K H d v->Is K H' d v
 |.none,_,_,h=>h
 |.bool _,_,_,h=>h
 |.int _,_,_,h=>h
 |.str _,_,_,h=>h
 |.tuple _,_,f,⟨a,vs,e,h,l⟩=>⟨a,vs,e,s.tup h,IsL.monoT s f l⟩
 |.list _,_,f,_=>absurd f aP
 |.dict _,_,f,_=>absurd f aP
theorem IsL.monoT{H H':Hp}(s:TSm H H'):∀{ds:List PyData} {vs:List V},fixDs ds=true->IsL K H ds vs->IsL K H' ds vs
 |[],_,_,h=>h
 |d::ds,_,f,⟨x,xs,e,h,l⟩=>⟨x,xs,e,Is.monoT s (by rw[fixDs,K']at f;exact f.1) h,IsL.monoT s (by rw[fixDs,K']at f;exact f.2) l⟩
end
theorem IsL.length{H:Hp}:∀{ds:List PyData} {vs:List V},IsL K H ds vs->vs.length=ds.length
 |[],_,h=>by rw[show _=[] from h];rfl
 |_::_,_,⟨x,xs,e,_,l⟩=>by rw[e,aR,aR,IsL.length l]
theorem IsL.get{H:Hp}:∀{ds:List PyData} {vs:List V} {i:Nat} {d:PyData},IsL K H ds vs->ds[i]?=some d->∃v,vs[i]?=some v/\Is K H d v
 |[],_,_,_,_,e=>by simp at e
 |d::ds,_,0,_,⟨x,xs,e,h,l⟩,q=>by
  subst e
  simp at q
  subst q
  exact⟨x,rfl,h⟩
 |d::ds,_,i+1,_,⟨x,xs,e,h,l⟩,q=>by
  subst e
  obtain⟨v,a,b⟩:=IsL.get (i:=i) l (by simpa using q)
  exact⟨v,by simpa using a,b⟩
end
section
variable {X:Cx} {pins:List (Addr×Obj)} {σ:L2.St} {H:Hp} {s:Shared}
mutual
theorem El(I:Inv X pins σ H s):∀{d:PyData} {v:V} {u:Value},Is (EB X) H d v->RelV v u->∃as,Reads s.heap u d as
 |.none,_,_,h,r=>by subst h;cases r;exact⟨_,.none⟩
 |.bool _,_,_,h,r=>by subst h;cases r;exact⟨_,.bool _⟩
 |.int _,_,_,h,r=>by subst h;obtain⟨t,rfl⟩:=r;exact⟨_,.int _ _⟩
 |.str _,_,_,h,r=>by subst h;obtain⟨t,rfl⟩:=r;exact⟨_,.str _ _⟩
 |.tuple ds,_,_,⟨a,vs,e,h,l⟩,r=>by
  subst e;cases r
  obtain⟨its,rr,⟨o,e,c,n,q⟩,_⟩:=I.tuple h
  obtain⟨as,z⟩:=readsL I l rr
  exact⟨_,.tuple e c q z⟩
 |.list ds,_,_,⟨a,vs,e,h,l⟩,r=>by
  subst e;cases r
  obtain⟨_,its,n,rr,e⟩:=I.hok a _ h
  obtain⟨as,z⟩:=readsL I l rr
  exact⟨_,.list e rfl rfl z⟩
 |.dict kvs,_,_,⟨a,ts,e,⟨ep,h⟩,l⟩,r=>by
  subst e;cases r
  obtain⟨⟨_,_,_,xs,pr,o,es,ho,he,hd,hes⟩,_,_⟩:=(show ObjOk X.prog X.w H s.heap a (.ext (RI a ts ep)) from I.hok a _ h)
  obtain⟨as,bs,z1,z2⟩:=readsK I l pr
  refine⟨_,.dict ho he.1 hd (as:=as) (bs:=bs) ?_ ?_⟩
  ·rw[hes,ay];exact z1
  ·rw[hes,ay];exact z2
theorem readsL(I:Inv X pins σ H s):∀{ds:List PyData} {vs:List V} {us:List Value},IsL (EB X) H ds vs->Vals vs us->∃as,ReadsAll s.heap us ds as
 |[],_,_,h,r=>by subst h;cases r;exact⟨_,.nil⟩
 |d::ds,_,_,⟨x,xs,e,h,l⟩,r=>by
  subst e
  cases r with
  |cons r1 r2 =>
   obtain⟨as,z⟩:=El I h r1
   obtain⟨bs,y⟩:=readsL I l r2
   exact⟨_,.cons z y⟩
theorem readsK(I:Inv X pins σ H s):∀{kvs:List (PyData×PyData)} {ts:List (List Int×Addr×V)} {xs:List (List Int×Addr×Value)},IsKV (EB X) H kvs ts->Paired (fun(t:List Int×Addr×V) (x:List Int×Addr×Value)=>t.1=x.1/\t.2.1=x.2.1/\RelV t.2.2 x.2.2) ts xs ->
  ∃as bs,ReadsAll s.heap (xs.map fun x=>Value.ref x.2.1) (kvs.map (·.1)) as/\ReadsAll s.heap (xs.map fun x=>x.2.2) (kvs.map (·.2)) bs
 |[],_,_,h,r=>by subst h;cases r;exact⟨_,_,.nil,.nil⟩
 |(k,d)::kvs,_,_,⟨t,tr,e,ek,hk,h,l⟩,r=>by
  subst e
  cases r with
  |cons r1 r2 =>
   obtain⟨q1,q2,q3⟩:=r1
   obtain⟨as,bs,z1,z2⟩:=readsK I l r2
   obtain⟨cs,z3⟩:=El I h q3
   obtain⟨its,rr,⟨o,e,c,n,q⟩,_⟩:=I.tuple hk
   subst ek
   have hz:∃ds,ReadsAll s.heap its.toArray.toList (t.1.map PyData.int) ds:=by
    clear hk e q
    generalize t.1=ks at rr
    induction ks generalizing its with
    |nil=>cases rr;exact⟨_,.nil⟩
    |cons k ks ih =>
     cases rr with
     |cons a b =>
      obtain⟨ds,y⟩:=ih _ b
      obtain⟨tk,rfl⟩:=a
      exact⟨_,.cons (.int _ _) y⟩
   obtain⟨ds,y⟩:=hz
   rw[q2]at e
   exact⟨_,_,.cons (.tuple e c q y) z1,.cons z3 z2⟩
end
def Q7(K:KW):R2:=fun x y H Q=>∃d e,Is K H d x/\Is K H e y/\okD d=true/\okD e=true/\Q (.bl (PyData.eqv d e)) H
def Q5(K:KW):R2:=fun x y H Q=>∃d e,Is K H d x/\Is K H e y/\okD d=true/\okD e=true/\Q (.bl (!PyData.eqv d e)) H
theorem Ul(hu:X.A.units+64<cLine):OpR X (compareOp .Eq) (Q7 (EB X)):=by
 intro pins s σ H x y v u Q I rx ry h
 obtain⟨d,e,hd,he,od,oe,q⟩:=h
 obtain⟨as,ra⟩:=El I hd rx
 obtain⟨bs,rb⟩:=El I he ry
 exact eq_dataH ra rb od oe hu ⟨.bl _,H,I,rfl,q⟩
theorem Ug(hu:X.A.units+64<cLine):OpR X (compareOp .NotEq) (Q5 (EB X)):=by
 intro pins s σ H x y v u Q I rx ry h
 obtain⟨d,e,hd,he,od,oe,q⟩:=h
 obtain⟨as,ra⟩:=El I hd rx
 obtain⟨bs,rb⟩:=El I he ry
 exact ne_dataH ra rb od oe hu ⟨.bl _,H,I,rfl,q⟩
def MD(K:KW)(neg:Bool):R2:=fun x y H Q=>∃d es,Is K H d x/\(Is K H (.list es) y\/Is K H (.tuple es) y)/\okD d=true/\okD (.list es)=true/\Q (.bl (if neg then !(es.any fun y=>PyData.eqv y d) else es.any fun y=>PyData.eqv y d)) H
theorem Uk(hu:X.A.units+65<cLine):OpR X (compareOp .In) (MD (EB X) false):=by
 intro pins s σ H x y v u Q I rx ry h
 obtain⟨d,es,hd,he,od,oe,q⟩:=h
 obtain⟨as,ra⟩:=El I hd rx
 obtain⟨c1,c2⟩:=HH oe
 have hm:X.A.units+1+min (PyData.depthAll es) d.depth<cLine:=by omega
 rcases he with he|he
 ·obtain⟨bs,rb⟩:=El I he ry
  exact SeqAt.in_list_reads rb ra c1 (EK od) hm ⟨.bl _,H,I,rfl,q⟩
 ·obtain⟨bs,rb⟩:=El I he ry
  exact SeqAt.in_tuple_reads rb ra c1 (EK od) hm ⟨.bl _,H,I,rfl,q⟩
theorem N1(hu:X.A.units+65<cLine):OpR X (compareOp .NotIn) (MD (EB X) true):=by
 intro pins s σ H x y v u Q I rx ry h
 obtain⟨d,es,hd,he,od,oe,q⟩:=h
 obtain⟨as,ra⟩:=El I hd rx
 obtain⟨c1,c2⟩:=HH oe
 have hm:X.A.units+1+min (PyData.depthAll es) d.depth<cLine:=by omega
 rcases he with he|he
 ·obtain⟨bs,rb⟩:=El I he ry
  exact SeqAt.notIn_list_reads rb ra c1 (EK od) hm ⟨.bl _,H,I,rfl,q⟩
 ·obtain⟨bs,rb⟩:=El I he ry
  exact SeqAt.notIn_tuple_reads rb ra c1 (EK od) hm ⟨.bl _,H,I,rfl,q⟩
end
end DL
end
section
namespace DL
open PySem L2
inductive L where
 |d (x:PyData)
 |m (xs:List PyData)
 |c (xs:List PyData)
 |k (kvs:List (List Int×PyData))
 |g (x:PyData)
abbrev DS:=List (Option L)
inductive Ow where
 |l (xs:List PyData)
 |t (kvs:List (List Int×PyData))
def Ow.L:Ow->L
 |.l xs=>.m xs
 |.t kvs=>.k kvs
def Ja(kvs:List (List Int×PyData)):List (PyData×PyData):=kvs.map fun p=>(.tuple (p.1.map PyData.int),p.2)
def Ow.D:Ow->PyData
 |.l xs=>.list xs
 |.t kvs=>.dict (Ja kvs)
def Ow.fl:Ow->Bool
 |.l _=>true
 |.t _=>false
theorem Ow.not_d{o:Ow}{x:PyData}:o.L≠.d x:=by cases o<;>exact fun z=>nomatch z
theorem Ow.not_g{o:Ow}{x:PyData}:o.L≠.g x:=by cases o<;>exact fun z=>nomatch z
theorem Ow.not_c{o:Ow}{x:List PyData}:o.L≠.c x:=by cases o<;>exact fun z=>nomatch z
theorem Ow.inj{o p:Ow}(h:o.L=p.L):o=p:=by
 cases o<;>cases p<;>cases h<;>rfl
def IsO(K:KW)(H:Hp):Ow->Addr->HO->Prop
 |.l xs,_,h=>∃vs,h = .lst vs/\IsL K H xs vs
 |.t kvs,a,h=>∃ts,(∃ep,h = .ext (RI a ts ep))/\IsKV K H (Ja kvs) ts
theorem IsO.mono{K:KW}{H H':Hp}(s:Same H H'):∀{o:Ow} {a:Addr} {h:HO},IsO K H o a h->IsO K H' o a h
 |.l _,_,_,⟨vs,e,l⟩=>⟨vs,e,l.mono s⟩
 |.t _,_,_,⟨ts,e,l⟩=>⟨ts,e,l.mono s⟩
theorem IsO.is{K:KW}{H:Hp}:∀{o:Ow} {a:Addr} {h:HO},IsO K H o a h->H a=some h->Is K H o.D (.ref a)
 |.l _,a,_,⟨vs,e,l⟩,z=>⟨a,vs,rfl,e▸z,l⟩
 |.t _,a,_,⟨ts,⟨ep,e⟩,l⟩,z=>⟨a,ts,rfl,⟨ep,e▸z⟩,l⟩
open Classical in
noncomputable def hid(S:Addr->Prop)(H:Hp):Hp:=fun a=>if S a then none else H a
theorem hid_iff{S:Addr->Prop}{H:Hp}{b:Addr}{o:HO}:hid S H b=some o↔¬S b/\H b=some o:=by
 unfold hid
 by_cases h:S b
 ·rw[if_pos h];exact⟨fun z=>(nomatch z),fun z=>absurd h z.1⟩
 ·rw[if_neg h];exact⟨fun z=>⟨h,z⟩,fun z=>z.2⟩
def Keep(S:Addr->Prop)(H:Hp)(S':Addr->Prop)(H':Hp):Prop:=∀b o,¬S b->H b=some o->¬S' b/\H' b=some o
def Chg(M:Addr->Prop)(H H':Hp):Prop:=∀b o,¬M b->H b=some o->H' b=some o
theorem Keep.same{S S':Addr->Prop}{H H':Hp}(k:Keep S H S' H'):Same (hid S H) (hid S' H'):=fun b o e=>hid_iff.mpr (k b o (hid_iff.mp e).1 (hid_iff.mp e).2)
theorem Keep.refl{S:Addr->Prop}{H:Hp}:Keep S H S H:=fun _ _ h e=>⟨h,e⟩
theorem Keep.trans{S S1 S2:Addr->Prop}{H H1 H2:Hp}(a:Keep S H S1 H1)(b:Keep S1 H1 S2 H2):Keep S H S2 H2:=fun c o h e=>b c o (a c o h e).1 (a c o h e).2
theorem Chg.refl{M:Addr->Prop}{H:Hp}:Chg M H H:=fun _ _ _ e=>e
theorem Chg.trans{M:Addr->Prop}{H H1 H2:Hp}(a:Chg M H H1)(b:Chg M H1 H2):Chg M H H2:=fun c o h e=>b c o h (a c o h e)
theorem Chg.of{M:Addr->Prop}{H H':Hp}(s:Same H H'):Chg M H H':=fun b o _ e=>s b o e
theorem Chg.keep{S M:Addr->Prop}{H H':Hp}(c:Chg M H H')(sub:∀a,M a->S a):Keep S H S H':=fun b o h e=>⟨h,c b o (fun z=>h (sub b z)) e⟩
theorem Same.keep{S:Addr->Prop}{H H':Hp}(s:Same H H'):Keep S H S H':=fun b o h e=>⟨h,s b o e⟩
theorem same_hid{S:Addr->Prop}{H:Hp}:Same (hid S H) H:=fun b o e=>(hid_iff.mp e).2
theorem EE{S S':Addr->Prop}{H:Hp}(h:∀a,S' a->S a):Same (hid S H) (hid S' H):=Keep.same fun b o n e=>⟨fun z=>n (h b z),e⟩
theorem tsS{H H':Hp}(s:Same H H'):TSm H H':=fun b o e _ _=>s b o e
theorem TSm.refl{H:Hp}:TSm H H:=fun _ _ e _ _=>e
mutual
def Dp(K:KW)(S:Addr->Prop)(H:Hp):PyData->V->List Addr->Prop
 |.none,v,F=>v = .non/\F=[]
 |.bool b,v,F=>v = .bl b/\F=[]
 |.int i,v,F=>v = .int i/\F=[]
 |.str x,v,F=>v = .str x/\F=[]
 |.tuple ds,v,F=>∃a vs,v = .ref a/\SqT K (hid S H) a vs/\DpL K S H ds vs F
 |.list ds,v,F=>∃a vs G,v = .ref a/\F=a::G/\H a=some (.lst vs)/\DpL K S H ds vs G
 |.dict _,_,_=>False
def DpL(K:KW)(S:Addr->Prop)(H:Hp):List PyData->List V->List Addr->Prop
 |[],vs,F=>vs=[]/\F=[]
 |d::ds,vs,F=>∃x xs F1 F2,vs=x::xs/\F=F1++F2/\Dp K S H d x F1/\DpL K S H ds xs F2
end
section
variable {K:KW} {S S':Addr->Prop} {H H':Hp}
mutual
theorem Dp.mono(s:TSm (hid S H) (hid S' H')):∀{d:PyData} {v:V} {F:List Addr},(∀a∈F,H' a=H a)->Dp K S H d v F->Dp K S' H' d v F
 |.none,_,_,_,h=>h
 |.bool _,_,_,_,h=>h
 |.int _,_,_,_,h=>h
 |.str _,_,_,_,h=>h
 |.tuple _,_,_,f,⟨a,vs,e,h,l⟩=>⟨a,vs,e,s.tup h,DpL.mono s f l⟩
 |.list _,_,_,f,⟨a,vs,G,e,e2,h,l⟩=>⟨a,vs,G,e,e2,(f a (by rw[e2];exact L' ..)).trans h,DpL.mono s (fun b hb=>f b (by rw[e2];exact O' _ hb)) l⟩
theorem DpL.mono(s:TSm (hid S H) (hid S' H')):∀{ds:List PyData} {vs:List V} {F:List Addr},(∀a∈F,H' a=H a)->DpL K S H ds vs F->DpL K S' H' ds vs F
 |[],_,_,_,h=>h
 |_::_,_,_,f,⟨x,xs,F1,F2,e,e2,h,l⟩=>⟨x,xs,F1,F2,e,e2,Dp.mono s (fun b hb=>f b (by rw[e2];exact bM _ hb)) h,DpL.mono s (fun b hb=>f b (by rw[e2];exact aQ _ hb)) l⟩
end
end
def IsX(K:KW)(H:Hp):List (PyData×PyData)->List (Str×V)->Prop
 |[],ts=>ts=[]
 |(k,d)::r,ts=>∃t tr,ts=t::tr/\k = .str t.1/\Cb d=true/\Is K H d t.2/\IsX K H r tr
theorem IsX.mono{K:KW}{H H':Hp}(s:TSm H H'):∀{kvs:List (PyData×PyData)} {ts:List (Str×V)},IsX K H kvs ts->IsX K H' kvs ts
 |[],_,h=>h
 |(_,_)::_,_,⟨t,tr,e,ek,f,h,l⟩=>⟨t,tr,e,ek,f,Is.monoT s f h,IsX.mono s l⟩
def DpT(K:KW)(S:Addr->Prop)(H:Hp)(d:PyData)(v:V)(F:List Addr):Prop:=match d with
 |.dict kvs=>∃a ts,v = .ref a/\F=[a]/\H a=some (.dK (txK ts))/\IsX K (hid S H) kvs ts
 |d=>Dp K S H d v F
theorem DpT.mono{K:KW}{S S':Addr->Prop}{H H':Hp}{d:PyData}{v:V}{F:List Addr}(s:TSm (hid S H) (hid S' H'))(f:∀a∈F,H' a=H a)(h:DpT K S H d v F):DpT K S' H' d v F:=by
 cases d with
 |dict kvs =>
  obtain⟨a,ts,e,e2,h,l⟩:=(show ∃a ts,v = .ref a/\F=[a]/\H a=some (.dK (txK ts))/\IsX K (hid S H) kvs ts from h)
  exact⟨a,ts,e,e2,(f a (by rw[e2];exact bR a)).trans h,l.mono s⟩
 |_=>exact Dp.mono s f h
def GR(K:KW)(S M:Addr->Prop)(τ:DS)(σ:St)(H:Hp):Prop:=∃φ:Nat->List Addr,∀(i:Nat) (d:PyData),τ[i]?=some (some (.g d)) ->
 (∃v,σ[i]?=some (some v)/\DpT K S H d v (φ i))/\(φ i).Nodup/\(∀a∈φ i,M a)/\(∀(j:Nat) (o:Ow) (a:Addr),τ[j]?=some (some o.L)->σ[j]?=some (some (.ref a))->a∉φ i) /\
  ∀(j:Nat) (d':PyData),j≠i->τ[j]?=some (some (.g d'))->∀a∈φ i,a∉φ j
theorem GR.nil{K:KW}{S M:Addr->Prop}{τ:DS}{σ:St}{H:Hp}(h:∀(i:Nat) (d:PyData),τ[i]?≠some (some (.g d))):GR K S M τ σ H:=⟨fun _=>[],fun i d e=>absurd e (h i d)⟩
theorem GR.to{K:KW}{S M S' M':Addr->Prop}{τ t7:DS}{σ σ':St}{H H':Hp}(g:GR K S M τ σ H)(ht:∀(i:Nat) (d:PyData),t7[i]?=some (some (.g d))->τ[i]?=some (some (.g d))/\σ'[i]?=σ[i]?)
  (ho:∀(j:Nat) (o:Ow) (a:Addr),t7[j]?=some (some o.L)->σ'[j]?=some (some (.ref a))->(∃o':Ow,τ[j]?=some (some o'.L)/\σ[j]?=some (some (.ref a)))\/¬M a)
  (hm:∀a,M a->(∀(j:Nat) (o:Ow),τ[j]?=some (some o.L)->σ[j]?≠some (some (.ref a)))->M' a/\H' a=H a) (ts:TSm (hid S H) (hid S' H')):GR K S' M' t7 σ' H':=by
 obtain⟨φ,g⟩:=g
 refine⟨φ,fun i d e=>?_⟩
 obtain⟨e1,e2⟩:=ht i d e
 obtain⟨⟨v,g1,g2⟩,g3,g4,g5,g6⟩:=g i d e1
 have hm':∀a∈φ i,M' a/\H' a=H a:=fun a ha=>hm a (g4 a ha) fun j o q q2=>g5 j o a q q2 ha
 refine⟨⟨v,e2.trans g1,g2.mono ts fun a ha=>(hm' a ha).2⟩,g3,fun a ha=>(hm' a ha).1,fun j o a q1 q2 ha=>?_,fun j d' hj q=>g6 j d' hj (ht j d' q).1⟩
 rcases ho j o a q1 q2 with ⟨o',z1,z2⟩|z
 ·exact g5 j o' a z1 z2 ha
 ·exact z (g4 a ha)
structure R(K:KW)(S M:Addr->Prop)(τ:DS)(σ:St)(H:Hp):Prop where
 len:σ.length=τ.length
 dat:∀(i:Nat) (x:PyData),τ[i]?=some (some (.d x))->∃v,σ[i]?=some (some v)/\Is K (hid S H) x v
 mt:∀(i:Nat) (o:Ow),τ[i]?=some (some o.L)->∃(a:Addr) (h:HO),σ[i]?=some (some (.ref a))/\M a/\H a=some h/\IsO K (hid S H) o a h
 cst:∀(i:Nat) (xs:List PyData),τ[i]?=some (some (.c xs))->∃(a:Addr) (vs:List V),σ[i]?=some (some (.ref a))/\SqL K (hid S H) a vs/\IsL K (hid S H) xs vs
 inj:∀(i j:Nat) (o p:Ow) (a:Addr),τ[i]?=some (some o.L)->τ[j]?=some (some p.L)->σ[i]?=some (some (.ref a))->σ[j]?=some (some (.ref a))->i=j
 sub:∀a,M a->S a
 ex:∀a,S a->∃o,H a=some o
 gr:GR K S M τ σ H
def Res(K:KW)(fr:Bool)(S:Addr->Prop)(H H':Hp)(d:PyData)(v:V):Prop:=match fr with
 |false=>Is K (hid S H') d v
 |true=>∃(o:Ow) (a:Addr) (h:HO),d=o.D/\v = .ref a/\H a=none/\H' a=some h/\IsO K (hid (fun b=>S b\/b=a) H') o a h
section
variable {K:KW} {S M:Addr->Prop} {τ:DS} {σ:St} {H H':Hp}
theorem R.fresh(r:R K S M τ σ H){a:Addr}(h:H a=none):¬S a:=fun z=>by
 obtain⟨o,e⟩:=r.ex a z
 rw[h]at e;cases e
theorem R.ml(r:R K S M τ σ H)(i:Nat)(xs:List PyData)(e:τ[i]?=some (some (.m xs))):∃(a:Addr) (vs:List V),σ[i]?=some (some (.ref a))/\M a/\H a=some (.lst vs)/\IsL K (hid S H) xs vs:=by
 obtain⟨a,h,h1,h2,h3,vs,rfl,l⟩:=r.mt i (.l xs) e
 exact⟨a,vs,h1,h2,h3,l⟩
theorem R.same(r:R K S M τ σ H)(s:Same H H'):R K S M τ σ H' where
 len:=r.len
 dat:=fun i x e=>let ⟨v,a,b⟩:=r.dat i x e;⟨v,a,b.mono (Same.keep s).same⟩
 mt:=fun i o e=>let ⟨a,h,h1,h2,h3,h4⟩:=r.mt i o e;⟨a,h,h1,h2,s _ _ h3,h4.mono (Same.keep s).same⟩
 cst:=fun i xs e=>let ⟨a,vs,h1,h2,h3⟩:=r.cst i xs e;⟨a,vs,h1,(Same.keep s).same.seq h2,h3.mono (Same.keep s).same⟩
 inj:=r.inj
 sub:=r.sub
 ex:=fun a h=>let ⟨o,e⟩:=r.ex a h;⟨o,s _ _ e⟩
 gr:=r.gr.to (fun i d e=>⟨e,rfl⟩) (fun j o a e q=>.inl ⟨o,e,q⟩) (fun a h _=>⟨h,by obtain⟨o,e⟩:=r.ex a (r.sub a h);rw[e];exact s _ _ e⟩) (tsS (Same.keep s).same)
theorem Res.is{fr:Bool}{d:PyData}{v:V}(h:Res K fr S H H' d v)(f:∀a,H a=none->¬S a):Is K (hid S H') d v:=by
 cases fr with
 |false=>exact h
 |true =>
  obtain⟨o,a,ho,rfl,rfl,h1,h2,h3⟩:=h
  exact IsO.is (h3.mono (EE fun b z=>.inl z)) (hid_iff.mpr ⟨f a h1,h2⟩)
theorem Res.imp{fr:Bool}{d:PyData}{v:V}(h:Res K fr S H H' d v)(f:∀a,H a=none->¬S a)(fr':Bool)(hf:fr'=true->fr=true):Res K fr' S H H' d v:=by
 cases fr' with
 |false=>exact h.is f
 |true=>rw[hf rfl]at h;exact h
end
abbrev DX:=DS->Option (PyData×DS)
abbrev DT:=DS->Option (Bool×DS)
inductive Ar where
 |d (x:PyData)
 |s (i:Nat)
abbrev DA:=DS->Option (List Ar×DS)
inductive Out where
 |nx (τ:DS)
 |bk (τ:DS)
 |ct (τ:DS)
 |rt (d:PyData) (τ:DS)
abbrev DB:=DS->Option Out
def Like(τ t7:DS):Prop:=t7.length=τ.length/\∀j:Nat,((∀x,t7[j]?=some (some (.d x))↔τ[j]?=some (some (.d x)))/\∀x,t7[j]?=some (some (.c x))↔τ[j]?=some (some (.c x)))/\∀b:Bool,(∃o:Ow,o.fl=b/\t7[j]?=some (some o.L))↔∃o:Ow,o.fl=b/\τ[j]?=some (some o.L)
theorem Like.refl{τ:DS}:Like τ τ:=⟨rfl,fun j=>⟨⟨fun x=>bb,fun x=>bb⟩,fun b=>bb⟩⟩
theorem Like.trans{τ t5 t9:DS}(a:Like τ t5)(b:Like t5 t9):Like τ t9:=⟨b.1.trans a.1,fun j=>⟨⟨fun x=>((b.2 j).1.1 x).trans ((a.2 j).1.1 x),fun x=>((b.2 j).1.2 x).trans ((a.2 j).1.2 x)⟩,fun c=>((b.2 j).2 c).trans ((a.2 j).2 c)⟩⟩
theorem Like.own{τ t7:DS}(a:Like τ t7)(j:Nat):(∃o:Ow,t7[j]?=some (some o.L))↔∃o:Ow,τ[j]?=some (some o.L) :=
 ⟨fun⟨o,h⟩=>let ⟨p,_,q⟩:=((a.2 j).2 o.fl).mp ⟨o,rfl,h⟩;⟨p,q⟩,fun⟨o,h⟩=>let ⟨p,_,q⟩:=((a.2 j).2 o.fl).mpr ⟨o,rfl,h⟩;⟨p,q⟩⟩
theorem Like.ml{τ t7:DS}(a:Like τ t7){j:Nat}{xs:List PyData}(h:t7[j]?=some (some (.m xs))):∃ys,τ[j]?=some (some (.m ys)):=by
 obtain⟨o,e,h⟩:=((a.2 j).2 true).mp ⟨.l xs,rfl,h⟩
 cases o with
 |l ys=>exact⟨ys,h⟩
 |t ys=>cases e
structure E K (t:TE) (fr:Bool) (f:DX):Prop where
 like:∀τ d t7,f τ=some (d,t7)->Like τ t7
 run:∀S M τ σ H (Q:VK) d t7,R K S M τ σ H->f τ=some (d,t7)->(∀v H',R K S M t7 σ H'->Chg M H H'->Res K fr S H H' d v->Q v H')->t σ H Q
structure T K (t:TT) (f:DT):Prop where
 like:∀τ b t7,f τ=some (b,t7)->Like τ t7
 run:∀S M τ σ H (Q:Bool->Hp->Prop) b t7,R K S M τ σ H->f τ=some (b,t7)->(∀H',R K S M t7 σ H'->Chg M H H'->Q b H')->t σ H Q
def Sz(K:KW)(S:Addr->Prop)(σ:St)(H:Hp):List Ar->List V->Prop
 |[],vs=>vs=[]
 |.d x::rs,vs=>∃v us,vs=v::us/\Is K (hid S H) x v/\Sz K S σ H rs us
 |.s i::rs,vs=>∃v us,vs=v::us/\σ[i]?=some (some v)/\Sz K S σ H rs us
structure A K (t:TA) (f:DA):Prop where
 like:∀τ rs t7,f τ=some (rs,t7)->Like τ t7
 run:∀S M τ σ H (Q:List V->Hp->Prop) rs t7,R K S M τ σ H->f τ=some (rs,t7)->(∀vs H',R K S M t7 σ H'->Chg M H H'->Sz K S σ H' rs vs->Q vs H')->t σ H Q
structure Frm where
 S:Addr->Prop
 M:Addr->Prop
 H:Hp
 ar:List (Option V)
structure RF(K:KW)(F:Frm)(S M:Addr->Prop)(τ:DS)(σ:St)(H:Hp):Prop where
 r:R K S M τ σ H
 sS:∀a,F.S a->S a
 old:∀b o,F.H b=some o->¬F.M b->H b=some o
 new:∀a,M a->F.M a\/F.H a=none
 fm:∀a,F.M a->M a
 fs:∀a,F.S a->∃o,F.H a=some o
 fsub:∀a,F.M a->F.S a
 snew:∀a,S a->F.S a\/F.H a=none
 par:∀(i:Nat) (v:V),F.ar[i]?=some (some v)->σ[i]?=some (some v)
 pm:∀(i:Nat) (v:V),F.ar[i]?=some (some v)->∃o:Ow,τ[i]?=some (some o.L)
 fma:∀a,F.M a->∃i:Nat,F.ar[i]?=some (some (.ref a))
def Gl(K:KW)(F:Frm)(fr:Bool)(S:Addr->Prop)(H:Hp)(D:JL):Out->Prop
 |.nx t7=>∀S' M' σ' H',RF K F S' M' t7 σ' H'->Keep S H S' H'->D.nx σ' H'
 |.bk t7=>∀S' M' σ' H',RF K F S' M' t7 σ' H'->Keep S H S' H'->D.bk σ' H'
 |.ct t7=>∀S' M' σ' H',RF K F S' M' t7 σ' H'->Keep S H S' H'->D.ct σ' H'
 |.rt d t7=>∀S' M' σ' H' v,RF K F S' M' t7 σ' H'->Res K fr F.S F.H H' d v->D.rt v H'
def B(K:KW)(np:Nat)(t:TS)(fr:Bool)(f:DB):Prop:=∀(F:Frm) S M τ σ H (D:JL) out,F.ar.length<=np->RF K F S M τ σ H->f τ=some out->Gl K F fr S H D out->t D σ H
variable {K:KW}
section
variable {S M:Addr->Prop} {τ t7:DS} {σ:St} {H H' H2:Hp}
theorem R.none(r:R K S M τ σ H')(c:Chg M H H'){a:Addr}(h:H' a=Option.none):H a=Option.none:=by
 cases e:H a with
 |none=>rfl
 |some o =>
  exfalso
  by_cases hm:M a
  ·obtain⟨o',e'⟩:=r.ex a (r.sub a hm)
   rw[h]at e';cases e'
  ·have:=c a o hm e
   rw[h]at this;cases this
theorem Res.back{fr:Bool}{d:PyData}{v:V}(h:Res K fr S H' H2 d v)(r:R K S M τ σ H')(c:Chg M H H'):Res K fr S H H2 d v:=by
 cases fr with
 |false=>exact h
 |true =>
  obtain⟨xs,a,vs,e1,e2,h1,h2,h3⟩:=h
  exact⟨xs,a,vs,e1,e2,r.none c h1,h2,h3⟩
theorem R.isr(r:R K S M τ σ H){fr:Bool}{d:PyData}{v:V}(h:Res K fr S H H' d v):Is K (hid S H') d v:=h.is fun _ z=>r.fresh z
end
theorem E.weak{t:TE}{fr:Bool}{f:DX}(h:E K t fr f):E K t false f:=⟨h.like,fun S M τ σ H Q d t7 r e q=>h.run S M τ σ H Q d t7 r e fun v H' r' c res=>q v H' r' c (r.isr res)⟩
def AB(i:Nat)(τ:DS):Option (PyData×DS):=match τ[i]? with
 |some (some (.d x))=>some (x,τ)
 |_=>none
theorem YL{i:Nat}:E K (FL i) false (AB i):=by
 refine⟨fun τ d t7 e=>?_,?_⟩
 ·unfold AB at e;split at e
  ·cases e;exact .refl
  ·cases e
 intro S M τ σ H Q d t7 r e q
 unfold AB at e
 split at e
 ·rename_i x hx
  cases e
  obtain⟨v,h1,h2⟩:=r.dat i _ hx
  exact⟨v,h1,q v H r .refl h2⟩
 ·cases e
def dC(d:PyData)(τ:DS):Option (PyData×DS):=some (d,τ)
theorem e_c{d:PyData}{v:V}(h:∀H,Is K H d v):E K (tC v) false (dC d):=by
 refine⟨fun τ d t7 e=>?_,?_⟩
 ·cases e;exact .refl
 intro S M τ σ H Q d' t7 r e q
 cases e
 exact q v H r .refl (h _)
theorem Te{i:Int}:E K (tC (.int i)) false (dC (.int i)):=e_c fun _=>rfl
theorem Z8{b:Bool}:E K (tC (.bl b)) false (dC (.bool b)):=e_c fun _=>rfl
theorem YN{x:Str}:E K (tC (.str x)) false (dC (.str x)):=e_c fun _=>rfl
theorem YT:E K (tC .non) false (dC .none):=e_c fun _=>rfl
def OR(K:KW)(fr:Bool)(r:R2)(F:PyData->PyData->Option PyData):Prop:=∀(S:Addr->Prop) H x y dx dy d (Q:VK),(∀a,H a=none->¬S a)->Is K (hid S H) dx x->Is K (hid S H) dy y->F dx dy=some d->(∀v H',Same H H'->Res K fr S H H' d v->Q v H')->r x y H Q
def dOp(F:PyData->PyData->Option PyData)(a b:DX)(τ:DS):Option (PyData×DS):=(a τ).bind fun p=>(b p.2).bind fun q=>(F p.1 q.1).map fun d=>(d,q.2)
theorem QP{fr fa fb:Bool}{r:R2}{F:PyData->PyData->Option PyData}{ta tb:TE}{a b:DX}(h:OR K fr r F)(ha:E K ta fa a)(hb:E K tb fb b):E K (tOp r ta tb) fr (dOp F a b):=by
 refine⟨fun τ d t7 e=>?_,?_⟩
 ·unfold dOp at e;obtain⟨⟨x,t5⟩,e1,e⟩:=oB e;obtain⟨⟨y,t9⟩,e2,e⟩:=oB e;obtain⟨z,e3,e⟩:=oM e;cases e;exact(ha.like _ _ _ e1).trans (hb.like _ _ _ e2)
 intro S M τ σ H Q d t7 rr e q
 unfold dOp at e
 obtain⟨⟨x,t5⟩,e1,e⟩:=oB e
 obtain⟨⟨y,t9⟩,e2,e⟩:=oB e
 obtain⟨z,e3,e⟩:=oM e
 cases e
 refine ha.run S M τ σ H _ x t5 rr e1 fun v1 H1 r1 c1 i1=>?_
 refine hb.run S M t5 σ H1 _ y t9 r1 e2 fun v2 H2 r2 c2 i2=>?_
 refine h S H2 v1 v2 x y d _ (fun _=>r2.fresh) ((rr.isr i1).mono (c2.keep r1.sub).same) (r1.isr i2) e3 fun v H' s res=>?_
 exact q v H' (r2.same s) ((c1.trans c2).trans (.of s)) (res.back r2 (c1.trans c2))
def UR(K:KW)(fr:Bool)(r:V->Hp->VK->Prop)(F:PyData->Option PyData):Prop:=∀(S:Addr->Prop) H x dx d (Q:VK),(∀a,H a=none->¬S a)->Is K (hid S H) dx x->F dx=some d->(∀v H',Same H H'->Res K fr S H H' d v->Q v H')->r x H Q
def dUn(F:PyData->Option PyData)(a:DX)(τ:DS):Option (PyData×DS):=(a τ).bind fun p=>(F p.1).map fun d=>(d,p.2)
theorem Z1{fr fa:Bool}{r:V->Hp->VK->Prop}{F:PyData->Option PyData}{ta:TE}{a:DX}(h:UR K fr r F)(ha:E K ta fa a):E K (tUn r ta) fr (dUn F a):=by
 refine⟨fun τ d t7 e=>?_,?_⟩
 ·unfold dUn at e;obtain⟨⟨x,t5⟩,e1,e⟩:=oB e;obtain⟨z,e3,e⟩:=oM e;cases e;exact ha.like _ _ _ e1
 intro S M τ σ H Q d t7 rr e q
 unfold dUn at e
 obtain⟨⟨x,t5⟩,e1,e⟩:=oB e
 obtain⟨z,e3,e⟩:=oM e
 cases e
 refine ha.run S M τ σ H _ x _ rr e1 fun v1 H1 r1 c1 i1=>?_
 refine h S H1 v1 x d _ (fun _=>r1.fresh) (rr.isr i1) e3 fun v H' s res=>?_
 exact q v H' (r1.same s) (c1.trans (.of s)) (res.back r1 c1)
def fI(g:Int->Int->PyData):PyData->PyData->Option PyData
 |.int i,.int j=>some (g i j)
 |_,_=>none
def fC(C:Int->Int->Prop)[∀i j,Decidable (C i j)](g:Int->Int->PyData):PyData->PyData->Option PyData
 |.int i,.int j=>if C i j then some (g i j) else none
 |_,_=>none
theorem R5{g:Int->Int->PyData}{x y d:PyData}(h:fI g x y=some d):∃i j,x = .int i/\y = .int j/\d=g i j:=by
 unfold fI at h
 split at h
 ·exact⟨_,_,rfl,rfl,(A' h).symm⟩
 ·cases h
theorem R6{C:Int->Int->Prop}[∀i j,Decidable (C i j)]{g:Int->Int->PyData}{x y d:PyData}(h:fC C g x y=some d):∃i j,x = .int i/\y = .int j/\C i j/\d=g i j:=by
 unfold fC at h
 split at h
 ·split at h
  ·rename_i hc;exact⟨_,_,rfl,rfl,hc,(A' h).symm⟩
  ·cases h
 ·cases h
theorem N0{g:Int->Int->V}{g':Int->Int->PyData}(h:∀i j H,Is K H (g' i j) (g i j)):OR K false (rI0 g) (fI g'):=by
 intro S H x y dx dy d Q _ ix iy e q
 obtain⟨i,j,rfl,rfl,rfl⟩:=R5 e
 exact⟨i,j,ix,iy,q _ H (fun _ _ e=>e) (h _ _ _)⟩
theorem RP{C:Int->Int->Prop}[∀i j,Decidable (C i j)]{g:Int->Int->V}{g':Int->Int->PyData}(h:∀i j H,Is K H (g' i j) (g i j)):OR K false (rI C g) (fC C g'):=by
 intro S H x y dx dy d Q _ ix iy e q
 obtain⟨i,j,rfl,rfl,c,rfl⟩:=R6 e
 exact⟨i,j,ix,iy,c,q _ H (fun _ _ e=>e) (h _ _ _)⟩
instance {i j:Int}:Decidable (CMulB i j):=by unfold CMulB CMul Bd;infer_instance
instance {i j:Int}:Decidable (L0 i j):=by unfold L0 Bd;infer_instance
instance {i j:Int}:Decidable (Qu i j):=by unfold Qu;infer_instance
def Ag:=fI fun i j=>.int (i+j)
def BJ:=fI fun i j=>.int (i-j)
def Gs:=fC CMulB fun i j=>.int (i*j)
def Af:=fC L0 fun i j=>.int (i / j)
def AW:=fC (fun _ j=>0<j) fun i j=>.int (i % j)
def OJ:=fC Qu fun i j=>.int (i ^ j.toNat)
def fLt:=fI fun i j=>.bool (decide (i<j))
def fLe:=fI fun i j=>.bool (decide (i<=j))
def fGt:=fI fun i j=>.bool (decide (j<i))
def fGe:=fI fun i j=>.bool (decide (j<=i))
theorem Xw:OR K false (rI0 fun i j=>.int (i+j)) Ag:=N0 fun _ _ _=>rfl
theorem Xi:OR K false (rI0 fun i j=>.int (i-j)) BJ:=N0 fun _ _ _=>rfl
theorem Xm:OR K false (rI CMulB fun i j=>.int (i*j)) Gs:=RP fun _ _ _=>rfl
theorem Xu:OR K false (rI L0 fun i j=>.int (i / j)) Af:=RP fun _ _ _=>rfl
theorem Xn:OR K false (rI (fun _ j=>0<j) fun i j=>.int (i % j)) AW:=RP fun _ _ _=>rfl
theorem Xj:OR K false (rI Qu fun i j=>.int (i ^ j.toNat)) OJ:=RP fun _ _ _=>rfl
theorem Zm:OR K false (rI0 fun i j=>.bl (decide (i<j))) fLt:=N0 fun _ _ _=>rfl
theorem Zn:OR K false (rI0 fun i j=>.bl (decide (i<=j))) fLe:=N0 fun _ _ _=>rfl
theorem Zo:OR K false (rI0 fun i j=>.bl (decide (j<i))) fGt:=N0 fun _ _ _=>rfl
theorem Zp:OR K false (rI0 fun i j=>.bl (decide (j<=i))) fGe:=N0 fun _ _ _=>rfl
def En:PyData->Option PyData
 |.int i=>some (.int (-i))
 |_=>none
theorem W0:UR K false (rU fun i=>.int (-i)) En:=by
 intro S H x dx d Q _ ix e q
 unfold En at e
 split at e
 ·cases e;exact⟨_,ix,q _ H (fun _ _ e=>e) rfl⟩
 ·cases e
def fEq(x y:PyData):Option PyData:=if okD x&&okD y then some (.bool (PyData.eqv x y)) else none
def fNe(x y:PyData):Option PyData:=if okD x&&okD y then some (.bool (!PyData.eqv x y)) else none
theorem Zq:OR K false (Q7 K) fEq:=by
 intro S H x y dx dy d Q _ ix iy e q
 unfold fEq at e
 split at e
 ·rename_i h
  rw[K']at h
  cases e
  exact⟨dx,dy,ix.mono same_hid,iy.mono same_hid,h.1,h.2,q _ H (fun _ _ e=>e) rfl⟩
 ·cases e
theorem Zl:OR K false (Q5 K) fNe:=by
 intro S H x y dx dy d Q _ ix iy e q
 unfold fNe at e
 split at e
 ·rename_i h
  rw[K']at h
  cases e
  exact⟨dx,dy,ix.mono same_hid,iy.mono same_hid,h.1,h.2,q _ H (fun _ _ e=>e) rfl⟩
 ·cases e
def fIn(neg:Bool)(x:PyData):PyData->Option PyData
 |.list es=>if okD x&&okD (.list es) then some (.bool (if neg then !(es.any fun y=>PyData.eqv y x) else es.any fun y=>PyData.eqv y x)) else none
 |.tuple es=>if okD x&&okD (.list es) then some (.bool (if neg then !(es.any fun y=>PyData.eqv y x) else es.any fun y=>PyData.eqv y x)) else none
 |_=>none
theorem Xt{neg:Bool}:OR K false (MD K neg) (fIn neg):=by
 intro S H x y dx dy d Q _ ix iy e q
 unfold fIn at e
 split at e
 ·split at e
  ·rename_i h
   rw[K']at h
   cases e
   exact⟨dx,_,ix.mono same_hid,.inl (iy.mono same_hid),h.1,h.2,q _ H (fun _ _ e=>e) rfl⟩
  ·cases e
 ·split at e
  ·rename_i h
   rw[K']at h
   cases e
   exact⟨dx,_,ix.mono same_hid,.inr (iy.mono same_hid),h.1,h.2,q _ H (fun _ _ e=>e) rfl⟩
  ·cases e
 ·cases e
def JZ:PyData->Bool
 |.none=>true
 |_=>false
def Gg(x y:PyData):Option PyData:=match y with
 |.none=>some (.bool (JZ x))
 |_=>none
def Iw(x y:PyData):Option PyData:=match y with
 |.none=>some (.bool (!JZ x))
 |_=>none
theorem VC{H:Hp}{x:PyData}{v:V}(h:Is K H x v):decide (v=V.non)=JZ x:=by
 cases x with
 |none=>rw[show v = .non from h];rfl
 |bool b=>rw[show v = .bl b from h];rfl
 |int b=>rw[show v = .int b from h];rfl
 |str b=>rw[show v = .str b from h];rfl
 |list b=>obtain⟨a,vs,rfl,_⟩:=h;rfl
 |tuple b=>obtain⟨a,vs,rfl,_⟩:=h;rfl
 |dict b=>obtain⟨a,ts,rfl,_⟩:=h;rfl
theorem Xr:OR K false (fun x y H Q=>y = .non/\Q (.bl (decide (x = .non))) H) Gg:=by
 intro S H x y dx dy d Q _ ix iy e q
 unfold Gg at e
 split at e
 ·cases e
  refine⟨iy,?_⟩
  rw[VC ix]
  exact q _ H (fun _ _ e=>e) rfl
 ·cases e
def A6:PyData->PyData->Option PyData
 |.list xs,.int i=>atI xs i
 |_,_=>none
def AK:PyData->PyData->Option PyData
 |.tuple xs,.int i=>atI xs i
 |_,_=>none
theorem MV{H:Hp}{ds:List PyData}{vs:List V}{i:Int}{d:PyData}(h:IsL K H ds vs)(e:atI ds i=some d):∃v,atI vs i=some v/\Is K H d v:=by
 unfold atI at e ⊢
 rw[h.length]
 cases q:ixN ds.length i with
 |none=>rw[q]at e;cases e
 |some j =>
  rw[q]at e
  exact h.get (show ds[j]?=some d from e)
theorem Xq:OR K false (Nu K) A6:=by
 intro S H x y dx dy d Q _ ix iy e q
 unfold A6 at e
 split at e
 ·obtain⟨a,vs,rfl,h,l⟩:=ix
  obtain⟨v,h1,h2⟩:=MV l e
  exact⟨a,vs,_,v,rfl,iy,SqL.of (hid_iff.mp h).2,h1,q _ H (fun _ _ e=>e) h2⟩
 ·cases e
theorem Xo:OR K false (Q6 K) AK:=by
 intro S H x y dx dy d Q _ ix iy e q
 unfold AK at e
 split at e
 ·obtain⟨a,vs,rfl,h,l⟩:=ix
  obtain⟨v,h1,h2⟩:=MV l e
  exact⟨a,vs,_,v,rfl,iy,Same.tup same_hid h,h1,q _ H (fun _ _ e=>e) h2⟩
 ·cases e
def OL:PyData->PyData->Option PyData
 |.list xs,.list ys=>if xs.length+ys.length<=sizeLine then some (.list (xs++ys)) else none
 |_,_=>none
theorem DZ{H:Hp}:∀{xs ys:List PyData} {vs us:List V},IsL K H xs vs->IsL K H ys us->IsL K H (xs++ys) (vs++us)
 |[],_,_,_,h,k=>by rw[show _=[] from h];exact k
 |_::_,_,_,_,⟨x,xs,e,h,l⟩,k=>by subst e;exact⟨x,_,rfl,h,DZ l k⟩
theorem FG{S:Addr->Prop}{H:Hp}{xs:List PyData}{vs:List V}{p:Addr}(hp:H p=none)(l:IsL K (hid S H) xs vs):Res K true S H (upd H p (.lst vs)) (.list xs) (.ref p):=by
 refine⟨.l xs,p,_,rfl,rfl,hp,Ac,vs,rfl,l.mono (Keep.same fun b o hn e=>?_)⟩
 have:b≠p:=Ai e hp
 exact⟨fun z=>z.elim hn this,by rw[An this];exact e⟩
theorem Xv:OR K true XS OL:=by
 intro S H x y dx dy d Q _ ix iy e q
 unfold OL at e
 split at e
 ·split at e
  ·rename_i hz
   cases e
   obtain⟨a,vs,rfl,h,l⟩:=ix
   obtain⟨b,us,rfl,h',l'⟩:=iy
   refine⟨a,b,vs,us,rfl,rfl,(hid_iff.mp h).2,(hid_iff.mp h').2,by rw[l.length,l'.length];exact hz,fun p hp=>?_⟩
   exact q _ _ (Ay hp _) (FG hp (DZ l l'))
  ·cases e
 ·cases e
def AE(a:DX)(τ:DS):Option (Bool×DS):=(a τ).bind fun p=>match p.1 with
 |.bool b=>some (b,p.2)
 |_=>none
theorem Ce{fr:Bool}{t:TE}{a:DX}(h:E K t fr a):T K (Oq t) (AE a):=by
 refine⟨fun τ d t7 e=>?_,?_⟩
 ·unfold AE at e;obtain⟨⟨x,t5⟩,e1,e⟩:=oB e;dsimp only at e;split at e
  ·cases e;exact h.like _ _ _ e1
  ·cases e
 intro S M τ σ H Q b t7 r e q
 unfold AE at e
 obtain⟨⟨x,t5⟩,e1,e⟩:=oB e
 dsimp only at e
 split at e
 ·cases e
  refine h.run S M τ σ H _ _ _ r e1 fun v H' r' c i=>?_
  exact⟨b,(show v = .bl b from r.isr i),q H' r' c⟩
 ·cases e
theorem W4{fr:Bool}{t:TE}{a:DX}(h:E K t fr a):T K (tB t) (AE a):=Ce h
def BI(a b:DT)(τ:DS):Option (Bool×DS):=(a τ).bind fun p=>if p.1=true then b p.2 else some (false,p.2)
def Be(a b:DT)(τ:DS):Option (Bool×DS):=(a τ).bind fun p=>if p.1=true then some (true,p.2) else b p.2
def Am(a:DT)(τ:DS):Option (Bool×DS):=(a τ).map fun p=>(!p.1,p.2)
theorem W7{ta tb:TT}{a b:DT}(ha:T K ta a)(hb:T K tb b):T K (XE ta tb) (BI a b):=by
 refine⟨fun τ d t7 e=>?_,?_⟩
 ·unfold BI at e;obtain⟨⟨c,t5⟩,e1,e⟩:=oB e;cases c with
  |true=>exact(ha.like _ _ _ e1).trans (hb.like _ _ _ e)
  |false=>cases e;exact ha.like _ _ _ e1
 intro S M τ σ H Q k t7 r e q
 unfold BI at e
 obtain⟨⟨c,t5⟩,e1,e⟩:=oB e
 refine ha.run S M τ σ H _ c t5 r e1 fun H1 r1 c1=>?_
 cases c with
 |true=>exact hb.run S M t5 σ H1 _ k t7 r1 e fun H2 r2 c2=>q H2 r2 (c1.trans c2)
 |false=>cases e;exact q H1 r1 c1
theorem Zg{ta tb:TT}{a b:DT}(ha:T K ta a)(hb:T K tb b):T K (tOr ta tb) (Be a b):=by
 refine⟨fun τ d t7 e=>?_,?_⟩
 ·unfold Be at e;obtain⟨⟨c,t5⟩,e1,e⟩:=oB e;cases c with
  |false=>exact(ha.like _ _ _ e1).trans (hb.like _ _ _ e)
  |true=>cases e;exact ha.like _ _ _ e1
 intro S M τ σ H Q k t7 r e q
 unfold Be at e
 obtain⟨⟨c,t5⟩,e1,e⟩:=oB e
 refine ha.run S M τ σ H _ c t5 r e1 fun H1 r1 c1=>?_
 cases c with
 |false=>exact hb.run S M t5 σ H1 _ k t7 r1 e fun H2 r2 c2=>q H2 r2 (c1.trans c2)
 |true=>cases e;exact q H1 r1 c1
theorem W5{ta:TT}{a:DT}(ha:T K ta a):T K (XC ta) (Am a):=by
 refine⟨fun τ d t7 e=>?_,?_⟩
 ·unfold Am at e;obtain⟨⟨c,t5⟩,e1,e⟩:=oM e;cases e;exact ha.like _ _ _ e1
 intro S M τ σ H Q k t7 r e q
 unfold Am at e
 obtain⟨⟨c,t5⟩,e1,e⟩:=oM e
 cases e
 exact ha.run S M τ σ H _ c _ r e1 fun H1 r1 c1=>q H1 r1 c1
def dIf(c:DT)(a b:DX)(τ:DS):Option (PyData×DS):=(c τ).bind fun p=>if p.1=true then a p.2 else b p.2
theorem Z6{fr:Bool}{tc:TT}{ta tb:TE}{c:DT}{a b:DX}(hc:T K tc c)(ha:E K ta fr a)(hb:E K tb fr b):E K (tIf tc ta tb) fr (dIf c a b):=by
 refine⟨fun τ d t7 e=>?_,?_⟩
 ·unfold dIf at e;obtain⟨⟨c,t5⟩,e1,e⟩:=oB e;cases c with
  |true=>exact(hc.like _ _ _ e1).trans (ha.like _ _ _ e)
  |false=>exact(hc.like _ _ _ e1).trans (hb.like _ _ _ e)
 intro S M τ σ H Q d t7 r e q
 unfold dIf at e
 obtain⟨⟨k,t5⟩,e1,e⟩:=oB e
 refine hc.run S M τ σ H _ k t5 r e1 fun H1 r1 c1=>?_
 cases k with
 |true=>exact ha.run S M t5 σ H1 _ d t7 r1 e fun v H2 r2 c2 i=>q v H2 r2 (c1.trans c2) (i.back r1 c1)
 |false=>exact hb.run S M t5 σ H1 _ d t7 r1 e fun v H2 r2 c2 i=>q v H2 r2 (c1.trans c2) (i.back r1 c1)
def Br(a b:DX)(τ:DS):Option (PyData×DS):=(AE a τ).bind fun p=>if p.1=true then b p.2 else some (.bool false,p.2)
def dOr(a b:DX)(τ:DS):Option (PyData×DS):=(AE a τ).bind fun p=>if p.1=true then some (.bool true,p.2) else b p.2
def Hn(a:DX)(τ:DS):Option (PyData×DS):=(AE a τ).map fun p=>(.bool (!p.1),p.2)
theorem Yh{fa fb:Bool}{ta tb:TE}{a b:DX}(ha:E K ta fa a)(hb:E K tb fb b):E K (TF ta tb) false (Br a b):=by
 refine⟨fun τ d t7 e=>?_,?_⟩
 ·unfold Br at e;obtain⟨⟨c,t5⟩,e1,e⟩:=oB e;cases c with
  |true=>exact((Ce ha).like _ _ _ e1).trans (hb.like _ _ _ e)
  |false=>cases e;exact(Ce ha).like _ _ _ e1
 intro S M τ σ H Q d t7 r e q
 unfold Br at e
 obtain⟨⟨k,t5⟩,e1,e⟩:=oB e
 refine(Ce ha).run S M τ σ H (fun c H1=>if c=true then tb σ H1 Q else Q (.bl false) H1) k t5 r e1 fun H1 r1 c1=>?_
 cases k with
 |true=>exact hb.weak.run S M t5 σ H1 _ d t7 r1 e fun v H2 r2 c2 i=>q v H2 r2 (c1.trans c2) i
 |false=>cases e;exact q _ H1 r1 c1 rfl
theorem Z3{fa fb:Bool}{ta tb:TE}{a b:DX}(ha:E K ta fa a)(hb:E K tb fb b):E K (XB ta tb) false (dOr a b):=by
 refine⟨fun τ d t7 e=>?_,?_⟩
 ·unfold dOr at e;obtain⟨⟨c,t5⟩,e1,e⟩:=oB e;cases c with
  |false=>exact((Ce ha).like _ _ _ e1).trans (hb.like _ _ _ e)
  |true=>cases e;exact(Ce ha).like _ _ _ e1
 intro S M τ σ H Q d t7 r e q
 unfold dOr at e
 obtain⟨⟨k,t5⟩,e1,e⟩:=oB e
 refine(Ce ha).run S M τ σ H (fun c H1=>if c=true then Q (.bl true) H1 else tb σ H1 Q) k t5 r e1 fun H1 r1 c1=>?_
 cases k with
 |false=>exact hb.weak.run S M t5 σ H1 _ d t7 r1 e fun v H2 r2 c2 i=>q v H2 r2 (c1.trans c2) i
 |true=>cases e;exact q _ H1 r1 c1 rfl
theorem YS{fa:Bool}{ta:TE}{a:DX}(ha:E K ta fa a):E K (S8 ta) false (Hn a):=by
 refine⟨fun τ d t7 e=>?_,?_⟩
 ·unfold Hn at e;obtain⟨⟨c,t5⟩,e1,e⟩:=oM e;cases e;exact(Ce ha).like _ _ _ e1
 intro S M τ σ H Q d t7 r e q
 unfold Hn at e
 obtain⟨⟨k,t5⟩,e1,e⟩:=oM e
 cases e
 exact(Ce ha).run S M τ σ H (fun c H1=>Q (.bl (!c)) H1) k _ r e1 fun H1 r1 c1=>q _ H1 r1 c1 rfl
def BH(F G:PyData->PyData->Option PyData)(a b c:DX)(τ:DS):Option (PyData×DS):=(a τ).bind fun p=>(b p.2).bind fun q=>(F p.1 q.1).bind fun z=>match z with
 |.bool true=>(c q.2).bind fun s=>(G q.1 s.1).map fun d=>(d,s.2)
 |.bool false=>some (.bool false,q.2)
 |_=>none
theorem NX{fa fb fc:Bool}{r r':R2}{F G:PyData->PyData->Option PyData}{ta tb tc:TE}{a b c:DX}(h:OR K false r F)(h':OR K false r' G)(ha:E K ta fa a)(hb:E K tb fb b)(hc:E K tc fc c):E K (L8 r r' ta tb tc) false (BH F G a b c):=by
 refine⟨fun τ d t7 e=>?_,?_⟩
 ·unfold BH at e;obtain⟨⟨x,t5⟩,e1,e⟩:=oB e;obtain⟨⟨y,t9⟩,e2,e⟩:=oB e;obtain⟨z,e3,e⟩:=oB e;split at e
  ·obtain⟨⟨w,l8⟩,e4,e⟩:=oB e;obtain⟨z,e5,e⟩:=oM e;cases e;exact((ha.like _ _ _ e1).trans (hb.like _ _ _ e2)).trans (hc.like _ _ _ e4)
  ·cases e;exact(ha.like _ _ _ e1).trans (hb.like _ _ _ e2)
  ·cases e
 intro S M τ σ H Q d t7 rr e q
 unfold BH at e
 obtain⟨⟨x,t5⟩,e1,e⟩:=oB e
 obtain⟨⟨y,t9⟩,e2,e⟩:=oB e
 obtain⟨z,e3,e⟩:=oB e
 refine ha.run S M τ σ H _ x t5 rr e1 fun v1 H1 r1 c1 i1=>?_
 refine hb.run S M t5 σ H1 _ y t9 r1 e2 fun v2 H2 r2 c2 i2=>?_
 have j2:=r1.isr i2
 refine h S H2 v1 v2 x y z _ (fun _=>r2.fresh) ((rr.isr i1).mono (c2.keep r1.sub).same) j2 e3 fun v H3 s res=>?_
 have r3:=r2.same s
 have c3:Chg M H H3:=(c1.trans c2).trans (.of s)
 split at e
 ·obtain⟨⟨w,l8⟩,e4,e⟩:=oB e
  obtain⟨z,e5,e⟩:=oM e
  cases e
  refine⟨true,res,?_⟩
  refine hc.run S M t9 σ H3 _ w _ r3 e4 fun v4 H4 r4 c4 i4=>?_
  refine h' S H4 v2 v4 y w d _ (fun _=>r4.fresh) ((j2.mono (Same.keep s).same).mono (c4.keep r3.sub).same) (r3.isr i4) e5 fun v5 H5 s5 res5=>?_
  exact q v5 H5 (r4.same s5) ((c3.trans c4).trans (.of s5)) res5
 ·cases e
  exact⟨false,res,q _ H3 r3 c3 rfl⟩
 ·cases e
variable {K:KW}
def AD(τ:DS):Option (List Ar×DS):=some ([],τ)
def AA(a:DX)(r:DA)(τ:DS):Option (List Ar×DS):=(a τ).bind fun p=>(r p.2).map fun q=>(.d p.1::q.1,q.2)
theorem Nl:A K Eo AD:=by
 refine⟨fun τ d t7 e=>?_,?_⟩
 ·cases e;exact .refl
 intro S M τ σ H Q rs t7 r e q
 cases e
 exact q [] H r .refl rfl
theorem Wr{fr:Bool}{te:TE}{t:TA}{a:DX}{f:DA}(ha:E K te fr a)(hr:A K t f):A K (Cs te t) (AA a f):=by
 refine⟨fun τ d t7 e=>?_,?_⟩
 ·unfold AA at e
  obtain⟨⟨x,t5⟩,e1,e⟩:=oB e
  obtain⟨⟨y,t9⟩,e2,e⟩:=oM e
  cases e
  exact(ha.like _ _ _ e1).trans (hr.like _ _ _ e2)
 intro S M τ σ H Q rs t7 r e q
 unfold AA at e
 obtain⟨⟨x,t5⟩,e1,e⟩:=oB e
 obtain⟨⟨y,t9⟩,e2,e⟩:=oM e
 cases e
 refine ha.run S M τ σ H _ x t5 r e1 fun v H1 r1 c1 i1=>?_
 refine hr.run S M t5 σ H1 _ y _ r1 e2 fun vs H2 r2 c2 i2=>?_
 exact q (v::vs) H2 r2 (c1.trans c2) ⟨v,vs,rfl,(r.isr i1).mono (c2.keep r1.sub).same,i2⟩
def Aq:List Ar->Option (List PyData)
 |[]=>some []
 |.d x::r=>(Aq r).map (x::·)
 |.s _::_=>none
theorem CV{S:Addr->Prop}{σ:St}{H:Hp}:∀{rs:List Ar} {vs:List V} {ds:List PyData},Sz K S σ H rs vs->Aq rs=some ds->IsL K (hid S H) ds vs
 |[],_,_,h,e=>by cases e;exact h
 |.d x::r,_,_,⟨v,us,e1,h,l⟩,e=>by
  obtain⟨ds,e2,e⟩:=oM e
  cases e
  exact⟨v,us,e1,h,CV l e2⟩
 |.s _::_,_,_,_,e=>by cases e
def Aa(a:DA)(τ:DS):Option (PyData×DS):=(a τ).bind fun p=>(Aq p.1).bind fun ds=>if ds.length<=sizeLine then some (.tuple ds,p.2) else none
def C7(a:DA)(τ:DS):Option (PyData×DS):=(a τ).bind fun p=>(Aq p.1).bind fun ds=>if ds.length<=sizeLine then some (.list ds,p.2) else none
theorem YM{t:TA}{a:DA}(ha:A K t a):E K (W9 t) false (Aa a):=by
 refine⟨fun τ d t7 e=>?_,?_⟩
 ·unfold Aa at e
  obtain⟨⟨x,t5⟩,e1,e⟩:=oB e
  obtain⟨ds,e2,e⟩:=oB e
  split at e
  ·cases e;exact ha.like _ _ _ e1
  ·cases e
 intro S M τ σ H Q d t7 r e q
 unfold Aa at e
 obtain⟨⟨x,t5⟩,e1,e⟩:=oB e
 obtain⟨ds,e2,e⟩:=oB e
 split at e
 ·rename_i hz
  cases e
  refine ha.run S M τ σ H _ x _ r e1 fun vs H1 r1 c1 i1=>?_
  have l:=CV i1 e2
  refine⟨by rw[l.length];exact hz,fun p hp=>?_⟩
  have s:=Ay hp (HO.tup vs)
  exact q _ _ (r1.same s) (c1.trans (.of s)) ⟨p,vs,rfl,SqT.of (hid_iff.mpr ⟨r1.fresh hp,Ac⟩),l.mono (Same.keep s).same⟩
 ·cases e
theorem YV{t:TA}{a:DA}(ha:A K t a):E K (T2 t) true (C7 a):=by
 refine⟨fun τ d t7 e=>?_,?_⟩
 ·unfold C7 at e
  obtain⟨⟨x,t5⟩,e1,e⟩:=oB e
  obtain⟨ds,e2,e⟩:=oB e
  split at e
  ·cases e;exact ha.like _ _ _ e1
  ·cases e
 intro S M τ σ H Q d t7 r e q
 unfold C7 at e
 obtain⟨⟨x,t5⟩,e1,e⟩:=oB e
 obtain⟨ds,e2,e⟩:=oB e
 split at e
 ·rename_i hz
  cases e
  refine ha.run S M τ σ H _ x _ r e1 fun vs H1 r1 c1 i1=>?_
  have l:=CV i1 e2
  refine⟨by rw[l.length];exact hz,fun p hp=>?_⟩
  have s:=Ay hp (HO.lst vs)
  exact q _ _ (r1.same s) (c1.trans (.of s)) ((FG hp l).back r1 c1)
 ·cases e
def BR(K:KW)(fr:Bool)(r:List V->Hp->VK->Prop)(F:List PyData->Option PyData):Prop:=∀(S:Addr->Prop) H vs ds d (Q:VK),(∀a,H a=none->¬S a)->IsL K (hid S H) ds vs->F ds=some d->(∀v H',Same H H'->Res K fr S H H' d v->Q v H')->r vs H Q
def AN(F:List PyData->Option PyData)(a:DA)(τ:DS):Option (PyData×DS):=(a τ).bind fun p=>(Aq p.1).bind fun ds=>(F ds).map fun d=>(d,p.2)
theorem Yg{fr:Bool}{r:List V->Hp->VK->Prop}{F:List PyData->Option PyData}{t:TA}{a:DA}(h:BR K fr r F)(ha:A K t a):E K (tCB r t) fr (AN F a):=by
 refine⟨fun τ d t7 e=>?_,?_⟩
 ·unfold AN at e
  obtain⟨⟨x,t5⟩,e1,e⟩:=oB e
  obtain⟨ds,e2,e⟩:=oB e
  obtain⟨z,e3,e⟩:=oM e
  cases e;exact ha.like _ _ _ e1
 intro S M τ σ H Q d t7 rr e q
 unfold AN at e
 obtain⟨⟨x,t5⟩,e1,e⟩:=oB e
 obtain⟨ds,e2,e⟩:=oB e
 obtain⟨z,e3,e⟩:=oM e
 cases e
 refine ha.run S M τ σ H _ x _ rr e1 fun vs H1 r1 c1 i1=>?_
 refine h S H1 vs ds d _ (fun _=>r1.fresh) (CV i1 e2) e3 fun v H' s res=>?_
 exact q v H' (r1.same s) (c1.trans (.of s)) (res.back r1 c1)
def spD(K:KW)(G:List L->Option (PyData×List L))(fr:Bool):Sp:=fun vs H Q _=>∃(S M:Addr->Prop) (ls:List L) (r:PyData) (ls':List L),R K S M (ls.map some) (vs.map some) H/\G ls=some (r,ls') /\
 ∀v H',R K S M (ls'.map some) (vs.map some) H'->Chg M H H'->Res K fr S H H' r v->Q v H'
theorem PD{S M:Addr->Prop}{τ:DS}{σ:St}{H:Hp}(r:R K S M τ σ H){ds:List PyData}{vs:List V}(l:IsL K (hid S H) ds vs):R K S (fun _=>False) ((ds.map L.d).map some) (vs.map some) H where
 len:=by rw[B',B',B',l.length]
 dat:=fun i x e=>by
  rw[G',G']at e
  cases q:ds[i]? with
  |none=>rw[q]at e;cases e
  |some d =>
   rw[q]at e
   cases e
   obtain⟨v,h1,h2⟩:=l.get q
   exact⟨v,by rw[G',h1];rfl,h2⟩
 mt:=fun i o e=>by
  rw[G',G']at e
  cases q:ds[i]? with
  |none=>rw[q]at e;cases e
  |some d=>rw[q]at e;cases o<;>cases e
 cst:=fun i xs e=>by
  rw[G',G']at e
  cases q:ds[i]? with
  |none=>rw[q]at e;cases e
  |some d=>rw[q]at e;cases e
 inj:=fun i j o p a e=>by
  rw[G',G']at e
  cases q:ds[i]? with
  |none=>rw[q]at e;cases e
  |some d=>rw[q]at e;cases o<;>cases e
 sub:=fun a h=>h.elim
 ex:=r.ex
 gr:=GR.nil fun i d e=>by
  rw[G',G']at e
  cases q:ds[i]? with
  |none=>rw[q]at e;cases e
  |some d=>rw[q]at e;cases e
def AH(G:List L->Option (PyData×List L))(a:DA)(τ:DS):Option (PyData×DS):=(a τ).bind fun p=>(Aq p.1).bind fun ds=>(G (ds.map L.d)).map fun q=>(q.1,p.2)
theorem Kq{fr:Bool}{G:List L->Option (PyData×List L)}{t:TA}{a:DA}{X:XK}(ha:A K t a):E K (F6 (spD K G fr) [] X t) fr (AH G a):=by
 refine⟨fun τ d t7 e=>?_,?_⟩
 ·unfold AH at e
  obtain⟨⟨x,t5⟩,e1,e⟩:=oB e
  obtain⟨ds,e2,e⟩:=oB e
  obtain⟨z,e3,e⟩:=oM e
  cases e;exact ha.like _ _ _ e1
 intro S M τ σ H Q d t7 rr e q
 unfold AH at e
 obtain⟨⟨x,t5⟩,e1,e⟩:=oB e
 obtain⟨ds,e2,e⟩:=oB e
 obtain⟨⟨z,ls'⟩,e3,e⟩:=oM e
 cases e
 refine ha.run S M τ σ H _ x _ rr e1 fun vs H1 r1 c1 i1=>?_
 have l:=CV i1 e2
 show spD K G fr (vs++[]) H1 Q X
 rw[bD]
 refine⟨S,fun _=>False,ds.map L.d,_,ls',PD r1 l,e3,fun v H' _ c res=>?_⟩
 have s:Same H1 H':=fun b o e=>c b o (fun z=>z) e
 exact q v H' (r1.same s) (c1.trans (.of s)) (res.back r1 c1)
theorem Hs{a b:Ow}(h:some (some a.L)=some (some b.L)):a=b:=Ow.inj (A' (A' h))
theorem R.setO{S M:Addr->Prop}{τ:DS}{σ:St}{H H':Hp}(r:R K S M τ σ H){i:Nat}{a:Addr}{w w':Ow}{h:HO}(hi:τ[i]?=some (some w.L))(ha:σ[i]?=some (some (.ref a)))
  (c:Chg (fun b=>b=a) H H') (h':H' a=some h) (l:IsO K (hid S H') w' a h):R K S M (τ.set i (some w'.L)) σ H':=by
 have hlt:i<τ.length:=(F'.mp hi).1
 have Sa:S a:=by
  obtain⟨b,us,h1,h2,_⟩:=r.mt i w hi
  rw[ha]at h1;cases h1
  exact r.sub _ h2
 have k:Keep S H S H':=c.keep fun b e=>by subst e;exact Sa
 have ne:∀j,j≠i->(τ.set i (some w'.L))[j]?=τ[j]?:=fun j hj=>Y' (Ne.symm hj)
 have se:(τ.set i (some w'.L))[i]?=some (some w'.L):=U' hlt
 refine⟨by rw[aU];exact r.len,fun j x e=>?_,fun j ys e=>?_,fun j x e=>?_,fun j1 j2 ys zs b e1 e2 f1 f2=>?_,r.sub,fun b hb=>?_,r.gr.to (fun j d e=>?_) (fun j o b e q=>?_) (fun b hb hn=>⟨hb,?_⟩) (tsS k.same)⟩
 ·by_cases hj:j=i
  ·subst hj;rw[se]at e;exact absurd (A' (A' e)) Ow.not_d
  ·rw[ne j hj]at e
   obtain⟨v,h1,h2⟩:=r.dat j x e
   exact⟨v,h1,h2.mono k.same⟩
 ·by_cases hj:j=i
  ·subst hj
   rw[se]at e
   obtain rfl:=Ow.inj (A' (A' e))
   obtain⟨b,us,h1,h2,_⟩:=r.mt j w hi
   rw[ha]at h1;cases h1
   exact⟨a,h,ha,h2,h',l⟩
  ·rw[ne j hj]at e
   obtain⟨b,us,h1,h2,h3,h4⟩:=r.mt j ys e
   refine⟨b,us,h1,h2,c b _ (fun z=>?_) h3,h4.mono k.same⟩
   subst z
   exact hj (r.inj j i ys w b e hi h1 ha)
 ·by_cases hj:j=i
  ·subst hj;rw[se]at e;exact absurd (A' (A' e)) Ow.not_c
  ·rw[ne j hj]at e
   obtain⟨b,us,h1,h2,h3⟩:=r.cst j x e
   exact⟨b,us,h1,k.same.seq h2,h3.mono k.same⟩
 ·have g:∀(j:Nat) (ys:Ow),(τ.set i (some w'.L))[j]?=some (some ys.L)->∃zs:Ow,τ[j]?=some (some zs.L):=fun j ys e=>by
   by_cases hj:j=i
   ·subst hj;exact⟨_,hi⟩
   ·rw[ne j hj]at e;exact⟨_,e⟩
  obtain⟨_,g1⟩:=g j1 ys e1
  obtain⟨_,g2⟩:=g j2 zs e2
  exact r.inj _ _ _ _ b g1 g2 f1 f2
 ·by_cases e:b=a
  ·subst e;exact⟨_,h'⟩
  ·obtain⟨o,q⟩:=r.ex b hb
   exact⟨o,c b o e q⟩
 ·by_cases hj:j=i
  ·subst hj;rw[se]at e;exact absurd (A' (A' e)) Ow.not_g
  ·rw[ne j hj]at e;exact⟨e,rfl⟩
 ·by_cases hj:j=i
  ·subst hj;exact .inl ⟨w,hi,q⟩
  ·rw[ne j hj]at e;exact .inl ⟨o,e,q⟩
 ·obtain⟨o,e⟩:=r.ex b (r.sub b hb)
  rw[e];exact c b o (fun z=>hn i w hi (by rw[z];exact ha)) e
theorem R.setM{S M:Addr->Prop}{τ:DS}{σ:St}{H H':Hp}(r:R K S M τ σ H){i:Nat}{a:Addr}{xs xs':List PyData}{vs:List V}(hi:τ[i]?=some (some (.m xs)))(ha:σ[i]?=some (some (.ref a)))
  (c:Chg (fun b=>b=a) H H') (h':H' a=some (.lst vs)) (l:IsL K (hid S H') xs' vs):R K S M (τ.set i (some (.m xs'))) σ H':=r.setO (w:=.l xs) (w':=.l xs') hi ha c h' ⟨vs,rfl,l⟩
theorem OB{τ:DS}{i:Nat}{w w':Ow}(hi:τ[i]?=some (some w.L))(hf:w.fl=w'.fl):Like τ (τ.set i (some w'.L)):=by
 have hlt:i<τ.length:=(F'.mp hi).1
 refine⟨by rw[aU],fun j=>?_⟩
 by_cases hj:j=i
 ·subst hj
  rw[U' hlt,hi]
  exact⟨⟨fun x=>⟨fun z=>absurd (A' (A' z)) Ow.not_d,fun z=>absurd (A' (A' z)) Ow.not_d⟩,fun x=>⟨fun z=>absurd (A' (A' z)) Ow.not_c,fun z=>absurd (A' (A' z)) Ow.not_c⟩⟩,fun b=>⟨fun⟨o,h1,h2⟩=>⟨w,by rw[hf,Hs h2];exact h1,rfl⟩,fun⟨o,h1,h2⟩=>⟨w',by rw[<- hf,Hs h2];exact h1,rfl⟩⟩⟩
 ·rw[Y' (Ne.symm hj)]
  exact⟨⟨fun x=>bb,fun x=>bb⟩,fun b=>bb⟩
theorem Ju{τ:DS}{i:Nat}{xs xs':List PyData}(hi:τ[i]?=some (some (.m xs))):Like τ (τ.set i (some (.m xs'))):=OB (w:=.l xs) (w':=.l xs') hi rfl
def Fn(i:Nat)(G:List L->Option (PyData×List L))(a:DA)(τ:DS):Option (PyData×DS):=(a τ).bind fun p=>(Aq p.1).bind fun ds=>match p.2[i]? with
 |some (some (.m xs))=>(G (.m xs::ds.map L.d)).bind fun q=>match q.2 with
  |.m xs'::_=>some (q.1,p.2.set i (some (.m xs')))
  |_=>none
 |some (some (.k xs))=>(G (.k xs::ds.map L.d)).bind fun q=>match q.2 with
  |.k xs'::_=>some (q.1,p.2.set i (some (.k xs')))
  |_=>none
 |_=>none
def okM:Option L->Bool
 |some (.m xs)=>fixDs xs
 |some (.k kvs)=>fixDs (kvs.map (·.2))
 |_=>true
theorem IsKV.monoT{H H':Hp}(s:TSm H H'):∀{kvs:List (List Int×PyData)} {ts:List (List Int×Addr×V)},fixDs (kvs.map (·.2))=true->IsKV K H (Ja kvs) ts->IsKV K H' (Ja kvs) ts
 |[],_,_,h=>h
 |(k,d)::kvs,_,f,⟨t,tr,e,ek,hk,h,l⟩=>by
  rw[X',fixDs,K']at f
  exact⟨t,tr,e,ek,s.tup hk,Is.monoT s f.1 h,IsKV.monoT s (kvs:=kvs) f.2 l⟩
theorem IsO.monoT{H H':Hp}(s:TSm H H'):∀{o:Ow} {a:Addr} {h:HO},okM (some o.L)=true->IsO K H o a h->IsO K H' o a h
 |.l _,_,_,f,⟨vs,e,l⟩=>⟨vs,e,l.monoT s f⟩
 |.t _,_,_,f,⟨ts,e,l⟩=>⟨ts,e,IsKV.monoT s f l⟩
def OwH(h:HO):Prop:=(∃vs,h = .lst vs)\/∃φ,h = .ext φ
theorem IsO.ho{H:Hp}:∀{o:Ow} {a:Addr} {h:HO},IsO K H o a h->OwH h
 |.l _,_,_,⟨vs,e,_⟩=>.inl ⟨vs,e⟩
 |.t _,_,_,⟨ts,⟨ep,e⟩,_⟩=>.inr ⟨_,e⟩
def Bo(i:Nat)(f:DX)(τ:DS):Option (PyData×DS):=match τ[i]? with
 |some (some (.m xs))=>(f (τ.set i (some (.d (.list xs))))).bind fun q=>if Cb q.1&&q.2.all okM then some (q.1,q.2.set i (some (.m xs))) else none
 |some (some (.k xs))=>(f (τ.set i (some (.d (.dict (Ja xs)))))).bind fun q=>if Cb q.1&&q.2.all okM then some (q.1,q.2.set i (some (.k xs))) else none
 |_=>none
theorem Jx{i:Nat}{f:DX}{τ:DS}{d:PyData}{t7:DS}(e:Bo i f τ=some (d,t7)):∃w t5,τ[i]?=some (some (Ow.L w))/\f (τ.set i (some (.d w.D)))=some (d,t5)/\Cb d=true/\t5.all okM=true/\t7=t5.set i (some w.L):=by
 unfold Bo at e
 split at e
 ·rename_i xs hx
  obtain⟨⟨z,t5⟩,e1,e⟩:=oB e
  dsimp only at e
  split at e
  ·rename_i h
   rw[K']at h
   cases e
   exact⟨.l xs,t5,hx,e1,h.1,h.2,rfl⟩
  ·cases e
 ·rename_i xs hx
  obtain⟨⟨z,t5⟩,e1,e⟩:=oB e
  dsimp only at e
  split at e
  ·rename_i h
   rw[K']at h
   cases e
   exact⟨.t xs,t5,hx,e1,h.1,h.2,rfl⟩
  ·cases e
 ·cases e
theorem FD{S S':Addr->Prop}{H:Hp}(h:∀a,S' a->S a\/∃o,H a=some o/\OwH o):TSm (hid S H) (hid S' H):=fun b o e nl ne=>by
 obtain⟨e1,e2⟩:=hid_iff.mp e
 refine hid_iff.mpr ⟨fun z=>?_,e2⟩
 rcases h b z with z|⟨o',z,⟨vs,rfl⟩|⟨φ,rfl⟩⟩
 ·exact e1 z
 ·rw[e2]at z;cases z;exact nl _ rfl
 ·rw[e2]at z;cases z;exact ne _ rfl
theorem frz{S M:Addr->Prop}{τ:DS}{σ:St}{H:Hp}(r:R K S M τ σ H){i:Nat}{w:Ow}{p:Addr}(hi:τ[i]?=some (some w.L))(hp:σ[i]?=some (some (.ref p))) :
  R K (fun b=>S b/\b≠p) (fun b=>M b/\b≠p) (τ.set i (some (.d w.D))) σ H:=by
 have hlt:i<τ.length:=(F'.mp hi).1
 have ne:∀j,j≠i->(τ.set i (some (.d w.D)))[j]?=τ[j]?:=fun j hj=>Y' (Ne.symm hj)
 have se:(τ.set i (some (.d w.D)))[i]?=some (some (.d w.D)):=U' hlt
 have k:Same (hid S H) (hid (fun b=>S b/\b≠p) H):=EE fun a z=>z.1
 have mn:∀(j:Nat) (ys:Ow),(τ.set i (some (.d w.D)))[j]?=some (some ys.L)->j≠i/\τ[j]?=some (some ys.L):=fun j ys e=>by
  by_cases hj:j=i
  ·subst hj;rw[se]at e;exact absurd (A' (A' e)).symm Ow.not_d
  ·rw[ne j hj]at e;exact⟨hj,e⟩
 have cs:∀(j:Nat) (ys:List PyData),(τ.set i (some (.d w.D)))[j]?=some (some (.c ys))->τ[j]?=some (some (.c ys)):=fun j ys e=>by
  by_cases hj:j=i
  ·subst hj;rw[se]at e;cases e
  ·rw[ne j hj]at e;exact e
 refine⟨by rw[aU];exact r.len,fun j x e=>?_,fun j ys e=>?_,fun j ys e=>let ⟨a,vs,h1,h2,h3⟩:=r.cst j ys (cs j ys e);⟨a,vs,h1,k.seq h2,h3.mono k⟩,fun j1 j2 ys zs b e1 e2 f1 f2=>?_,fun a h=>⟨r.sub a h.1,h.2⟩,fun a h=>r.ex a h.1,r.gr.to (fun j d e=>?_) (fun j o b e q=>.inl ⟨o,(mn j o e).2,q⟩) (fun b hb hn=>⟨⟨hb,fun z=>hn i w hi (by rw[z];exact hp)⟩,rfl⟩) (tsS k)⟩
 ·by_cases hj:j=i
  ·subst hj
   rw[se]at e
   cases e
   obtain⟨b,us,h1,h2,h3,h4⟩:=r.mt j w hi
   rw[hp]at h1;cases h1
   exact⟨_,hp,IsO.is (h4.mono k) (hid_iff.mpr ⟨fun z=>z.2 rfl,h3⟩)⟩
  ·rw[ne j hj]at e
   obtain⟨v,h1,h2⟩:=r.dat j x e
   exact⟨v,h1,h2.mono k⟩
 ·obtain⟨hj,e⟩:=mn j ys e
  obtain⟨b,us,h1,h2,h3,h4⟩:=r.mt j ys e
  refine⟨b,us,h1,⟨h2,fun z=>?_⟩,h3,h4.mono k⟩
  subst z
  exact hj (r.inj j i ys w b e hi h1 hp)
 ·exact r.inj j1 j2 ys zs b (mn _ _ e1).2 (mn _ _ e2).2 f1 f2
 ·by_cases hj:j=i
  ·subst hj;rw[se]at e;cases e
  ·rw[ne j hj]at e;exact⟨e,rfl⟩
theorem Oe{S M:Addr->Prop}{τ t5:DS}{σ:St}{H H':Hp}(r:R K S M τ σ H){i:Nat}{w:Ow}{p:Addr}(hi:τ[i]?=some (some w.L))(hp:σ[i]?=some (some (.ref p)))
  (r1:R K (fun b=>S b/\b≠p) (fun b=>M b/\b≠p) t5 σ H') (lk:Like (τ.set i (some (.d w.D))) t5) (c:Chg (fun b=>M b/\b≠p) H H') (ok:t5.all okM=true):R K S M (t5.set i (some w.L)) σ H':=by
 have hlt:i<τ.length:=(F'.mp hi).1
 have hl1:t5.length=τ.length:=by have:=lk.1;rw[aU]at this;exact this
 have hlt1:i<t5.length:=by omega
 have ne:∀j,j≠i->(t5.set i (some w.L))[j]?=t5[j]?:=fun j hj=>Y' (Ne.symm hj)
 have se:(t5.set i (some w.L))[i]?=some (some w.L):=U' hlt1
 have ne0:∀j,j≠i->(τ.set i (some (.d w.D)))[j]?=τ[j]?:=fun j hj=>Y' (Ne.symm hj)
 obtain⟨b0,us,hb0,h2,h3,h4⟩:=r.mt i w hi
 rw[hp]at hb0;cases hb0
 have h3':H' p=some us:=c p _ (fun z=>z.2 rfl) h3
 have c':Chg M H H':=fun b o hn e=>c b o (fun z=>hn z.1) e
 have k:Keep S H S H':=c'.keep r.sub
 have ts:TSm (hid (fun b=>S b/\b≠p) H') (hid S H'):=FD fun a z=>by
  by_cases e:a=p
  ·subst e;exact .inr ⟨_,h3',h4.ho⟩
  ·exact .inl ⟨z,e⟩
 have mm:∀(j:Nat) (ys:Ow),j≠i->t5[j]?=some (some ys.L)->∃zs:Ow,τ[j]?=some (some zs.L):=fun j ys hj e=>by
  obtain⟨zs,q⟩:=(lk.own j).mp ⟨_,e⟩
  rw[ne0 j hj]at q
  exact⟨zs,q⟩
 have cs:∀(j:Nat) (ys:List PyData),(t5.set i (some w.L))[j]?=some (some (.c ys))->τ[j]?=some (some (.c ys)):=fun j ys e=>by
  by_cases hj:j=i
  ·subst hj;rw[se]at e;exact absurd (A' (A' e)) Ow.not_c
  ·rw[ne j hj]at e
   have:=((lk.2 j).1.2 ys).mp e
   rw[ne0 j hj]at this
   exact this
 refine⟨by rw[aU];exact r1.len,fun j x e=>?_,fun j ys e=>?_,fun j ys e=>let ⟨a,vs,h1,h2,h3⟩:=r.cst j ys (cs j ys e);⟨a,vs,h1,k.same.seq h2,h3.mono k.same⟩,fun j1 j2 ys zs b e1 e2 f1 f2=>?_,r.sub,fun a h=>?_,r1.gr.to (fun j d e=>?_) (fun j o b e q=>?_) (fun b hb hn=>⟨hb.1,rfl⟩) ts⟩
 ·by_cases hj:j=i
  ·subst hj;rw[se]at e;exact absurd (A' (A' e)) Ow.not_d
  ·rw[ne j hj]at e
   have:=((lk.2 j).1.1 x).mp e
   rw[ne0 j hj]at this
   obtain⟨v,h5,h6⟩:=r.dat j x this
   exact⟨v,h5,h6.mono k.same⟩
 ·by_cases hj:j=i
  ·subst hj
   rw[se]at e
   obtain rfl:=Hs e
   exact⟨p,us,hp,h2,h3',h4.mono k.same⟩
  ·rw[ne j hj]at e
   obtain⟨b,ws,h5,h6,h7,h8⟩:=r1.mt j ys e
   have fx:okM (some ys.L)=true:=aZ.mp ok (some ys.L) (aO e)
   exact⟨b,ws,h5,h6.1,h7,h8.monoT ts fx⟩
 ·have g:∀(j:Nat) (ys:Ow),(t5.set i (some w.L))[j]?=some (some ys.L)->∃zs:Ow,τ[j]?=some (some zs.L):=fun j ys e=>by
   by_cases hj:j=i
   ·subst hj;exact⟨_,hi⟩
   ·rw[ne j hj]at e;exact mm j ys hj e
  obtain⟨_,g1⟩:=g j1 ys e1
  obtain⟨_,g2⟩:=g j2 zs e2
  exact r.inj _ _ _ _ b g1 g2 f1 f2
 ·by_cases e:a=p
  ·subst e;exact⟨_,h3'⟩
  ·exact r1.ex a ⟨h,e⟩
 ·by_cases hj:j=i
  ·subst hj;rw[se]at e;exact absurd (A' (A' e)) Ow.not_g
  ·rw[ne j hj]at e;exact⟨e,rfl⟩
 ·by_cases hj:j=i
  ·subst hj
   rw[hp]at q;cases q
   exact .inr fun z=>z.2 rfl
  ·rw[ne j hj]at e;exact .inl ⟨o,e,q⟩
theorem Il{τ t5:DS}{i:Nat}{w:Ow}(hi:τ[i]?=some (some w.L))(lk:Like (τ.set i (some (.d w.D))) t5):Like τ (t5.set i (some w.L)):=by
 have hlt:i<τ.length:=(F'.mp hi).1
 have hl1:t5.length=τ.length:=by have:=lk.1;rw[aU]at this;exact this
 refine⟨by rw[aU];exact hl1,fun j=>?_⟩
 by_cases hj:j=i
 ·subst hj
  rw[U' (by omega),hi]
  exact⟨⟨fun x=>bb,fun x=>bb⟩,fun b=>bb⟩
 ·have:=lk.2 j
  rw[Y' (Ne.symm hj)]at this ⊢
  exact this
theorem Yf{i:Nat}{fr:Bool}{t:TE}{f:DX}(h:E K t fr f):E K t false (Bo i f):=by
 refine⟨fun τ d t7 e=>?_,?_⟩
 ·obtain⟨xs,t5,e1,e2,_,_,rfl⟩:=Jx e
  exact Il e1 (h.like _ _ _ e2)
 intro S M τ σ H Q d t7 r e q
 obtain⟨xs,t5,e1,e2,fx,ok,rfl⟩:=Jx e
 obtain⟨p,us,hp,hM,hl,ll⟩:=r.mt i xs e1
 refine h.weak.run _ _ _ σ H _ d t5 (frz r e1 hp) e2 fun v H' r' c res=>?_
 have r2:=Oe r e1 hp r' (h.like _ _ _ e2) c ok
 refine q v H' r2 (fun b o hn e=>c b o (fun z=>hn z.1) e) ?_
 have h3':H' p=some us:=c p _ (fun z=>z.2 rfl) hl
 exact Is.monoT (FD fun a z => by
  by_cases e:a=p
  ·subst e;exact .inr ⟨_,h3',ll.ho⟩
  ·exact .inl ⟨z,e⟩) fx (show Is K (hid (fun b=>S b/\b≠p) H') d v from res)
def C0(i:Nat)(f:DX)(τ:DS):Option (PyData×DS):=match τ[i]? with
 |some (some (.m xs))=>(f (τ.set i (some (.d (.list xs))))).bind fun q=>match q.1 with
  |.list ys=>if fixDs ys&&q.2.all okM then some (q.1,q.2.set i (some (.m xs))) else none
  |_=>none
 |some (some (.k xs))=>(f (τ.set i (some (.d (.dict (Ja xs)))))).bind fun q=>match q.1 with
  |.list ys=>if fixDs ys&&q.2.all okM then some (q.1,q.2.set i (some (.k xs))) else none
  |_=>none
 |_=>none
theorem JE{i:Nat}{f:DX}{τ:DS}{d:PyData}{t7:DS}(e:C0 i f τ=some (d,t7)):∃w t5 ys,τ[i]?=some (some (Ow.L w))/\f (τ.set i (some (.d w.D)))=some (d,t5)/\d = .list ys/\fixDs ys=true/\t5.all okM=true/\t7=t5.set i (some w.L):=by
 unfold C0 at e
 split at e
 ·rename_i xs hx
  obtain⟨⟨z,t5⟩,e1,e⟩:=oB e
  dsimp only at e
  split at e
  ·split at e
   ·rename_i h
    rw[K']at h
    cases e
    exact⟨.l xs,t5,_,hx,e1,rfl,h.1,h.2,rfl⟩
   ·cases e
  ·cases e
 ·rename_i xs hx
  obtain⟨⟨z,t5⟩,e1,e⟩:=oB e
  dsimp only at e
  split at e
  ·split at e
   ·rename_i h
    rw[K']at h
    cases e
    exact⟨.t xs,t5,_,hx,e1,rfl,h.1,h.2,rfl⟩
   ·cases e
  ·cases e
 ·cases e
theorem Ow.D_list{o:Ow}{ys:List PyData}(h:PyData.list ys=o.D):o = .l ys:=by
 cases o with
 |l xs=>cases h;rfl
 |t kvs=>cases h
theorem VY{i:Nat}{t:TE}{f:DX}(h:E K t true f):E K t true (C0 i f):=by
 refine⟨fun τ d t7 e=>?_,?_⟩
 ·obtain⟨xs,t5,ys,e1,e2,_,_,_,rfl⟩:=JE e
  exact Il e1 (h.like _ _ _ e2)
 intro S M τ σ H Q d t7 r e q
 obtain⟨xs,t5,ys,e1,e2,rfl,fx,ok,rfl⟩:=JE e
 obtain⟨p,us,hp,hM,hl,ll⟩:=r.mt i xs e1
 refine h.run _ _ _ σ H _ _ t5 (frz r e1 hp) e2 fun v H' r' c res=>?_
 have r2:=Oe r e1 hp r' (h.like _ _ _ e2) c ok
 refine q v H' r2 (fun b o hn e=>c b o (fun z=>hn z.1) e) ?_
 have h3':H' p=some us:=c p _ (fun z=>z.2 rfl) hl
 obtain⟨o,a,vs,e3,rfl,h5,h6,h7⟩:=res
 obtain rfl:=Ow.D_list e3
 refine⟨.l ys,a,vs,rfl,rfl,h5,h6,IsO.monoT (FD fun b z=>?_) fx h7⟩
 rcases z with z|z
 ·by_cases e:b=p
  ·subst e;exact .inr ⟨_,h3',ll.ho⟩
  ·exact .inl (.inl ⟨z,e⟩)
 ·exact .inl (.inr z)
variable {K:KW}
def ZQ(K:KW)(S:Addr->Prop)(J:It)(H:Hp)(ds:List PyData):Prop:=∀(S2:Addr->Prop) (H2:Hp),Keep S H S2 H2->(∀(i:Nat) (d:PyData),ds[i]?=some d->J.go i H2/\∀x H3,J.yld i H2 x H3->H3=H2/\Is K (hid S2 H2) d x)/\∀i,ds.length<=i->J.stop i H2
abbrev DI:=DS->Option (List PyData×DS)
structure IT(K:KW)(wi:TI)(f:DI):Prop where
 like:∀τ ds t7,f τ=some (ds,t7)->Like τ t7
 run:∀S M τ σ H (Q:It->Hp->Prop) ds t7,R K S M τ σ H->f τ=some (ds,t7)->(∀J H',R K S M t7 σ H'->Chg M H H'->ZQ K S J H' ds->Q J H')->wi σ H Q
def dIL(f:DX)(τ:DS):Option (List PyData×DS):=(f τ).bind fun p=>match p.1 with
 |.list ds=>some (ds,p.2)
 |_=>none
def dIT(f:DX)(τ:DS):Option (List PyData×DS):=(f τ).bind fun p=>match p.1 with
 |.tuple ds=>some (ds,p.2)
 |_=>none
theorem Rn{fr:Bool}{t:TE}{f:DX}(h:E K t fr f):IT K (NS K t) (dIL f):=by
 refine⟨fun τ d t7 e=>?_,?_⟩
 ·unfold dIL at e
  obtain⟨⟨x,t5⟩,e1,e⟩:=oB e
  dsimp only at e
  split at e
  ·cases e;exact h.like _ _ _ e1
  ·cases e
 intro S M τ σ H Q ds t7 r e q
 unfold dIL at e
 obtain⟨⟨x,t5⟩,e1,e⟩:=oB e
 dsimp only at e
 split at e
 ·cases e
  refine h.weak.run S M τ σ H _ _ _ r e1 fun v H1 r1 c1 i1=>?_
  have i1':Is K (hid S H1) (.list ds) v:=i1
  obtain⟨a,vs,rfl,hl,ll⟩:=i1'
  refine⟨a,rfl,⟨vs,SqL.of (hid_iff.mp hl).2⟩,q _ H1 r1 c1 fun S2 H2 k=>?_⟩
  have hl2:=k.same _ _ hl
  have ll2:=ll.mono k.same
  refine⟨fun i d e=>?_,fun i hi=>⟨vs,SqL.of (hid_iff.mp hl2).2,by rw[ll.length];exact hi⟩⟩
  obtain⟨u,h1,h2⟩:=ll2.get e
  refine⟨⟨vs,u,SqL.of (hid_iff.mp hl2).2,h1⟩,fun x H3 y=>⟨y.1,?_⟩⟩
  have:=y.2 vs (SqL.of (hid_iff.mp hl2).2)
  rw[h1]at this;cases this
  exact h2
 ·cases e
theorem U9{fr:Bool}{t:TE}{f:DX}(h:E K t fr f):IT K (Rv K t) (dIT f):=by
 refine⟨fun τ d t7 e=>?_,?_⟩
 ·unfold dIT at e
  obtain⟨⟨x,t5⟩,e1,e⟩:=oB e
  dsimp only at e
  split at e
  ·cases e;exact h.like _ _ _ e1
  ·cases e
 intro S M τ σ H Q ds t7 r e q
 unfold dIT at e
 obtain⟨⟨x,t5⟩,e1,e⟩:=oB e
 dsimp only at e
 split at e
 ·cases e
  refine h.weak.run S M τ σ H _ _ _ r e1 fun v H1 r1 c1 i1=>?_
  have i1':Is K (hid S H1) (.tuple ds) v:=i1
  obtain⟨a,vs,rfl,hl,ll⟩:=i1'
  refine⟨a,rfl,⟨vs,Same.tup same_hid hl⟩,q _ H1 r1 c1 fun S2 H2 k=>?_⟩
  have hl2:=Same.tup same_hid (Same.tup k.same hl)
  have ll2:=ll.mono k.same
  refine⟨fun i d e=>?_,fun i hi=>⟨vs,hl2,by rw[ll.length];exact hi⟩⟩
  obtain⟨u,h1,h2⟩:=ll2.get e
  refine⟨⟨vs,u,hl2,h1⟩,fun x H3 y=>⟨y.1,?_⟩⟩
  have:=y.2 vs hl2
  rw[h1]at this;cases this
  exact h2
 ·cases e
def Eu(lo:Int)(n:Nat):List PyData:=(List.range n).map fun(k:Nat)=>PyData.int (lo+(k:Int))
theorem O9{S:Addr->Prop}{H:Hp}{lo:Int}{n:Nat}:ZQ K S (Itr lo n) H (Eu lo n):=by
 intro S2 H2 k
 refine⟨fun i d e=>?_,fun i hi=>?_⟩
 ·unfold Eu at e
  rw[G']at e
  by_cases hi:i<n
  ·rw[List.getElem?_range hi]at e
   cases e
   exact⟨hi,fun x H3 y=>⟨y.1,y.2⟩⟩
  ·rw[List.getElem?_eq_none (by simpa using hi)]at e
   cases e
 ·unfold Eu at hi
  rw[B',aq]at hi
  exact hi
def dR1(a:DA)(τ:DS):Option (List PyData×DS):=(a τ).bind fun p=>(Aq p.1).bind fun ds=>match ds with
 |[.int j]=>if -(2 ^ 62)<=j/\j<2 ^ 62 then some (Eu 0 j.toNat,p.2) else none
 |_=>none
def dR2(a:DA)(τ:DS):Option (List PyData×DS):=(a τ).bind fun p=>(Aq p.1).bind fun ds=>match ds with
 |[.int i,.int j]=>if -(2 ^ 62)<=i/\i<2 ^ 62/\-(2 ^ 62)<=j/\j<2 ^ 62 then some (Eu i (j-i).toNat,p.2) else none
 |_=>none
theorem OE{t:TA}{a:DA}(ha:A K t a):IT K (Ta t) (dR1 a):=by
 refine⟨fun τ d t7 e=>?_,?_⟩
 ·unfold dR1 at e
  obtain⟨⟨x,t5⟩,e1,e⟩:=oB e
  obtain⟨ds,e2,e⟩:=oB e
  split at e
  ·split at e
   ·cases e;exact ha.like _ _ _ e1
   ·cases e
  ·cases e
 intro S M τ σ H Q ds t7 r e q
 unfold dR1 at e
 obtain⟨⟨x,t5⟩,e1,e⟩:=oB e
 obtain⟨ds',e2,e⟩:=oB e
 split at e
 ·split at e
  ·rename_i j hj
   cases e
   refine ha.run S M τ σ H _ x _ r e1 fun vs H1 r1 c1 i1=>?_
   obtain⟨v,us,rfl,iv,iu⟩:=CV i1 e2
   cases (show us=[] from iu)
   exact⟨j,by rw[show v = .int j from iv],hj.1,hj.2,q _ H1 r1 c1 O9⟩
  ·cases e
 ·cases e
abbrev DG:=PyData->DS->Option DS
def MSame(τ t7:DS):Prop:=t7.length=τ.length/\∀(j:Nat) (o:Ow),t7[j]?=some (some o.L)↔τ[j]?=some (some o.L)
theorem MSame.refl{τ:DS}:MSame τ τ:=⟨rfl,fun _ _=>bb⟩
theorem MSame.trans{τ t5 t9:DS}(a:MSame τ t5)(b:MSame t5 t9):MSame τ t9:=⟨b.1.trans a.1,fun j xs=>(b.2 j xs).trans (a.2 j xs)⟩
structure TG1 K (g:TG) (f:DG):Prop where
 ms:∀d τ t7,f d τ=some t7->MSame τ t7
 run:∀S M τ σ H v d t7 (Q:St->Hp->Prop),R K S M τ σ H->Is K (hid S H) d v->f d τ=some t7->(∀σ',R K S M t7 σ' H->(∀(j:Nat) (o:Ow),τ[j]?=some (some o.L)->σ'[j]?=σ[j]?)->Q σ' H)->g v σ H Q
structure TG2 K (g:TGs) (f:List PyData->DS->Option DS):Prop where
 ms:∀d τ t7,f d τ=some t7->MSame τ t7
 run:∀S M τ σ H vs ds t7 (Q:St->Hp->Prop),R K S M τ σ H->IsL K (hid S H) ds vs->f ds τ=some t7->(∀σ',R K S M t7 σ' H->(∀(j:Nat) (o:Ow),τ[j]?=some (some o.L)->σ'[j]?=σ[j]?)->Q σ' H)->g vs σ H Q
def dN(i:Nat)(d:PyData)(τ:DS):Option DS:=match τ[i]? with
 |some (some (.m _))=>none
 |some (some (.k _))=>none
 |some _=>some (τ.set i (some (.d d)))
 |none=>none
theorem NZ{i:Nat}{d:PyData}{τ t7:DS}(e:dN i d τ=some t7):i<τ.length/\(∀o:Ow,τ[i]?≠some (some o.L))/\t7=τ.set i (some (.d d)):=by
 unfold dN at e
 split at e
 ·cases e
 ·cases e
 ·rename_i o hn hk ho
  cases e
  refine⟨(F'.mp ho).1,fun xs z=>?_,rfl⟩
  rw[ho]at z
  cases xs with
  |l xs=>exact hn xs (A' z)
  |t xs=>exact hk xs (A' z)
 ·cases e
theorem R.setD{S M:Addr->Prop}{τ:DS}{σ:St}{H:Hp}(r:R K S M τ σ H){i:Nat}{d:PyData}{v:V}(hi:i<τ.length)(hm:∀o:Ow,τ[i]?≠some (some o.L))(iv:Is K (hid S H) d v):R K S M (τ.set i (some (.d d))) (σ.set i (some v)) H:=by
 have hs:i<σ.length:=by rw[r.len];exact hi
 have ne:∀j,j≠i->(τ.set i (some (.d d)))[j]?=τ[j]?:=fun j hj=>Y' (Ne.symm hj)
 have ne':∀j,j≠i->(σ.set i (some v))[j]?=σ[j]?:=fun j hj=>Y' (Ne.symm hj)
 have mn:∀(j:Nat) (ys:Ow),(τ.set i (some (.d d)))[j]?=some (some ys.L)->j≠i/\τ[j]?=some (some ys.L):=fun j ys e=>by
  by_cases hj:j=i
  ·subst hj;rw[U' hi]at e;exact absurd (A' (A' e)).symm Ow.not_d
  ·rw[ne j hj]at e;exact⟨hj,e⟩
 refine⟨by rw[aU,aU];exact r.len,fun j x e=>?_,fun j xs e=>?_,fun j xs e=>?_,fun j1 j2 ys zs b e1 e2 f1 f2=>?_,r.sub,r.ex,r.gr.to (fun j x e=>?_) (fun j o b e q=>.inl ⟨o,(mn j o e).2,by rw[ne' j (mn j o e).1]at q;exact q⟩) (fun b hb hn=>⟨hb,rfl⟩) .refl⟩
 ·by_cases hj:j=i
  ·subst hj
   rw[U' hi]at e
   cases e
   exact⟨v,U' hs,iv⟩
  ·rw[ne j hj]at e
   rw[ne' j hj]
   exact r.dat j x e
 ·obtain⟨hj,e⟩:=mn j xs e
  rw[ne' j hj]
  exact r.mt j xs e
 ·by_cases hj:j=i
  ·subst hj;rw[U' hi]at e;cases e
  ·rw[ne j hj]at e
   rw[ne' j hj]
   exact r.cst j xs e
 ·obtain⟨h1,e1⟩:=mn j1 ys e1
  obtain⟨h2,e2⟩:=mn j2 zs e2
  rw[ne' _ h1]at f1
  rw[ne' _ h2]at f2
  exact r.inj _ _ _ _ b e1 e2 f1 f2
 ·by_cases hj:j=i
  ·subst hj;rw[U' hi]at e;cases e
  ·rw[ne j hj]at e;exact⟨e,ne' j hj⟩
theorem Rh{τ:DS}{i:Nat}{d:PyData}(hi:i<τ.length)(hm:∀o:Ow,τ[i]?≠some (some o.L)):MSame τ (τ.set i (some (.d d))):=by
 refine⟨by rw[aU],fun j xs=>?_⟩
 by_cases hj:j=i
 ·subst hj
  rw[U' hi]
  exact⟨fun z=>absurd (A' (A' z)).symm Ow.not_d,fun z=>absurd z (hm xs)⟩
 ·rw[Y' (Ne.symm hj)]
theorem Fe{i:Nat}:TG1 K (HX i) (dN i):=by
 refine⟨fun d τ t7 e=>?_,?_⟩
 ·obtain⟨h1,h2,rfl⟩:=NZ e
  exact Rh h1 h2
 intro S M τ σ H v d t7 Q r iv e q
 obtain⟨h1,h2,rfl⟩:=NZ e
 refine q _ (r.setD h1 h2 iv) fun j xs ej=>?_
 have:j≠i:=fun z=>h2 xs (by rw[<- z];exact ej)
 exact Y' (Ne.symm this)
def Au:List PyData->DS->Option DS
 |[],τ=>some τ
 |_::_,_=>none
def AM(f:DG)(g:List PyData->DS->Option DS):List PyData->DS->Option DS
 |d::ds,τ=>(f d τ).bind fun t5=>g ds t5
 |[],_=>none
theorem VH:TG2 K YG Au:=by
 refine⟨fun d τ t7 e=>?_,?_⟩
 ·cases d with
  |nil=>cases e;exact .refl
  |cons _ _=>cases e
 intro S M τ σ H vs ds t7 Q r iv e q
 cases ds with
 |nil=>cases e;exact⟨iv,q σ r fun _ _ _=>rfl⟩
 |cons _ _=>cases e
theorem Rw{t:TG}{u:TGs}{f:DG}{g:List PyData->DS->Option DS}(h1:TG1 K t f)(h2:TG2 K u g):TG2 K (Tb t u) (AM f g):=by
 refine⟨fun d τ t7 e=>?_,?_⟩
 ·cases d with
  |nil=>cases e
  |cons d ds =>
   obtain⟨t5,e1,e⟩:=oB e
   exact(h1.ms _ _ _ e1).trans (h2.ms _ _ _ e)
 intro S M τ σ H vs ds t7 Q r iv e q
 cases ds with
 |nil=>cases e
 |cons d ds =>
  obtain⟨t5,e1,e⟩:=oB e
  obtain⟨v,us,rfl,iv,iu⟩:=iv
  refine⟨v,us,rfl,h1.run S M τ σ H v d t5 _ r iv e1 fun σ1 r1 k1=>?_⟩
  refine h2.run S M t5 σ1 H us ds t7 _ r1 iu e fun σ2 r2 k2=>?_
  refine q σ2 r2 fun j xs hj=>?_
  rw[k2 j xs (((h1.ms _ _ _ e1).2 j xs).mpr hj),k1 j xs hj]
def dGT(g:List PyData->DS->Option DS)(d:PyData)(τ:DS):Option DS:=match d with
 |.tuple ds=>g ds τ
 |_=>none
theorem YF{n:Nat}{u:TGs}{g:List PyData->DS->Option DS}(h:TG2 K u g)(hn:∀ds τ t7,g ds τ=some t7->ds.length=n):TG1 K (Rx K n u) (dGT g):=by
 refine⟨fun d τ t7 e=>?_,?_⟩
 ·unfold dGT at e
  split at e
  ·exact h.ms _ _ _ e
  ·cases e
 intro S M τ σ H v d t7 Q r iv e q
 unfold dGT at e
 split at e
 ·obtain⟨a,vs,rfl,hl,ll⟩:=iv
  exact⟨a,vs,rfl,Same.tup same_hid hl,by rw[ll.length];exact hn _ _ _ e,h.run S M τ σ H vs _ t7 Q r ll e q⟩
 ·cases e
theorem NF:∀(ds:List PyData) (τ t7:DS),Au ds τ=some t7->ds.length=0
 |[],_,_,_=>rfl
 |_::_,_,_,e=>by cases e
theorem Le{n:Nat}{f:DG}{g:List PyData->DS->Option DS}(h:∀ds τ t7,g ds τ=some t7->ds.length=n):∀(ds:List PyData) (τ t7:DS),AM f g ds τ=some t7->ds.length=n+1
 |[],_,_,e=>by cases e
 |d::ds,τ,t7,e=>by
  obtain⟨t5,e1,e⟩:=oB e
  rw[aR,h _ _ _ e]
def Bt(g:DG)(c:DT)(e:DX):List PyData->List PyData->DS->Option (List PyData×DS)
 |[],acc,τ=>some (acc,τ)
 |d::ds,acc,τ=>(g d τ).bind fun t5=>(c t5).bind fun p=>if p.1=true then (e p.2).bind fun q=>Bt g c e ds (acc++[q.1]) q.2 else Bt g c e ds acc p.2
def noG:Option L->Option L
 |some (.g _)=>none
 |o=>o
def Ho(own:Nat)(fr:List Nat)(τ:DS):DS:=List.replicate own none++fr.map fun j=>noG (τ[j]?).join
theorem LY{o:Option L}{l:L}(h:noG o=some l):o=some l/\∀x,l≠.g x:=by
 unfold noG at h
 split at h
 ·cases h
 ·rename_i hn
  exact⟨h,fun x z=>hn x (by rw[h,z])⟩
def isM(τ:DS)(j:Nat):Bool:=match τ[j]? with
 |some (some (.m _))=>true
 |some (some (.k _))=>true
 |_=>false
theorem isM_iff{τ:DS}{j:Nat}:isM τ j=true↔∃o:Ow,τ[j]?=some (some o.L):=by
 unfold isM
 split
 ·rename_i xs h;exact⟨fun _=>⟨.l xs,h⟩,fun _=>rfl⟩
 ·rename_i xs h;exact⟨fun _=>⟨.t xs,h⟩,fun _=>rfl⟩
 ·rename_i h1 h2
  exact ⟨fun z => (nomatch z), fun ⟨o, z⟩ => by
   cases o with
   |l xs=>exact absurd z (h1 xs)
   |t xs=>exact absurd z (h2 xs)⟩
def dLC(own:Nat)(fr:List Nat)(it:DI)(g:DG)(c:DT)(e:DX)(τ:DS):Option (PyData×DS):=(it τ).bind fun p=>if p.1.length<=sizeLine/\(fr.all fun j=>!isM p.2 j)=true then (Bt g c e p.1 [] (Ho own fr p.2)).map fun q=>(.list q.1,p.2) else none
theorem C1{own:Nat}{fr:List Nat}{τ:DS}{i:Nat}{l:L}(h:(Ho own fr τ)[i]?=some (some l)):∃k j,i=own+k/\fr[k]?=some j/\τ[j]?=some (some l):=by
 unfold Ho at h
 by_cases hi:i<own
 ·rw[aS (by simpa using hi),aj,if_pos hi]at h
  cases h
 ·rw[aV (by simpa using hi),bB,G']at h
  cases e:fr[i-own]? with
  |none=>rw[e]at h;cases h
  |some j =>
   rw[e]at h
   simp only[Option.map_some,Option.some.injEq]at h
   refine⟨i-own,j,by omega,e,?_⟩
   replace h:=(LY h).1
   cases q:τ[j]? with
   |none=>rw[q]at h;cases h
   |some o=>rw[q]at h;cases o with
    |none=>cases h
    |some u=>cases h;rfl
theorem Qj{own:Nat}{fr:List Nat}{τ:DS}(i:Nat)(d:PyData):(Ho own fr τ)[i]?≠some (some (.g d)):=fun h=>by
 unfold Ho at h
 by_cases hi:i<own
 ·rw[aS (by simpa using hi),aj,if_pos hi]at h
  cases h
 ·rw[aV (by simpa using hi),bB,G']at h
  cases e:fr[i-own]? with
  |none=>rw[e]at h;cases h
  |some j =>
   rw[e]at h
   simp only[Option.map_some,Option.some.injEq]at h
   exact(LY h).2 d rfl
theorem Kv{own:Nat}{fr:List Nat}{σ:St}{k j:Nat}{v:V}(e:fr[k]?=some j)(h:σ[j]?=some (some v)):(blk own fr σ)[own+k]?=some (some v):=by
 unfold blk
 rw[aV (by simp),bB,G',show own+k-own=k by omega,e]
 show some (σ[j]?).join=_
 rw[h];rfl
theorem Ga{H:Hp}{xs:List PyData}{vs:List V}{d:PyData}{v:V}(l:IsL K H xs vs)(i:Is K H d v):IsL K H (xs++[d]) (vs++[v]):=DZ l ⟨v,[],rfl,i,rfl⟩
theorem Z4{own:Nat}{fr:List Nat}{wi:TI}{it:DI}{tg:TG}{g:DG}{tc:TT}{c:DT}{te:TE}{e:DX}{fe:Bool}(hi:IT K wi it)(hg:TG1 K tg g)(hc:T K tc c)(he:E K te fe e):E K (tLC own fr wi tg tc te) true (dLC own fr it g c e):=by
 refine⟨fun τ d t7 e=>?_,?_⟩
 ·unfold dLC at e
  obtain⟨⟨x,t5⟩,e1,e⟩:=oB e
  split at e
  ·obtain⟨z,e3,e⟩:=oM e
   cases e;exact hi.like _ _ _ e1
  ·cases e
 intro S M τ σ H Q d t7 r ee q
 unfold dLC at ee
 obtain⟨⟨ds,t5⟩,e1,ee⟩:=oB ee
 split at ee
 ·rename_i hz
  obtain⟨hz,hnm⟩:=hz
  have hz:ds.length<=sizeLine:=hz
  obtain⟨⟨acc,l6⟩,e3,ee⟩:=oM ee
  obtain⟨rfl,rfl⟩:d = .list acc/\t7=t5:=by cases ee;exact⟨rfl,rfl⟩
  refine hi.run S M τ σ H _ ds _ r e1 fun J H1 r1 c1 iJ=>?_
  intro D hD
  -- nothing of the def may be changed in the block
  refine⟨fun i m ys σ' H'=>∃n9 acc',R K (fun b=>S b\/b=D) (fun _=>False) n9 σ' H'/\Keep S H1 (fun b=>S b\/b=D) H'/\Chg (fun b=>b=D) H1 H'/\IsL K (hid (fun b=>S b\/b=D) H') acc' ys/\H' D=some (.lst ys)/\ys.length<=i/\i<=ds.length/\m=ds.length-i/\Bt g c e (ds.drop i) acc' n9=some (acc,l6),?_,?_⟩
  ·have s:=Ay hD (HO.lst [])
   have k:Keep S H1 (fun b=>S b\/b=D) (upd H1 D (.lst [])):=fun b o hn e=>by
    have:=Ai e hD
    exact⟨fun z=>z.elim hn this,s b o e⟩
   refine⟨ds.length,Ho own fr t7,[],⟨?_,?_,?_,?_,?_,fun a h=>h.elim,?_,GR.nil Qj⟩,k,.of s,rfl,Ac,J' _,bH _,by simp,by simpa using e3⟩
   ·unfold blk Ho;simp
   ·intro i x e
    obtain⟨kk,j,rfl,ej,et⟩:=C1 e
    obtain⟨v,h1,h2⟩:=r1.dat j x et
    exact⟨v,Kv ej h1,h2.mono k.same⟩
   ·intro i xs e
    obtain⟨kk,j,rfl,ej,et⟩:=C1 e
    have:=aZ.mp hnm j (aO ej)
    rw[isM_iff.mpr ⟨xs,et⟩]at this
    cases this
   ·intro i x e
    obtain⟨kk,j,rfl,ej,et⟩:=C1 e
    obtain⟨a,vs,h1,h2,h3⟩:=r1.cst j x et
    exact⟨a,vs,Kv ej h1,k.same.seq h2,h3.mono k.same⟩
   ·intro i j xs ys a e
    obtain⟨kk,j',rfl,ej,et⟩:=C1 e
    have:=aZ.mp hnm j' (aO ej)
    rw[isM_iff.mpr ⟨xs,et⟩]at this
    cases this
   ·rintro a (h|rfl)
    ·obtain⟨o,e⟩:=r1.ex a h
     exact⟨o,s _ _ e⟩
    ·exact⟨_,Ac⟩
  ·rintro i m ys σ' H' ⟨n9,acc',rb,k,ch,la,hHD,hyl,hil,rfl,hl⟩
   obtain⟨I1,I2⟩:=iJ _ _ k
   by_cases hlt:i<ds.length
   ·right
    have ed:ds[i]?=some ds[i]:=aX hlt
    obtain⟨go,yl⟩:=I1 i _ ed
    refine⟨go,fun x H2 y=>?_⟩
    obtain⟨rfl,ix⟩:=yl x H2 y
    rw[bL hlt,Bt]at hl
    obtain⟨t9,e2,hl⟩:=oB hl
    obtain⟨⟨b,l7⟩,e4,hl⟩:=oB hl
    refine hg.run _ _ n9 σ' H2 x _ t9 _ rb ix e2 fun σ3 r3 k3=>?_
    refine hc.run _ _ t9 σ3 H2 _ b l7 r3 e4 fun H4 r4 c4=>?_
    have s4:Same H2 H4:=fun b o e=>c4 b o (fun z=>z) e
    cases b with
    |false =>
     rw[if_neg aP]
     exact⟨ds.length-(i+1),by omega,l7,acc',r4,k.trans (Same.keep s4),ch.trans (.of s4),la.mono (Same.keep s4).same,s4 _ _ hHD,by omega,hlt,rfl,hl⟩
    |true =>
     rw[if_pos rfl]
     rw[if_pos rfl]at hl
     obtain⟨⟨z,p6⟩,e5,hl⟩:=oB hl
     refine he.weak.run _ _ l7 σ3 H4 _ z p6 r4 e5 fun v H5 r5 c5 i5=>?_
     have s5:Same H2 H5:=s4.trans fun b o e=>c5 b o (fun z=>z) e
     have hD5:=s5 _ _ hHD
     refine⟨hD5,by omega,ds.length-(i+1),by omega,p6,acc'++[z],?_,?_,?_,?_,Ac,by rw[T',bu];omega,hlt,rfl,hl⟩
     ·have kk:Keep (fun b=>S b\/b=D) H5 (fun b=>S b\/b=D) (upd H5 D (.lst (ys++[v]))):=fun b o hn e=>⟨hn,by rw[An (fun z=>hn (.inr z))];exact e⟩
      refine⟨r5.len,fun j x e=>let ⟨u,a,b⟩:=r5.dat j x e;⟨u,a,b.mono kk.same⟩,fun j xs e=>let ⟨_,_,_,h,_⟩:=r5.mt j xs e;h.elim,fun j xs e=>let ⟨a,vs,h1,h2,h3⟩:=r5.cst j xs e;⟨a,vs,h1,kk.same.seq h2,h3.mono kk.same⟩,r5.inj,fun _ h=>h.elim,fun a h=>?_,r5.gr.to (fun i d e=>⟨e,rfl⟩) (fun j o a e q=>.inl ⟨o,e,q⟩) (fun a h _=>h.elim) (tsS kk.same)⟩
      by_cases e:a=D
      ·subst e;exact⟨_,Ac⟩
      ·obtain⟨o,q⟩:=r5.ex a h
       exact⟨o,by rw[An e];exact q⟩
     ·refine k.trans fun b o hn e=>⟨hn,?_⟩
      rw[An (fun z=>hn (.inr z))]
      exact s5 _ _ e
     ·refine ch.trans fun b o hn e=>?_
      rw[An hn]
      exact s5 _ _ e
     ·refine(Ga (la.mono (Same.keep s5).same) i5).mono (Keep.same fun b o hn e=>⟨hn,?_⟩)
      rw[An (fun z=>hn (.inr z))]
      exact e
   ·left
    have e:i=ds.length:=by omega
    subst e
    rw[cO,Bt]at hl
    cases hl
    refine⟨I2 _ (J' _),?_⟩
    have s:Same H1 H':=fun b o e=>ch b o (Ai e hD) e
    refine q _ H' (r1.same s) (c1.trans (.of s)) ⟨.l acc,D,_,rfl,rfl,r1.none c1 hD,hHD,ys,rfl,la⟩
 ·cases ee
variable {K:KW}
variable {K:KW}
def Bf(i:Nat)(f:DX)(τ:DS):Option (PyData×DS):=(f τ).bind fun p=>match p.2[i]?,p.1 with
 |some (some (.c xs)),.int k=>(atI xs k).map fun d=>(d,p.2)
 |_,_=>none
theorem YY{i:Nat}{fr:Bool}{tb:TE}{f:DX}(h:E K tb fr f):E K (tOp (Nu K) (FL i) tb) false (Bf i f):=by
 refine⟨fun τ d t7 e=>?_,?_⟩
 ·unfold Bf at e
  obtain⟨⟨x,t5⟩,e1,e⟩:=oB e
  dsimp only at e
  split at e
  ·obtain⟨z,e3,e⟩:=oM e
   cases e;exact h.like _ _ _ e1
  ·cases e
 intro S M τ σ H Q d t7 r e q
 unfold Bf at e
 obtain⟨⟨x,t5⟩,e1,e⟩:=oB e
 dsimp only at e
 split at e
 ·rename_i xs k hx
  obtain⟨z,e3,e⟩:=oM e
  cases e
  obtain⟨a,vs,ha,_⟩:=r.cst i xs ((((h.like _ _ _ e1).2 i).1.2 xs).mp hx)
  refine⟨.ref a,ha,h.weak.run S M τ σ H _ _ _ r e1 fun v H1 r1 c1 i1=>?_⟩
  obtain⟨a',vs',ha',h2,h3⟩:=r1.cst i xs hx
  rw[ha]at ha';cases ha'
  obtain⟨u,h4,h5⟩:=MV h3 e3
  exact⟨a,vs',k,u,rfl,i1,same_hid.seq h2,h4,q u H1 r1 c1 h5⟩
 ·cases e
def As(i:Nat)(τ:DS):Option (PyData×DS):=match τ[i]? with
 |some (some (.c xs))=>some (.int xs.length,τ)
 |_=>none
theorem VV{i:Nat}:E K (tCB (fun xs H Q=>∃x n,xs=[x]/\OX K x H n/\Q (.int n) H) (Cs (FL i) Eo)) false (As i):=by
 refine⟨fun τ d t7 e=>?_,?_⟩
 ·unfold As at e
  split at e
  ·cases e;exact .refl
  ·cases e
 intro S M τ σ H Q d t7 r e q
 unfold As at e
 split at e
 ·rename_i xs hx
  cases e
  obtain⟨a,vs,ha,h2,h3⟩:=r.cst i xs hx
  refine⟨.ref a,ha,.ref a,vs.length,rfl,.inl ⟨vs,same_hid.seq h2,rfl⟩,?_⟩
  exact q _ H r .refl (by rw[h3.length];rfl)
 ·cases e
def AV(i:Nat)(G:List L->Option (PyData×List L))(a:DA)(τ:DS):Option (PyData×DS):=(a τ).bind fun p=>(Aq p.1).bind fun ds=>match p.2[i]? with
 |some (some (.c xs))=>(G (.c xs::ds.map L.d)).map fun q=>(q.1,p.2)
 |_=>none
theorem R9{i:Nat}{fr:Bool}{G:List L->Option (PyData×List L)}{t:TA}{a:DA}{X:XK}(ha:A K t a):E K (F6 (spD K G fr) [] X (Cs (FL i) t)) fr (AV i G a):=by
 refine⟨fun τ d t7 e=>?_,?_⟩
 ·unfold AV at e
  obtain⟨⟨x,t5⟩,e1,e⟩:=oB e
  obtain⟨ds,e2,e⟩:=oB e
  dsimp only at e
  split at e
  ·obtain⟨z,e3,e⟩:=oM e
   cases e;exact ha.like _ _ _ e1
  ·cases e
 intro S M τ σ H Q d t7 rr e q
 unfold AV at e
 obtain⟨⟨x,t5⟩,e1,e⟩:=oB e
 obtain⟨ds,e2,e⟩:=oB e
 dsimp only at e
 split at e
 ·rename_i xs hx
  obtain⟨⟨z,ls'⟩,e3,e⟩:=oM e
  cases e
  obtain⟨p,us,hp,_⟩:=rr.cst i xs ((((ha.like _ _ _ e1).2 i).1.2 xs).mp hx)
  refine⟨.ref p,hp,ha.run S M τ σ H _ x _ rr e1 fun vs H1 r1 c1 i1=>?_⟩
  have l:=CV i1 e2
  obtain⟨p',us',hp',h2,h3⟩:=r1.cst i xs hx
  rw[hp]at hp';cases hp'
  show spD K G fr ((.ref p::vs)++[]) H1 Q X
  rw[bD]
  have ra:=PD r1 l
  refine⟨S,fun _=>False,.c xs::ds.map L.d,_,ls',⟨?_,?_,?_,?_,?_,fun _ h=>h.elim,r1.ex,GR.nil ?_⟩,e3,fun v H' _ c res=>?_⟩
  ·have:=ra.len
   simp only[List.length_map,List.map_cons,List.length_cons]at this ⊢
   omega
  ·intro j x e
   cases j with
   |zero=>cases e
   |succ j=>exact ra.dat j x (by simpa using e)
  ·intro j ys e
   cases j with
   |zero=>exact absurd (A' (A' e)).symm Ow.not_c
   |succ j=>obtain⟨_,_,_,h,_⟩:=ra.mt j ys (by simpa using e);exact h.elim
  ·intro j ys e
   cases j with
   |zero=>cases e;exact⟨p,us',rfl,h2,h3⟩
   |succ j=>exact ra.cst j ys (by simpa using e)
  ·intro j k ys ws b e1 e2 _ _
   cases j with
   |zero=>exact absurd (A' (A' e1)).symm Ow.not_c
   |succ j=>obtain⟨_,_,_,h,_⟩:=ra.mt j ys (by simpa using e1);exact h.elim
  ·intro j x e
   cases j with
   |zero=>cases e
   |succ j =>
    rw[X',bS,G',G']at e
    cases q:ds[j]? with
    |none=>rw[q]at e;cases e
    |some d=>rw[q]at e;cases e
  ·have s:Same H1 H':=fun b o e=>c b o (fun z=>z) e
   exact q v H' (r1.same s) (c1.trans (.of s)) (res.back r1 c1)
 ·cases e
section
variable {F:Frm} {S M:Addr->Prop} {τ t7:DS} {σ:St} {H H':Hp}
theorem RF.step(f:RF K F S M τ σ H)(r':R K S M t7 σ H')(c:Chg M H H')(lk:Like τ t7):RF K F S M t7 σ H' where
 r:=r'
 sS:=f.sS
 old:=fun b o e n=>c b o (fun z=>(f.new b z).elim n fun q=>by rw[q]at e;cases e) (f.old b o e n)
 new:=f.new
 fm:=f.fm
 fs:=f.fs
 fsub:=f.fsub
 snew:=f.snew
 par:=f.par
 pm:=fun i v e=>let ⟨xs,h⟩:=f.pm i v e;(lk.own i).mpr ⟨xs,h⟩
 fma:=f.fma
theorem RF.stay(f:RF K F S M τ σ H){σ':St}(r':R K S M t7 σ' H)(ms:MSame τ t7)(k:∀(j:Nat) (o:Ow),τ[j]?=some (some o.L)->σ'[j]?=σ[j]?):RF K F S M t7 σ' H where
 r:=r'
 sS:=f.sS
 old:=f.old
 new:=f.new
 fm:=f.fm
 fs:=f.fs
 fsub:=f.fsub
 snew:=f.snew
 par:=fun i v e=>by
  obtain⟨xs,h⟩:=f.pm i v e
  rw[k i xs h]
  exact f.par i v e
 pm:=fun i v e=>let ⟨xs,h⟩:=f.pm i v e;⟨xs,(ms.2 i xs).mpr h⟩
 fma:=f.fma
theorem RF.hnone(f:RF K F S M τ σ H){a:Addr}(h:H a=none):F.H a=none:=by
 cases e:F.H a with
 |none=>rfl
 |some o =>
  exfalso
  by_cases hm:F.M a
  ·obtain⟨o',e'⟩:=f.r.ex a (f.sS a (f.fsub a hm))
   rw[h]at e';cases e'
  ·have:=f.old a o e hm
   rw[h]at this;cases this
theorem RF.res(f:RF K F S M τ σ H){fr:Bool}{d:PyData}{v:V}(h:Res K fr S H H' d v):Res K fr F.S F.H H' d v:=by
 cases fr with
 |false=>exact Is.mono (EE f.sS) h
 |true =>
  obtain⟨xs,a,vs,e1,e2,h1,h2,h3⟩:=h
  exact⟨xs,a,vs,e1,e2,f.hnone h1,h2,h3.mono (EE fun b z=>z.elim (fun z=>.inl (f.sS b z)) .inr)⟩
end
variable {np:Nat}
def AJ(e:DX)(g:DG)(τ:DS):Option Out:=(e τ).bind fun p=>(g p.1 p.2).map .nx
theorem Qm{fr fe:Bool}{te:TE}{tg:TG}{e:DX}{g:DG}(he:E K te fe e)(hg:TG1 K tg g):B K np (JM te tg) fr (AJ e g):=by
 intro F S M τ σ H D out hnp f ee q
 unfold AJ at ee
 obtain⟨⟨x,t5⟩,e1,ee⟩:=oB ee
 obtain⟨t9,e2,ee⟩:=oM ee
 cases ee
 refine he.weak.run S M τ σ H _ x t5 f.r e1 fun v H1 r1 c1 i1=>?_
 refine hg.run S M t5 σ H1 v x t9 _ r1 i1 e2 fun σ' r2 k=>?_
 exact q S M σ' H1 ((f.step r1 c1 (he.like _ _ _ e1)).stay r2 (hg.ms _ _ _ e2) k) (c1.keep f.r.sub)
theorem ZG{fr fe:Bool}{te:TE}{i:Nat}{e:DX}(he:E K te fe e):B K np (fun D σ H=>te σ H fun v H'=>D.nx (σ.set i (some v)) H') fr (AJ e (dN i)):=Qm (tg:=HX i) he Fe
def Gh(np i:Nat)(τ:DS):Option Out:=if np<=i/\i<τ.length then some (.nx (τ.set i (some (.m [])))) else none
def tkP:List (PyData×PyData)->Option (List (List Int×PyData))
 |[]=>some []
 |(.tuple ks,d)::r=>(tkI ks).bind fun k=>(tkP r).map ((k,d)::·)
 |_=>none
where tkI:List PyData->Option (List Int)
 |[]=>some []
 |.int i::r=>(tkI r).map (i::·)
 |_=>none
theorem Ms:∀(k:List Int),tkP.tkI (k.map PyData.int)=some k
 |[]=>rfl
 |i::k=>by rw[X',tkP.tkI,Ms k];rfl
theorem Mr:∀(m:List (List Int×PyData)),tkP (Ja m)=some m
 |[]=>rfl
 |(k,d)::m=>by
  have:=Mr m
  show(tkP.tkI (k.map PyData.int)).bind _=_
  rw[Ms]
  show((tkP (Ja m)).map _)=_
  rw[this];rfl
theorem Wu{o:Ow}{kvs:List (PyData×PyData)}{m:List (List Int×PyData)}(h:PyData.dict kvs=o.D)(e:tkP kvs=some m):o = .t m:=by
 cases o with
 |l xs=>cases h
 |t m'=>cases h;rw[Mr]at e;cases e;rfl
def BP(np i:Nat)(e:DX)(τ:DS):Option Out:=(e τ).bind fun p=>match p.1 with
 |.list xs=>if np<=i/\i<p.2.length/\p.2.all okM=true then some (.nx (p.2.set i (some (.m xs)))) else none
 |.dict kvs=>(tkP kvs).bind fun m=>if np<=i/\i<p.2.length/\p.2.all okM=true then some (.nx (p.2.set i (some (.k m)))) else none
 |_=>none
theorem RF.newM{F:Frm}{S M:Addr->Prop}{τ:DS}{σ:St}{H:Hp}(f:RF K F S M τ σ H){a:Addr}{i:Nat}{xs:Ow}{vs:HO}(hi:i<τ.length)(hnp:F.ar.length<=i)(hS:S a)(hM:¬M a)(hF:F.H a=none)(h':H a=some vs)
  (l:IsO K (hid S H) xs a vs):RF K F S (fun b=>M b\/b=a) (τ.set i (some xs.L)) (σ.set i (some (.ref a))) H:=by
 have hs:i<σ.length:=by rw[f.r.len];exact hi
 have ne:∀j,j≠i->(τ.set i (some xs.L))[j]?=τ[j]?:=fun j hj=>Y' (Ne.symm hj)
 have ne':∀j,j≠i->(σ.set i (some (V.ref a)))[j]?=σ[j]?:=fun j hj=>Y' (Ne.symm hj)
 have se:(τ.set i (some xs.L))[i]?=some (some xs.L):=U' hi
 have se':(σ.set i (some (V.ref a)))[i]?=some (some (.ref a)):=U' hs
 have Ma:∀(j:Nat) (ys:Ow) (b:Addr),j≠i->τ[j]?=some (some ys.L)->σ[j]?=some (some (.ref b))->b≠a:=fun j ys b hj e e' z=>by
  obtain⟨b',us,h1,h2,_⟩:=f.r.mt j ys e
  rw[e']at h1;cases h1
  subst z
  exact hM h2
 refine⟨⟨by rw[aU,aU];exact f.r.len,fun j x e=>?_,fun j ys e=>?_,fun j ys e=>?_,fun j1 j2 ys zs b e1 e2 f1 f2=>?_,fun b h=>h.elim (f.r.sub b) fun z=>by rw[z];exact hS,f.r.ex,f.r.gr.to (fun j x e=>?_) (fun j o b e q=>?_) (fun b hb _=>⟨.inl hb,rfl⟩) .refl⟩,f.sS,f.old,fun b h=>h.elim (f.new b) fun z=>.inr (by rw[z];exact hF),fun b h=>.inl (f.fm b h),f.fs,f.fsub,f.snew,fun j v e=>?_,fun j v e=>?_,f.fma⟩
 ·by_cases hj:j=i
  ·subst hj;rw[se]at e;exact absurd (A' (A' e)) Ow.not_d
  ·rw[ne j hj]at e
   rw[ne' j hj]
   exact f.r.dat j x e
 ·by_cases hj:j=i
  ·subst hj
   rw[se]at e
   obtain rfl:=Hs e
   exact⟨a,vs,se',.inr rfl,h',l⟩
  ·rw[ne j hj]at e
   rw[ne' j hj]
   obtain⟨b,us,h1,h2,h3,h4⟩:=f.r.mt j ys e
   exact⟨b,us,h1,.inl h2,h3,h4⟩
 ·by_cases hj:j=i
  ·subst hj;rw[se]at e;exact absurd (A' (A' e)) Ow.not_c
  ·rw[ne j hj]at e
   rw[ne' j hj]
   exact f.r.cst j ys e
 ·by_cases h1:j1=i
  ·by_cases h2:j2=i
   ·rw[h1,h2]
   ·exfalso
    subst h1
    rw[se']at f1;cases f1
    rw[ne j2 h2]at e2
    rw[ne' j2 h2]at f2
    exact Ma j2 zs _ h2 e2 f2 rfl
  ·by_cases h2:j2=i
   ·exfalso
    subst h2
    rw[se']at f2;cases f2
    rw[ne j1 h1]at e1
    rw[ne' j1 h1]at f1
    exact Ma j1 ys _ h1 e1 f1 rfl
   ·rw[ne j1 h1]at e1
    rw[ne' j1 h1]at f1
    rw[ne j2 h2]at e2
    rw[ne' j2 h2]at f2
    exact f.r.inj _ _ _ _ b e1 e2 f1 f2
 ·by_cases hj:j=i
  ·subst hj;rw[se]at e;exact absurd (A' (A' e)) Ow.not_g
  ·rw[ne j hj]at e;exact⟨e,ne' j hj⟩
 ·by_cases hj:j=i
  ·subst hj;rw[se']at q;cases q;exact .inr hM
  ·rw[ne j hj]at e;rw[ne' j hj]at q;exact .inl ⟨o,e,q⟩
 ·have:j≠i:=fun z=>by
   subst z
   have:=(F'.mp e).1
   omega
  rw[ne' j this]
  exact f.par j v e
 ·have:j≠i:=fun z=>by
   subst z
   have:=(F'.mp e).1
   omega
  rw[ne j this]
  exact f.pm j v e
theorem RF.hide{F:Frm}{S M:Addr->Prop}{τ:DS}{σ:St}{H H':Hp}(f:RF K F S M τ σ H){a:Addr}(s:Same H H')(ha:H a=none)(h':∃o,H' a=some o):RF K F (fun b=>S b\/b=a) M τ σ H':=by
 have k:Keep S H (fun b=>S b\/b=a) H':=fun b o hn e=>⟨fun z=>z.elim hn (Ai e ha),s b o e⟩
 refine ⟨⟨f.r.len, fun j x e => let ⟨v, h1, h2⟩ := f.r.dat j x e; ⟨v, h1, h2.mono k.same⟩, fun j x e => let ⟨b, vs, h1, h2, h3, h4⟩ := f.r.mt j x e; ⟨b, vs, h1, h2, s _ _ h3, h4.mono k.same⟩,
  fun j x e=>let ⟨b,vs,h1,h2,h3⟩:=f.r.cst j x e;⟨b,vs,h1,k.same.seq h2,h3.mono k.same⟩,f.r.inj,fun b h=>.inl (f.r.sub b h),fun b h=>?_,f.r.gr.to (fun i d e=>⟨e,rfl⟩) (fun j o a e q=>.inl ⟨o,e,q⟩) (fun a h _=>⟨h,by obtain⟨o,e⟩:=f.r.ex a (f.r.sub a h);rw[e];exact s _ _ e⟩) (tsS k.same)⟩,fun b h=>.inl (f.sS b h),fun b o e n=>s _ _ (f.old b o e n),f.new,f.fm,f.fs,f.fsub,fun b h=>h.elim (f.snew b) fun z=>.inr (by rw[z];exact f.hnone ha),f.par,f.pm,f.fma⟩
 rcases h with h|h
 ·obtain⟨o,e⟩:=f.r.ex b h
  exact⟨o,s _ _ e⟩
 ·rw[h];exact h'
theorem RF.hideE{F:Frm}{S M:Addr->Prop}{τ t5:DS}{σ:St}{H H':Hp}(f:RF K F S M τ σ H){a:Addr}(r1:R K S M t5 σ H')(c:Chg M H H')(lk:Like τ t5)(ok:t5.all okM=true)(ha:H a=none)(h':∃o,H' a=some o/\OwH o):RF K F (fun b=>S b\/b=a) M t5 σ H':=by
 have f1:=f.step r1 c lk
 have k:Keep S H (fun b=>S b\/b=a) H':=fun b o hn e=>⟨fun z=>z.elim hn (Ai e ha),c b o (fun z=>hn (f.r.sub b z)) e⟩
 have ts:TSm (hid S H') (hid (fun b=>S b\/b=a) H'):=FD fun b z=>z.elim .inl fun z=>by subst z;exact .inr h'
 refine⟨⟨r1.len,fun j x e=>?_,fun j x e=>?_,fun j x e=>?_,r1.inj,fun b h=>.inl (f.r.sub b h),fun b h=>?_,r1.gr.to (fun i d e=>⟨e,rfl⟩) (fun j o a e q=>.inl ⟨o,e,q⟩) (fun a h _=>⟨h,rfl⟩) ts⟩,fun b h=>.inl (f.sS b h),f1.old,f.new,f.fm,f.fs,f.fsub,fun b h=>h.elim (f.snew b) fun z=>.inr (by rw[z];exact f.hnone ha),f.par,f1.pm,f.fma⟩
 ·obtain⟨v,h1,h2⟩:=f.r.dat j x (((lk.2 j).1.1 x).mp e)
  exact⟨v,h1,h2.mono k.same⟩
 ·obtain⟨b,vs,h1,h2,h3,h4⟩:=r1.mt j x e
  exact⟨b,vs,h1,h2,h3,h4.monoT ts (aZ.mp ok (some x.L) (aO e))⟩
 ·obtain⟨b,vs,h1,h2,h3⟩:=f.r.cst j x (((lk.2 j).1.2 x).mp e)
  exact⟨b,vs,h1,k.same.seq h2,h3.mono k.same⟩
 ·rcases h with h|h
  ·exact r1.ex b h
  ·obtain⟨vs,e,_⟩:=h'
   rw[h];exact⟨_,e⟩
theorem ZF{fr:Bool}{i:Nat}:B K np (JM (T2 Eo) (HX i)) fr (Gh np i):=by
 intro F S M τ σ H D out hnp f ee q
 unfold Gh at ee
 split at ee
 ·rename_i hi
  cases ee
  refine⟨bH _,fun a ha=>?_⟩
  have s:=Ay ha (HO.lst [])
  have f1:=f.hide s ha ⟨_,Ac⟩
  have hM:¬M a:=fun z=>f.r.fresh ha (f.r.sub a z)
  exact q _ _ _ _ (f1.newM (xs:=.l []) hi.2 (W' hnp hi.1) (.inr rfl) hM (f.hnone ha) Ac ⟨[],rfl,rfl⟩) fun b o hn e=>⟨fun z=>z.elim hn (Ai e ha),s b o e⟩
 ·cases ee
theorem Ql{fr:Bool}{i:Nat}{te:TE}{e:DX}(he:E K te true e):B K np (JM te (HX i)) fr (BP np i e):=by
 intro F S M τ σ H D out hnp f ee q
 unfold BP at ee
 obtain⟨⟨x,t5⟩,e1,ee⟩:=oB ee
 dsimp only at ee
 split at ee
 ·split at ee
  ·rename_i xs hi
   cases ee
   refine he.run S M τ σ H _ _ t5 f.r e1 fun v H1 r1 c1 i1=>?_
   obtain⟨ys,a,vs,e2,rfl,h1,h2,h3⟩:=i1
   obtain rfl:=Ow.D_list e2
   have f1:=f.hideE r1 c1 (he.like _ _ _ e1) hi.2.2 h1 ⟨_,h2,h3.ho⟩
   have hM:¬M a:=fun z=>f.r.fresh h1 (f.r.sub a z)
   exact q _ _ _ _ (f1.newM (xs:=.l _) hi.2.1 (W' hnp hi.1) (.inr rfl) hM (f.hnone h1) h2 h3) fun b o hn e=>⟨fun z=>z.elim hn (Ai e h1),c1 b o (fun z=>hn (f.r.sub b z)) e⟩
  ·cases ee
 ·obtain⟨m,em,ee⟩:=oB ee
  split at ee
  ·rename_i hi
   cases ee
   refine he.run S M τ σ H _ _ t5 f.r e1 fun v H1 r1 c1 i1=>?_
   obtain⟨ys,a,vs,e2,rfl,h1,h2,h3⟩:=i1
   obtain rfl:=Wu e2 em
   have f1:=f.hideE r1 c1 (he.like _ _ _ e1) hi.2.2 h1 ⟨_,h2,h3.ho⟩
   have hM:¬M a:=fun z=>f.r.fresh h1 (f.r.sub a z)
   exact q _ _ _ _ (f1.newM (xs:=.t _) hi.2.1 (W' hnp hi.1) (.inr rfl) hM (f.hnone h1) h2 h3) fun b o hn e=>⟨fun z=>z.elim hn (Ai e h1),c1 b o (fun z=>hn (f.r.sub b z)) e⟩
  ·cases ee
 ·cases ee
theorem Wn{fr:Bool}{te:TE}{i:Nat}{e:DX}(he:E K te true e):B K np (fun D σ H=>te σ H fun v H'=>D.nx (σ.set i (some v)) H') fr (BP np i e):=Ql he
def AL(e:DX)(τ:DS):Option Out:=(e τ).map fun p=>.rt p.1 p.2
theorem ZD{fr fe:Bool}{te:TE}{e:DX}(he:E K te fe e)(hf:fr=true->fe=true):B K np (T1 te) fr (AL e):=by
 intro F S M τ σ H D out hnp f ee q
 unfold AL at ee
 obtain⟨⟨x,t5⟩,e1,ee⟩:=oM ee
 cases ee
 refine he.run S M τ σ H _ x t5 f.r e1 fun v H1 r1 c1 i1=>?_
 exact q S M σ H1 v (f.step r1 c1 (he.like _ _ _ e1)) (f.res (i1.imp (fun _=>f.r.fresh) fr hf))
def Dl(np i:Nat)(τ:DS):Option Out:=match τ[i]? with
 |some (some (.m xs))=>if np<=i then some (.rt (.list xs) τ) else none
 |some (some (.k xs))=>if np<=i then some (.rt (.dict (Ja xs)) τ) else none
 |_=>none
theorem Me{np i:Nat}{τ:DS}{out:Out}(e:Dl np i τ=some out):∃w,τ[i]?=some (some (Ow.L w))/\np<=i/\out = .rt w.D τ:=by
 unfold Dl at e
 split at e
 ·rename_i xs hx
  split at e
  ·rename_i h;cases e;exact⟨.l xs,hx,h,rfl⟩
  ·cases e
 ·rename_i xs hx
  split at e
  ·rename_i h;cases e;exact⟨.t xs,hx,h,rfl⟩
  ·cases e
 ·cases e
theorem Wk{fr:Bool}{i:Nat}:B K np (T1 (FL i)) fr (Dl np i):=by
 intro F S M τ σ H D out hnp f ee q
 obtain⟨xs,hx,hi,rfl⟩:=Me ee
 obtain⟨a,vs,h1,h2,h3,h4⟩:=f.r.mt i xs hx
 refine⟨_,h1,q S M σ H _ f ?_⟩
 have hF:F.H a=none:=by
  rcases f.new a h2 with z|z
  ·exfalso
   obtain⟨j,hj⟩:=f.fma a z
   obtain⟨ys,hy⟩:=f.pm j _ hj
   have e:=f.r.inj j i ys xs a hy hx (f.par j _ hj) h1
   have:=(F'.mp hj).1
   omega
  ·exact z
 have res:Res K true F.S F.H H xs.D (.ref a):=⟨xs,a,vs,rfl,rfl,hF,h3,h4.mono (EE fun b z=>z.elim (f.sS b) fun z=>by rw[z];exact f.r.sub a h2)⟩
 refine res.imp (fun b hb=>?_) fr fun _=>rfl
 intro z
 obtain⟨o,e⟩:=f.fs b z
 rw[hb]at e;cases e
def JA(τ:DS):Option Out:=some (.rt .none τ)
def Av(e:DX)(τ:DS):Option Out:=(e τ).map fun p=>.nx p.2
theorem Wo{fr fe:Bool}{te:TE}{e:DX}(he:E K te fe e):B K np (TC te) fr (Av e):=by
 intro F S M τ σ H D out hnp f ee q
 unfold Av at ee
 obtain⟨⟨x,t5⟩,e1,ee⟩:=oM ee
 cases ee
 refine he.run S M τ σ H _ x t5 f.r e1 fun v H1 r1 c1 i1=>?_
 exact q S M σ H1 (f.step r1 c1 (he.like _ _ _ e1)) (c1.keep f.r.sub)
def dMt(i:Nat)(G:List PyData->List PyData->Option (PyData×List PyData))(a:DA)(τ:DS):Option (PyData×DS):=(a τ).bind fun p=>(Aq p.1).bind fun ds=>match p.2[i]? with
 |some (some (.m xs))=>(G xs ds).map fun q=>(q.1,p.2.set i (some (.m q.2)))
 |_=>none
def MR(K:KW)(r:V->List V->Hp->VK->Prop)(G:List PyData->List PyData->Option (PyData×List PyData)):Prop:=∀(S:Addr->Prop) H a vs us xs ds d xs' (Q:VK),S a->H a=some (.lst vs)->IsL K (hid S H) xs vs->IsL K (hid S H) ds us->G xs ds=some (d,xs') ->
 (∀v vs',Is K (hid S H) d v->IsL K (hid S H) xs' vs'->Q v (upd H a (.lst vs')))->r (.ref a) us H Q
theorem Hw{S:Addr->Prop}{H:Hp}{a:Addr}{o:HO}(h:S a):hid S (upd H a o)=hid S H:=by
 funext b
 unfold hid
 by_cases z:S b
 ·rw[if_pos z,if_pos z]
 ·rw[if_neg z,if_neg z,An (fun e=>z (by rw[e];exact h))]
theorem Lo{i:Nat}{G:List PyData->List PyData->Option (PyData×List PyData)}{a:DA}{τ t7:DS}{d:PyData}(e:dMt i G a τ=some (d,t7)):∃rs t5 ds xs xs',a τ=some (rs,t5)/\Aq rs=some ds/\t5[i]?=some (some (.m xs))/\G xs ds=some (d,xs')/\t7=t5.set i (some (.m xs')):=by
 unfold dMt at e
 obtain⟨⟨x,t5⟩,e1,e⟩:=oB e
 obtain⟨ds,e2,e⟩:=oB e
 dsimp only at e
 split at e
 ·rename_i xs hx
  obtain⟨⟨z,zs⟩,e3,e⟩:=oM e
  cases e
  exact⟨x,t5,ds,xs,zs,e1,e2,hx,e3,rfl⟩
 ·cases e
theorem VU{i:Nat}{r:V->List V->Hp->VK->Prop}{G:List PyData->List PyData->Option (PyData×List PyData)}{t:TA}{a:DA}(h:MR K r G)(ha:A K t a):E K (tBM K "list" r (FL i) t) false (dMt i G a):=by
 refine⟨fun τ d t7 e=>?_,?_⟩
 ·obtain⟨rs,t5,ds,xs,xs',e1,e2,e3,e4,rfl⟩:=Lo e
  exact(ha.like _ _ _ e1).trans (Ju e3)
 intro S M τ σ H Q d t7 rr e q
 obtain⟨rs,t5,ds,xs,xs',e1,e2,e3,e4,rfl⟩:=Lo e
 have lk:=ha.like _ _ _ e1
 obtain⟨zs,hz⟩:=lk.ml e3
 obtain⟨p,us,hp,hM,hl0,_⟩:=rr.ml i zs hz
 refine⟨.ref p,hp,.inl ⟨rfl,us,SqL.of hl0⟩,?_⟩
 refine ha.run S M τ σ H _ rs _ rr e1 fun vs H1 r1 c1 i1=>?_
 have l:=CV i1 e2
 obtain⟨p',us',hp',hM',hl,ll⟩:=r1.ml i xs e3
 rw[hp]at hp';cases hp'
 have Sp:=r1.sub p hM'
 refine h S H1 p us' vs xs ds d xs' _ Sp hl ll l e4 fun v vs' iv il=>?_
 have c:Chg (fun b=>b=p) H1 (upd H1 p (.lst vs')):=fun b o hn e=>by rw[An hn];exact e
 refine q v _ (r1.setM e3 hp c Ac (by rw[Hw Sp];exact il)) (c1.trans fun b o hn e=>c b o (fun z=>hn (by subst z;exact hM')) e) ?_
 show Is K (hid S _) d v
 rw[Hw Sp];exact iv
theorem YU{i:Nat}{r:V->List V->Hp->VK->Prop}{G:List PyData->List PyData->Option (PyData×List PyData)}(h:MR K r G):E K (T4 K "list" r (FL i)) false (dMt i G AD):=by
 refine⟨(VU (i:=i) h Nl).like,?_⟩
 intro S M τ σ H Q d t7 rr e q
 obtain⟨v,h1,h2,h3⟩:=(VU (i:=i) h Nl).run S M τ σ H Q d t7 rr e q
 exact⟨v,h1,h2,h3⟩
def Ah:List PyData->List PyData->Option (PyData×List PyData)
 |xs,[d]=>if xs.length<sizeLine then some (.none,xs++[d]) else none
 |_,_=>none
theorem P5:MR K M8 Ah:=by
 intro S H a vs us xs ds d xs' Q Sa hl ll l e q
 unfold Ah at e
 split at e
 ·split at e
  ·rename_i d0 hz
   cases e
   obtain⟨v,us',rfl,iv,iu⟩:=l
   cases (show us'=[] from iu)
   exact⟨a,vs,v,rfl,rfl,hl,by rw[ll.length];exact hz,q _ _ rfl (Ga ll iv)⟩
  ·cases e
 ·cases e
def Bq:List PyData->List PyData->Option (PyData×List PyData)
 |xs,[.list ys]=>if xs.length+ys.length<=sizeLine then some (.none,xs++ys) else none
 |_,_=>none
theorem P4:MR K M6 Bq:=by
 intro S H a vs us xs ds d xs' Q Sa hl ll l e q
 unfold Bq at e
 split at e
 ·split at e
  ·rename_i ys hz
   cases e
   obtain⟨v,us',rfl,⟨b,ws,rfl,hb,lb⟩,iu⟩:=l
   cases (show us'=[] from iu)
   exact⟨a,b,vs,ws,rfl,rfl,hl,(hid_iff.mp hb).2,by rw[ll.length,lb.length];exact hz,q _ _ rfl (DZ ll lb)⟩
  ·cases e
 ·cases e
def Ff:List PyData->List PyData->Option (PyData×List PyData)
 |_,[]=>some (.none,[])
 |_,_=>none
theorem NP{H:Hp}:∀{xs:List PyData} {vs:List V} {j:Nat} {d:PyData} {v:V},IsL K H xs vs->Is K H d v->IsL K H (xs.set j d) (vs.set j v)
 |[],_,_,_,_,h,_=>by rw[show _=[] from h];rfl
 |x::xs,_,0,d,v,⟨u,us,e,h,l⟩,i=>by subst e;exact⟨v,us,rfl,i,l⟩
 |x::xs,_,j+1,d,v,⟨u,us,e,h,l⟩,i=>by subst e;exact⟨u,us.set j v,rfl,h,NP l i⟩
def Dk(i:Nat)(e k:DX)(τ:DS):Option Out:=(e τ).bind fun p=>(k p.2).bind fun q=>match q.2[i]?,q.1 with
 |some (some (.m xs)),.int n=>(ixN xs.length n).map fun j=>.nx (q.2.set i (some (.m (xs.set j p.1))))
 |_,_=>none
theorem Wj{fr f1 f2:Bool}{i:Nat}{te tk:TE}{e k:DX}(he:E K te f1 e)(hk:E K tk f2 k):B K np (JM te (Ry (FL i) tk TQ)) fr (Dk i e k):=by
 intro F S M τ σ H D out hnp f ee q
 unfold Dk at ee
 obtain⟨⟨x,t5⟩,e1,ee⟩:=oB ee
 obtain⟨⟨y,t9⟩,e2,ee⟩:=oB ee
 dsimp only at ee
 split at ee
 ·rename_i xs n hx
  obtain⟨j,e3,ee⟩:=oM ee
  cases ee
  have lk1:=he.like _ _ _ e1
  have lk2:=hk.like _ _ _ e2
  refine he.weak.run S M τ σ H _ x t5 f.r e1 fun v H1 r1 c1 i1=>?_
  obtain⟨zs,hz⟩:=lk2.ml hx
  obtain⟨p,us,hp,hM,_,_⟩:=r1.ml i zs hz
  refine⟨.ref p,hp,hk.weak.run S M t5 σ H1 _ _ t9 r1 e2 fun w H2 r2 c2 i2=>?_⟩
  obtain⟨p',us',hp',hM',hl,ll⟩:=r2.ml i xs hx
  rw[hp]at hp';cases hp'
  have Sp:=r2.sub p hM'
  refine⟨p,us',n,j,rfl,i2,hl,by rw[ll.length];exact e3,?_⟩
  have c:Chg (fun b=>b=p) H2 (upd H2 p (.lst (us'.set j v))):=fun b o hn e=>by rw[An hn];exact e
  have iv:Is K (hid S H2) x v:=Is.mono (c2.keep r1.sub).same i1
  have f2:=f.step r2 (c1.trans c2) (lk1.trans lk2)
  have r3:=r2.setM hx hp c Ac (by rw[Hw Sp];exact NP (j:=j) ll iv)
  have c3:Chg M H2 (upd H2 p (.lst (us'.set j v))):=fun b o hn e=>c b o (fun z=>hn (by subst z;exact hM')) e
  exact q S M σ _ (f2.step r3 c3 (Ju hx)) (((c1.trans c2).trans c3).keep f.r.sub)
 ·cases ee
theorem Gl.trans{F:Frm}{fr:Bool}{S S1:Addr->Prop}{H H1:Hp}{D:JL}{o:Out}(k:Keep S H S1 H1)(h:Gl K F fr S H D o):Gl K F fr S1 H1 D o:=by
 cases o with
 |nx τ=>exact fun S' M' σ' H' r k'=>h S' M' σ' H' r (k.trans k')
 |bk τ=>exact fun S' M' σ' H' r k'=>h S' M' σ' H' r (k.trans k')
 |ct τ=>exact fun S' M' σ' H' r k'=>h S' M' σ' H' r (k.trans k')
 |rt d τ=>exact fun S' M' σ' H' v r k'=>h S' M' σ' H' v r k'
def AR(τ:DS):Option Out:=some (.nx τ)
theorem Tj{fr:Bool}:B K np S9 fr AR:=by
 intro F S M τ σ H D out hnp f ee q
 cases ee
 exact q S M σ H f .refl
def AI(a b:DB)(τ:DS):Option Out:=(a τ).bind fun o=>match o with
 |.nx t7=>b t7
 |o=>some o
theorem ZC{fr:Bool}{t u:TS}{a b:DB}(ha:B K np t fr a)(hb:B K np u fr b):B K np (Tz t u) fr (AI a b):=by
 intro F S M τ σ H D out hnp f ee q
 unfold AI at ee
 obtain⟨o,e1,ee⟩:=oB ee
 refine ha F S M τ σ H _ o hnp f e1 ?_
 cases o with
 |nx t5=>exact fun S' M' σ' H' r k=>hb F S' M' t5 σ' H' D out hnp r ee (q.trans k)
 |bk t5=>cases ee;exact q
 |ct t5=>cases ee;exact q
 |rt d t5=>cases ee;exact q
def AQ(c:DT)(a b:DB)(τ:DS):Option Out:=(c τ).bind fun p=>if p.1=true then a p.2 else b p.2
theorem aI{fr:Bool}{tc:TT}{t u:TS}{c:DT}{a b:DB}(hc:T K tc c)(ha:B K np t fr a)(hb:B K np u fr b):B K np (T3 tc t u) fr (AQ c a b):=by
 intro F S M τ σ H D out hnp f ee q
 unfold AQ at ee
 obtain⟨⟨k,t5⟩,e1,ee⟩:=oB ee
 refine hc.run S M τ σ H _ k t5 f.r e1 fun H1 r1 c1=>?_
 have f1:=f.step r1 c1 (hc.like _ _ _ e1)
 cases k with
 |true=>exact ha F S M t5 σ H1 D out hnp f1 ee (q.trans (c1.keep f.r.sub))
 |false=>exact hb F S M t5 σ H1 D out hnp f1 ee (q.trans (c1.keep f.r.sub))
def Mh(τ:DS):Option Out:=some (.bk τ)
def Mg(τ:DS):Option Out:=some (.ct τ)
def Fl:DB:=fun _=>none
def Bn(g:DG)(b:DB):List PyData->DS->Option Out
 |[],τ=>some (.nx τ)
 |d::ds,τ=>(g d τ).bind fun t5=>(b t5).bind fun o=>match o with
  |.nx t9=>Bn g b ds t9
  |.ct t9=>Bn g b ds t9
  |.bk t9=>some (.nx t9)
  |.rt d t9=>some (.rt d t9)
def B0(it:DI)(g:DG)(b:DB)(τ:DS):Option Out:=(it τ).bind fun p=>Bn g b p.1 p.2
theorem ZH{fr:Bool}{wi:TI}{tg:TG}{tb:TS}{it:DI}{g:DG}{b:DB}(hi:IT K wi it)(hg:TG1 K tg g)(hb:B K np tb fr b):B K np (XD wi tg tb) fr (B0 it g b):=by
 intro F S M τ σ H D out hnp f ee q
 unfold B0 at ee
 obtain⟨⟨ds,t5⟩,e1,ee⟩:=oB ee
 refine hi.run S M τ σ H _ ds t5 f.r e1 fun J H1 r1 c1 iJ=>?_
 have f1:=f.step r1 c1 (hi.like _ _ _ e1)
 have q1:=q.trans (c1.keep f.r.sub)
 refine⟨fun i m σ' H'=>m=ds.length-i/\i<=ds.length/\∃S' M' t7,RF K F S' M' t7 σ' H'/\Keep S H1 S' H'/\Bn g b (ds.drop i) t7=some out,⟨ds.length,by simp,bH _,S,M,t5,f1,.refl,by simpa using ee⟩,?_⟩
 rintro i m σ' H' ⟨rfl,hil,S',M',t7,f',k',hl⟩
 obtain⟨I1,I2⟩:=iJ _ _ k'
 by_cases hlt:i<ds.length
 ·right
  have ed:ds[i]?=some ds[i]:=aX hlt
  obtain⟨go,yl⟩:=I1 i _ ed
  refine⟨go,fun σ2 H2=>∃S2 M2 t9,RF K F S2 M2 t9 σ2 H2/\Keep S H1 S2 H2/\Bn g b (ds.drop (i+1)) t9=some out,fun σ2 H2 h=>⟨ds.length-(i+1),by omega,rfl,hlt,h⟩,fun x H2 y=>?_⟩
  obtain⟨rfl,ix⟩:=yl x H2 y
  rw[bL hlt,Bn]at hl
  obtain⟨t9,e2,hl⟩:=oB hl
  obtain⟨o,e3,hl⟩:=oB hl
  refine hg.run S' M' t7 σ' H2 x _ t9 _ f'.r ix e2 fun σ3 r3 k3=>?_
  have f3:=f'.stay r3 (hg.ms _ _ _ e2) k3
  refine hb F S' M' t9 σ3 H2 _ o hnp f3 e3 ?_
  cases o with
  |nx l8=>exact fun S4 M4 σ4 H4 f4 k4=>⟨S4,M4,l8,f4,k'.trans k4,hl⟩
  |ct l8=>exact fun S4 M4 σ4 H4 f4 k4=>⟨S4,M4,l8,f4,k'.trans k4,hl⟩
  |bk l8=>cases hl;exact fun S4 M4 σ4 H4 f4 k4=>q1 S4 M4 σ4 H4 f4 (k'.trans k4)
  |rt d l8=>cases hl;exact fun S4 M4 σ4 H4 v f4 k4=>q1 S4 M4 σ4 H4 v f4 k4
 ·left
  have e:i=ds.length:=by omega
  subst e
  rw[cO,Bn]at hl
  cases hl
  exact⟨I2 _ (J' _),q1 S' M' σ' H' f' k'⟩
def dWh(c:DT)(b:DB):Nat->DS->Option Out
 |0,_=>none
 | n + 1, τ => (c τ).bind fun p => if p.1 = true then (b p.2).bind fun o => (match o with
   |.nx t9=>dWh c b n t9
   |.ct t9=>dWh c b n t9
   |.bk t9=>some (.nx t9)
   |.rt d t9=>some (.rt d t9)) else some (.nx p.2)
def Fh(n:DS->Nat)(c:DT)(b:DB)(τ:DS):Option Out:=dWh c b (n τ) τ
theorem So{fr:Bool}{n:DS->Nat}{tc:TT}{tb:TS}{c:DT}{b:DB}(hc:T K tc c)(hb:B K np tb fr b):B K np (Oo tc tb) fr (Fh n c b):=by
 intro F S M τ σ H D out hnp f ee q
 unfold Fh at ee
 refine⟨fun m σ' H'=>∃S' M' t7,RF K F S' M' t7 σ' H'/\Keep S H S' H'/\dWh c b m t7=some out,⟨n τ,S,M,τ,f,.refl,ee⟩,?_⟩
 rintro m σ' H' ⟨S',M',t7,f',k',hl⟩
 cases m with
 |zero=>cases hl
 |succ m =>
  rw[dWh]at hl
  obtain⟨⟨k,t5⟩,e1,hl⟩:=oB hl
  refine hc.run S' M' t7 σ' H' _ k t5 f'.r e1 fun H1 r1 c1=>?_
  have f1:=f'.step r1 c1 (hc.like _ _ _ e1)
  have k1:=k'.trans (c1.keep f'.r.sub)
  cases k with
  |false =>
   rw[if_neg aP]at hl ⊢
   cases hl
   exact q S' M' σ' H1 f1 k1
  |true =>
   rw[if_pos rfl]at hl ⊢
   obtain⟨o,e3,hl⟩:=oB hl
   refine⟨fun σ2 H2=>∃S2 M2 t9,RF K F S2 M2 t9 σ2 H2/\Keep S H S2 H2/\dWh c b m t9=some out,fun σ2 H2 h=>⟨m,cP _,h⟩,?_⟩
   refine hb F S' M' t5 σ' H1 _ o hnp f1 e3 ?_
   cases o with
   |nx l8=>exact fun S4 M4 σ4 H4 f4 k4=>⟨S4,M4,l8,f4,k1.trans k4,hl⟩
   |ct l8=>exact fun S4 M4 σ4 H4 f4 k4=>⟨S4,M4,l8,f4,k1.trans k4,hl⟩
   |bk l8=>cases hl;exact fun S4 M4 σ4 H4 f4 k4=>q S4 M4 σ4 H4 f4 (k1.trans k4)
   |rt d l8=>cases hl;exact fun S4 M4 σ4 H4 v f4 k4=>q S4 M4 σ4 H4 v f4 k4
def fin:List L->DS->Option (List L)
 |[],_=>some []
 |.d x::ls,_::τ=>(fin ls τ).map (.d x::·)
 |.c x::ls,_::τ=>(fin ls τ).map (.c x::·)
 |.m _::ls,some (.m xs)::τ=>(fin ls τ).map (.m xs::·)
 |.k _::ls,some (.k xs)::τ=>(fin ls τ).map (.k xs::·)
 |_,_=>none
def AX(fr:Bool)(np nl:Nat)(b:DB)(ls:List L):Option (PyData×List L):=if ls.length=np then (b (ls.map some++List.replicate nl none)).bind fun o=>match o with
  |.nx τ=>if fr=true then none else (fin ls τ).map fun ls'=>(.none,ls')
  |.rt d τ=>(fin ls τ).map fun ls'=>(d,ls')
  |_=>none
 else none
theorem C6:∀{ls:List L} {τ:DS} {ls':List L} {i:Nat} {l:L},fin ls τ=some ls'->ls'[i]?=some l->match l with
  |.d x=>ls[i]?=some (.d x)
  |.c x=>ls[i]?=some (.c x)
  |.m xs=>(∃ys,ls[i]?=some (.m ys))/\τ[i]?=some (some (.m xs))
  |.k xs=>(∃ys,ls[i]?=some (.k ys))/\τ[i]?=some (some (.k xs))
  |.g _=>False
 |[],_,_,_,_,h,e=>by cases h;simp at e
 |.d x::ls,o::τ,_,i,l,h,e=>by
  obtain⟨zs,h1,h⟩:=oM h
  subst h
  cases i with
  |zero=>cases e;rfl
  |succ i =>
   have:=C6 (i:=i) (l:=l) h1 (by simpa using e)
   cases l<;>simpa using this
 |.c x::ls,o::τ,_,i,l,h,e=>by
  obtain⟨zs,h1,h⟩:=oM h
  subst h
  cases i with
  |zero=>cases e;rfl
  |succ i =>
   have:=C6 (i:=i) (l:=l) h1 (by simpa using e)
   cases l<;>simpa using this
 |.m x::ls,some (.m xs)::τ,_,i,l,h,e=>by
  obtain⟨zs,h1,h⟩:=oM h
  subst h
  cases i with
  |zero=>cases e;exact⟨⟨_,rfl⟩,rfl⟩
  |succ i =>
   have:=C6 (i:=i) (l:=l) h1 (by simpa using e)
   cases l<;>simpa using this
 |.k x::ls,some (.k xs)::τ,_,i,l,h,e=>by
  obtain⟨zs,h1,h⟩:=oM h
  subst h
  cases i with
  |zero=>cases e;exact⟨⟨_,rfl⟩,rfl⟩
  |succ i =>
   have:=C6 (i:=i) (l:=l) h1 (by simpa using e)
   cases l<;>simpa using this
theorem Ge:∀{ls:List L} {τ:DS} {ls':List L},fin ls τ=some ls'->ls'.length=ls.length
 |[],_,_,h=>by cases h;rfl
 |.d x::ls,o::τ,_,h=>by
  obtain⟨zs,h1,h⟩:=oM h
  subst h
  rw[aR,aR,Ge h1]
 |.c x::ls,o::τ,_,h=>by
  obtain⟨zs,h1,h⟩:=oM h
  subst h
  rw[aR,aR,Ge h1]
 |.m x::ls,some (.m xs)::τ,_,h=>by
  obtain⟨zs,h1,h⟩:=oM h
  subst h
  rw[aR,aR,Ge h1]
 |.k x::ls,some (.k xs)::τ,_,h=>by
  obtain⟨zs,h1,h⟩:=oM h
  subst h
  rw[aR,aR,Ge h1]
theorem Jv:∀{ls:List L} {τ:DS} {ls':List L},fin ls τ=some ls'->∀(i:Nat) (d:PyData),ls[i]?≠some (.g d)
 |[],_,_,_,i,d=>by simp
 |.d x::ls,o::τ,_,h,i,d=>by
  obtain⟨zs,h1,h⟩:=oM h
  cases i with
  |zero=>simp
  |succ i=>simpa using Jv h1 i d
 |.c x::ls,o::τ,_,h,i,d=>by
  obtain⟨zs,h1,h⟩:=oM h
  cases i with
  |zero=>simp
  |succ i=>simpa using Jv h1 i d
 |.m x::ls,some (.m xs)::τ,_,h,i,d=>by
  obtain⟨zs,h1,h⟩:=oM h
  cases i with
  |zero=>simp
  |succ i=>simpa using Jv h1 i d
 |.k x::ls,some (.k xs)::τ,_,h,i,d=>by
  obtain⟨zs,h1,h⟩:=oM h
  cases i with
  |zero=>simp
  |succ i=>simpa using Jv h1 i d
theorem Ko{ls:List L}{τ:DS}{ls':List L}{i:Nat}{x:Ow}(h:fin ls τ=some ls')(e:ls'[i]?=some x.L):(∃ys:Ow,ls[i]?=some ys.L)/\τ[i]?=some (some x.L):=by
 cases x with
 |l xs=>obtain⟨⟨ys,h1⟩,h2⟩:=C6 h e;exact⟨⟨.l ys,h1⟩,h2⟩
 |t xs=>obtain⟨⟨ys,h1⟩,h2⟩:=C6 h e;exact⟨⟨.t ys,h1⟩,h2⟩
theorem BW{α β:Type}{f:α->β}{xs:List α}{i:Nat}{y:β}(h:(xs.map f)[i]?=some y):∃x,xs[i]?=some x/\f x=y:=by
 rw[G']at h
 cases e:xs[i]? with
 |none=>rw[e]at h;cases h
 |some x=>rw[e]at h;exact⟨x,rfl,A' h⟩
theorem VP{G:List L->Option (PyData×List L)}{fr:Bool}{vs:List V}{H:Hp}{Q:VK}{X:XK}{np:Nat}(hG:∀ls r,G ls=some r->ls.length=np)(h:spD K G fr vs H Q X):vs.length=np:=by
 obtain⟨S,M,ls,r,ls',hR,e,_⟩:=h
 have:=hR.len
 rw[B',B']at this
 rw[this,hG _ _ e]
theorem Lr{fr:Bool}{np nl:Nat}{b:DB}:∀ls r,AX fr np nl b ls=some r->ls.length=np:=fun ls r h=>by
 unfold AX at h
 split at h
 ·assumption
 ·cases h
theorem VO{np nl:Nat}{t:TS}{fr:Bool}{b:DB}{N:List Str}{vs:List V}{H:Hp}{Q:VK}{X:XK}(hb:B K np t fr b)(hN:N.length=np+nl)(h:spD K (AX fr np nl b) fr vs H Q X):t { nx:=fun _ H'=>Q .non H',rt:=Q } (L2.start N vs) H:=by
 obtain⟨S,M,ls,r,ls',hR,e,q⟩:=h
 have hlen:=Lr _ _ e
 have hvl:vs.length=ls.length:=by have:=hR.len;rw[B',B']at this;exact this
 unfold AX at e
 rw[if_pos hlen]at e
 obtain⟨o,e1,e⟩:=oB e
 have est:L2.start N vs=vs.map some++List.replicate nl none:=by
  unfold L2.start
  rw[hN,hvl,hlen,Nat.add_sub_cancel_left]
 rw[est]
 -- the entry
 have lsm:∀(i:Nat) (l:L),(ls.map some++List.replicate nl none:DS)[i]?=some (some l)->ls[i]?=some l:=fun i l h=>by
  by_cases hi:i<ls.length
  ·rw[aS (by rw[B'];exact hi)]at h
   obtain⟨x,h1,h2⟩:=BW h
   cases h2;exact h1
  ·rw[aV (by rw[B'];omega),aj]at h
   split at h<;>cases h
 have vsm:∀(i:Nat) (v:V),(vs.map some)[i]?=some (some v)->(vs.map some++List.replicate nl none:St)[i]?=some (some v):=fun i v h=>by
  rw[aS (F'.mp h).1];exact h
 have vsb:∀(i:Nat) (v:V),(vs.map some++List.replicate nl none:St)[i]?=some (some v)->(vs.map some)[i]?=some (some v):=fun i v h=>by
  by_cases hi:i<(vs.map some).length
  ·rw[aS hi]at h;exact h
  ·rw[aV (by omega),aj]at h
   split at h<;>cases h
 have lm:∀(i:Nat) (l:L),ls[i]?=some l->(ls.map some)[i]?=some (some l):=fun i l h=>by rw[G',h];rfl
 let Mx:Addr->Prop:=fun a=>∃(i:Nat) (xs:Ow),ls[i]?=some xs.L/\vs[i]?=some (.ref a)
 let ar:List (Option V):=(ls.zip vs).map fun p=>match p.1 with
  |.m _=>some p.2
  |.k _=>some p.2
  |_=>none
 have arg:∀(i:Nat) (v:V),ar[i]?=some (some v)->∃xs:Ow,ls[i]?=some xs.L/\vs[i]?=some v:=fun i v h=>by
  obtain⟨⟨l,u⟩,h1,h2⟩:=BW h
  rw[List.getElem?_zip_eq_some]at h1
  cases l with
  |d x=>cases h2
  |c x=>cases h2
  |m xs=>cases h2;exact⟨.l xs,h1.1,h1.2⟩
  |k xs=>cases h2;exact⟨.t xs,h1.1,h1.2⟩
  |g x=>cases h2
 have gar:∀(i:Nat) (xs:Ow) (v:V),ls[i]?=some xs.L->vs[i]?=some v->ar[i]?=some (some v):=fun i xs v h1 h2=>by
  show((ls.zip vs).map _)[i]?=_
  rw[G',(List.getElem?_zip_eq_some (z:=(xs.L,v))).mpr ⟨h1,h2⟩]
  cases xs<;>rfl
 have Msub:∀a,Mx a->M a:=fun a ⟨i,xs,h1,h2⟩=>by
  obtain⟨b',us,h3,h4,_⟩:=hR.mt i xs (lm i _ h1)
  rw[G',h2]at h3
  cases h3;exact h4
 have hng:∀(i:Nat) (d:PyData),ls[i]?≠some (.g d):=by
  cases o with
  |nx t7 =>
   cases fr with
   |false=>obtain⟨ls1,e2,_⟩:=oM e;exact Jv e2
   |true=>cases e
  |bk t7=>cases e
  |ct t7=>cases e
  |rt d t7=>obtain⟨ls1,e2,_⟩:=oM e;exact Jv e2
 have f0:RF K ⟨S,Mx,H,ar⟩ S Mx (ls.map some++List.replicate nl none) (vs.map some++List.replicate nl none) H:=by
  refine ⟨⟨by simp [hvl], fun i x h => ?_, fun i x h => ?_, fun i x h => ?_, fun i j xs ys a h1 h2 h3 h4 => hR.inj i j xs ys a (lm _ _ (lsm _ _ h1)) (lm _ _ (lsm _ _ h2)) (vsb _ _ h3) (vsb _ _ h4), fun a h => hR.sub a (Msub a h), hR.ex, GR.nil fun i d h => hng i d (lsm i _ h)⟩,
   fun a h=>h,fun b o h _=>h,fun a h=>.inl h,fun a h=>h,hR.ex,fun a h=>hR.sub a (Msub a h),fun a h=>.inl h,fun i v h=>?_,fun i v h=>?_,fun a ⟨i,xs,h1,h2⟩=>⟨i,gar i xs _ h1 h2⟩⟩
  ·obtain⟨v,h1,h2⟩:=hR.dat i x (lm _ _ (lsm _ _ h))
   exact⟨v,vsm _ _ h1,h2⟩
  ·obtain⟨a,us,h1,h2,h3,h4⟩:=hR.mt i x (lm _ _ (lsm _ _ h))
   refine⟨a,us,vsm _ _ h1,⟨i,x,lsm _ _ h,?_⟩,h3,h4⟩
   obtain⟨v,h5,h6⟩:=BW h1
   cases h6;exact h5
  ·obtain⟨a,us,h1,h2⟩:=hR.cst i x (lm _ _ (lsm _ _ h))
   exact⟨a,us,vsm _ _ h1,h2⟩
  ·obtain⟨xs,h1,h2⟩:=arg i v h
   exact vsm _ _ (by rw[G',h2];rfl)
  ·obtain⟨xs,h1,h2⟩:=arg i v h
   refine⟨xs,?_⟩
   rw[aS (by rw[B'];exact(F'.mp h1).1)]
   exact lm _ _ h1
 have hnp:ar.length<=np:=by
  show((ls.zip vs).map _).length<=np
  rw[B',List.length_zip]
  omega
 -- the end
 have done:∀{S' M' t7 σ' H' d v} {ls1:List L},RF K ⟨S,Mx,H,ar⟩ S' M' t7 σ' H'->fin ls t7=some ls1->(r,ls')=(d,ls1)->Res K fr S H H' d v->Q v H':=fun {S' M' t7 σ' H' d v ls1} f hf er res=>by
  cases er
  have k:Keep S H S H':=fun b o hn e=>⟨hn,f.old b o e fun z=>hn (hR.sub b (Msub b z))⟩
  refine q v H' ⟨?_,fun i x h=>?_,fun i x h=>?_,fun i x h=>?_,fun i j xs ys a h1 h2 h3 h4=>?_,hR.sub,fun a h=>f.r.ex a (f.sS a h),GR.nil fun i d h=>?_⟩ (fun b o hn e=>f.old b o e fun z=>hn (Msub b z)) res
  ·rw[B',B',Ge hf,hvl]
  ·obtain⟨l,h1,h2⟩:=BW h
   cases h2
   have:=C6 hf h1
   obtain⟨v,h3,h4⟩:=hR.dat i x (lm _ _ this)
   exact⟨v,h3,h4.mono k.same⟩
  ·obtain⟨l,h1,h2⟩:=BW h
   cases h2
   obtain⟨⟨ys,h3⟩,h4⟩:=Ko hf h1
   obtain⟨a,us,h5,h6,h7,h8⟩:=f.r.mt i x h4
   obtain⟨b,ws,g1,g2,_⟩:=hR.mt i ys (lm _ _ h3)
   obtain⟨u,g3,g4⟩:=BW g1
   cases g4
   have:=f.par i _ (gar i ys _ h3 g3)
   rw[h5]at this;cases this
   exact⟨a,us,g1,g2,h7,h8.mono (EE f.sS)⟩
  ·obtain⟨l,h1,h2⟩:=BW h
   cases h2
   have:=C6 hf h1
   obtain⟨a,us,h3,h4,h5⟩:=hR.cst i x (lm _ _ this)
   exact⟨a,us,h3,k.same.seq h4,h5.mono k.same⟩
  ·obtain⟨l1,g1,g2⟩:=BW h1
   obtain⟨l2,g3,g4⟩:=BW h2
   cases g2;cases g4
   obtain⟨⟨zs,h5⟩,_⟩:=Ko hf g1
   obtain⟨⟨ws,h6⟩,_⟩:=Ko hf g3
   exact hR.inj i j zs ws a (lm _ _ h5) (lm _ _ h6) h3 h4
  ·obtain⟨l,h1,h2⟩:=BW h
   cases h2
   exact C6 hf h1
 refine hb ⟨S,Mx,H,ar⟩ S Mx _ _ H _ o hnp f0 e1 ?_
 cases o with
 |nx t7 =>
  cases fr with
  |false =>
   obtain⟨ls1,e2,e⟩:=oM e
   intro S' M' σ' H' f k
   exact done f e2 e.symm rfl
  |true=>cases e
 |bk t7=>cases e
 |ct t7=>cases e
 |rt d t7 =>
  obtain⟨ls1,e2,e⟩:=oM e
  intro S' M' σ' H' v f res
  exact done f e2 e.symm res
end DL
end
section
namespace DL
open PySem L2 PyProof.Rows
variable {K:KW}
def Aj:List PyData->Option PyData
 |[.list xs]=>some (.int xs.length)
 |[.tuple xs]=>some (.int xs.length)
 |[.str x]=>if x.length<=sizeLine then some (.int x.length) else none
 |_=>none
theorem Y9:BR K false (fun xs H Q=>∃x n,xs=[x]/\OX K x H n/\Q (.int n) H) Aj:=by
 intro S H vs ds d Q _ l e q
 unfold Aj at e
 split at e
 ·cases e
  obtain⟨v,us,rfl,⟨a,ws,rfl,h,lw⟩,iu⟩:=l
  cases (show us=[] from iu)
  exact⟨_,ws.length,rfl,.inl ⟨ws,SqL.of (hid_iff.mp h).2,rfl⟩,q _ H (fun _ _ e=>e) (by rw[lw.length];rfl)⟩
 ·cases e
  obtain⟨v,us,rfl,⟨a,ws,rfl,h,lw⟩,iu⟩:=l
  cases (show us=[] from iu)
  exact⟨_,ws.length,rfl,.inr ⟨ws,Same.tup same_hid h,rfl⟩,q _ H (fun _ _ e=>e) (by rw[lw.length];rfl)⟩
 ·split at e
  ·rename_i hz
   cases e
   obtain⟨v,us,rfl,iv,iu⟩:=l
   cases (show us=[] from iu)
   cases (show v = .str _ from iv)
   exact⟨_,_,rfl,⟨hz,rfl⟩,q _ H (fun _ _ e=>e) rfl⟩
  ·cases e
 ·cases e
def f1(g:Int->Int):List PyData->Option PyData
 |[.int i]=>some (.int (g i))
 |_=>none
def f2(g:Int->Int->Int):List PyData->Option PyData
 |[.int i,.int j]=>some (.int (g i j))
 |_=>none
theorem c_1{g:Int->Int}:BR K false (fun xs H Q=>∃i,xs=[.int i]/\Q (.int (g i)) H) (f1 g):=by
 intro S H vs ds d Q _ l e q
 unfold f1 at e
 split at e
 ·cases e
  obtain⟨v,us,rfl,iv,iu⟩:=l
  cases (show us=[] from iu)
  cases (show v = .int _ from iv)
  exact⟨_,rfl,q _ H (fun _ _ e=>e) rfl⟩
 ·cases e
def Hm:=f1 fun i=>if i<0 then -i else i
def Iz:=f2 fun i j=>if j>i then j else i
def Iy:=f2 fun i j=>if j<i then j else i
theorem ZA:BR K false (fun xs H Q=>∃i,xs=[.int i]/\Q (.int (if i<0 then -i else i)) H) Hm:=c_1
def Cy:List PyData->Option PyData
 |[.int i]=>some (.int i)
 |[.bool b]=>some (.int (if b then 1 else 0))
 |_=>none
theorem We:BR K false (fun xs H Q=>(∃i,xs=[.int i]/\Q (.int i) H)\/∃k,xs=[.bl k]/\Q (.int (if k then 1 else 0)) H) Cy:=by
 intro S H vs ds d Q _ l e q
 unfold Cy at e
 split at e
 ·cases e
  obtain⟨v,us,rfl,iv,iu⟩:=l
  cases (show us=[] from iu)
  cases (show v = .int _ from iv)
  exact .inl ⟨_,rfl,q _ H (fun _ _ e=>e) rfl⟩
 ·cases e
  obtain⟨v,us,rfl,iv,iu⟩:=l
  cases (show us=[] from iu)
  cases (show v = .bl _ from iv)
  exact .inr ⟨_,rfl,q _ H (fun _ _ e=>e) rfl⟩
 ·cases e
def By:List PyData->Option PyData
 |[.list xs]=>some (.list xs)
 |[.tuple xs]=>some (.list xs)
 |_=>none
theorem Wd:BR K true (fun xs H Q=>∃p ys,xs=[.ref p]/\(SqL K H p ys\/SqT K H p ys)/\∀l,H l=none->Q (.ref l) (upd H l (.lst ys))) By:=by
 intro S H vs ds d Q _ l e q
 unfold By at e
 split at e
 ·cases e
  obtain⟨v,us,rfl,⟨a,ws,rfl,h,lw⟩,iu⟩:=l
  cases (show us=[] from iu)
  exact⟨a,ws,rfl,.inl (SqL.of (hid_iff.mp h).2),fun p hp=>q _ _ (Ay hp _) (FG hp lw)⟩
 ·cases e
  obtain⟨v,us,rfl,⟨a,ws,rfl,h,lw⟩,iu⟩:=l
  cases (show us=[] from iu)
  exact⟨a,ws,rfl,.inr (Same.tup same_hid h),fun p hp=>q _ _ (Ay hp _) (FG hp lw)⟩
 ·cases e
def tyN:PyData->String
 |.none=>"NoneType"
 |.bool _=>"bool"
 |.int _=>"int"
 |.str _=>"str"
 |.list _=>"list"
 |.tuple _=>"tuple"
 |.dict _=>"dict"
def UG(K:KW):List V->Hp->VK->Prop:=fun xs H Q=>∃x T d b,xs=[x,.ty T]/\Is K H d x/\PySem.W.kitOne K (.type (tyN d)) (.type T)=some b/\Q (.bl b) H
theorem OS{X:Cx}:B8 X (.builtin "isinstance") (UG (EB X)):=by
 intro pins s σ H xs us Q I r h
 obtain⟨x,T,d,b,rfl,ix,k,q⟩:=h
 obtain⟨u,w',rfl,rx,rT⟩:=Od r
 cases (show w'=Value.type T from rT)
 have fin:∀tk,EP X pins σ Q (.bool b) { s with toks:=tk }:=fun tk=>⟨.bl b,H,I.tok _,rfl,q⟩
 cases d with
 |none=>cases (show x = .non from ix);exact ED I rx .non k fin
 |bool y=>cases (show x = .bl y from ix);exact ED I rx (.bl y) k fin
 |int y=>cases (show x = .int y from ix);exact ED I rx (.int y) k fin
 |str y=>cases (show x = .str y from ix);exact ED I rx (.str y) k fin
 |list y=>obtain⟨a,vs,rfl,h,_⟩:=ix;exact ED I rx (.lst h) k fin
 |tuple y =>
  obtain⟨a,vs,rfl,h,_⟩:=ix
  cases (show u=Value.ref a from rx)
  obtain⟨its,_,⟨o,h1,h2,_⟩,_⟩:=I.tuple h
  exact aY PySem.W.kitx_tuple I.kIn ⟨o,h1,h2⟩ k (fun z=>nomatch z) fin
 |dict y =>
  obtain⟨a,ts,rfl,⟨ep,h⟩,_⟩:=ix
  cases (show u=Value.ref a from rx)
  obtain⟨⟨_,_,_,xs,pr,o,es,ho,he,hd,hes⟩,_,_⟩:=(show ObjOk X.prog X.w H s.heap a (.ext (RI a ts ep)) from I.hok a _ h)
  exact aY cL I.kIn ⟨o,ho,he.1⟩ k (fun z=>nomatch z) fin
def YA(T t:String):Bool:=t==T||(T=="int"&&t=="bool")
def Ro(T:String)(d:PyData):Bool:=YA T (tyN d)
def Tu(T:String):Bool:=["int","bool","str","list","tuple"].contains T
theorem OC{T t:String}(hT:T∈["int","bool","str","list","tuple"])(ht:t∈["NoneType","bool","int","str","list","tuple","dict"]):PySem.W.kitOne K (.type t) (.type T)=some (YA T t):=by
 simp only[List.mem_cons,List.not_mem_nil,or_false]at hT ht
 rcases hT with rfl|rfl|rfl|rfl|rfl<;>rcases ht with rfl|rfl|rfl|rfl|rfl|rfl|rfl<;>first
  |exact P9 _
  |exact Uy (by decide +kernel) (by decide +kernel) (by decide +kernel)
theorem Rj{T:String}{d:PyData}(h:Tu T=true):PySem.W.kitOne K (.type (tyN d)) (.type T)=some (Ro T d) :=
 OC (by simpa[Tu] using h) (by cases d<;>simp[tyN])
def Bg(T:String)(a:DX)(τ:DS):Option (PyData×DS):=(a τ).bind fun p=>if Tu T then some (.bool (Ro T p.1),p.2) else none
theorem YZ{T:String}{fr:Bool}{t:TE}{a:DX}(ha:E K t fr a):E K (tCB (UG K) (Cs t (Cs (tC (.ty T)) Eo))) false (Bg T a):=by
 refine⟨fun τ d t7 e=>?_,?_⟩
 ·unfold Bg at e
  obtain⟨⟨x,t5⟩,e1,e⟩:=oB e
  split at e
  ·cases e;exact ha.like _ _ _ e1
  ·cases e
 intro S M τ σ H Q d t7 r e q
 unfold Bg at e
 obtain⟨⟨x,t5⟩,e1,e⟩:=oB e
 split at e
 ·rename_i hT
  cases e
  refine ha.weak.run S M τ σ H _ x _ r e1 fun v H1 r1 c1 i1=>?_
  exact⟨v,T,x,_,rfl,Is.mono same_hid i1,Rj hT,q _ H1 r1 c1 rfl⟩
 ·cases e
def BN(i j:Nat)(a:DA)(τ:DS):Option Out:=(a τ).bind fun p=>(Aq p.1).bind fun ds=>match ds with
 |[x,y]=>(dN i x p.2).bind fun t5=>(dN j y t5).map .nx
 |_=>none
theorem ZE{np:Nat}{fr:Bool}{i j:Nat}{ta:TA}{a:DA}(ha:A K ta a):B K np (XA i j ta) fr (BN i j a):=by
 intro F S M τ σ H D out hnp f ee q
 unfold BN at ee
 obtain⟨⟨x,t5⟩,e1,ee⟩:=oB ee
 obtain⟨ds,e2,ee⟩:=oB ee
 split at ee
 ·rename_i x y
  obtain⟨t9,e3,ee⟩:=oB ee
  obtain⟨l7,e4,ee⟩:=oM ee
  cases ee
  refine ha.run S M τ σ H _ _ t5 f.r e1 fun vs H1 r1 c1 i1=>?_
  obtain⟨v,us,rfl,iv,w,us',rfl,iw,iu⟩:=CV i1 e2
  cases (show us'=[] from iu)
  refine⟨v,w,rfl,?_⟩
  have f1:=f.step r1 c1 (ha.like _ _ _ e1)
  refine(Fe (K:=K) (i:=i)).run S M t5 σ H1 v x t9 (fun σ' H'=>D.nx (σ'.set j (some w)) H') r1 iv e3 fun σ2 r2 k2=>?_
  have f2:=f1.stay r2 ((Fe (K:=K) (i:=i)).ms _ _ _ e3) k2
  refine(Fe (K:=K) (i:=j)).run S M t9 σ2 H1 w y l7 (fun σ' H'=>D.nx σ' H') r2 iw e4 fun σ3 r3 k3=>?_
  exact q S M σ3 H1 (f2.stay r3 ((Fe (K:=K) (i:=j)).ms _ _ _ e4) k3) (c1.keep f.r.sub)
 ·cases ee
end DL
end
section
namespace DL
open PySem L2
variable {K:KW}
def Bj(i:Nat)(f:DT)(τ:DS):Option (Bool×DS):=match τ[i]? with
 |some (some (.m xs))=>(f (τ.set i (some (.d (.list xs))))).bind fun q=>if q.2.all okM then some (q.1,q.2.set i (some (.m xs))) else none
 |some (some (.k xs))=>(f (τ.set i (some (.d (.dict (Ja xs)))))).bind fun q=>if q.2.all okM then some (q.1,q.2.set i (some (.k xs))) else none
 |_=>none
theorem I0{i:Nat}{f:DT}{τ:DS}{d:Bool}{t7:DS}(e:Bj i f τ=some (d,t7)):∃w t5,τ[i]?=some (some (Ow.L w))/\f (τ.set i (some (.d w.D)))=some (d,t5)/\t5.all okM=true/\t7=t5.set i (some w.L):=by
 unfold Bj at e
 split at e
 ·rename_i xs hx
  obtain⟨⟨z,t5⟩,e1,e⟩:=oB e
  dsimp only at e
  split at e
  ·rename_i h
   cases e
   exact⟨.l xs,t5,hx,e1,h,rfl⟩
  ·cases e
 ·rename_i xs hx
  obtain⟨⟨z,t5⟩,e1,e⟩:=oB e
  dsimp only at e
  split at e
  ·rename_i h
   cases e
   exact⟨.t xs,t5,hx,e1,h,rfl⟩
  ·cases e
 ·cases e
theorem W6{i:Nat}{t:TT}{f:DT}(h:T K t f):T K t (Bj i f):=by
 refine⟨fun τ d t7 e=>?_,?_⟩
 ·obtain⟨xs,t5,e1,e2,_,rfl⟩:=I0 e
  exact Il e1 (h.like _ _ _ e2)
 intro S M τ σ H Q d t7 r e q
 obtain⟨xs,t5,e1,e2,ok,rfl⟩:=I0 e
 obtain⟨p,us,hp,hM,hl,ll⟩:=r.mt i xs e1
 refine h.run _ _ _ σ H _ d t5 (frz r e1 hp) e2 fun H' r' c=>?_
 exact q H' (Oe r e1 hp r' (h.like _ _ _ e2) c ok) (fun b o hn e=>c b o (fun z=>hn z.1) e)
def A7(τ:DS):Option (Bool×DS):=some (true,τ)
theorem W3:T K W8 A7:=by
 refine⟨fun τ d t7 e=>?_,?_⟩
 ·cases e;exact .refl
 intro S M τ σ H Q d t7 r e q
 cases e
 exact q H r .refl
def P7(N':List Str)(own:Nat)(fr:List Nat)(scope:Scope)(N:List Str)(sc:Scope):Bool :=
 (scope.kind==.function)&&decide (N'.length=own+fr.length)&&(scope.names.all fun y=>y.2 != .cell)&&(scope.names.all fun y=>y.2 != .local||scope.names.lookup y.1==some .local) &&
 (scope.names.all fun y=>y.2 != .free||sc.names.lookup y.1==some .cell||sc.names.lookup y.1==some .free) &&
 (fr.zipIdx.all fun p=>match N'[own+p.2]?,N[p.1]? with|some x,some y=>decide (x=y)&&scope.names.lookup x==some .free|_,_=>false)
theorem X3{X:Cx}{N':List Str}{own:Nat}{fr:List Nat}{scope:Scope}{N:List Str}{sc:Scope}(hN:X.N=N)(hs:X.env.scope=sc)(h:P7 N' own fr scope N sc=true):OY X N' own fr scope:=by
 unfold P7 at h
 simp only[Bool.and_eq_true]at h
 obtain⟨⟨⟨⟨⟨h1,h2⟩,h3⟩,h4⟩,h5⟩,h6⟩:=h
 subst hN hs
 refine⟨eq_of_beq h1,of_decide_eq_true h2,fun y hy=>?_,fun y hy e=>?_,fun x hx=>?_,fun k j e=>?_⟩
 ·have:=aZ.mp h3 y hy
  intro z
  rw[z]at this
  simp at this
 ·have:=aZ.mp h4 y hy
  rw[e]at this
  simpa using this
 ·have:=aZ.mp h5 _ hx
  simpa using this
 ·have hm:(j,k)∈fr.zipIdx:=by
   rw[List.mem_zipIdx_iff_getElem?]
   exact e
  have:=aZ.mp h6 _ hm
  dsimp only at this
  split at this
  ·rename_i x y hx hy
   rw[K']at this
   have e1:x=y:=of_decide_eq_true this.1
   subst e1
   exact⟨x,hx,hy,eq_of_beq this.2⟩
  ·cases this
theorem Ab{τ:DS}:fin [] τ=some []:=by cases τ<;>rfl
theorem A4{x:PyData}{ls:List L}{o:Option L}{τ:DS}:fin (.d x::ls) (o::τ)=(fin ls τ).map (.d x::·):=rfl
theorem A5{x:List PyData}{ls:List L}{o:Option L}{τ:DS}:fin (.c x::ls) (o::τ)=(fin ls τ).map (.c x::·):=rfl
theorem A3{x xs:List PyData}{ls:List L}{τ:DS}:fin (.m x::ls) (some (.m xs)::τ)=(fin ls τ).map (.m xs::·):=rfl
theorem AU{fr:Bool}{np nl:Nat}{b:DB}{ls ls':List L}{d:PyData}{τ:DS}(h:b (ls.map some++List.replicate nl none)=some (.rt d τ))(hl:ls.length=np)(hf:fin ls τ=some ls'):AX fr np nl b ls=some (d,ls'):=by
 unfold AX
 rw[if_pos hl,h]
 show(fin ls τ).map _=_
 rw[hf]
 rfl
theorem AF{a b:DB}{τ t5:DS}(h:a τ=some (.nx t5)):AI a b τ=b t5:=by
 unfold AI
 rw[h]
 rfl
theorem EL{a b:DB}{τ t5:DS}{d:PyData}(h:a τ=some (.rt d t5)):AI a b τ=some (.rt d t5):=by
 unfold AI
 rw[h]
 rfl
theorem AY{e:DX}{g:DG}{τ t5 t9:DS}{d:PyData}(h:e τ=some (d,t5))(k:g d t5=some t9):AJ e g τ=some (.nx t9):=by
 unfold AJ
 rw[h]
 show(g d t5).map _=_
 rw[k]
 rfl
theorem AZ{e:DX}{τ t5:DS}{d:PyData}(h:e τ=some (d,t5)):AL e τ=some (.rt d t5):=by
 unfold AL
 rw[h]
 rfl
theorem FV{c:DT}{a b:DB}{τ t5:DS}(h:c τ=some (true,t5)):AQ c a b τ=a t5:=by
 unfold AQ
 rw[h]
 rfl
theorem Bm{c:DT}{a b:DB}{τ t5:DS}(h:c τ=some (false,t5)):AQ c a b τ=b t5:=by
 unfold AQ
 rw[h]
 rfl
theorem BE{G:List L->Option (PyData×List L)}{a:DA}{τ t5:DS}{rs:List Ar}{ds:List PyData}{r:PyData}{ls:List L}(h:a τ=some (rs,t5))(k:Aq rs=some ds)(g:G (ds.map L.d)=some (r,ls)):AH G a τ=some (r,t5):=by
 unfold AH
 rw[h]
 show(Aq rs).bind _=_
 rw[k]
 show(G (ds.map L.d)).map _=_
 rw[g]
 rfl
theorem E3{i:Nat}{G:List L->Option (PyData×List L)}{a:DA}{τ t5:DS}{rs:List Ar}{ds:List PyData}{r:PyData}{ls:List L}{xs:List PyData}(h:a τ=some (rs,t5))(k:Aq rs=some ds)(m:t5[i]?=some (some (.c xs)))(g:G (.c xs::ds.map L.d)=some (r,ls)):AV i G a τ=some (r,t5):=by
 unfold AV
 rw[h]
 show(Aq rs).bind _=_
 rw[k]
 show(match t5[i]? with|some (some (.c xs))=>_|_=>_)=_
 rw[m]
 show(G (.c xs::ds.map L.d)).map _=_
 rw[g]
 rfl
theorem C2{it:DI}{g:DG}{b:DB}{τ t5:DS}{ds:List PyData}(h:it τ=some (ds,t5)):B0 it g b τ=Bn g b ds t5:=by
 unfold B0
 rw[h]
 rfl
theorem Jt{α:Type}{enc:α->PyData}{g:DG}{b:DB}(J:List α->DS->Prop):∀{xs pre:List α} {τ:DS},J pre τ->(∀x pre τ,x∈xs->J pre τ->∃t5 t9,g (enc x) τ=some t5/\b t5=some (.nx t9)/\J (pre++[x]) t9)->∃t7,Bn g b (xs.map enc) τ=some (.nx t7)/\J (pre++xs) t7
 |[],pre,τ,h0,_=>⟨τ,rfl,by rw[bD];exact h0⟩
 |x::xs,pre,τ,h0,h=>by
  obtain⟨t5,t9,e1,e2,h1⟩:=h x pre τ L' h0
  obtain⟨t7,e3,h3⟩:=Jt J (xs:=xs) (pre:=pre++[x]) (τ:=t9) h1 (fun y p t hy hj=>h y p t (O' _ hy) hj)
  refine⟨t7,?_,by rw[bN]at h3;exact h3⟩
  rw[X',Bn,e1]
  show(b t5).bind _=_
  rw[e2]
  exact e3
theorem Hu{α:Type}{enc:α->PyData}{g:DG}{c:DT}{e:DX}(J:DS->Prop)(p:α->Bool)(f:α->PyData):∀{xs:List α} {acc:List PyData} {τ:DS},J τ ->
  (∀x τ,x∈xs->J τ->∃t5 t9,g (enc x) τ=some t5/\c t5=some (p x,t9)/\(p x=false->J t9)/\(p x=true->∃l7,e t9=some (f x,l7)/\J l7))->∃t7,Bt g c e (xs.map enc) acc τ=some (acc++(xs.filter p).map f,t7)
 |[],acc,τ,h0,_=>⟨τ,by simp[Bt]⟩
 |x::xs,acc,τ,h0,h=>by
  obtain⟨t5,t9,e1,e2,hf,ht⟩:=h x τ L' h0
  have hr:∀y t,y∈xs->J t->_:=fun y t hy hj=>h y t (O' _ hy) hj
  cases hp:p x with
  |false =>
   obtain⟨t7,e3⟩:=Hu J p f (xs:=xs) (acc:=acc) (τ:=t9) (hf hp) hr
   refine⟨t7,?_⟩
   rw[X',Bt,e1]
   show(c t5).bind _=_
   rw[e2,hp]
   show Bt g c e (xs.map enc) acc t9=_
   rw[e3,bx,hp]
   rfl
  |true =>
   obtain⟨l7,e4,h4⟩:=ht hp
   obtain⟨t7,e3⟩:=Hu J p f (xs:=xs) (acc:=acc++[f x]) (τ:=l7) h4 hr
   refine⟨t7,?_⟩
   rw[X',Bt,e1]
   show(c t5).bind _=_
   rw[e2,hp]
   show(e t9).bind _=_
   rw[e4]
   show Bt g c e (xs.map enc) (acc++[f x]) l7=_
   rw[e3,bx,hp,bN]
   rfl
theorem QR{own:Nat}{fr:List Nat}{it:DI}{g:DG}{c:DT}{e:DX}{τ t5 l6:DS}{ds acc:List PyData}(h:it τ=some (ds,t5))(hz:ds.length<=sizeLine)(hm:(fr.all fun j=>!isM t5 j)=true)(hl:Bt g c e ds [] (Ho own fr t5)=some (acc,l6)):dLC own fr it g c e τ=some (.list acc,t5):=by
 unfold dLC
 rw[h]
 show(if ds.length<=sizeLine/\(fr.all fun j=>!isM t5 j)=true then _ else _)=_
 rw[if_pos ⟨hz,hm⟩,hl]
 rfl
theorem sz{n:Nat}(h:n<=1000):n<=sizeLine:=W' h (by decide)
theorem sz'{n:Nat}(h:n<=1000):(n<=sizeLine)=True:=eq_true (sz h)
theorem Qk{m:Int}(h0:0<m)(h1:m<10 ^ 70):Bd 8000 m:=by
 have:Bd 240 m:=Bd.of (m:=10 ^ 70) (by omega) (by omega) (by decide)
 exact this.mono (by decide)
theorem QY{K:KW}{H:Hp}{a:Addr}{xs:List V}(h:SqL K H a xs):SqL K (hid (fun _=>False) H) a xs:=Same.seq (fun b o e=>hid_iff.mpr ⟨fun z=>z,e⟩) h
theorem Li{K:KW}{H:Hp}:∀ns:List Int,IsL K H (ns.map PyData.int) (ns.map V.int)
 |[]=>rfl
 |_::ns=>⟨_,_,rfl,rfl,Li ns⟩
structure Enc{α:Type}[DecidableEq α](enc:α->PyData):Prop where
 eqv:∀a b,PyData.eqv (enc a) (enc b)=decide (a=b)
 can:∀a,(enc a).canLay0=true
 dep:∀a,(enc a).depth<=20
 fix:∀a,Cb (enc a)=true
section
variable {α:Type} [DecidableEq α] {enc:α->PyData}
theorem Enc.ok(h:Enc enc)(a:α):okD (enc a)=true:=by
 unfold okD SeqAt.shaped
 rw[K']
 exact⟨h.can a,decide_eq_true (W' (h.dep a) (by decide))⟩
theorem Enc.canL(h:Enc enc):∀xs:List α,PyData.canLayAll0 (xs.map enc)=true
 |[]=>rfl
 |x::xs=>by
  rw[X',PyData.canLayAll0,h.can,Enc.canL h xs];rfl
theorem Enc.depL(h:Enc enc):∀xs:List α,PyData.depthAll (xs.map enc)<=20
 |[]=>bH _
 |x::xs=>by
  rw[X',PyData.depthAll]
  have:=h.dep x
  have:=Enc.depL h xs
  omega
theorem Enc.okL(h:Enc enc)(xs:List α):okD (.list (xs.map enc))=true:=by
 unfold okD SeqAt.shaped
 rw[K',PyData.canLay0,PyData.depth]
 exact⟨h.canL xs,decide_eq_true (by have:=h.depL xs;omega)⟩
theorem Enc.eqvL(h:Enc enc):∀xs ys:List α,PyData.eqvAll (xs.map enc) (ys.map enc)=decide (xs=ys)
 |[],[]=>rfl
 |[],_::_=>rfl
 |_::_,[]=>rfl
 |x::xs,y::ys=>by
  rw[X',X',PyData.eqvAll,h.eqv,Enc.eqvL h xs ys]
  by_cases e:x=y
  ·subst e
   by_cases e':xs=ys
   ·subst e';simp
   ·simp[e']
  ·simp[e]
theorem Enc.eqL(h:Enc enc)(xs ys:List α):PyData.eqv (.list (xs.map enc)) (.list (ys.map enc))=decide (xs=ys):=by
 rw[PyData.eqv];exact h.eqvL xs ys
theorem Enc.any(h:Enc enc)(x:α):∀xs:List α,((xs.map enc).any fun y=>PyData.eqv y (enc x))=decide (x∈xs)
 |[]=>by simp
 |y::ys=>by
  rw[X',cM,h.eqv,Enc.any h x ys]
  by_cases e:y=x
  ·subst e;simp
  ·have:¬x=y:=fun z=>e z.symm
   simp[e,this]
theorem Enc.fixL(h:Enc enc):∀xs:List α,fixDs (xs.map enc)=true
 |[]=>rfl
 |x::xs=>by rw[X',fixDs,h.fix,Enc.fixL h xs];rfl
theorem Enc.fEq(h:Enc enc)(a b:α):DL.fEq (enc a) (enc b)=some (.bool (decide (a=b))):=by
 unfold DL.fEq;rw[h.ok,h.ok,h.eqv];rfl
theorem Enc.fNe(h:Enc enc)(a b:α):DL.fNe (enc a) (enc b)=some (.bool (!decide (a=b))):=by
 unfold DL.fNe;rw[h.ok,h.ok,h.eqv];rfl
theorem Enc.fNeL(h:Enc enc)(a b:List α):DL.fNe (.list (a.map enc)) (.list (b.map enc))=some (.bool (!decide (a=b))):=by
 unfold DL.fNe;rw[h.okL,h.okL,h.eqL];rfl
theorem Enc.fIn(h:Enc enc)(a:α)(xs:List α):DL.fIn false (enc a) (.list (xs.map enc))=some (.bool (decide (a∈xs))):=by
 simp only[DL.fIn,h.ok,h.okL,h.any,Bool.and_self,if_true,Bool.false_eq_true,if_false]
theorem Enc.fNotIn(h:Enc enc)(a:α)(xs:List α):DL.fIn true (enc a) (.list (xs.map enc))=some (.bool (!decide (a∈xs))):=by
 simp only[DL.fIn,h.ok,h.okL,h.any,Bool.and_self,if_true]
end
theorem encI:Enc (α:=Int) PyData.int:=⟨fun a b=>by rw[PyData.eqv];by_cases h:a=b<;>simp[h],fun _=>rfl,fun _=>by rw[PyData.depth];decide,fun _=>rfl⟩
def ec(p:Int×Int):PyData:=.tuple [.int p.1,.int p.2]
theorem encC:Enc ec:=by
 refine⟨fun a b=>?_,fun _=>rfl,fun a=>?_,fun _=>rfl⟩
 ·unfold ec
  simp only[PyData.eqv,PyData.eqvAll,Bool.and_true]
  obtain⟨a1,a2⟩:=a
  obtain⟨b1,b2⟩:=b
  by_cases h1:a1=b1
  ·by_cases h2:a2=b2<;>simp[h1,h2]
  ·simp[h1]
 ·unfold ec;simp[PyData.depth,PyData.depthAll]
structure Bx where
 x:Int
 y:Int
 w:Int
 h:Int
 deriving DecidableEq
def eb(b:Bx):PyData:=.tuple [.int b.x,.int b.y,.int b.w,.int b.h]
def rng(lo:Int)(n:Nat):List Int:=(List.range n).map fun(k:Nat)=>lo+(k:Int)
theorem Jq(lo:Int)(n:Nat):Eu lo n=(rng lo n).map PyData.int:=by
 unfold Eu rng
 rw[ay]
 rfl
theorem mem_rng{lo v n:Int}:v∈rng lo n.toNat↔lo<=v/\v<lo+n:=by
 unfold rng
 rw[av]
 constructor
 ·rintro⟨k,hk,rfl⟩
  rw[bh]at hk
  omega
 ·rintro⟨h1,h2⟩
  exact⟨(v-lo).toNat,by rw[bh];omega,by omega⟩
abbrev Cl:=Int×Int
def Zi(x v:Int)(w:Nat):List Cl:=(rng x w).map fun u=>(u,v)
def cells(b:Bx):List Cl:=(rng b.y b.h.toNat).flatMap fun v=>Zi b.x v b.w.toNat
def inB(b:Bx)(p:Cl):Prop:=b.x<=p.1/\p.1<b.x+b.w/\b.y<=p.2/\p.2<b.y+b.h
instance {b:Bx} {p:Cl}:Decidable (inB b p):=by unfold inB;infer_instance
def nM(o:Option L):Prop:=(∀xs,o≠some (.m xs))/\∀xs,o≠some (.k xs)
theorem Ao:nM none:=⟨fun xs z=>(nomatch z),fun xs z=>(nomatch z)⟩
theorem Bz{x:PyData}:nM (some (.d x)):=⟨fun xs z=>(nomatch z),fun xs z=>(nomatch z)⟩
theorem Bs{i:Nat}{d:PyData}{τ:DS}{o:Option L}(h:τ[i]?=some o)(hn:nM o):dN i d τ=some (τ.set i (some (.d d))):=by
 unfold dN
 rw[h]
 cases o with
 |none=>rfl
 |some l=>cases l with
  |m xs=>exact absurd rfl (hn.1 xs)
  |k xs=>exact absurd rfl (hn.2 xs)
  |d x=>rfl
  |c x=>rfl
  |g x=>rfl
variable {K:KW}
def isC(τ:DS)(j:Nat):Bool:=match τ[j]? with
 |some (some (.c _))=>true
 |_=>false
def dAS(i:Nat)(r:DA)(τ:DS):Option (List Ar×DS):=if (isM τ i||isC τ i)=true then (r τ).map fun q=>(.s i::q.1,q.2) else none
def mkL(τ:DS):List Ar->Option (List L)
 |[]=>some []
 |.d x::r=>(mkL τ r).map (.d x::·)
 |.s i::r=>match τ[i]? with
  |some (some (.m xs))=>(mkL τ r).map (.m xs::·)
  |some (some (.c xs))=>(mkL τ r).map (.c xs::·)
  |_=>none
def nMb:L->Bool
 |.m _=>false
 |.k _=>false
 |_=>true
def Fm(k i:Nat)(G:List L->Option (PyData×List L))(a:DA)(τ:DS):Option (PyData×DS):=(a τ).bind fun p=>(mkL p.2 p.1).bind fun ls=>match p.1[k]?,ls[k]? with
 |some (.s j),some (.m _)=>if j=i/\(ls.set k (.d .none)).all nMb=true then (G ls).bind fun q=>match q.2[k]? with
   |some (.m xs)=>some (q.1,p.2.set i (some (.m xs)))
   |_=>none
  else none
 |_,_=>none
theorem HW{α:Type}{enc:α->PyData}{g:DG}{b:DB}{all:List α}(J:List α->DS->Prop)(h:∀pre x post τ,all=pre++x::post->J pre τ->∃t5 t9,g (enc x) τ=some t5/\b t5=some (.nx t9)/\J (pre++[x]) t9) :
  ∀{xs pre:List α} {τ:DS},all=pre++xs->J pre τ->∃t7,Bn g b (xs.map enc) τ=some (.nx t7)/\J all t7
 |[],pre,τ,e,h0=>⟨τ,rfl,by rw[e,bD];exact h0⟩
 |x::xs,pre,τ,e,h0=>by
  obtain⟨t5,t9,e1,e2,h1⟩:=h pre x xs τ e h0
  obtain⟨t7,e3,h3⟩:=HW J h (xs:=xs) (pre:=pre++[x]) (τ:=t9) (by rw[e,bN];rfl) h1
  refine⟨t7,?_,h3⟩
  rw[X',Bn,e1]
  show(b t5).bind _=_
  rw[e2]
  exact e3
theorem Bv{α:Type}{enc:α->PyData}{g:DG}{b:DB}{xs:List α}{τ:DS}(J:List α->DS->Prop)(h0:J [] τ)(h:∀pre x post τ,xs=pre++x::post->J pre τ->∃t5 t9,g (enc x) τ=some t5/\b t5=some (.nx t9)/\J (pre++[x]) t9) :
  ∃t7,Bn g b (xs.map enc) τ=some (.nx t7)/\J xs t7:=HW J h (pre:=[]) rfl h0
theorem GP{n:Int}{τ t5:DS}{a:DA}(h:a τ=some ([.d (.int n)],t5))(h0:-100000<=n)(h1:n<=100000):dR1 a τ=some ((rng 0 n.toNat).map PyData.int,t5):=by
 unfold dR1
 rw[h]
 show(if -(2 ^ 62)<=n/\n<2 ^ 62 then some (Eu 0 n.toNat,t5) else none)=_
 rw[if_pos (by omega),Jq]
theorem DC{α:Type}{xs pre post:List α}{x:α}(e:xs=pre++x::post):pre.length<xs.length:=by rw[e,T',aR];omega
theorem FF{α:Type}{xs pre post:List α}{x:α}(e:xs=pre++x::post):x∈xs:=by rw[e];exact aQ _ L'
end DL
end
section
namespace DL
open PySem PySem.Spec L2 PyProof.Rows
section
variable {prog:Program} {w:World} {A:Around} {s:Shared} {R:Result->Shared->Prop}
variable {I:Addr} {fp wr:List Addr} {G:Array GenState->Array GenState->Prop} {n:Nat} {P:Nat->Value->Prop} {St:Nat->Shared->Prop}
end
section
variable {prog:Program} {w:World} {A:Around} {E:Value->Shared->Prop} {s:Shared}
variable {I:Addr} {fp wr:List Addr} {G:Array GenState->Array GenState->Prop} {n:Nat} {P:Nat->Value->Prop} {St:Nat->Shared->Prop}
end
variable {K:KW}
def Md(f:DX)(τ:DS):Option (PyData×DS):=(f τ).bind fun p=>match p.1 with
 |.list xs=>some (.list xs.reverse,p.2)
 |_=>none
theorem NQ{H:Hp}:∀{xs:List PyData} {vs:List V},IsL K H xs vs->IsL K H xs.reverse vs.reverse
 |[],_,h=>by rw[show _=[] from h];rfl
 |x::xs,_,⟨v,us,e,h,l⟩=>by subst e;rw[bj,bj];exact Ga (NQ l) h
theorem DN:okM none=true:=rfl
theorem Ih{x:PyData}:okM (some (.d x))=true:=rfl
theorem Ii{x:List PyData}:okM (some (.c x))=true:=rfl
theorem Ig{x:List PyData}:okM (some (.m x))=fixDs x:=rfl
theorem Cd{o:Option L}(h:nM o):okM o=true:=by
 cases o with
 |none=>rfl
 |some l=>cases l with
  |m xs=>exact absurd rfl (h.1 xs)
  |k xs=>exact absurd rfl (h.2 xs)
  |d x=>rfl
  |c x=>rfl
  |g x=>rfl
end DL
end
section
namespace Srt
open PySem PySem.W PyProof.Rows
variable {n:Nat} {r:Nat->Nat->Bool}
end Srt
end
section
namespace Srt
open PySem PySem.W PyProof.Rows HT
section
variable {prog:Program} {w:World} {A:Around} {E:Value->Shared->Prop} {s:Shared}
end
end Srt
end
section
namespace DL
open PySem L2 PyProof.Rows
variable {K:KW}
end DL
end
section
namespace DL
open PySem L2
variable {K:KW}
abbrev DO:=DS->Option (Option Int×DS)
structure OO(K:KW)(t:TO)(f:DO):Prop where
 like:∀τ b t7,f τ=some (b,t7)->Like τ t7
 run:∀S M τ σ H (Q:Option Int->Hp->Prop) b t7,R K S M τ σ H->f τ=some (b,t7)->(∀H',R K S M t7 σ H'->Chg M H H'->Q b H')->t σ H Q
def E1:DO:=fun τ=>some (none,τ)
def dPt(f:DX):DO:=fun τ=>(f τ).bind fun p=>match p.1 with
 |.int i=>some (some i,p.2)
 |_=>none
theorem Xk:OO K Mt E1:=⟨fun τ b t7 e=>by cases e;exact Like.refl,fun S M τ σ H Q b t7 r e q=>by cases e;exact q H r Chg.refl⟩
theorem Zk{fr:Bool}{t:TE}{f:DX}(h:E K t fr f):OO K (S7 t) (dPt f):=by
 refine⟨fun τ b t7 e=>?_,?_⟩
 ·unfold dPt at e
  obtain⟨⟨x,t5⟩,e1,e⟩:=oB e
  dsimp only at e
  split at e
  ·cases e;exact h.like _ _ _ e1
  ·cases e
 intro S M τ σ H Q b t7 r e q
 unfold dPt at e
 obtain⟨⟨x,t5⟩,e1,e⟩:=oB e
 dsimp only at e
 split at e
 ·rename_i i
  cases e
  refine h.run S M τ σ H _ _ _ r e1 fun v H' r' c iv=>?_
  exact⟨i,(show v = .int i from r.isr iv),q H' r' c⟩
 ·cases e
def Mj(xs:List PyData)(lo hi:Option Int):List PyData:=(xs.drop (HT.sIx xs.length 0 lo)).take (HT.sIx xs.length xs.length hi-HT.sIx xs.length 0 lo)
theorem Lj{H:Hp}:∀{xs:List PyData} {vs:List V} (n:Nat),IsL K H xs vs->IsL K H (xs.drop n) (vs.drop n)
 |_,_,0,h=>h
 |[],_,n+1,h=>by rw[show _=[] from h];rfl
 |x::xs,_,n+1,⟨v,us,e,_,l⟩=>by subst e;exact Lj n l
theorem Lh{H:Hp}:∀{xs:List PyData} {vs:List V} (n:Nat),IsL K H xs vs->IsL K H (xs.take n) (vs.take n)
 |_,_,0,h=>rfl
 |[],_,n+1,h=>by rw[show _=[] from h];rfl
 |x::xs,_,n+1,⟨v,us,e,i,l⟩=>by subst e;exact⟨v,_,rfl,i,Lh n l⟩
theorem NR{H:Hp}{xs:List PyData}{vs:List V}{lo hi:Option Int}(h:IsL K H xs vs):IsL K H (Mj xs lo hi) (Jb vs lo hi):=by
 unfold Mj Jb
 rw[h.length]
 exact Lh _ (Lj _ h)
def dSl(f:DX)(lo hi:DO)(τ:DS):Option (PyData×DS):=(f τ).bind fun p=>(lo p.2).bind fun l=>(hi l.2).bind fun u=>match p.1 with
 |.list xs=>some (.list (Mj xs l.1 u.1),u.2)
 |_=>none
theorem Z2{fr:Bool}{te:TE}{tl th:TO}{f:DX}{lo hi:DO}(h:E K te fr f)(hl:OO K tl lo)(hh:OO K th hi):E K (tSl (UE K) te tl th) true (dSl f lo hi):=by
 refine⟨fun τ d t7 e=>?_,?_⟩
 ·unfold dSl at e
  obtain⟨⟨x,t5⟩,e1,e⟩:=oB e
  obtain⟨⟨l,t9⟩,e2,e⟩:=oB e
  obtain⟨⟨u,l7⟩,e3,e⟩:=oB e
  dsimp only at e
  split at e
  ·cases e;exact((h.like _ _ _ e1).trans (hl.like _ _ _ e2)).trans (hh.like _ _ _ e3)
  ·cases e
 intro S M τ σ H Q d t7 r e q
 unfold dSl at e
 obtain⟨⟨x,t5⟩,e1,e⟩:=oB e
 obtain⟨⟨l,t9⟩,e2,e⟩:=oB e
 obtain⟨⟨u,l7⟩,e3,e⟩:=oB e
 dsimp only at e e2 e3
 cases x with
 |list xs =>
  cases e
  refine h.run S M τ σ H _ _ _ r e1 fun v1 H1 r1 c1 i1=>?_
  refine hl.run S M t5 σ H1 _ _ _ r1 e2 fun H2 r2 c2=>?_
  refine hh.run S M t9 σ H2 _ _ _ r2 e3 fun H3 r3 c3=>?_
  have i1':Is K (hid S H3) (.list xs) v1:=((r.isr i1).mono (c2.keep r1.sub).same).mono (c3.keep r2.sub).same
  obtain⟨a,vs,rfl,ha,la⟩:=i1'
  refine⟨a,vs,rfl,SqL.of (hid_iff.mp ha).2,fun p hp=>?_⟩
  have s:=Ay hp (HO.lst (Jb vs l u))
  exact q _ _ (r3.same s) (((c1.trans c2).trans c3).trans (.of s)) ((FG hp (NR la)).back r3 ((c1.trans c2).trans c3))
 |_=>cases e
end DL
end
section
namespace L2
open PySem PySem.Spec PyProof.Rows
section
variable {X:Cx} {pins:List (Addr×Obj)} {σ:L2.St} {H:Hp} {s:Shared}
end
section
variable {X:Cx} {elts:List Expr} {tp:Pos}
end
end L2
end
section
namespace DL
open PySem L2
variable {K:KW}
def ZP(K:KW)(S:Addr->Prop)(J:It)(H:Hp)(ds:List PyData):Prop:=∀(S2:Addr->Prop) (H2:Hp),Keep S H S2 H2->(∀a,H2 a=none->¬S2 a)->(∀(i:Nat) (d:PyData),ds[i]?=some d->J.go i H2/\∀x H3,J.yld i H2 x H3->Same H2 H3/\Is K (hid S2 H3) d x)/\∀i,ds.length<=i->J.stop i H2
structure IT2(K:KW)(wi:TI)(f:DI):Prop where
 like:∀τ ds t7,f τ=some (ds,t7)->Like τ t7
 run:∀S M τ σ H (Q:It->Hp->Prop) ds t7,R K S M τ σ H->f τ=some (ds,t7)->(∀J H',R K S M t7 σ H'->Chg M H H'->ZP K S J H' ds->Q J H')->wi σ H Q
end DL
end
section
namespace DL
open PySem L2 PyProof.Rows
variable {K:KW}
end DL
end
section
namespace DL
open PySem L2
variable {K:KW}
def Dc:List PyData->List PyData->Option (PyData×List PyData)
 |xs,[]=>some (.none,xs.reverse)
 |_,_=>none
theorem N8:MR K K9 Dc:=by
 intro S H a vs us xs ds d xs' Q Sa hl ll l e q
 unfold Dc at e
 split at e
 ·cases e
  exact⟨a,vs,rfl,l,hl,q _ _ rfl (NQ ll)⟩
 ·cases e
end DL
end
section
namespace Stb
open PySem
end Stb
end
section
namespace Stb
open PySem SetTable
end Stb
end
section
namespace Stb
open PySem PyProof.Rows SetTable
section
variable {prog:Program} {w:World} {A:Around} {E:Value->Shared->Prop} {s:Shared}
end
section
variable {prog:Program} {w:World} {A:Around} {E:Value->Shared->Prop} {s:Shared}
end
section
variable {prog:Program} {w:World} {A:Around} {E:Value->Shared->Prop} {s:Shared}
end
section
variable {prog:Program} {w:World} {A:Around} {R:Result->Shared->Prop} {I:Addr} {fp wr:List Addr} {G:Array GenState->Array GenState->Prop} {n:Nat} {P:Nat->Value->Prop} {St:Nat->Shared->Prop}
end
section
variable {prog:Program} {w:World} {A:Around} {E:Value->Shared->Prop} {s:Shared}
end
section
variable {prog:Program} {w:World} {A:Around} {E:Value->Shared->Prop} {s:Shared}
end
section
variable {prog:Program} {w:World} {A:Around} {E:Value->Shared->Prop} {s:Shared}
end
section
variable {prog:Program} {w:World} {A:Around} {E:Value->Shared->Prop} {s:Shared}
end
section
variable {prog:Program} {w:World} {A:Around} {E:Value->Shared->Prop} {s:Shared}
end
end Stb
end
section
namespace DL
open PySem L2 PyProof.Rows
variable {K:PySem.W.Frag}
variable {K:KW}
end DL
end
section
namespace DL
open PySem L2
def Tc(i:Nat)(τ:DS):Nat:=match τ[i]? with
 |some (some (.d (.int s)))=>s.toNat+1
 |_=>0
end DL
end
section
namespace Dwk
open PySem
variable {prog:Program} {w:World} {A:Around} {E:Value->Shared->Prop} {s:Shared}
end Dwk
end
section
namespace DL
open PySem L2 PyProof.Rows
variable {K:PySem.W.Frag}
section
variable {X:Cx} {pins:List (Addr×Obj)} {σ:L2.St} {H:Hp} {s:Shared}
end
variable {K:KW}
def HZ:PyData->PyData->Option PyData
 |.tuple (x::xs),.tuple (y::ys)=>if xs.length+ys.length+2<=sizeLine then some (.tuple (x::xs++y::ys)) else none
 |_,_=>none
theorem Ut:OR K false (M7 K) HZ:=by
 intro S H x y dx dy d Q hS ix iy e q
 unfold HZ at e
 split at e
 ·rename_i x1 xs y1 ys
  split at e
  ·rename_i hz
   cases e
   obtain⟨a,vs,rfl,ha,la⟩:=ix
   obtain⟨b,us,rfl,hb,lb⟩:=iy
   have l1:=la.length
   have l2:=lb.length
   rw[aR]at l1 l2
   refine⟨a,b,vs,us,rfl,rfl,Same.tup same_hid ha,Same.tup same_hid hb,fun z=>(by subst z;cases l1),by omega,fun z=>(by subst z;cases l2),fun _ p hp=>?_⟩
   have s:=Ay hp (HO.tup (vs++us))
   refine q _ _ s ⟨p,vs++us,rfl,.inl (.inl (hid_iff.mpr ⟨hS p hp,Ac⟩)),?_⟩
   exact(DZ la lb).mono (Same.keep s).same
  ·cases e
 ·cases e
end DL
end
section
namespace DL
open PySem L2
variable {K:KW}
end DL
end
section
namespace L2
open PySem
end L2
namespace DL
open PySem L2
variable {K:KW}
end DL
end
section
namespace EnG
open PySem PyProof.Rows
section
variable {prog:Program} {w:World} {A:Around} {E:Value->Shared->Prop} {s:Shared}
theorem Hi{it t:Addr}{i:Nat}{items:Array Value}{x:Value}{Q:Value->Shared->Prop}(hit:IsTupIter s.heap it t i)(ht:IsTup s.heap t items)(hx:items[i]?=some x)
  (hQ:∀h',IsTupIter h' it t (i+1)->Heap.SameBut it s.heap h'->Q x { s with heap:=h' }):wpAny (model prog w) A (Builtin.SmallTypes.nextOf (.ref it)) Q E s:=by
 obtain⟨o,ho,hc,hd⟩:=id hit
 obtain⟨ol,hol,_,nl,hdl⟩:=ht
 unfold Builtin.SmallTypes.nextOf
 refine wpAny_bind (wpAny_callSpecial?_slot (name := Str.ofString "__next__") hit.typeIs slot_tupleiter_next
  (wpAny_call_entry slot_tupleiter_next hit.typeIs entry_tupleiter_next ?_ (args_tupleiter_next _)))
 show wpAny _ _ (field (.ref it) 0 >>= _) _ _ s
 refine wpAny_bind (wpAny_field ho hd (x:=.ref t) rfl ?_)
 show wpAny _ _ (if (Value.ref t==Value.none)=true then _ else _) _ _ s
 rw[if_neg (show ¬((Value.ref t==Value.none)=true) from aP)]
 show wpAny _ _ (field (.ref it) 1 >>= _) _ _ s
 refine wpAny_bind (wpAny_field ho hd (x:=.int i 0) rfl ?_)
 show wpAny _ _ (seqItems? (.ref t) >>= _) _ _ s
 refine wpAny_bind (wpAny_seqItems hol hdl ?_)
 simp only[Int.toNat_natCast,hx]
 refine wpAny_bind (wpAny_setField ho hd (by simp) (wpAny_pure ⟨x,rfl,wpAny_pure (hQ _ ?_ (Heap.SameBut.update ..))⟩))
 exact ⟨_, bX _ ho (bY (bJ hd _)), (Obj.cls_mapFields ..).trans hc, by
  rw[bJ hd];simp[rawInt]⟩
theorem Ew{it t:Addr}{i:Nat}{items:Array Value}{Q:Value->Shared->Prop}(hh:A.handled=none)(hit:IsTupIter s.heap it t i)(ht:IsTup s.heap t items)(hx:items[i]?=none)
  (hE:∀h' e,Heap.ExtBut it s.heap h'->(∃o,h'.get? e=some o/\o.cls = .type "StopIteration")->E (.ref e) { s with heap:=h' }):wpAny (model prog w) A (Builtin.SmallTypes.nextOf (.ref it)) Q E s:=by
 obtain⟨o,ho,hc,hd⟩:=id hit
 obtain⟨ol,hol,_,nl,hdl⟩:=ht
 unfold Builtin.SmallTypes.nextOf
 refine wpAny_bind (wpAny_callSpecial?_slot (name := Str.ofString "__next__") hit.typeIs slot_tupleiter_next
  (wpAny_call_entry slot_tupleiter_next hit.typeIs entry_tupleiter_next ?_ (args_tupleiter_next _)))
 show wpAny _ _ (field (.ref it) 0 >>= _) _ _ s
 refine wpAny_bind (wpAny_field ho hd (x:=.ref t) rfl ?_)
 show wpAny _ _ (if (Value.ref t==Value.none)=true then _ else _) _ _ s
 rw[if_neg (show ¬((Value.ref t==Value.none)=true) from aP)]
 show wpAny _ _ (field (.ref it) 1 >>= _) _ _ s
 refine wpAny_bind (wpAny_field ho hd (x:=.int i 0) rfl ?_)
 show wpAny _ _ (seqItems? (.ref t) >>= _) _ _ s
 refine wpAny_bind (wpAny_seqItems hol hdl ?_)
 simp only[Int.toNat_natCast,hx]
 refine wpAny_bind (wpAny_rule (wpAny_bind (wpAny_setField ho hd (by simp) ?_)))
 show wpAny _ _ (newExc (.type "StopIteration") [] >>= _) _ _ _
 refine wpAny_bind ?_
 simp only[newExc,newTuple]
 refine wpAny_bind (wpAny_newObj_type ?_ (by size_fits))
 refine wpAny_bind (m:=firstArgMember _ _) (wpAny_of_eq (a:=Value.none) (by first|rfl|(simp only[firstArgMember];rfl)) ?_)
 refine wpAny_newObj_type ?_ (by size_fits)
 simp only[raiseNew]
 refine wpAny_bind (wpAny_handled ?_)
 first|rw[show A.in1.handled=none from hh]|rw[hh]
 refine wpAny_bind (wpAny_pure (wpAny_throw ?_))
 exact hE _ _ (((Heap.SameBut.update ..).extBut.push _).push _) ⟨_,R' _ rfl,rfl⟩
end
theorem VZ{prog:Program}{w:World}{A:Around}(hh:A.handled=none)(it l:Addr)(hne:l≠it)(items:Array Value) :
  Draws prog w A it [it,l] items.size (fun i v=>items[i]?=some v) (fun i h=>IsTupIter h it l i/\IsTup h l items) where
 live:=fun _ _ st=>let ⟨o,ho,_⟩:=st.1;⟨o,ho⟩
 frame:=fun _ _ _ st hk=>⟨let ⟨o,ho,r⟩:=st.1;⟨o,hk it (by simp) o ho,r⟩,let ⟨o,ho,r⟩:=st.2;⟨o,hk l (by simp) o ho,r⟩⟩
 item:=fun i s Q E hi st hQ=>by
  refine Hi st.1 st.2 (x:=items[i]) (by simp[hi]) fun h' hit' hs'=>?_
  exact hQ _ h' s.toks (by simp[hi]) ⟨hit',st.2.extBut hs'.extBut hne⟩ hs'
 done:=fun s Q E st hE=>Ew hh st.1 st.2 (by simp) hE
end EnG
namespace EnG
open PySem PyProof.Rows
open Sem (wp)
open AutoSeq1 (wpAny_loadPart')
section
variable {prog:Program} {w:World} {A:Around} {E:Value->Shared->Prop} {s:Shared}
end
end EnG
namespace L2
open PySem PySem.Spec PyProof.Rows EnG
section
variable {X:Cx} {elts:List Expr} {tp:Pos}
end
end L2
end
section
namespace DL
open PySem L2 PyProof.Rows
variable {K:KW}
def Cz:PyData->PyData->Option PyData
 |.str x,.str y=>if x.length+y.length<=sizeLine then some (.str (x++y)) else none
 |_,_=>none
theorem Uu:OR K false (fun x y H Q=>∃i j,x = .str i/\y = .str j/\i.length+j.length<=sizeLine/\Q (.str (i++j)) H) Cz:=by
 intro S H x y dx dy d Q _ ix iy e q
 unfold Cz at e
 split at e
 ·split at e
  ·rename_i hz
   cases e
   cases (show x = .str _ from ix)
   cases (show y = .str _ from iy)
   exact⟨_,_,rfl,rfl,hz,q _ H (fun _ _ e=>e) rfl⟩
  ·cases e
 ·cases e
def Hl:PyData->PyData->Option PyData
 |.str z,.int i=>if z.length<=sizeLine then (atI z.cps.toList i).map fun c=>.str ⟨#[c]⟩ else none
 |_,_=>none
theorem Xp:OR K false XQ Hl:=by
 intro S H x y dx dy d Q _ ix iy e q
 unfold Hl at e
 split at e
 ·split at e
  ·rename_i hz
   obtain⟨c,e1,rfl⟩:=oM e
   cases (show x = .str _ from ix)
   cases (show y = .int _ from iy)
   exact⟨_,_,c,rfl,rfl,hz,e1,q _ H (fun _ _ e=>e) rfl⟩
  ·cases e
 ·cases e
def Fg:List PyData->Option PyData
 |[.list xs]=>some (.tuple xs)
 |[.tuple xs]=>some (.tuple xs)
 |_=>none
theorem Sm:BR K false (fun xs H Q=>∃p ys,xs=[.ref p]/\((SqL K H p ys/\∀l,H l=none->Q (.ref l) (upd H l (.tup ys)))\/(SqT K H p ys/\Q (.ref p) H))) Fg:=by
 intro S H vs ds d Q hS l e q
 unfold Fg at e
 split at e
 ·cases e
  obtain⟨v,us,rfl,⟨a,ws,rfl,h,lw⟩,iu⟩:=l
  cases (show us=[] from iu)
  refine⟨a,ws,rfl,.inl ⟨SqL.of (hid_iff.mp h).2,fun p hp=>?_⟩⟩
  have s:=Ay hp (HO.tup ws)
  exact q _ _ s ⟨p,ws,rfl,.inl (.inl (hid_iff.mpr ⟨hS p hp,Ac⟩)),lw.mono (Same.keep s).same⟩
 ·cases e
  obtain⟨v,us,rfl,⟨a,ws,rfl,h,lw⟩,iu⟩:=l
  cases (show us=[] from iu)
  exact⟨a,ws,rfl,.inr ⟨Same.tup same_hid h,q _ H (fun _ _ e=>e) ⟨a,ws,rfl,h,lw⟩⟩⟩
 ·cases e
theorem YW{own:Nat}{fr:List Nat}{wi:TI}{it:DI}{tg:TG}{g:DG}{tc:TT}{c:DT}{te:TE}{e:DX}{fe:Bool}(hi:IT2 K wi it)(hg:TG1 K tg g)(hc:T K tc c)(he:E K te fe e):E K (tLC own fr wi tg tc te) true (dLC own fr it g c e):=by
 refine⟨fun τ d t7 e=>?_,?_⟩
 ·unfold dLC at e
  obtain⟨⟨x,t5⟩,e1,e⟩:=oB e
  split at e
  ·obtain⟨z,e3,e⟩:=oM e
   cases e;exact hi.like _ _ _ e1
  ·cases e
 intro S M τ σ H Q d t7 r ee q
 unfold dLC at ee
 obtain⟨⟨ds,t5⟩,e1,ee⟩:=oB ee
 split at ee
 ·rename_i hz
  obtain⟨hz,hnm⟩:=hz
  have hz:ds.length<=sizeLine:=hz
  obtain⟨⟨acc,l6⟩,e3,ee⟩:=oM ee
  obtain⟨rfl,rfl⟩:d = .list acc/\t7=t5:=by cases ee;exact⟨rfl,rfl⟩
  refine hi.run S M τ σ H _ ds _ r e1 fun J H1 r1 c1 iJ=>?_
  intro D hD
  -- nothing of the def may be changed in the block
  refine⟨fun i m ys σ' H'=>∃n9 acc',R K (fun b=>S b\/b=D) (fun _=>False) n9 σ' H'/\Keep S H1 (fun b=>S b\/b=D) H'/\Chg (fun b=>b=D) H1 H'/\IsL K (hid (fun b=>S b\/b=D) H') acc' ys/\H' D=some (.lst ys)/\ys.length<=i/\i<=ds.length/\m=ds.length-i/\Bt g c e (ds.drop i) acc' n9=some (acc,l6),?_,?_⟩
  ·have s:=Ay hD (HO.lst [])
   have k:Keep S H1 (fun b=>S b\/b=D) (upd H1 D (.lst [])):=fun b o hn e=>by
    have:=Ai e hD
    exact⟨fun z=>z.elim hn this,s b o e⟩
   refine⟨ds.length,Ho own fr t7,[],⟨?_,?_,?_,?_,?_,fun a h=>h.elim,?_,GR.nil Qj⟩,k,.of s,rfl,Ac,J' _,bH _,by simp,by simpa using e3⟩
   ·unfold blk Ho;simp
   ·intro i x e
    obtain⟨kk,j,rfl,ej,et⟩:=C1 e
    obtain⟨v,h1,h2⟩:=r1.dat j x et
    exact⟨v,Kv ej h1,h2.mono k.same⟩
   ·intro i xs e
    obtain⟨kk,j,rfl,ej,et⟩:=C1 e
    have:=aZ.mp hnm j (aO ej)
    rw[isM_iff.mpr ⟨xs,et⟩]at this
    cases this
   ·intro i x e
    obtain⟨kk,j,rfl,ej,et⟩:=C1 e
    obtain⟨a,vs,h1,h2,h3⟩:=r1.cst j x et
    exact⟨a,vs,Kv ej h1,k.same.seq h2,h3.mono k.same⟩
   ·intro i j xs ys a e
    obtain⟨kk,j',rfl,ej,et⟩:=C1 e
    have:=aZ.mp hnm j' (aO ej)
    rw[isM_iff.mpr ⟨xs,et⟩]at this
    cases this
   ·rintro a (h|rfl)
    ·obtain⟨o,e⟩:=r1.ex a h
     exact⟨o,s _ _ e⟩
    ·exact⟨_,Ac⟩
  ·rintro i m ys σ' H' ⟨n9,acc',rb,k,ch,la,hHD,hyl,hil,rfl,hl⟩
   obtain⟨I1,I2⟩:=iJ _ _ k (fun _=>rb.fresh)
   by_cases hlt:i<ds.length
   ·right
    have ed:ds[i]?=some ds[i]:=aX hlt
    obtain⟨go,yl⟩:=I1 i _ ed
    refine⟨go,fun x H2 y=>?_⟩
    obtain⟨sm,ix⟩:=yl x H2 y
    have rb:=rb.same sm
    have k:=k.trans (Same.keep sm)
    have ch:=ch.trans (.of sm)
    have la:=la.mono (Same.keep sm).same
    have hHD:=sm _ _ hHD
    rw[bL hlt,Bt]at hl
    obtain⟨t9,e2,hl⟩:=oB hl
    obtain⟨⟨b,l7⟩,e4,hl⟩:=oB hl
    refine hg.run _ _ n9 σ' H2 x _ t9 _ rb ix e2 fun σ3 r3 k3=>?_
    refine hc.run _ _ t9 σ3 H2 _ b l7 r3 e4 fun H4 r4 c4=>?_
    have s4:Same H2 H4:=fun b o e=>c4 b o (fun z=>z) e
    cases b with
    |false =>
     rw[if_neg aP]
     exact⟨ds.length-(i+1),by omega,l7,acc',r4,k.trans (Same.keep s4),ch.trans (.of s4),la.mono (Same.keep s4).same,s4 _ _ hHD,by omega,hlt,rfl,hl⟩
    |true =>
     rw[if_pos rfl]
     rw[if_pos rfl]at hl
     obtain⟨⟨z,p6⟩,e5,hl⟩:=oB hl
     refine he.weak.run _ _ l7 σ3 H4 _ z p6 r4 e5 fun v H5 r5 c5 i5=>?_
     have s5:Same H2 H5:=s4.trans fun b o e=>c5 b o (fun z=>z) e
     have hD5:=s5 _ _ hHD
     refine⟨hD5,by omega,ds.length-(i+1),by omega,p6,acc'++[z],?_,?_,?_,?_,Ac,by rw[T',bu];omega,hlt,rfl,hl⟩
     ·have kk:Keep (fun b=>S b\/b=D) H5 (fun b=>S b\/b=D) (upd H5 D (.lst (ys++[v]))):=fun b o hn e=>⟨hn,by rw[An (fun z=>hn (.inr z))];exact e⟩
      refine⟨r5.len,fun j x e=>let ⟨u,a,b⟩:=r5.dat j x e;⟨u,a,b.mono kk.same⟩,fun j xs e=>let ⟨_,_,_,h,_⟩:=r5.mt j xs e;h.elim,fun j xs e=>let ⟨a,vs,h1,h2,h3⟩:=r5.cst j xs e;⟨a,vs,h1,kk.same.seq h2,h3.mono kk.same⟩,r5.inj,fun _ h=>h.elim,fun a h=>?_,r5.gr.to (fun i d e=>⟨e,rfl⟩) (fun j o a e q=>.inl ⟨o,e,q⟩) (fun a h _=>h.elim) (tsS kk.same)⟩
      by_cases e:a=D
      ·subst e;exact⟨_,Ac⟩
      ·obtain⟨o,q⟩:=r5.ex a h
       exact⟨o,by rw[An e];exact q⟩
     ·refine k.trans fun b o hn e=>⟨hn,?_⟩
      rw[An (fun z=>hn (.inr z))]
      exact s5 _ _ e
     ·refine ch.trans fun b o hn e=>?_
      rw[An hn]
      exact s5 _ _ e
     ·refine(Ga (la.mono (Same.keep s5).same) i5).mono (Keep.same fun b o hn e=>⟨hn,?_⟩)
      rw[An (fun z=>hn (.inr z))]
      exact e
   ·left
    have e:i=ds.length:=by omega
    subst e
    rw[cO,Bt]at hl
    cases hl
    refine⟨I2 _ (J' _),?_⟩
    have s:Same H1 H':=fun b o e=>ch b o (Ai e hD) e
    refine q _ H' (r1.same s) (c1.trans (.of s)) ⟨.l acc,D,_,rfl,rfl,r1.none c1 hD,hHD,ys,rfl,la⟩
 ·cases ee
end DL
end
section
namespace L2
open PySem PySem.Spec PyProof.Rows
section
variable {X:Cx} {pos:Pos}
end
end L2
namespace DL
open PySem L2
variable {K:KW}
variable {K:KW}
end DL
end
section
namespace L2
open PySem PySem.Spec PyProof.Rows
section
variable {X:Cx}
def tS(i:Int):Str:=toString i
def PH(K:PySem.W.Frag):V->List V->Hp->VK->Prop:=fun x xs H Q=>∃sep p ys,x = .str sep/\xs=[.ref p]/\SqL K H p (ys.map V.str)/\JoinOk sep ys=true/\Q (.str (Txt.join sep ys)) H
theorem Jd:∀{ys:List Str} {us:List Value},Vals (ys.map V.str) us->∃l:List (Str×Tok),us=strValues l/\l.map (·.1)=ys
 |[],_,h=>by cases h;exact⟨[],rfl,rfl⟩
 |y::ys,_,h=>by
  cases h with
  |cons r t =>
   obtain⟨l,rfl,hl⟩:=Jd t
   obtain⟨k,rfl⟩:=r
   exact⟨(y,k)::l,rfl,by rw[X',hl]⟩
theorem Rg:MtR X "str.join" (PH X.K):=by
 intro pins s σ H x xs v us Q I rx rs h
 obtain⟨sep,p,ys,rfl,rfl,hq,hok,q⟩:=h
 obtain⟨t,rfl⟩:=rx
 obtain⟨u,rfl,ru⟩:=DH rs
 cases ru
 obtain⟨its,rv,pl,_⟩:=I.list hq
 obtain⟨l,rfl,hl⟩:=Jd rv
 exact SC.join pl.isList hl hok fun t' k=>⟨.str _,H,I.tok _,⟨t',rfl⟩,q⟩
def XN:V->Option Int->Option Int->Hp->VK->Prop:=fun x lo hi H Q=>∃z,x = .str z/\z.length<=sizeLine/\Q (.str (Txt.slice z lo hi)) H
theorem ND{v:Value}{o:Option Int}(h:IsPart v o):∃l:Option (Int×Tok),v=partValue l/\l.map (·.1)=o:=by
 cases h with
 |none=>exact⟨none,rfl,rfl⟩
 |int i t=>exact⟨some (i,t),rfl,rfl⟩
theorem T6:SlR X XN:=by
 intro pins s σ H x v vl vu lo hi sl Q I rx hs pl pu h
 obtain⟨z,rfl,hz,q⟩:=h
 obtain⟨t,rfl⟩:=rx
 obtain⟨l,rfl,rfl⟩:=ND pl
 obtain⟨u,rfl,rfl⟩:=ND pu
 refine⟨"str",_,F.slot_str_getitem.lookup,typeIs_str _ _ _,wpAny_getItem_str_slice (l:=l) (u:=u) (st:=none) hs rfl ?_⟩
 exact post_val_or_str ⟨W' (Txt.slice_le z _ _) hz,fun t' k=>⟨.str _,H,I.tok _,⟨t',rfl⟩,q⟩⟩
def tF3(x:Str)(ta tb:TE):TE:=fun σ H Q=>ta σ H fun u H1=>∃i,u = .int i/\i.natAbs.log2<1920/\(Str.empty++tS i).length<=sizeLine/\(Str.empty++tS i++x).length<=sizeLine /\
 tb σ H1 fun v H2=>∃j,v = .int j/\j.natAbs.log2<1920/\(Str.empty++tS i++x++tS j).length<=sizeLine/\Q (.str (Str.empty++tS i++x++tS j)) H2
theorem Xb{a b:Expr}{ta tb:TE}{x:Str}{j}{p1 p2 p3 pos:Pos}(ha:PE X a ta)(hb:PE X b tb) :
  PE X (.JoinedStr [.FormattedValue a (-1) none p1,.Constant (.str x) j p2,.FormattedValue b (-1) none p3] pos) (tF3 x ta tb):=by
 intro pins s σ H Q I h
 refine JoinedStr_many (joinParts_cons (FormattedValue_plain (thn (ha pins s σ H _ I h) fun v s1 ⟨u,H1,I1,r1,q1⟩=>?_)))
 obtain⟨i,rfl,hi,l1,l2,q1⟩:=q1
 obtain⟨t,rfl⟩:=r1
 refine formatField_int_small hi ⟨l1,joinParts_cons (Calls.Constant_str ⟨l2,?_⟩)⟩
 refine joinParts_cons (FormattedValue_plain (thn (hb pins _ σ H1 _ ((I1.tok _).tok _) q1) fun v s2 ⟨u,H2,I2,r2,q2⟩=>?_))
 obtain⟨k,rfl,hk,l3,q2⟩:=q2
 obtain⟨t',rfl⟩:=r2
 exact formatField_int_small hk ⟨l3,joinParts_nil ⟨.str _,H2,(I2.tok _).tok _,⟨_,rfl⟩,q2⟩ l3⟩
end
end L2
namespace DL
open PySem L2 PyProof.Rows
variable {K:KW}
def Ei:List PyData->Option (List Str)
 |[]=>some []
 |.str x::r=>(Ei r).map (x::·)
 |_::_=>none
theorem J7{H:Hp}:∀{ds:List PyData} {vs:List V} {ys:List Str},IsL K H ds vs->Ei ds=some ys->vs=ys.map V.str
 |[],_,_,h,e=>by cases e;exact h
 |.str x::r,_,_,⟨v,us,e1,hv,l⟩,e=>by
  obtain⟨ms,em,e⟩:=oM e
  subst e e1
  rw[J7 l em,show v = .str x from hv];rfl
 |.none::_,_,_,_,e=>by cases e
 |.bool _::_,_,_,_,e=>by cases e
 |.int _::_,_,_,_,e=>by cases e
 |.tuple _::_,_,_,_,e=>by cases e
 |.list _::_,_,_,_,e=>by cases e
 |.dict _::_,_,_,_,e=>by cases e
def Em(sep:Str)(f:DX)(τ:DS):Option (PyData×DS):=(f τ).bind fun p=>match p.1 with
 |.list ds=>(Ei ds).bind fun ys=>if JoinOk sep ys=true then some (.str (Txt.join sep ys),p.2) else none
 |_=>none
theorem JD{sep:Str}{f:DX}{τ t7:DS}{d:PyData}(e:Em sep f τ=some (d,t7)):∃ds ys,f τ=some (.list ds,t7)/\Ei ds=some ys/\JoinOk sep ys=true/\d = .str (Txt.join sep ys):=by
 unfold Em at e
 obtain⟨⟨x,t5⟩,e1,e⟩:=oB e
 dsimp only at e
 split at e
 ·rename_i ds
  obtain⟨ys,e2,e⟩:=oB e
  split at e
  ·rename_i h
   cases e
   exact⟨ds,ys,e1,e2,h,rfl⟩
  ·cases e
 ·cases e
theorem VW{fr:Bool}{sep:Str}{te:TE}{f:DX}(h:E K te fr f):E K (tBM K "str" (PH K) (tC (.str sep)) (Cs te Eo)) false (Em sep f):=by
 refine⟨fun τ d t7 e=>?_,?_⟩
 ·obtain⟨ds,ys,e1,_⟩:=JD e
  exact h.like _ _ _ e1
 intro S M τ σ H Q d t7 r e q
 obtain⟨ds,ys,e1,e2,e3,rfl⟩:=JD e
 refine⟨rfl,h.weak.run S M τ σ H _ _ _ r e1 fun v H1 r1 c1 i1=>?_⟩
 have i1':Is K (hid S H1) (.list ds) v:=i1
 obtain⟨a,vs,rfl,hl,ll⟩:=i1'
 have:=J7 ll e2
 subst this
 exact⟨sep,a,ys,rfl,rfl,SqL.of (hid_iff.mp hl).2,e3,q _ H1 r1 c1 rfl⟩
def dF3(x:Str)(f g:DX)(τ:DS):Option (PyData×DS):=(f τ).bind fun p=>match p.1 with
 |.int i=>if i.natAbs.log2<1920/\(Str.empty++tS i).length<=sizeLine/\(Str.empty++tS i++x).length<=sizeLine then (g p.2).bind fun q=>match q.1 with
  |.int j=>if j.natAbs.log2<1920/\(Str.empty++tS i++x++tS j).length<=sizeLine then some (.str (Str.empty++tS i++x++tS j),q.2) else none
  |_=>none
  else none
 |_=>none
theorem Ls{x:Str}{f g:DX}{τ t7:DS}{d:PyData}(e:dF3 x f g τ=some (d,t7)):∃i t5 j,f τ=some (.int i,t5)/\(i.natAbs.log2<1920/\(Str.empty++tS i).length<=sizeLine/\(Str.empty++tS i++x).length<=sizeLine)/\g t5=some (.int j,t7)/\(j.natAbs.log2<1920/\(Str.empty++tS i++x++tS j).length<=sizeLine)/\d = .str (Str.empty++tS i++x++tS j):=by
 unfold dF3 at e
 obtain⟨⟨y,t5⟩,e1,e⟩:=oB e
 dsimp only at e
 split at e
 ·rename_i i
  split at e
  ·rename_i hi
   obtain⟨⟨z,t9⟩,e2,e⟩:=oB e
   dsimp only at e
   split at e
   ·rename_i j
    split at e
    ·rename_i hj
     cases e
     exact⟨i,t5,j,e1,hi,e2,hj,rfl⟩
    ·cases e
   ·cases e
  ·cases e
 ·cases e
theorem Z7{fa fb:Bool}{x:Str}{ta tb:TE}{f g:DX}(ha:E K ta fa f)(hb:E K tb fb g):E K (tF3 x ta tb) false (dF3 x f g):=by
 refine⟨fun τ d t7 e=>?_,?_⟩
 ·obtain⟨i,t5,j,e1,_,e2,_⟩:=Ls e
  exact(ha.like _ _ _ e1).trans (hb.like _ _ _ e2)
 intro S M τ σ H Q d t7 r e q
 obtain⟨i,t5,j,e1,⟨h1,h2,h3⟩,e2,⟨h4,h5⟩,rfl⟩:=Ls e
 refine ha.weak.run S M τ σ H _ _ _ r e1 fun v H1 r1 c1 i1=>?_
 refine⟨i,i1,h1,h2,h3,hb.weak.run S M t5 σ H1 _ _ _ r1 e2 fun v2 H2 r2 c2 i2=>?_⟩
 exact⟨j,i2,h4,h5,q _ H2 r2 (c1.trans c2) rfl⟩
def C5:List PyData->Option PyData
 |[.int i]=>if i.natAbs.log2<1920 then some (.str (tS i)) else none
 |_=>none
theorem Wc:BR K false (fun xs H Q=>∃i,xs=[.int i]/\i.natAbs.log2<1920/\Q (.str (toString i)) H) C5:=by
 intro S H vs ds d Q _ l e q
 unfold C5 at e
 split at e
 ·split at e
  ·rename_i hz
   cases e
   obtain⟨v,us,rfl,iv,iu⟩:=l
   cases (show us=[] from iu)
   cases (show v = .int _ from iv)
   exact⟨_,rfl,hz,q _ H (fun _ _ e=>e) rfl⟩
  ·cases e
 ·cases e
def QU(f:DX)(lo hi:DO)(τ:DS):Option (PyData×DS):=(f τ).bind fun p=>(lo p.2).bind fun l=>(hi l.2).bind fun u=>match p.1 with
 |.str z=>if z.length<=sizeLine then some (.str (Txt.slice z l.1 u.1),u.2) else none
 |_=>none
theorem YR{fr:Bool}{te:TE}{tl th:TO}{f:DX}{lo hi:DO}(h:E K te fr f)(hl:OO K tl lo)(hh:OO K th hi):E K (tSl XN te tl th) false (QU f lo hi):=by
 have key:∀{τ d t7},QU f lo hi τ=some (d,t7)->∃z t5 l t9 u,f τ=some (.str z,t5)/\lo t5=some (l,t9)/\hi t9=some (u,t7)/\z.length<=sizeLine/\d = .str (Txt.slice z l u):=fun {τ d t7} e=>by
  unfold QU at e
  obtain⟨⟨x,t5⟩,e1,e⟩:=oB e
  obtain⟨⟨l,t9⟩,e2,e⟩:=oB e
  obtain⟨⟨u,l7⟩,e3,e⟩:=oB e
  dsimp only at e e2 e3
  cases x with
  |str z =>
   dsimp only at e
   split at e
   ·rename_i hz
    cases e
    exact⟨z,t5,l,t9,u,e1,e2,e3,hz,rfl⟩
   ·cases e
  |_=>cases e
 refine⟨fun τ d t7 e=>?_,?_⟩
 ·obtain⟨z,t5,l,t9,u,e1,e2,e3,_⟩:=key e
  exact((h.like _ _ _ e1).trans (hl.like _ _ _ e2)).trans (hh.like _ _ _ e3)
 intro S M τ σ H Q d t7 r e q
 obtain⟨z,t5,l,t9,u,e1,e2,e3,hz,rfl⟩:=key e
 refine h.weak.run S M τ σ H _ _ _ r e1 fun v1 H1 r1 c1 i1=>?_
 refine hl.run S M t5 σ H1 _ _ _ r1 e2 fun H2 r2 c2=>?_
 refine hh.run S M t9 σ H2 _ _ _ r2 e3 fun H3 r3 c3=>?_
 exact⟨z,i1,hz,q _ H3 r3 ((c1.trans c2).trans c3) rfl⟩
end DL
end
section
namespace L2
open PySem PySem.Spec PyProof.Rows
structure Pt(N:Addr->Prop)(fs:List Addr)(h h':Heap):Prop where
 same:∀b o,h.get? b=some o->¬N b->b∉fs->h'.get? b=some o
 slot:∀b o,h.get? b=some o->¬N b->∃sl,h'.get? b=some { o with slots:=sl }
 size:h.objs.size<=h'.objs.size
theorem Pt.trans{N:Addr->Prop}{fs:List Addr}{h h1 h2:Heap}(a:Pt N fs h h1)(b:Pt N fs h1 h2):Pt N fs h h2 :=
 ⟨fun c o e n f=>b.same c o (a.same c o e n f) n f,fun c o e n=>let ⟨_,e1⟩:=a.slot c o e n;let ⟨sl,e2⟩:=b.slot c _ e1 n;⟨sl,e2⟩,W' a.size b.size⟩
theorem NV{N:Addr->Prop}{fs:List Addr}{h h' base:Heap}(p:Pt N fs h h'):∀{l:List Env},(∀b∈frs l,¬N b)->h.FunFrames base l->h'.FunFrames base l
 |[],_,_=>trivial
 |env::r,hn,⟨hk,⟨L,o,hf,hb,ho,hd⟩,hr⟩=>by
  have hL:L∈frs (env::r):=by unfold frs;rw[bF,hf];exact L'
  obtain⟨sl,e⟩:=p.slot L o ho (hn L hL)
  exact⟨hk,⟨L,_,hf,hb,e,hd⟩,NV p (fun b hb=>hn b (by unfold frs;rw[bF,hf];exact O' _ hb)) hr⟩
def NoCtx(o:Obj):Prop:=∃vs,o.data = .fields vs/\vs[2]?=some Value.none
theorem NoCtx.set{o:Obj}{v:Value}(h:NoCtx o):NoCtx (o.mapFields (·.setIfInBounds 1 v)):=by
 obtain⟨vs,d,e⟩:=h
 exact⟨_,bJ d _,by rw[Array.getElem?_setIfInBounds_ne (by decide)];exact e⟩
def XAt(N:Addr->Prop)(h:Heap)(e:Addr)(C:Addr)(fl:Value):Prop :=
 ∃oe vs T oT ts,h.get? e=some oe/\(oe.cls = .ref C/\oe.dict=none/\NoCtx oe)/\oe.data = .fields vs/\vs[1]?=some (.ref T)/\N T/\T≠e/\h.get? T=some oT/\oT.data = .fields ts/\ts[3]?=some fl
theorem P2(o:Obj)(f:Array Value->Array Value):(o.mapFields f).cls=o.cls/\(o.mapFields f).dict=o.dict:=by
 obtain⟨c,d,dt,sl⟩:=o
 cases dt<;>exact⟨rfl,rfl⟩
section
variable {M:Model} {A:Around} {E:Value->Shared->Prop} {s:Shared} {N:Addr->Prop} {base:Heap} {env:Env} {outer:List Env} {L e C:Addr} {Q:Unit->Shared->Prop}
theorem Kz{oe:Obj}{vs:Array Value}{head:Value}{hadNext:Bool}(hfr:A.frames=some (env::outer))(hl:s.heap.FunFrames base (env::outer))(hf:env.frame=some L)
  (hNf:∀b∈frs (env::outer),¬N b) (hNn:∀b,s.heap.objs.size<=b->N b) (hNe:N e) (he:s.heap.get? e=some oe) (hc:oe.cls = .ref C/\oe.dict=none/\NoCtx oe) (hd:oe.data = .fields vs) (hsz:1<vs.size)
  (h:∀h',Pt N (frs (env::outer)) s.heap h'->XAt N h' e C (rawInt L)->Q () { s with heap:=h' }) :
  wpAny M A (do let a <- frameOf env;let pl <- entryPlaceOf L hadNext;let b <- EntryCells.newEntry head a .none (rawInt L) .none pl;setField (.ref e) 1 b) Q E s:=by
 have hef:e∉frs (env::outer):=fun z=>hNf e z hNe
 refine wpAny_bind (wpAny_frameOf_fun hfr hl hf fun h1 hs1=>?_)
 refine wpAny_bind (wpAny_entryPlaceOf fun pl hpl=>?_)
 unfold EntryCells.newEntry newFields
 refine wpAny_bind (wpAny_newObj_type ?_ (hpl.sizeOk5 _ _ _ _ _))
 have he1:h1.get? e=some oe:=(hs1.2.1 e hef).trans he
 have hz1:h1.objs.size=s.heap.objs.size:=hs1.1
 generalize hot:({ cls:=.type "traceback",dict:=none,data:=.fields ([head,.ref L,.none,rawInt L,.none]++(if pl.isEmpty then List.replicate 6 Value.none else pl)).toArray }:Obj)=ot
 have hotd:ot.data = .fields ([head,.ref L,.none,rawInt L,.none]++(if pl.isEmpty then List.replicate 6 Value.none else pl)).toArray:=by rw[<- hot]
 have he2:=E' (h:=h1) ot he1
 refine wpAny_setField he2 hd hsz (h _ ?_ ?_)
 ·have hTe:h1.objs.size≠e:=bT (P' he1)
  refine⟨fun b o eb nb fb=>?_,fun b o eb nb=>?_,?_⟩
  ·have hb:b≠e:=fun z=>nb (z▸hNe)
   rw[ao _ _ (Ne.symm hb)]
   exact E' _ ((hs1.2.1 b fb).trans eb)
  ·have hb:b≠e:=fun z=>nb (z▸hNe)
   obtain⟨sl,q⟩:=hs1.2.2 b o eb
   exact⟨sl,by rw[ao _ _ (Ne.symm hb)];exact E' _ q⟩
  ·rw[bo,bp,hz1];exact Nat.le_succ _
 ·have hTe:h1.objs.size≠e:=bT (P' he1)
  have hd3:=bJ hd (·.setIfInBounds 1 (Value.ref h1.objs.size))
  have he3:=bX (Obj.mapFields (·.setIfInBounds 1 (Value.ref h1.objs.size))) he2 (bY hd3)
  have hT3:=(ao (h1.push ot) (Obj.mapFields (·.setIfInBounds 1 (Value.ref h1.objs.size))) (Ne.symm hTe)).trans (R' h1 (bY hotd))
  refine⟨_,_,h1.objs.size,_,_,he3,⟨(P2 _ _).1.trans hc.1,(P2 _ _).2.trans hc.2.1,hc.2.2.set⟩,hd3,by simp[hsz],hNn _ (by rw[hz1];exact J' _),hTe,hT3,hotd,?_⟩
  first|(simp;done)|(rcases hpl with rfl|⟨_,_,_,_,_,_,_,rfl⟩<;>simp)
theorem OZ{oe:Obj}{vs:Array Value}(hfr:A.frames=some (env::outer))(hl:s.heap.FunFrames base (env::outer))(hf:env.frame=some L)
  (hNf:∀b∈frs (env::outer),¬N b) (hNn:∀b,s.heap.objs.size<=b->N b) (hNe:N e) (he:s.heap.get? e=some oe) (hc:oe.cls = .ref C/\oe.dict=none/\NoCtx oe) (hd:oe.data = .fields vs) (h1:vs[1]?=some .none)
  (h:∀h',Pt N (frs (env::outer)) s.heap h'->XAt N h' e C (rawInt L)->Q () { s with heap:=h' }):wpAny M A (noteFrame (.ref e) env) Q E s:=by
 unfold noteFrame
 simp only[hf]
 refine wpAny_bind (wpAny_field he hd h1 ?_)
 rw[if_neg (by decide)]
 exact Kz hfr hl hf hNf hNn hNe he hc hd (a9.mp h1).1 h
theorem Qv(hfr:A.frames=some (env::outer))(hl:s.heap.FunFrames base (env::outer))(hf:env.frame=some L)
  (hNf:∀b∈frs (env::outer),¬N b) (hNn:∀b,s.heap.objs.size<=b->N b) (hNe:N e) (x:XAt N s.heap e C .none)
  (h:∀h',Pt N (frs (env::outer)) s.heap h'->XAt N h' e C (rawInt L)->Q () { s with heap:=h' }):wpAny M A (noteFrame (.ref e) env) Q E s:=by
 obtain⟨oe,vs,T,oT,ts,he,hc,hd,h1,hNT,hTe,hT,hdT,h3⟩:=x
 unfold noteFrame
 simp only[hf]
 refine wpAny_bind (wpAny_field he hd h1 ?_)
 rw[if_pos (show(Value.ref T != Value.none)=true from by simp)]
 refine wpAny_bind (wpAny_field hT hdT h3 ?_)
 rw[if_neg (show ¬((Value.none==rawInt L)=true) from by simp[rawInt])]
 refine wpAny_bind (wpAny_setField hT hdT (a9.mp h3).1 ?_)
 have other:∀b,b≠T->(s.heap.update T (Obj.mapFields (·.setIfInBounds 3 Value.none))).get? b=s.heap.get? b:=fun b hb=>ao _ _ (Ne.symm hb)
 have hsz:(s.heap.update T (Obj.mapFields (·.setIfInBounds 3 Value.none))).objs.size=s.heap.objs.size:=bo ..
 have p1:Pt N (frs (env::outer)) s.heap (s.heap.update T (Obj.mapFields (·.setIfInBounds 3 Value.none))) :=
  ⟨fun b o eb nb _=>(other b fun z=>nb (z▸hNT)).trans eb,fun b o eb nb=>⟨o.slots,(other b fun z=>nb (z▸hNT)).trans eb⟩,Nat.le_of_eq hsz.symm⟩
 refine Kz (s:={ s with heap:=s.heap.update T (Obj.mapFields (·.setIfInBounds 3 Value.none)) }) (base:=base) hfr (NV p1 hNf hl) hf hNf (fun b hb=>hNn b (by rw[<- hsz];exact hb)) hNe ((other e (Ne.symm hTe)).trans he) hc hd (a9.mp h1).1 fun h' p2 x2=>?_
 exact h h' (p1.trans p2) x2
theorem Mq{fl:Value}{fs:List Addr}(x:XAt N s.heap e C fl)(hNe:N e)(h:∀h',Pt N fs s.heap h'->XAt N h' e C .none->Q () { s with heap:=h' }):wpAny M A (setFlight (.ref e) none) Q E s:=by
 obtain⟨oe,vs,T,oT,ts,he,hc,hd,h1,hNT,hTe,hT,hdT,h3⟩:=x
 have hsz3:3<ts.size:=(a9.mp h3).1
 have other:∀b,b≠T->(s.heap.update T (Obj.mapFields (·.setIfInBounds 3 ((none:Option Addr).elim Value.none fun f=>rawInt f)))).get? b=s.heap.get? b :=
  fun b hb=>ao _ _ (Ne.symm hb)
 unfold setFlight
 refine wpAny_bind (wpAny_field he hd h1 ?_)
 rw[if_pos (show(Value.ref T != Value.none)=true from by simp)]
 refine wpAny_setField hT hdT hsz3 (h _ ⟨fun b o eb nb _=>(other b fun z=>nb (z▸hNT)).trans eb,fun b o eb nb=>⟨o.slots,(other b fun z=>nb (z▸hNT)).trans eb⟩,Nat.le_of_eq (bo ..).symm⟩ ?_)
 exact⟨oe,vs,T,_,_,(other e (Ne.symm hTe)).trans he,hc,hd,h1,hNT,hTe,bX _ hT (bY (bJ hdT _)),bJ hdT _,by simp[hsz3]⟩
end
theorem ObjOk.some{P:Program}{w:World}{H:Hp}{h:Heap}{a:Addr}{o:HO}(x:ObjOk P w H h a o):∃u,h.get? a=Option.some u:=by
 cases o with
 |lst xs=>obtain⟨_,_,_,_,e⟩:=x;exact⟨_,e⟩
 |tup xs=>obtain⟨_,_,_,o,e,_⟩:=x;exact⟨_,e⟩
 |dK kvs=>obtain⟨_,_,_,_,o,_,_,e,_⟩:=x;exact⟨_,e⟩
 |dT kvs=>obtain⟨_,_,_,_,o,_,_,e,_⟩:=x;exact⟨_,e⟩
 |set S n=>obtain⟨o,_,_,_,e,_⟩:=x;exact⟨_,e⟩
 |ins C dx fs=>obtain⟨_,_,_,e,_⟩:=x;exact⟨_,e⟩
 |own y=>obtain⟨_,e⟩:=x;exact⟨_,e⟩
 |xd fs=>obtain⟨_,⟨_,_,_,e,_⟩,_⟩:=x;exact⟨_,e⟩
 |rng lo hi=>obtain⟨_,_,_,e⟩:=x;exact⟨_,e⟩
 |frz ob u=>obtain⟨e,_⟩:=x;exact⟨_,e⟩
 |tbl ps=>exact⟨_,(show h.get? a=Option.some _ from x)⟩
 |met f y=>exact⟨_,(show h.get? a=Option.some _ from x)⟩
 |ext φ=>obtain⟨_,⟨_,e⟩,_⟩:=x;exact⟨_,e⟩
def Nw(h:Heap)(H:Hp):Addr->Prop:=fun b=>h.get? b=none/\H b=none
theorem XAt.mono{N N':Addr->Prop}{h:Heap}{e C:Addr}{fl:Value}(x:XAt N h e C fl)(k:∀b,N b->N' b):XAt N' h e C fl:=by
 obtain⟨oe,vs,T,oT,ts,he,hc,hd,h1,hNT,r⟩:=x
 exact⟨oe,vs,T,oT,ts,he,hc,hd,h1,k T hNT,r⟩
theorem Nw.fresh{P:Program}{w:World}{h h':Heap}{H:Hp}(hok:HOk P w H h')(k:∀b o,h.get? b=some o->∃o',h'.get? b=some o'){b:Addr}(hb:h'.objs.size<=b):Nw h H b:=by
 refine⟨?_,hok.fresh hb⟩
 cases q:h.get? b with
 |none=>rfl
 |some o =>
  obtain⟨o',e⟩:=k b o q
  exact absurd (aN (P' e) hb) (ax _)
def CXr(P:Program)(w:World):CXT:=fun outer H s E e s'=>∃(ea C:Addr) (H':Hp),e = .ref ea/\s'.os=s.os/\AllBare s'.gens/\Un (frs outer) [] H H' s.heap s'.heap/\HOk P w H' s'.heap/\Nw s.heap H' ea/\XAt (Nw s.heap H') s'.heap ea C .none/\E (.ref C) none H'
def JJ(X:Cx)(C:Addr)(E:XK):Prop:=∀(pins:List (Addr×Obj)) (σ:St) (H:Hp) (s:Shared) (h':Heap) (e:Addr) (vs:List Value),Inv X pins σ H s->Heap.MadeExcOf s.heap h' e (.ref C) vs->E (.ref C) none H->X.xe (.ref e) { s with heap:=h' }
theorem S6{N:Addr->Prop}{fs gs:List Addr}{H H1:Hp}{h h1 h2:Heap}(u:Un fs [] H H1 h h1)(p:Pt N gs h1 h2)(hN:∀b o,h.get? b=some o->¬N b)(hg:∀b o,h.get? b=some o->b∈gs->b∈fs):Un fs [] H H1 h h2 where
 keep:=fun b o q n hb hx=>p.same b o (u.keep b o q n hb hx) (hN b o q) fun z=>hb (hg b o q z)
 slot:=fun b o q n hb hx=>by
  obtain⟨sl,e⟩:=u.slot b o q n hb hx
  obtain⟨sl',e'⟩:=p.slot b _ e (hN b o q)
  exact⟨sl',e'⟩
 free:=u.free
 there:=fun b o q hx=>by
  obtain⟨o',e⟩:=u.there b o q hx
  obtain⟨sl',e'⟩:=p.slot b _ e (hN b o q)
  exact⟨_,e'⟩
 tups:=u.tups
 frzs:=u.frzs
 tbls:=u.tbls
theorem QD{P:Program}{w:World}{N:Addr->Prop}{gs:List Addr}{H:Hp}{h h':Heap}(hok:HOk P w H h)(p:Pt N gs h h')(hN:∀b,N b->H b=none)(hg:∀b∈gs,H b=none):HOk P w H h':=fun a o e=>by
 have tr:∀b x u,H b=some x->h.get? b=some u->h'.get? b=some u:=fun b x u q e1=>p.same b u e1 (fun z=>by rw[hN b z]at q;cases q) fun z=>by rw[hg b z]at q;cases q
 refine(hok a o e).stay (fun b u hb q=>?_) (fun _ q=>q) fun _ _ q=>q
 rcases hb with rfl|hb
 ·exact tr b o u e q
 ·exact tr b _ u hb q
theorem K8{P:Program}{w:World}{K:PySem.W.Frag}{mg:Str->Option Value}{base:Heap}{N:List Str}{qual:Str}{scope:Scope}{f:Addr}{cd:Value}{A:Around}{outer:List Env}{s:Shared}{H:Hp}{E:XK}{C:Addr} :
  JJ (JF (CXr P w) P w K mg base N qual scope f cd A outer s H E) C E:=by
 intro pins σ H1 s1 h' e vs I hx hE
 have hst:=I.stack
 have hfree:=I.stkFree
 have hfr:=I.ok.frames
 have hun:Un (frs outer) [] H H1 s.heap s1.heap:=I.base
 have hok:HOk P w H1 s1.heap:=I.hok
 have hlt:s.heap.objs.size<=s1.heap.objs.size:=I.sz
 change s1.heap.FunFrames base (envOfC qual scope s.heap.objs.size f cd::outer)at hst
 change ∀b∈frs (envOfC qual scope s.heap.objs.size f cd::outer),H1 b=none at hfree
 change (A.deeper (envOfC qual scope s.heap.objs.size f cd)).frames=some (envOfC qual scope s.heap.objs.size f cd::outer)at hfr
 generalize henv:envOfC qual scope s.heap.objs.size f cd=env at hst hfree hfr
 show wpAny (model P w) (A.deeper (envOfC qual scope s.heap.objs.size f cd)) (leaving (envOfC qual scope s.heap.objs.size f cd) (.ref e)) (fun _ s''=>CXr P w outer H s E (.ref e) s'') (fun e' s''=>CXr P w outer H s E e' s'') { s1 with heap:=h' }
 have hf:env.frame=some s.heap.objs.size:=by rw[<- henv];rfl
 rw[henv]
 obtain⟨t,he,_,_⟩:=hx.there
 have hNf:∀b∈frs (env::outer),¬Nw s1.heap H1 b:=fun b hb z=>by
  obtain⟨_,o,ho,_⟩:=hst.mem hb
  rw[z.1]at ho;cases ho
 have hok':HOk P w H1 h':=hok.kept hx.keeps
 have hNn:∀b,h'.objs.size<=b->Nw s1.heap H1 b:=fun b hb=>Nw.fresh hok' (fun c o q=>⟨o,hx.keeps c o q⟩) hb
 have hNe:Nw s1.heap H1 e:=by
  refine⟨hx.new,?_⟩
  cases q:H1 e with
  |none=>rfl
  |some u =>
   obtain⟨v,r⟩:=ObjOk.some (hok e u q)
   rw[hx.new]at r;cases r
 have hun':Un (frs outer) [] H H1 s.heap h':=hun.trans (Un.kept hx.keeps)
 have hold:∀b o,s.heap.get? b=some o->¬Nw s1.heap H1 b:=fun b o q z=>by
  obtain⟨o',r⟩:=hun.there b o q (by simp)
  rw[z.1]at r;cases r
 have hmono : ∀ b, Nw s1.heap H1 b -> Nw s.heap H1 b := fun b z => ⟨by
  cases q:s.heap.get? b with
  |none=>rfl
  |some o=>exact absurd z (hold b o q),z.2⟩
 have hl':h'.FunFrames base (env::outer):=hst.of_keeps fun b o q _=>⟨o,hx.keeps b o q,rfl⟩
 unfold leaving
 refine wpAny_bind (OZ (s:={ s1 with heap:=h' }) (base:=base) (N:=Nw s1.heap H1) (C:=C) hfr hl' hf hNf hNn hNe he ⟨rfl,rfl,_,rfl,rfl⟩ rfl rfl fun h2 p1 x1=>?_)
 refine Mq (fs:=frs (env::outer)) x1 hNe fun h3 p2 x2=>?_
 have p:=p1.trans p2
 refine⟨e,C,H1,rfl,I.os,I.bare,S6 hun' p hold (fun b o q z=>?_),QD hok' p (fun b z=>z.2) hfree,hmono e hNe,x2.mono hmono,hE⟩
 unfold frs at z
 rw[bF,hf]at z
 rcases Z'.mp z with z|z
 ·exact absurd (P' q) (by rw[z];exact ax _)
 ·exact z
theorem OM{K:PySem.W.Frag}{h:Heap}{C:Addr}{bmB:List Value}{newId:String}(X:K.In h)(q:PySem.W.excIn K C bmB newId=true) :
  ∃bm N nm q bs hdct sn sub ab col dd k0 k1 k2 k3 k5 mN,h.get? C=some (excClassObj nm q C N bs bm hdct sn sub ab col dd k0 k1 k2 k3 k5 newId)/\h.Ns N mN/\mN "__init__"=none/\OwnTail h bmB bm:=by
 unfold PySem.W.excIn at q
 split at q
 ·rename_i dd cd sl ho
  split at q
  ·rename_i C' bm k0 k1 k2 k3 n k5 hm hs
   simp only[Bool.and_eq_true,beq_iff_eq,Bool.not_eq_true']at q
   obtain⟨⟨⟨⟨⟨rfl,rfl⟩,hdel⟩,ht⟩,hok⟩,hni⟩:=q
   obtain⟨nm,bs,mro,ns,qn,hd,sn,sub,ab,col,del⟩:=cd
   dsimp only at hm hdel hok hni
   subst hm hdel
   have hsl:sl=#[k0,k1,k2,k3,some (.builtin n),k5]:=by
    obtain⟨l⟩:=sl
    simp only at hs
    rw[hs]
   subst hsl
   exact⟨bm,ns,nm,qn,bs,hd,sn,sub,ab,col,dd,k0,k1,k2,k3,k5,_,X _ _ ho,.of_isNs (PySem.W.isNs_of_in X hok),PySem.W.nsMap_none_of_in X hok hni,PySem.W.tail_of_in X ht⟩
  ·cases q
 ·cases q
def L7(C:Addr)(E:XK)(ta:TA):TS:=fun _ σ H=>ta σ H fun vs H1=>vs.length<=sizeLine/\E (.ref C) none H1
theorem PX{X:Cx}{C:Addr}{E:XK}{x:Str}{np cpos pos:Pos}{e₀:Expr}{Ca:List Expr}{ta:TA}{B newId initId:String}{bm:List Value}(ha:PA X (e₀::Ca) ta)(hR:JJ X C E)
  (hg:Gl X x) (hm:X.mg x=some (.ref C)) (hq:PySem.W.excIn X.K C bm newId=true) (FB:ExcBaseFacts B newId initId bm) (hh:X.A.handled=none)
  (hplain:(backTo cpos (starEach Ca X.env)).any (·.1)=false:=by rfl) (hd:(x==("__debug__":Str))=false:=by decide)
  (he:starEach (e₀::Ca) X.env=(false,eval e₀ X.env)::starEach Ca X.env:=by rfl):PS X (.Raise (some (.Call (.Name x np) (e₀::Ca) [] cpos)) none pos) (L7 C E ta):=by
 intro pins s σ H D I h
 obtain⟨tl,N,nm,q,bs,hdct,sn,sub,ab,col,dd,k0,k1,k2,k3,k5,mN,hC,hN,hni,T⟩:=OM I.ok.mod.kin hq
 refine wpAny_Raise_call_subT (C:=C) (nm:=nm) (q:=q) (N:=N) (bs:=bs) (bm:=tl) (hdct:=hdct) (sn:=sn) (sub:=sub) (ab:=ab) (col:=col) (dd:=dd) (k0:=k0) (k1:=k1) (k2:=k2) (k3:=k3) (k5:=k5)
  FB (mN:=mN) (T.hasType FB.hasBase) hh (by rw[he];show(false||(backTo cpos (starEach Ca X.env)).any (·.1))=false;rw[hplain];rfl) hni (Ht I hg hm ⟨rfl,?_⟩ hd)
 have hz:=ha cpos pins s σ H _ I h
 rw[he]at hz ⊢
 refine Calls.evalArgs_plain (wpAny_mono hz (fun us s2 ⟨vs,H2,I2,r,z,hE⟩=>⟨rfl,by rw[<- r.length];exact z,I2.bk _ _ hC,hN.keeps I2.bk,T.keeps I2.bk,fun h' e hx=>hR pins σ H2 s2 h' e us I2 hx hE⟩) fun _ _ y=>y)
structure Got1(X:Cx)(pins:List (Addr×Obj))(σ:St)(H H':Hp)(s:Shared)(ea C:Addr)(fl:Value)(s3:Shared):Prop where
 os:s3.os=s.os
 bare:AllBare s3.gens
 un:Un (frs X.stack) [] H H' s.heap s3.heap
 hok:HOk X.prog X.w H' s3.heap
 new:Nw s.heap H' ea
 xat:XAt (Nw s.heap H') s3.heap ea C fl
section
variable {X:Cx} {pins:List (Addr×Obj)} {σ:St} {H H':Hp} {s s3:Shared} {ea C:Addr} {fl:Value}
theorem Got1.inv(g:Got1 X pins σ H H' s ea C fl s3)(I:Inv X pins σ H s):Inv X pins σ H' s3:=I.call' g.os g.un g.hok g.bare fun _ z=>nomatch z
theorem Got1.old{b:Addr}{o:Obj}(e:s.heap.get? b=some o):¬Nw s.heap H' b:=fun z=>by rw[z.1]at e;cases e
theorem Got1.fresh(g:Got1 X pins σ H H' s ea C fl s3):∀b,s3.heap.objs.size<=b->Nw s.heap H' b:=fun b hb=>Nw.fresh g.hok (fun c o q=>g.un.there c o q (by simp)) hb
theorem Got1.step{fl':Value}{h4:Heap}(g:Got1 X pins σ H H' s ea C fl s3)(I:Inv X pins σ H s)(p:Pt (Nw s.heap H') (frs X.stack) s3.heap h4)(x:XAt (Nw s.heap H') h4 ea C fl'):Got1 X pins σ H H' s ea C fl' { s3 with heap:=h4 } :=
 ⟨g.os,g.bare,S6 g.un p (fun b o e=>Got1.old e) fun _ _ _ z=>z,QD g.hok p (fun b z=>z.2) (g.inv I).stkFree,g.new,x⟩
theorem Got1.lands{M:Model}{A:Around}{E0:Value->Shared->Prop}{R:Shared->Prop}(g:Got1 X pins σ H H' s ea C .none s3)(I:Inv X pins σ H s)(hst:X.stack=X.env::X.outer/\X.env.frame=some X.env.locals)(hA:A.frames=some X.stack)
  (h:∀s4,Got1 X pins σ H H' s ea C .none s4->R s4) :
  wpAny M A (noteFrame (.ref ea) X.env) (fun _ s₂=>wpAny M A (setFlight (.ref ea) none) (fun _ s₃=>R s₃) E0 s₂) E0 s3:=by
 have J:=g.inv I
 have hl:=J.stack
 have hNf:∀b∈frs X.stack,¬Nw s.heap H' b:=fun b hb=>by
  obtain⟨_,o,ho,_⟩:=I.stack.mem hb
  exact Got1.old ho
 rw[hst.1]at hA hl
 refine Qv (base:=X.base) (N:=Nw s.heap H') (C:=C) hA hl hst.2 (by rw[<- hst.1];exact hNf) g.fresh g.new g.xat fun h4 p x=>?_
 rw[<- hst.1]at p
 have g4:=g.step I p x
 refine Mq (fs:=frs X.stack) x g.new fun h5 p5 x5=>?_
 exact h _ (g4.step I p5 x5)
end
section
variable {X:Cx} {k:Nat} {f C D':Addr} {fd:FuncData} {ps:List Str} {sp:Sp} {x cn:Str} {p pos p1 np hp p2:Pos} {e:Expr} {es:List Expr} {t:TA} {b₀:Stmt} {suite:List Stmt} {ts:Addr->TS}
end
end L2
end
section
namespace L2
open PySem PySem.Spec PyProof.Rows PySem.W
section
variable {prog:Program} {w:World} {A:Around} {E:Value->Shared->Prop} {s:Shared} {K:Frag} {x C:Addr} {ox:Obj}
end
section
variable {X:Cx} {ea C:Addr} {oe:Obj}
end
end L2
end
section
namespace L2
open PySem PySem.Spec PyProof.Rows
section
variable {X:Cx} {k i:Nat} {f C D':Addr} {fd:FuncData} {ps:List Str} {sp:Sp} {x cn n:Str} {p pos p1 np hp p2:Pos} {e:Expr} {es:List Expr} {t:TA} {b₀:Stmt} {suite:List Stmt} {ts:Addr->TS}
end
theorem Fun.okX{P:Program}{w:World}{K:PySem.W.Frag}{mg:Str->Option Value}{base:Heap}{x qual:Str}{st:Stmt}{f:Addr}{fd:FuncData}{N ps:List Str}{k:Nat}{sp:Sp}(F:Fun K x qual st f fd)(S:FJ N ps (Ak st))(len:∀vs H Q E,sp vs H Q E->vs.length=ps.length)
  (hbody : ∀ (cdv : Value) (A : Around) (outer : List Env) (s : Shared) (H : Hp) (vs : List V) (Q : VK) (E : XK), Room k (A.deeper (envOfC qual (Ak st) s.heap.objs.size f cdv)) -> sp vs H Q E ->
   ∃t,PSs (JF (CXr P w) P w K mg base N qual (Ak st) f cdv A outer s H E) (Bh st) t/\t { nx:=fun _ H'=>Q .non H',rt:=Q } (start N vs) H):FnOk P w K mg base (CXr P w) (k+1) f fd ps sp:=by
 obtain⟨oc,od,kV,doc,pm,an,cdv,ct,osl,rfl,lk,hcd⟩:=F.ex
 exact Td lk hcd S len fun A outer s H vs Q E hr hsp=>hbody cdv A outer s H vs Q E hr hsp
end L2
namespace DL
open PySem L2
instance {i j:Int}:Decidable (Ts i j):=by unfold Ts Bd;infer_instance
end DL
end
section
namespace L2
open PySem PySem.Spec PyProof.Rows
def Its(x:Str):It:=⟨fun i _=>i<x.cps.size,fun i H v H'=>∃c,x.cps[i]?=some c/\H'=H/\v = .str ⟨#[c]⟩,fun i _=>x.cps.size<=i⟩
theorem Jf{P:Program}{w:World}{K:PySem.W.Frag}{tg:Expr}(x:Str)(t:Tok)(it:Addr)(n:String)
  (hn:["enumerate","zip","dict_itemiterator","dict_reverseitemiterator","odict_iterator","itertools.zip_longest","itertools.pairwise"].contains n=false)
  (nx : ∀ {A : Around} {E : Value -> Shared -> Prop} {s : Shared} {i c : Nat} {Q : Option Value -> Shared -> Prop}, s.heap.IsStrIter it n x t i -> x.cps[i]? = some c ->
   (∀h',h'.IsStrIter it n x t (i+1)->Heap.SameBut it s.heap h'->Q (some (.str ⟨#[c]⟩ s.toks)) { s with heap:=h',toks:=s.toks+1 })->wpAny (model P w) A (pyNext (.ref it)) Q E s)
  (en : ∀ {A : Around} {E : Value -> Shared -> Prop} {s : Shared} {i : Nat} {Q : Option Value -> Shared -> Prop}, A.handled = none -> s.heap.IsStrIter it n x t i -> x.cps[i]? = none ->
   (∀h',Heap.ExtBut it s.heap h'->Q none { s with heap:=h' })->wpAny (model P w) A (pyNext (.ref it)) Q E s)
  (sf:∀{A:Around} {E:Value->Shared->Prop} {s:Shared} {i:Nat} {Q:Value->Shared->Prop},s.heap.IsStrIter it n x t i->Q (.ref it) s->wpAny (model P w) A (pyIter (.ref it)) Q E s) :
  Turn P w K tg (Its x) [it] it (fun i h=>h.IsStrIter it n x t i) where
 mem:=by simp
 obj:=fun i h st b hb=>by
  have e:b=it:=by simpa using hb
  subst e
  obtain⟨o,e,c,d⟩:=st
  exact⟨o,e,fun v z=>by rw[d]at z;cases z⟩
 keep:=fun i h h' st k=>let ⟨o,e,r⟩:=st;⟨o,k it (by simp) o e,r⟩
 item:=by
  intro X hP hw hK hc i pins s σ H E I hf st hg
  subst hP hw hK
  have hlt:i<x.cps.size:=hg
  have hx:x.cps[i]?=some x.cps[i]:=Array.getElem?_eq_getElem hlt
  obtain⟨f0,f1,f2,f3,f4,f5⟩:=hf it (by simp)
  refine nx st hx fun h' st' sb=>?_
  have I1:Inv X pins σ H { s with heap:=h',toks:=s.toks+1 }:=I.turned (fun b o hb e=>(sb.2 b hb).trans e) f0 f1 f3 f4 f5
  obtain⟨o,e,c,d⟩:=id st'
  exact⟨_,rfl,NT (s:={ s with heap:=h',toks:=s.toks+1 }) e c d hn ⟨.str ⟨#[x.cps[i]]⟩,H,I1,⟨_,rfl⟩,⟨_,hx,rfl,rfl⟩,st',fun b hb=>(hf b hb).1⟩⟩
 done:=by
  intro X hP hw hK hc i pins s σ H E I hf st hg
  subst hP hw hK
  obtain⟨f0,f1,f2,f3,f4,f5⟩:=hf it (by simp)
  exact en (I.ok.hd hc) st (Array.getElem?_eq_none hg) fun h' eb=>⟨rfl,I.turned (t':=s.toks) (fun b o hb e=>eb b o hb e) f0 f1 f3 f4 f5⟩
 self:=fun _ _ _ _ _ st h=>sf st h
theorem Oh{P:Program}{w:World}{K:PySem.W.Frag}{tg:Expr}(x:Str)(t:Tok)(it:Addr):Turn P w K tg (Its x) [it] it (fun i h=>h.IsStrIter it (strIterType x) x t i):=by
 unfold strIterType
 split
 ·exact Jf x t it _ (by decide) (fun a b c=>wpAny_pyNext_ascii_item a b c) (fun a b c d=>wpAny_pyNext_ascii_end a b c d) (fun a b=>wpAny_pyIter_striter_ascii a b)
 ·exact Jf x t it _ (by decide) (fun a b c=>wpAny_pyNext_wide_item a b c) (fun a b c d=>wpAny_pyNext_wide_end a b c d) (fun a b=>wpAny_pyIter_striter_wide a b)
def YE(tl:TE):TI:=fun σ H R=>tl σ H fun v H1=>∃x,v = .str x/\R (Its x) H1
theorem US{X:Cx}{tg l:Expr}{tl:TE}(hl:PE X l tl):PI X tg l (YE tl):=by
 intro pins s σ H R I h
 refine thn (hl pins s σ H _ I h) fun v s1 ⟨x,H1,I1,r1,q1⟩=>?_
 obtain⟨z,rfl,q⟩:=q1
 obtain⟨t,rfl⟩:=r1
 refine wpAny_pyIter_strU ?_
 refine⟨s1.heap.objs.size,[s1.heap.objs.size],_,_,H1,rfl,I1.kept (t':=s1.toks) fun b o e=>E' _ e,Oh z t _,⟨_,R' _ rfl,rfl,rfl⟩,fun b hb=>?_,q⟩
 have e:b=s1.heap.objs.size:=by simpa using hb
 subst e
 exact I1.fpOk (J' _) (I1.hok.fresh (J' _))
def UH:V->List V->Hp->VK->Prop:=fun x xs H Q=>∃a b i Ca,x = .str a/\xs=[.str b]/\Builtin.Str.occurrences a b 0 a.length 1=i::Ca/\Q (.int (i:Nat)) H
theorem P1{X:Cx}:MtR X "str.index" UH:=by
 intro pins s σ H x xs v us Q I rx rs h
 obtain⟨a,b,i,Ca,rfl,rfl,ho,q⟩:=h
 obtain⟨t,rfl⟩:=rx
 obtain⟨u,rfl,ru⟩:=DH rs
 obtain⟨t',rfl⟩:=ru
 exact SC.index ho ⟨.int i,H,I.tok _,⟨_,rfl⟩,q⟩
end L2
namespace DL
open PySem L2 PyProof.Rows
variable {K:KW}
def chD(x:Str):List PyData:=x.cps.toList.map fun c=>.str ⟨#[c]⟩
def dIS(f:DX)(τ:DS):Option (List PyData×DS):=(f τ).bind fun p=>match p.1 with
 |.str x=>some (chD x,p.2)
 |_=>none
theorem VA{fr:Bool}{t:TE}{f:DX}(h:E K t fr f):IT K (YE t) (dIS f):=by
 refine⟨fun τ d t7 e=>?_,?_⟩
 ·unfold dIS at e
  obtain⟨⟨x,t5⟩,e1,e⟩:=oB e
  dsimp only at e
  split at e
  ·cases e;exact h.like _ _ _ e1
  ·cases e
 intro S M τ σ H Q ds t7 r e q
 unfold dIS at e
 obtain⟨⟨x,t5⟩,e1,e⟩:=oB e
 dsimp only at e
 split at e
 ·rename_i z
  cases e
  refine h.weak.run S M τ σ H _ _ _ r e1 fun v H1 r1 c1 i1=>?_
  cases (show v = .str z from i1)
  refine⟨z,rfl,q _ H1 r1 c1 fun S2 H2 k=>⟨fun i d e=>?_,fun i hi=>?_⟩⟩
  ·unfold chD at e
   rw[G',Array.getElem?_toList]at e
   obtain⟨c,hc,rfl⟩:=oM e
   refine⟨(a9.mp hc).1,fun x H3 ⟨c',hc',h1,h2⟩=>⟨h1,?_⟩⟩
   rw[hc]at hc';cases hc'
   exact h2
  ·show z.cps.size<=i
   unfold chD at hi
   simpa using hi
 ·cases e
def QO:PyData->PyData->Option PyData
 |.str a,.str b=>match Builtin.Str.occurrences a b 0 a.length 1 with
  |i::_=>some (.int (i:Nat))
  |[]=>none
 |_,_=>none
theorem OK{x y d:PyData}(h:QO x y=some d):∃u w i Ca,x = .str u/\y = .str w/\Builtin.Str.occurrences u w 0 u.length 1=i::Ca/\d = .int (i:Nat):=by
 unfold QO at h
 split at h
 ·split at h
  ·rename_i u w _ i Ca ho
   exact⟨u,w,i,Ca,rfl,rfl,ho,(A' h).symm⟩
  ·cases h
 ·cases h
theorem Yd{fa fb:Bool}{ta tb:TE}{a b:DX}(ha:E K ta fa a)(hb:E K tb fb b):E K (tBM K "str" UH ta (Cs tb Eo)) false (dOp QO a b):=by
 refine⟨fun τ d t7 e=>?_,?_⟩
 ·unfold dOp at e
  obtain⟨⟨x,t5⟩,e1,e⟩:=oB e
  obtain⟨⟨y,t9⟩,e2,e⟩:=oB e
  obtain⟨z,e3,e⟩:=oM e
  cases e
  exact(ha.like _ _ _ e1).trans (hb.like _ _ _ e2)
 intro S M τ σ H Q d t7 r e q
 unfold dOp at e
 obtain⟨⟨x,t5⟩,e1,e⟩:=oB e
 obtain⟨⟨y,t9⟩,e2,e⟩:=oB e
 obtain⟨z,e3,e⟩:=oM e
 cases e
 obtain⟨u,w,i,Ca,rfl,rfl,ho,rfl⟩:=OK e3
 refine ha.weak.run S M τ σ H _ _ _ r e1 fun v H1 r1 c1 i1=>?_
 cases (show v = .str u from i1)
 refine⟨rfl,hb.weak.run S M _ σ H1 _ _ _ r1 e2 fun v2 H2 r2 c2 i2=>?_⟩
 cases (show v2 = .str w from i2)
 exact⟨u,w,i,Ca,rfl,rfl,ho,q _ H2 r2 (c1.trans c2) rfl⟩
def Kp:PyData->PyData->Option PyData
 |.str i,.str j=>some (.bool (!(Builtin.Str.occurrences j i 0 j.length 1).isEmpty))
 |_,_=>none
theorem Xs:OR K false (fun x y H Q=>∃i j,x = .str i/\y = .str j/\Q (.bl (!(Builtin.Str.occurrences j i 0 j.length 1).isEmpty)) H) Kp:=by
 intro S H x y dx dy d Q _ ix iy e q
 unfold Kp at e
 split at e
 ·rename_i i j
  cases e
  exact⟨i,j,ix,iy,q _ H (fun _ _ e=>e) rfl⟩
 ·cases e
mutual
def Ax(K:KW):PyData->Value->Bool
 |.int i,.int j _=>decide (i=j)
 |.str x,.str y _=>decide (x=y)
 |.tuple ds,.ref a=>match K.fr.lookup a with
  |some ⟨.type "tuple",_,.seq its _,_⟩=>decide (its.size<=1000)&&constInL K ds its.toList
  |_=>false
 |_,_=>false
def constInL(K:KW):List PyData->List Value->Bool
 |[],[]=>true
 |d::ds,v::vs=>Ax K d v&&constInL K ds vs
 |_,_=>false
end
mutual
theorem JG:∀{d:PyData} {u:Value},Ax K d u=true->∃v,RelV v u/\∀H,Is K H d v
 |.int i,u,h=>by
  cases u<;>first|(unfold Ax at h;cases h;done)|(unfold Ax at h;cases of_decide_eq_true h;exact⟨.int i,⟨_,rfl⟩,fun _=>rfl⟩)
 |.str x,u,h=>by
  cases u<;>first|(unfold Ax at h;cases h;done)|(unfold Ax at h;cases of_decide_eq_true h;exact⟨.str x,⟨_,rfl⟩,fun _=>rfl⟩)
 |.tuple ds,.ref a,h=>by
  unfold Ax at h
  split at h
  ·rename_i dd its n sl ho
   obtain⟨h1,h2⟩:=Bool.and_eq_true_iff.mp h
   obtain⟨vs,r,hl⟩:=constL_is h2
   exact⟨.ref a,rfl,fun H=>⟨a,vs,rfl,.inr ⟨_,its,n,ho,rfl,rfl,W' (of_decide_eq_true h1) (by decide),r⟩,hl H⟩⟩
  ·cases h
 |.tuple ds,.none,h=>by unfold Ax at h;cases h
 |.tuple ds,.bool _,h=>by unfold Ax at h;cases h
 |.tuple ds,.int _ _,h=>by unfold Ax at h;cases h
 |.tuple ds,.str _ _,h=>by unfold Ax at h;cases h
 |.none,u,h=>by cases u<;>(unfold Ax at h;cases h)
 |.bool _,u,h=>by cases u<;>(unfold Ax at h;cases h)
 |.list _,u,h=>by cases u<;>(unfold Ax at h;cases h)
 |.dict _,u,h=>by cases u<;>(unfold Ax at h;cases h)
theorem constL_is:∀{ds:List PyData} {us:List Value},constInL K ds us=true->∃vs,Vals vs us/\∀H,IsL K H ds vs
 |[],[],_=>⟨[],.nil,fun _=>rfl⟩
 |d::ds,u::us,h=>by
  unfold constInL at h
  obtain⟨h1,h2⟩:=Bool.and_eq_true_iff.mp h
  obtain⟨v,r,i⟩:=JG h1
  obtain⟨vs,rs,is⟩:=constL_is h2
  exact⟨v::vs,.cons r rs,fun H=>⟨v,vs,rfl,i H,is H⟩⟩
 |[],_::_,h=>by cases h
 |_::_,[],h=>by cases h
end
def KdL(K:KW)(w:World):List DictEntry->List (Str×PyData)->Prop
 |[],[]=>True
 |e::es,p::tb=>(∃t,e.key = .str p.1 t)/\e.hash=hashStr w p.1/\Ax K p.2 e.val=true/\KdL K w es tb
 |_,_=>False
structure KD(K:KW)(w:World)(a:Addr)(tb:List (Str×PyData)):Prop where
 ex:∃es n,K.fr.lookup a=some ⟨.type "dict",none,.dict es n,#[]⟩/\KdL K w es.toList tb
def Cc:List (Str×PyData)->Str->Option PyData
 |[],_=>none
 |p::r,k=>if p.1=k then some p.2 else Cc r k
theorem A2{k x:Str}{t:Tok}:Value.isStrOf k (.str x t)=decide (k=x):=by
 unfold Value.isStrOf
 by_cases h:k=x
 ·subst h
  rw[decide_eq_true rfl]
  first|exact beq_self_eq_true _|simp
 ·rw[decide_eq_false h]
  first|exact beq_eq_false_iff_ne.mpr (Ne.symm h)|(simp;exact Ne.symm h)
theorem Hv{w:World}:∀{es:List DictEntry} {tb:List (Str×PyData)},KdL K w es tb->∀e∈es,∃k,Value.isStrOf k e.key=true/\e.hash=hashStr w k
 |[],_,_,e,h=>nomatch h
 |x::es,[],h,_,_=>h.elim
 |x::es,p::tb,⟨⟨t,hk⟩,hh,_,r⟩,e,h=>by
  rcases Z'.mp h with rfl|h
  ·exact⟨p.1,by rw[hk,A2];exact decide_eq_true rfl,hh⟩
  ·exact Hv r e h
theorem NL{w:World}{k:Str}{d:PyData}:∀{es:List DictEntry} {tb:List (Str×PyData)},KdL K w es tb->Cc tb k=some d->∃u,(es.find? fun e=>Value.isStrOf k e.key).map (·.val)=some u/\Ax K d u=true
 |[],[],_,h=>by cases h
 |[],_::_,h,_=>h.elim
 |_::_,[],h,_=>h.elim
 |x::es,p::tb,⟨⟨t,hk⟩,hh,hc,r⟩,h=>by
  unfold Cc at h
  rw[cA,hk,A2]
  by_cases e:p.1=k
  ·rw[if_pos e]at h
   cases h
   rw[decide_eq_true e.symm]
   exact⟨_,rfl,hc⟩
  ·rw[if_neg e]at h
   rw[decide_eq_false (Ne.symm e)]
   exact NL r h
def rKd(K:KW)(a:Addr)(tb:List (Str×PyData)):R2:=fun x y H Q=>x = .ref a/\∃k d,y = .str k/\Cc tb k=some d/\∀v,(∀H',Is K H' d v)->Q v H
theorem X8{X:Cx}{a:Addr}{tb:List (Str×PyData)}(kd:KD (EB X) X.w a tb):IxR X (rKd (EB X) a tb):=by
 intro value slice pins s σ H x y v u Q I rx ry h hs
 obtain⟨rfl,k,d,rfl,hg,q⟩:=h
 cases rx
 obtain⟨t,rfl⟩:=ry
 obtain⟨es,n,lk,hL⟩:=kd.ex
 obtain⟨z,hz,hc⟩:=NL hL hg
 obtain⟨zv,rz,iz⟩:=JG hc
 have ho:=I.kIn _ _ lk
 have hm:s.heap.MapOf (strKind X.prog X.w) a (fun k=>findBy Value.isStrOf es k):=⟨_,es,n,ho,⟨rfl,rfl,rfl⟩,rfl,fun e he=>Hv hL e (aw.mpr he),fun _=>rfl⟩
 refine tail_any hm.typeIs PySem.F.slot_dict_getitem.lookup (wpAny_getItem_of (k:=k) (key:=.str k t) (by show Value.isStrOf k (.str k t)=true;rw[A2];exact decide_eq_true rfl) hm (v:=z) ?_ ⟨zv,H,I.tok _,rz,q zv iz⟩) hs
 show findBy Value.isStrOf es k=some z
 unfold findBy
 rw[<- bU]
 exact hz
def dKd(tb:List (Str×PyData))(f:DX)(τ:DS):Option (PyData×DS):=(f τ).bind fun p=>match p.1 with
 |.str k=>(Cc tb k).map fun d=>(d,p.2)
 |_=>none
theorem Z5{fa:Bool}{a:Addr}{tb:List (Str×PyData)}{t:TE}{f:DX}(h:E K t fa f):E K (tOp (rKd K a tb) (tC (.ref a)) t) false (dKd tb f):=by
 refine⟨fun τ d t7 e=>?_,?_⟩
 ·unfold dKd at e
  obtain⟨⟨x,t5⟩,e1,e⟩:=oB e
  dsimp only at e
  split at e
  ·obtain⟨z,e3,e⟩:=oM e
   cases e
   exact h.like _ _ _ e1
  ·cases e
 intro S M τ σ H Q d t7 r e q
 unfold dKd at e
 obtain⟨⟨x,t5⟩,e1,e⟩:=oB e
 dsimp only at e
 split at e
 ·rename_i k
  obtain⟨z,e3,e⟩:=oM e
  cases e
  refine h.weak.run S M τ σ H _ _ _ r e1 fun v H1 r1 c1 i1=>?_
  cases (show v = .str k from i1)
  exact⟨rfl,k,_,rfl,e3,fun v hv=>q v H1 r1 c1 (hv _)⟩
 ·cases e
end DL
end
section
namespace DL
open PySem L2
variable {K:KW}
section
variable {S S':Addr->Prop} {H:Hp}
mutual
theorem Dp.is(k:TSm (hid S H) (hid S' H)):∀{d:PyData} {v:V} {F:List Addr},(∀a∈F,¬S' a)->Dp K S H d v F->Is K (hid S' H) d v
 |.none,_,_,_,h=>h.1
 |.bool _,_,_,_,h=>h.1
 |.int _,_,_,_,h=>h.1
 |.str _,_,_,_,h=>h.1
 |.tuple _,_,_,f,⟨a,vs,e,h,l⟩=>⟨a,vs,e,k.tup h,DpL.is k f l⟩
 |.list _,_,_,f,⟨a,vs,G,e,e2,h,l⟩=>⟨a,vs,e,hid_iff.mpr ⟨f a (by rw[e2];exact L' ..),h⟩,DpL.is k (fun b hb=>f b (by rw[e2];exact O' _ hb)) l⟩
theorem DpL.is(k:TSm (hid S H) (hid S' H)):∀{ds:List PyData} {vs:List V} {F:List Addr},(∀a∈F,¬S' a)->DpL K S H ds vs F->IsL K (hid S' H) ds vs
 |[],_,_,_,h=>h.1
 |_::_,_,_,f,⟨x,xs,F1,F2,e,e2,h,l⟩=>⟨x,xs,e,Dp.is k (fun b hb=>f b (by rw[e2];exact bM _ hb)) h,DpL.is k (fun b hb=>f b (by rw[e2];exact aQ _ hb)) l⟩
end
mutual
theorem Dp.lst:∀{d:PyData} {v:V} {F:List Addr},Dp K S H d v F->∀a∈F,∃vs,H a=some (.lst vs)
 |.none,_,_,h,a,q=>by rw[h.2]at q;cases q
 |.bool _,_,_,h,a,q=>by rw[h.2]at q;cases q
 |.int _,_,_,h,a,q=>by rw[h.2]at q;cases q
 |.str _,_,_,h,a,q=>by rw[h.2]at q;cases q
 |.tuple _,_,_,⟨_,vs,e,h,l⟩,a,q=>DpL.lst l a q
 |.list _,_,_,⟨b,vs,G,e,e2,h,l⟩,a,q=>by
  rw[e2]at q
  rcases Z'.mp q with rfl|q
  ·exact⟨vs,h⟩
  ·exact DpL.lst l a q
theorem DpL.lst:∀{ds:List PyData} {vs:List V} {F:List Addr},DpL K S H ds vs F->∀a∈F,∃vs,H a=some (.lst vs)
 |[],_,_,h,a,q=>by rw[h.2]at q;cases q
 |_::_,_,_,⟨x,xs,F1,F2,e,e2,h,l⟩,a,q=>by
  rw[e2]at q
  rcases au.mp q with q|q
  ·exact Dp.lst h a q
  ·exact DpL.lst l a q
end
mutual
theorem Dp.fix:∀{d:PyData} {v:V},Cb d=true->Is K (hid S H) d v->Dp K S H d v []
 |.none,_,_,h=>⟨h,rfl⟩
 |.bool _,_,_,h=>⟨h,rfl⟩
 |.int _,_,_,h=>⟨h,rfl⟩
 |.str _,_,_,h=>⟨h,rfl⟩
 |.tuple _,_,f,⟨a,vs,e,h,l⟩=>⟨a,vs,e,h,DpL.fix f l⟩
 |.list _,_,f,_=>absurd f aP
 |.dict _,_,f,_=>absurd f aP
theorem DpL.fix:∀{ds:List PyData} {vs:List V},fixDs ds=true->IsL K (hid S H) ds vs->DpL K S H ds vs []
 |[],_,_,h=>⟨h,rfl⟩
 |_::_,_,f,⟨x,xs,e,h,l⟩=>⟨x,xs,[],[],e,rfl,Dp.fix (by rw[fixDs,K']at f;exact f.1) h,DpL.fix (by rw[fixDs,K']at f;exact f.2) l⟩
end
mutual
theorem Dp.unfix:∀{d:PyData} {v:V} {F:List Addr},Cb d=true->Dp K S H d v F->F=[]/\Is K (hid S H) d v
 |.none,_,_,_,h=>⟨h.2,h.1⟩
 |.bool _,_,_,_,h=>⟨h.2,h.1⟩
 |.int _,_,_,_,h=>⟨h.2,h.1⟩
 |.str _,_,_,_,h=>⟨h.2,h.1⟩
 |.tuple _,_,_,f,⟨a,vs,e,h,l⟩=>let ⟨z,y⟩:=DpL.unfix f l;⟨z,a,vs,e,h,y⟩
 |.list _,_,_,f,_=>absurd f aP
 |.dict _,_,_,f,_=>absurd f aP
theorem DpL.unfix:∀{ds:List PyData} {vs:List V} {F:List Addr},fixDs ds=true->DpL K S H ds vs F->F=[]/\IsL K (hid S H) ds vs
 |[],_,_,_,h=>⟨h.2,h.1⟩
 |_::_,_,_,f,⟨x,xs,F1,F2,e,e2,h,l⟩=>by
  rw[fixDs,K']at f
  obtain⟨rfl,y1⟩:=Dp.unfix f.1 h
  obtain⟨rfl,y2⟩:=DpL.unfix f.2 l
  exact⟨e2,x,xs,e,y1,y2⟩
end
end
def mem(F:List Addr)(b:Addr):Prop:=b∈F
variable {K:KW}
theorem RF.newG{F:Frm}{S M:Addr->Prop}{τ:DS}{σ:St}{H:Hp}(f:RF K F S M τ σ H){X:List Addr}{i:Nat}{d:PyData}{v:V}(hi:i<τ.length)(hnp:F.ar.length<=i)(hS:∀a∈X,S a)(hM:∀a∈X,¬M a)(hF:∀a∈X,F.H a=none)(hn:X.Nodup)
  (h:DpT K S H d v X):RF K F S (fun b=>M b\/b∈X) (τ.set i (some (.g d))) (σ.set i (some v)) H:=by
 have hs:i<σ.length:=by rw[f.r.len];exact hi
 have ne:∀j,j≠i->(τ.set i (some (.g d)))[j]?=τ[j]?:=fun j hj=>Y' (Ne.symm hj)
 have ne':∀j,j≠i->(σ.set i (some v))[j]?=σ[j]?:=fun j hj=>Y' (Ne.symm hj)
 have se:(τ.set i (some (.g d)))[i]?=some (some (.g d)):=U' hi
 have se':(σ.set i (some v))[i]?=some (some v):=U' hs
 have own:∀(j:Nat) (ys:Ow),(τ.set i (some (.g d)))[j]?=some (some ys.L)->j≠i/\τ[j]?=some (some ys.L):=fun j ys e=>by
  by_cases hj:j=i
  ·subst hj;rw[se]at e;exact absurd (A' (A' e)).symm Ow.not_g
  ·rw[ne j hj]at e;exact⟨hj,e⟩
 have jn:∀{j:Nat} {v:V},F.ar[j]?=some (some v)->j≠i:=fun {j v} e z=>by
  subst z
  have:=(F'.mp e).1
  omega
 refine⟨⟨by rw[aU,aU];exact f.r.len,fun j x e=>?_,fun j ys e=>?_,fun j ys e=>?_,fun j1 j2 ys zs b e1 e2 f1 f2=>?_,fun b h=>h.elim (f.r.sub b) (hS b),f.r.ex,?_⟩,f.sS,f.old,fun b h=>h.elim (f.new b) fun z=>.inr (hF b z),fun b h=>.inl (f.fm b h),f.fs,f.fsub,f.snew,fun j v e=>?_,fun j v e=>?_,f.fma⟩
 ·by_cases hj:j=i
  ·subst hj;rw[se]at e;cases e
  ·rw[ne j hj]at e
   rw[ne' j hj]
   exact f.r.dat j x e
 ·obtain⟨hj,e⟩:=own j ys e
  rw[ne' j hj]
  obtain⟨b,us,h1,h2,h3,h4⟩:=f.r.mt j ys e
  exact⟨b,us,h1,.inl h2,h3,h4⟩
 ·by_cases hj:j=i
  ·subst hj;rw[se]at e;cases e
  ·rw[ne j hj]at e
   rw[ne' j hj]
   exact f.r.cst j ys e
 ·obtain⟨h1,e1⟩:=own _ _ e1
  obtain⟨h2,e2⟩:=own _ _ e2
  rw[ne' j1 h1]at f1
  rw[ne' j2 h2]at f2
  exact f.r.inj _ _ _ _ b e1 e2 f1 f2
 ·obtain⟨φ,g⟩:=f.r.gr
  refine⟨fun j=>if j=i then X else φ j,fun j x e=>?_⟩
  by_cases hj:j=i
  ·subst hj
   rw[se]at e;cases e
   simp only[if_true]
   refine⟨⟨v,se',h⟩,hn,fun a ha=>.inr ha,fun j' o a z1 z2 ha=>?_,fun j' x' hj' z a ha=>?_⟩
   ·obtain⟨q1,q2⟩:=own j' o z1
    rw[ne' j' q1]at z2
    obtain⟨b,us,h1,h2,_⟩:=f.r.mt j' o q2
    rw[z2]at h1;cases h1
    exact hM a ha h2
   ·rw[if_neg hj']
    intro hq
    rw[ne j' hj']at z
    obtain⟨_,_,q4,_,_⟩:=g j' x' z
    exact hM a ha (q4 a hq)
  ·dsimp only
   simp only[if_neg hj]
   rw[ne j hj]at e
   obtain⟨⟨v',q1,q2⟩,q3,q4,q5,q6⟩:=g j x e
   refine⟨⟨v',by rw[ne' j hj];exact q1,q2⟩,q3,fun a ha=>.inl (q4 a ha),fun j' o a z1 z2=>?_,fun j' x' hj' z a ha=>?_⟩
   ·obtain⟨w1,w2⟩:=own j' o z1
    rw[ne' j' w1]at z2
    exact q5 j' o a w2 z2
   ·by_cases hj2:j'=i
    ·rw[if_pos hj2];exact fun hq=>hM a hq (q4 a ha)
    ·rw[if_neg hj2]
     rw[ne j' hj2]at z
     exact q6 j' x' hj' z a ha
 ·rw[ne' j (jn e)]
  exact f.par j v e
 ·rw[ne j (jn e)]
  exact f.pm j v e
variable {np:Nat}
variable {K:KW}
variable {K:KW}
variable {K:KW}
def Fj(f:DX)(lo hi:DO)(τ:DS):Option (PyData×DS):=(f τ).bind fun p=>(lo p.2).bind fun l=>(hi l.2).bind fun u=>match p.1 with
 |.tuple xs=>if HT.sIx xs.length 0 l.1=0/\HT.sIx xs.length xs.length u.1=xs.length then none else some (.tuple (Mj xs l.1 u.1),u.2)
 |_=>none
theorem YQ{fr:Bool}{te:TE}{tl th:TO}{f:DX}{lo hi:DO}(h:E K te fr f)(hl:OO K tl lo)(hh:OO K th hi):E K (tSl (UD K) te tl th) false (Fj f lo hi):=by
 refine⟨fun τ d t7 e=>?_,?_⟩
 ·unfold Fj at e
  obtain⟨⟨x,t5⟩,e1,e⟩:=oB e
  obtain⟨⟨l,t9⟩,e2,e⟩:=oB e
  obtain⟨⟨u,l7⟩,e3,e⟩:=oB e
  dsimp only at e
  split at e
  ·split at e
   ·cases e
   ·cases e;exact((h.like _ _ _ e1).trans (hl.like _ _ _ e2)).trans (hh.like _ _ _ e3)
  ·cases e
 intro S M τ σ H Q d t7 r e q
 unfold Fj at e
 obtain⟨⟨x,t5⟩,e1,e⟩:=oB e
 obtain⟨⟨l,t9⟩,e2,e⟩:=oB e
 obtain⟨⟨u,l7⟩,e3,e⟩:=oB e
 dsimp only at e e2 e3
 cases x with
 |tuple xs =>
  dsimp only at e
  split at e
  ·cases e
  ·rename_i hw
   cases e
   refine h.run S M τ σ H _ _ _ r e1 fun v1 H1 r1 c1 i1=>?_
   refine hl.run S M t5 σ H1 _ _ _ r1 e2 fun H2 r2 c2=>?_
   refine hh.run S M t9 σ H2 _ _ _ r2 e3 fun H3 r3 c3=>?_
   have i1':Is K (hid S H3) (.tuple xs) v1:=((r.isr i1).mono (c2.keep r1.sub).same).mono (c3.keep r2.sub).same
   obtain⟨a,vs,rfl,ha,la⟩:=i1'
   refine⟨a,vs,rfl,Same.tup same_hid ha,by rw[la.length];exact hw,fun p hp=>?_⟩
   have s:=Ay hp (HO.tup (Jb vs l u))
   exact q _ _ (r3.same s) (((c1.trans c2).trans c3).trans (.of s)) ⟨p,_,rfl,SqT.of (hid_iff.mpr ⟨r3.fresh hp,Ac⟩),(NR la).mono (Same.keep s).same⟩
 |_=>cases e
end DL
end
section
namespace DL
open PySem L2 PyProof.Rows
def Hk:List (Str×V)->Str->Option V
 |[],_=>none
 |t::r,k=>if t.1=k then some t.2 else Hk r k
def IW(ts:List (Str×V))(k:Str)(v:V):List (Str×V):=if ts.any (fun t=>decide (t.1=k))=true then ts.map (fun t=>if t.1=k then (t.1,v) else t) else ts++[(k,v)]
theorem Iu{k:Str}:∀{ts:List (Str×V)} {vs:List (Key×Value)},KV (txK ts) vs->(match Hk ts k with
  |some v=>∃u,valueAt vs (Sum.inr k)=some u/\RelV v u
  |none=>valueAt vs (Sum.inr k)=none)
 |[],vs,h=>by cases (show Paired _ [] vs from h);rfl
 |t::ts,vs,h=>by
  cases (show Paired _ ((Sum.inr t.1,t.2)::txK ts) vs from h) with
  |@cons _ q _ qs h1 h2 =>
   obtain⟨e1,e2⟩:=h1
   have ih:=Iu (k:=k) (ts:=ts) h2
   unfold Hk
   by_cases e:t.1=k
   ·rw[if_pos e]
    have e':q.1=Sum.inr k:=by rw[<- e1,e]
    exact⟨q.2,by simp[valueAt,List.find?_cons,e'],e2⟩
   ·rw[if_neg e]
    have e':¬q.1=Sum.inr k:=fun z=>e (by have:=e1.trans z;exact cW this)
    have:valueAt (q::qs) (Sum.inr k)=valueAt qs (Sum.inr k):=by simp[valueAt,List.find?_cons,e']
    rw[this];exact ih
theorem Rp{k:Str}{ts:List (Str×V)}{vs:List (Key×Value)}(h:KV (txK ts) vs):(valueAt vs (Sum.inr k)).isSome=(Hk ts k).isSome:=by
 have g:=Iu (k:=k) h
 cases e:Hk ts k with
 |none=>rw[e]at g;rw[show valueAt vs (Sum.inr k)=none from g];rfl
 |some v=>rw[e]at g;obtain⟨u,hu,_⟩:=g;rw[hu];rfl
theorem ZL{k:Str}:∀{ts:List (Str×V)} {vs:List (Key×Value)},KV (txK ts) vs->(vs.any fun kv=>decide (kv.1=Sum.inr k))=ts.any fun t=>decide (t.1=k)
 |[],vs,h=>by cases (show Paired _ [] vs from h);rfl
 |t::ts,vs,h=>by
  cases (show Paired _ ((Sum.inr t.1,t.2)::txK ts) vs from h) with
  |@cons _ q _ qs h1 h2 =>
   rw[cM,cM,ZL (k:=k) (ts:=ts) h2,<- h1.1]
   congr 1
   by_cases e:t.1=k
   ·rw[e];simp
   ·rw[decide_eq_false e,decide_eq_false (fun z=>e (cW z))]
theorem X0{k:Str}{v:V}{u:Value}(hv:RelV v u):∀{ts:List (Str×V)} {vs:List (Key×Value)},KV (txK ts) vs->KV (txK (ts.map fun t=>if t.1=k then (t.1,v) else t)) (vs.map fun kv=>if kv.1=Sum.inr k then (kv.1,u) else kv)
 |[],vs,h=>by cases (show Paired _ [] vs from h);exact .nil
 |t::ts,vs,h=>by
  cases (show Paired _ ((Sum.inr t.1,t.2)::txK ts) vs from h) with
  |@cons _ q _ qs h1 h2 =>
   refine .cons ?_ (X0 hv (ts:=ts) h2)
   obtain⟨e1,e2⟩:=h1
   dsimp only at e1 e2 ⊢
   by_cases e:t.1=k
   ·rw[if_pos e,if_pos (by rw[<- e1,e])];exact⟨e1,hv⟩
   ·rw[if_neg e,if_neg (fun z=>e (cW (e1.trans z)))];exact⟨e1,e2⟩
theorem ZI{k:Str}{v:V}{u:Value}(hv:RelV v u):∀{ts:List (Str×V)} {vs:List (Key×Value)},KV (txK ts) vs->KV (txK (ts++[(k,v)])) (vs++[(Sum.inr k,u)])
 |[],vs,h=>by cases (show Paired _ [] vs from h);exact .cons ⟨rfl,hv⟩ .nil
 |t::ts,vs,h=>by
  cases (show Paired _ ((Sum.inr t.1,t.2)::txK ts) vs from h) with
  |@cons _ q _ qs h1 h2=>exact .cons h1 (ZI hv (ts:=ts) h2)
theorem PM{k:Str}{v:V}{u:Value}{ts:List (Str×V)}{vs:List (Key×Value)}(hv:RelV v u)(h:KV (txK ts) vs):KV (txK (IW ts k v)) (stored vs (Sum.inr k) u):=by
 unfold IW stored
 rw[ZL h]
 split
 ·exact X0 hv h
 ·exact ZI hv h
theorem Zr{ts:List (Str×V)}{vs:List (Key×Value)}(h:KV (txK ts) vs):ts.length=vs.length:=by
 have:=Paired.length h
 unfold txK at this
 rw[B']at this
 exact this
theorem PN(ts:List (Str×V))(k:Str)(v:V):(IW ts k v).length<=ts.length+1:=by
 unfold IW
 split
 ·rw[B'];omega
 ·rw[T'];exact J' _
section
variable {X:Cx} {pins:List (Addr×Obj)} {σ:L2.St} {H:Hp} {s:Shared}
theorem QQ(I:Inv X pins σ H s){a:Addr}{ts:List (Str×V)}(h:H a=some (.dK (txK ts))):ts.length<=sizeLine/\(a==sysModules)=false/\∃vs,KV (txK ts) vs/\s.heap.DictOf (GV X.prog X.w) a vs:=by
 obtain⟨h1,h2,vs,h3,h4⟩:=(show ObjOk X.prog X.w H s.heap a (.dK (txK ts)) from I.hok a _ h)
 refine⟨?_,h2,vs,h3,h4⟩
 unfold txK at h1
 rw[B']at h1
 exact h1
end
theorem Kg{P:Program}{w:World}{k:Str}{u:Value}(h:RelV (.str k) u):(GV P w).is (Sum.inr k) u=true:=by
 obtain⟨t,rfl⟩:=h
 exact La P w k t
def XO:R2:=fun x y H Q=>∃a ts k v,x = .ref a/\y = .str k/\H a=some (.dK (txK ts))/\Hk ts k=some v/\Q v H
theorem Zu{X:Cx}:IxR X XO:=by
 intro value slice pins s σ H x y v u Q I rx ry h hs
 obtain⟨a,ts,k,z,rfl,rfl,hq,e,q⟩:=h
 cases rx
 obtain⟨h1,h2,vs,pr,dd⟩:=QQ I hq
 have g:=Iu (k:=k) pr
 rw[e]at g
 obtain⟨p,hp,rp⟩:=g
 exact tail_any dd.mapOf.typeIs PySem.F.slot_dict_getitem.lookup (wpAny_getItem_of (Kg ry) dd.mapOf hp ⟨z,H,I.tok _,rp,q⟩) hs
def XR(neg:Bool):R2:=fun y x H Q=>∃a ts k,x = .ref a/\y = .str k/\H a=some (.dK (txK ts))/\Q (.bl (neg != (Hk ts k).isSome)) H
theorem Uj{X:Cx}:OpR X (compareOp .In) (XR false):=by
 intro pins s σ H x y v u Q I rx ry h
 obtain⟨a,ts,k,rfl,rfl,hq,q⟩:=h
 cases ry
 obtain⟨h1,h2,vs,pr,dd⟩:=QQ I hq
 refine wpAny_in_of (Kg rx) h2 dd.mapOf ?_
 rw[Rp pr]
 exact⟨.bl _,H,I.tok _,rfl,by simpa using q⟩
def TN:V->V->V->Hp->(Hp->Prop)->Prop:=fun o i v H Q=>∃a ts k,o = .ref a/\i = .str k/\H a=some (.dK (txK ts))/\ts.length<sizeLine/\Q (upd H a (.dK (txK (IW ts k v))))
theorem XH{X:Cx}:Sw X TN:=by
 intro pins s σ H o i v ov iv u Q I ro ri rv h
 obtain⟨a,ts,k,rfl,rfl,hq,hl,q⟩:=h
 cases ro
 obtain⟨h1,h2,vs,pr,dd⟩:=QQ I hq
 have hz:vs.length<=sizeLine:=by rw[<- Zr pr];exact h1
 refine wpAny_setItem_pairs (hsz:=hz) (Kg ri) dd fun h' dd' hs=>⟨_,?_,q⟩
 have he:∃q,h'.get? a=some q:=let ⟨q,_,_,hq,_⟩:=dd';⟨q,hq⟩
 refine I.write (x:=a) (e:=a) (by rw[hq];exact True.intro) (.inl rfl) (fun c z hc e=>(hs.2 c hc).trans e) he ?_
 have hl2:=PN ts k v
 exact⟨by unfold txK;rw[B'];omega,h2,_,PM rv pr,dd'⟩
def TB:TE:=fun _ H Q=>∀p,H p=none->Q (.ref p) (upd H p (.dK (txK [])))
theorem RL{X:Cx}{pos:Pos}:PE X (.Dict [] [] pos) TB:=fun pins s σ H Q I h=>by
 have hb:sysModules<s.heap.objs.size:=Nat.lt_trans (by decide) (show mainGlobals<s.heap.objs.size from(I.mod.glob.keeps I.bk).lt)
 refine wpAny_Dict_empty ⟨.ref s.heap.objs.size,_,I.laid (a:=s.heap.objs.size) (o:=.dK (txK [])) (t':=s.toks) (fun _ _ q=>E' _ q) (J' _) ?_,rfl,h _ (I.hok.fresh (J' _))⟩
 exact⟨bH _,beq_eq_false_iff_ne.mpr (Ne.symm (ai hb)),[],.nil,Heap.DictOf.new s.heap⟩
end DL
end
section
namespace DL
open PySem L2
variable {K:KW}
theorem JK{S M:Addr->Prop}{τ:DS}{σ:St}{H:Hp}(r:R K S M τ σ H){i:Nat}{d:PyData}(hi:τ[i]?=some (some (.g d))) :
  ∃v F,σ[i]?=some (some v)/\DpT K S H d v F/\(∀a∈F,M a)/\∀(H':Hp) (d':PyData),Chg (fun b=>b∈F) H H'->(∀a∈F,∃o,H' a=some o)->DpT K S H' d' v F->R K S M (τ.set i (some (.g d'))) σ H':=by
 obtain⟨φ,g⟩:=r.gr
 obtain⟨⟨v,g1,g2⟩,g3,g4,g5,g6⟩:=g i d hi
 refine⟨v,φ i,g1,g2,g4,fun H' d' c ho hd=>?_⟩
 have hlt:i<τ.length:=(F'.mp hi).1
 have ne:∀j,j≠i->(τ.set i (some (.g d')))[j]?=τ[j]?:=fun j hj=>Y' (Ne.symm hj)
 have se:(τ.set i (some (.g d')))[i]?=some (some (.g d')):=U' hlt
 have k:Keep S H S H':=c.keep fun b hb=>r.sub b (g4 b hb)
 have own:∀(j:Nat) (ys:Ow),(τ.set i (some (.g d')))[j]?=some (some ys.L)->j≠i/\τ[j]?=some (some ys.L):=fun j ys e=>by
  by_cases hj:j=i
  ·subst hj;rw[se]at e;exact absurd (A' (A' e)).symm Ow.not_g
  ·rw[ne j hj]at e;exact⟨hj,e⟩
 refine⟨by rw[aU];exact r.len,fun j x e=>?_,fun j ys e=>?_,fun j ys e=>?_,fun j1 j2 ys zs b e1 e2 f1 f2=>r.inj _ _ _ _ b (own _ _ e1).2 (own _ _ e2).2 f1 f2,r.sub,fun a h=>?_,?_⟩
 ·by_cases hj:j=i
  ·subst hj;rw[se]at e;cases e
  ·rw[ne j hj]at e
   obtain⟨u,h1,h2⟩:=r.dat j x e
   exact⟨u,h1,h2.mono k.same⟩
 ·obtain⟨hj,e⟩:=own j ys e
  obtain⟨b,us,h1,h2,h3,h4⟩:=r.mt j ys e
  exact⟨b,us,h1,h2,c b _ (g5 j ys b e h1) h3,h4.mono k.same⟩
 ·by_cases hj:j=i
  ·subst hj;rw[se]at e;cases e
  ·rw[ne j hj]at e
   obtain⟨b,us,h1,h2,h3⟩:=r.cst j ys e
   exact⟨b,us,h1,k.same.seq h2,h3.mono k.same⟩
 ·by_cases hb:a∈φ i
  ·exact ho a hb
  ·obtain⟨o,e⟩:=r.ex a h
   exact⟨o,c a o hb e⟩
 ·refine⟨φ,fun j x e=>?_⟩
  by_cases hj:j=i
  ·subst hj
   rw[se]at e;cases e
   refine⟨⟨v,g1,hd⟩,g3,g4,fun j' o a z1 z2=>g5 j' o a (own j' o z1).2 z2,fun j' x' hj' z=>?_⟩
   rw[ne j' hj']at z
   exact g6 j' x' hj' z
  ·rw[ne j hj]at e
   obtain⟨⟨v',q1,q2⟩,q3,q4,q5,q6⟩:=g j x e
   have on:∀a∈φ j,H' a=H a:=fun a ha=>by
    obtain⟨o,e'⟩:=r.ex a (r.sub a (q4 a ha))
    rw[e'];exact c a o (fun z=>q6 i d (Ne.symm hj) hi a ha z) e'
   refine⟨⟨v',q1,q2.mono (tsS k.same) on⟩,q3,q4,fun j' o a z1 z2=>q5 j' o a (own j' o z1).2 z2,fun j' x' hj' z=>?_⟩
   by_cases hj2:j'=i
   ·subst hj2;exact q6 j' d hj' hi
   ·rw[ne j' hj2]at z;exact q6 j' x' hj' z
def NY(np i:Nat)(τ:DS):Option Out:=if np<=i/\i<τ.length then some (.nx (τ.set i (some (.g (.dict []))))) else none
theorem Wm{np:Nat}{fr:Bool}{i:Nat}:B K np (JM TB (HX i)) fr (NY np i):=by
 intro F S M τ σ H D out hnp f ee q
 unfold NY at ee
 split at ee
 ·rename_i hi
  cases ee
  intro a ha
  have s:=Ay ha (HO.dK (txK []))
  have f1:=f.hide s ha ⟨_,Ac⟩
  have hM:¬M a:=fun z=>f.r.fresh ha (f.r.sub a z)
  refine q _ _ _ _ (f1.newG (X:=[a]) hi.2 (W' hnp hi.1) (fun b hb=>.inr (aT.mp hb)) (fun b hb=>by rw[aT.mp hb];exact hM) (fun b hb=>by rw[aT.mp hb];exact f.hnone ha) (by simp) ⟨a,[],rfl,rfl,Ac,rfl⟩) fun b o hn e=>⟨fun z=>z.elim hn (Ai e ha),s b o e⟩
 ·cases ee
def Fd:List (PyData×PyData)->Str->Option PyData
 |[],_=>none
 |(.str x,d)::r,k=>if x=k then some d else Fd r k
 |_::r,k=>Fd r k
theorem Kn{H:Hp}{k:Str}:∀{kvs:List (PyData×PyData)} {ts:List (Str×V)},IsX K H kvs ts->(match Fd kvs k with
  |some d=>∃v,Hk ts k=some v/\Is K H d v/\Cb d=true
  |none=>Hk ts k=none)
 |[],_,h=>by rw[show _=[] from h];rfl
 |(_,d)::r,_,⟨t,tr,e,ek,f,h,l⟩=>by
  subst e ek
  have ih:=Kn (k:=k) l
  unfold Fd Hk
  by_cases e:t.1=k
  ·rw[if_pos e,if_pos e];exact⟨t.2,rfl,h,f⟩
  ·rw[if_neg e,if_neg e];exact ih
def Lp(i:Nat)(f:DX)(τ:DS):Option (PyData×DS):=match τ[i]? with
 |some (some (.g (.dict _)))=>(f τ).bind fun p=>match p.1,p.2[i]? with
  |.str k,some (some (.g (.dict kvs)))=>(Fd kvs k).map fun d=>(d,p.2)
  |_,_=>none
 |_=>none
theorem YX{i:Nat}{fr:Bool}{tb:TE}{f:DX}(h:E K tb fr f):E K (tOp XO (FL i) tb) false (Lp i f):=by
 refine⟨fun τ d t7 e=>?_,?_⟩
 ·unfold Lp at e
  split at e
  ·obtain⟨⟨x,t5⟩,e1,e⟩:=oB e
   dsimp only at e
   split at e
   ·obtain⟨z,e3,e⟩:=oM e
    cases e;exact h.like _ _ _ e1
   ·cases e
  ·cases e
 intro S M τ σ H Q d t7 r e q
 unfold Lp at e
 split at e
 ·rename_i kv0 h0
  obtain⟨⟨x,t5⟩,e1,e⟩:=oB e
  dsimp only at e
  split at e
  ·rename_i k kvs hk
   obtain⟨z,e3,e⟩:=oM e
   cases e
   obtain⟨v0,F0,hv0,_⟩:=JK r h0
   refine⟨v0,hv0,h.weak.run S M τ σ H _ _ _ r e1 fun u H1 r1 c1 i1=>?_⟩
   obtain⟨v1,F1,hv1,⟨a,ts,ea,_,hH,l⟩,_⟩:=JK r1 hk
   rw[hv0]at hv1;cases hv1
   subst ea
   have g:=Kn (k:=k) l
   rw[e3]at g
   obtain⟨v,gv,iv,_⟩:=g
   exact⟨a,ts,k,v,rfl,i1,hH,gv,q v H1 r1 c1 iv⟩
  ·cases e
 ·cases e
def Lq(neg:Bool)(f:DX)(i:Nat)(τ:DS):Option (PyData×DS):=(f τ).bind fun p=>match p.1,p.2[i]? with
 |.str k,some (some (.g (.dict kvs)))=>some (.bool (neg != (Fd kvs k).isSome),p.2)
 |_,_=>none
theorem Ya{neg:Bool}{i:Nat}{fr:Bool}{ta:TE}{f:DX}(h:E K ta fr f):E K (tOp (XR neg) ta (FL i)) false (Lq neg f i):=by
 refine⟨fun τ d t7 e=>?_,?_⟩
 ·unfold Lq at e
  obtain⟨⟨x,t5⟩,e1,e⟩:=oB e
  dsimp only at e
  split at e
  ·cases e;exact h.like _ _ _ e1
  ·cases e
 intro S M τ σ H Q d t7 r e q
 unfold Lq at e
 obtain⟨⟨x,t5⟩,e1,e⟩:=oB e
 dsimp only at e
 split at e
 ·rename_i k kvs hk
  cases e
  refine h.weak.run S M τ σ H _ _ _ r e1 fun u H1 r1 c1 i1=>?_
  obtain⟨v1,F1,hv1,⟨a,ts,ea,_,hH,l⟩,_⟩:=JK r1 hk
  subst ea
  have g:=Kn (k:=k) l
  have eq:(Hk ts k).isSome=(Fd kvs k).isSome:=by
   cases z:Fd kvs k with
   |none=>rw[z]at g;rw[show Hk ts k=none from g];rfl
   |some y=>rw[z]at g;obtain⟨v,gv,_⟩:=g;rw[gv];rfl
  refine⟨.ref a,hv1,a,ts,k,rfl,i1,hH,?_⟩
  rw[eq]
  exact q _ H1 r1 c1 rfl
 ·cases e
def ME(kvs:List (PyData×PyData))(k:Str)(d:PyData):List (PyData×PyData):=if (Fd kvs k).isSome=true then kvs.map (fun p=>match p with
  |(.str x,y)=>if x=k then (.str x,d) else (.str x,y)
  |p=>p) else kvs++[(.str k,d)]
theorem ZM{H:Hp}{k:Str}:∀{kvs:List (PyData×PyData)} {ts:List (Str×V)},IsX K H kvs ts->(ts.any fun t=>decide (t.1=k))=(Fd kvs k).isSome
 |[],_,h=>by rw[show _=[] from h];rfl
 |(_,d)::r,_,⟨t,tr,e,ek,f,h,l⟩=>by
  subst e ek
  unfold Fd
  rw[cM,ZM (k:=k) l]
  by_cases e:t.1=k
  ·rw[if_pos e,decide_eq_true e];rfl
  ·rw[if_neg e,decide_eq_false e,Bool.false_or]
theorem X1{H:Hp}{k:Str}{d:PyData}{v:V}(fd:Cb d=true)(hv:Is K H d v):∀{kvs:List (PyData×PyData)} {ts:List (Str×V)},IsX K H kvs ts->IsX K H (kvs.map fun p=>match p with
  |(.str x,y)=>if x=k then (.str x,d) else (.str x,y)
  |p=>p) (ts.map fun t=>if t.1=k then (t.1,v) else t)
 |[],_,h=>by rw[show _=[] from h];rfl
 |(_,y)::r,_,⟨t,tr,e,ek,f,h,l⟩=>by
  subst e ek
  have ih:=X1 (k:=k) fd hv l
  rw[X',X']
  dsimp only
  by_cases e:t.1=k
  ·rw[if_pos e,if_pos e];exact⟨_,_,rfl,rfl,fd,hv,ih⟩
  ·rw[if_neg e,if_neg e];exact⟨_,_,rfl,rfl,f,h,ih⟩
theorem ZJ{H:Hp}{k:Str}{d:PyData}{v:V}(fd:Cb d=true)(hv:Is K H d v):∀{kvs:List (PyData×PyData)} {ts:List (Str×V)},IsX K H kvs ts->IsX K H (kvs++[(.str k,d)]) (ts++[(k,v)])
 |[],_,h=>by rw[show _=[] from h];exact⟨_,_,rfl,rfl,fd,hv,rfl⟩
 |(_,y)::r,_,⟨t,tr,e,ek,f,h,l⟩=>by
  subst e ek
  exact⟨_,_,rfl,rfl,f,h,ZJ fd hv l⟩
theorem Q9{H:Hp}{k:Str}{d:PyData}{v:V}{kvs:List (PyData×PyData)}{ts:List (Str×V)}(fd:Cb d=true)(hv:Is K H d v)(h:IsX K H kvs ts):IsX K H (ME kvs k d) (IW ts k v):=by
 unfold ME IW
 rw[ZM h]
 split
 ·exact X1 fd hv h
 ·exact ZJ fd hv h
theorem NG{H:Hp}:∀{kvs:List (PyData×PyData)} {ts:List (Str×V)},IsX K H kvs ts->ts.length=kvs.length
 |[],_,h=>by rw[show _=[] from h];rfl
 |(_,_)::_,_,⟨t,tr,e,_,_,_,l⟩=>by subst e;rw[aR,aR,NG l]
def JB(i:Nat)(e k:DX)(τ:DS):Option Out:=(e τ).bind fun p=>match p.2[i]? with
 |some (some (.g (.dict _)))=>(k p.2).bind fun q=>match q.1,q.2[i]? with
  |.str x,some (some (.g (.dict kvs)))=>if Cb p.1=true/\kvs.length<sizeLine then some (.nx (q.2.set i (some (.g (.dict (ME kvs x p.1)))))) else none
  |_,_=>none
 |_=>none
theorem Wl{np:Nat}{fr f1 f2:Bool}{i:Nat}{te tk:TE}{e k:DX}(he:E K te f1 e)(hk:E K tk f2 k):B K np (JM te (Ry (FL i) tk TN)) fr (JB i e k):=by
 intro F S M τ σ H D out hnp f ee q
 unfold JB at ee
 obtain⟨⟨x,t5⟩,e1,ee⟩:=oB ee
 dsimp only at ee
 split at ee
 ·rename_i kv0 h0
  obtain⟨⟨y,t9⟩,e2,ee⟩:=oB ee
  dsimp only at ee
  split at ee
  ·rename_i z kvs h2
   split at ee
   ·rename_i hc
    cases ee
    refine he.weak.run S M τ σ H _ x t5 f.r e1 fun v H1 r1 c1 i1=>?_
    obtain⟨v0,F0,hv0,_⟩:=JK r1 h0
    refine⟨v0,hv0,hk.weak.run S M t5 σ H1 _ _ t9 r1 e2 fun u H2 r2 c2 i2=>?_⟩
    obtain⟨v1,F1,hv1,⟨a,ts,ea,eF,hH,l⟩,hM,go⟩:=JK r2 h2
    rw[hv0]at hv1;cases hv1
    subst ea eF
    have Sa:S a:=r2.sub a (hM a (bR a))
    refine⟨a,ts,z,rfl,i2,hH,by rw[NG l];exact hc.2,?_⟩
    have iv:Is K (hid S H2) x v:=Is.mono (c2.keep r1.sub).same i1
    have c3:Chg (fun b=>b∈[a]) H2 (upd H2 a (.dK (txK (IW ts z v)))):=fun b o hn e=>by rw[An (fun w=>hn (by rw[w];exact bR a))];exact e
    have r3:=go (upd H2 a (.dK (txK (IW ts z v)))) (.dict (ME kvs z x)) c3 (fun b hb=>by rw[aT.mp hb];exact⟨_,Ac⟩) ⟨a,IW ts z v,rfl,rfl,Ac,by rw[Hw Sa];exact Q9 hc.1 iv l⟩
    have c4:Chg M H (upd H2 a (.dK (txK (IW ts z v)))):=(c1.trans c2).trans fun b o hn e=>c3 b o (fun w=>hn (by rw[aT.mp w];exact hM a (bR a))) e
    have lk:=(he.like _ _ _ e1).trans (hk.like _ _ _ e2)
    refine q S M σ _ ⟨r3,f.sS,fun b o e n=>c4 b o (fun w=>(f.new b w).elim n fun y=>by rw[y]at e;cases e) (f.old b o e n),f.new,f.fm,f.fs,f.fsub,f.snew,f.par,fun j v' e=>?_,f.fma⟩ (c4.keep f.r.sub)
    obtain⟨o,ho'⟩:=f.pm j v' e
    obtain⟨o2,h2'⟩:=(lk.own j).mpr ⟨o,ho'⟩
    have hj:j≠i:=fun w=>by subst w;rw[h2]at h2';exact Ow.not_g (A' (A' h2')).symm
    exact⟨o2,by rw[Y' (Ne.symm hj)];exact h2'⟩
   ·cases ee
  ·cases ee
 ·cases ee
end DL
namespace L2
open PySem
theorem Nz{X:Cx}{k:Nat}{ps:List Str}{sp:Sp}{x:Str}{p pos:Pos}(C:Cal X.prog X.w X.K X.mg X.base k x ps sp)(hr:Room k X.A)(hg:Gl X x)(hdb:(x==("__debug__":Str))=false:=by decide):PE X (.Call (.Name x p) [] [] pos) (F6 sp [] E0 Eo):=by
 obtain⟨f,fd,F,b,kp,m⟩:=C.ex
 exact Pl F hr hg m kp b .nil Pm hdb
end L2
end
section
namespace DL
open PySem L2
variable {K:KW}
variable {K:KW} {np:Nat}
variable {K:KW}
end DL
end
section
namespace DL
open PySem L2 PyProof.Rows
variable {K:KW}
def Ds:List PyData->Option (List Bool)
 |[]=>some []
 |.bool b::r=>(Ds r).map (b::·)
 |_::_=>none
theorem Fp:∀{bs:List Bool} {us:List Value},Vals (bs.map V.bl) us->us=bs.map Value.bool
 |[],_,.nil=>rfl
 |b::bs,_,.cons z zs=>by rw[Fp zs,show _=Value.bool b from z];rfl
theorem JH{H:Hp}:∀{ds:List PyData} {vs:List V} {bs:List Bool},IsL K H ds vs->Ds ds=some bs->vs=bs.map V.bl
 |[],_,_,h,e=>by cases e;exact h
 |.bool b::r,_,_,⟨v,us,e1,iv,l⟩,e=>by
  obtain⟨ms,e2,e⟩:=oM e
  subst e
  cases (show v = .bl b from iv)
  rw[e1,JH l e2]
  rfl
 |.none::_,_,_,_,e=>by cases e
 |.int _::_,_,_,_,e=>by cases e
 |.str _::_,_,_,_,e=>by cases e
 |.list _::_,_,_,_,e=>by cases e
 |.tuple _::_,_,_,_,e=>by cases e
 |.dict _::_,_,_,_,e=>by cases e
theorem PB:∀bs:List Bool,(List.range bs.length).map (fun i=>bs.getD i false)=bs:=fun bs=>by
 refine List.ext_getElem (by simp) fun i h1 h2=>?_
 simp[List.getElem_map,h2]
theorem Nt(bs:List Bool):(List.range bs.length).all (fun i=>bs.getD i false)=bs.all id:=by
 have h:=congrArg (fun l:List Bool=>l.all id) (PB bs)
 rw[List.all_map]at h
 exact h
theorem Nr(bs:List Bool):(List.range bs.length).any (fun i=>bs.getD i false)=bs.any id:=by
 have h:=congrArg (fun l:List Bool=>l.any id) (PB bs)
 rw[List.any_map]at h
 exact h
theorem HF{P:Program}{w:World}{A:Around}(bs:List Bool):TruthOf P w A (fun i v=>(bs.map Value.bool).toArray[i]?=some v) (fun i=>bs.getD i false):=by
 intro i v s Q E hP hQ
 rw[List.getElem?_toArray,G']at hP
 obtain⟨b,hb,rfl⟩:=oM hP
 refine wpAny_truthy_bool ?_
 have e:bs.getD i false=b:=by rw[List.getD_eq_getElem?_getD,hb];rfl
 dsimp only at hQ
 rwa [e]at hQ
def NA(K:KW):List V->Hp->VK->Prop:=fun xs H Q=>∃(a:Addr) (bs:List Bool),xs=[.ref a]/\SqL K H a (bs.map V.bl)/\Q (.bl (bs.all id)) H
def M9(K:KW):List V->Hp->VK->Prop:=fun xs H Q=>∃(a:Addr) (bs:List Bool),xs=[.ref a]/\SqL K H a (bs.map V.bl)/\Q (.bl (bs.any id)) H
theorem Iq{P:Program}{w:World}{A:Around}{E:Value->Shared->Prop}{s:Shared}{l:Addr}{items:Array Value}{Q:Value->Shared->Prop}(hl:s.heap.IsList l items)
  (h : ∀ s₂ : Shared, s₂ = { s with heap := s.heap.push { cls := .type "list_iterator", data := .fields #[.ref l, .int 0 0] } } ->
   (s₂.heap.IsListIter s.heap.objs.size l 0/\s₂.heap.IsList l items)->l≠s.heap.objs.size->Q (.ref s.heap.objs.size) s₂) :
  wpAny (model P w) A (pyIter (.ref l)) Q E s:=by
 have hlt:l<s.heap.objs.size:=by obtain⟨_,e,_⟩:=hl;exact P' e
 exact wpAny_pyIter_list hl (h _ rfl ⟨⟨_,R' _ rfl,rfl,rfl⟩,hl.push _⟩ (ai hlt))
theorem OV{X:Cx}(hc:X.calm=true):B8 X (.builtin "all") (NA (EB X)):=by
 intro pins s σ H xs us Q I r h
 obtain⟨a,bs,rfl,hs,q⟩:=h
 obtain⟨u,rfl,ru⟩:=DH r
 cases ru
 obtain⟨its,rv,p,hz⟩:=I.list hs
 cases Fp rv
 have hl:=p.isList
 refine call_all_walk (Iq hl fun s₂ e st hlI=>?_)
 subst e
 refine⟨_,_,_,_,_,_,fun i=>bs.getD i false,rfl,Walks.list (A:=X.A.in1) (I.ok.hd hc) _ a hlI (bs.map Value.bool).toArray,st,HF bs,fun h' tk hk=>?_⟩
 have hn:(bs.map Value.bool).toArray.size=bs.length:=by rw[V',B']
 rw[hn,Nt]
 exact⟨.bl (bs.all id),H,I.kept (old_kept hk),rfl,q⟩
theorem OU{X:Cx}(hc:X.calm=true):B8 X (.builtin "any") (M9 (EB X)):=by
 intro pins s σ H xs us Q I r h
 obtain⟨a,bs,rfl,hs,q⟩:=h
 obtain⟨u,rfl,ru⟩:=DH r
 cases ru
 obtain⟨its,rv,p,hz⟩:=I.list hs
 cases Fp rv
 have hl:=p.isList
 refine call_any_walk (Iq hl fun s₂ e st hlI=>?_)
 subst e
 refine⟨_,_,_,_,_,_,fun i=>bs.getD i false,rfl,Walks.list (A:=X.A.in1) (I.ok.hd hc) _ a hlI (bs.map Value.bool).toArray,st,HF bs,fun h' tk hk=>?_⟩
 have hn:(bs.map Value.bool).toArray.size=bs.length:=by rw[V',B']
 rw[hn,Nr]
 exact⟨.bl (bs.any id),H,I.kept (old_kept hk),rfl,q⟩
def FW:List PyData->Option PyData
 |[.list ds]=>(Ds ds).map fun bs=>.bool (bs.all id)
 |_=>none
def Lm:List PyData->Option PyData
 |[.list ds]=>(Ds ds).map fun bs=>.bool (bs.any id)
 |_=>none
theorem Wg:BR K false (NA K) FW:=by
 intro S H vs ds d Q _ l e q
 unfold FW at e
 split at e
 ·obtain⟨bs,e1,e⟩:=oM e
  cases e
  obtain⟨v,us,rfl,⟨a,ws,rfl,h,lw⟩,iu⟩:=l
  cases (show us=[] from iu)
  rw[JH lw e1]at h
  exact⟨a,bs,rfl,SqL.of (hid_iff.mp h).2,q _ H (fun _ _ e=>e) rfl⟩
 ·cases e
theorem Wf:BR K false (M9 K) Lm:=by
 intro S H vs ds d Q _ l e q
 unfold Lm at e
 split at e
 ·obtain⟨bs,e1,e⟩:=oM e
  cases e
  obtain⟨v,us,rfl,⟨a,ws,rfl,h,lw⟩,iu⟩:=l
  cases (show us=[] from iu)
  rw[JH lw e1]at h
  exact⟨a,bs,rfl,SqL.of (hid_iff.mp h).2,q _ H (fun _ _ e=>e) rfl⟩
 ·cases e
end DL
end
section
namespace L2
open PySem PySem.Spec PyProof.Rows
section
variable {X:Cx} {a b:Expr} {p pos:Pos} {e:Expr} {es:List Expr} {te:TE} {t:TA}
def ZR(X:Cx)(T:Addr->Sp->Prop):Prop:=∀f sp,T f sp->∃k fd ps,FnOk X.prog X.w X.K X.mg X.base CX0 k f fd ps sp/\Room k X.A/\PySem.W.keepIn X.K (.ref f)=true/\Binds X.K fd ps []
def Ot(T:Addr->Sp->Prop)(te:TE)(t:TA):TE:=fun σ H Q=>te σ H fun v H1=>∃f sp,v = .ref f/\T f sp/\F6 sp [] E0 t σ H1 Q
theorem Pj{T:Addr->Sp->Prop}(hT:ZR X T)(hf:PE X (.Subscript a b p) te)(ha:PA X (e::es) t)
  (he:starEach (e::es) X.env=(false,eval e X.env)::starEach es X.env:=by rfl) (hpl:(backTo pos (starEach es X.env)).any (·.1)=false:=by rfl) :
  PE X (.Call (.Subscript a b p) (e::es) [] pos) (Ot T te t):=by
 intro pins s σ H Q I h
 have ev:eval (.Call (.Subscript a b p) (e::es) [] pos) X.env=(do callWith pos (<- eval (.Subscript a b p) X.env) [] (backTo pos (starEach (e::es) X.env)) (backToKw pos (keywordEach [] X.env))):=rfl
 rw[ev]
 refine wpAny_bind (thn (hf pins s σ H _ I h) fun u s1 ⟨x,H1,I1,rx,q⟩=>?_)
 obtain⟨f,sp,rfl,ht,q⟩:=q
 cases (show u=Value.ref f from rx)
 obtain⟨k,fd,ps,F,hr,hk,hb⟩:=hT f sp ht
 refine PySem.W.callWith_K (h₀:=X.base) I1.ok.mod.kin hk (thn (ha pos pins s1 σ H1 _ I1 q) fun us s2 ⟨vs,H2,I2,r,q2⟩=>⟨I2.kIn,?_⟩) he hpl
 exact L9 F hr hb .nil Pm I2 r q2
end
end L2
namespace DL
open PySem L2 PyProof.Rows
variable {K:KW}
def KfL(w:World):List DictEntry->List (Str×Addr)->Prop
 |[],[]=>True
 |e::es,p::tb=>(∃t,e.key = .str p.1 t)/\e.hash=hashStr w p.1/\e.val = .ref p.2/\KfL w es tb
 |_,_=>False
structure KF(K:KW)(w:World)(a:Addr)(tb:List (Str×Addr)):Prop where
 ex:∃es n,K.fr.lookup a=some ⟨.type "dict",none,.dict es n,#[]⟩/\KfL w es.toList tb
def CB{α:Type}:List (Str×α)->Str->Option α
 |[],_=>none
 |p::r,k=>if p.1=k then some p.2 else CB r k
theorem NH{w:World}:∀{es:List DictEntry} {tb:List (Str×Addr)},KfL w es tb->∀e∈es,∃k,Value.isStrOf k e.key=true/\e.hash=hashStr w k
 |[],_,_,e,h=>nomatch h
 |x::es,[],h,_,_=>h.elim
 |x::es,p::tb,⟨⟨t,hk⟩,hh,_,r⟩,e,h=>by
  rcases Z'.mp h with rfl|h
  ·exact⟨p.1,by rw[hk,A2];exact decide_eq_true rfl,hh⟩
  ·exact NH r e h
theorem NJ{w:World}{k:Str}:∀{es:List DictEntry} {tb:List (Str×Addr)},KfL w es tb->(es.find? fun e=>Value.isStrOf k e.key).map (·.val)=(CB tb k).map Value.ref
 |[],[],_=>rfl
 |[],_::_,h=>h.elim
 |_::_,[],h=>h.elim
 |x::es,p::tb,⟨⟨t,hk⟩,hh,hc,r⟩=>by
  unfold CB
  rw[cA,hk,A2]
  by_cases e:p.1=k
  ·rw[if_pos e,decide_eq_true e.symm]
   show some x.val=_
   rw[hc];rfl
  ·rw[if_neg e,decide_eq_false (Ne.symm e)]
   exact NJ r
theorem TX{X:Cx}{pins:List (Addr×Obj)}{σ:L2.St}{H:Hp}{s:Shared}{a:Addr}{tb:List (Str×Addr)}(kf:KF (EB X) X.w a tb)(I:Inv X pins σ H s):∃es:Array DictEntry,s.heap.MapOf (strKind X.prog X.w) a (fun k=>findBy Value.isStrOf es k)/\∀k,findBy Value.isStrOf es k=(CB tb k).map Value.ref:=by
 obtain⟨es,n,lk,hL⟩:=kf.ex
 have ho:=I.kIn _ _ lk
 refine⟨es,⟨_,es,n,ho,⟨rfl,rfl,rfl⟩,rfl,fun e he=>NH hL e (aw.mpr he),fun _=>rfl⟩,fun k=>?_⟩
 unfold findBy
 rw[<- bU]
 exact NJ hL
def rKf(a:Addr)(tb:List (Str×Addr)):R2:=fun x y H Q=>x = .ref a/\∃k f,y = .str k/\CB tb k=some f/\Q (.ref f) H
theorem X7{X:Cx}{a:Addr}{tb:List (Str×Addr)}(kf:KF (EB X) X.w a tb):IxR X (rKf a tb):=by
 intro value slice pins s σ H x y v u Q I rx ry h hs
 obtain⟨rfl,k,f,rfl,hg,q⟩:=h
 cases rx
 obtain⟨t,rfl⟩:=ry
 obtain⟨es,hm,hf⟩:=TX kf I
 exact tail_any hm.typeIs PySem.F.slot_dict_getitem.lookup (wpAny_getItem_of (k:=k) (key:=.str k t) (by show Value.isStrOf k (.str k t)=true;rw[A2];exact decide_eq_true rfl) hm (v:=.ref f) (by rw[hf,hg];rfl) ⟨.ref f,H,I.tok _,rfl,q⟩) hs
def PJ(a:Addr)(tb:List (Str×Addr))(neg:Bool):R2:=fun y x H Q=>x = .ref a/\∃k,y = .str k/\Q (.bl (neg != (CB tb k).isSome)) H
theorem RT{X:Cx}{a:Addr}{tb:List (Str×Addr)}(kf:KF (EB X) X.w a tb)(hs:(a==sysModules)=false):OpR X (compareOp .In) (PJ a tb false):=by
 intro pins s σ H x y v u Q I rx ry h
 obtain⟨rfl,k,rfl,q⟩:=h
 cases ry
 obtain⟨t,rfl⟩:=rx
 obtain⟨es,hm,hf⟩:=TX kf I
 refine wpAny_in_of (k:=k) (by show Value.isStrOf k (.str k t)=true;rw[A2];exact decide_eq_true rfl) hs hm ?_
 rw[hf,bq]
 exact⟨.bl _,H,I.tok _,rfl,by simpa using q⟩
theorem Kh{w:World}{k:Str}:∀{es:List DictEntry} {tb:List (Str×PyData)},KdL K w es tb->(es.find? fun e=>Value.isStrOf k e.key).isSome=(Cc tb k).isSome
 |[],[],_=>rfl
 |[],_::_,h=>h.elim
 |_::_,[],h=>h.elim
 |x::es,p::tb,⟨⟨t,hk⟩,hh,hc,r⟩=>by
  unfold Cc
  rw[cA,hk,A2]
  by_cases e:p.1=k
  ·rw[if_pos e,decide_eq_true e.symm];rfl
  ·rw[if_neg e,decide_eq_false (Ne.symm e)]
   exact Kh r
def PL(a:Addr)(tb:List (Str×PyData)):R2:=fun y x H Q=>x = .ref a/\∃k,y = .str k/\Q (.bl (Cc tb k).isSome) H
theorem RU{X:Cx}{a:Addr}{tb:List (Str×PyData)}(kd:KD (EB X) X.w a tb)(hs:(a==sysModules)=false):OpR X (compareOp .In) (PL a tb):=by
 intro pins s σ H x y v u Q I rx ry h
 obtain⟨rfl,k,rfl,q⟩:=h
 cases ry
 obtain⟨t,rfl⟩:=rx
 obtain⟨es,n,lk,hL⟩:=kd.ex
 have ho:=I.kIn _ _ lk
 have hm:s.heap.MapOf (strKind X.prog X.w) a (fun k=>findBy Value.isStrOf es k):=⟨_,es,n,ho,⟨rfl,rfl,rfl⟩,rfl,fun e he=>Hv hL e (aw.mpr he),fun _=>rfl⟩
 refine wpAny_in_of (k:=k) (by show Value.isStrOf k (.str k t)=true;rw[A2];exact decide_eq_true rfl) hs hm ?_
 have e:(findBy Value.isStrOf es k).isSome=(Cc tb k).isSome:=by
  unfold findBy
  rw[<- bU,bq]
  exact Kh hL
 rw[e]
 exact⟨.bl _,H,I.tok _,rfl,q⟩
def QV(tb:List (Str×PyData))(f:DX)(τ:DS):Option (PyData×DS):=(f τ).bind fun p=>match p.1 with
 |.str k=>some (.bool (Cc tb k).isSome,p.2)
 |_=>none
theorem Yb{fa:Bool}{a:Addr}{tb:List (Str×PyData)}{t:TE}{f:DX}(h:E K t fa f):E K (tOp (PL a tb) t (tC (.ref a))) false (QV tb f):=by
 refine⟨fun τ d t7 e=>?_,?_⟩
 ·unfold QV at e
  obtain⟨⟨x,t5⟩,e1,e⟩:=oB e
  dsimp only at e
  split at e
  ·cases e;exact h.like _ _ _ e1
  ·cases e
 intro S M τ σ H Q d t7 r e q
 unfold QV at e
 obtain⟨⟨x,t5⟩,e1,e⟩:=oB e
 dsimp only at e
 split at e
 ·rename_i k
  cases e
  refine h.weak.run S M τ σ H _ _ _ r e1 fun v H1 r1 c1 i1=>?_
  cases (show v = .str k from i1)
  exact⟨rfl,k,rfl,q _ H1 r1 c1 rfl⟩
 ·cases e
abbrev Mir:=List L->Option (PyData×List L)
inductive TMs (T:Addr->Mir->Prop):List (Str×Addr)->List (Str×Mir)->Prop
 |nil:TMs T [] []
 |cons {k:Str} {f:Addr} {G:Mir} {tb:List (Str×Addr)} {tm:List (Str×Mir)} (h:T f G) (r:TMs T tb tm):TMs T ((k,f)::tb) ((k,G)::tm)
theorem TMs.get{T:Addr->Mir->Prop}{k:Str}{G:Mir}:∀{tb:List (Str×Addr)} {tm:List (Str×Mir)},TMs T tb tm->CB tm k=some G->∃f,CB tb k=some f/\T f G
 |_,_,.nil,h=>by cases h
 |_,_,.cons (k:=k') (f:=f) h r,e=>by
  unfold CB at e ⊢
  by_cases z:k'=k
  ·rw[if_pos z]at e ⊢
   cases e
   exact⟨f,rfl,h⟩
  ·rw[if_neg z]at e ⊢
   exact r.get e
theorem TMs.some{T:Addr->Mir->Prop}{k:Str}:∀{tb:List (Str×Addr)} {tm:List (Str×Mir)},TMs T tb tm->(CB tb k).isSome=(CB tm k).isSome
 |_,_,.nil=>rfl
 |_,_,.cons (k:=k') h r=>by
  unfold CB
  by_cases z:k'=k
  ·rw[if_pos z,if_pos z];rfl
  ·rw[if_neg z,if_neg z];exact r.some
def Wv(P:Program)(w:World)(K:PySem.W.Frag)(mg:Str->Option Value)(base:Heap)(k:Nat):Addr->Mir->Prop:=fun f G=>∃x ps,Cal P w K mg base k x ps (spD ⟨K,w⟩ G false)/\mg x=some (.ref f)
theorem R0{X:Cx}{k:Nat}(hr:Room k X.A):ZR X (fun f sp=>∃G,Wv X.prog X.w X.K X.mg X.base k f G/\sp=spD ⟨X.K,X.w⟩ G false):=by
 rintro f sp ⟨G,⟨x,ps,C,hm⟩,rfl⟩
 obtain⟨f',fd,F,b,kp,m⟩:=C.ex
 rw[m]at hm
 cases hm
 exact⟨k,fd,ps,F,hr,kp,b⟩
def ON(tm:List (Str×Mir))(f:DX)(τ:DS):Option (PyData×DS):=(f τ).bind fun p=>match p.1 with
 |.str k=>some (.bool (CB tm k).isSome,p.2)
 |_=>none
theorem Yc{T:Addr->Mir->Prop}{fa:Bool}{a:Addr}{tb:List (Str×Addr)}{tm:List (Str×Mir)}{t:TE}{f:DX}(hT:TMs T tb tm)(h:E K t fa f):E K (tOp (PJ a tb false) t (tC (.ref a))) false (ON tm f):=by
 refine⟨fun τ d t7 e=>?_,?_⟩
 ·unfold ON at e
  obtain⟨⟨x,t5⟩,e1,e⟩:=oB e
  dsimp only at e
  split at e
  ·cases e;exact h.like _ _ _ e1
  ·cases e
 intro S M τ σ H Q d t7 r e q
 unfold ON at e
 obtain⟨⟨x,t5⟩,e1,e⟩:=oB e
 dsimp only at e
 split at e
 ·rename_i k
  cases e
  refine h.weak.run S M τ σ H _ _ _ r e1 fun v H1 r1 c1 i1=>?_
  cases (show v = .str k from i1)
  refine⟨rfl,k,rfl,q _ H1 r1 c1 ?_⟩
  show V.bl _=V.bl _
  rw[Bool.false_bne,hT.some]
 ·cases e
def Gv(tm:List (Str×Mir))(f:DX)(a:DA)(τ:DS):Option (PyData×DS):=(f τ).bind fun p=>match p.1 with
 |.str k=>(CB tm k).bind fun G=>AH G a p.2
 |_=>none
theorem R8{T:Addr->Mir->Prop}{fa:Bool}{ad:Addr}{tb:List (Str×Addr)}{tm:List (Str×Mir)}{t:TE}{f:DX}{ta:TA}{a:DA}(hT:TMs T tb tm)(h:E K t fa f)(ha:A K ta a) :
  E K (Ot (fun f sp=>∃G,T f G/\sp=spD K G false) (tOp (rKf ad tb) (tC (.ref ad)) t) ta) false (Gv tm f a):=by
 refine⟨fun τ d t7 e=>?_,?_⟩
 ·unfold Gv at e
  obtain⟨⟨x,t5⟩,e1,e⟩:=oB e
  dsimp only at e
  split at e
  ·obtain⟨G,e2,e⟩:=oB e
   exact(h.like _ _ _ e1).trans ((Kq (fr:=false) (G:=G) (X:=E0) ha).like _ _ _ e)
  ·cases e
 intro S M τ σ H Q d t7 r e q
 unfold Gv at e
 obtain⟨⟨x,t5⟩,e1,e⟩:=oB e
 dsimp only at e
 split at e
 ·rename_i k
  obtain⟨G,e2,e⟩:=oB e
  obtain⟨fn,hg,hT'⟩:=hT.get e2
  refine h.weak.run S M τ σ H _ _ _ r e1 fun v H1 r1 c1 i1=>?_
  cases (show v = .str k from i1)
  refine⟨rfl,k,fn,rfl,hg,fn,spD K G false,rfl,⟨G,hT',rfl⟩,?_⟩
  exact(Kq (fr:=false) (G:=G) (X:=E0) ha).run S M t5 σ H1 Q d t7 r1 e fun v H' r' c' res=>q v H' r' (c1.trans c') (res.back r1 c1)
 ·cases e
end DL
end
section
namespace DL
open PySem L2
variable {K:KW} {np:Nat}
variable {K:KW} {np:Nat}
variable {K:KW} {np:Nat}
def gtP:List Nat->PyData->Option PyData
 |[],d=>some d
 |k::π,.list ds=>(ds[k]?).bind (gtP π)
 |k::π,.tuple ds=>(ds[k]?).bind (gtP π)
 |_::_,_=>none
def stP(x:PyData):List Nat->PyData->PyData
 |[],_=>x
 |k::π,.list ds=>.list (ds.set k (stP x π (ds.getD k .none)))
 |k::π,.tuple ds=>.tuple (ds.set k (stP x π (ds.getD k .none)))
 |_::_,d=>d
def ZO(K:KW)(S:Addr->Prop)(H:Hp)(F:List Addr)(d:PyData)(v:V)(π:List Nat)(d':PyData)(u:V):Prop:=∃Fy,Dp K S H d' u Fy/\(∀a∈Fy,a∈F)/\Fy.Nodup/\((π=[]->u=v/\d'=d)/\(π≠[]->∀ds,d = .list ds->∀a,v = .ref a->a∉Fy)) /\
 ∀(H':Hp) (x:PyData) (Fx:List Addr),TSm (hid S H) (hid S H')->(∀a∈F,a∉Fy->H' a=H a)->Dp K S H' x u Fx->(∀a∈Fx,a∈Fy)->Fx.Nodup->∃F3,(∀a∈F3,a∈F)/\F3.Nodup/\Dp K S H' (stP x π d) v F3
abbrev DP:=PyData->DS->Option (List Nat×PyData×DS)
structure PT(K:KW)(r:Nat)(t:TE)(g:DP):Prop where
 like:∀d τ π d' t7,g d τ=some (π,d',t7)->Like τ t7
 gp:∀d τ π d' t7,g d τ=some (π,d',t7)->∀π0 dr,gtP π0 dr=some d->gtP (π0++π) dr=some d'
 run:∀(S M:Addr->Prop) τ σ H (Q:VK) dr v F π0 d0 u0 π d' t7,R K (fun b=>S b/\b∉F) (fun b=>M b/\b∉F) τ σ H->σ[r]?=some (some u0)->(∀a∈F,∃vs,H a=some (.lst vs))->(∀a,M a->S a)->gtP π0 dr=some d0->ZO K S H F dr v π0 d0 u0->g d0 τ=some (π,d',t7) ->
  (∀u H',R K (fun b=>S b/\b∉F) (fun b=>M b/\b∉F) t7 σ H'->Chg (fun b=>M b/\b∉F) H H'->ZO K S H' F dr v (π0++π) d' u->Q u H')->t σ H Q
variable {K:KW} {np:Nat}
end DL
end
section
namespace L2
open PySem DL
end L2
namespace DL
open PySem L2
variable {K:KW}
end DL
end
section
namespace Duh
open PySem
section
variable {K:Type} [DecidableEq K]
end
section
variable {prog:Program} {w:World} {K:Type} [DecidableEq K] {knd:HeapKind prog w K} {A:Around} {E:Value->Shared->Prop} {s:Shared}
end
end Duh
end
section
namespace DL
open PySem L2 PyProof.Rows
variable {K:KW}
instance (l:List Int):Decidable l.Nodup:=inferInstance
end DL
end
section
namespace DL
open PySem L2
variable {K:KW} {np:Nat}
variable {K:KW} {np:Nat}
theorem ZN{S:Addr->Prop}{τ:DS}{σ:St}{H:Hp}(hl:σ.length=τ.length)(hd:∀(i:Nat) (l:L),τ[i]?=some (some l)->∃x v,l = .d x/\σ[i]?=some (some v)/\Is K (hid S H) x v)(hs:∀a,S a->∃o,H a=some o):R K S (fun _=>False) τ σ H:=by
 have own:∀(i:Nat) (o:Ow),τ[i]?≠some (some o.L):=fun i o e=>by
  obtain⟨x,v,z,_⟩:=hd i _ e
  exact Ow.not_d z
 refine⟨hl,fun i z e=>?_,fun i o e=>absurd e (own i o),fun i z e=>?_,fun i j o p a e=>absurd e (own i o),fun _ h=>h.elim,hs,GR.nil fun i z e=>?_⟩
 ·obtain⟨x,v,y,h1,h2⟩:=hd i _ e
  cases y;exact⟨v,h1,h2⟩
 ·obtain⟨x,v,y,_⟩:=hd i _ e
  cases y
 ·obtain⟨x,v,y,_⟩:=hd i _ e
  cases y
end DL
end
section
namespace L2
open PySem PySem.Spec PyProof.Rows
def CRg(lo hi st:Int):Prop:=-1000000<=lo/\lo<=1000000/\-1000000<=hi/\hi<=1000000/\0<st/\st<=1000000
end L2
namespace DL
open PySem L2 PyProof.Rows
variable {K:KW}
instance {i j k:Int}:Decidable (CRg i j k):=by unfold CRg;infer_instance
abbrev TP:=L2.St->Hp->(List (Str×V)->Hp->Prop)->Prop
variable {K:KW}
end DL
end
section
namespace L2
open PySem PySem.Spec PyProof.Rows
end L2
namespace DL
open PySem L2 PyProof.Rows
variable {K:KW}
end DL
namespace DL
open PySem L2 PyProof.Rows
end DL
end
section
namespace L2
open PySem PySem.Spec PyProof.Rows
section
variable {prog:Program} {w:World} {A:Around} {E:Value->Shared->Prop} {s:Shared}
end
theorem MG{P:Program}{w:World}{K:PySem.W.Frag}{mg:Str->Option Value}{base:Heap}{N:List Str}{qual:Str}{scope:Scope}{f:Addr}{cd:Value}{A:Around}{outer:List Env}{s:Shared}{H:Hp}{E:XK} :
  HE (CXr P w) (JF (CXr P w) P w K mg base N qual scope f cd A outer s H E) E:=by
 intro pins σ H1 s1 e s2 I hx
 obtain⟨ea,C,H2,rfl,h1,h2,h3,h4,h5,h6,h7⟩:=hx
 have g:Got1 (JF (CXr P w) P w K mg base N qual scope f cd A outer s H E) pins σ H1 H2 s1 ea C .none s2:=⟨h1,h2,h3,h4,h5,h6⟩
 have hm:∀b,Nw s1.heap H2 b->Nw s.heap H2 b:=fun b z=>by
  refine⟨?_,z.2⟩
  cases q:s.heap.get? b with
  |none=>rfl
  |some o =>
   obtain⟨o',r⟩:=I.base.there b o q (by intro y;cases y)
   rw[z.1]at r
   cases r
 show wpAny (model P w) (A.deeper (envOfC qual scope s.heap.objs.size f cd)) (leaving (envOfC qual scope s.heap.objs.size f cd) (.ref ea)) (fun _ s''=>CXr P w outer H s E (.ref ea) s'') (fun e' s''=>CXr P w outer H s E e' s'') s2
 unfold leaving
 refine wpAny_bind (g.lands I ⟨rfl,rfl⟩ I.ok.frames fun s4 g4=>?_)
 have J:=g4.inv I
 exact⟨ea,C,H2,rfl,J.os,J.bare,J.base,J.hok,hm ea g4.new,g4.xat.mono hm,h7⟩
section
variable {X:Cx} {N':List Str} {own:Nat} {fr:List Nat} {scope:Scope} {elt tg iter:Expr} {ifs:List Expr} {pos:Pos}
end
section
variable {X:Cx} {k i j:Nat} {f ea C D':Addr} {oe:Obj} {fd:FuncData} {ps:List Str} {x cn n y:Str} {p pos p1 np hp p2 py:Pos} {e:Expr} {es:List Expr} {t:TA} {b₀:Stmt} {suite:List Stmt}
end
section
variable {X:Cx} {ea C c1:Addr} {oe:Obj} {b:Bool}
end
end L2
end
section
namespace DL
open PySem L2
variable {K:KW} {np:Nat}
abbrev Mo:=Out ⊕ Nat
abbrev DBX:=DS->Option Mo
def GlX(K:KW)(Ex:Nat->Hp->Prop)(F:Frm)(fr:Bool)(S:Addr->Prop)(H:Hp)(D:JL):Mo->Prop
 |.inl o=>Gl K F fr S H D o
 |.inr n=>∀H',Same F.H H'->Ex n H'
def BX(K:KW)(np:Nat)(Ex:Nat->Hp->Prop)(t:TS)(fr:Bool)(f:DBX):Prop:=∀(F:Frm) S M τ σ H (D:JL) out,F.ar.length<=np->(∀a,¬F.M a)->RF K F S M τ σ H->f τ=some out->GlX K Ex F fr S H D out->t D σ H
theorem GlX.trans{Ex:Nat->Hp->Prop}{F:Frm}{fr:Bool}{S S':Addr->Prop}{H H':Hp}{D:JL}{o:Mo}(q:GlX K Ex F fr S H D o)(k:Keep S H S' H'):GlX K Ex F fr S' H' D o:=by
 cases o with
 |inl o=>exact Gl.trans k q
 |inr n=>exact q
theorem RF.sm{F:Frm}{S M:Addr->Prop}{τ:DS}{σ:St}{H:Hp}(f:RF K F S M τ σ H)(hM:∀a,¬F.M a):Same F.H H:=fun b o e=>f.old b o e (hM b)
variable {Ex:Nat->Hp->Prop} {fr:Bool}
def xOf(b:DB)(τ:DS):Option Mo:=(b τ).map .inl
theorem Wy{t:TS}{b:DB}(h:B K np t fr b):BX K np Ex t fr (xOf b):=by
 intro F S M τ σ H D out hnp hM f ee q
 obtain⟨o,e,rfl⟩:=oM ee
 exact h F S M τ σ H D o hnp f e q
def L1(n:Nat)(_:DS):Option Mo:=some (.inr n)
theorem Qw{n:Nat}{C:Addr}{E:XK}{v:V}(h:∀H,Ex n H->E (.ref C) none H):BX K np Ex (L7 C E (Cs (tC v) Eo)) fr (L1 n):=by
 intro F S M τ σ H D out hnp hM f ee q
 cases ee
 exact⟨(by decide:1<=sizeLine),h H (q H (f.sm hM))⟩
def Gm(a b:DBX)(τ:DS):Option Mo:=(a τ).bind fun o=>match o with
 |.inl (.nx t7)=>b t7
 |o=>some o
theorem Wx{t u:TS}{a b:DBX}(ha:BX K np Ex t fr a)(hb:BX K np Ex u fr b):BX K np Ex (Tz t u) fr (Gm a b):=by
 intro F S M τ σ H D out hnp hM f ee q
 unfold Gm at ee
 obtain⟨o,e1,ee⟩:=oB ee
 refine ha F S M τ σ H _ o hnp hM f e1 ?_
 cases o with
 |inr n=>cases ee;exact q
 |inl o =>
  cases o with
  |nx t5=>exact fun S' M' σ' H' r k=>hb F S' M' t5 σ' H' D out hnp hM r ee (q.trans k)
  |bk t5=>cases ee;exact q
  |ct t5=>cases ee;exact q
  |rt d t5=>cases ee;exact q
def xIf(c:DT)(a b:DBX)(τ:DS):Option Mo:=(c τ).bind fun p=>if p.1=true then a p.2 else b p.2
theorem ZT{tc:TT}{t u:TS}{c:DT}{a b:DBX}(hc:T K tc c)(ha:BX K np Ex t fr a)(hb:BX K np Ex u fr b):BX K np Ex (T3 tc t u) fr (xIf c a b):=by
 intro F S M τ σ H D out hnp hM f ee q
 unfold xIf at ee
 obtain⟨⟨k,t5⟩,e1,ee⟩:=oB ee
 refine hc.run S M τ σ H _ k t5 f.r e1 fun H1 r1 c1=>?_
 have f1:=f.step r1 c1 (hc.like _ _ _ e1)
 cases k with
 |true=>exact ha F S M t5 σ H1 D out hnp hM f1 ee (q.trans (c1.keep f.r.sub))
 |false=>exact hb F S M t5 σ H1 D out hnp hM f1 ee (q.trans (c1.keep f.r.sub))
def Gi(np nl:Nat)(f:DBX)(ds:List PyData):Option (PyData ⊕ Nat):=if ds.length=np then (f ((ds.map L.d).map some++List.replicate nl none)).bind fun o=>match o with
 |.inl (.nx _)=>some (.inl .none)
 |.inl (.rt d _)=>some (.inl d)
 |.inr n=>some (.inr n)
 |_=>none
 else none
def spO(K:KW)(G:List PyData->Option (PyData ⊕ Nat))(cls:Nat->Addr)(fr:Bool):Sp:=fun vs H Q E=>∃(S:Addr->Prop) (ds:List PyData) (r:PyData ⊕ Nat),IsL K (hid S H) ds vs/\(∀a,S a->∃o,H a=some o)/\G ds=some r /\
 match r with
 |.inl d=>∀v H',Same H H'->Res K fr S H H' d v->Q v H'
 |.inr n=>∀H',Same H H'->E (.ref (cls n)) none H'
theorem Qx{nl:Nat}{f:DBX}{cls:Nat->Addr}{ps:List Str}{fr:Bool}(hn:ps.length=np)(vs:List V)(H:Hp)(Q:VK)(E:XK)(h:spO K (Gi np nl f) cls fr vs H Q E):vs.length=ps.length:=by
 obtain⟨S,ds,r,l,_,e,_⟩:=h
 unfold Gi at e
 split at e
 ·rename_i h1
  rw[l.length,h1,hn]
 ·cases e
end DL
namespace L2
open PySem PySem.Spec PyProof.Rows PySem.W DL
end L2
namespace DL
open PySem L2
section
variable {K:KW} {ea c1 c2:Addr} {oe:Obj} {s1 s2:Str} {b1 b2:Bool} {σ:St} {H:Hp} {Q:VK}
end
end DL
end
section
namespace L2
open PySem PySem.Spec PyProof.Rows
def DF(K:PySem.W.Frag)(x:Str)(st:Stmt)(f:Addr)(fd:FuncData):Prop:=PySem.W.nsIn K mainGlobals x=some (some (.ref f))/\Fun K x x st f fd
section
variable {K:PySem.W.Frag} {x:Str} {st:Stmt} {f:Addr} {fd:FuncData} {h:Heap} {mg:Str->Option Value}
theorem DF.mk{oc:Value}{od an:Option Addr}{osl:Array (Option Value)}{kV doc pm cdv ct:Value}(a:PySem.W.nsIn K mainGlobals x=some (some (.ref f)))(l:K.lookup f=some ⟨oc,od,.func (PySem.W.fnOf x x (Cq st) (Bh st) (Ak st) .none kV doc pm an cdv ct),osl⟩)(c:PySem.W.codeIn K cdv x=true)(k:PySem.W.keepIn K (.ref f)=true):DF K x st f (PySem.W.fnOf x x (Cq st) (Bh st) (Ak st) .none kV doc pm an cdv ct):=⟨a,VJ l c k⟩
theorem DF.m(d:DF K x st f fd)(X:K.In h)(G:h.Ns mainGlobals mg):mg x=some (.ref f):=bP X G d.1
theorem DF.b{ps:List Str}(d:DF K x st f fd)(h:∀(kV doc pm:Value) (an:Option Addr) (cdv ct:Value) (us:List Value),us.length=ps.length->bindArgs (PySem.W.fnOf x x (Cq st) (Bh st) (Ak st) .none kV doc pm an cdv ct) ⟨us,[]⟩=pure (ps.zip us)):Binds K fd ps []:=d.2.binds h
theorem DF.cal{P:Program}{w:World}{base:Heap}{k:Nat}{ps:List Str}{sp:Sp}(d:DF K x st f fd)(X:K.In h)(G:h.Ns mainGlobals mg)(o:FnOk P w K mg base CX0 k f fd ps sp)(b:∀(kV doc pm:Value) (an:Option Addr) (cdv ct:Value) (us:List Value),us.length=ps.length->bindArgs (PySem.W.fnOf x x (Cq st) (Bh st) (Ak st) .none kV doc pm an cdv ct) ⟨us,[]⟩=pure (ps.zip us)):Cal P w K mg base k x ps sp:=Cal.of d.2 o (d.b b) (d.m X G)
end
instance {sc:Scope} {x:Str}:Decidable (Loc sc x):=by unfold Loc;infer_instance
theorem viL{sc:Scope}{x:Str}(h:Loc sc x):Vis sc x:=h.elim Or.inl fun h=>Or.inr (Or.inl h)
end L2
end
section
namespace DL
open PySem L2
structure Ct where
 P:Program
 K:KW
 mg:Str->Option Value
 base:Heap
 k:Nat
 own:Nat
 d:Bool
 N:List Str
 sc:Scope
structure At(Γ:Ct)(X:Cx):Prop where
 p:X.prog=Γ.P
 kw:EB X=Γ.K
 m:X.mg=Γ.mg
 bs:X.base=Γ.base
 n:X.N=Γ.N
 nd:X.N.Nodup
 rm:Room Γ.k X.A
 ca:X.calm=true
 po:PassesOwn (model X.prog X.w) X.A X.env X.xe
 v:∀x∈X.N,Vis X.env.scope x
 l:∀(i:Nat) (x:Str),i<Γ.own->X.N[i]?=some x->Loc X.env.scope x/\(X.fn x=true\/X.env.scope.names.lookup x=some .local)
 ll:∀x:Str,Γ.sc.names.lookup x=some .local->X.env.scope.names.lookup x=some .local
 g:∀x,Γ.sc.names.lookup x=some .globalImplicit->L2.Gl X x
 bk:Γ.d=true->X.env.blockKind = .function
 c:∀x:Str,Γ.sc.names.lookup x=some .cell\/Γ.sc.names.lookup x=some .free->X.env.scope.names.lookup x=some .cell\/X.env.scope.names.lookup x=some .free
section
variable {Γ:Ct} {X:Cx}
theorem At.w(c:At Γ X){p:KW->Prop}(h:p (EB X)):p Γ.K:=c.kw▸h
theorem At.u(c:At Γ X):X.A.units+64<cLine:=c.rm.units
theorem At.u5(c:At Γ X):X.A.units+65<cLine:=by have:=c.rm.un;omega
end
def CE(Γ:Ct)(e:Expr)(fr:Bool)(f:DX):Prop:=∃t,(∀X,At Γ X->PE X e t)/\E Γ.K t fr f
def CT(Γ:Ct)(e:Expr)(f:DT):Prop:=∃t,(∀X,At Γ X->L2.PT X e t)/\T Γ.K t f
def CW(Γ:Ct)(e:Expr)(f:DT):Prop:=∃t,(∀X,At Γ X->PW X e t)/\T Γ.K t f
def CA(Γ:Ct)(es:List Expr)(f:DA):Prop:=∃t,(∀X,At Γ X->PA X es t)/\A Γ.K t f
def CP(Γ:Ct)(e:Option Expr)(f:DO):Prop:=∃t,(∀X,At Γ X->PO X e t)/\OO Γ.K t f
def CI(Γ:Ct)(tg e:Expr)(f:DI):Prop:=∃t,(∀X,At Γ X->PI X tg e t)/\IT Γ.K t f
def CI2(Γ:Ct)(tg e:Expr)(f:DI):Prop:=∃t,(∀X,At Γ X->PI X tg e t)/\IT2 Γ.K t f
def CG(Γ:Ct)(e:Expr)(f:DG):Prop:=∃t,(∀X,At Γ X->PG X e t)/\TG1 Γ.K t f
def CGs(Γ:Ct)(es:List Expr)(f:List PyData->DS->Option DS):Prop:=∃t,(∀X,At Γ X->PGs X es t)/\TG2 Γ.K t f/\∀ds τ t7,f ds τ=some t7->ds.length=es.length
def CTs(Γ:Ct)(es:List Expr)(f:DT):Prop:=∃t,(∀X,At Γ X->PTs X es t)/\T Γ.K t f
def CS(Γ:Ct)(np:Nat)(s:Stmt)(fr:Bool)(f:DB):Prop:=∃t,(∀X,At Γ X->PS X s t)/\B Γ.K np t fr f
def CSs(Γ:Ct)(np:Nat)(s:List Stmt)(fr:Bool)(f:DB):Prop:=∃t,(∀X,At Γ X->PSs X s t)/\B Γ.K np t fr f
def CO(Γ:Ct)(op:Value->Value->Sem Value)(fr:Bool)(F:PyData->PyData->Option PyData):Prop:=∃r fr',(∀X,At Γ X->OpR X op r)/\OR Γ.K fr' r F/\(fr=true->fr'=true)
def CIx(Γ:Ct)(F:PyData->PyData->Option PyData):Prop:=∃r,(∀X,At Γ X->IxR X r)/\OR Γ.K false r F
abbrev isB(v:Value):Prop:=(∃i,v = .builtin i)\/∃i,v = .type i
def CBt(Γ:Ct)(x:Str)(fr:Bool)(F:List PyData->Option PyData):Prop:=∃v r fr',isB v/\bootBuiltins x=some v/\(∀X,At Γ X->B8 X v r)/\BR Γ.K fr' r F/\(fr=true->fr'=true)
def CM(Γ:Ct)(x:Str)(G:List PyData->List PyData->Option (PyData×List PyData)):Prop:=∃id r,Slot "list" x id/\typeOf (.builtin id)=pure (.type "method_descriptor")/\(∀X,At Γ X->MtR X id r)/\MR Γ.K r G
theorem E.to{K:KW}{t:TE}{f:DX}{fr fr':Bool}(h:E K t fr' f)(z:fr=true->fr'=true):E K t fr f:=by
 cases fr with
 |false=>exact h.weak
 |true=>rw[z rfl]at h;exact h
theorem E.an{K:KW}{t:TE}{f:DX}{fr:Bool}(h:E K t true f):E K t fr f:=h.to fun _=>rfl
theorem OR.wk{K:KW}{r:R2}{F:PyData->PyData->Option PyData}{fr:Bool}(h:OR K fr r F):OR K false r F:=fun S H x y dx dy d Q fr ix iy e q=>h S H x y dx dy d Q fr ix iy e fun v H' s res=>q v H' s (res.is fun a ha=>fr a ha)
section
variable {Γ:Ct} {np:Nat} {fr fa fb fc fe:Bool} {f f' f'':DX} {c c':DT} {g:DA} {a b d e:Expr} {es:List Expr} {pos p p1 p2:Pos}
abbrev dcQ(x:Str):Prop:=(x==("__debug__":Str))=false/\(x==("__classdict__":Str))=false
abbrev glQ(Γ:Ct)(x:Str):Prop:=Γ.sc.names.lookup x=some .globalImplicit/\(x==("__debug__":Str))=false
theorem V3{i:Nat}{x:Str}(h:Γ.N[i]?=some x:=by walk_at "q")(hd:dcQ x:=by walk_at "dk"):CE Γ (.Name x pos) false (AB i) :=
 ⟨_,fun X c=>Pe (by rw[c.n];exact h) (c.v x (by rw[c.n];exact aO h)) hd.1 hd.2,YL⟩
theorem WJ{i:Int}{j}:CE Γ (.Constant (.int i) j pos) false (dC (.int i)):=⟨_,fun _ _=>Ua,Te⟩
theorem V5{x:Str}{j}:CE Γ (.Constant (.str x) j pos) false (dC (.str x)):=⟨_,fun _ _=>KI,YN⟩
theorem WB{j}:CE Γ (.Constant .none j pos) false (dC .none):=⟨_,fun _ _=>UZ,YT⟩
theorem Y7{x:Bool}{j}:CE Γ (.Constant (.bool x) j pos) false (dC (.bool x)):=⟨_,fun _ _=>Xc,Z8⟩
theorem Y4{x:Str}{i:Int}{t:Tok}(h:Γ.mg x=some (.int i t):=by assumption)(hg:glQ Γ x:=by walk_at "dk"):CE Γ (.Name x pos) false (dC (.int i)):=⟨_,fun X c=>EN (v:=.int i) (c.g x hg.1) (by rw[c.m];exact h) ⟨_,rfl⟩ hg.2,Te⟩
theorem Y5{x:Str}{u:Value}{y:PyData}(h:Γ.mg x=some u/\Ax Γ.K y u=true:=by assumption)(hg:glQ Γ x:=by walk_at "dk"):CE Γ (.Name x pos) false (dC y):=by
 obtain⟨v,r,i⟩:=JG h.2
 exact⟨_,fun X c=>EN (c.g x hg.1) (by rw[c.m];exact h.1) r hg.2,e_c i⟩
theorem Yy{op:Operator}{F}(h:CO Γ (binaryOp op) fr F)(ha:CE Γ a false f)(hb:CE Γ b false f'):CE Γ (.BinOp a op b pos) fr (dOp F f f'):=let ⟨_,_,h1,h2,h3⟩:=h;let ⟨_,a1,a2⟩:=ha;let ⟨_,b1,b2⟩:=hb;⟨_,fun X c=>XZ (h1 X c) (a1 X c) (b1 X c),(QP h2 a2 b2).to h3⟩
theorem WN{op:CmpOp}{F}(h:CO Γ (compareOp op) fr F)(ha:CE Γ a false f)(hb:CE Γ b false f')(hm:behindInMarks op b=false:=by walk_at "q"):CE Γ (.Compare a [op] [b] pos) fr (dOp F f f'):=let ⟨_,_,h1,h2,h3⟩:=h;let ⟨_,a1,a2⟩:=ha;let ⟨_,b1,b2⟩:=hb;⟨_,fun X c=>KJ (h1 X c) (a1 X c) (b1 X c) hm,(QP h2 a2 b2).to h3⟩
theorem Vd{op:CmpOp}{F}(h:CO Γ (compareOp op) false F)(ha:CE Γ a false f)(hb:CE Γ b false f')(hm:behindInMarks op b=false:=by walk_at "q"):CT Γ (.Compare a [op] [b] pos) (AE (dOp F f f')):=let ⟨_,_,h1,h2,_⟩:=h;let ⟨_,a1,a2⟩:=ha;let ⟨_,b1,b2⟩:=hb;⟨_,fun X c=>KG (h1 X c) (a1 X c) (b1 X c) hm,Ce (QP h2 a2 b2)⟩
theorem Qd{o o':CmpOp}{F G}(h:CO Γ (compareOp o) false F)(h':CO Γ (compareOp o') false G)(ha:CE Γ a false f)(hb:CE Γ b false f')(hc:CE Γ d false f'')(hm:lastMarks [o,o'] [b,d]=false:=by walk_at "q"):CE Γ (.Compare a [o,o'] [b,d] pos) false (BH F G f f' f'') :=
 let ⟨_,a0,h1,h2,h3⟩:=h;let ⟨_,b0,i1,i2,i3⟩:=h';let ⟨_,a1,a2⟩:=ha;let ⟨_,b1,b2⟩:=hb;let ⟨_,d1,d2⟩:=hc;⟨_,fun X c=>Ph (h1 X c) (i1 X c) (a1 X c) (b1 X c) (d1 X c) hm,NX h2.wk i2.wk a2 b2 d2⟩
theorem QX{o o':CmpOp}{F G}(h:CO Γ (compareOp o) false F)(h':CO Γ (compareOp o') false G)(ha:CE Γ a false f)(hb:CE Γ b false f')(hc:CE Γ d false f'')(hm:lastMarks [o,o'] [b,d]=false:=by walk_at "q"):CT Γ (.Compare a [o,o'] [b,d] pos) (AE (BH F G f f' f'')) :=
 let ⟨_,a0,h1,h2,h3⟩:=h;let ⟨_,b0,i1,i2,i3⟩:=h';let ⟨_,a1,a2⟩:=ha;let ⟨_,b1,b2⟩:=hb;let ⟨_,d1,d2⟩:=hc;⟨_,fun X c=>PQ (h1 X c) (i1 X c) (a1 X c) (b1 X c) (d1 X c) hm,Ce (NX h2.wk i2.wk a2 b2 d2)⟩
theorem WC(ha:CE Γ a false f):CE Γ (.UnaryOp .USub a pos) false (dUn En f):=let ⟨_,a1,a2⟩:=ha;⟨_,fun X c=>XW Tt (a1 X c),Z1 W0 a2⟩
theorem WA(ha:CE Γ a false f):CE Γ (.UnaryOp .Not a pos) false (Hn f):=let ⟨_,a1,a2⟩:=ha;⟨_,fun X c=>UY (a1 X c),YS a2⟩
theorem V9{op}(ha:CE Γ a fr f):CE Γ (.BoolOp op [a] pos) fr f:=let ⟨_,a1,a2⟩:=ha;⟨_,fun X c=>UX (a1 X c),a2⟩
theorem WR(ha:CE Γ a false f)(hb:CE Γ (.BoolOp .And (b::es) pos) false f'):CE Γ (.BoolOp .And (a::b::es) pos) false (Br f f'):=let ⟨_,a1,a2⟩:=ha;let ⟨_,b1,b2⟩:=hb;⟨_,fun X c=>Uc (a1 X c) (b1 X c),Yh a2 b2⟩
theorem Yx(ha:CE Γ a false f)(hb:CE Γ (.BoolOp .Or (b::es) pos) false f'):CE Γ (.BoolOp .Or (a::b::es) pos) false (dOr f f'):=let ⟨_,a1,a2⟩:=ha;let ⟨_,b1,b2⟩:=hb;⟨_,fun X c=>XY (a1 X c) (b1 X c),Z3 a2 b2⟩
theorem Y3(hc:CT Γ d c)(ha:CE Γ a false f)(hb:CE Γ b false f'):CE Γ (.IfExp d a b pos) false (dIf c f f'):=let ⟨_,c1,c2⟩:=hc;let ⟨_,a1,a2⟩:=ha;let ⟨_,b1,b2⟩:=hb;⟨_,fun X c=>Pg (c1 X c) (a1 X c) (b1 X c),Z6 c2 a2.weak b2.weak⟩
theorem WO{i:Nat}(h:CE Γ e false f):CE Γ e false (Bo i f):=let ⟨_,a1,a2⟩:=h;⟨_,a1,Yf a2⟩
theorem Si{i:Nat}(h:CE Γ e true f):CE Γ e fr (C0 i f):=let ⟨_,a1,a2⟩:=h;⟨_,a1,(VY a2).an⟩
abbrev B5(e:Expr)(es:List Expr):Prop:=∀env,starEach (e::es) env=(false,eval e env)::starEach es env
theorem Wb:CA Γ [] AD:=⟨_,fun _ _=>EO,Nl⟩
theorem Sk(ha:CE Γ e false f)(hb:CA Γ es g)(hs:B5 e es:=by walk_at "q"):CA Γ (e::es) (AA f g):=let ⟨_,a1,a2⟩:=ha;let ⟨_,b1,b2⟩:=hb;⟨_,fun X c=>Cm (a1 X c) (b1 X c) (hs _),Wr a2 b2⟩
theorem V4{j}(h:CA Γ es g):CE Γ (.Tuple es j pos) false (Aa g):=let ⟨_,a1,a2⟩:=h;⟨_,fun X c=>UW (a1 X c),YM a2⟩
theorem WE(h:CA Γ es g):CE Γ (.List es pos) fr (C7 g):=let ⟨_,a1,a2⟩:=h;⟨_,fun X c=>Pf (a1 X c),(YV a2).an⟩
theorem Y2{F}(h:CIx Γ F)(ha:CE Γ a false f)(hb:CE Γ b false f')(hs:FI b:=by walk_at "q"):CE Γ (.Subscript a b pos) false (dOp F f f'):=let ⟨_,h1,h2⟩:=h;let ⟨_,a1,a2⟩:=ha;let ⟨_,b1,b2⟩:=hb;⟨_,fun X c=>LB (h1 X c) (a1 X c) (b1 X c) hs,QP h2 a2 b2⟩
abbrev vrQ(Γ:Ct)(i:Nat)(x:Str):Prop:=Γ.N[i]?=some x/\dcQ x
theorem At.var{X:Cx}(c:At Γ X){i:Nat}{x:Str}(h:vrQ Γ i x):PE X (.Name x pos) (FL i):=Pe (by rw[c.n];exact h.1) (c.v x (by rw[c.n];exact aO h.1)) h.2.1 h.2.2
theorem WH{i:Nat}{x:Str}(hb:CE Γ b false f)(h:vrQ Γ i x:=by walk_at "dk")(hs:FI b:=by walk_at "q"):CE Γ (.Subscript (.Name x p) b pos) false (Bf i f):=let ⟨_,b1,b2⟩:=hb;⟨_,fun X c=>LB (c.w (p:=fun K=>IxR X (Nu K)) NN) (c.var h) (b1 X c) hs,YY b2⟩
theorem WG{i:Nat}{x:Str}(hb:CE Γ b false f)(h:vrQ Γ i x:=by walk_at "dk")(hs:FI b:=by walk_at "q"):CE Γ (.Subscript (.Name x p) b pos) false (Lp i f):=let ⟨_,b1,b2⟩:=hb;⟨_,fun X c=>LB Zu (c.var h) (b1 X c) hs,YX b2⟩
theorem Vc{i:Nat}{x:Str}(ha:CE Γ a false f)(h:vrQ Γ i x:=by walk_at "dk")(hm:behindInMarks .In (.Name x p)=false:=by walk_at "q"):CT Γ (.Compare a [.In] [.Name x p] pos) (AE (Lq false f i)):=let ⟨_,a1,a2⟩:=ha;⟨_,fun X c=>KG Uj (a1 X c) (c.var h) hm,Ce (Ya a2)⟩
abbrev kdQ(Γ:Ct)(x:Str)(tb:List (Str×PyData)):Prop:=∃ad,Γ.mg x=some (.ref ad)/\KD Γ.K Γ.K.w ad tb/\(ad==sysModules)=false
theorem Y1{x:Str}{tb:List (Str×PyData)}(hb:CE Γ b false f)(h:kdQ Γ x tb:=by assumption)(hg:glQ Γ x:=by walk_at "dk")(hs:FI b:=by walk_at "q"):CE Γ (.Subscript (.Name x p) b pos) false (dKd tb f):=by
 obtain⟨_,b1,b2⟩:=hb;obtain⟨ad,h1,h2,_⟩:=h
 exact⟨_,fun X c=>LB (r:=rKd Γ.K ad tb) (c.kw▸X8 (X:=X) (by have:=c.kw;subst_vars;rw[<- c.kw]at h2;exact h2)) (EN (v:=.ref ad) (c.g x hg.1) (by rw[c.m];exact h1) rfl hg.2) (b1 X c) hs,Z5 b2⟩
theorem SS:CP Γ none E1:=⟨_,fun _ _=>RG,Xk⟩
theorem SR(h:CE Γ e false f):CP Γ (some e) (dPt f):=let ⟨_,a1,a2⟩:=h;⟨_,fun X c=>RE (a1 X c),Zk a2⟩
theorem Yw{x y:Option Expr}{lo hi:DO}(h:CE Γ e false f)(hl:CP Γ x lo)(hh:CP Γ y hi):CE Γ (.Subscript e (.Slice x y none p) pos) fr (dSl f lo hi):=let ⟨_,a1,a2⟩:=h;let ⟨_,l1,l2⟩:=hl;let ⟨_,h1,h2⟩:=hh;⟨_,fun X c=>IY (c.w (p:=fun K=>SlR X (UE K)) Qz) (a1 X c) (l1 X c) (h1 X c),(Z2 a2 l2 h2).an⟩
theorem V7{x y:Option Expr}{lo hi:DO}(h:CE Γ e false f)(hl:CP Γ x lo)(hh:CP Γ y hi):CE Γ (.Subscript e (.Slice x y none p) pos) false (Fj f lo hi):=let ⟨_,a1,a2⟩:=h;let ⟨_,l1,l2⟩:=hl;let ⟨_,h1,h2⟩:=hh;⟨_,fun X c=>IY (c.w (p:=fun K=>SlR X (UD K)) T5) (a1 X c) (l1 X c) (h1 X c),YQ a2 l2 h2⟩
theorem V8{x y:Option Expr}{lo hi:DO}(h:CE Γ e false f)(hl:CP Γ x lo)(hh:CP Γ y hi):CE Γ (.Subscript e (.Slice x y none p) pos) false (QU f lo hi):=let ⟨_,a1,a2⟩:=h;let ⟨_,l1,l2⟩:=hl;let ⟨_,h1,h2⟩:=hh;⟨_,fun X c=>IY T6 (a1 X c) (l1 X c) (h1 X c),YR a2 l2 h2⟩
theorem At.cal{X:Cx}(c:At Γ X){k:Nat}{x:Str}{ps:List Str}{sp:Sp}(h:Cal Γ.P Γ.K.w Γ.K Γ.mg Γ.base k x ps sp)(hk:k<=Γ.k):Cal X.prog X.w X.K X.mg X.base Γ.k x ps sp:=by
 have:=c.kw;unfold EB at this;rw[<- this,<- c.p,<- c.m,<- c.bs]at h;exact h.mono hk
abbrev cQ(Γ:Ct)(k:Nat)(x:Str)(ps:List Str)(sp:Sp):Prop:=Cal Γ.P Γ.K.w Γ.K Γ.mg Γ.base k x ps sp
abbrev HV(es:List Expr)(pos:Pos):Prop:=∀env,(backTo pos (starEach es env)).any (·.1)=false
section
variable {x:Str} {k:Nat} {ps:List Str} {G:Mir} {i:Nat}
theorem Ni{sp:Sp}{t:TA}(C:cQ Γ k x ps sp)(hk:k<=Γ.k)(hg:glQ Γ x)(h:∀X,At Γ X->PA X (e::es) t)(hs:B5 e es)(hp:HV es pos):∀X,At Γ X->PE X (.Call (.Name x p) (e::es) [] pos) (F6 sp [] E0 t):=fun X c=>Pk (c.cal C hk) c.rm (c.g x hg.1) (h X c) hg.2 (hs _) (hp _)
theorem Sh(ha:CA Γ (e::es) g)(C:cQ Γ k x ps (spD Γ.K G fa):=by assumption)(hw:fr=true->fa=true:=by walk_at "fr")(hk:k<=Γ.k:=by walk_at "kk")(hg:glQ Γ x:=by walk_at "dk")(hs:B5 e es:=by walk_at "q")(hp:HV es pos:=by walk_at "q"):CE Γ (.Call (.Name x p) (e::es) [] pos) fr (AH G g):=let ⟨_,a1,a2⟩:=ha;⟨_,Ni C hk hg a1 hs hp,(Kq a2).to hw⟩
theorem Qg(C:cQ Γ k x ps (spD Γ.K G fa):=by assumption)(hw:fr=true->fa=true:=by walk_at "fr")(hk:k<=Γ.k:=by walk_at "kk")(hg:glQ Γ x:=by walk_at "dk"):CE Γ (.Call (.Name x p) [] [] pos) fr (AH G AD):=⟨_,fun X c=>Nz (c.cal C hk) c.rm (c.g x hg.1) hg.2,(Kq Nl).to hw⟩
theorem Qq{y:Str}{sp:Sp}{t:TA}(v:vrQ Γ i y)(C:cQ Γ k x ps sp)(hk:k<=Γ.k)(hg:glQ Γ x)(h:∀X,At Γ X->PA X es t)(hs:B5 (.Name y p1) es)(hp:HV es pos):∀X,At Γ X->PE X (.Call (.Name x p) (.Name y p1::es) [] pos) (F6 sp [] E0 (Cs (FL i) t)):=Ni C hk hg (fun X c=>Cm (c.var v) (h X c) (hs _)) hs hp
theorem Qf{y:Str}(ha:CA Γ es g)(C:cQ Γ k x ps (spD Γ.K G fa):=by assumption)(hw:fr=true->fa=true:=by walk_at "fr")(v:vrQ Γ i y:=by walk_at "dk")(hk:k<=Γ.k:=by walk_at "kk")(hg:glQ Γ x:=by walk_at "dk")(hs:B5 (.Name y p1) es:=by walk_at "q")(hp:HV es pos:=by walk_at "q"):CE Γ (.Call (.Name x p) (.Name y p1::es) [] pos) fr (AV i G g):=let ⟨_,a1,a2⟩:=ha;⟨_,Qq v C hk hg a1 hs hp,(R9 a2).to hw⟩
end
abbrev bQ(Γ:Ct)(x:Str)(v:Value):Prop:=Γ.mg x=none/\bootBuiltins x=some v
abbrev gnQ(Γ:Ct)(x:Str):Prop:=glQ Γ x/\x≠"__name__"
theorem Tq{x:Str}{v:Value}{r:List V->Hp->VK->Prop}{t:TA}(hv:(∃i,v = .builtin i)\/∃i,v = .type i)(hc:∀X,At Γ X->B8 X v r)(hb:bQ Γ x v)(hg:gnQ Γ x)(h:∀X,At Γ X->PA X (e::es) t)(hs:B5 e es)(hp:HV es pos):∀X,At Γ X->PE X (.Call (.Name x p) (e::es) [] pos) (tCB r t):=fun X c=>by
 rcases hv with ⟨i,rfl⟩|⟨i,rfl⟩
 ·exact LD (hc X c) (c.g x hg.1.1) (by rw[c.m];exact hb.1) hb.2 (h X c) hg.2 hg.1.2 (hs _) (hp _)
 ·exact Ny (hc X c) (c.g x hg.1.1) (by rw[c.m];exact hb.1) hb.2 (h X c) hg.2 hg.1.2 (hs _) (hp _)
theorem WQ{x:Str}{F:List PyData->Option PyData}(hc:CBt Γ x fr F)(ha:CA Γ (e::es) g)(hz:Γ.mg x=none:=by assumption)(hg:gnQ Γ x:=by walk_at "dk")(hs:B5 e es:=by walk_at "q")(hp:HV es pos:=by walk_at "q"):CE Γ (.Call (.Name x p) (e::es) [] pos) fr (AN F g):=let ⟨_,_,_,hv,hb,c1,c2,c3⟩:=hc;let ⟨_,a1,a2⟩:=ha;⟨_,Tq hv c1 ⟨hz,hb⟩ hg a1 hs hp,(Yg c2 a2).to c3⟩
theorem Sf{i:Nat}{y:Str}(hz:Γ.mg "len"=none:=by assumption)(v:vrQ Γ i y:=by walk_at "dk")(hg:gnQ Γ "len":=by walk_at "dk"):CE Γ (.Call (.Name "len" p) [.Name y p1] [] pos) false (As i) :=
 ⟨_,fun X c=>LD (c.w (p:=fun K=>B8 X (.builtin "len") (fun xs H Q=>∃x n,xs=[x]/\OX K x H n/\Q (.int n) H)) Ly) (c.g _ hg.1.1) (by rw[c.m];exact hz) PySem.boot_len (Cm (c.var v) EO) hg.2 hg.1.2,VV⟩
theorem WI{y:Str}{T:String}(ha:CE Γ e false f)(hz:Γ.mg "isinstance"=none:=by assumption)(hy:Γ.mg y=none:=by assumption)(hb:bootBuiltins y=some (.type T):=by walk_at "q")(hg:gnQ Γ "isinstance":=by walk_at "dk")(hg2:gnQ Γ y:=by walk_at "dk")(hs:B5 e [.Name y p1]:=by walk_at "q"):CE Γ (.Call (.Name "isinstance" p) [e,.Name y p1] [] pos) false (Bg T f) :=
 let ⟨_,a1,a2⟩:=ha;⟨_,Tq (.inl ⟨_,rfl⟩) (fun X c=>c.w (p:=fun K=>B8 X (.builtin "isinstance") (UG K)) OS) ⟨hz,PyProof.Rows.boot_isinstance⟩ hg (fun X c=>Cm (a1 X c) (Cm (XX (c.g y hg2.1.1) (by rw[c.m];exact hy) hb hg2.2 hg2.1.2) EO) (hs _)) hs (fun _=>rfl),YZ a2⟩
end
section
variable {Γ:Ct} {np:Nat} {fr fa fb fc fe:Bool} {f f' f'':DX} {c c':DT} {g:DA} {a b d e tg:Expr} {es:List Expr} {pos p p1 p2:Pos}
theorem Va(h:CE Γ e false f)(he:∀env whole,isTrue e env whole=(do let v <- whole;standAt e.pos;holding [v] (truthy v)):=by walk_at "q"):CT Γ e (AE f):=let ⟨_,a1,a2⟩:=h;⟨_,fun X c=>UL (a1 X c) (he _),W4 a2⟩
theorem Vb(h:CT Γ a c):CT Γ (.UnaryOp .Not a pos) (Am c):=let ⟨_,a1,a2⟩:=h;⟨_,fun X c=>UM (a1 X c),W5 a2⟩
theorem aD(h:CW Γ e c):CT Γ e c:=let ⟨_,a1,a2⟩:=h;⟨_,fun X c=>(a1 X c).pt,a2⟩
theorem cw_and1(h:CT Γ a c):CW Γ (.BoolOp .And [a] pos) c:=let ⟨_,a1,a2⟩:=h;⟨_,fun X c=>Q8 (a1 X c),a2⟩
theorem cw_or1(h:CT Γ a c):CW Γ (.BoolOp .Or [a] pos) c:=let ⟨_,a1,a2⟩:=h;⟨_,fun X c=>UI (a1 X c),a2⟩
theorem cw_and(h:CT Γ a c)(h':CW Γ (.BoolOp .And (b::es) pos) c'):CW Γ (.BoolOp .And (a::b::es) pos) (BI c c'):=let ⟨_,a1,a2⟩:=h;let ⟨_,b1,b2⟩:=h';⟨_,fun X c=>UJ (a1 X c) (b1 X c),W7 a2 b2⟩
theorem cw_or(h:CT Γ a c)(h':CW Γ (.BoolOp .Or (b::es) pos) c'):CW Γ (.BoolOp .Or (a::b::es) pos) (Be c c'):=let ⟨_,a1,a2⟩:=h;let ⟨_,b1,b2⟩:=h';⟨_,fun X c=>XT (a1 X c) (b1 X c),Zg a2 b2⟩
theorem Ve{i:Nat}(h:CT Γ a c):CT Γ a (Bj i c):=let ⟨_,a1,a2⟩:=h;⟨_,a1,W6 a2⟩
theorem WK{x:Str}{tb:List (Str×PyData)}(ha:CE Γ a false f)(h:kdQ Γ x tb:=by assumption)(hg:glQ Γ x:=by walk_at "dk")(hm:behindInMarks .In (.Name x p)=false:=by walk_at "q"):CE Γ (.Compare a [.In] [.Name x p] pos) false (QV tb f):=by
 obtain⟨_,b1,b2⟩:=ha;obtain⟨ad,h1,h2,h3⟩:=h
 exact⟨_,fun X c=>KJ (r:=PL ad tb) (RU (X:=X) (by rw[<- c.kw]at h2;exact h2) h3) (b1 X c) (EN (v:=.ref ad) (c.g x hg.1) (by rw[c.m];exact h1) rfl hg.2) hm,Yb b2⟩
abbrev kfQ(Γ:Ct)(x:Str)(tm:List (Str×Mir)):Prop:=∃ad tb,Γ.mg x=some (.ref ad)/\KF Γ.K Γ.K.w ad tb/\(ad==sysModules)=false/\TMs (Wv Γ.P Γ.K.w Γ.K Γ.mg Γ.base Γ.k) tb tm
theorem WL{x:Str}{tm:List (Str×Mir)}(ha:CE Γ a false f)(h:kfQ Γ x tm:=by walk_at "kf")(hg:glQ Γ x:=by walk_at "dk")(hm:behindInMarks .In (.Name x p)=false:=by walk_at "q"):CE Γ (.Compare a [.In] [.Name x p] pos) false (ON tm f):=by
 obtain⟨_,b1,b2⟩:=ha;obtain⟨ad,tb,h1,h2,h3,h4⟩:=h
 exact⟨_,fun X c=>KJ (r:=PJ ad tb false) (RT (X:=X) (by rw[<- c.kw]at h2;exact h2) h3) (b1 X c) (EN (v:=.ref ad) (c.g x hg.1) (by rw[c.m];exact h1) rfl hg.2) hm,Yc h4 b2⟩
theorem Qe{x:Str}{tm:List (Str×Mir)}(ha:CE Γ a false f)(hb:CA Γ (e::es) g)(h:kfQ Γ x tm:=by walk_at "kf")(hg:glQ Γ x:=by walk_at "dk")(hi:FI a:=by walk_at "q")(hs:B5 e es:=by walk_at "q")(hp:HV es pos:=by walk_at "q"):CE Γ (.Call (.Subscript (.Name x p) a p1) (e::es) [] pos) false (Gv tm f g):=by
 obtain⟨_,b1,b2⟩:=ha;obtain⟨_,g1,g2⟩:=hb;obtain⟨ad,tb,h1,h2,h3,h4⟩:=h
 refine⟨_,fun X c=>?_,R8 (ad:=ad) h4 b2 g2⟩
 have ft:=R0 c.rm
 rw[c.p,c.m,c.bs,show X.w=Γ.K.w from c.kw▸rfl,show X.K=Γ.K.fr from c.kw▸rfl]at ft
 exact Pj ft (LB (X7 (X:=X) (by rw[<- c.kw]at h2;exact h2)) (EN (v:=.ref ad) (c.g x hg.1) (by rw[c.m];exact h1) rfl hg.2) (b1 X c) hi) (g1 X c) (hs _) (hp _)
theorem Se{i:Nat}{x:Str}(h:Γ.N[i]?=some x:=by walk_at "q")(hi:i<Γ.own:=by walk_at "dk"):CG Γ (.Name x p) (dN i):=⟨_,fun X c=>RK c.nd (by rw[c.n];exact h) (c.l i x hi (by rw[c.n];exact h)).1 (c.l i x hi (by rw[c.n];exact h)).2,Fe⟩
theorem Sd:CGs Γ [] Au:=⟨_,fun _ _=>RJ,VH,NF⟩
theorem Qb{h1:DG}{h2}(a:CG Γ e h1)(b:CGs Γ es h2)(hs:∀env,(assignEach (e::es) env).map (·.2)=assign e env::(assignEach es env).map (·.2):=by walk_at "q"):CGs Γ (e::es) (AM h1 h2):=let ⟨_,a1,a2⟩:=a;let ⟨_,b1,b2,b3⟩:=b;⟨_,fun X c=>Pd (a1 X c) (b1 X c) (hs _),Rw a2 b2,Le b3⟩
theorem V2{j}{h1}(a:CGs Γ es h1)(hn:∀env,(assignEach es env).length=es.length:=by walk_at "q")(hst:∀env,(assignEach es env).findIdx? (·.1)=none:=by walk_at "q"):CG Γ (.Tuple es j pos) (dGT h1):=let ⟨t,a1,a2,a3⟩:=a;⟨Rx Γ.K es.length t,fun X c=>c.w (p:=fun K=>PG X _ (Rx K es.length t)) (UT c.ca (a1 X c) (hn _) (hst _)),YF a2 a3⟩
theorem SY(h:CE Γ e false f):CI Γ tg e (dIL f):=let ⟨t,a1,a2⟩:=h;⟨NS Γ.K t,fun X c=>c.w (p:=fun K=>PI X _ _ (NS K t)) (RH (a1 X c)),Rn a2⟩
theorem V0(h:CE Γ e false f):CI Γ tg e (dIT f):=let ⟨t,a1,a2⟩:=h;⟨Rv Γ.K t,fun X c=>c.w (p:=fun K=>PI X _ _ (Rv K t)) (UQ (a1 X c)),U9 a2⟩
theorem V1(h:CE Γ e false f):CI Γ tg e (dIS f):=let ⟨t,a1,a2⟩:=h;⟨_,fun X c=>US (a1 X c),VA a2⟩
theorem Yv(h:CA Γ [a] g)(hz:Γ.mg "range"=none:=by assumption)(hg:glQ Γ "range":=by walk_at "dk")(hs:B5 a []:=by walk_at "q"):CI Γ tg (.Call (.Name "range" p) [a] [] pos) (dR1 g):=let ⟨t,a1,a2⟩:=h;⟨_,fun X c=>Nx (c.g _ hg.1) (by rw[c.m];exact hz) (a1 X c) (hs _),OE a2⟩
end
section
variable {Γ:Ct} {np:Nat} {fr fa fb fc fe:Bool} {f f' f'':DX} {c c':DT} {g:DA} {a b d e tg it elt:Expr} {es ifs:List Expr} {pos p p1 p2:Pos}
def tgN:Expr->List Str
 |.Name x _=>[x]
 |.Tuple es _ _=>es.filterMap fun e=>match e with|.Name x _=>some x|_=>none
 |_=>[]
abbrev Ct.blk(Γ:Ct)(own:Nat)(fr:List Nat)(tg:Expr)(sc:Scope):Ct:={ Γ with own:=own,d:=false,N:=tgN tg++fr.map fun j=>Γ.N.getD j "",sc:=sc }
def lcQ(Γ:Ct)(own:Nat)(fr:List Nat)(tg:Expr)(sc:Scope):Bool :=
 let Δ:=Γ.blk own fr tg sc
 P7 Δ.N own fr sc Γ.N Γ.sc&&decide Δ.N.Nodup&&((List.range own).all fun i=>match Δ.N[i]? with|some x=>sc.names.lookup x==some .local|none=>false)&&decide (Δ.N.length=own+fr.length)
theorem Qo{X:Cx}(c:At Γ X){own:Nat}{fv:List Nat}{sc:Scope}(h:lcQ Γ own fv tg sc=true):OY X (Γ.blk own fv tg sc).N own fv sc:=by
 unfold lcQ at h
 simp only[Bool.and_eq_true]at h
 have o:=X3 (X:={ X with env:={ X.env with scope:=Γ.sc } }) (N:=Γ.N) c.n rfl h.1.1.1
 exact⟨o.kind,o.len,o.cell,o.names,fun x hx=>c.c x (o.free x hx),o.slot⟩
theorem Gw{X:Cx}(c:At Γ X){own:Nat}{fv:List Nat}{sc:Scope}(h:lcQ Γ own fv tg sc=true)(cl:List (Str×Addr))(fp:List Addr)(s3:Shared)(H3:Hp):At (Γ.blk own fv tg sc) (cxC X (Γ.blk own fv tg sc).N sc cl fp s3 H3):=by
 have o:=Qo c h
 unfold lcQ at h
 simp only[Bool.and_eq_true,decide_eq_true_eq,List.all_eq_true,List.mem_range]at h
 obtain⟨⟨⟨_,nd⟩,ow⟩,ln⟩:=h
 have ow':∀(i:Nat) (x:Str),i<own->(Γ.blk own fv tg sc).N[i]?=some x->sc.names.lookup x=some .local:=fun i x hi e=>by
  have:=ow i hi;rw[e]at this;exact eq_of_beq this
 refine⟨c.p,c.kw,c.m,c.bs,rfl,nd,c.rm,c.ca,PassesOwn.never,fun x hx=>?_,fun i x hi e=>⟨OA (ow' i x hi e),.inr (GO (ow' i x hi e))⟩,fun x h=>GO h,fun x h=>Q3 h,fun z=>(nomatch z),fun x h=>?_⟩
 ·obtain⟨i,hi⟩:=bw.mp hx
  by_cases hlt:i<own
  ·exact Nm (ow' i x hlt hi)
  ·have hl:i<(Γ.blk own fv tg sc).N.length:=(F'.mp hi).1
   obtain⟨k,rfl⟩:∃k,i=own+k:=⟨i-own,by omega⟩
   have hk:k<fv.length:=by have e:(Γ.blk own fv tg sc).N.length=own+fv.length:=ln;omega
   obtain⟨y,h1,_,h3⟩:=o.slot k fv[k] (aX hk)
   rw[show(cxC X (Γ.blk own fv tg sc).N sc cl fp s3 H3).N=(Γ.blk own fv tg sc).N from rfl]at hi
   rw[hi]at h1;cases h1
   exact Oc h3
 ·rcases h with h|h
  ·exact absurd rfl (o.cell _ (bA h))
  ·exact KC h
theorem SG:CTs Γ [] A7:=⟨_,fun _ _=>RC,W3⟩
theorem SF(h:CT Γ e c):CTs Γ [e] c:=let ⟨_,a1,a2⟩:=h;⟨_,fun X c=>RB (a1 X c),a2⟩
def CL(Γ:Ct)(elt tg it:Expr)(ifs:List Expr)(sc:Scope)(fr:Bool)(f:DX):Prop:=∃own fv wi g tc te,lcQ Γ own fv tg sc=true/\(∀X,At Γ X->PI X tg it wi)/\(∀X,At (Γ.blk own fv tg sc) X->PG X tg g)/\(∀X,At (Γ.blk own fv tg sc) X->PTs X ifs tc)/\(∀X,At (Γ.blk own fv tg sc) X->PE X elt te)/\E Γ.K (tLC own fv wi g tc te) fr f
abbrev LZ(it:Expr):Prop:=∀env x,foldedSetIterable it env x=pure x
theorem Y0{sc:Scope}(h:CL Γ elt tg it ifs sc fr f)(hs:LZ it:=by walk_at "q"):CE Γ (.ListComp elt [⟨tg,it,ifs,0⟩] sc pos) fr f:=let ⟨_,_,_,_,_,_,h0,h1,h2,h3,h4,h5⟩:=h;⟨_,fun X c=>Xa c.ca (Qo c h0) (h1 X c) (fun _ _ _ _=>h2 _ (Gw c h0 _ _ _ _)) (fun _ _ _ _=>h3 _ (Gw c h0 _ _ _ _)) (fun _ _ _ _=>h4 _ (Gw c h0 _ _ _ _)) (hs _),h5⟩
section
variable {sc:Scope} {own j:Nat} {fv f1 f2:List Nat} {di:DI} {dg:DG}
theorem aF(hi:CI Γ tg it di)(hg:CG (Γ.blk own fv tg sc) tg dg)(ht:CTs (Γ.blk own fv tg sc) ifs c)(he:CE (Γ.blk own fv tg sc) elt false f)(h:lcQ Γ own fv tg sc=true:=by walk_at "dk"):CL Γ elt tg it ifs sc fr (dLC own fv di dg c f):=let ⟨_,i1,i2⟩:=hi;let ⟨_,g1,g2⟩:=hg;let ⟨_,t1,t2⟩:=ht;let ⟨_,e1,e2⟩:=he;⟨_,_,_,_,_,_,h,i1,g1,t1,e1,(Z4 i2 g2 t2 e2).an⟩
theorem aE(hi:CI2 Γ tg it di)(hg:CG (Γ.blk own fv tg sc) tg dg)(ht:CTs (Γ.blk own fv tg sc) ifs c)(he:CE (Γ.blk own fv tg sc) elt false f)(h:lcQ Γ own fv tg sc=true:=by walk_at "dk"):CL Γ elt tg it ifs sc fr (dLC own fv di dg c f):=let ⟨_,i1,i2⟩:=hi;let ⟨_,g1,g2⟩:=hg;let ⟨_,t1,t2⟩:=ht;let ⟨_,e1,e2⟩:=he;⟨_,_,_,_,_,_,h,i1,g1,t1,e1,(YW i2 g2 t2 e2).an⟩
end
abbrev bsQ(o:Expr)(m:Str):Prop:=∀env,attributeBase o m env (eval o env)=eval o env
abbrev lnQ(a c:Pos):Prop:=(a.endLine==c.line)=true
abbrev fwQ(es:List Expr)(c:Pos):Prop:=∀env,((backTo c (starEach es env)).all (fun x=>!x.1)&&(backToKw c (keywordEach [] env)).all (fun x=>x.1.isSome)&&decide (es.length+([]:List Keyword).length+(if ([]:List Keyword).isEmpty then 0 else 1)<30))=true
theorem R4{e:Expr}{c:Pos}(hs:B5 e []):fwQ [e] c:=fun env=>by rw[hs];rfl
theorem Yz{i:Nat}{x m:Str}{G}(hm:CM Γ m G)(ha:CA Γ (e::es) g)(v:vrQ Γ i x:=by walk_at "dk")(hb:bsQ (.Name x p) m:=by walk_at "q")(hl:lnQ p1 pos:=by walk_at "q")(hw:fwQ (e::es) pos:=by walk_at "q")(hs:B5 e es:=by walk_at "q")(hp:HV es pos:=by walk_at "q"):CE Γ (.Call (.Attribute (.Name x p) m p1) (e::es) [] pos) false (dMt i G g):=by
 obtain⟨id,r,m1,m2,m3,m4⟩:=hm;obtain⟨t,a1,a2⟩:=ha
 exact⟨_,fun X c=>c.w (p:=fun K=>PE X _ (tBM K "list" r (FL i) t)) (LF PySem.F.plainAttrs_list m1 m2 (m3 X c) (c.var v) (a1 X c) (hb _) (hw _) hl (hs _) (hp _)),VU m4 a2⟩
theorem WD{i:Nat}{x m:Str}{G}(hm:CM Γ m G)(v:vrQ Γ i x:=by walk_at "dk")(hb:bsQ (.Name x p) m:=by walk_at "q")(hl:lnQ p1 pos:=by walk_at "q"):CE Γ (.Call (.Attribute (.Name x p) m p1) [] [] pos) false (dMt i G AD):=by
 obtain⟨id,r,m1,m2,m3,m4⟩:=hm
 exact⟨_,fun X c=>c.w (p:=fun K=>PE X _ (T4 K "list" r (FL i))) (Ub PySem.F.plainAttrs_list m1 m2 (m3 X c) (c.var v) (hb _) hl),YU m4⟩
theorem Vy:CM Γ "append" Ah:=⟨_,_,PySem.F.slot_list_append,PySem.F.type_list_append,fun _ _=>Js,P5⟩
theorem Vx:CM Γ "extend" Bq:=⟨_,_,PySem.F.slot_list_extend,PySem.F.type_list_extend,fun _ _=>N7,P4⟩
theorem Vw:CM Γ "reverse" Dc:=⟨_,_,PySem.F.slot_list_reverse,PySem.F.type_list_reverse,fun _ _=>MS,N8⟩
theorem Sg{x:Str}{j}(ha:CE Γ a false f)(hl:lnQ p1 pos:=by walk_at "q")(hs:B5 a []:=by walk_at "q"):CE Γ (.Call (.Attribute (.Constant (.str x) j p) "join" p1) [a] [] pos) false (Em x f):=by
 obtain⟨t,a1,a2⟩:=ha
 exact⟨_,fun X c=>c.w (p:=fun K=>PE X _ (tBM K "str" (PH K) (tC (.str x)) (Cs t Eo))) (LF bV PySem.F.slot_str_join PySem.F.type_str_join Rg KI (Cm (a1 X c) EO (hs _)) rfl (R4 hs _) hl (hs _) rfl),VW a2⟩
theorem WM(ha:CE Γ a false f)(hb:CE Γ b false f')(h1:bsQ a "index":=by walk_at "q")(hl:lnQ p1 pos:=by walk_at "q")(hs:B5 b []:=by walk_at "q"):CE Γ (.Call (.Attribute a "index" p1) [b] [] pos) false (dOp QO f f'):=by
 obtain⟨t,a1,a2⟩:=ha;obtain⟨u,b1,b2⟩:=hb
 exact⟨_,fun X c=>c.w (p:=fun K=>PE X _ (tBM K "str" UH t (Cs u Eo))) (LF bV PySem.F.slot_str_index PySem.F.type_str_index P1 (a1 X c) (Cm (b1 X c) EO (hs _)) (h1 _) (R4 hs _) hl (hs _) rfl),Yd a2 b2⟩
theorem Y6{x:Str}{j}(ha:CE Γ a false f)(hb:CE Γ b false f'){q1 q2 q3:Pos}:CE Γ (.JoinedStr [.FormattedValue a (-1) none q1,.Constant (.str x) j q2,.FormattedValue b (-1) none q3] pos) false (dF3 x f f'):=let ⟨_,a1,a2⟩:=ha;let ⟨_,b1,b2⟩:=hb;⟨_,fun X c=>Xb (a1 X c) (b1 X c),Z7 a2 b2⟩
theorem Vv:CO Γ (binaryOp .Add) false Ag:=⟨_,_,fun _ _=>Uo,Xw,id⟩
theorem Vm:CO Γ (binaryOp .Sub) false BJ:=⟨_,_,fun _ _=>Ud,Xi,id⟩
theorem Vp:CO Γ (binaryOp .Mult) false Gs:=⟨_,_,fun _ _=>RS,Xm,id⟩
theorem Vt:CO Γ (binaryOp .FloorDiv) false Af:=⟨_,_,fun _ _=>Po,Xu,id⟩
theorem Vq:CO Γ (binaryOp .Mod) false AW:=⟨_,_,fun _ _=>Uh,Xn,id⟩
theorem Vn:CO Γ (binaryOp .Pow) false OJ:=⟨_,_,fun _ _=>Ue,Xj,id⟩
theorem Vu:CO Γ (binaryOp .Add) fr OL:=⟨_,_,fun _ _=>Um,Xv,fun _=>rfl⟩
theorem SW:CO Γ (binaryOp .Add) false Cz:=⟨_,_,fun _ _=>MH,Uu,id⟩
theorem SV:CO Γ (binaryOp .Add) false HZ:=⟨M7 Γ.K,_,fun X c=>c.w (p:=fun K=>OpR X _ (M7 K)) RV,Ut,id⟩
theorem Yp:CO Γ (compareOp .Lt) false fLt:=⟨_,_,fun _ _=>Xd,Zm,id⟩
theorem Yq:CO Γ (compareOp .LtE) false fLe:=⟨_,_,fun _ _=>Xe,Zn,id⟩
theorem Ys:CO Γ (compareOp .Gt) false fGt:=⟨_,_,fun _ _=>Xf,Zo,id⟩
theorem Yt:CO Γ (compareOp .GtE) false fGe:=⟨_,_,fun _ _=>Xg,Zp,id⟩
theorem Yu:CO Γ (compareOp .Eq) false fEq:=⟨Q7 Γ.K,_,fun X c=>c.w (p:=fun K=>OpR X _ (Q7 K)) (Ul c.u),Zq,id⟩
theorem Yo:CO Γ (compareOp .NotEq) false fNe:=⟨Q5 Γ.K,_,fun X c=>c.w (p:=fun K=>OpR X _ (Q5 K)) (Ug c.u),Zl,id⟩
theorem Yr:CO Γ (compareOp .In) false (fIn false):=⟨MD Γ.K false,_,fun X c=>c.w (p:=fun K=>OpR X _ (MD K false)) (Uk c.u5),Xt,id⟩
theorem Vo:CO Γ (compareOp .NotIn) false (fIn true):=⟨MD Γ.K true,_,fun X c=>c.w (p:=fun K=>OpR X _ (MD K true)) (N1 c.u5),Xt,id⟩
theorem Vs:CO Γ (compareOp .In) false Kp:=⟨_,_,fun _ _=>N2,Xs,id⟩
theorem Vr:CO Γ (compareOp .Is) false Gg:=⟨_,_,fun _ _=>Ui,Xr,id⟩
theorem aB:CIx Γ A6:=⟨Nu Γ.K,fun X c=>c.w (p:=fun K=>IxR X (Nu K)) NN,Xq⟩
theorem Z9:CIx Γ AK:=⟨Q6 Γ.K,fun X c=>c.w (p:=fun K=>IxR X (Q6 K)) U5,Xo⟩
theorem aA:CIx Γ Hl:=⟨_,fun _ _=>U6,Xp⟩
theorem WU:CBt Γ "len" false Aj:=⟨_,fun xs H Q=>∃x n,xs=[x]/\OX Γ.K x H n/\Q (.int n) H,_,.inl ⟨_,rfl⟩,PySem.boot_len,fun X c=>c.w (p:=fun K=>B8 X (.builtin "len") (fun xs H Q=>∃x n,xs=[x]/\OX K x H n/\Q (.int n) H)) Ly,Y9,id⟩
theorem WY:CBt Γ "abs" false Hm:=⟨_,_,_,.inl ⟨_,rfl⟩,PyProof.Rows.boot_abs,fun _ _=>Qi,ZA,id⟩
theorem WV:CBt Γ "int" false Cy:=⟨_,_,_,.inr ⟨_,rfl⟩,PySem.Pv.boot_int,fun _ _=>OT,We,id⟩
theorem Sj:CBt Γ "list" fr By:=⟨_,fun xs H Q=>∃p ys,xs=[.ref p]/\(SqL Γ.K H p ys\/SqT Γ.K H p ys)/\∀l,H l=none->Q (.ref l) (upd H l (.lst ys)),_,.inr ⟨_,rfl⟩,PySem.Pv.boot_list,fun X c=>c.w (p:=fun K=>B8 X _ (fun xs H Q=>∃p ys,xs=[.ref p]/\(SqL K H p ys\/SqT K H p ys)/\∀l,H l=none->Q (.ref l) (upd H l (.lst ys)))) Kt,Wd,fun _=>rfl⟩
theorem WS:CBt Γ "tuple" false Fg:=⟨_,fun xs H Q=>∃p ys,xs=[.ref p]/\((SqL Γ.K H p ys/\∀l,H l=none->Q (.ref l) (upd H l (.tup ys)))\/(SqT Γ.K H p ys/\Q (.ref p) H)),_,.inr ⟨_,rfl⟩,PySem.Pv.boot_tuple,fun X c=>c.w (p:=fun K=>B8 X _ (fun xs H Q=>∃p ys,xs=[.ref p]/\((SqL K H p ys/\∀l,H l=none->Q (.ref l) (upd H l (.tup ys)))\/(SqT K H p ys/\Q (.ref p) H)))) Jc,Sm,id⟩
theorem WT:CBt Γ "str" false C5:=⟨_,_,_,.inr ⟨_,rfl⟩,PySem.Pv.boot_str,fun _ _=>Ks,Wc,id⟩
theorem WX:CBt Γ "all" false FW:=⟨_,NA Γ.K,_,.inl ⟨_,rfl⟩,PyProof.Rows.boot_all,fun X c=>c.w (p:=fun K=>B8 X _ (NA K)) (OV c.ca),Wg,id⟩
theorem WW:CBt Γ "any" false Lm:=⟨_,M9 Γ.K,_,.inl ⟨_,rfl⟩,PyProof.Rows.boot_any,fun X c=>c.w (p:=fun K=>B8 X _ (M9 K)) (OU c.ca),Wf,id⟩
end
end DL
end
section
namespace DL
open PySem L2 PySem.Spec PyProof.Rows
section
variable {Γ:Ct} {np:Nat} {fr fa fb fc fe:Bool} {f f' f'':DX} {c c':DT} {g:DA} {a b d e tg it elt:Expr} {es ifs:List Expr} {pos p p1 p2:Pos} {s:Stmt} {ss ss':List Stmt} {B1 B2:DB} {i j k:Nat} {x y z:Str}
theorem SI:CSs Γ np [] fr AR:=⟨_,fun _ _=>NC,Tj⟩
theorem Nb(h:CS Γ np s fr B1):CSs Γ np [s] fr B1:=let ⟨_,a1,a2⟩:=h;⟨_,fun X c=>NB (a1 X c),a2⟩
theorem Lv(h:CS Γ np s fr B1)(h':CSs Γ np ss fr B2):CSs Γ np (s::ss) fr (AI B1 B2):=let ⟨_,a1,a2⟩:=h;let ⟨_,b1,b2⟩:=h';⟨_,fun X c=>LA (a1 X c) (b1 X c),ZC a2 b2⟩
abbrev stQ(Γ:Ct)(i:Nat)(x:Str):Prop:=Γ.N[i]?=some x/\i<Γ.own
abbrev nSw(e:Expr)(t:Option Expr)(pos:Pos):Prop:=∀env,swapsWith e t pos.line env=pure false
theorem Kw{te:TE}(h:∀X,At Γ X->PE X e te)(v:stQ Γ i x)(hs:∀X,At Γ X->swapsWith e (some (.Name x p)) pos.line X.env=pure false):∀X,At Γ X->PS X (.Assign [.Name x p] e pos) (JM te (HX i)):=fun X c=>by
 have hi:X.N[i]?=some x:=by rw[c.n];exact v.1
 exact UN c.nd hi (c.l i x v.2 hi).1 (h X c) (hs X c) (c.l i x v.2 hi).2
theorem Vf(h:CE Γ e false f)(v:stQ Γ i x:=by walk_at "dk")(hs:nSw e (some (.Name x p)) pos:=by walk_at "q"):CS Γ np (.Assign [.Name x p] e pos) fr (AJ f (dN i)):=let ⟨_,a1,a2⟩:=h;⟨_,Kw a1 v fun _ _=>hs _,Qm a2 Fe⟩
theorem SJ(h:CE Γ e true f)(v:stQ Γ i x:=by walk_at "dk")(hs:nSw e (some (.Name x p)) pos:=by walk_at "q"):CS Γ np (.Assign [.Name x p] e pos) fr (BP np i f):=let ⟨_,a1,a2⟩:=h;⟨_,Kw a1 v fun _ _=>hs _,Ql a2⟩
theorem Vi(v:stQ Γ i x:=by walk_at "dk"):CS Γ np (.Assign [.Name x p] (.List [] p1) pos) fr (Gh np i):=⟨_,Kw (fun _ _=>Pf EO) v fun _ _=>rfl,ZF⟩
theorem SO(v:stQ Γ i x:=by walk_at "dk"):CS Γ np (.Assign [.Name x p] (.Dict [] [] p1) pos) fr (NY np i):=⟨_,Kw (fun _ _=>RL) v fun _ _=>rfl,Wm⟩
abbrev lsQ(Γ:Ct)(i:Nat)(x:Str)(p p1:Pos)(sc:Scope):Prop:=Γ.N[i]?=some x/\Γ.sc.names.lookup x=some .local/\Γ.d=true/\(p.line==p1.line&&!(sc.names.any fun(n,k)=>n==x&&(k==.local||k==.cell)))=true
theorem Tn{sc:Scope}{own:Nat}{fv:List Nat}{wi:TI}{g:TG}{tc:TT}{te:TE}(v:lsQ Γ i x p p1 sc)(hf:LZ it)(h0:lcQ Γ own fv tg sc=true)(h1:∀X,At Γ X->PI X tg it wi)(h2:∀X,At (Γ.blk own fv tg sc) X->PG X tg g)(h3:∀X,At (Γ.blk own fv tg sc) X->PTs X ifs tc)(h4:∀X,At (Γ.blk own fv tg sc) X->PE X elt te) :
  ∀X,At Γ X->PS X (.Assign [.Name x p] (.ListComp elt [⟨tg,it,ifs,0⟩] sc p1) pos) (fun D σ H=>tLC own fv wi g tc te σ H fun v H'=>D.nx (σ.set i (some v)) H'):=fun X c=>by
 obtain⟨v1,v2,v3,v4⟩:=v
 have hl:=c.ll x v2
 refine PU c.nd (by rw[c.n];exact v1) hl c.ca (Qo c h0) (h1 X c) (fun _ _ _ _=>h2 _ (Gw c h0 _ _ _ _)) (fun _ _ _ _=>h3 _ (Gw c h0 _ _ _ _)) (fun _ _ _ _=>h4 _ (Gw c h0 _ _ _ _)) ?_ (hf _)
 show(pure (X.env.blockKind==.function&&X.env.kindOf x==some .local&&p.line==p1.line&&!(sc.names.any fun(n,k)=>n==x&&(k==.local||k==.cell))):Sem Bool)=pure true
 rw[c.bk v3,show X.env.kindOf x=some .local from hl]
 rw[K']at v4
 rw[v4.1,v4.2];rfl
theorem Ym{sc:Scope}(h:CL Γ elt tg it ifs sc false f)(v:lsQ Γ i x p p1 sc:=by walk_at "dk")(hf:LZ it:=by walk_at "q"):CS Γ np (.Assign [.Name x p] (.ListComp elt [⟨tg,it,ifs,0⟩] sc p1) pos) fr (AJ f (dN i)):=let ⟨_,_,_,_,_,_,h0,h1,h2,h3,h4,h5⟩:=h;⟨_,Tn v hf h0 h1 h2 h3 h4,ZG h5⟩
theorem Vj{sc:Scope}(h:CL Γ elt tg it ifs sc true f)(v:lsQ Γ i x p p1 sc:=by walk_at "dk")(hf:LZ it:=by walk_at "q"):CS Γ np (.Assign [.Name x p] (.ListComp elt [⟨tg,it,ifs,0⟩] sc p1) pos) fr (BP np i f):=let ⟨_,_,_,_,_,_,h0,h1,h2,h3,h4,h5⟩:=h;⟨_,Tn v hf h0 h1 h2 h3 h4,Wn h5⟩
abbrev asQ(tg e:Expr)(pos:Pos):Prop:=∀env,swapsWithSole [tg] e pos.line env=pure false/\swappedStores [tg] e env=pure none/\(assignEach [tg] env).map (·.2)=[assign tg env]
theorem Vl{gt:DG}(h:CE Γ e false f)(hg:CG Γ tg gt)(hs:asQ tg e pos:=by walk_at "as"):CS Γ np (.Assign [tg] e pos) fr (AJ f gt):=let ⟨_,a1,a2⟩:=h;let ⟨_,b1,b2⟩:=hg;⟨_,fun X c=>PY (a1 X c) (b1 X c) (hs _).1 (hs _).2.1 (hs _).2.2,Qm a2 b2⟩
abbrev sbQ(o i:Expr)(pos:Pos):Prop:=∀env v,assign (.Subscript o i pos) env v=(do
   let ov <- holding [v] (eval o env)
   let iv <- holding [v,ov] (eval i env)
   standAt pos
   holding [v,ov,iv] (setItem ov iv v)
   release [v,ov,iv] [])
theorem Qn{o:Expr}{te to ti:TE}{t:Sv}(h:∀X,At Γ X->PE X e te)(ho:∀X,At Γ X->PE X o to)(hi:∀X,At Γ X->PE X d ti)(ht:∀X,At Γ X->Sw X t)(h1:sbQ o d p)(hs:asQ (.Subscript o d p) e pos):∀X,At Γ X->PS X (.Assign [.Subscript o d p] e pos) (JM te (Ry to ti t)):=fun X c=>PY (h X c) (UU (ho X c) (hi X c) (ht X c) (h1 _)) (hs _).1 (hs _).2.1 (hs _).2.2
theorem SN(h:CE Γ e false f)(hk:CE Γ d false f')(v:vrQ Γ i x:=by walk_at "dk")(h1:sbQ (.Name x p1) d p:=by walk_at "q")(hs:asQ (.Subscript (.Name x p1) d p) e pos:=by walk_at "as"):CS Γ np (.Assign [.Subscript (.Name x p1) d p] e pos) fr (JB i f f'):=let ⟨_,a1,a2⟩:=h;let ⟨_,b1,b2⟩:=hk;⟨_,Qn a1 (fun _ c=>c.var v) b1 (fun _ _=>XH) h1 hs,Wl a2 b2⟩
theorem SK(h:CE Γ e false f)(hk:CE Γ d false f')(v:vrQ Γ i x:=by walk_at "dk")(h1:sbQ (.Name x p1) d p:=by walk_at "q")(hs:asQ (.Subscript (.Name x p1) d p) e pos:=by walk_at "as"):CS Γ np (.Assign [.Subscript (.Name x p1) d p] e pos) fr (Dk i f f'):=let ⟨_,a1,a2⟩:=h;let ⟨_,b1,b2⟩:=hk;⟨_,Qn a1 (fun _ c=>c.var v) b1 (fun _ _=>O3) h1 hs,Wj a2 b2⟩
abbrev lvQ(Γ:Ct)(i:Nat)(x:Str):Prop:=Γ.N[i]?=some x/\Γ.sc.names.lookup x=some .local
abbrev fdQ(vs:List Expr):Prop:=(vs.any fun|.Starred ..=>true|_=>false)=false/\vs.all (foldedForSure 8)=false/\vs.all (constantsAlone 8)=false
theorem Vh{q1 q2 q3 q4:Pos}{k1 k2}(h:CA Γ [a,b] g)(v:lvQ Γ i x/\lvQ Γ j y/\i≠j/\x≠y/\Γ.d=true/\q2.line=q1.line:=by walk_at "dk")(hw:fdQ [a,b]:=by walk_at "fd"):CS Γ np (.Assign [.Tuple [.Name x q1,.Name y q2] k1 q3] (.Tuple [a,b] k2 q4) pos) fr (BN i j g):=by
 obtain⟨t,a1,a2⟩:=h;obtain⟨⟨v1,v2⟩,⟨v3,v4⟩,v5,v6,v7,v8⟩:=v;obtain⟨w1,w2,w3⟩:=hw
 refine⟨_,fun X c=>UO c.ca c.nd (by rw[c.n];exact v1) (by rw[c.n];exact v3) v5 (c.ll x v2) (c.ll y v4) (a1 X c) ?_ rfl,ZE a2⟩
 unfold swappedStores
 simp only[c.bk v7,List.length_cons,List.length_nil,w1,w2,w3,List.head?_cons,Option.map_some,Option.getD_some,Expr.pos,List.filterMap_cons,List.filterMap_nil,show X.env.kindOf x=some .local from c.ll x v2,show X.env.kindOf y=some .local from c.ll y v4,v8,beq_self_eq_true,Bool.and_true,Bool.and_self,if_true,List.eraseDups_cons]
 simp[List.eraseDups,List.eraseDupsBy,List.eraseDupsBy.loop,v6,Ne.symm v6]
 intro h
 simp only[List.any_cons,List.any_nil,Bool.or_false,Bool.or_eq_false_iff]at w1
 rcases h with h|h
 ·exact Bool.noConfusion (h.symm.trans w1.1)
 ·exact Bool.noConfusion (h.symm.trans w1.2)
theorem SQ(h:CE Γ e false f)(hs:nSw e none pos:=by walk_at "q"):CS Γ np (.Expr e pos) fr (Av f):=let ⟨_,a1,a2⟩:=h;⟨_,fun X c=>RD (a1 X c) (hs _),Wo a2⟩
theorem Vg(h:CE Γ e fr f):CS Γ np (.Return (some e) pos) fr (AL f):=let ⟨_,a1,a2⟩:=h;⟨_,fun X c=>PV (a1 X c),ZD a2 id⟩
theorem SM(v:vrQ Γ i x:=by walk_at "dk"):CS Γ np (.Return (some (.Name x p)) pos) fr (Dl np i):=⟨_,fun _ c=>PV (c.var v),Wk⟩
theorem Yn(h:CT Γ e c)(h1:CSs Γ np ss fr B1)(h2:CSs Γ np ss' fr B2):CS Γ np (.If e ss ss' pos) fr (AQ c B1 B2):=let ⟨_,a1,a2⟩:=h;let ⟨_,b1,b2⟩:=h1;let ⟨_,d1,d2⟩:=h2;⟨_,fun X c=>TV (a1 X c) (b1 X c) (d1 X c),aI a2 b2 d2⟩
theorem Qa{n:DS->Nat}(h:CT Γ e c)(h1:CSs Γ np ss fr B1):CS Γ np (.While e ss [] pos) fr (Fh n c B1):=let ⟨_,a1,a2⟩:=h;let ⟨_,b1,b2⟩:=h1;⟨_,fun X c=>PR c.po (a1 X c) (b1 X c),So a2 b2⟩
theorem Vk{di:DI}{dg:DG}(h:CI Γ tg it di)(hg:CG Γ tg dg)(h1:CSs Γ np ss fr B1)(hs:LZ it:=by walk_at "q"):CS Γ np (.For tg it ss [] pos) fr (B0 di dg B1):=let ⟨_,a1,a2⟩:=h;let ⟨_,g1,g2⟩:=hg;let ⟨_,b1,b2⟩:=h1;⟨_,fun X c=>UP c.po c.ca (a1 X c) (g1 X c) (b1 X c) (hs _),ZH a2 g2 b2⟩
end
def scB(N ps:List Str)(sc:Scope):Bool:=decide (sc.kind = .function)&&decide (sc.isCoroutine=false)&&decide (sc.isGenerator=false)&&decide N.Nodup&&decide (N.take ps.length=ps)&&(N.all fun x=>decide (Loc sc x))&&(sc.names.all fun y=>decide (y.2≠.free))
theorem O4{N ps:List Str}{sc:Scope}(h:scB N ps sc=true):FJ N ps sc/\∀x∈N,Loc sc x:=by
 unfold scB at h
 simp only[Bool.and_eq_true,decide_eq_true_eq,List.all_eq_true]at h
 obtain⟨⟨⟨⟨⟨⟨h1,h2⟩,h3⟩,h4⟩,h5⟩,h6⟩,h7⟩:=h
 exact⟨⟨h1,h2,h3,h4,h5,fun x hx=>h6 x (List.mem_of_mem_take (by rw[h5];exact hx)),h7⟩,h6⟩
theorem Wq{P:Program}{w:World}{K:PySem.W.Frag}{mg:Str->Option Value}{base:Heap}{N ps:List Str}{x:Str}{sc:Scope}{f:Addr}{cd:Value}{A:Around}{outer:List Env}{s:Shared}{H:Hp}{E:XK}{k:Nat}(S:FJ N ps sc)(l:∀x∈N,Loc sc x)(hr:Room k (A.deeper (envOfC x sc s.heap.objs.size f cd))):At ⟨P,⟨K,w⟩,mg,base,k,N.length,true,N,sc⟩ (JF CX0 P w K mg base N x sc f cd A outer s H E).nox where
 p:=rfl
 kw:=rfl
 m:=rfl
 bs:=rfl
 n:=rfl
 nd:=S.nd
 rm:=hr
 ca:=rfl
 po:=PassesOwn.never
 v:=fun x hx=>viL (l x hx)
 l:=fun i x _ e=>⟨l x (aO e),.inl rfl⟩
 ll:=fun _ h=>h
 g:=fun _ h=>h
 bk:=fun _=>by show Env.blockKind (envOfC x sc s.heap.objs.size f cd)=_;unfold Env.blockKind;rw[show(envOfC x sc s.heap.objs.size f cd).scope.kind = .function from S.kind];rfl
 c:=fun _ h=>h
theorem AO{P:Program}{w:World}{K:PySem.W.Frag}{mg:Str->Option Value}{base:Heap}{x:Str}{st:Stmt}{f:Addr}{fd:FuncData}{ps:List Str}{k np nl:Nat}{fr:Bool}{b:DB}(N:List Str)(F:Fun K x x st f fd)(hb:CSs ⟨P,⟨K,w⟩,mg,base,k,N.length,true,N,Ak st⟩ np (Bh st) fr b)(hs:scB N ps (Ak st)=true:=by walk_at "dk")(hn:N.length=np+nl/\np=ps.length:=by walk_at "dk"):FnOk P w K mg base CX0 (k+1) f fd ps (spD ⟨K,w⟩ (AX fr np nl b) fr):=by
 obtain⟨S,l⟩:=O4 hs;obtain⟨t,h1,h2⟩:=hb
 exact F.ok S (fun vs H Q E h=>(VP Lr h).trans hn.2) fun cdv A outer s H vs Q E hr h=>⟨t,h1 _ (Wq S l hr),VO h2 hn.1 h⟩
section
variable {Γ:Ct} {np:Nat} {fr fa fb fc fe:Bool} {f f' f'':DX} {c c':DT} {g:DA} {a b d e tg it elt:Expr} {es ifs:List Expr} {pos p p1 p2:Pos} {s:Stmt} {ss ss':List Stmt} {i j k:Nat} {x y z:Str} {cls:Nat->Addr} {B1 B2:DBX}
structure AtR(Γ:Ct)(E:XK)(X:Cx):Prop where
 ra:∀C,JJ X C E
 pa:HE (CXr Γ.P Γ.K.w) X E
def CX(Γ:Ct)(cls:Nat->Addr)(np:Nat)(s:Stmt)(fr:Bool)(f:DBX):Prop:=∀E:XK,∃t,(∀X,At Γ X->AtR Γ E X->PS X s t)/\BX Γ.K np (fun n H=>E (.ref (cls n)) none H) t fr f
def CXs(Γ:Ct)(cls:Nat->Addr)(np:Nat)(s:List Stmt)(fr:Bool)(f:DBX):Prop:=∀E:XK,∃t,(∀X,At Γ X->AtR Γ E X->PSs X s t)/\BX Γ.K np (fun n H=>E (.ref (cls n)) none H) t fr f
theorem SE:CXs Γ cls np [] fr (xOf AR):=fun _=>⟨_,fun _ _ _=>NC,Wy Tj⟩
theorem Na(h:CX Γ cls np s fr B1):CXs Γ cls np [s] fr B1:=fun E=>let ⟨_,a1,a2⟩:=h E;⟨_,fun X c r=>NB (a1 X c r),a2⟩
theorem Lu(h:CX Γ cls np s fr B1)(h':CXs Γ cls np ss fr B2):CXs Γ cls np (s::ss) fr (Gm B1 B2):=fun E=>let ⟨_,a1,a2⟩:=h E;let ⟨_,b1,b2⟩:=h' E;⟨_,fun X c r=>LA (a1 X c r) (b1 X c r),Wx a2 b2⟩
theorem Yk{b:DB}(h:CS Γ np s fr b):CX Γ cls np s fr (xOf b):=fun E=>let ⟨_,a1,a2⟩:=h;⟨_,fun X c _=>a1 X c,Wy a2⟩
theorem Yl(h:CT Γ e c)(h1:CXs Γ cls np ss fr B1)(h2:CXs Γ cls np ss' fr B2):CX Γ cls np (.If e ss ss' pos) fr (xIf c B1 B2):=fun E=>let ⟨_,a1,a2⟩:=h;let ⟨_,b1,b2⟩:=h1 E;let ⟨_,d1,d2⟩:=h2 E;⟨_,fun X c r=>TV (a1 X c) (b1 X c r) (d1 X c r),ZT a2 b2 d2⟩
abbrev clQ(Γ:Ct)(cls:Nat->Addr)(n:Nat)(x:Str):Prop:=Γ.mg x=some (.ref (cls n))/\PySem.W.excIn Γ.K (cls n) [.type "ValueError",.type "Exception",.type "BaseException",.type "object"] "ValueError.__new__"=true
theorem QW{n:Nat}{m:Str}{j'}(h:clQ Γ cls n x:=by assumption)(hg:glQ Γ x:=by walk_at "dk"):CX Γ cls np (.Raise (some (.Call (.Name x p) [.Constant (.str m) j' p1] [] p2)) none pos) fr (L1 n):=fun E =>
 ⟨L7 (cls n) E (Cs (tC (.str m)) Eo),fun X c r=>PX (Cm KI EO) (r.ra _) (c.g x hg.1) (by rw[c.m];exact h.1) (by rw[show X.K=Γ.K.fr from c.kw▸rfl];exact h.2) PySem.F.excBase_ValueError c.rm.hd rfl hg.2 rfl,Qw fun _ h=>h⟩
section
variable {ps:List Str} {G:List PyData->Option (PyData ⊕ Nat)}
end
end
end DL
end
section
namespace L2
open PySem PySem.Spec PyProof.Rows
def DE(K:PySem.W.Frag)(x:Str)(st:Stmt):Prop:=∃f fd,DF K x st f fd
abbrev bnQ(x:Str)(st:Stmt)(ps:List Str):Prop:=∀(kV doc pm:Value) (an:Option Addr) (cdv ct:Value) (us:List Value),us.length=ps.length->bindArgs (PySem.W.fnOf x x (Cq st) (Bh st) (Ak st) .none kV doc pm an cdv ct) ⟨us,[]⟩=pure (ps.zip us)
section
variable {P:Program} {w:World} {K:PySem.W.Frag} {x:Str} {st:Stmt} {h base:Heap} {mg:Str->Option Value} {k:Nat} {ps:List Str} {sp:Sp}
theorem DE.cal(d:DE K x st)(X:K.In h)(G:h.Ns mainGlobals mg)(o:∀f fd,Fun K x x st f fd->FnOk P w K mg base CX0 k f fd ps sp)(b:bnQ x st ps:=by trivial):Cal P w K mg base k x ps sp:=let ⟨_,_,d⟩:=d;d.cal X G (o _ _ d.2) b
theorem DE.xc(d:DE K x st)(X:K.In h)(G:h.Ns mainGlobals mg)(o:∀f fd,Fun K x x st f fd->FnOk P w K mg base (CXr P w) k f fd ps sp)(b:bnQ x st ps:=by trivial):∃f fd,FnOk P w K mg base (CXr P w) k f fd ps sp/\mg x=some (.ref f)/\PySem.W.keepIn K (.ref f)=true/\Binds K fd ps []:=let ⟨_,_,d⟩:=d;⟨_,_,o _ _ d.2,d.m X G,d.2.kp,d.b b⟩
theorem DE.law{fa:Addr}{y:Str}(d:DE K x st)(X:K.In h)(G:h.Ns mainGlobals mg)(hf:mg x=some (.ref fa))(o:∀base f fd,Fun K x x st f fd->FnOk P w K mg base CX0 k f fd [y] sp)(b:∀(kV doc pm:Value) (an:Option Addr) (cdv ct v:Value),bindArgs (PySem.W.fnOf x x (Cq st) (Bh st) (Ak st) .none kV doc pm an cdv ct) ⟨[v],[]⟩=pure [(y,v)]:=by intros;rfl) :
  ∃fd:FuncData,(∀(s:Shared) (v:Value),BindsTo s fd ⟨[v],[]⟩ [(y,v)])/\∀base:Heap,K.In base->base.Ns mainGlobals mg->FnOk P w K mg base CX0 k fa fd [y] sp:=by
 obtain⟨f,fd,d⟩:=d
 have e:=hf.symm.trans (d.m X G)
 cases e
 obtain⟨_,⟨⟨oc,od,kV,doc,pm,an,cdv,ct,osl,rfl,lk,hcd⟩,kp⟩⟩:=id d
 exact⟨_,fun s v=>.of_eq (b _ _ _ _ _ _ _),fun base _ _=>o base _ _ d.2⟩
end
end L2
namespace DL
open PySem L2 PySem.Spec PyProof.Rows
structure Zz where
 P:Program
 w:World
 K:PySem.W.Frag
 mg:Str->Option Value
 base:Heap
abbrev Zz.kw(Z:Zz):KW:=⟨Z.K,Z.w⟩
abbrev Clz(Z:Zz)(k:Nat)(x:Str)(ps:List Str)(m:Mir)(fr:Bool):Prop:=Cal Z.P Z.w Z.K Z.mg Z.base k x ps (spD Z.kw m fr)
abbrev Xl(Z:Zz)(cls:Nat->Addr)(k:Nat)(x:Str)(ps:List Str)(m:List PyData->Option (PyData ⊕ Nat))(fr:Bool):Prop:=∃f fd,FnOk Z.P Z.w Z.K Z.mg Z.base (CXr Z.P Z.w) k f fd ps (spO Z.kw m cls fr)/\Z.mg x=some (.ref f)/\PySem.W.keepIn Z.K (.ref f)=true/\Binds Z.K fd ps []
abbrev zQ(Z:Zz)(x:Str):Prop:=Z.mg x=none
abbrev kiZ(Z:Zz)(x:Str)(i:Int)(t:Tok):Prop:=Z.mg x=some (.int i t)
abbrev kaZ(Z:Zz)(x:Str)(d:PyData)(u:Value):Prop:=Z.mg x=some u/\Ax Z.kw d u=true
abbrev kdZ(Z:Zz)(x:Str)(tb:List (Str×PyData)):Prop:=∃ad,Z.mg x=some (.ref ad)/\KD Z.kw Z.w ad tb/\(ad==sysModules)=false
abbrev kfZ(Z:Zz)(k:Nat)(x:Str)(tm:List (Str×Mir)):Prop:=∃ad tb,Z.mg x=some (.ref ad)/\KF Z.kw Z.w ad tb/\(ad==sysModules)=false/\TMs (Wv Z.P Z.w Z.K Z.mg Z.base k) tb tm
abbrev clZ(Z:Zz)(cls:Nat->Addr)(n:Nat)(x:Str):Prop:=Z.mg x=some (.ref (cls n))/\PySem.W.excIn Z.K (cls n) [.type "ValueError",.type "Exception",.type "BaseException",.type "object"] "ValueError.__new__"=true
def Dd(Z:Zz)(x:Str)(st:Stmt):Prop:=∃h,Z.K.In h/\h.Ns mainGlobals Z.mg/\DE Z.K x st
section
variable {Z:Zz} {x:Str} {st:Stmt} {k:Nat} {ps:List Str}
theorem Dd.cal{sp:Sp}(d:Dd Z x st)(o:∀f fd,Fun Z.K x x st f fd->FnOk Z.P Z.w Z.K Z.mg Z.base CX0 k f fd ps sp)(b:bnQ x st ps:=by trivial):Cal Z.P Z.w Z.K Z.mg Z.base k x ps sp:=let ⟨_,X,G,d⟩:=d;d.cal X G o b
theorem Dd.xc{cls:Nat->Addr}{m:List PyData->Option (PyData ⊕ Nat)}{fr:Bool}(d:Dd Z x st)(o:∀f fd,Fun Z.K x x st f fd->FnOk Z.P Z.w Z.K Z.mg Z.base (CXr Z.P Z.w) k f fd ps (spO Z.kw m cls fr))(b:bnQ x st ps:=by trivial):Xl Z cls k x ps m fr:=let ⟨_,X,G,d⟩:=d;d.xc X G o b
end
end DL
end
section
namespace L2
open PySem PySem.Spec PyProof.Rows PySem.W DL
section
variable {X:Cx} {k:Nat} {f:Addr} {fd:FuncData} {ps:List Str} {x n cn:Str} {e:Expr} {es:List Expr} {t:TA} {pos p p1 p2 py np hp p9 p0:Pos} {D' C:Addr} {i j:Nat} {b₀:Stmt} {suite:List Stmt}
end
end L2
namespace DL
open PySem L2
end DL
end
section
namespace DL
open PySem L2 PySem.Spec PyProof.Rows
def Ln(G:List PyData->Option (PyData ⊕ Nat))(ds:List PyData):Option (PyData ⊕ Nat):=match G ds with
 |some (.inl .none)=>none
 |r=>r
theorem Jw{G:List PyData->Option (PyData ⊕ Nat)}{ds:List PyData}{r:PyData ⊕ Nat}(h:Ln G ds=some r):G ds=some r/\r≠.inl .none:=by
 unfold Ln at h
 split at h
 ·cases h
 ·rename_i hn;exact⟨h,fun z=>hn (by rw[h,z])⟩
theorem SD{G:List PyData->Option (PyData ⊕ Nat)}{ds:List PyData}{r:PyData ⊕ Nat}(h:G ds=some r)(hn:r≠.inl .none):Ln G ds=some r:=by
 unfold Ln
 rw[h]
 split
 ·rename_i e;exact absurd (A' e) hn
 ·rfl
theorem R3{K:KW}{np nl:Nat}{t:TS}{f:DBX}{N:List Str}{cls:Nat->Addr}{vs:List V}{H:Hp}{Q:VK}{E:XK}(hb:BX K np (fun n H=>E (.ref (cls n)) none H) t true f)(hN:N.length=np+nl)(h:spO K (Ln (Gi np nl f)) cls true vs H Q E):t { nx:=fun _ H'=>Q .non H',rt:=Q } (start N vs) H:=by
 obtain⟨S,ds,r,l,hS,e,q⟩:=h
 obtain⟨e,hr⟩:=Jw e
 unfold Gi at e
 split at e
 ·rename_i h1
  obtain⟨o,e1,e⟩:=oB e
  have est:start N vs=vs.map some++List.replicate nl none:=by
   unfold L2.start
   rw[hN,l.length,h1,Nat.add_sub_cancel_left]
  rw[est]
  have r0:R K S (fun _=>False) ((ds.map L.d).map some++List.replicate nl none) (vs.map some++List.replicate nl none) H:=by
   refine ZN (by simp[l.length]) (fun i l' h=>?_) hS
   by_cases hi:i<ds.length
   ·rw[aS (by simpa using hi),G',G',aX hi]at h
    cases h
    obtain⟨v,h2,h3⟩:=l.get (aX hi)
    refine⟨_,v,rfl,?_,h3⟩
    rw[aS (by rw[B',l.length];exact hi),G',h2];rfl
   ·rw[aV (by simpa using hi),aj]at h
    split at h<;>cases h
  have f0:RF K ⟨S,fun _=>False,H,[]⟩ S (fun _=>False) ((ds.map L.d).map some++List.replicate nl none) (vs.map some++List.replicate nl none) H :=
   ⟨r0,fun _ h=>h,fun _ _ h _=>h,fun _ h=>h.elim,fun _ h=>h.elim,hS,fun _ h=>h.elim,fun _ h=>.inl h,fun _ _ h=>(by simp at h),fun _ _ h=>(by simp at h),fun _ h=>h.elim⟩
  refine hb _ S _ _ _ H _ o (bH _) (fun _ h=>h) f0 e1 ?_
  cases o with
  |inr n=>cases e;exact q
  |inl o =>
   cases o with
   |nx t7=>cases e;exact absurd rfl hr
   |bk t7=>cases e
   |ct t7=>cases e
   |rt d t7=>cases e;exact fun S' M' σ' H' v f' r'=>q v H' (f'.sm fun _ h=>h) r'
 ·cases e
theorem Qy{K:KW}{np nl:Nat}{f:DBX}{cls:Nat->Addr}{ps:List Str}{fr:Bool}(hn:ps.length=np)(vs:List V)(H:Hp)(Q:VK)(E:XK)(h:spO K (Ln (Gi np nl f)) cls fr vs H Q E):vs.length=ps.length:=by
 obtain⟨S,ds,r,l,hS,e,q⟩:=h
 exact Qx hn vs H Q E ⟨S,ds,r,l,hS,(Jw e).1,q⟩
theorem RZ{P:Program}{w:World}{K:PySem.W.Frag}{mg:Str->Option Value}{base:Heap}{x:Str}{st:Stmt}{f:Addr}{fd:FuncData}{ps:List Str}{k np nl:Nat}{b:DBX}{cls:Nat->Addr}(N:List Str)(F:Fun K x x st f fd)(hb:CXs ⟨P,⟨K,w⟩,mg,base,k,N.length,true,N,Ak st⟩ cls np (Bh st) true b)(hs:scB N ps (Ak st)=true:=by walk_at "dk")(hn:N.length=np+nl/\ps.length=np:=by walk_at "dk"):FnOk P w K mg base (CXr P w) (k+1) f fd ps (spO ⟨K,w⟩ (Ln (Gi np nl b)) cls true):=by
 obtain⟨S,l⟩:=O4 hs
 refine F.okX S (Qy hn.2) fun cdv A outer s H vs Q E hr h=>?_
 obtain⟨t,h1,h2⟩:=hb E
 refine⟨t,h1 _ ⟨rfl,rfl,rfl,rfl,rfl,S.nd,hr,rfl,PassesOwn.leaving,fun x hx=>viL (l x hx),fun i x _ e=>⟨l x (aO e),.inl rfl⟩,fun _ h=>h,fun _ h=>h,fun _=>?_,fun _ h=>h⟩ ⟨fun C=>K8,MG⟩,R3 h2 hn.1 h⟩
 show Env.blockKind (envOfC x (Ak st) s.heap.objs.size f cdv)=_;unfold Env.blockKind;rw[show(envOfC x (Ak st) s.heap.objs.size f cdv).scope.kind = .function from S.kind];rfl
def QT:List L->Option (List PyData)
 |[]=>some []
 |.d d::ls=>(QT ls).map (d::·)
 |_=>none
theorem QS:∀{ls:List L} {ds:List PyData},QT ls=some ds->ls=ds.map .d:=by
 intro ls
 induction ls with
 |nil=>intro ds h;cases h;rfl
 |cons l ls ih =>
  intro ds h
  cases l with
  |d x =>
   obtain⟨r,h1,rfl⟩:=oM h
   rw[ih h1];rfl
  |_=>cases h
def mO(G:List PyData->Option (PyData ⊕ Nat))(ls:List L):Option (PyData×List L):=(QT ls).bind fun ds=>match G ds with
 |some (.inl d)=>some (d,ls)
 |_=>none
theorem Ri{G:List PyData->Option (PyData ⊕ Nat)}{ls ls':List L}{r:PyData}(h:mO G ls=some (r,ls')):∃ds,ls=ds.map .d/\ls'=ls/\G ds=some (.inl r):=by
 unfold mO at h
 obtain⟨ds,h1,h⟩:=oB h
 refine⟨ds,QS h1,?_⟩
 split at h
 ·rename_i e;cases h;exact⟨rfl,e⟩
 ·cases h
theorem SA(ds:List PyData):QT (ds.map .d)=some ds:=by
 induction ds with
 |nil=>rfl
 |cons d ds ih=>rw[X',QT,ih];rfl
theorem X2{G:List PyData->Option (PyData ⊕ Nat)}{ds:List PyData}{r:PyData}(h:G ds=some (.inl r)):mO G (ds.map .d)=some (r,ds.map .d):=by
 unfold mO
 rw[SA,cR,h]
theorem VB{K:KW}{S M:Addr->Prop}{H:Hp}{ds:List PyData}{vs:List V}(h:R K S M ((ds.map L.d).map some) (vs.map some) H):IsL K (hid S H) ds vs:=by
 have hl:vs.length=ds.length:=by have:=h.len;rw[B',B',B']at this;exact this
 have hd:∀i (d:PyData),ds[i]?=some d->∃v,vs[i]?=some v/\Is K (hid S H) d v:=fun i d e=>by
  obtain⟨v,h1,h2⟩:=h.dat i d (by rw[G',G',e];rfl)
  rw[G']at h1
  cases q:vs[i]? with
  |none=>rw[q]at h1;cases h1
  |some u=>rw[q]at h1;cases h1;exact⟨_,q,h2⟩
 clear h
 induction ds generalizing vs with
 |nil=>cases vs with
  |nil=>rfl
  |cons _ _=>cases hl
 |cons d ds ih=>cases vs with
  |nil=>cases hl
  |cons v vs =>
   obtain⟨u,h1,h2⟩:=hd 0 d rfl
   cases h1
   exact⟨v,vs,rfl,h2,ih (Nat.succ.inj hl) fun i d e=>hd (i+1) d e⟩
theorem Pr{P:Program}{w:World}{K:PySem.W.Frag}{mg:Str->Option Value}{base:Heap}{k:Nat}{f:Addr}{fd:FuncData}{ps:List Str}{G:List PyData->Option (PyData ⊕ Nat)}{cls:Nat->Addr}{fr:Bool}(F:FnOk P w K mg base (CXr P w) k f fd ps (spO ⟨K,w⟩ G cls fr)):FnOk P w K mg base CX0 k f fd ps (spD ⟨K,w⟩ (mO G) fr):=by
 have key:∀vs H Q E,spD ⟨K,w⟩ (mO G) fr vs H Q E->spO ⟨K,w⟩ G cls fr vs H Q fun _ _ _=>False:=fun vs H Q E h=>by
  obtain⟨S,M,ls,r,ls',hR,hG,hq⟩:=h
  obtain⟨ds,rfl,rfl,e⟩:=Ri hG
  exact⟨S,ds,_,VB hR,hR.ex,e,fun v H' s i=>hq v H' (hR.same s) (.of s) i⟩
 refine⟨fun vs H Q E h=>F.len _ _ _ _ (key vs H Q E h),fun A outer s H args us vs Q E hr he hb hv h=>?_⟩
 refine codeAny_mono (F.run A outer s H args us vs Q _ hr he hb hv (key vs H Q E h)) fun r s' q=>?_
 cases r with
 |ok fl=>cases fl<;>exact q
 |error e=>obtain⟨_,_,_,_,_,_,_,_,_,_,z⟩:=q;exact z.elim
section
variable {Z:Zz} {cls:Nat->Addr} {k:Nat} {x:Str} {ps:List Str} {m:List PyData->Option (PyData ⊕ Nat)} {fr:Bool}
theorem Xl.plain(h:Xl Z cls k x ps m fr):Clz Z k x ps (mO m) fr:=let ⟨f,fd,F,a,b,c⟩:=h;⟨f,fd,Pr F,c,b,a⟩
end
section
variable {K:KW} {np:Nat}
end
section
variable {Γ:Ct} {np:Nat} {fr:Bool} {f:DX} {c:DT} {g:DA} {a b e:Expr} {es:List Expr} {pos p p1 p2 p3:Pos} {i k:Nat} {x y m:Str}
variable {go:List PyData->List PyData->Option (List PyData)}
end
end DL
end
section
namespace L2
open PySem PySem.Spec PyProof.Rows
section
variable {X:Cx}
def M5:V->List V->Hp->VK->Prop:=fun x xs H Q=>∃s y,x = .str s/\xs=[.str y]/\Q (.bl (Txt.startswith s y)) H
theorem N6:MtR X "str.startswith" M5:=by
 intro pins s σ H x xs v us Q I rx rs h
 obtain⟨z,y,rfl,rfl,q⟩:=h
 obtain⟨t,rfl⟩:=rx
 obtain⟨u,rfl,ru⟩:=DH rs
 obtain⟨t',rfl⟩:=ru
 exact SC.startswith ⟨.bl _,H,I,rfl,q⟩
theorem Jh:∀(l:List Str) (k:Nat),Vals (l.map V.str) (strsFrom k l)
 |[],_=>.nil
 |x::l,k=>.cons ⟨_,rfl⟩ (Jh l _)
def PF:V->List V->Hp->VK->Prop:=fun x xs H Q=>∃s y,x = .str s/\xs=[.str y]/\(y.length==0)=false/\s.length<=sizeLine/\(Txt.split s y).length<=sizeLine/\∀l,H l=none->Q (.ref l) (upd H l (.lst ((Txt.split s y).map V.str)))
theorem Pz:MtR X "str.split" PF:=by
 intro pins s σ H x xs v us Q I rx rs h
 obtain⟨z,y,rfl,rfl,hy,hz,hl,q⟩:=h
 obtain⟨t,rfl⟩:=rx
 obtain⟨u,rfl,ru⟩:=DH rs
 obtain⟨t',rfl⟩:=ru
 have fin:∀(its:List Value) (tk:Nat),Vals ((Txt.split z y).map V.str) its->∃(w:V) (H':Hp),Inv X pins σ H' { s with heap:=s.heap.push { cls:=.type "list",data:=.seq its.toArray },toks:=tk }/\RelV w (.ref s.heap.objs.size)/\Q w H':=fun its tk hv =>
  ⟨.ref s.heap.objs.size,_,I.laid (t':=tk) (o:=.lst ((Txt.split z y).map V.str)) (fun b u e=>E' _ e) (J' _) ⟨by rw[B'];exact hl,its,0,hv,R' _ rfl⟩,rfl,q _ (I.hok.fresh (J' _))⟩
 by_cases h1:(decide (z.length<y.length)||decide (Builtin.Str.strKind z<Builtin.Str.strKind y))=true
 ·refine b7 bW (typeIs_str _ _ _) bg (ba _ _) (meets_str_split_cannot_occur z y t t' h1) ?_
  exact fin [.str z t] s.toks (by unfold Txt.split;rw[if_pos h1];exact .cons ⟨_,rfl⟩ .nil)
 ·rw[Bool.not_eq_true]at h1
  by_cases h2:(Builtin.Str.occurrences z y 0 z.length (z.length+1)).isEmpty=true
  ·refine b7 bW (typeIs_str _ _ _) bg (ba _ _) (meets_str_split_not_found z y t t' h1 hy h2) ?_
   exact fin [.str z t] s.toks (by unfold Txt.split;rw[h1,if_neg (by decide),if_pos h2];exact .cons ⟨_,rfl⟩ .nil)
  ·rw[Bool.not_eq_true]at h2
   have e:Txt.split z y=Builtin.Str.partsBetween z (Builtin.Str.occurrences z y 0 z.length (z.length+1)) y.length:=by unfold Txt.split;rw[h1,if_neg (by decide),h2,if_neg (by decide)]
   refine b7 bW (typeIs_str _ _ _) bg (ba _ _) (meets_str_split_sep z y t t' h1 hy h2 hz (by rw[<- e];exact hl)) ?_
   exact fin _ _ (by rw[e];exact Jh _ _)
def TU:V->List V->Hp->VK->Prop:=fun x xs H Q=>∃s y,x = .str s/\xs=[.str y]/\(y.length==0)=false/\s.length<=sizeLine/\∀l,H l=none->Q (.ref l) (upd H l (.tup [.str (Txt.partition s y).1,.str (Txt.partition s y).2.1,.str (Txt.partition s y).2.2]))
theorem Rf:MtR X "str.partition" TU:=by
 intro pins s σ H x xs v us Q I rx rs h
 obtain⟨z,y,rfl,rfl,hy,hz,q⟩:=h
 obtain⟨t,rfl⟩:=rx
 obtain⟨u,rfl,ru⟩:=DH rs
 obtain⟨t',rfl⟩:=ru
 have fin:∀(a b c:Value) (tk:Nat),RelV (.str (Txt.partition z y).1) a->RelV (.str (Txt.partition z y).2.1) b->RelV (.str (Txt.partition z y).2.2) c->∃(w:V) (H':Hp),Inv X pins σ H' { s with heap:=s.heap.push { cls:=.type "tuple",data:=.seq #[a,b,c] },toks:=tk }/\RelV w (.ref s.heap.objs.size)/\Q w H':=fun a b c tk ha hb hc =>
  ⟨.ref s.heap.objs.size,_,I.laid (t':=tk) (o:=.tup [.str (Txt.partition z y).1,.str (Txt.partition z y).2.1,.str (Txt.partition z y).2.2]) (fun b u e=>E' _ e) (J' _) ⟨(by decide:3<=sizeLine),[a,b,c],.cons ha (.cons hb (.cons hc .nil)),⟨_,R' _ rfl,rfl,_,rfl⟩⟩,rfl,q _ (I.hok.fresh (J' _))⟩
 refine b7 cJ (typeIs_str _ _ _) PySem.F.entry_str_partition (PySem.F.args_str_partition_2 _ _) (meets_str_partition z y t t' hy hz) ?_
 unfold Txt.partition at fin
 split
 ·rename_i i l e
  rw[e]at fin
  exact fin _ _ _ _ ⟨_,rfl⟩ ⟨_,rfl⟩ ⟨_,rfl⟩
 ·rename_i e
  rw[e]at fin
  exact fin _ _ _ _ ⟨_,rfl⟩ ⟨_,rfl⟩ ⟨_,rfl⟩
def TR:R2:=fun x y H Q=>∃z n,x = .str z/\y = .int n/\0<=n/\n<=1/\Q (.str (if n<1 then Str.empty else z)) H
theorem RQ:OpR X (binaryOp .Mult) TR:=by
 intro pins s σ H x y v u Q I rx ry h
 obtain⟨z,n,rfl,rfl,h0,h1,q⟩:=h
 obtain⟨t,rfl⟩:=rx
 obtain⟨t',rfl⟩:=ry
 have k:¬n<1->(n==1||z.length==0)=true:=fun h=>by rw[show n=1 by omega];rfl
 refine PySem.P.mul_str (by rw[Bool.or_eq_false_iff];exact⟨decide_eq_false (by omega),decide_eq_false (by omega)⟩) (fun a b=>by rw[k a]at b;cases b) (fun a b=>by rw[k a]at b;cases b) ?_
 by_cases h:n<1
 ·rw[if_pos h]
  rw[if_pos h]at q
  exact⟨by decide,.str Str.empty,H,I.tok _,⟨_,rfl⟩,q⟩
 ·rw[if_neg h,if_pos (k h)]
  rw[if_neg h]at q
  exact⟨.str z,H,I,⟨_,rfl⟩,q⟩
end
end L2
namespace DL
open PySem L2 PySem.Spec PyProof.Rows
section
variable {K:KW}
abbrev onS(F:PyData->PyData->Option PyData):Prop:=∀x y d,F x y=some d->∃s,x = .str s
theorem YO{fr fa fb:Bool}{r:V->List V->Hp->VK->Prop}{F:PyData->PyData->Option PyData}{ta tb:TE}{a b:DX}(hs:onS F)(h:OR K fr (fun x y H Q=>r x [y] H Q) F)(ha:E K ta fa a)(hb:E K tb fb b):E K (tBM K "str" r ta (Cs tb Eo)) fr (dOp F a b):=by
 refine⟨(QP h ha hb).like,?_⟩
 intro S M τ σ H Q d t7 rr e q
 unfold dOp at e
 obtain⟨⟨x,t5⟩,e1,e⟩:=oB e
 obtain⟨⟨y,t9⟩,e2,e⟩:=oB e
 obtain⟨z,e3,e⟩:=oM e
 cases e
 obtain⟨u,rfl⟩:=hs _ _ _ e3
 refine ha.run S M τ σ H _ _ t5 rr e1 fun v1 H1 r1 c1 i1=>?_
 have i1':Is K (hid S H1) (.str u) v1:=rr.isr i1
 cases (show v1 = .str u from i1')
 refine⟨rfl,hb.run S M t5 σ H1 _ y t9 r1 e2 fun v2 H2 r2 c2 i2=>?_⟩
 refine h S H2 _ v2 _ y d _ (fun _=>r2.fresh) (i1'.mono (c2.keep r1.sub).same) (r1.isr i2) e3 fun v H' s res=>?_
 exact q v H' (r2.same s) ((c1.trans c2).trans (.of s)) (res.back r2 (c1.trans c2))
theorem Kj{H:Hp}:∀l:List Str,IsL K H (l.map PyData.str) (l.map V.str)
 |[]=>rfl
 |x::l=>⟨_,_,rfl,rfl,Kj l⟩
def Gf:PyData->PyData->Option PyData
 |.str s,.str y=>some (.bool (Txt.startswith s y))
 |_,_=>none
theorem Px:OR K false (fun x y H Q=>M5 x [y] H Q) Gf:=by
 intro S H x y dx dy d Q _ ix iy e q
 unfold Gf at e
 split at e
 ·cases e;exact⟨_,_,ix,congrArg (fun z=>[z]) iy,q _ H (fun _ _ e=>e) rfl⟩
 ·cases e
def De:PyData->PyData->Option PyData
 |.str s,.str y=>if (y.length==0)=false/\s.length<=sizeLine/\(Txt.split s y).length<=sizeLine then some (.list ((Txt.split s y).map PyData.str)) else none
 |_,_=>none
theorem Rc:OR K true (fun x y H Q=>PF x [y] H Q) De:=by
 intro S H x y dx dy d Q _ ix iy e q
 unfold De at e
 split at e
 ·split at e
  ·rename_i h
   cases e
   exact⟨_,_,ix,congrArg (fun z=>[z]) iy,h.1,h.2.1,h.2.2,fun p hp=>q _ _ (Ay hp _) (FG hp (Kj _))⟩
  ·cases e
 ·cases e
def Iv:PyData->PyData->Option PyData
 |.str s,.str y=>if (y.length==0)=false/\s.length<=sizeLine then some (.tuple ([(Txt.partition s y).1,(Txt.partition s y).2.1,(Txt.partition s y).2.2].map PyData.str)) else none
 |_,_=>none
theorem Us:OR K false (fun x y H Q=>TU x [y] H Q) Iv:=by
 intro S H x y dx dy d Q hS ix iy e q
 unfold Iv at e
 split at e
 ·split at e
  ·rename_i h
   cases e
   refine⟨_,_,ix,congrArg (fun z=>[z]) iy,h.1,h.2,fun p hp=>q _ _ (Ay hp _) ⟨p,_,rfl,.inl (.inl (hid_iff.mpr ⟨hS p hp,Ac⟩)),Kj [_,_,_]⟩⟩
  ·cases e
 ·cases e
def HY:PyData->PyData->Option PyData
 |.str s,.int n=>if 0<=n/\n<=1 then some (.str (if n<1 then Str.empty else s)) else none
 |_,_=>none
theorem Ur:OR K false TR HY:=by
 intro S H x y dx dy d Q _ ix iy e q
 unfold HY at e
 split at e
 ·split at e
  ·rename_i h
   cases e;exact⟨_,_,ix,iy,h.1,h.2,q _ H (fun _ _ e=>e) rfl⟩
  ·cases e
 ·cases e
theorem SU{Γ:Ct}:CO Γ (binaryOp .Mult) false HY:=⟨_,_,fun _ _=>RQ,Ur,id⟩
end
section
variable {Γ:Ct} {fr:Bool} {f f':DX} {a b:Expr} {pos p1:Pos} {m:Str} {F:PyData->PyData->Option PyData}
def CSm(Γ:Ct)(x:Str)(fr:Bool)(F:PyData->PyData->Option PyData):Prop:=∃id r fr',Slot "str" x id/\typeOf (.builtin id)=pure (.type "method_descriptor")/\(∀X,At Γ X->MtR X id r)/\onS F/\OR Γ.K fr' (fun x y H Q=>r x [y] H Q) F/\(fr=true->fr'=true)
theorem Ml:CSm Γ "startswith" false Gf:=⟨_,_,_,PySem.F.slot_str_startswith,PySem.F.type_str_startswith,fun _ _=>N6,(fun x y d e=>by unfold Gf at e;split at e<;>first|exact⟨_,rfl⟩|cases e),Px,id⟩
theorem OP:CSm Γ "split" fr De:=⟨_,_,_,bW,PySem.F.type_str_split,fun _ _=>Pz,(fun x y d e=>by unfold De at e;split at e<;>first|exact⟨_,rfl⟩|cases e),Rc,fun _=>rfl⟩
theorem QZ:CSm Γ "partition" false Iv:=⟨_,_,_,cJ,PySem.F.type_str_partition,fun _ _=>Rf,(fun x y d e=>by unfold Iv at e;split at e<;>first|exact⟨_,rfl⟩|cases e),Us,id⟩
theorem V6(hm:CSm Γ m fr F)(ha:CE Γ a false f)(hb:CE Γ b false f')(h1:bsQ a m:=by walk_at "q")(hl:lnQ p1 pos:=by walk_at "q")(hs:B5 b []:=by walk_at "q"):CE Γ (.Call (.Attribute a m p1) [b] [] pos) fr (dOp F f f'):=by
 obtain⟨id,r,fr',m1,m2,m3,m4,m5,m6⟩:=hm;obtain⟨t,a1,a2⟩:=ha;obtain⟨u,b1,b2⟩:=hb
 exact⟨_,fun X c=>c.w (p:=fun K=>PE X _ (tBM K "str" r t (Cs u Eo))) (LF bV m1 m2 (m3 X c) (a1 X c) (Cm (b1 X c) EO (hs _)) (h1 _) (R4 hs _) hl (hs _) rfl),(YO m4 m5 a2 b2).to m6⟩
end
end DL
end
section
namespace ZpG
open PySem PyProof.Rows EnG
structure Apt(z T O a b:Addr)(f g:List Addr):Prop where
 tz:T≠z
 oz:O≠z
 az:a≠z
 bz:b≠z
 oa:O≠a
 ob:O≠b
 ab:a≠b
 zf:z∉f
 of:O∉f
 bf:b∉f
 zg:z∉g
 og:O∉g
 ag:a∉g
section
variable {prog:Program} {w:World} {A:Around} {E:Value->Shared->Prop} {s:Shared}
variable {z T O a b:Addr} {f g:List Addr} {m n i:Nat} {P R:Nat->Value->Prop} {S U:Nat->Heap->Prop} {p q:Value}
theorem stay{c:Addr}{h h':Heap}(hs:Heap.SameBut c h h'){l:List Addr}(hc:c∉l):∀x∈l,∀o,h.get? x=some o->h'.get? x=some o:=fun x hx o e=>hs.extBut _ _ (fun q=>hc (q▸hx)) e
theorem X9{Q:Value->Shared->Prop}(D:Apt z T O a b f g)(d:Draws prog w A a f m P S)(e:Draws prog w A b g n R U)(hz:IsZip s.heap z T O .none)(hT:IsPair s.heap T (.ref a) (.ref b))(hO:IsPair s.heap O p q)(ha:S i s.heap)(hb:U i s.heap)(hm:i<m)(hn:i<n)
  (hQ:∀x y h' tk,P i x->R i y->IsZip h' z T O (rawInt s.heap.objs.size)->IsPair h' O x y->S (i+1) h'->U (i+1) h'->IsPair h' s.heap.objs.size x y->(∀c o,c≠z->c≠O->c≠a->c≠b->s.heap.get? c=some o->h'.get? c=some o)->Q (.ref s.heap.objs.size) { s with heap:=h',toks:=tk }) :
  wpAny (model prog w) A (Builtin.«zip.__next__» ⟨[.ref z],[]⟩) (fun r s'=>∃v,r = .done (.ret v)/\Q v s') E s:=by
 show wpAny _ _ (field (.ref z) 2 >>= _) _ _ _
 refine wpAny_bind (wpAny_field hz rfl (x:=.bool false) rfl ?_)
 show wpAny _ _ (field (.ref z) 3 >>= _) _ _ _
 refine wpAny_bind (wpAny_field hz rfl (x:=.ref T) rfl (wpAny_bind (wpAny_seqItems hT rfl ?_)))
 show wpAny _ _ (Builtin.SmallTypes.ownedTupleIsFree (.ref z) >>= _) _ _ _
 refine wpAny_bind ?_
 unfold Builtin.SmallTypes.ownedTupleIsFree
 refine wpAny_bind (wpAny_field hz rfl (x:=.none) rfl (wpAny_pure ?_))
 simp only[if_true]
 refine wpAny_bind (wpAny_rule (wpAny_bind (wpAny_field hz rfl (x:=.ref O) rfl (wpAny_bind (wpAny_setField_rec hz (by simp) fun k1 z1 s1=>?_)))))
 replace z1:IsZip k1 z T O .ellipsis:=z1
 refine wpAny_bind ?_
 simp only[List.zipIdx_cons,List.zipIdx_nil,List.forIn_cons,List.forIn_nil]
 refine wpAny_bind (wpAny_bind (wpAny_onRaise ?_))
 show wpAny _ _ (Builtin.SmallTypes.nextOf (.ref a) >>= _) _ _ _
 refine wpAny_bind (d.item i _ _ _ hm (d.frame _ _ _ ha (stay s1 D.zf)) fun x k2 t2 px a2 s2=>wpAny_pure ?_)
 have o2:IsPair k2 O p q:=s2.extBut _ _ D.oa (s1.extBut _ _ D.oz hO)
 refine wpAny_bind (wpAny_seqItems o2 rfl (wpAny_bind (wpAny_updateSeq_pair o2 fun k3 o3 s3=>?_)))
 replace o3:IsPair k3 O x q:=o3
 refine wpAny_bind (wpAny_letGo (wpAny_pure ?_))
 refine wpAny_bind (wpAny_bind (wpAny_onRaise ?_))
 show wpAny _ _ (Builtin.SmallTypes.nextOf (.ref b) >>= _) _ _ _
 have b3:U i k3:=e.frame _ _ _ (e.frame _ _ _ (e.frame _ _ _ hb (stay s1 D.zg)) (stay s2 D.ag)) (stay s3 D.og)
 refine wpAny_bind (e.item i _ _ _ hn b3 fun y k4 t4 ry b4 s4=>wpAny_pure ?_)
 have o4:IsPair k4 O x q:=s4.extBut _ _ D.ob o3
 refine wpAny_bind (wpAny_seqItems o4 rfl (wpAny_bind (wpAny_updateSeq_pair o4 fun k5 o5 s5=>?_)))
 replace o5:IsPair k5 O x y:=o5
 refine wpAny_bind (wpAny_letGo (wpAny_pure (wpAny_pure ?_)))
 refine wpAny_bind (wpAny_seqItems o5 rfl (wpAny_bind (wpAny_newTuple ?_)))
 have sz:k5.objs.size=s.heap.objs.size:=by rw[s5.1,s4.1,s3.1,s2.1,s1.1]
 have z5:IsZip k5 z T O .ellipsis:=s5.extBut _ _ D.oz.symm (s4.extBut _ _ D.bz.symm (s3.extBut _ _ D.oz.symm (s2.extBut _ _ D.az.symm z1)))
 have a5:S (i+1) k5:=d.frame _ _ _ (d.frame _ _ _ (d.frame _ _ _ a2 (stay s3 D.of)) (stay s4 D.bf)) (stay s5 D.of)
 have b5:U (i+1) k5:=e.frame _ _ _ b4 (stay s5 D.og)
 have zl:z<k5.objs.size:=P' z5
 show wpAny _ _ (Builtin.SmallTypes.ownedTupleHandOut (.ref z) (.ref k5.objs.size) >>= _) _ _ _
 refine wpAny_bind ?_
 unfold Builtin.SmallTypes.ownedTupleHandOut
 refine wpAny_bind (wpAny_setField_rec (E' _ z5) (by simp) fun k7 z7 s7=>?_)
 replace z7:IsZip k7 z T O (rawInt k5.objs.size):=z7
 refine wpAny_setField_rec z7 (by simp) fun k8 z8 s8=>?_
 replace z8:IsZip k8 z T O (rawInt k5.objs.size):=z8
 have up:∀c o,c≠z->k5.get? c=some o->k8.get? c=some o:=fun c o c1 x=>s8.extBut _ _ c1 (s7.extBut _ _ c1 (E' _ x))
 have t8:IsPair k8 k5.objs.size x y:=s8.extBut _ _ (bT zl) (s7.extBut _ _ (bT zl) (R' _ rfl))
 rw[sz]at z8 t8
 refine wpAny_pure ⟨_,rfl,?_⟩
 show Q (.ref k5.objs.size) _
 rw[sz]
 refine hQ x y k8 _ px ry z8 (up _ _ D.oz o5) (d.frame _ _ _ a5 fun c hc o x=>up c o (fun q=>D.zf (q▸hc)) x) (e.frame _ _ _ b5 fun c hc o x=>up c o (fun q=>D.zg (q▸hc)) x) t8 fun c o c1 c2 c3 c4 x=>up c o c1 ?_
 exact s5.extBut _ _ c2 (s4.extBut _ _ c4 (s3.extBut _ _ c2 (s2.extBut _ _ c3 (s1.extBut _ _ c1 x))))
def Fi(prog:Program)(w:World)(A:Around)(it:Addr)(S:Nat->Heap->Prop)(i m:Nat):Prop:=m<=i->∀(s:Shared) (Q:Value->Shared->Prop) (E:Value->Shared->Prop),S i s.heap ->
 (∀h' e,Heap.ExtBut it s.heap h'->(∃o,h'.get? e=some o/\o.cls = .type "StopIteration")->E (.ref e) { s with heap:=h' })->wpAny (model prog w) A (Builtin.SmallTypes.nextOf (.ref it)) Q E s
theorem Z0{Q:Fin->Shared->Prop}(D:Apt z T O a b f g)(d:Draws prog w A a f m P S)(e:Draws prog w A b g n R U)(hz:IsZip s.heap z T O .none)(hT:IsPair s.heap T (.ref a) (.ref b))(hO:IsPair s.heap O p q)(ha:S i s.heap)(hb:U i s.heap)(d0:Fi prog w A a S i m)(e0:Fi prog w A b U i n)(he:m<=i\/i<m/\n<=i)
  (hE:∀h' x tk,(∀c o,c≠z->c≠O->c≠a->c≠b->s.heap.get? c=some o->h'.get? c=some o)->(∃o,h'.get? x=some o/\o.cls = .type "StopIteration")->E (.ref x) { s with heap:=h',toks:=tk }) :
  wpAny (model prog w) A (Builtin.«zip.__next__» ⟨[.ref z],[]⟩) Q E s:=by
 show wpAny _ _ (field (.ref z) 2 >>= _) _ _ _
 refine wpAny_bind (wpAny_field hz rfl (x:=.bool false) rfl ?_)
 show wpAny _ _ (field (.ref z) 3 >>= _) _ _ _
 refine wpAny_bind (wpAny_field hz rfl (x:=.ref T) rfl (wpAny_bind (wpAny_seqItems hT rfl ?_)))
 show wpAny _ _ (Builtin.SmallTypes.ownedTupleIsFree (.ref z) >>= _) _ _ _
 refine wpAny_bind ?_
 unfold Builtin.SmallTypes.ownedTupleIsFree
 refine wpAny_bind (wpAny_field hz rfl (x:=.none) rfl (wpAny_pure ?_))
 simp only[if_true]
 refine wpAny_bind (wpAny_rule (wpAny_bind (wpAny_field hz rfl (x:=.ref O) rfl (wpAny_bind (wpAny_setField_rec hz (by simp) fun k1 z1 s1=>?_)))))
 replace z1:IsZip k1 z T O .ellipsis:=z1
 refine wpAny_bind ?_
 simp only[List.zipIdx_cons,List.zipIdx_nil,List.forIn_cons,List.forIn_nil]
 refine wpAny_bind (wpAny_bind (wpAny_onRaise ?_))
 show wpAny _ _ (Builtin.SmallTypes.nextOf (.ref a) >>= _) _ _ _
 have a1:S i k1:=d.frame _ _ _ ha (stay s1 D.zf)
 rcases he with he|⟨hm,hn⟩
 ·refine wpAny_bind (d0 he _ _ _ a1 fun k2 x s2 hx=>?_)
  obtain⟨ox,hox,hcx⟩:=hx
  have z2:IsZip k2 z T O .ellipsis:=s2 _ _ D.az.symm z1
  have xz:x≠z:=fun r=>by subst r;rw[z2]at hox;cases hox;simp at hcx
  exact wpAny_setField_rec z2 (by simp) fun k3 _ s3=>hE k3 x _ (fun c o c1 _ c3 _ r=>s3.extBut _ _ c1 (s2 _ _ c3 (s1.extBut _ _ c1 r))) ⟨ox,s3.extBut _ _ xz hox,hcx⟩
 ·refine wpAny_bind (d.item i _ _ _ hm a1 fun x k2 t2 px a2 s2=>wpAny_pure ?_)
  have o2:IsPair k2 O p q:=s2.extBut _ _ D.oa (s1.extBut _ _ D.oz hO)
  refine wpAny_bind (wpAny_seqItems o2 rfl (wpAny_bind (wpAny_updateSeq_pair o2 fun k3 o3 s3=>?_)))
  refine wpAny_bind (wpAny_letGo (wpAny_pure ?_))
  refine wpAny_bind (wpAny_bind (wpAny_onRaise ?_))
  show wpAny _ _ (Builtin.SmallTypes.nextOf (.ref b) >>= _) _ _ _
  have b3:U i k3:=e.frame _ _ _ (e.frame _ _ _ (e.frame _ _ _ hb (stay s1 D.zg)) (stay s2 D.ag)) (stay s3 D.og)
  refine wpAny_bind (e0 hn _ _ _ b3 fun k4 x s4 hx=>?_)
  obtain⟨ox,hox,hcx⟩:=hx
  have z4:IsZip k4 z T O .ellipsis:=s4 _ _ D.bz.symm (s3.extBut _ _ D.oz.symm (s2.extBut _ _ D.az.symm z1))
  have xz:x≠z:=fun r=>by subst r;rw[z4]at hox;cases hox;simp at hcx
  exact wpAny_setField_rec z4 (by simp) fun k5 _ s5=>hE k5 x _ (fun c o c1 c2 c3 c4 r=>s5.extBut _ _ c1 (s4 _ _ c4 (s3.extBut _ _ c2 (s2.extBut _ _ c3 (s1.extBut _ _ c1 r))))) ⟨ox,s5.extBut _ _ xz hox,hcx⟩
theorem Xx{Q:Option Value->Shared->Prop}(D:Apt z T O a b f g)(d:Draws prog w A.in1 a f m P S)(e:Draws prog w A.in1 b g n R U)(hz:IsZip s.heap z T O .none)(hT:IsPair s.heap T (.ref a) (.ref b))(hO:IsPair s.heap O p q)(ha:S i s.heap)(hb:U i s.heap)(hm:i<m)(hn:i<n)
  (hQ:∀x y h' tk,P i x->R i y->IsZip h' z T O (rawInt s.heap.objs.size)->IsPair h' O x y->S (i+1) h'->U (i+1) h'->IsPair h' s.heap.objs.size x y->(∀c o,c≠z->c≠O->c≠a->c≠b->s.heap.get? c=some o->h'.get? c=some o)->Q (some (.ref s.heap.objs.size)) { s with heap:=h',toks:=tk }) :
  wpAny (model prog w) A (pyNext (.ref z)) Q E s:=by
 have hY:s.TypeIs (.ref z) "zip":=⟨_,hz,rfl⟩
 unfold pyNext
 exact wpAny_bind (wpAny_attempt (wpAny_callSpecial?_slot (name := Str.ofString "__next__") hY cB (wpAny_call_entry cB hY F.entry_zip_next
  (X9 D d e hz hT hO ha hb hm hn fun x y h' tk a1 a2 a3 a4 a5 a6 a7 a8=>wpAny_pure (hQ x y h' tk a1 a2 a3 a4 a5 a6 a7 a8)) (F.args_zip_next_1 _))))
theorem XF{Q:Option Value->Shared->Prop}(D:Apt z T O a b f g)(d:Draws prog w A.in1 a f m P S)(e:Draws prog w A.in1 b g n R U)(hz:IsZip s.heap z T O .none)(hT:IsPair s.heap T (.ref a) (.ref b))(hO:IsPair s.heap O p q)(ha:S i s.heap)(hb:U i s.heap)(d0:Fi prog w A.in1 a S i m)(e0:Fi prog w A.in1 b U i n)(he:m<=i\/i<m/\n<=i)
  (hQ:∀h' tk,(∀c o,c≠z->c≠O->c≠a->c≠b->s.heap.get? c=some o->h'.get? c=some o)->Q none { s with heap:=h',toks:=tk }):wpAny (model prog w) A (pyNext (.ref z)) Q E s:=by
 have hY:s.TypeIs (.ref z) "zip":=⟨_,hz,rfl⟩
 unfold pyNext
 refine wpAny_bind (wpAny_attempt (wpAny_callSpecial?_slot (name := Str.ofString "__next__") hY cB (wpAny_call_entry cB hY F.entry_zip_next
  (Z0 D d e hz hT hO ha hb d0 e0 he fun h' x tk hk hx=>?_) (F.args_zip_next_1 _))))
 obtain⟨o,ho,hc⟩:=hx
 exact wpAny_bind (wpAny_isInstance (T:="StopIteration") (b:=true) ⟨o,ho,hc⟩ isSubtype_stop (wpAny_pure (hQ _ _ hk)))
end
end ZpG
end
section
namespace ZpG
open PySem PyProof.Rows EnG
open Sem (wp)
open AutoSeq1 (wpAny_loadPart')
abbrev itO(c:String)(l:Addr):Obj:={ cls:=.type c,data:=.fields #[.ref l,.int 0 0] }
abbrev h1(h:Heap)(c:String)(l:Addr):Heap:=h.push (itO c l)
abbrev h2(h:Heap)(c d:String)(l k:Addr):Heap:=(h1 h c l).push (itO d k)
abbrev h3(h:Heap)(c d:String)(l k:Addr):Heap:=(h2 h c d l k).push { cls:=.type "tuple",data:=.seq #[.ref h.objs.size,.ref (h1 h c l).objs.size] }
abbrev h4(h:Heap)(c d:String)(l k:Addr):Heap:=(h3 h c d l k).push { cls:=.type "tuple",data:=.seq #[.none,.none] }
abbrev h5(h:Heap)(c d:String)(l k:Addr):Heap:=(h4 h c d l k).push { cls:=.type "zip",data:=.fields #[.none,.bool false,.bool false,.ref (h2 h c d l k).objs.size,.ref (h3 h c d l k).objs.size] }
theorem Tv{h:Heap}{l:Addr}{xs:Array Value}(t:IsTup h l xs)(o:Obj):IsTup (h.push o) l xs:=let ⟨p,e,r⟩:=t;⟨p,E' _ e,r⟩
theorem Xy(l k:Addr)(xs ys:Array Value):Meets (Builtin.«zip.__new__» ⟨[.type "zip",.ref l,.ref k],[]⟩) (fun _ R s=>IsTup s.heap l xs/\IsTup s.heap k ys /\
   R (.ok (.ret (.ref (h4 s.heap "tuple_iterator" "tuple_iterator" l k).objs.size))) { s with heap:=h5 s.heap "tuple_iterator" "tuple_iterator" l k }) :=
 .of_wp fun prog w A R s h=>by
  obtain⟨hp,g,d,tk,os⟩:=s;obtain⟨hl1,hl2,h⟩:=h
  have hsub:=PySem.sub_zip
  have hL1:IsTup (Shared.heap ⟨hp,g,d,tk,os⟩) l xs:=hl1
  have hL2:IsTup (Shared.heap ⟨hp.push (itO "tuple_iterator" l),g,d,tk,os⟩) k ys:=Tv hl2 _
  wp_walk using iter_tuple hL1,iter_tuple hL2
  exact⟨_,rfl,h⟩
theorem Xz(l k:Addr)(xs ys:Array Value):Meets (Builtin.«zip.__new__» ⟨[.type "zip",.ref l,.ref k],[]⟩) (fun _ R s=>IsTup s.heap l xs/\s.heap.IsList k ys /\
   R (.ok (.ret (.ref (h4 s.heap "tuple_iterator" "list_iterator" l k).objs.size))) { s with heap:=h5 s.heap "tuple_iterator" "list_iterator" l k }) :=
 .of_wp fun prog w A R s h=>by
  obtain⟨hp,g,d,tk,os⟩:=s;obtain⟨hl1,hl2,h⟩:=h
  have hsub:=PySem.sub_zip
  have hL1:IsTup (Shared.heap ⟨hp,g,d,tk,os⟩) l xs:=hl1
  have hL2:Heap.IsList (Shared.heap ⟨hp.push (itO "tuple_iterator" l),g,d,tk,os⟩) k ys:=Heap.IsList.push hl2 _
  wp_walk using iter_tuple hL1,wpAny_pyIter_list hL2
  exact⟨_,rfl,h⟩
structure Sx(h h':Heap)(c d:String)(l k:Addr):Prop where
 hz:IsZip h' (h.objs.size+4) (h.objs.size+2) (h.objs.size+3) .none
 ht:IsPair h' (h.objs.size+2) (.ref h.objs.size) (.ref (h.objs.size+1))
 ho:IsPair h' (h.objs.size+3) .none .none
 ha:h'.get? h.objs.size=some (itO c l)
 hb:h'.get? (h.objs.size+1)=some (itO d k)
 up:∀x o,h.get? x=some o->h'.get? x=some o
theorem laid(h:Heap)(c d:String)(l k:Addr):(h4 h c d l k).objs.size=h.objs.size+4/\Sx h (h5 h c d l k) c d l k:=by
 have z1:(h1 h c l).objs.size=h.objs.size+1:=bp ..
 have z2:(h2 h c d l k).objs.size=h.objs.size+2:=by rw[bp,z1]
 have z3:(h3 h c d l k).objs.size=h.objs.size+3:=by rw[bp,z2]
 have z4:(h4 h c d l k).objs.size=h.objs.size+4:=by rw[bp,z3]
 have g5:(h5 h c d l k).get? (h4 h c d l k).objs.size=some _:=R' _ rfl
 have g4:(h5 h c d l k).get? (h3 h c d l k).objs.size=some _:=E' _ (R' _ rfl)
 have g3:(h5 h c d l k).get? (h2 h c d l k).objs.size=some _:=E' _ (E' _ (R' _ rfl))
 have g2:(h5 h c d l k).get? (h1 h c l).objs.size=some (itO d k):=E' _ (E' _ (E' _ (R' _ rfl)))
 have g1:(h5 h c d l k).get? h.objs.size=some (itO c l):=E' _ (E' _ (E' _ (E' _ (R' _ rfl))))
 rw[z2,z3,z4]at g5
 rw[z1,z2]at g3
 rw[z3]at g4
 rw[z1]at g2
 exact⟨z4,g5,g3,g4,g1,g2,fun x o e=>E' _ (E' _ (E' _ (E' _ (E' _ e))))⟩
section
variable {prog:Program} {w:World} {A:Around} {E:Value->Shared->Prop} {s:Shared} {l k:Addr} {xs ys:Array Value} {Q:Value->Shared->Prop}
theorem WZ(hl:IsTup s.heap l xs)(hk:IsTup s.heap k ys)(h:∀h',Sx s.heap h' "tuple_iterator" "tuple_iterator" l k->Q (.ref (s.heap.objs.size+4)) { s with heap:=h' }):wpAny (model prog w) A (call (.type "zip") [.ref l,.ref k]) Q E s:=by
 obtain⟨z4,L⟩:=laid s.heap "tuple_iterator" "tuple_iterator" l k
 refine callType_new F.called_zip (by decide) (F.typeCall_zip_2 _ _) (F.newCall_zip_2 _ _) (fun obj=>F.args_object_init_3 obj _ _) F.entry_zip_new (Xy l k xs ys) ⟨hl,hk,?_⟩
 show _/\_
 rw[z4]
 exact⟨⟨_,L.hz,rfl⟩,h _ L⟩
theorem Wa(hl:IsTup s.heap l xs)(hk:s.heap.IsList k ys)(h:∀h',Sx s.heap h' "tuple_iterator" "list_iterator" l k->Q (.ref (s.heap.objs.size+4)) { s with heap:=h' }):wpAny (model prog w) A (call (.type "zip") [.ref l,.ref k]) Q E s:=by
 obtain⟨z4,L⟩:=laid s.heap "tuple_iterator" "list_iterator" l k
 refine callType_new F.called_zip (by decide) (F.typeCall_zip_2 _ _) (F.newCall_zip_2 _ _) (fun obj=>F.args_object_init_3 obj _ _) F.entry_zip_new (Xz l k xs ys) ⟨hl,hk,?_⟩
 show _/\_
 rw[z4]
 exact⟨⟨_,L.hz,rfl⟩,h _ L⟩
end
end ZpG
end
section
namespace L2
open PySem PySem.Spec PyProof.Rows EnG ZpG
section
variable {X:Cx} {pins:List (Addr×Obj)} {σ:L2.St} {H:Hp} {s:Shared}
theorem Inv.turnedL{t':Nat}{fp:List Addr}{h':Heap}(I:Inv X pins σ H s)(k:∀b o,b∉fp->s.heap.get? b=some o->h'.get? b=some o)(f:∀b∈fp,FC X pins H b):Inv X pins σ H { s with heap:=h',toks:=t' }:=by
 have n1:∀b u,H b=some u->b∉fp:=fun b u e z=>by rw[(f b z).1]at e;cases e
 refine I.step (g':=s.gens) (d':=s.drawn) (ch:=fp) (fun b hb=>?_) (fun b o _ _ hc e _=>k b o hc e) (fun b o _ _ hc e _=>⟨o.slots,k b o hc e⟩) (fun _ _ _ _ n=>n) (fun b o hc e=>⟨o,k b o hc e⟩) (fun _ _ e=>e) (fun _ _ _ e=>e) (fun b ps e=>⟨#[],by rw[e];simp⟩) (fun m hm=>?_) (fun b u e=>?_) I.bare
 ·obtain⟨_,a1,_,a3,a4,a5⟩:=f b hb
  exact⟨a3,a1,a4,a5⟩
 ·obtain⟨o,es,ep,ho,r⟩:=hm
  exact⟨o,es,ep,k _ o (fun z=>(f _ z).2.1 rfl) ho,r⟩
 ·refine(I.hok b u e).stay (fun c v hc q=>k c v ?_ q) (fun _ q=>q) fun _ _ q=>q
  rcases hc with z|z
  ·rw[z];exact n1 b u e
  ·exact n1 c _ z
theorem Inv.oldNe(I:Inv X pins σ H s){a b:Addr}(hf:FC X pins H b)(h:(∃u,H a=some u)\/∃o,X.K.lookup a=some o):a≠b:=by
 rintro rfl
 rcases h with ⟨u,e⟩|⟨o,e⟩
 ·rw[hf.1]at e;cases e
 ·have hb:=I.ok.mod.kin a o e
  rcases hf.2.2.2.1 with z|z
  ·exact I.ok.noex a o hb z
  ·exact absurd (P' (I.ok.bs a o hb).1) (Nat.not_lt.mpr z)
theorem RX{K:PySem.W.Frag}{a:Addr}{xs:List V}(h:SqT K H a xs):(∃u,H a=some u)\/∃o,K.lookup a=some o:=by
 rcases h with (h|⟨o,h⟩)|⟨o,_,_,h,_⟩
 ·exact .inl ⟨_,h⟩
 ·exact .inl ⟨_,h⟩
 ·exact .inr ⟨o,h⟩
theorem RY{K:PySem.W.Frag}{a:Addr}{xs:List V}(h:SqL K H a xs):(∃u,H a=some u)\/∃o,K.lookup a=some o:=by
 rcases h with (h|⟨o,h⟩)|⟨o,_,_,h,_⟩
 ·exact .inl ⟨_,h⟩
 ·exact .inl ⟨_,h⟩
 ·exact .inr ⟨o,h⟩
end
structure Kin(Sq:PySem.W.Frag->Hp->Addr->List V->Prop)(C:Heap->Addr->Addr->Nat->Prop)(L:Heap->Addr->Array Value->Prop):Prop where
 get:∀{X:Cx} {pins:List (Addr×Obj)} {σ:L2.St} {H:Hp} {s:Shared} {a:Addr} {xs:List V},Inv X pins σ H s->Sq X.K H a xs->∃its:List Value,Vals xs its/\L s.heap a its.toArray
 inj:∀{X:Cx} {pins:List (Addr×Obj)} {σ:L2.St} {H:Hp} {s:Shared} {a:Addr} {xs ys:List V},Inv X pins σ H s->Sq X.K H a xs->Sq X.K H a ys->xs=ys
 old:∀{K:PySem.W.Frag} {H:Hp} {a:Addr} {xs:List V},Sq K H a xs->(∃u,H a=some u)\/∃o,K.lookup a=some o
 drw:∀{prog:Program} {w:World} {A:Around},A.handled=none->∀(it l:Addr),l≠it->∀items:Array Value,Draws prog w A it [it,l] items.size (fun i v=>items[i]?=some v) (fun i h=>C h it l i/\L h l items)
 fin:∀{prog:Program} {w:World} {A:Around},A.handled=none->∀(it l:Addr) (items:Array Value) (i:Nat),Fi prog w A it (fun i h=>C h it l i/\L h l items) i items.size
 obj:∀{h:Heap} {it l:Addr} {i:Nat},C h it l i->∃o,h.get? it=some o/\∀v,o.data≠.cell v
 keep:∀{h h':Heap} {it l:Addr} {i:Nat},C h it l i->(∀o,h.get? it=some o->h'.get? it=some o)->C h' it l i
theorem X5:Kin SqT IsTupIter IsTup where
 get:=fun I h=>let ⟨its,r,p,_⟩:=I.tuple h;⟨its,r,p⟩
 inj:=fun I h k=>I.tuple_inj h k
 old:=RX
 drw:=fun hh it l ne items=>VZ hh it l ne items
 fin:=fun hh it l items i hi s Q E st hE=>Ew hh st.1 st.2 (by simp;omega) hE
 obj:=fun st=>let ⟨o,ho,_,d⟩:=st;⟨o,ho,fun v z=>by rw[d]at z;cases z⟩
 keep:=fun st k=>let ⟨o,ho,r⟩:=st;⟨o,k o ho,r⟩
theorem Zs:Kin SqL (fun h it l i=>h.IsListIter it l i) (fun h l xs=>h.IsList l xs) where
 get:=fun I h=>let ⟨its,r,p,_⟩:=I.list h;⟨its,r,p.isList⟩
 inj:=fun I h k=>I.list_inj h k
 old:=RY
 drw:=fun hh it l ne items=>Draws.list hh it l ne items
 fin:=fun hh it l items i hi s Q E st hE=>wpAny_nextOf_list_end hh st.1 st.2 (by simp;omega) hE
 obj:=fun st=>let ⟨o,ho,_,d⟩:=st;⟨o,ho,fun v z=>by rw[d]at z;cases z⟩
 keep:=fun st k=>st.at fun o q=>k o q
section
variable {Sq Sr:PySem.W.Frag->Hp->Addr->List V->Prop} {C D:Heap->Addr->Addr->Nat->Prop} {L M:Heap->Addr->Array Value->Prop}
def Itz(Sq Sr:PySem.W.Frag->Hp->Addr->List V->Prop)(K:PySem.W.Frag)(a b:Addr):It :=
 ⟨fun i H=>∃xs ys x y,Sq K H a xs/\Sr K H b ys/\xs[i]?=some x/\ys[i]?=some y,fun i H x H'=>∃(p:Addr) (v u:V),H p=none/\x = .ref p/\(∀xs,Sq K H a xs->xs[i]?=some v)/\(∀ys,Sr K H b ys->ys[i]?=some u)/\H'=upd H p (.tup [v,u]),fun i H=>∃xs ys,Sq K H a xs/\Sr K H b ys/\(xs.length<=i\/i<xs.length/\ys.length<=i)⟩
abbrev zfp(n:Nat):List Addr:=[n+4,n+3,n,n+1,n+2]
theorem nq{x y:Nat}(h:x≠y):@Ne Addr x y:=h
theorem apt(n:Nat)(a b:Addr)(ha:a∉zfp n)(hb:b∉zfp n):Apt (n+4) (n+2) (n+3) n (n+1) [n,a] [n+1,b]:=by
 simp only[List.mem_cons,List.not_mem_nil,or_false,not_or]at ha hb
 obtain⟨a1,a2,a3,a4,a5⟩:=ha
 obtain⟨b1,b2,b3,b4,b5⟩:=hb
 have m2:∀{x y c:Addr},x≠y->¬c=x->x∉[y,c]:=fun h k z=>by
  rcases Z'.mp z with z|z
  ·exact h z
  ·exact k (aT.mp z).symm
 exact⟨nq (x:=n+2) (y:=n+4) (by omega),nq (x:=n+3) (y:=n+4) (by omega),nq (x:=n) (y:=n+4) (by omega),nq (x:=n+1) (y:=n+4) (by omega),nq (x:=n+3) (y:=n) (by omega),nq (x:=n+3) (y:=n+1) (by omega),nq (x:=n) (y:=n+1) (by omega),m2 (nq (x:=n+4) (y:=n) (by omega)) a1,m2 (nq (x:=n+3) (y:=n) (by omega)) a2,m2 (nq (x:=n+1) (y:=n) (by omega)) a4,m2 (nq (x:=n+4) (y:=n+1) (by omega)) b1,m2 (nq (x:=n+3) (y:=n+1) (by omega)) b2,m2 (nq (x:=n) (y:=n+1) (by omega)) b3⟩
theorem Og{P:Program}{w:World}{K:PySem.W.Frag}{elts:List Expr}{c1}{pos:Pos}(k1:Kin Sq C L)(k2:Kin Sr D M)(a b:Addr)(n:Nat):Turn P w K (.Tuple elts c1 pos) (Itz Sq Sr K a b) (zfp n) (n+4) (fun i h=>IsZip h (n+4) (n+2) (n+3) .none/\IsPair h (n+2) (.ref n) (.ref (n+1))/\(∃p q,IsPair h (n+3) p q)/\C h n a i/\D h (n+1) b i) where
 mem:=by simp
 obj:=fun i h st x hx=>by
  obtain⟨hz,ht,⟨p,q,ho⟩,hc,hd⟩:=st
  have e:x=n+4\/x=n+3\/x=n\/x=n+1\/x=n+2:=by simpa using hx
  rcases e with rfl|rfl|rfl|rfl|rfl
  ·exact⟨_,hz,fun v z=>by cases z⟩
  ·exact⟨_,ho,fun v z=>by cases z⟩
  ·exact k1.obj hc
  ·exact k2.obj hd
  ·exact⟨_,ht,fun v z=>by cases z⟩
 keep:=fun i h h' st k=>by
  obtain⟨hz,ht,⟨p,q,ho⟩,hc,hd⟩:=st
  exact⟨k _ (by simp) _ hz,k _ (by simp) _ ht,⟨p,q,k _ (by simp) _ ho⟩,k1.keep hc fun o e=>k _ (by simp) o e,k2.keep hd fun o e=>k _ (by simp) o e⟩
 item:=by
  intro X hP hw hK hc i pins s σ H E I hf st hg
  subst hP hw hK
  obtain⟨xs,ys,x,y,hq,hr,hx,hy⟩:=hg
  obtain⟨its,rv,pa⟩:=k1.get I hq
  obtain⟨jts,sv,pb⟩:=k2.get I hr
  obtain⟨u,hu,ru⟩:=rv.get hx
  obtain⟨v,hv,sv'⟩:=sv.get hy
  obtain⟨hz,ht,⟨p,q,ho⟩,hc1,hd1⟩:=st
  have na:a∉zfp n:=fun z=>I.oldNe (hf a z) (k1.old hq) rfl
  have nb:b∉zfp n:=fun z=>I.oldNe (hf b z) (k2.old hr) rfl
  have A:=apt n a b na nb
  have an:a≠n:=fun z=>na (by simp[z])
  have bn:b≠n+1:=fun z=>nb (by simp[z])
  have li:i<its.toArray.size:=by
   have:=(F'.mp hu).1
   simpa using this
  have lj:i<jts.toArray.size:=by
   have:=(F'.mp hv).1
   simpa using this
  refine Xx A (k1.drw (prog:=X.prog) (w:=X.w) (A:=X.A.in1) (I.ok.hd hc) n a an its.toArray) (k2.drw (prog:=X.prog) (w:=X.w) (A:=X.A.in1) (I.ok.hd hc) (n+1) b bn jts.toArray) hz ht ho ⟨hc1,pa⟩ ⟨hd1,pb⟩ li lj fun u' v' h1 tk e1 e2 z1 o1 c1' d1' t1 up=>?_
  have e1:u'=u:=by
   have:its.toArray[i]?=some u:=by simpa using hu
   rw[this]at e1
   exact(A' e1).symm
  have e2:v'=v:=by
   have:jts.toArray[i]?=some v:=by simpa using hv
   rw[this]at e2
   exact(A' e2).symm
  subst e1 e2
  refine⟨_,rfl,wpAny_letOwnedTupleGo_zip (s:={ s with heap:=h1,toks:=tk }) z1 fun h2 z2 sb=>?_⟩
  have fr:H s.heap.objs.size=none:=I.hok.fresh (J' _)
  have lts:∀c∈zfp n,c<s.heap.objs.size:=fun c hc=>by
   have h4:(n:Nat)+4<s.heap.objs.size:=P' hz
   have e:c=n+4\/c=n+3\/c=n\/c=n+1\/c=n+2:=by simpa using hc
   rcases e with rfl|rfl|rfl|rfl|rfl
   ·exact h4
   ·exact(show(n:Nat)+3<s.heap.objs.size by omega)
   ·exact(show(c:Nat)<s.heap.objs.size from cK (bZ c 4) h4)
   ·exact(show(n:Nat)+1<s.heap.objs.size by omega)
   ·exact(show(n:Nat)+2<s.heap.objs.size by omega)
  have I1:=I.laid (t':=tk) (a:=s.heap.objs.size) (o:=.tup [x,y]) (h':=s.heap.push { cls:=.type "tuple",data:=.seq #[u',v'] }) (fun b o q=>E' _ q) (J' _) ⟨by show 2<=sizeLine;decide,[u',v'],.cons ru (.cons sv' .nil),_,R' _ rfl,rfl,_,rfl⟩
  have fp:∀c∈zfp n,FC X pins (upd H s.heap.objs.size (.tup [x,y])) c:=fun c hc=>by
   obtain⟨q0,q⟩:=hf c hc
   refine⟨?_,q⟩
   rw[An (fun z=>?_)]
   ·exact q0
   ·exact absurd (lts c hc) (by rw[z];exact ax _)
  have I2 := I1.turnedL (t' := tk) (h' := h2) (fp := zfp n) (fun c o hc q => by
   have cz:c≠n+4:=fun z=>hc (by simp[z])
   rw[sb.2 c cz]
   by_cases hs:c=s.heap.objs.size
   ·subst hs
    have q':some ({ cls:=.type "tuple",data:=.seq #[u',v'] }:Obj)=some o:=(R' s.heap (o:={ cls:=.type "tuple",data:=.seq #[u',v'] }) rfl).symm.trans q
    rw[show h1.get? s.heap.objs.size=_ from t1];exact q'
   ·have q':(s.heap.push { cls:=.type "tuple",data:=.seq #[u',v'] }).get? c=some o:=q
    rw[Heap.get?_push_ne _ _ _ hs]at q'
    exact up c o cz (fun z=>hc (by simp[z])) (fun z=>hc (by simp[z])) (fun z=>hc (by simp[z])) q') fp
  have g2:∀c o,c≠n+4->h1.get? c=some o->h2.get? c=some o:=fun c o c1 q=>(sb.2 c c1).trans q
  have t2:IsPair h1 (n+2) (.ref n) (.ref (n+1)):=up _ _ (nq (x:=n+2) (y:=n+4) (by omega)) (nq (x:=n+2) (y:=n+3) (by omega)) (nq (x:=n+2) (y:=n) (by omega)) (nq (x:=n+2) (y:=n+1) (by omega)) ht
  exact⟨.ref s.heap.objs.size,_,I2,rfl,⟨s.heap.objs.size,x,y,fr,rfl,fun zs h=>by rw[k1.inj I h hq];exact hx,fun zs h=>by rw[k2.inj I h hr];exact hy,rfl⟩,⟨z2,g2 _ _ (nq (x:=n+2) (y:=n+4) (by omega)) t2,⟨_,_,g2 _ _ (nq (x:=n+3) (y:=n+4) (by omega)) o1⟩,k1.keep c1'.1 fun o q=>g2 _ o (nq (x:=n) (y:=n+4) (by omega)) q,k2.keep d1'.1 fun o q=>g2 _ o (nq (x:=n+1) (y:=n+4) (by omega)) q⟩,fun c hc=>(fp c hc).1⟩
 done:=by
  intro X hP hw hK hc i pins s σ H E I hf st hg
  subst hP hw hK
  obtain⟨xs,ys,hq,hr,he⟩:=hg
  obtain⟨its,rv,pa⟩:=k1.get I hq
  obtain⟨jts,sv,pb⟩:=k2.get I hr
  obtain⟨hz,ht,⟨p,q,ho⟩,hc1,hd1⟩:=st
  have na:a∉zfp n:=fun z=>I.oldNe (hf a z) (k1.old hq) rfl
  have nb:b∉zfp n:=fun z=>I.oldNe (hf b z) (k2.old hr) rfl
  have A:=apt n a b na nb
  have an:a≠n:=fun z=>na (by simp[z])
  have bn:b≠n+1:=fun z=>nb (by simp[z])
  have l1:=rv.length
  have l2:=sv.length
  have he':its.toArray.size<=i\/i<its.toArray.size/\jts.toArray.size<=i:=by
   rw[V',V',<- l1,<- l2];exact he
  exact XF A (k1.drw (prog:=X.prog) (w:=X.w) (A:=X.A.in1) (I.ok.hd hc) n a an its.toArray) (k2.drw (prog:=X.prog) (w:=X.w) (A:=X.A.in1) (I.ok.hd hc) (n+1) b bn jts.toArray) hz ht ho ⟨hc1,pa⟩ ⟨hd1,pb⟩ (k1.fin (A:=X.A.in1) (I.ok.hd hc) n a its.toArray i) (k2.fin (A:=X.A.in1) (I.ok.hd hc) (n+1) b jts.toArray i) he' fun h' tk up=>⟨rfl,I.turnedL (t':=tk) (fp:=zfp n) (fun c o hc e=>up c o (fun z=>hc (by simp[z])) (fun z=>hc (by simp[z])) (fun z=>hc (by simp[z])) (fun z=>hc (by simp[z])) e) hf⟩
 self:=fun _ _ _ _ _ st h=>wpAny_pyIter_zip st.1 h
variable {X:Cx} {elts:List Expr} {tp:Pos}
def Lk(Sr:PySem.W.Frag->Hp->Addr->List V->Prop)(K:PySem.W.Frag)(ta:TA):TI:=fun σ H R=>ta σ H fun vs H1=>∃a b,vs=[.ref a,.ref b]/\(∃xs,SqT K H1 a xs)/\(∃ys,Sr K H1 b ys)/\R (Itz SqT Sr K a b) H1
theorem Inv.zip{pins:List (Addr×Obj)}{σ:L2.St}{H:Hp}{s:Shared}{h':Heap}{a b:Addr}{c:String}{Sr:PySem.W.Frag->Hp->Addr->List V->Prop}{D:Heap->Addr->Addr->Nat->Prop}{M:Heap->Addr->Array Value->Prop}{R:It->Hp->Prop}{c1}(k2:Kin Sr D M)(I:Inv X pins σ H s)(Ld:Sx s.heap h' "tuple_iterator" c a b)(hd:D h' (s.heap.objs.size+1) b 0)(q:R (Itz SqT Sr X.K a b) H) :
  ∃(it:Addr) (fp:List Addr) (tn:Nat->Heap->Prop) (J:It) (H':Hp),Value.ref (s.heap.objs.size+4) = .ref it/\Inv X pins σ H' { s with heap:=h' }/\Turn X.prog X.w X.K (.Tuple elts c1 tp) J fp it tn/\tn 0 h'/\(∀b∈fp,FC X pins H' b)/\R J H':=by
 have I2:Inv X pins σ H { s with heap:=h' }:=I.kept (t':=s.toks) Ld.up
 have fz:∀m:Nat,s.heap.objs.size<=m->FC X pins H m:=fun m hm=>I.fpOk hm (I.hok.fresh hm)
 refine⟨_,zfp s.heap.objs.size,_,_,H,rfl,I2,Og X5 k2 a b s.heap.objs.size,⟨Ld.hz,Ld.ht,⟨_,_,Ld.ho⟩,⟨_,Ld.ha,rfl,rfl⟩,hd⟩,fun x hx=>?_,q⟩
 have e:x=s.heap.objs.size+4\/x=s.heap.objs.size+3\/x=s.heap.objs.size\/x=s.heap.objs.size+1\/x=s.heap.objs.size+2:=by simpa using hx
 rcases e with rfl|rfl|rfl|rfl|rfl
 ·exact fz _ (bZ _ _)
 ·exact fz _ (bZ _ _)
 ·exact fz _ (J' _)
 ·exact fz _ (bZ _ _)
 ·exact fz _ (bZ _ _)
theorem Pb{a b:Expr}{ta:TA}{p pos:Pos}{c1}(hg:Gl X "zip")(hm:X.mg "zip"=none)(ha:PA X [a,b] ta)(hn:("zip":Str)≠"__name__")(hdb:(("zip":Str)==("__debug__":Str))=false)(hs:starEach [a,b] X.env=(false,eval a X.env)::starEach [b] X.env:=by rfl)(hs2:starEach [b] X.env=[(false,eval b X.env)]:=by rfl) :
  PI X (.Tuple elts c1 tp) (.Call (.Name "zip" p) [a,b] [] pos) (Lk SqT X.K ta):=by
 intro pins s σ H R I h
 refine Call_ (Gr I hg hm boot_zip (bG (thn (ha pos pins s σ H _ I h) fun us s1 ⟨vs,H1,I1,r1,q1⟩=>?_) hs (by rw[hs2];rfl)) hn hdb)
 obtain⟨l,k,e,⟨xs,hq⟩,⟨ys,hr⟩,q⟩:=q1
 subst e
 obtain⟨u,v,rfl,ru,rv⟩:=Od r1
 cases ru
 cases rv
 obtain⟨its,_,pl,_⟩:=I1.tuple hq
 obtain⟨jts,_,pk,_⟩:=I1.tuple hr
 refine WZ pl pk fun h' Ld=>wpAny_pyIter_zip (s:={ s1 with heap:=h' }) Ld.hz ?_
 exact I1.zip X5 Ld ⟨_,Ld.hb,rfl,rfl⟩ q
theorem Pc{a b:Expr}{ta:TA}{p pos:Pos}{c1}(hg:Gl X "zip")(hm:X.mg "zip"=none)(ha:PA X [a,b] ta)(hn:("zip":Str)≠"__name__")(hdb:(("zip":Str)==("__debug__":Str))=false)(hs:starEach [a,b] X.env=(false,eval a X.env)::starEach [b] X.env:=by rfl)(hs2:starEach [b] X.env=[(false,eval b X.env)]:=by rfl) :
  PI X (.Tuple elts c1 tp) (.Call (.Name "zip" p) [a,b] [] pos) (Lk SqL X.K ta):=by
 intro pins s σ H R I h
 refine Call_ (Gr I hg hm boot_zip (bG (thn (ha pos pins s σ H _ I h) fun us s1 ⟨vs,H1,I1,r1,q1⟩=>?_) hs (by rw[hs2];rfl)) hn hdb)
 obtain⟨l,k,e,⟨xs,hq⟩,⟨ys,hr⟩,q⟩:=q1
 subst e
 obtain⟨u,v,rfl,ru,rv⟩:=Od r1
 cases ru
 cases rv
 obtain⟨its,_,pl,_⟩:=I1.tuple hq
 obtain⟨jts,_,pk,_⟩:=I1.list hr
 refine Wa pl pk.isList fun h' Ld=>wpAny_pyIter_zip (s:={ s1 with heap:=h' }) Ld.hz ?_
 exact I1.zip Zs Ld ⟨_,Ld.hb,rfl,rfl⟩ q
end
end L2
end
section
namespace DL
open PySem L2 ZpG
variable {K:KW}
def FK:List PyData->List PyData->List PyData
 |x::xs,y::ys=>.tuple [x,y]::FK xs ys
 |_,_=>[]
theorem IA:∀xs ys:List PyData,(FK xs ys).length=min xs.length ys.length
 |[],_=>by simp[FK]
 |_::_,[]=>by simp[FK]
 |x::xs,y::ys=>by
  rw[FK,aR,IA xs ys,aR,aR];omega
theorem IB:∀{xs ys:List PyData} {i:Nat} {d:PyData},(FK xs ys)[i]?=some d->∃x y,xs[i]?=some x/\ys[i]?=some y/\d = .tuple [x,y]
 |[],_,_,_,e=>by simp[FK]at e
 |_::_,[],_,_,e=>by simp[FK]at e
 |x::xs,y::ys,0,d,e=>by
  rw[FK]at e
  exact⟨x,y,rfl,rfl,(A' e).symm⟩
 |x::xs,y::ys,i+1,d,e=>by
  rw[FK,bS]at e
  rw[bS,bS]
  exact IB e
def dIZ(a:DA)(τ:DS):Option (List PyData×DS):=(a τ).bind fun p=>(Aq p.1).bind fun ds=>match ds with
 |[.tuple xs,.tuple ys]=>some (FK xs ys,p.2)
 |_=>none
def Mf(a:DA)(τ:DS):Option (List PyData×DS):=(a τ).bind fun p=>(Aq p.1).bind fun ds=>match ds with
 |[.tuple xs,.list ys]=>some (FK xs ys,p.2)
 |_=>none
theorem U8{t:TA}{a:DA}(ha:A K t a):IT2 K (Lk SqT K t) (dIZ a):=by
 refine⟨fun τ d t7 e=>?_,?_⟩
 ·unfold dIZ at e
  obtain⟨⟨x,t5⟩,e1,e⟩:=oB e
  obtain⟨ds,e2,e⟩:=oB e
  split at e
  ·cases e;exact ha.like _ _ _ e1
  ·cases e
 intro S M τ σ H Q ds t7 r e q
 unfold dIZ at e
 obtain⟨⟨x,t5⟩,e1,e⟩:=oB e
 obtain⟨ds',e2,e⟩:=oB e
 split at e
 ·rename_i xs ys
  cases e
  refine ha.run S M τ σ H _ x _ r e1 fun vs H1 r1 c1 i1=>?_
  obtain⟨v,us,rfl,⟨a1,v1,rfl,hl,ll⟩,w,us',rfl,⟨b1,w1,rfl,hk,lk⟩,iu⟩:=CV i1 e2
  cases (show us'=[] from iu)
  refine⟨a1,b1,rfl,⟨v1,Same.tup same_hid hl⟩,⟨w1,Same.tup same_hid hk⟩,q _ H1 r1 c1 fun S2 H2 k nS=>?_⟩
  have hl3:SqT K H2 a1 v1:=Same.tup same_hid (Same.tup k.same hl)
  have hk3:SqT K H2 b1 w1:=Same.tup same_hid (Same.tup k.same hk)
  have ll2:=ll.mono k.same
  have lk2:=lk.mono k.same
  refine⟨fun i d e=>?_,fun i hi=>⟨v1,w1,hl3,hk3,?_⟩⟩
  ·obtain⟨x',y',ex,ey,rfl⟩:=IB e
   obtain⟨u,h1,h2⟩:=ll2.get ex
   obtain⟨z,g1,g2⟩:=lk2.get ey
   refine⟨⟨v1,w1,u,z,hl3,hk3,h1,g1⟩,?_⟩
   rintro x H3 ⟨p,v,u',hp,rfl,m1,m2,rfl⟩
   have m1:=m1 v1 hl3
   have m2:=m2 w1 hk3
   rw[h1]at m1;cases m1
   rw[g1]at m2;cases m2
   have s:=Ay hp (HO.tup [u,z])
   exact⟨s,⟨p,[u,z],rfl,.inl (.inl (hid_iff.mpr ⟨nS p hp,Ac⟩)),⟨_,_,rfl,h2.mono (Same.keep s).same,_,_,rfl,g2.mono (Same.keep s).same,rfl⟩⟩⟩
  ·rw[IA]at hi
   rw[ll.length,lk.length]
   omega
 ·cases e
theorem Rm{t:TA}{a:DA}(ha:A K t a):IT2 K (Lk SqL K t) (Mf a):=by
 refine⟨fun τ d t7 e=>?_,?_⟩
 ·unfold Mf at e
  obtain⟨⟨x,t5⟩,e1,e⟩:=oB e
  obtain⟨ds,e2,e⟩:=oB e
  split at e
  ·cases e;exact ha.like _ _ _ e1
  ·cases e
 intro S M τ σ H Q ds t7 r e q
 unfold Mf at e
 obtain⟨⟨x,t5⟩,e1,e⟩:=oB e
 obtain⟨ds',e2,e⟩:=oB e
 split at e
 ·rename_i xs ys
  cases e
  refine ha.run S M τ σ H _ x _ r e1 fun vs H1 r1 c1 i1=>?_
  obtain⟨v,us,rfl,⟨a1,v1,rfl,hl,ll⟩,w,us',rfl,⟨b1,w1,rfl,hk,lk⟩,iu⟩:=CV i1 e2
  cases (show us'=[] from iu)
  refine⟨a1,b1,rfl,⟨v1,Same.tup same_hid hl⟩,⟨w1,SqL.of (hid_iff.mp hk).2⟩,q _ H1 r1 c1 fun S2 H2 k nS=>?_⟩
  have hl3:SqT K H2 a1 v1:=Same.tup same_hid (Same.tup k.same hl)
  have hk3:SqL K H2 b1 w1:=SqL.of (hid_iff.mp (k.same _ _ hk)).2
  have ll2:=ll.mono k.same
  have lk2:=lk.mono k.same
  refine⟨fun i d e=>?_,fun i hi=>⟨v1,w1,hl3,hk3,?_⟩⟩
  ·obtain⟨x',y',ex,ey,rfl⟩:=IB e
   obtain⟨u,h1,h2⟩:=ll2.get ex
   obtain⟨z,g1,g2⟩:=lk2.get ey
   refine⟨⟨v1,w1,u,z,hl3,hk3,h1,g1⟩,?_⟩
   rintro x H3 ⟨p,v,u',hp,rfl,m1,m2,rfl⟩
   have m1:=m1 v1 hl3
   have m2:=m2 w1 hk3
   rw[h1]at m1;cases m1
   rw[g1]at m2;cases m2
   have s:=Ay hp (HO.tup [u,z])
   exact⟨s,⟨p,[u,z],rfl,.inl (.inl (hid_iff.mpr ⟨nS p hp,Ac⟩)),⟨_,_,rfl,h2.mono (Same.keep s).same,_,_,rfl,g2.mono (Same.keep s).same,rfl⟩⟩⟩
  ·rw[IA]at hi
   rw[ll.length,lk.length]
   omega
 ·cases e
section
variable {Γ:Ct} {a b:Expr} {g:DA} {p p2 pos:Pos}
theorem Vz{x j}(h:CA Γ [a,b] g)(hz:Γ.mg "zip"=none:=by assumption)(hg:gnQ Γ "zip":=by walk_at "dk")(hs:B5 a [b]:=by walk_at "q")(hs':B5 b []:=by walk_at "q"):CI2 Γ (.Tuple x j p2) (.Call (.Name "zip" p) [a,b] [] pos) (dIZ g):=let ⟨t,a1,a2⟩:=h;⟨Lk SqT Γ.K t,fun X c=>c.w (p:=fun K=>PI X _ _ (Lk SqT K t)) (Pb (c.g _ hg.1.1) (by rw[c.m];exact hz) (a1 X c) hg.2 hg.1.2 (hs _) (by rw[hs'];rfl)),U8 a2⟩
theorem SX{x j}(h:CA Γ [a,b] g)(hz:Γ.mg "zip"=none:=by assumption)(hg:gnQ Γ "zip":=by walk_at "dk")(hs:B5 a [b]:=by walk_at "q")(hs':B5 b []:=by walk_at "q"):CI2 Γ (.Tuple x j p2) (.Call (.Name "zip" p) [a,b] [] pos) (Mf g):=let ⟨t,a1,a2⟩:=h;⟨Lk SqL Γ.K t,fun X c=>c.w (p:=fun K=>PI X _ _ (Lk SqL K t)) (Pc (c.g _ hg.1.1) (by rw[c.m];exact hz) (a1 X c) hg.2 hg.1.2 (hs _) (by rw[hs'];rfl)),Rm a2⟩
end
def MB(a:Addr)(tb:List (Str×PyData)):R2:=fun y x H Q=>x = .ref a/\∃k,y = .str k/\Q (.bl (!(Cc tb k).isSome)) H
theorem Pn{X:Cx}{a:Addr}{tb:List (Str×PyData)}(kd:KD (EB X) X.w a tb)(hs:(a==sysModules)=false):OpR X (compareOp .NotIn) (MB a tb):=by
 intro pins s σ H x y v u Q I rx ry h
 obtain⟨rfl,k,rfl,q⟩:=h
 cases ry
 obtain⟨t,rfl⟩:=rx
 obtain⟨es,n,lk,hL⟩:=kd.ex
 have hm:s.heap.MapOf (strKind X.prog X.w) a (fun k=>findBy Value.isStrOf es k):=⟨_,es,n,I.kIn _ _ lk,⟨rfl,rfl,rfl⟩,rfl,fun e he=>Hv hL e (aw.mpr he),fun _=>rfl⟩
 refine wpAny_notIn_of (k:=k) (by show Value.isStrOf k (.str k t)=true;rw[A2];exact decide_eq_true rfl) hs hm ?_
 have e:(findBy Value.isStrOf es k).isSome=(Cc tb k).isSome:=by
  unfold findBy
  rw[<- bU,bq]
  exact Kh hL
 rw[e]
 exact⟨.bl _,H,I.tok _,rfl,q⟩
def JC(tb:List (Str×PyData))(f:DX)(τ:DS):Option (PyData×DS):=(f τ).bind fun p=>match p.1 with
 |.str k=>some (.bool (!(Cc tb k).isSome),p.2)
 |_=>none
theorem VT{fa:Bool}{a:Addr}{tb:List (Str×PyData)}{t:TE}{f:DX}(h:E K t fa f):E K (tOp (MB a tb) t (tC (.ref a))) false (JC tb f):=by
 refine⟨fun τ d t7 e=>?_,?_⟩
 ·unfold JC at e
  obtain⟨⟨x,t5⟩,e1,e⟩:=oB e
  dsimp only at e
  split at e
  ·cases e;exact h.like _ _ _ e1
  ·cases e
 intro S M τ σ H Q d t7 r e q
 unfold JC at e
 obtain⟨⟨x,t5⟩,e1,e⟩:=oB e
 dsimp only at e
 split at e
 ·rename_i k
  cases e
  refine h.weak.run S M τ σ H _ _ _ r e1 fun v H1 r1 c1 i1=>?_
  cases (show v = .str k from i1)
  exact⟨rfl,k,rfl,q _ H1 r1 c1 rfl⟩
 ·cases e
section
variable {Γ:Ct} {a:Expr} {f:DX} {p pos:Pos}
theorem SH{x:Str}{tb:List (Str×PyData)}(ha:CE Γ a false f)(h:kdQ Γ x tb:=by assumption)(hg:glQ Γ x:=by walk_at "dk")(hm:behindInMarks .NotIn (.Name x p)=false:=by walk_at "q"):CT Γ (.Compare a [.NotIn] [.Name x p] pos) (AE (JC tb f)):=by
 obtain⟨_,b1,b2⟩:=ha;obtain⟨ad,h1,h2,h3⟩:=h
 exact⟨_,fun X c=>KG (r:=MB ad tb) (Pn (X:=X) (by rw[<- c.kw]at h2;exact h2) h3) (b1 X c) (EN (v:=.ref ad) (c.g x hg.1) (by rw[c.m];exact h1) rfl hg.2) hm,Ce (VT b2)⟩
end
end DL
end
section
namespace L2
open PySem PySem.Spec PyProof.Rows
section
variable {X:Cx}
def MC(K:PySem.W.Frag):V->List V->Hp->VK->Prop:=fun x xs H Q=>∃sep p ys,x = .str sep/\xs=[.ref p]/\SqT K H p (ys.map V.str)/\(ys.map (·.length)).sum+ys.length*sep.length<=16777216/\Q (.str (Txt.join sep ys)) H
theorem ID:∀{ys:List Str} {us:List Value},Vals (ys.map V.str) us->StrsAre us ys
 |[],_,h=>by cases h;exact .nil
 |y::ys,_,h=>by
  cases h with
  |cons r t =>
   obtain⟨k,rfl⟩:=r
   exact .cons _ _ (ID t)
theorem P0:MtR X "str.join" (MC X.K):=by
 intro pins s σ H x xs v us Q I rx rs h
 obtain⟨sep,p,ys,rfl,rfl,hq,hok,q⟩:=h
 obtain⟨t,rfl⟩:=rx
 obtain⟨u,rfl,ru⟩:=DH rs
 cases ru
 obtain⟨its,rv,pl,_⟩:=I.tuple hq
 exact join_tuple pl (by simpa using ID rv) hok fun t' k=>⟨.str _,H,I.tok _,⟨t',rfl⟩,q⟩
end
end L2
namespace DL
open PySem L2 PyProof.Rows
variable {K:KW}
def E2(sep:Str)(f:DX)(τ:DS):Option (PyData×DS):=(f τ).bind fun p=>match p.1 with
 |.tuple ds=>(Ei ds).bind fun ys=>if (ys.map (·.length)).sum+ys.length*sep.length<=16777216 then some (.str (Txt.join sep ys),p.2) else none
 |_=>none
theorem Ha{sep:Str}{f:DX}{τ t7:DS}{d:PyData}(e:E2 sep f τ=some (d,t7)):∃ds ys,f τ=some (.tuple ds,t7)/\Ei ds=some ys/\(ys.map (·.length)).sum+ys.length*sep.length<=16777216/\d = .str (Txt.join sep ys):=by
 unfold E2 at e
 obtain⟨⟨x,t5⟩,e1,e⟩:=oB e
 dsimp only at e
 split at e
 ·rename_i ds
  obtain⟨ys,e2,e⟩:=oB e
  split at e
  ·rename_i h
   cases e
   exact⟨ds,ys,e1,e2,h,rfl⟩
  ·cases e
 ·cases e
theorem R7{fr:Bool}{sep:Str}{te:TE}{f:DX}(h:E K te fr f):E K (tBM K "str" (MC K) (tC (.str sep)) (Cs te Eo)) false (E2 sep f):=by
 refine⟨fun τ d t7 e=>?_,?_⟩
 ·obtain⟨ds,ys,e1,_⟩:=Ha e
  exact h.like _ _ _ e1
 intro S M τ σ H Q d t7 r e q
 obtain⟨ds,ys,e1,e2,e3,rfl⟩:=Ha e
 refine⟨rfl,h.weak.run S M τ σ H _ _ _ r e1 fun v H1 r1 c1 i1=>?_⟩
 have i1':Is K (hid S H1) (.tuple ds) v:=i1
 obtain⟨a,vs,rfl,hl,ll⟩:=i1'
 have:=J7 ll e2
 subst this
 exact⟨sep,a,ys,rfl,rfl,Same.tup same_hid hl,e3,q _ H1 r1 c1 rfl⟩
section
variable {Γ:Ct} {a:Expr} {f:DX} {p p1 pos:Pos}
theorem Qc{x:Str}{j}(ha:CE Γ a false f)(hl:lnQ p1 pos:=by walk_at "q")(hs:B5 a []:=by walk_at "q"):CE Γ (.Call (.Attribute (.Constant (.str x) j p) "join" p1) [a] [] pos) false (E2 x f):=by
 obtain⟨t,a1,a2⟩:=ha
 exact⟨_,fun X c=>c.w (p:=fun K=>PE X _ (tBM K "str" (MC K) (tC (.str x)) (Cs t Eo))) (LF bV PySem.F.slot_str_join PySem.F.type_str_join P0 KI (Cm (a1 X c) EO (hs _)) rfl (R4 hs _) hl (hs _) rfl),R7 a2⟩
end
end DL
end
section
namespace L2
open PySem PySem.Spec PyProof.Rows PySem.W DL
section
variable {X:Cx} {k:Nat} {f:Addr} {fd:FuncData} {ps:List Str} {x n cn:Str} {e:Expr} {es:List Expr} {t:TA} {pos p p1 p2 py np hp p9 p0:Pos} {D' C:Addr} {i j:Nat} {b₀:Stmt} {suite:List Stmt}
end
end L2
namespace DL
open PySem L2 PySem.Spec PyProof.Rows
section
variable {K:KW}
end
section
variable {Γ:Ct} {fa fb:Bool} {f g:DX} {a b:Expr} {pos p p1:Pos}
end
end DL
end
set_option maxHeartbeats 2000000
namespace My
open PySem L2 DL
local macro_rules|`(tactic| trivial)=>`(tactic| first|rfl|(intro _;rfl)|exact .inl rfl|exact .inr rfl|with_unfolding_all rfl|decide|assumption|(intro _ _ _ _ _ _ us hl;first|(match us,hl with|[_],_=>rfl)|(match us,hl with|[_,_],_=>rfl)|(match us,hl with|[_,_,_],_=>rfl)|(match us,hl with|[_,_,_,_],_=>rfl)|(match us,hl with|[_,_,_,_,_],_=>rfl)|(match us,hl with|[],_=>rfl)))
local macro_rules|`(tactic| walk_at "dk")=>`(tactic| decide +kernel)
local macro_rules|`(⋯)=>`(by trivial)
local macro_rules|`(∅)=>`(by decide +kernel)
def top(i:Nat):Stmt:=PySem.Challenge.pw_scenemend_k80_scenes_written.main.body.getD i (.Pass ⟨0,0,0,0⟩)
abbrev HU:Stmt:=top 58
abbrev M1:Stmt:=top 59
abbrev HR:Stmt:=top 65
abbrev HP:Stmt:=top 66
abbrev O5:Stmt:=top 73
abbrev Mz:Stmt:=top 60
abbrev GI:Stmt:=top 64
abbrev GL:Stmt:=top 69
abbrev Et:Stmt:=top 68
abbrev HQ:Stmt:=top 67
abbrev HN:Stmt:=top 70
abbrev HS:Stmt:=top 71
abbrev Jp:Stmt:=top 72
abbrev IV:Stmt:=top 74
abbrev GJ:Stmt:=top 75
abbrev HJ:Stmt:=top 16
abbrev IH:Stmt:=top 17
abbrev IG:Stmt:=top 12
abbrev Ep:Stmt:=top 44
abbrev GB:Stmt:=top 13
abbrev Mw:Stmt:=top 14
abbrev Mv:Stmt:=top 15
abbrev DK:Stmt:=top 48
abbrev Ek:Stmt:=top 50
abbrev II:Stmt:=top 18
abbrev FR:Stmt:=top 52
abbrev FQ:Stmt:=top 55
abbrev HI:Stmt:=top 45
abbrev GG:Stmt:=top 46
abbrev F9:Stmt:=top 47
abbrev Ej:Stmt:=top 49
abbrev GH:Stmt:=top 51
abbrev FT:Stmt:=top 53
abbrev GC:Stmt:=top 24
abbrev Jm:Stmt:=top 25
abbrev IK:Stmt:=top 19
abbrev IJ:Stmt:=top 7
abbrev HK:Stmt:=top 20
abbrev Dy:Stmt:=top 8
abbrev IL:Stmt:=top 9
abbrev DJ:Stmt:=top 22
abbrev IQ:Stmt:=top 23
abbrev IM:Stmt:=top 28
abbrev Jo:Stmt:=top 29
abbrev Jl:Stmt:=top 5
abbrev Er:Stmt:=top 26
abbrev Jj:Stmt:=top 30
abbrev DM:Stmt:=top 27
abbrev GD:Stmt:=top 31
abbrev IU:Stmt:=top 32
abbrev IS:Stmt:=top 33
abbrev IP:Stmt:=top 21
abbrev HL:Stmt:=top 34
abbrev Jk:Stmt:=top 35
abbrev HM:Stmt:=top 36
abbrev Jn:Stmt:=top 38
abbrev K6:Stmt:=top 39
abbrev IF:Stmt:=top 54
abbrev GA:Stmt:=top 56
abbrev Es:Stmt:=top 78
abbrev GK:Stmt:=top 79
abbrev FU:Stmt:=top 77
abbrev TJ:Stmt:=top 80
def AS:List (Str×PyData):=[("plate",(.tuple [(.str "whole"),(.str "whole"),(.str "fraction"),(.str "fraction")])),("band",(.tuple [(.str "whole"),(.str "whole"),(.str "fraction"),(.str "fraction")])),("word",(.tuple [(.str "text"),(.str "fraction"),(.str "fraction")])),("stencil",(.tuple [(.str "rows"),(.str "fraction"),(.str "fraction")])),("group",(.tuple [])),("glass",(.tuple [(.str "fraction")])),("window",(.tuple [(.str "whole"),(.str "whole"),(.str "whole"),(.str "whole")])),("turn",(.tuple [(.str "whole"),(.str "flipped")])),("tiles",(.tuple [(.str "whole"),(.str "whole"),(.str "whole"),(.str "whole")])),("mask",(.tuple []))]
def Dx:List (Str×PyData):=[("0",(.str "tolrks")),("1",(.str "rs")),("2",(.str "tmork")),("3",(.str "tmors")),("4",(.str "mlrs")),("5",(.str "tmols")),("6",(.str "tmolks")),("7",(.str "trs")),("8",(.str "tmolrks")),("9",(.str "tmolrs")),("a",(.str "tmlrks")),("b",(.str "molks")),("c",(.str "tolk")),("d",(.str "morks")),("e",(.str "tmolk")),("f",(.str "tmlk")),("-",(.str "m")),("_",(.str ""))]
def Bl:Mir:=AX false 2 0 (AI (AQ (AE (dOp fLt (AB 1) (As 0))) (AL (Bf 0 (AB 1))) AR) (AL (dC (.int 0))))
def Co:Mir:=AX false 2 6 (AI (AJ (Aa (AA (dC (.int 48271)) (AA (dC (.int 69621)) (AA (dC (.int 16807)) (AA (dC (.int 39373)) (AA (dC (.int 21401)) (AA (dC (.int 60493)) (AA (dC (.int 87721)) (AA (dC (.int 31337)) AD))))))))) (dN 2)) (AI (AJ (Aa (AA (dC (.int 99991)) (AA (dC (.int 99989)) (AA (dC (.int 99971)) (AA (dC (.int 99961)) (AA (dC (.int 99929)) (AA (dC (.int 99923)) (AA (dC (.int 99907)) (AA (dC (.int 99901)) AD))))))))) (dN 3)) (AI (AJ (AV 0 Bl (AA (AB 1) AD)) (dN 4)) (AI (AQ (AE (dOp fGe (AB 4) (dOp OJ (dC (.int 10)) (dC (.int 18))))) (AL (AB 4)) AR) (AI (AJ (dC (.int 0)) (dN 5)) (AI (B0 (dR1 (AA (dC (.int 60)) AD)) (dN 6) (AI (AJ (dOp Ag (dOp Ag (dOp AW (AV 0 Bl (AA (dOp Ag (AB 1) (dOp AW (AB 6) (dC (.int 9)))) AD)) (dOp OJ (dC (.int 10)) (dC (.int 18)))) (dC (.int 1))) (dOp Gs (AB 6) (AB 6))) (dN 7)) (AJ (dOp Ag (dOp Gs (AB 5) (dC (.int 7919))) (dOp AW (dOp AW (dOp Gs (AB 7) (dOp AK (AB 2) (dOp AW (AB 6) (dC (.int 8))))) (dOp AK (AB 3) (dOp AW (AB 6) (dC (.int 8))))) (dC (.int 7919)))) (dN 5)))) (AL (AB 5))))))))
def Dj:Mir:=AX false 1 3 (AI (AJ (dC (.str "")) (dN 1)) (AI (AJ (dOp Ag (dC (.int 1)) (dOp AW (AB 0) (dC (.int 8)))) (dN 2)) (AI (AJ (dOp Af (AB 0) (dC (.int 8))) (dN 0)) (AI (B0 (dR1 (AA (AB 2) AD)) (dN 3) (AI (AJ (dOp Cz (AB 1) (dOp Hl (dC (.str "abcdefghijklmnopqrstuvwxyz0123456789")) (dOp AW (AB 0) (dC (.int 36))))) (dN 1)) (AJ (dOp Af (AB 0) (dC (.int 36))) (dN 0)))) (AL (Aa (AA (AB 1) (AA (AB 0) AD))))))))
def A1:Mir:=AX false 1 0 (AI (AQ (AE (dOp fEq (dOp AW (AB 0) (dC (.int 6))) (dC (.int 0)))) (AL (Aa (AA (dOp BJ (dOp AW (dOp Af (AB 0) (dC (.int 6))) (dC (.int 121))) (dC (.int 60))) (AA (dOp Af (AB 0) (dC (.int 726))) AD)))) AR) (AL (Aa (AA (dOp BJ (dOp AW (dOp Af (AB 0) (dC (.int 6))) (dC (.int 12))) (dC (.int 3))) (AA (dOp Af (AB 0) (dC (.int 72))) AD)))))
def Ez:Mir:=AX true 2 3 (AI (Gh 2 2) (AI (NY 2 3) (AI (B0 (dIL (AB 0)) (dN 4) (JB 3 (AB 4) (dOp AK (AB 4) (dC (.int 0))))) (AI (Fh (fun _=>100) (BI (AE (dOp fNe (AB 1) (dC (.str "")))) (AE (Lq false (AB 1) 3))) (AI (Av (dMt 2 Ah (AA (AB 1) AD))) (AJ (dOp AK (Lp 3 (AB 1)) (dC (.int 1))) (dN 1)))) (Dl 2 2)))))
def GZ:Mir:=AX false 2 2 (AI (BN 2 3 (AA (AN Hm (AA (AB 0) AD)) (AA (AB 1) AD))) (AI (Fh (Tc 3) (AE (dOp fGt (AB 3) (dC (.int 0)))) (BN 2 3 (AA (AB 3) (AA (dOp AW (AB 2) (AB 3)) AD)))) (AL (Aa (AA (dOp Af (AB 0) (AB 2)) (AA (dOp Af (AB 1) (AB 2)) AD))))))
def CK:Mir:=AX false 1 1 (AI (AJ (dOp AK (Aa (AA (dC (.int 1)) (AA (dC (.int 1)) (AA (dC (.int 2)) (AA (dC (.int 3)) AD))))) (dOp AW (AB 0) (dC (.int 4)))) (dN 1)) (AI (AQ (AE (dOp fEq (dOp AW (dOp Af (AB 0) (dC (.int 4))) (dC (.int 4))) (dC (.int 0)))) (AJ (dOp Ag (dC (.int 1)) (dOp AW (dOp Af (AB 0) (dC (.int 16))) (dC (.int 12)))) (dN 1)) AR) (AI (AQ (AE (dOp fEq (dOp AW (dOp Af (AB 0) (dC (.int 4))) (dC (.int 16))) (dC (.int 1)))) (AJ (dOp Ag (dC (.int 1)) (dOp AW (dOp Af (AB 0) (dC (.int 16))) (dC (.int 1000)))) (dN 1)) AR) (AI (AJ (dOp Af (AB 0) (dC (.int 16000))) (dN 0)) (AL (Aa (AA (AH GZ (AA (dOp AW (AB 0) (dOp Ag (AB 1) (dC (.int 1)))) (AA (AB 1) AD))) (AA (dOp Af (AB 0) (dOp Ag (AB 1) (dC (.int 1)))) AD))))))))
def Bp:Mir:=AX false 1 2 (AI (AJ (AH CK (AA (AB 0) AD)) (dGT (AM (dN 1) (AM (dN 0) Au)))) (AI (AQ (AE (dOp fEq (dOp AW (AB 0) (dC (.int 3))) (dC (.int 0)))) (AL (Aa (AA (AB 1) (AA (Aa (AA (dC (.int 1)) (AA (dC (.int 1)) AD))) (AA (dOp Af (AB 0) (dC (.int 3))) AD))))) AR) (AI (AJ (AH CK (AA (dOp Af (AB 0) (dC (.int 3))) AD)) (dGT (AM (dN 2) (AM (dN 0) Au)))) (AL (Aa (AA (AB 1) (AA (AB 2) (AA (AB 0) AD))))))))
def CJ:Mir:=AX false 1 6 (AI (AJ (dOp Ag (dC (.int 1)) (dOp AW (AB 0) (dC (.int 8)))) (dN 1)) (AI (AJ (dOp Ag (dC (.int 1)) (dOp AW (dOp Af (AB 0) (dC (.int 8))) (dC (.int 8)))) (dN 2)) (AI (AJ (dOp Af (AB 0) (dC (.int 64))) (dN 0)) (AI (Gh 1 3) (AI (B0 (dR1 (AA (AB 2) AD)) (dN 4) (AI (AJ (dC (.str "")) (dN 5)) (AI (B0 (dR1 (AA (AB 1) AD)) (dN 6) (AI (AJ (dOp Cz (AB 5) (dOp Hl (dC (.str "#.")) (dOp AW (AB 0) (dC (.int 2))))) (dN 5)) (AJ (dOp Af (AB 0) (dC (.int 2))) (dN 0)))) (Av (dMt 3 Ah (AA (AB 5) AD)))))) (AL (Bo 3 (Aa (AA (AN Fg (AA (AB 3) AD)) (AA (AB 0) AD))))))))))
def BO:Mir:=AX false 2 0 (AI (AQ (AE (dOp fEq (dOp AW (AB 0) (dC (.int 8))) (dC (.int 0)))) (AL (Aa (AA (dOp Ag (dC (.int 1)) (dOp AW (dOp Af (AB 0) (dC (.int 8))) (AB 1))) (AA (dOp Af (dOp Af (AB 0) (dC (.int 8))) (AB 1)) AD)))) AR) (AL (Aa (AA (dOp Ag (dC (.int 1)) (dOp AW (dOp Af (AB 0) (dC (.int 8))) (dC (.int 5)))) (AA (dOp Af (AB 0) (dC (.int 40))) AD)))))
def Di:Mir:=AX false 1 3 (AI (AJ (dC (.str "")) (dN 1)) (AI (AJ (dOp AW (AB 0) (dC (.int 7))) (dN 2)) (AI (AJ (dOp Af (AB 0) (dC (.int 7))) (dN 0)) (AI (B0 (dR1 (AA (AB 2) AD)) (dN 3) (AI (AJ (dOp Cz (AB 1) (dOp Hl (dC (.str "0123456789abcdef-_")) (dOp AW (AB 0) (dC (.int 18))))) (dN 1)) (AJ (dOp Af (AB 0) (dC (.int 18))) (dN 0)))) (AL (Aa (AA (AB 1) (AA (AB 0) AD))))))))
def Ae:Mir:=AX false 2 9 (AI (AQ (AE (dOp (fIn false) (AB 0) (Aa (AA (dC (.str "group")) (AA (dC (.str "mask")) AD))))) (AL (Aa (AA (Aa AD) (AA (AB 1) AD)))) AR) (AI (AQ (AE (dOp fEq (AB 0) (dC (.str "turn")))) (AL (Aa (AA (Aa (AA (dOp AW (AB 1) (dC (.int 4))) (AA (dOp fEq (dOp AW (dOp Af (AB 1) (dC (.int 4))) (dC (.int 2))) (dC (.int 1))) AD))) (AA (dOp Af (AB 1) (dC (.int 8))) AD)))) AR) (AI (AQ (AE (dOp fEq (AB 0) (dC (.str "tiles")))) (AI (AJ (Aa (AA (dOp Ag (dC (.int 1)) (dOp AW (AB 1) (dC (.int 3)))) (AA (dOp Ag (dC (.int 1)) (dOp AW (dOp Af (AB 1) (dC (.int 3))) (dC (.int 3)))) (AA (dOp BJ (dOp AW (dOp Af (AB 1) (dC (.int 9))) (dC (.int 41))) (dC (.int 20))) (AA (dOp BJ (dOp AW (dOp Af (AB 1) (dC (.int 369))) (dC (.int 41))) (dC (.int 20))) AD))))) (dN 2)) (AI (AQ (AE (dOp fGt (dOp AW (dOp Af (AB 1) (dC (.int 15129))) (dC (.int 4))) (dC (.int 0)))) (AJ (dOp HZ (Fj (AB 2) E1 (dPt (dC (.int 2)))) (Aa (AA (dOp AW (dOp AK (AB 2) (dC (.int 2))) (dC (.int 7))) (AA (dOp AW (dOp AK (AB 2) (dC (.int 3))) (dC (.int 7))) AD)))) (dN 2)) AR) (AL (Aa (AA (AB 2) (AA (dOp Af (AB 1) (dC (.int 60516))) AD)))))) AR) (AI (AQ (AE (dOp fEq (AB 0) (dC (.str "window")))) (AI (AJ (AH BO (AA (AB 1) (AA (dC (.int 16)) AD))) (dGT (AM (dN 3) (AM (dN 1) Au)))) (AI (AJ (AH BO (AA (AB 1) (AA (dC (.int 16)) AD))) (dGT (AM (dN 4) (AM (dN 1) Au)))) (AI (AJ (AH A1 (AA (AB 1) AD)) (dGT (AM (dN 5) (AM (dN 1) Au)))) (AI (AJ (AH A1 (AA (AB 1) AD)) (dGT (AM (dN 6) (AM (dN 1) Au)))) (AL (Aa (AA (Aa (AA (AB 3) (AA (AB 4) (AA (AB 5) (AA (AB 6) AD))))) (AA (AB 1) AD)))))))) AR) (AI (AJ (AH Bp (AA (AB 1) AD)) (dGT (AM (dN 7) (AM (dN 8) (AM (dN 1) Au))))) (AI (AQ (AE (dOp fEq (AB 0) (dC (.str "glass")))) (AL (Aa (AA (Aa (AA (AB 8) AD)) (AA (AB 1) AD)))) AR) (AI (AQ (AE (dOp fEq (AB 0) (dC (.str "plate")))) (AI (AJ (AH BO (AA (AB 1) (AA (dC (.int 12)) AD))) (dGT (AM (dN 3) (AM (dN 1) Au)))) (AI (AJ (AH BO (AA (AB 1) (AA (dC (.int 12)) AD))) (dGT (AM (dN 4) (AM (dN 1) Au)))) (AL (Aa (AA (Aa (AA (AB 3) (AA (AB 4) (AA (AB 7) (AA (AB 8) AD))))) (AA (AB 1) AD)))))) AR) (AI (AQ (AE (dOp fEq (AB 0) (dC (.str "band")))) (AL (Aa (AA (Aa (AA (dOp BJ (dOp AW (AB 1) (dC (.int 25))) (dC (.int 12))) (AA (dOp BJ (dOp AW (dOp Af (AB 1) (dC (.int 25))) (dC (.int 25))) (dC (.int 12))) (AA (AB 7) (AA (AB 8) AD))))) (AA (dOp Af (AB 1) (dC (.int 625))) AD)))) AR) (AI (AQ (AE (dOp fEq (AB 0) (dC (.str "word")))) (AI (AJ (AH Di (AA (AB 1) AD)) (dGT (AM (dN 9) (AM (dN 1) Au)))) (AL (Aa (AA (Aa (AA (AB 9) (AA (AB 7) (AA (AB 8) AD)))) (AA (AB 1) AD))))) AR) (AI (AJ (AH CJ (AA (AB 1) AD)) (dGT (AM (dN 10) (AM (dN 1) Au)))) (AL (Aa (AA (Aa (AA (AB 10) (AA (AB 7) (AA (AB 8) AD)))) (AA (AB 1) AD))))))))))))))
def Ci:Mir:=AX false 0 1 (AI (AJ (Aa (AA (dC (.str "plate")) (AA (dC (.str "band")) (AA (dC (.str "word")) (AA (dC (.str "stencil")) (AA (dC (.str "plate")) (AA (dC (.str "stencil")) AD))))))) (dN 0)) (AL (dOp HZ (AB 0) (Aa (AA (dC (.str "group")) (AA (dC (.str "glass")) (AA (dC (.str "window")) (AA (dC (.str "turn")) (AA (dC (.str "tiles")) (AA (dC (.str "mask")) AD))))))))))
def Cg:Mir:=AX false 2 10 (AI (AJ (AH Dj (AA (AB 1) AD)) (dGT (AM (dN 2) (AM (dN 1) Au)))) (AI (BP 2 3 (C7 (AA (dC (.str "")) AD))) (AI (B0 (dIL (AB 0)) (dN 4) (AQ (BI (AE (dOp (fIn false) (dOp AK (AB 4) (dC (.int 5))) (Fj (AH Ci AD) (dPt (dC (.int 6))) E1))) (AE (dOp fLt (AN Aj (AA (AH Ez (AA (AB 0) (AA (dOp AK (AB 4) (dC (.int 0))) AD))) AD)) (dC (.int 7))))) (Av (dMt 3 Ah (AA (dOp AK (AB 4) (dC (.int 0))) AD))) AR)) (AI (AJ (Bo 3 (dOp A6 (AB 3) (dOp AW (AB 1) (AN Aj (AA (AB 3) AD))))) (dN 5)) (AI (AQ (Bj 3 (AE (dOp fEq (dOp AW (dOp Af (AB 1) (AN Aj (AA (AB 3) AD))) (dC (.int 2))) (dC (.int 0))))) (AJ (Bo 3 (dOp A6 (AB 3) (dUn En (dC (.int 1))))) (dN 5)) AR) (AI (AJ (Bo 3 (dOp Af (dOp Af (AB 1) (AN Aj (AA (AB 3) AD))) (dC (.int 2)))) (dN 1)) (AI (AJ (AH A1 (AA (AB 1) AD)) (dGT (AM (dN 6) (AM (dN 1) Au)))) (AI (AJ (AH A1 (AA (AB 1) AD)) (dGT (AM (dN 7) (AM (dN 1) Au)))) (AI (AJ (dOp AK (AH Ci AD) (dOp AW (AB 1) (dC (.int 12)))) (dN 8)) (AI (AJ (AH Ez (AA (AB 0) (AA (AB 5) AD))) (dN 9)) (AI (AQ (BI (AE (dOp fEq (AB 8) (dC (.str "tiles")))) (AE (dOp fNe (dLC 1 [9] (dIL (AB 0)) (dN 0) (BI (AE (dOp (fIn false) (dOp AK (AB 0) (dC (.int 0))) (AB 1))) (AE (dOp fEq (dOp AK (AB 0) (dC (.int 5))) (dC (.str "tiles"))))) (AB 0)) (C7 AD)))) (AJ (dC (.str "group")) (dN 8)) AR) (AI (AJ (dOp fGt (dOp AW (dOp Af (AB 1) (dC (.int 12))) (dC (.int 8))) (dC (.int 0))) (dN 10)) (AI (AJ (AH Ae (AA (AB 8) (AA (dOp Af (AB 1) (dC (.int 96))) AD))) (dGT (AM (dN 11) (AM (dN 1) Au)))) (AL (Aa (AA (Aa (AA (AB 2) (AA (AB 5) (AA (AB 6) (AA (AB 7) (AA (AB 10) (AA (AB 8) (AA (AB 11) AD)))))))) (AA (AB 1) AD)))))))))))))))))
def CN:Mir:=AX true 3 4 (AI (Gh 3 3) (AI (B0 (dR1 (AA (AB 2) AD)) (dN 4) (AI (AJ (Bo 3 (AH Cg (AA (AB 3) (AA (AV 0 Co (AA (dOp Ag (AB 1) (AB 4)) AD)) AD)))) (dGT (AM (dN 5) (AM (dN 6) Au)))) (AQ (Bj 3 (AE (dOp (fIn true) (dOp AK (AB 5) (dC (.int 0))) (dLC 1 [] (dIL (AB 3)) (dN 0) A7 (dOp AK (AB 0) (dC (.int 0))))))) (Av (dMt 3 Ah (AA (AB 5) AD))) AR))) (Dl 3 3)))
def Cu:Mir:=AX false 1 0 (AL (dOp AK (AB 0) (dC (.int 4))))
def Cf:Mir:=AX false 1 0 (AL (dOp AK (AB 0) (dC (.int 5))))
def DR:Mir:=AX false 1 0 (AL (dOp AK (AB 0) (dC (.int 0))))
def BK:Mir:=AX false 1 0 (AL (dIf (AE (dOp fEq (AB 0) (dC (.str "")))) (dC (.str ".")) (AB 0)))
def A0:Mir:=AX false 1 0 (AL (dOp AK (AB 0) (dC (.int 1))))
def GX:Mir:=AX false 1 0 (AL (dOp AK (AB 0) (dC (.int 2))))
def GW:Mir:=AX false 1 0 (AL (dOp AK (AB 0) (dC (.int 3))))
def BU:Mir:=AX false 1 2 (AI (AJ (dOp AK (AB 0) (dC (.int 0))) (dN 1)) (AI (AJ (dOp AK (AB 0) (dC (.int 1))) (dN 2)) (AL (dF3 "/" (AB 1) (AB 2)))))
def BZ:Mir:=AX false 2 0 (AI (AQ (AE (dOp fEq (AB 0) (dC (.str "fraction")))) (AL (AH BU (AA (AB 1) AD))) AR) (AI (AQ (AE (dOp fEq (AB 0) (dC (.str "text")))) (AL (AH BK (AA (AB 1) AD))) AR) (AI (AQ (AE (dOp fEq (AB 0) (dC (.str "rows")))) (AL (E2 ":" (AB 1))) AR) (AI (AQ (AE (dOp fEq (AB 0) (dC (.str "flipped")))) (AL (dIf (AE (AB 1)) (dC (.str "flip")) (dC (.str "flat")))) AR) (AL (AN C5 (AA (AB 1) AD)))))))
def ES:Mir:=AX false 1 0 (AL (dOp AK (AB 0) (dC (.int 6))))
def Ba:Mir:=AX false 1 3 (AI (AJ (dIf (AE (AH Cu (AA (AB 0) AD))) (dC (.str "on")) (dC (.str "off"))) (dN 1)) (AI (BP 1 2 (C7 (AA (AH Cf (AA (AB 0) AD)) (AA (AH DR (AA (AB 0) AD)) (AA (AH BK (AA (AH A0 (AA (AB 0) AD)) AD)) (AA (AN C5 (AA (AH GX (AA (AB 0) AD)) AD)) (AA (AN C5 (AA (AH GW (AA (AB 0) AD)) AD)) (AA (AB 1) AD)))))))) (AI (AJ (dKd AS (AH Cf (AA (AB 0) AD))) (dN 3)) (AI (Av (dMt 2 Bq (AA (dLC 2 [] (dIZ (AA (AB 3) (AA (AH ES (AA (AB 0) AD)) AD))) (dGT (AM (dN 0) (AM (dN 1) Au))) A7 (AH BZ (AA (AB 0) (AA (AB 1) AD)))) AD))) (AL (Bo 2 (Em " " (AB 2))))))))
def BF:Mir:=AX false 1 0 (AL (Em "\n" (dLC 1 [] (dIL (AB 0)) (dN 0) A7 (AH Ba (AA (AB 0) AD)))))
def B6:Mir:=AX false 1 0 (AL (dIf (AE (dOp fEq (AB 0) (dC (.str ".")))) (dC (.str "")) (AB 0)))
def GY:Mir:=AX false 1 0 (AI (AQ (Be (AE (dOp fEq (AB 0) (dC (.str "")))) (Am (AE (AN FW (AA (dLC 1 [] (dIS (AB 0)) (dN 0) A7 (dOp Kp (AB 0) (dC (.str "0123456789")))) AD))))) (AL (dC (.bool false))) AR) (AL (dOr (dOp fEq (AB 0) (dC (.str "0"))) (dOp fNe (dOp Hl (AB 0) (dC (.int 0))) (dC (.str "0"))))))
def BB:Mir:=AX false 1 4 (AI (AJ (dOp Gf (AB 0) (dC (.str "-"))) (dN 1)) (AI (AJ (dIf (AE (AB 1)) (QU (AB 0) (dPt (dC (.int 1))) E1) (AB 0)) (dN 2)) (AI (AQ (Be (Am (AE (AH GY (AA (AB 2) AD)))) (AE (dOp fEq (AB 0) (dC (.str "-0"))))) (AL (dC .none)) AR) (AI (AJ (dC (.int 0)) (dN 3)) (AI (B0 (dIS (AB 2)) (dN 4) (AJ (dOp Ag (dOp Gs (AB 3) (dC (.int 10))) (dOp QO (dC (.str "0123456789")) (AB 4))) (dN 3))) (AL (dIf (AE (AB 1)) (dUn En (AB 3)) (AB 3))))))))
def Bw:Mir:=AX false 1 3 (AI (AJ (dOp Iv (AB 0) (dC (.str "/"))) (dN 1)) (AI (AJ (AH BB (AA (dOp AK (AB 1) (dC (.int 0))) AD)) (dN 2)) (AI (AJ (AH BB (AA (dOp AK (AB 1) (dC (.int 2))) AD)) (dN 3)) (AL (dIf (Be (AE (dOp Gg (AB 2) (dC .none))) (AE (dOp Gg (AB 3) (dC .none)))) (dC .none) (Aa (AA (AB 2) (AA (AB 3) AD))))))))
def CH:Mir:=AX false 2 0 (AI (AQ (AE (dOp fEq (AB 0) (dC (.str "fraction")))) (AL (AH Bw (AA (AB 1) AD))) AR) (AI (AQ (AE (dOp fEq (AB 0) (dC (.str "text")))) (AL (AH B6 (AA (AB 1) AD))) AR) (AI (AQ (AE (dOp fEq (AB 0) (dC (.str "rows")))) (AL (AN Fg (AA (dOp De (AB 1) (dC (.str ":"))) AD))) AR) (AI (AQ (AE (dOp fEq (AB 0) (dC (.str "flipped")))) (AL (dOp fEq (AB 1) (dC (.str "flip")))) AR) (AL (AH BB (AA (AB 1) AD)))))))
def Cn:Mir:=AX false 1 2 (AI (AJ (dLC 2 [] (Mf (AA (dKd AS (dOp A6 (AB 0) (dC (.int 0)))) (AA (dSl (AB 0) (dPt (dC (.int 6))) E1) AD))) (dGT (AM (dN 0) (AM (dN 1) Au))) A7 (AH CH (AA (AB 0) (AA (AB 1) AD)))) (dN 1)) (AI (AJ (AH B6 (AA (dOp A6 (AB 0) (dC (.int 2))) AD)) (dN 2)) (AL (Aa (AA (dOp A6 (AB 0) (dC (.int 1))) (AA (AB 2) (AA (AH BB (AA (dOp A6 (AB 0) (dC (.int 3))) AD)) (AA (AH BB (AA (dOp A6 (AB 0) (dC (.int 4))) AD)) (AA (dOp fEq (dOp A6 (AB 0) (dC (.int 5))) (dC (.str "on"))) (AA (dOp A6 (AB 0) (dC (.int 0))) (AA (AN Fg (AA (AB 1) AD)) AD)))))))))))
def BC:Mir:=AX false 4 0 (AI (AQ (Be (Am (AE (Bg "str" (AB 0)))) (Am (AE (BH fLe fLe (AB 2) (AN Aj (AA (AB 0) AD)) (AB 3))))) (AL (dC (.bool false))) AR) (AL (AN FW (AA (dLC 1 [1] (dIS (AB 0)) (dN 0) A7 (dOp Kp (AB 0) (AB 1))) AD))))
def B7:Mir:=AX false 1 0 (AL (AH BC (AA (AB 0) (AA (dC (.str "abcdefghijklmnopqrstuvwxyz0123456789")) (AA (dC (.int 1)) (AA (dC (.int 8)) AD))))))
def Fb:Mir:=AX false 1 0 (AL (Bg "bool" (AB 0)))
def DU:Mir:=AX false 1 0 (AL (Br (Bg "int" (AB 0)) (Hn (Bg "bool" (AB 0)))))
def Ad:Mir:=AX false 3 0 (AL (Br (AH DU (AA (AB 0) AD)) (BH fLe fLe (AB 1) (AB 0) (AB 2))))
def BL:Mir:=AX false 2 3 (AI (AJ (AN Hm (AA (AB 0) AD)) (dN 2)) (AI (AJ (AN Hm (AA (AB 1) AD)) (dN 3)) (AI (Fh (Tc 3) (AE (dOp fNe (AB 3) (dC (.int 0)))) (AI (AJ (dOp AW (AB 2) (AB 3)) (dN 4)) (AI (AJ (AB 3) (dN 2)) (AJ (AB 4) (dN 3))))) (AL (AB 2)))))
def ET:Mir:=AX false 1 2 (AI (AQ (Be (Am (AE (Bg "tuple" (AB 0)))) (AE (dOp fNe (AN Aj (AA (AB 0) AD)) (dC (.int 2))))) (AL (dC (.bool false))) AR) (AI (AJ (dOp AK (AB 0) (dC (.int 0))) (dN 1)) (AI (AJ (dOp AK (AB 0) (dC (.int 1))) (dN 2)) (AI (AQ (Be (Am (AE (AH DU (AA (AB 1) AD)))) (Am (AE (AH DU (AA (AB 2) AD))))) (AL (dC (.bool false))) AR) (AL (Br (dOp fGe (AB 2) (dC (.int 1))) (Br (BH fLe fLe (dC (.int 0)) (AB 1) (AB 2)) (dOp fEq (AH BL (AA (AB 1) (AA (AB 2) AD))) (dC (.int 1))))))))))
def Aw:Mir:=AX false 1 0 (AL (Br (AH ET (AA (AB 0) AD)) (dOp fLe (dOp AK (AB 0) (dC (.int 1))) (dC (.int 1000)))))
def BS:Mir:=AX false 2 0 (AL (Br (AH Aw (AA (AB 0) AD)) (AH Aw (AA (AB 1) AD))))
def DV:Mir:=AX false 1 0 (AI (AQ (Be (AE (dOp fNe (AN Aj (AA (AB 0) AD)) (dC (.int 4)))) (Am (AE (AH BS (AA (dOp AK (AB 0) (dC (.int 2))) (AA (dOp AK (AB 0) (dC (.int 3))) AD)))))) (AL (dC (.bool false))) AR) (AL (Br (AH Ad (AA (dOp AK (AB 0) (dC (.int 0))) (AA (dC (.int 1)) (AA (dC (.int 12)) AD)))) (AH Ad (AA (dOp AK (AB 0) (dC (.int 1))) (AA (dC (.int 1)) (AA (dC (.int 12)) AD)))))))
def EA:Mir:=AX false 1 0 (AI (AQ (Be (AE (dOp fNe (AN Aj (AA (AB 0) AD)) (dC (.int 4)))) (Am (AE (AH BS (AA (dOp AK (AB 0) (dC (.int 2))) (AA (dOp AK (AB 0) (dC (.int 3))) AD)))))) (AL (dC (.bool false))) AR) (AL (Br (AH Ad (AA (dOp AK (AB 0) (dC (.int 0))) (AA (dUn En (dC (.int 12))) (AA (dC (.int 12)) AD)))) (AH Ad (AA (dOp AK (AB 0) (dC (.int 1))) (AA (dUn En (dC (.int 12))) (AA (dC (.int 12)) AD)))))))
def DD:Mir:=AX false 1 0 (AL (QV Dx (AB 0)))
def CD:Mir:=AX false 1 0 (AI (AQ (Be (Am (AE (Bg "str" (AB 0)))) (AE (dOp fGt (AN Aj (AA (AB 0) AD)) (dC (.int 6))))) (AL (dC (.bool false))) AR) (AL (AN FW (AA (dLC 1 [] (dIS (AB 0)) (dN 0) A7 (AH DD (AA (AB 0) AD))) AD))))
def D0:Mir:=AX false 1 0 (AL (Br (dOp fEq (AN Aj (AA (AB 0) AD)) (dC (.int 3))) (Br (AH CD (AA (dOp AK (AB 0) (dC (.int 0))) AD)) (AH BS (AA (dOp AK (AB 0) (dC (.int 1))) (AA (dOp AK (AB 0) (dC (.int 2))) AD))))))
def BV:Mir:=AX false 1 0 (AI (AQ (Be (Am (AE (Bg "tuple" (AB 0)))) (Am (AE (BH fLe fLe (dC (.int 1)) (AN Aj (AA (AB 0) AD)) (dC (.int 8)))))) (AL (dC (.bool false))) AR) (AI (AQ (Am (AE (AN FW (AA (dLC 1 [] (dIT (AB 0)) (dN 0) A7 (AH BC (AA (AB 0) (AA (dC (.str "#.")) (AA (dC (.int 1)) (AA (dC (.int 8)) AD)))))) AD)))) (AL (dC (.bool false))) AR) (AL (AN FW (AA (dLC 1 [0] (dIT (AB 0)) (dN 0) A7 (dOp fEq (AN Aj (AA (AB 0) AD)) (AN Aj (AA (dOp AK (AB 1) (dC (.int 0))) AD)))) AD)))))
def CF:Mir:=AX false 1 0 (AL (Br (dOp fEq (AN Aj (AA (AB 0) AD)) (dC (.int 3))) (Br (AH BV (AA (dOp AK (AB 0) (dC (.int 0))) AD)) (AH BS (AA (dOp AK (AB 0) (dC (.int 1))) (AA (dOp AK (AB 0) (dC (.int 2))) AD))))))
def DY:Mir:=AX false 1 0 (AL (dOp fEq (AN Aj (AA (AB 0) AD)) (dC (.int 0))))
def DW:Mir:=AX false 1 0 (AL (Br (dOp fEq (AN Aj (AA (AB 0) AD)) (dC (.int 1))) (AH Aw (AA (dOp AK (AB 0) (dC (.int 0))) AD))))
def A8:Mir:=AX false 1 0 (AL (AH Ad (AA (AB 0) (AA (dUn En (dC (.int 60))) (AA (dC (.int 60)) AD)))))
def Cv:Mir:=AX false 1 0 (AI (AQ (Be (AE (dOp fNe (AN Aj (AA (AB 0) AD)) (dC (.int 4)))) (Be (Am (AE (AH A8 (AA (dOp AK (AB 0) (dC (.int 2))) AD)))) (Am (AE (AH A8 (AA (dOp AK (AB 0) (dC (.int 3))) AD)))))) (AL (dC (.bool false))) AR) (AL (Br (AH Ad (AA (dOp AK (AB 0) (dC (.int 0))) (AA (dC (.int 1)) (AA (dC (.int 16)) AD)))) (AH Ad (AA (dOp AK (AB 0) (dC (.int 1))) (AA (dC (.int 1)) (AA (dC (.int 16)) AD)))))))
def D1:Mir:=AX false 1 0 (AL (Br (dOp fEq (AN Aj (AA (AB 0) AD)) (dC (.int 2))) (Br (AH Ad (AA (dOp AK (AB 0) (dC (.int 0))) (AA (dC (.int 0)) (AA (dC (.int 3)) AD)))) (AH Fb (AA (dOp AK (AB 0) (dC (.int 1))) AD)))))
def Cw:Mir:=AX false 1 0 (AI (AQ (Be (AE (dOp fNe (AN Aj (AA (AB 0) AD)) (dC (.int 4)))) (Be (Am (AE (AH Ad (AA (dOp AK (AB 0) (dC (.int 0))) (AA (dC (.int 1)) (AA (dC (.int 3)) AD)))))) (Am (AE (AH Ad (AA (dOp AK (AB 0) (dC (.int 1))) (AA (dC (.int 1)) (AA (dC (.int 3)) AD)))))))) (AL (dC (.bool false))) AR) (AL (Br (AH Ad (AA (dOp AK (AB 0) (dC (.int 2))) (AA (dUn En (dC (.int 20))) (AA (dC (.int 20)) AD)))) (AH Ad (AA (dOp AK (AB 0) (dC (.int 3))) (AA (dUn En (dC (.int 20))) (AA (dC (.int 20)) AD)))))))
def Ap:List (Str×Mir):=[("plate",DV),("band",EA),("word",D0),("stencil",CF),("group",DY),("glass",DW),("window",Cv),("turn",D1),("tiles",Cw),("mask",DY)]
def FH:Mir:=AX false 2 0 (AL (Br (Bg "str" (AB 0)) (Br (ON Ap (AB 0)) (Br (Bg "tuple" (AB 1)) (Gv Ap (AB 0) (AA (AB 1) AD))))))
def Ey:Mir:=AX false 1 0 (AI (AQ (Be (Am (AE (Bg "tuple" (AB 0)))) (AE (dOp fNe (AN Aj (AA (AB 0) AD)) (dC (.int 7))))) (AL (dC (.bool false))) AR) (AI (AQ (Am (AE (AH B7 (AA (AH DR (AA (AB 0) AD)) AD)))) (AL (dC (.bool false))) AR) (AI (AQ (BI (AE (dOp fNe (AH A0 (AA (AB 0) AD)) (dC (.str "")))) (Am (AE (AH B7 (AA (AH A0 (AA (AB 0) AD)) AD))))) (AL (dC (.bool false))) AR) (AI (AQ (Be (Am (AE (AH A8 (AA (AH GX (AA (AB 0) AD)) AD)))) (Am (AE (AH A8 (AA (AH GW (AA (AB 0) AD)) AD))))) (AL (dC (.bool false))) AR) (AL (Br (AH Fb (AA (AH Cu (AA (AB 0) AD)) AD)) (AH FH (AA (AH Cf (AA (AB 0) AD)) (AA (AH ES (AA (AB 0) AD)) AD)))))))))
def DQ:Mir:=AX false 1 2 (AI (AJ (dOp De (AB 0) (dC (.str " "))) (dN 1)) (AI (AQ (Be (AE (JC AS (dOp A6 (AB 1) (dC (.int 0))))) (AE (dOp fNe (AN Aj (AA (AB 1) AD)) (dOp Ag (dC (.int 6)) (AN Aj (AA (dKd AS (dOp A6 (AB 1) (dC (.int 0)))) AD)))))) (AL (dC .none)) AR) (AI (AJ (AH Cn (AA (AB 1) AD)) (dN 2)) (AL (dIf (BI (AE (AH Ey (AA (AB 2) AD))) (AE (dOp fEq (AH Ba (AA (AB 2) AD)) (AB 0)))) (AB 2) (dC .none))))))
def Cp:List PyData->Option (PyData ⊕ Nat):=Ln (Gi 1 1 (Gm (xOf (AQ (AE (dOp fEq (AB 0) (dC (.str "")))) (AL (C7 AD)) AR)) (Gm (xOf (BP 1 1 (dLC 1 [] (dIL (dOp De (AB 0) (dC (.str "\n")))) (dN 0) A7 (AH DQ (AA (AB 0) AD))))) (Gm (xIf (Bj 1 (AE (AN Lm (AA (dLC 1 [] (dIL (AB 1)) (dN 0) A7 (dOp Gg (AB 0) (dC .none))) AD)))) (L1 0) (xOf AR)) (xOf (Dl 1 1))))))
def CC:Mir:=mO Cp
def Bk:Mir:=AX false 2 0 (AI (AQ (AE (Bg "bool" (AB 1))) (AL (dOp AK (Aa (AA (dC (.str "flat")) (AA (dC (.str "flip")) AD))) (AN Cy (AA (AB 1) AD)))) AR) (AI (AQ (AE (Bg "int" (AB 1))) (AL (AN C5 (AA (AB 1) AD))) AR) (AI (AQ (AE (Bg "str" (AB 1))) (AL (dOp Cz (AB 1) (dOp HY (dC (.str ".")) (AN Cy (AA (dOp fEq (AB 1) (dC (.str ""))) AD))))) AR) (AI (AQ (BI (AE (dOp fEq (AB 0) (dC (.str "stencil")))) (AE (Bg "str" (dOp AK (AB 1) (dC (.int 0)))))) (AL (E2 ":" (AB 1))) AR) (AL (dOp Cz (dOp Cz (AN C5 (AA (dOp AK (AB 1) (dC (.int 0))) AD)) (dC (.str "/"))) (AN C5 (AA (dOp AK (AB 1) (dC (.int 1))) AD))))))))
def CQ:Mir:=AX false 1 1 (AI (BP 1 1 (C7 (AA (dOp AK (AB 0) (dC (.int 5))) (AA (dOp AK (AB 0) (dC (.int 0))) (AA (dOp Cz (dOp AK (AB 0) (dC (.int 1))) (dOp HY (dC (.str ".")) (AN Cy (AA (dOp fEq (dOp AK (AB 0) (dC (.int 1))) (dC (.str ""))) AD)))) (AA (AN C5 (AA (dOp AK (AB 0) (dC (.int 2))) AD)) (AA (AN C5 (AA (dOp AK (AB 0) (dC (.int 3))) AD)) AD))))))) (AI (Av (dMt 1 Ah (AA (dOp AK (Aa (AA (dC (.str "off")) (AA (dC (.str "on")) AD))) (AN Cy (AA (dOp AK (AB 0) (dC (.int 4))) AD))) AD))) (AL (Bo 1 (Em " " (dOp OL (AB 1) (dLC 1 [0] (dIT (dOp AK (AB 0) (dC (.int 6)))) (dN 0) A7 (AH Bk (AA (dOp AK (AB 1) (dC (.int 5))) (AA (AB 0) AD))))))))))
def Bb:Mir:=AX false 2 2 (AI (AQ (Be (Am (AE (Bg "list" (AB 0)))) (AE (dOp fNe (AB 0) (AB 1)))) (AL (dC (.bool false))) AR) (AI (B0 (dR1 (AA (AN Aj (AA (AB 1) AD)) AD)) (dN 2) (B0 (dR1 (AA (dC (.int 7)) AD)) (dN 3) (AQ (AE (dOp fNe (Bg "bool" (dOp AK (dOp A6 (AB 0) (AB 2)) (AB 3))) (Bg "bool" (dOp AK (dOp A6 (AB 1) (AB 2)) (AB 3))))) (AL (dC (.bool false))) AR))) (AL (dC (.bool true)))))
def Ij:Mir:=AX false 1 10 (AI (AJ (AV 0 Co (AA (dC (.int 0)) AD)) (dN 1)) (AI (BP 1 2 (AV 0 CN (AA (dC (.int 1)) (AA (dOp AW (AB 1) (dC (.int 25))) AD)))) (AI (AQ (AE (dOp fEq (dOp AW (dOp Af (AB 1) (dC (.int 25))) (dC (.int 3))) (dC (.int 1)))) (AI (AJ (C0 2 (dOp OL (dLC 1 [] (dIL (AB 2)) (dN 0) A7 (dOp AK (AB 0) (dC (.int 0)))) (C7 (AA (dC (.str "none")) AD)))) (dN 3)) (B0 (dR1 (AA (Bo 2 (AN Aj (AA (AB 2) AD))) AD)) (dN 4) (AI (AJ (AV 0 Co (AA (dOp Ag (dC (.int 26)) (AB 4)) AD)) (dN 5)) (Dk 2 (Bo 2 (dOp HZ (Aa (AA (dOp A6 (AB 3) (dOp AW (AB 5) (AN Aj (AA (AB 3) AD)))) (AA (dOp A6 (AB 3) (dOp AW (dOp Af (AB 5) (AN Aj (AA (AB 3) AD))) (AN Aj (AA (AB 3) AD)))) AD))) (Fj (dOp A6 (AB 2) (AB 4)) (dPt (dC (.int 2))) E1))) (AB 4))))) AR) (AI (AJ (Bo 2 (Em "\n" (dLC 1 [] (dIL (AB 2)) (dN 0) A7 (AH CQ (AA (AB 0) AD))))) (dN 6)) (AI (AJ (C0 2 (AN By (AA (AB 2) AD))) (dN 7)) (AI (B0 (dR1 (AA (dC (.int 2)) AD)) (dN 8) (AI (AJ (AH BF (AA (AB 7) AD)) (dN 9)) (AI (BP 1 10 (AH CC (AA (AB 6) AD))) (AI (AQ (Bj 2 (Bj 10 (Be (Am (AE (Bg "str" (AB 9)))) (Be (AE (dOp fNe (AB 9) (AB 6))) (Be (Am (AE (AH Bb (AA (AB 10) (AA (AB 2) AD))))) (AE (dOp fNe (AB 7) (AB 2)))))))) (AL (dC (.bool false))) AR) (AI (Av (dMt 10 Ah (AA (dC .none) AD))) (Av (dMt 10 Dc AD))))))) (AL (dC (.bool true)))))))))
section
variable {P:Program} {w:World} {K:PySem.W.Frag} {mg:Str->Option Value} {base:Heap} {f:Addr} {fd:FuncData}
end
local macro_rules|`(tactic| walk_at "q")=>`(tactic| with_unfolding_all first|rfl|exact fun _=>rfl|exact fun _ _=>rfl)
local macro_rules|`(tactic| walk_at "dk")=>`(tactic| exact of_decide_eq_true (by kernel_rfl))
local macro_rules|`(tactic| walk_at "kk")=>`(tactic| (dsimp only;omega))
local macro_rules|`(tactic| walk_at "as")=>`(tactic| exact fun _=>⟨by with_unfolding_all rfl,by with_unfolding_all rfl,by with_unfolding_all rfl⟩)
local macro_rules|`(tactic| walk_at "fd")=>`(tactic| exact⟨by kernel_rfl,by kernel_rfl,by kernel_rfl⟩)
local macro_rules|`(tactic| walk_at "fr")=>`(tactic| first|exact fun h=>Bool.noConfusion h|exact fun _=>rfl)
local macro_rules|`(tactic| walk_at "ln")=>`(tactic| repeat first|exact NF|refine Le ?_)
local macro_rules|`(tactic| walk_at "rr")=>`(tactic| exact⟨by with_unfolding_all rfl,by with_unfolding_all rfl⟩)
local macro_rules|`(tactic| walk_at "kf")=>`(tactic| assumption)
local macro_rules|`(tactic| walk_at "ce")=>`(tactic| first|(with_reducible exact V3)|(with_reducible exact WJ)|(with_reducible refine Yy ?_ ?_ ?_;walk_at "co";walk_at "ce";walk_at "ce")|(with_reducible refine Y2 ?_ ?_ ?_;walk_at "cx";walk_at "ce";walk_at "ce")|(with_reducible exact V5)|(with_reducible refine Sh ?_;walk_at "ca")|(with_reducible refine WN ?_ ?_ ?_;walk_at "co";walk_at "ce";walk_at "ce")|(with_reducible refine V4 ?_;walk_at "ca")|(with_reducible refine WQ ?_ ?_;walk_at "cb";walk_at "ca")|(with_reducible exact Y7)|(with_reducible exact WB)|(with_reducible refine WO ?_;walk_at "ce")|(with_reducible refine Si ?_;walk_at "ce")|(with_reducible refine WE ?_;walk_at "ca")|(with_reducible refine Yz ?_ ?_;walk_at "cm";walk_at "ca")|(with_reducible refine Qf ?_;walk_at "ca")|(with_reducible refine WI ?_;walk_at "ce")|(with_reducible refine Yw ?_ ?_ ?_;walk_at "ce";walk_at "cp";walk_at "cp")|(with_reducible refine V7 ?_ ?_ ?_;walk_at "ce";walk_at "cp";walk_at "cp")|(with_reducible refine V8 ?_ ?_ ?_;walk_at "ce";walk_at "cp";walk_at "cp")|(with_reducible refine Y0 ?_;walk_at "cl")|(with_reducible refine V9 ?_;walk_at "ce")|(with_reducible refine WR ?_ ?_;walk_at "ce";walk_at "ce")|(with_reducible refine Yx ?_ ?_;walk_at "ce";walk_at "ce")|(with_reducible refine WA ?_;walk_at "ce")|(with_reducible refine WC ?_;walk_at "ce")|(with_reducible refine Y3 ?_ ?_ ?_;walk_at "ct";walk_at "ce";walk_at "ce")|(with_reducible refine Qd ?_ ?_ ?_ ?_ ?_;walk_at "co";walk_at "co";walk_at "ce";walk_at "ce";walk_at "ce")|(with_reducible exact Y4)|(with_reducible exact Y5)|(with_reducible refine WH ?_;walk_at "ce")|(with_reducible refine WG ?_;walk_at "ce")|(with_reducible refine Y1 ?_;walk_at "ce")|(with_reducible refine WK ?_;walk_at "ce")|(with_reducible refine WL ?_;walk_at "ce")|(with_reducible refine Qe ?_ ?_;walk_at "ce";walk_at "ca")|(with_reducible exact Qg)|(with_reducible exact Sf)|(with_reducible refine WD ?_;walk_at "cm")|(with_reducible refine Sg ?_;walk_at "ce")|(with_reducible refine Qc ?_;walk_at "ce")|(with_reducible refine WM ?_ ?_;walk_at "ce";walk_at "ce")|(with_reducible refine Y6 ?_ ?_;walk_at "ce";walk_at "ce")|(with_reducible refine V6 ?_ ?_ ?_;walk_at "csm";walk_at "ce";walk_at "ce"))
local macro_rules|`(tactic| walk_at "co")=>`(tactic| first|(with_reducible exact Vv)|(with_reducible exact Vm)|(with_reducible exact Vq)|(with_reducible exact Vt)|(with_reducible exact Vp)|(with_reducible exact Yu)|(with_reducible exact Yo)|(with_reducible exact Yp)|(with_reducible exact Yq)|(with_reducible exact Ys)|(with_reducible exact Yt)|(with_reducible exact Yr)|(with_reducible exact Vo)|(with_reducible exact Vu)|(with_reducible exact SW)|(with_reducible exact SV)|(with_reducible exact Vr)|(with_reducible exact Vn)|(with_reducible exact Vs)|(with_reducible exact SU))
local macro_rules|`(tactic| walk_at "csm")=>`(tactic| first|(with_reducible exact Ml)|(with_reducible exact OP)|(with_reducible exact QZ))
local macro_rules|`(tactic| walk_at "cx")=>`(tactic| first|(with_reducible exact Z9)|(with_reducible exact aB)|(with_reducible exact aA))
local macro_rules|`(tactic| walk_at "cb")=>`(tactic| first|(with_reducible exact WU)|(with_reducible exact Sj)|(with_reducible exact WV)|(with_reducible exact WY)|(with_reducible exact WS)|(with_reducible exact WT)|(with_reducible exact WX)|(with_reducible exact WW))
local macro_rules|`(tactic| walk_at "cm")=>`(tactic| first|(with_reducible exact Vy)|(with_reducible exact Vx)|(with_reducible exact Vw))
local macro_rules|`(tactic| walk_at "ca")=>`(tactic| first|(with_reducible exact Wb)|(with_reducible refine Sk ?_ ?_;walk_at "ce";walk_at "ca"))
local macro_rules|`(tactic| walk_at "cp")=>`(tactic| first|(with_reducible exact SS)|(with_reducible refine SR ?_;walk_at "ce"))
local macro_rules|`(tactic| walk_at "ct")=>`(tactic| first|(with_reducible refine Vd ?_ ?_ ?_;walk_at "co";walk_at "ce";walk_at "ce")|(with_reducible refine Vb ?_;walk_at "ct")|(with_reducible refine aD ?_;walk_at "cw")|(with_reducible refine Ve ?_;walk_at "ct")|(with_reducible refine QX ?_ ?_ ?_ ?_ ?_;walk_at "co";walk_at "co";walk_at "ce";walk_at "ce";walk_at "ce")|(with_reducible refine Vc ?_;walk_at "ce")|(with_reducible refine SH ?_;walk_at "ce")|(with_reducible refine Va ?_;walk_at "ce"))
local macro_rules|`(tactic| walk_at "cw")=>`(tactic| first|(with_reducible refine cw_and ?_ ?_;walk_at "ct";walk_at "cw")|(with_reducible refine cw_or ?_ ?_;walk_at "ct";walk_at "cw")|(with_reducible refine cw_and1 ?_;walk_at "ct")|(with_reducible refine cw_or1 ?_;walk_at "ct"))
local macro_rules|`(tactic| walk_at "cg")=>`(tactic| first|(with_reducible exact Se)|(with_reducible refine V2 ?_;walk_at "cgs"))
local macro_rules|`(tactic| walk_at "cgs")=>`(tactic| first|(with_reducible exact Sd)|(with_reducible refine Qb ?_ ?_;walk_at "cg";walk_at "cgs"))
local macro_rules|`(tactic| walk_at "ci")=>`(tactic| first|(with_reducible refine SY ?_;walk_at "ce")|(with_reducible refine V0 ?_;walk_at "ce")|(with_reducible refine Yv ?_;walk_at "ca")|(with_reducible refine V1 ?_;walk_at "ce"))
local macro_rules|`(tactic| walk_at "cj")=>`(tactic| first|(with_reducible refine Vz ?_;walk_at "ca")|(with_reducible refine SX ?_;walk_at "ca"))
local macro_rules|`(tactic| walk_at "cts")=>`(tactic| first|(with_reducible exact SG)|(with_reducible refine SF ?_;walk_at "ct"))
local macro_rules|`(tactic| walk_at "cl")=>`(tactic| first|(with_reducible refine aF ?_ ?_ ?_ ?_;walk_at "ci";walk_at "cg";walk_at "cts";walk_at "ce")|(with_reducible refine aE ?_ ?_ ?_ ?_;walk_at "cj";walk_at "cg";walk_at "cts";walk_at "ce"))
local macro_rules|`(tactic| walk_at "cxs")=>`(tactic| first|(with_reducible refine Lu ?_ ?_;walk_at "cxx";walk_at "cxs")|(with_reducible refine Na ?_;walk_at "cxx")|(with_reducible exact SE))
local macro_rules|`(tactic| walk_at "cxx")=>`(tactic| first|(with_reducible refine Yl ?_ ?_ ?_;walk_at "ct";walk_at "cxs";walk_at "cxs")|(with_reducible exact QW)|(with_reducible refine Yk ?_;walk_at "cs"))
local macro_rules|`(tactic| walk_at "css")=>`(tactic| first|(with_reducible refine Lv ?_ ?_;walk_at "cs";walk_at "css")|(with_reducible exact SI)|(with_reducible refine Nb ?_;walk_at "cs"))
local macro_rules|`(tactic| walk_at "cs")=>`(tactic| first|(with_reducible refine Vf ?_;walk_at "ce")|(with_reducible refine Vg ?_;walk_at "ce")|(with_reducible refine Yn ?_ ?_ ?_;walk_at "ct";walk_at "css";walk_at "css")|(with_reducible refine Vk ?_ ?_ ?_;walk_at "ci";walk_at "cg";walk_at "css")|(with_reducible refine SQ ?_;walk_at "ce")|(with_reducible refine Vl ?_ ?_;walk_at "ce";walk_at "cg")|(with_reducible refine Ym ?_;walk_at "cl")|(with_reducible refine Vj ?_;walk_at "cl")|(with_reducible refine SJ ?_;walk_at "ce")|(with_reducible exact Vi)|(with_reducible refine Qa ?_ ?_;walk_at "ct";walk_at "css")|(with_reducible exact SM)|(with_reducible refine Vh ?_;walk_at "ca")|(with_reducible refine SK ?_ ?_;walk_at "ce";walk_at "ce")|(with_reducible refine SN ?_ ?_;walk_at "ce";walk_at "ce")|(with_reducible exact SO))
local macro_rules|`(tactic| walk_at "top")=>`(tactic| first|((with_reducible show CSs _ _ _ _ (AI _ _));refine Lv ?_ ?_;walk_at "cs";walk_at "css")|(refine Nb ?_;walk_at "cs"))
local macro_rules|`(tactic| walk_at "topX")=>`(tactic| first|((with_reducible show CXs _ _ _ _ _ (Gm _ _));refine Lu ?_ ?_;walk_at "cxx";walk_at "cxs")|(refine Na ?_;walk_at "cxx"))
local macro_rules|`(tactic|walk_at $s:str)=>match s.getString.splitOn "|" with
 |[k,e]=>do
  let l:=if k=="a" then "AX,AI,AJ,dN,Gh,BP,AL,Dl,JA,Av,dMt,Ah,Bq,Ff,Dk,AR,AQ,Mh,Mg,Fl,B0,BN,AB,dC,dOp,dUn,fI,Ag,BJ,fLt,fLe,fGt,fGe,En,JZ,Gg,Iw,A6,AK,AE,BI,Be,Am,dIf,Br,dOr,Hn,BH,AD,AA,Aq,Aa,C7,AN,AH,Fn,AV,Fm,dAS,mkL,nMb,isM,isC,Bo,C0,Bj,A7,dIL,dIT,dR1,dR2,Au,AM,dGT,Ab,A4,A5,A3,Aj,f1,f2,Hm,Iz,Iy,Cy,By,Md,Bg,Bf,As,atI,ixN,DN,Ih,Ii,Ig,Cb,fixDs,sz',Option.bind_some,Option.bind_none,Option.map_some,Option.map_none,List.map_cons,List.map_nil,List.cons_append,List.nil_append,List.length_cons,List.length_nil,List.getElem?_cons_zero,List.getElem?_cons_succ,List.set_cons_zero,List.set_cons_succ,List.replicate_succ,List.replicate_zero,List.all_cons,List.all_nil,Bool.and_self,Bool.and_true,Bool.true_and,Bool.false_and,Bool.and_false,Bool.or_true,Bool.true_or,Bool.false_or,Bool.or_false,Bool.not_true,Bool.not_false,if_true,if_false,reduceIte,Bool.false_eq_true,Nat.reduceAdd,Nat.reduceLT,Nat.reduceSub,Nat.reduceMul,Int.reduceEq,Int.reduceSub,Int.reduceMul,Int.reducePow,Int.reduceDiv,Int.reduceMod,Nat.reduceLeDiff,Nat.reduceEqDiff,and_self,and_true,true_and,Int.natCast_add,Int.reduceAdd,Int.reduceLT,Int.reduceLE,Int.reduceToNat,Int.reduceNeg,Int.toNat_zero,Int.toNat_one,Int.zero_lt_one,Int.le_refl,Int.reduceNegSucc,Int.cast_ofNat_Int,Nat.zero_add,Nat.add_zero" else "AX,AI,AJ,dN,AL,AR,AQ,BN,AB,dC,dOp,fI,Ag,BJ,fLt,fLe,fGt,fGe,AK,AE,AD,AA,Aq,Aa,AN,AH,AV,Ab,A4,A5,A3,Bf,As,atI,ixN,sz',Option.bind_some,Option.map_some,List.map_cons,List.map_nil,List.cons_append,List.nil_append,List.length_cons,List.length_nil,List.getElem?_cons_zero,List.getElem?_cons_succ,List.set_cons_zero,List.set_cons_succ,List.replicate_succ,List.replicate_zero,if_true,if_false,reduceIte,Bool.false_eq_true,Nat.reduceAdd,Nat.reduceLT,Int.reduceAdd,Int.reduceLT,Int.reduceLE,Int.reduceToNat,Nat.reduceLeDiff,and_self,Int.toNat_zero,Int.le_refl,Int.natCast_add,Int.cast_ofNat_Int,Nat.zero_add"
  let xs:=((if e.isEmpty then l else e++","++l).splitOn ",").map fun n=>Lean.mkIdent n.toName
  `(tactic|simp only[$[$(xs.toArray):ident],*])
 |_=>Lean.Macro.throwUnsupported
section
variable {Z:Zz}
abbrev FA(Z:Zz):Prop:=Clz Z 1 "_law_cell_at" ["_law_script","_law_k"] Bl false
abbrev H0(Z:Zz):Prop:=Clz Z 2 "_law_big" ["_law_script","_law_at"] Co false
abbrev E8(Z:Zz):Prop:=Clz Z 1 "_law_name_of" ["_law_big_here"] Dj false
abbrev Dr(Z:Zz):Prop:=Clz Z 1 "_law_step_of" ["_law_big_here"] A1 false
abbrev Mn(Z:Zz):Prop:=Clz Z 1 "_law_up" ["_law_rows","_law_name"] Ez true
abbrev Ky(Z:Zz):Prop:=Clz Z 1 "_law_low" ["_law_top","_law_bottom"] GZ false
abbrev Ee(Z:Zz):Prop:=Clz Z 2 "_law_share_of" ["_law_big_here"] CK false
abbrev Eh(Z:Zz):Prop:=Clz Z 3 "_law_paint_of" ["_law_big_here"] Bp false
abbrev Dh(Z:Zz):Prop:=Clz Z 1 "_law_stencil_of" ["_law_big_here"] CJ false
abbrev E7(Z:Zz):Prop:=Clz Z 1 "_law_size_of" ["_law_big_here","_law_most"] BO false
abbrev E6(Z:Zz):Prop:=Clz Z 1 "_law_word_of" ["_law_big_here"] Di false
abbrev E9(Z:Zz):Prop:=Clz Z 4 "_law_data_of" ["_law_kind","_law_big_here"] Ae false
abbrev HC(Z:Zz):Prop:=Clz Z 1 "_law_kinds" [] Ci false
abbrev Fw(Z:Zz):Prop:=Clz Z 5 "_law_row_of" ["_law_rows","_law_big_here"] Cg false
abbrev Ef(Z:Zz):Prop:=Clz Z 6 "_law_scene_of" ["_law_script","_law_first","_law_many"] CN true
abbrev Dq(Z:Zz):Prop:=Clz Z 1 "row_shown" ["row"] Cu false
abbrev EW(Z:Zz):Prop:=Clz Z 1 "row_kind" ["row"] Cf false
abbrev EV(Z:Zz):Prop:=Clz Z 1 "row_name" ["row"] DR false
abbrev CZ(Z:Zz):Prop:=Clz Z 1 "text_written" ["text"] BK false
abbrev C8(Z:Zz):Prop:=Clz Z 1 "row_holder" ["row"] A0 false
abbrev Hz(Z:Zz):Prop:=Clz Z 1 "row_x" ["row"] GX false
abbrev Hy(Z:Zz):Prop:=Clz Z 1 "row_y" ["row"] GW false
abbrev B3(Z:Zz):Prop:=Clz Z 1 "fraction_written" ["share"] BU false
abbrev C4(Z:Zz):Prop:=Clz Z 2 "datum_written" ["form","thing"] BZ false
abbrev EX(Z:Zz):Prop:=Clz Z 1 "row_data" ["row"] ES false
abbrev Cr(Z:Zz):Prop:=Clz Z 3 "row_written" ["row"] Ba false
abbrev Du(Z:Zz):Prop:=Clz Z 4 "scene_shown" ["rows"] BF false
abbrev Dm(Z:Zz):Prop:=Clz Z 1 "text_read" ["word"] B6 false
abbrev Ec(Z:Zz):Prop:=Clz Z 1 "is_figures" ["word"] GY false
abbrev CY(Z:Zz):Prop:=Clz Z 2 "whole_read" ["word"] BB false
abbrev C3(Z:Zz):Prop:=Clz Z 3 "fraction_read" ["word"] Bw false
abbrev Ed(Z:Zz):Prop:=Clz Z 4 "datum_read" ["form","word"] CH false
abbrev Dv(Z:Zz):Prop:=Clz Z 5 "row_guessed" ["words"] Cn false
abbrev C9(Z:Zz):Prop:=Clz Z 1 "is_text_of" ["thing","signs","low","high"] BC false
abbrev G9(Z:Zz):Prop:=Clz Z 2 "is_name" ["thing"] B7 false
abbrev EZ(Z:Zz):Prop:=Clz Z 1 "is_truth" ["thing"] Fb false
abbrev EY(Z:Zz):Prop:=Clz Z 1 "is_whole" ["thing"] DU false
abbrev BQ(Z:Zz):Prop:=Clz Z 2 "is_within" ["thing","low","high"] Ad false
abbrev Ck(Z:Zz):Prop:=Clz Z 1 "common_divisor" ["one","other"] BL false
abbrev Fs(Z:Zz):Prop:=Clz Z 2 "is_share" ["thing"] ET false
abbrev BY(Z:Zz):Prop:=Clz Z 3 "is_bounded_share" ["thing"] Aw false
abbrev Cj(Z:Zz):Prop:=Clz Z 4 "is_paint" ["shade","share"] BS false
abbrev Ft(Z:Zz):Prop:=Clz Z 5 "is_plate" ["data"] DV false
abbrev HB(Z:Zz):Prop:=Clz Z 5 "is_band" ["data"] EA false
abbrev G4(Z:Zz):Prop:=Clz Z 1 "is_sign" ["sign"] DD false
abbrev Df(Z:Zz):Prop:=Clz Z 2 "is_word_text" ["thing"] CD false
abbrev Gy(Z:Zz):Prop:=Clz Z 5 "is_word" ["data"] D0 false
abbrev B4(Z:Zz):Prop:=Clz Z 2 "are_stencil_rows" ["thing"] BV false
abbrev Ea(Z:Zz):Prop:=Clz Z 5 "is_stencil" ["data"] CF false
abbrev Fv(Z:Zz):Prop:=Clz Z 1 "is_empty" ["data"] DY false
abbrev Fu(Z:Zz):Prop:=Clz Z 4 "is_glass" ["data"] DW false
abbrev Eb(Z:Zz):Prop:=Clz Z 3 "is_place" ["thing"] A8 false
abbrev E4(Z:Zz):Prop:=Clz Z 4 "is_window" ["data"] Cv false
abbrev Gz(Z:Zz):Prop:=Clz Z 3 "is_turn" ["data"] D1 false
abbrev E5(Z:Zz):Prop:=Clz Z 3 "are_tiles" ["data"] Cw false
abbrev HA(Z:Zz):Prop:=Clz Z 6 "is_data" ["kind","data"] FH false
abbrev JI(Z:Zz):Prop:=Clz Z 7 "is_row" ["thing"] Ey false
abbrev Fq(Z:Zz):Prop:=Clz Z 8 "row_read" ["text"] DQ false
abbrev Gj(Z:Zz)(cls:Nat->Addr):Prop:=Xl Z cls 9 "scene_read" ["text"] Cp true
abbrev Gk(Z:Zz):Prop:=Clz Z 9 "scene_read" ["text"] CC true
abbrev Dg(Z:Zz):Prop:=Clz Z 1 "_law_word_shown" ["_law_kind","_law_thing"] Bk false
abbrev Eg(Z:Zz):Prop:=Clz Z 2 "_law_row_text" ["_law_row"] CQ false
abbrev Dw(Z:Zz):Prop:=Clz Z 1 "_law_same_rows" ["_law_found","_law_due"] Bb false
theorem Kb(d:Dd Z "_law_cell_at" HU)(z_len:zQ Z "len"):FA Z:=d.cal fun _ _ F=>AO ["_law_script","_law_k"] F (by walk_at "top")
theorem KZ(d:Dd Z "_law_name_of" HR)(z_range:zQ Z "range"):E8 Z:=d.cal fun _ _ F=>AO ["_law_big_here","_law_name","_law_size","_law_k"] F (by walk_at "top")
theorem KU(d:Dd Z "_law_step_of" HP) :Dr Z:=d.cal fun _ _ F=>AO ["_law_big_here"] F (by walk_at "top")
theorem Ra(d:Dd Z "_law_up" O5) :Mn Z:=d.cal fun _ _ F=>AO ["_law_rows","_law_name","_law_up_here","_law_by_name","_law_row"] F (by walk_at "top")
theorem Pu(d:Dd Z "_law_low" Mz)(z_abs:zQ Z "abs"):Ky Z:=d.cal fun _ _ F=>AO ["_law_top","_law_bottom","_law_one","_law_other"] F (by walk_at "top")
theorem Hg(d:Dd Z "_law_stencil_of" Et)(z_range:zQ Z "range")(z_tuple:zQ Z "tuple"):Dh Z:=d.cal fun _ _ F=>AO ["_law_big_here","_law_wide","_law_high","_law_rows","_law_j","_law_row","_law_i"] F (by walk_at "top")
theorem KY(d:Dd Z "_law_size_of" HQ) :E7 Z:=d.cal fun _ _ F=>AO ["_law_big_here","_law_most"] F (by walk_at "top")
theorem KS(d:Dd Z "_law_word_of" HN)(z_range:zQ Z "range"):E6 Z:=d.cal fun _ _ F=>AO ["_law_big_here","_law_text","_law_size","_law_k"] F (by walk_at "top")
theorem MO(d:Dd Z "_law_kinds" Jp) :HC Z:=d.cal fun _ _ F=>AO ["_law_leaves"] F (by walk_at "top")
theorem KN(d:Dd Z "row_shown" HJ) :Dq Z:=d.cal fun _ _ F=>AO ["row"] F (by walk_at "top")
theorem LK(d:Dd Z "row_kind" IH) :EW Z:=d.cal fun _ _ F=>AO ["row"] F (by walk_at "top")
theorem LJ(d:Dd Z "row_name" IG) :EV Z:=d.cal fun _ _ F=>AO ["row"] F (by walk_at "top")
theorem Hd(d:Dd Z "text_written" Ep) :CZ Z:=d.cal fun _ _ F=>AO ["text"] F (by walk_at "top")
theorem JQ(d:Dd Z "row_holder" GB) :C8 Z:=d.cal fun _ _ F=>AO ["row"] F (by walk_at "top")
theorem Pq(d:Dd Z "row_x" Mw) :Hz Z:=d.cal fun _ _ F=>AO ["row"] F (by walk_at "top")
theorem Pp(d:Dd Z "row_y" Mv) :Hy Z:=d.cal fun _ _ F=>AO ["row"] F (by walk_at "top")
theorem FO(d:Dd Z "fraction_written" DK) :B3 Z:=d.cal fun _ _ F=>AO ["share","top","bottom"] F (by walk_at "top")
theorem LL(d:Dd Z "row_data" II) :EX Z:=d.cal fun _ _ F=>AO ["row"] F (by walk_at "top")
theorem KL(d:Dd Z "text_read" HI) :Dm Z:=d.cal fun _ _ F=>AO ["word"] F (by walk_at "top")
theorem JT(d:Dd Z "is_figures" GG){uv_FIGURES:Value}(z_all:zQ Z "all")(kc_FIGURES:kaZ Z "FIGURES" (.str "0123456789") uv_FIGURES):Ec Z:=d.cal fun _ _ F=>AO ["word"] F (by walk_at "top")
theorem JR(d:Dd Z "is_text_of" GC)(z_len:zQ Z "len")(z_str:zQ Z "str")(z_isinstance:zQ Z "isinstance")(z_all:zQ Z "all"):C9 Z:=d.cal fun _ _ F=>AO ["thing","signs","low","high"] F (by walk_at "top")
theorem LN(d:Dd Z "is_truth" IK)(z_bool:zQ Z "bool")(z_isinstance:zQ Z "isinstance"):EZ Z:=d.cal fun _ _ F=>AO ["thing"] F (by walk_at "top")
theorem LM(d:Dd Z "is_whole" IJ)(z_bool:zQ Z "bool")(z_isinstance:zQ Z "isinstance")(z_int:zQ Z "int"):EY Z:=d.cal fun _ _ F=>AO ["thing"] F (by walk_at "top")
theorem GU(d:Dd Z "common_divisor" Dy)(z_abs:zQ Z "abs"):Ck Z:=d.cal fun _ _ F=>AO ["one","other","big","small","rest"] F (by walk_at "top")
theorem MK(d:Dd Z "is_sign" Jl)(kc_SIGNS:kdZ Z "SIGNS" Dx):G4 Z:=d.cal fun _ _ F=>AO ["sign"] F (by walk_at "top")
theorem LV(d:Dd Z "is_empty" IU)(z_len:zQ Z "len"):Fv Z:=d.cal fun _ _ F=>AO ["data"] F (by walk_at "top")
theorem Hf(d:Dd Z "_law_word_shown" Es)(z_bool:zQ Z "bool")(z_isinstance:zQ Z "isinstance")(z_int:zQ Z "int")(z_str:zQ Z "str"):Dg Z:=d.cal fun _ _ F=>AO ["_law_kind","_law_thing"] F (by walk_at "top")
theorem Ic(d:Dd Z "_law_same_rows" FU)(z_list:zQ Z "list")(z_isinstance:zQ Z "isinstance")(z_len:zQ Z "len")(z_range:zQ Z "range")(z_bool:zQ Z "bool"):Dw Z:=d.cal fun _ _ F=>AO ["_law_found","_law_due","_law_k","_law_j"] F (by walk_at "top")
theorem Pw(d:Dd Z "_law_big" M1)(c47:FA Z)(z_range:zQ Z "range"):H0 Z:=d.cal fun _ _ F=>AO ["_law_script","_law_at","_law_by","_law_prime","_law_cell","_law_big_here","_law_k","_law_one"] F (by walk_at "top")
theorem JV(d:Dd Z "_law_share_of" GI)(c60:Ky Z):Ee Z:=d.cal fun _ _ F=>AO ["_law_big_here","_law_bottom"] F (by walk_at "top")
theorem Gq(d:Dd Z "datum_written" Ek)(c11:B3 Z)(c04:CZ Z)(z_str:zQ Z "str"):C4 Z:=d.cal fun _ _ F=>AO ["form","thing"] F (by walk_at "top")
theorem JP(d:Dd Z "whole_read" F9){uv_FIGURES:Value}(c34:Ec Z)(kc_FIGURES:kaZ Z "FIGURES" (.str "0123456789") uv_FIGURES):CY Z:=d.cal fun _ _ F=>AO ["word","below","figures","number","figure"] F (by walk_at "top")
theorem ML(d:Dd Z "is_name" Jm){uv_NAME_SIGNS:Value}(c06:C9 Z)(kc_NAME_SIGNS:kaZ Z "NAME_SIGNS" (.str "abcdefghijklmnopqrstuvwxyz0123456789") uv_NAME_SIGNS):G9 Z:=d.cal fun _ _ F=>AO ["thing"] F (by walk_at "top")
theorem KO(d:Dd Z "is_within" HK)(c13:EY Z):BQ Z:=d.cal fun _ _ F=>AO ["thing","low","high"] F (by walk_at "top")
theorem LO(d:Dd Z "is_share" IL)(c13:EY Z)(c20:Ck Z)(z_len:zQ Z "len")(z_tuple:zQ Z "tuple")(z_isinstance:zQ Z "isinstance"):Fs Z:=d.cal fun _ _ F=>AO ["thing","top","bottom"] F (by walk_at "top")
theorem He(d:Dd Z "is_word_text" Er)(c55:G4 Z)(z_len:zQ Z "len")(z_str:zQ Z "str")(z_isinstance:zQ Z "isinstance")(z_all:zQ Z "all"):Df Z:=d.cal fun _ _ F=>AO ["thing"] F (by walk_at "top")
theorem FP(d:Dd Z "are_stencil_rows" DM)(c06:C9 Z)(z_len:zQ Z "len")(z_tuple:zQ Z "tuple")(z_isinstance:zQ Z "isinstance")(z_all:zQ Z "all"):B4 Z:=d.cal fun _ _ F=>AO ["thing"] F (by walk_at "top")
theorem JX(d:Dd Z "_law_row_text" GK)(c26:Dg Z)(z_str:zQ Z "str")(z_int:zQ Z "int"):Eg Z:=d.cal fun _ _ F=>AO ["_law_row","_law_words"] F (by walk_at "top")
theorem JY(d:Dd Z "_law_paint_of" GL)(c35:Ee Z):Eh Z:=d.cal fun _ _ F=>AO ["_law_big_here","_law_shade","_law_share"] F (by walk_at "top")
theorem Ia(d:Dd Z "row_written" FR)(c08:Dq Z)(c44:Hy Z)(c45:Hz Z)(c04:CZ Z)(c07:C8 Z)(c14:EV Z)(c15:EW Z)(c16:EX Z)(c22:C4 Z)(z_str:zQ Z "str")(z_zip:zQ Z "zip")(kc_FORMS_notes:kdZ Z "FORMS_notes" AS):Cr Z:=d.cal fun _ _ F=>AO ["row","shown","words","forms"] F (by walk_at "top")
theorem Gp(d:Dd Z "fraction_read" Ej)(c03:CY Z):C3 Z:=d.cal fun _ _ F=>AO ["word","parts","top","bottom"] F (by walk_at "top")
theorem FN(d:Dd Z "is_bounded_share" DJ)(c52:Fs Z):BY Z:=d.cal fun _ _ F=>AO ["thing"] F (by walk_at "top")
theorem LQ(d:Dd Z "is_place" IP)(c00:BQ Z):Eb Z:=d.cal fun _ _ F=>AO ["thing"] F (by walk_at "top")
theorem MJ(d:Dd Z "is_turn" Jk)(c17:EZ Z)(c00:BQ Z)(z_len:zQ Z "len"):Gz Z:=d.cal fun _ _ F=>AO ["data"] F (by walk_at "top")
theorem KR(d:Dd Z "are_tiles" HM)(c00:BQ Z)(z_len:zQ Z "len"):E5 Z:=d.cal fun _ _ F=>AO ["data"] F (by walk_at "top")
theorem Ka(d:Dd Z "_law_data_of" HS)(c48:E7 Z)(c09:Dr Z)(c36:Eh Z)(c49:E6 Z)(c27:Dh Z):E9 Z:=d.cal fun _ _ F=>AO ["_law_kind","_law_big_here","_law_data","_law_w","_law_h","_law_sx","_law_sy","_law_shade","_law_share","_law_text","_law_rows"] F (by walk_at "top")
theorem IZ(d:Dd Z "scene_shown" FQ)(c05:Cr Z):Du Z:=d.cal fun _ _ F=>AO ["rows"] F (by walk_at "top")
theorem JU(d:Dd Z "datum_read" GH)(c23:C3 Z)(c10:Dm Z)(c03:CY Z)(z_tuple:zQ Z "tuple"):Ed Z:=d.cal fun _ _ F=>AO ["form","word"] F (by walk_at "top")
theorem LR(d:Dd Z "is_paint" IQ)(c01:BY Z):Cj Z:=d.cal fun _ _ F=>AO ["shade","share"] F (by walk_at "top")
theorem LU(d:Dd Z "is_glass" IS)(c01:BY Z)(z_len:zQ Z "len"):Fu Z:=d.cal fun _ _ F=>AO ["data"] F (by walk_at "top")
theorem KP(d:Dd Z "is_window" HL)(c18:Eb Z)(c00:BQ Z)(z_len:zQ Z "len"):E4 Z:=d.cal fun _ _ F=>AO ["data"] F (by walk_at "top")
theorem LW(d:Dd Z "_law_row_of" IV)(c50:E8 Z)(c61:Mn Z)(c56:HC Z)(c09:Dr Z)(c51:E9 Z)(z_len:zQ Z "len"):Fw Z:=d.cal fun _ _ F=>AO ["_law_rows","_law_big_here","_law_name","_law_holders","_law_row","_law_holder","_law_x","_law_y","_law_kind","_law_up_here","_law_shown","_law_data"] F (by walk_at "top")
theorem Ib(d:Dd Z "row_guessed" FT){tk_HEAD:Tok}(c37:Ed Z)(c10:Dm Z)(c03:CY Z)(z_zip:zQ Z "zip")(z_tuple:zQ Z "tuple")(kc_HEAD:kiZ Z "HEAD" 6 tk_HEAD)(kc_FORMS_notes:kdZ Z "FORMS_notes" AS):Dv Z:=d.cal fun _ _ F=>AO ["words","data","holder"] F (by walk_at "top")
theorem LP(d:Dd Z "is_plate" IM)(c02:Cj Z)(c00:BQ Z)(z_len:zQ Z "len"):Ft Z:=d.cal fun _ _ F=>AO ["data"] F (by walk_at "top")
theorem MN(d:Dd Z "is_band" Jo)(c02:Cj Z)(c00:BQ Z)(z_len:zQ Z "len"):HB Z:=d.cal fun _ _ F=>AO ["data"] F (by walk_at "top")
theorem MI(d:Dd Z "is_word" Jj)(c02:Cj Z)(c28:Df Z)(z_len:zQ Z "len"):Gy Z:=d.cal fun _ _ F=>AO ["data"] F (by walk_at "top")
theorem JS(d:Dd Z "is_stencil" GD)(c02:Cj Z)(c12:B4 Z)(z_len:zQ Z "len"):Ea Z:=d.cal fun _ _ F=>AO ["data"] F (by walk_at "top")
theorem JW(d:Dd Z "_law_scene_of" GJ)(c53:Fw Z)(c46:H0 Z)(z_range:zQ Z "range"):Ef Z:=d.cal fun _ _ F=>AO ["_law_script","_law_first","_law_many","_law_rows","_law_k","_law_row","_law_big_here"] F (by walk_at "top")
theorem MM(d:Dd Z "is_data" Jn)(c29:Ft Z)(c38:HB Z)(c39:Gy Z)(c21:Ea Z)(c19:Fv Z)(c30:Fu Z)(c24:E4 Z)(c40:Gz Z)(c25:E5 Z)(z_tuple:zQ Z "tuple")(z_isinstance:zQ Z "isinstance")(z_str:zQ Z "str")(kc5_FORMS_rows:kfZ Z 5 "FORMS_rows" Ap):HA Z:=d.cal fun _ _ F=>AO ["kind","data"] F (by walk_at "top")
theorem N3(d:Dd Z "is_row" K6)(c57:G9 Z)(c14:EV Z)(c07:C8 Z)(c18:Eb Z)(c44:Hy Z)(c45:Hz Z)(c58:HA Z)(c16:EX Z)(c15:EW Z)(c17:EZ Z)(c08:Dq Z)(z_len:zQ Z "len")(z_tuple:zQ Z "tuple")(z_isinstance:zQ Z "isinstance"):JI Z:=d.cal fun _ _ F=>AO ["thing"] F (by walk_at "top")
theorem LI(d:Dd Z "row_read" IF){tk_HEAD:Tok}(c31:Dv Z)(c05:Cr Z)(c59:JI Z)(z_len:zQ Z "len")(kc_HEAD:kiZ Z "HEAD" 6 tk_HEAD)(kc_FORMS_notes:kdZ Z "FORMS_notes" AS):Fq Z:=d.cal fun _ _ F=>AO ["text","words","row"] F (by walk_at "top")
theorem Ie(d:Dd Z "scene_read" GA){cls:Nat->Addr}(c54:Fq Z)(z_any:zQ Z "any")(hm_NoText:clZ Z cls 0 "NoText"):Gj Z cls:=d.xc fun _ _ F=>RZ ["text","rows"] F (by walk_at "topX")
theorem Uq{f:Addr}{fd:FuncData}(F:Fun Z.K "law" "law" TJ f fd)(c46:H0 Z)(c41:Ef Z)(c42:Eg Z)(c32:Du Z)(c43:Gk Z)(c33:Dw Z)(z_len:zQ Z "len")(z_range:zQ Z "range")(z_list:zQ Z "list")(z_str:zQ Z "str")(z_isinstance:zQ Z "isinstance"):FnOk Z.P Z.w Z.K Z.mg Z.base CX0 10 f fd ["_law_script"] (spD Z.kw Ij false):=AO ["_law_script","_law_first","_law_rows","_law_names","_law_k","_law_big_here","_law_due","_law_handed","_law_turn","_law_text","_law_found"] F (by walk_at "top")
end
theorem A9{i j:Int}(h:0<j):AW (.int i) (.int j)=some (.int (i % j)):=if_pos h
theorem Bc{i j:Int}(h:0<j)(h1:j<10 ^ 70):Af (.int i) (.int j)=some (.int (i / j)):=if_pos ⟨h,Qk h h1⟩
theorem Uw{i j:Int}(h:CMulB i j):Gs (.int i) (.int j)=some (.int (i*j)):=if_pos h
theorem PZ:OJ (.int 10) (.int 18)=some (.int 1000000000000000000):=rfl
theorem J4{ns:List Int}{k:Int}(h0:0<=k):∃v:Int,Bl [.c (ns.map .int),.d (.int k)]=some (.int v,[.c (ns.map .int),.d (.int k)]):=by
 by_cases h:k<(ns.length:Int)
 ·have hk:k.toNat<ns.length:=by omega
  have e:(ns.map PyData.int)[k.toNat]?=some (.int ns[k.toNat]):=by simp[hk]
  exact⟨ns[k.toNat],by walk_at "b|Bl,List.length_map,h0,h,decide_true,e"⟩
 ·exact⟨0,by walk_at "b|Bl,List.length_map,h0,h,decide_false"⟩
theorem Tw{xs:List Int}{k:Int}(h0:0<=k)(h:k<(xs.length:Int)):∃v:Int,atI (xs.map PyData.int) k=some (.int v)/\v∈xs:=by
 have hk:k.toNat<xs.length:=by omega
 refine⟨xs[k.toNat],?_,cS hk⟩
 unfold atI ixN
 rw[B',if_pos h0,if_pos h]
 simp[hk]
def by8:PyData:=.tuple ([48271,69621,16807,39373,21401,60493,87721,31337].map .int)
def pr8:PyData:=.tuple ([99991,99989,99971,99961,99929,99923,99907,99901].map .int)
theorem Qt{ns:List Int}{k:Int}(h0:0<=k):∃(v:Int) (ls:List L),Co [.c (ns.map .int),.d (.int k)]=some (.int v,ls):=by
 obtain⟨cell,hc⟩:=J4 (ns:=ns) h0
 by_cases hb:(1000000000000000000:Int)<=cell
 ·exact⟨cell,_,by walk_at "b|Co,hc,PZ,hb,decide_true";rfl⟩
 ·have lp:∃t7,Bn (dN 6) (AI (AJ (dOp Ag (dOp Ag (dOp AW (AV 0 Bl (AA (dOp Ag (AB 1) (dOp AW (AB 6) (dC (.int 9)))) AD)) (dOp OJ (dC (.int 10)) (dC (.int 18)))) (dC (.int 1))) (dOp Gs (AB 6) (AB 6))) (dN 7)) (AJ (dOp Ag (dOp Gs (AB 5) (dC (.int 7919))) (dOp AW (dOp AW (dOp Gs (AB 7) (dOp AK (AB 2) (dOp AW (AB 6) (dC (.int 8))))) (dOp AK (AB 3) (dOp AW (AB 6) (dC (.int 8))))) (dC (.int 7919)))) (dN 5)))
    ((rng 0 60).map PyData.int) [some (.c (ns.map .int)),some (.d (.int k)),some (.d by8),some (.d pr8),some (.d (.int cell)),some (.d (.int 0)),none,none]=some (.nx t7) /\
    ∃(b:Int) (o1 o2:Option L),nM o1/\nM o2/\t7=[some (.c (ns.map .int)),some (.d (.int k)),some (.d by8),some (.d pr8),some (.d (.int cell)),some (.d (.int b)),o1,o2]:=by
   refine Jt (enc:=PyData.int) (pre:=[]) (fun _ τ=>∃(b:Int) (o1 o2:Option L),nM o1/\nM o2/\τ=[some (.c (ns.map .int)),some (.d (.int k)),some (.d by8),some (.d pr8),some (.d (.int cell)),some (.d (.int b)),o1,o2]) ⟨0,none,none,Ao,Ao,rfl⟩ ?_
   rintro j _ τ hj ⟨b,o1,o2,n1,n2,rfl⟩
   have hj':=(mem_rng (n:=60)).mp hj
   have h9:0<=j % 9:=ak _ (by decide)
   obtain⟨c,hc⟩:=J4 (ns:=ns) (k:=k+j % 9) (by omega)
   obtain⟨u1,hu1,m1⟩:=Tw (xs:=[48271,69621,16807,39373,21401,60493,87721,31337]) (k:=j % 8) (ak _ (by decide)) (aa _ (by decide))
   obtain⟨u2,hu2,m2⟩:=Tw (xs:=[99991,99989,99971,99961,99929,99923,99907,99901]) (k:=j % 8) (ak _ (by decide)) (aa _ (by decide))
   have hu1':AK by8 (.int (j % 8))=some (.int u1):=hu1
   have hu2':AK pr8 (.int (j % 8))=some (.int u2):=hu2
   have m1':-(2 ^ 64)<u1/\u1<2 ^ 64:=by
    simp only[List.mem_cons,List.not_mem_nil,or_false]at m1
    omega
   have m2':0<u2:=by
    simp only[List.mem_cons,List.not_mem_nil,or_false]at m2
    omega
   have x1:Gs (.int j) (.int j)=some (.int (j*j)):=Uw (.inl (.inl ⟨by omega,by omega⟩))
   have x2:Gs (.int b) (.int 7919)=some (.int (b*7919)):=Uw (.inl (.inr ⟨by decide,by decide⟩))
   have x3:∀z:Int,Gs (.int z) (.int u1)=some (.int (z*u1)):=fun z=>Uw (.inl (.inr m1'))
   have x4:∀z:Int,AW (.int z) (.int u2)=some (.int (z % u2)):=fun z=>A9 m2'
   have x5:∀z:Int,AW (.int z) (.int 7919)=some (.int (z % 7919)):=fun z=>A9 (by decide)
   have x6:∀z:Int,AW (.int z) (.int 9)=some (.int (z % 9)):=fun z=>A9 (by decide)
   have x7:∀z:Int,AW (.int z) (.int 8)=some (.int (z % 8)):=fun z=>A9 (by decide)
   have x8:∀z:Int,AW (.int z) (.int 1000000000000000000)=some (.int (z % 1000000000000000000)):=fun z=>A9 (by decide)
   refine⟨_,[some (.c (ns.map .int)),some (.d (.int k)),some (.d by8),some (.d pr8),some (.d (.int cell)),some (.d (.int (b*7919+(c % 1000000000000000000+1+j*j)*u1 % u2 % 7919))),some (.d (.int j)),some (.d (.int (c % 1000000000000000000+1+j*j)))],Bs rfl n1,?_,_,_,_,Bz,Bz,rfl⟩
   refine(AF (t5:=[some (.c (ns.map .int)),some (.d (.int k)),some (.d by8),some (.d pr8),some (.d (.int cell)),some (.d (.int b)),some (.d (.int j)),some (.d (.int (c % 1000000000000000000+1+j*j)))]) (AY (d:=.int (c % 1000000000000000000+1+j*j)) (t5:=[some (.c (ns.map .int)),some (.d (.int k)),some (.d by8),some (.d pr8),some (.d (.int cell)),some (.d (.int b)),some (.d (.int j)),o2]) ?_ (Bs rfl n2))).trans ?_
   ·simp only[dOp,AB,dC,AV,AA,AD,Aq,Ag,fI,PZ,hc,x1,x6,x8,List.getElem?_cons_zero,List.getElem?_cons_succ,List.set_cons_zero,List.set_cons_succ,Option.bind_some,Option.map_some,List.map_cons,List.map_nil]
   ·simp only[AJ,dN,dOp,AB,dC,Ag,fI,hu1',hu2',x2,x3,x4,x5,x7,List.getElem?_cons_zero,List.getElem?_cons_succ,List.set_cons_zero,List.set_cons_succ,Option.bind_some,Option.map_some]
  obtain⟨t7,e,b,o1,o2,n1,n2,rfl⟩:=lp
  refine⟨b,[.c (ns.map .int),.d (.int k)],?_⟩
  have hr:dR1 (AA (dC (.int 60)) AD) [some (.c (ns.map .int)),some (.d (.int k)),some (.d by8),some (.d pr8),some (.d (.int cell)),some (.d (.int 0)),none,none]=some ((rng 0 60).map PyData.int,[some (.c (ns.map .int)),some (.d (.int k)),some (.d by8),some (.d pr8),some (.d (.int cell)),some (.d (.int 0)),none,none]):=by
   rw[<- Jq];rfl
  refine AU (τ:=[some (.c (ns.map .int)),some (.d (.int k)),some (.d by8),some (.d pr8),some (.d (.int cell)),some (.d (.int b)),o1,o2]) ?_ rfl rfl
  refine(AF rfl).trans ((AF rfl).trans ((AF (t5:=[some (.c (ns.map .int)),some (.d (.int k)),some (.d by8),some (.d pr8),some (.d (.int cell)),none,none,none]) (AY (E3 (xs:=ns.map .int) rfl rfl rfl hc) rfl)).trans ?_))
  refine(AF (t5:=[some (.c (ns.map .int)),some (.d (.int k)),some (.d by8),some (.d pr8),some (.d (.int cell)),none,none,none]) ?_).trans ((AF (t5:=[some (.c (ns.map .int)),some (.d (.int k)),some (.d by8),some (.d pr8),some (.d (.int cell)),some (.d (.int 0)),none,none]) rfl).trans ((AF ((C2 hr).trans e)).trans rfl))
  walk_at "b|PZ,hb,decide_false"
def gI(a b:Int):Int:=(Int.gcd a b:Nat)
theorem QH{a b:Int}(ha:0<=a)(hb:0<b):gI b (a % b)=gI a b:=by
 unfold gI
 rw[cC,cC]
 have e:(a % b).natAbs=a.natAbs % b.natAbs:=by
  rw[Int.natAbs_emod_of_nonneg ha]
 rw[e,Nat.gcd_comm,<- Nat.gcd_rec,Nat.gcd_comm]
theorem NU{a:Int}(ha:0<=a):gI a 0=a:=by
 unfold gI
 rw[Int.gcd_zero_right]
 omega
theorem QG{a b:Int}(hb:0<b):0<gI a b:=by
 unfold gI
 have:0<Int.gcd a b:=cD _ (by omega)
 omega
theorem YH{a b:Int}(hb:0<b):gI a b<=b:=by
 exact Int.gcd_le_right a hb
def frm(t b:Int):Cl:=(t / gI t b,b / gI t b)
def Gx(i:Int):Int:=if i<0 then -i else i
theorem Qr{i:Int}(h:0<=i):Gx i=i:=by unfold Gx;rw[if_neg (by omega)]
theorem Nk(i:Int):0<=Gx i:=by unfold Gx;split<;>omega
theorem QI(a b:Int):gI (Gx a) b=gI a b:=by
 unfold gI Gx
 split
 ·rw[Int.neg_gcd]
 ·rfl
structure OkF(s:Cl):Prop where
 lo:0<=s.1
 hi:s.1<=s.2
 b1:1<=s.2
 b2:s.2<=1000
 zero:s.1=0->s=(0,1)
 red:∃t b:Int,0<b/\s=frm t b
theorem Lc{d1 d2:PyData}:∀(n:Nat) (a b:Int),0<=a->0<=b->b.toNat<n ->
  dWh (AE (dOp fGt (AB 3) (dC (.int 0)))) (BN 2 3 (AA (AB 3) (AA (dOp AW (AB 2) (AB 3)) AD))) n [some (.d d1),some (.d d2),some (.d (.int a)),some (.d (.int b))]=some (.nx [some (.d d1),some (.d d2),some (.d (.int (gI a b))),some (.d (.int 0))])
 |0,a,b,_,_,h=>absurd h (Nat.not_lt_zero _)
 |n+1,a,b,ha,hb,h=>by
  let st:Int->Int->DS:=fun x y=>[some (.d d1),some (.d d2),some (.d (.int x)),some (.d (.int y))]
  have t:AE (dOp fGt (AB 3) (dC (.int 0))) (st a b)=some (decide (0<b),st a b):=rfl
  unfold dWh
  rw[show AE (dOp fGt (AB 3) (dC (.int 0))) [some (.d d1),some (.d d2),some (.d (.int a)),some (.d (.int b))]=some (decide (0<b),st a b) from t]
  by_cases hz:b=0
  ·subst hz
   rw[NU ha];rfl
  ·have hp:0<b:=by omega
   have md:=aa a hp
   have mn:=ak a (show b≠0 by omega)
   have e:=Lc (d1:=d1) (d2:=d2) n b (a % b) hb mn (by omega)
   rw[decide_eq_true hp]
   have bd:BN 2 3 (AA (AB 3) (AA (dOp AW (AB 2) (AB 3)) AD)) (st a b)=some (.nx (st b (a % b))):=by
    have:AA (AB 3) (AA (dOp AW (AB 2) (AB 3)) AD) (st a b)=some ([.d (.int b),.d (.int (a % b))],st a b):=by
     show(((((AW (.int a) (.int b)).map fun d=>(d,st a b)).bind fun p=>_).map _))=_
     rw[A9 hp];rfl
    unfold BN
    rw[this];rfl
   show((BN _ _ _ (st a b)).bind _)=_
   rw[bd]
   show dWh _ _ n (st b (a % b))=_
   rw[<- QH ha hp]
   exact e
theorem Ux{t b:Int}(hb:0<b)(hb2:b<10 ^ 70):GZ [.d (.int t),.d (.int b)]=some (ec (frm t b),[.d (.int t),.d (.int b)]):=by
 have gp:=QG (a:=t) hb
 have gl:=YH (a:=t) hb
 have e:=Lc (d1:=.int t) (d2:=.int b) (b.toNat+1) (Gx t) b (Nk t) (by omega) (cP _)
 rw[QI]at e
 let st:Option L->Option L->DS:=fun o p=>[some (.d (.int t)),some (.d (.int b)),o,p]
 unfold GZ
 refine AU (τ:=st (some (.d (.int (gI t b)))) (some (.d (.int 0)))) ?_ rfl rfl
 refine(AF (t5:=st (some (.d (.int (Gx t)))) (some (.d (.int b)))) rfl).trans ?_
 refine(AF e).trans ?_
 refine AZ (t5:=st (some (.d (.int (gI t b)))) (some (.d (.int 0)))) ?_
 have d1:=Bc (i:=t) gp (by omega)
 have d2:=Bc (i:=b) gp (by omega)
 walk_at "b|st,d1,d2,ec,frm"
theorem QJ{t b:Int}(h0:0<=t)(h1:t<=b)(h2:1<=b)(h3:b<=1000):OkF (frm t b):=by
 have gp:=QG (a:=t) (show 0<b by omega)
 have db:gI t b ∣ b:=by unfold gI;exact Int.gcd_dvd_right ..
 obtain⟨q,hq⟩:=db
 have eb:b / gI t b=q:=cH (by omega) hq
 have q1:1<=q:=by
  rcases Int.lt_or_le q 1 with z|z
  ·have:gI t b*q<=0:=Int.mul_nonpos_of_nonneg_of_nonpos (by omega) (by omega)
   omega
  ·exact z
 have tl:t / gI t b<=b / gI t b:=Int.ediv_le_ediv gp h1
 have bl:b / gI t b<=b:=Int.ediv_le_self _ (by omega)
 refine⟨Int.ediv_nonneg h0 (by omega),tl,by show 1<=b / gI t b;omega,by show b / gI t b<=1000;omega,fun z=>?_,t,b,by omega,rfl⟩
 have z:t / gI t b=0:=z
 have dt:gI t b ∣ t:=by unfold gI;exact Int.gcd_dvd_left ..
 obtain⟨r,hr⟩:=dt
 have er:t / gI t b=r:=cH (by omega) hr
 have r0:r=0:=by omega
 have t0:t=0:=by rw[hr,r0,Int.mul_zero]
 have g0:gI t b=b:=by
  rw[t0];unfold gI
  rw[Int.gcd_zero_left];omega
 unfold frm
 rw[g0,t0,Int.zero_ediv,Int.ediv_self (by omega)]
theorem HG(v:Int):∃(s:Cl) (w:Int) (ls:List L),CK [.d (.int v)]=some (.tuple [ec s,.int w],ls)/\OkF s:=by
 obtain⟨b0,e0,hb0⟩:=Tw (xs:=[1,1,2,3]) (k:=v % 4) (by omega) (by show v % 4<4;omega)
 have hb0:1<=b0/\b0<=1000:=by
  rcases Z'.mp hb0 with rfl|hb0
  ·decide
  ·rcases Z'.mp hb0 with rfl|hb0
   ·decide
   ·rcases Z'.mp hb0 with rfl|hb0
    ·decide
    ·rw[aT.mp hb0];decide
 let st:Int->Option L->DS:=fun x o=>[some (.d (.int x)),o]
 have fin:∀b:Int,1<=b->b<=1000->∃(s:Cl) (w:Int),AI (AJ (dOp Af (AB 0) (dC (.int 16000))) (dN 0)) (AL (Aa (AA (AH GZ (AA (dOp AW (AB 0) (dOp Ag (AB 1) (dC (.int 1)))) (AA (AB 1) AD))) (AA (dOp Af (AB 0) (dOp Ag (AB 1) (dC (.int 1)))) AD)))) (st v (some (.d (.int b))))=some (.rt (.tuple [ec s,.int w]) (st (v / 16000) (some (.d (.int b)))))/\OkF s:=fun b h1 h2=>by
  have m0:=ak (v / 16000) (show b+1≠0 by omega)
  have m1:=aa (v / 16000) (show 0<b+1 by omega)
  refine⟨frm (v / 16000 % (b+1)) b,v / 16000 / (b+1),?_,QJ m0 (by omega) h1 h2⟩
  have l:=Ux (t:=v / 16000 % (b+1)) (b:=b) (by omega) (by omega)
  have d1:=Bc (i:=v) (j:=16000) (by decide) (by decide)
  have d2:=A9 (i:=v / 16000) (j:=b+1) (by omega)
  have d3:=Bc (i:=v / 16000) (j:=b+1) (by omega) (by omega)
  walk_at "b|st,l,d1,d2,d3"
 have c2:∀b:Int,1<=b->b<=1000->∃b',1<=b'/\b'<=1000/\AQ (AE (dOp fEq (dOp AW (dOp Af (AB 0) (dC (.int 4))) (dC (.int 16))) (dC (.int 1)))) (AJ (dOp Ag (dC (.int 1)) (dOp AW (dOp Af (AB 0) (dC (.int 16))) (dC (.int 1000)))) (dN 1)) AR (st v (some (.d (.int b))))=some (.nx (st v (some (.d (.int b'))))):=fun b h1 h2=>by
  have d1:=Bc (i:=v) (j:=4) (by decide) (by decide)
  have d2:=A9 (i:=v / 4) (j:=16) (by decide)
  have d3:=Bc (i:=v) (j:=16) (by decide) (by decide)
  have d4:=A9 (i:=v / 16) (j:=1000) (by decide)
  by_cases h:v / 4 % 16=1
  ·refine⟨1+v / 16 % 1000,by omega,by omega,?_⟩
   have q:fEq (.int (v / 4 % 16)) (.int 1)=some (.bool true):=by rw[encI.fEq,decide_eq_true h]
   walk_at "b|st,d1,d2,q,d3,d4"
  ·refine⟨b,h1,h2,?_⟩
   have q:fEq (.int (v / 4 % 16)) (.int 1)=some (.bool false):=by rw[encI.fEq,decide_eq_false h]
   walk_at "b|st,d1,d2,q"
 have c1:∀b:Int,1<=b->b<=1000->∃b',1<=b'/\b'<=1000/\AQ (AE (dOp fEq (dOp AW (dOp Af (AB 0) (dC (.int 4))) (dC (.int 4))) (dC (.int 0)))) (AJ (dOp Ag (dC (.int 1)) (dOp AW (dOp Af (AB 0) (dC (.int 16))) (dC (.int 12)))) (dN 1)) AR (st v (some (.d (.int b))))=some (.nx (st v (some (.d (.int b'))))):=fun b h1 h2=>by
  have d1:=Bc (i:=v) (j:=4) (by decide) (by decide)
  have d2:=A9 (i:=v / 4) (j:=4) (by decide)
  have d3:=Bc (i:=v) (j:=16) (by decide) (by decide)
  have d4:=A9 (i:=v / 16) (j:=12) (by decide)
  by_cases h:v / 4 % 4=0
  ·refine⟨1+v / 16 % 12,by omega,by omega,?_⟩
   have q:fEq (.int (v / 4 % 4)) (.int 0)=some (.bool true):=by rw[encI.fEq,decide_eq_true h]
   walk_at "b|st,d1,d2,q,d3,d4"
  ·refine⟨b,h1,h2,?_⟩
   have q:fEq (.int (v / 4 % 4)) (.int 0)=some (.bool false):=by rw[encI.fEq,decide_eq_false h]
   walk_at "b|st,d1,d2,q"
 obtain⟨b1,g1,g2,e1⟩:=c1 b0 hb0.1 hb0.2
 obtain⟨b2,g3,g4,e2⟩:=c2 b1 g1 g2
 obtain⟨s,w,e3,hs⟩:=fin b2 g3 g4
 refine⟨s,w,[.d (.int v)],?_,hs⟩
 unfold CK
 refine AU (τ:=st (v / 16000) (some (.d (.int b2)))) ?_ rfl rfl
 refine(AF (t5:=st v (some (.d (.int b0)))) (AY (d:=.int b0) (t5:=st v none) ?_ rfl)).trans ((AF e1).trans ((AF e2).trans e3))
 have m:=A9 (i:=v) (j:=4) (by decide)
 show(((AW (.int v) (.int 4)).map fun d=>(d,st v none)).bind fun q=>(AK (.tuple ([1,1,2,3].map PyData.int)) q.1).map fun d=>(d,q.2))=_
 rw[m]
 show((atI ([1,1,2,3].map PyData.int) (v % 4)).map fun d=>(d,st v none))=_
 rw[e0];rfl
theorem acc{f:DX}{a:DA}{τ t5 t9:DS}{d:PyData}{rs:List Ar}(h:f τ=some (d,t5))(k:a t5=some (rs,t9)):AA f a τ=some (.d d::rs,t9):=by
 unfold AA
 rw[h]
 show((a t5).map _)=_
 rw[k];rfl
theorem tst{f:DX}{τ t5:DS}{b:Bool}(h:f τ=some (.bool b,t5)):AE f τ=some (b,t5):=by
 unfold AE
 rw[h];rfl
theorem Fz{t:DT}{τ t5:DS}{b:Bool}(h:t τ=some (b,t5)):Am t τ=some (!b,t5):=by
 unfold Am
 rw[h];rfl
theorem op2{F:PyData->PyData->Option PyData}{f g:DX}{τ t5 t9:DS}{x y r:PyData}(h:f τ=some (x,t5))(k:g t5=some (y,t9))(e:F x y=some r):dOp F f g τ=some (r,t9):=by
 unfold dOp
 rw[h]
 show((g t5).bind _)=_
 rw[k]
 show((F x y).map _)=_
 rw[e];rfl
theorem oQ{F:PyData->PyData->Option PyData}{f g:DX}{τ t9:DS}{r:PyData}(x y:PyData)(t5:DS)(h:f τ=some (x,t5))(k:g t5=some (y,t9))(e:F x y=some r):dOp F f g τ=some (r,t9):=op2 h k e
theorem cQ{G:List L->Option (PyData × List L)}{a:DA}{τ:DS}{r:PyData}{ls:List L}(t5:DS)(ds:List PyData)(h:a τ=some (ds.map Ar.d,t5))(k:Aq (ds.map Ar.d)=some ds)(g:G (ds.map L.d)=some (r,ls)):AH G a τ=some (r,t5):=BE h k g
theorem F5{i:Nat}{f:DT}{τ t5:DS}{b:Bool}{xs:List PyData}(hi:τ[i]?=some (some (.m xs)))(hf:f (τ.set i (some (.d (.list xs))))=some (b,t5))(hx:t5.all okM=true):Bj i f τ=some (b,t5.set i (some (.m xs))):=by
 unfold Bj
 rw[hi]
 dsimp only
 rw[hf]
 dsimp only[Option.bind]
 rw[if_pos hx]
theorem FZ{x y:DT}{τ t5 t9:DS}(h1:x τ=some (false,t5))(h2:y t5=some (false,t9)):Be x y τ=some (false,t9):=by
 unfold Be
 rw[h1];exact h2
theorem F8{np i:Nat}{e:DX}{τ t5:DS}{xs:List PyData}(h:e τ=some (.list xs,t5))(h1:np<=i)(h2:i<t5.length)(h3:t5.all okM=true):BP np i e τ=some (.nx (t5.set i (some (.m xs)))):=by
 unfold BP
 rw[h]
 dsimp only[Option.bind]
 rw[if_pos ⟨h1,h2,h3⟩]
theorem K2{a b:DT}{τ:DS}{p q:Bool}(h1:a τ=some (p,τ))(h2:b τ=some (q,τ)):BI a b τ=some (p&&q,τ):=by
 unfold BI
 rw[h1]
 cases p with
 |true=>exact h2
 |false=>rfl
theorem EU{a b:DX}{τ t5:DS}(h:a τ=some (.bool true,t5)):Br a b τ=b t5:=by
 unfold Br
 rw[tst h];rfl
abbrev Tx:={ s:Str // PyData.strOk s=true }
def eT(t:Tx):PyData:=.str t.1
theorem encT:Enc eT:=by
 refine⟨fun a b=>?_,fun a=>?_,fun a=>?_,fun _=>rfl⟩
 ·unfold eT
  rw[PyData.eqv]
  by_cases h:a=b
  ·subst h;simp
  ·rw[decide_eq_false h]
   exact beq_eq_false_iff_ne.mpr fun z=>h (cX z)
 ·show PyData.canLay0 (.str a.1)=true
  rw[PyData.canLay0];exact a.2
 ·show PyData.depth (.str a.1)<=20
  rw[PyData.depth];decide
def t0:Tx:=⟨"",∅⟩
inductive Dz where
 |plate (w h:Int) (a b:Cl)
 |band (w h:Int) (a b:Cl)
 |word (t:Tx) (a b:Cl)
 |stencil (rs:List Tx) (a b:Cl)
 |group
 |glass (a:Cl)
 |window (w h x y:Int)
 |turn (q:Int) (f:Bool)
 |tiles (a b x y:Int)
 |mask
 deriving DecidableEq
def kz:Dz->Nat
 |.plate ..=>0
 |.band ..=>1
 |.word ..=>2
 |.stencil ..=>3
 |.group=>4
 |.glass _=>5
 |.window ..=>6
 |.turn ..=>7
 |.tiles ..=>8
 |.mask=>9
def kS:Nat->Tx
 |0=>⟨"plate",∅⟩
 |1=>⟨"band",∅⟩
 |2=>⟨"word",∅⟩
 |3=>⟨"stencil",∅⟩
 |4=>⟨"group",∅⟩
 |5=>⟨"glass",∅⟩
 |6=>⟨"window",∅⟩
 |7=>⟨"turn",∅⟩
 |8=>⟨"tiles",∅⟩
 |_=>⟨"mask",∅⟩
theorem U4:∀i j:Fin 10,kS i=kS j->i=j:=∅
theorem Im(d:Dz):kz d<10:=by cases d<;>simp[kz]
theorem Io{i j:Nat}(hi:i<10)(hj:j<10)(h:kS i=kS j):i=j:=Fin.mk.inj (U4 ⟨i,hi⟩ ⟨j,hj⟩ h)
def eD:Dz->PyData
 |.plate w h a b=>.tuple [.int w,.int h,ec a,ec b]
 |.band w h a b=>.tuple [.int w,.int h,ec a,ec b]
 |.word t a b=>.tuple [eT t,ec a,ec b]
 |.stencil rs a b=>.tuple [.tuple (rs.map eT),ec a,ec b]
 |.group=>.tuple []
 |.glass a=>.tuple [ec a]
 |.window w h x y=>.tuple [.int w,.int h,.int x,.int y]
 |.turn q f=>.tuple [.int q,.bool f]
 |.tiles a b x y=>.tuple [.int a,.int b,.int x,.int y]
 |.mask=>.tuple []
structure Rz where
 n:Tx
 h:Tx
 x:Int
 y:Int
 s:Bool
 d:Dz
 deriving DecidableEq
def eZ(r:Rz):PyData:=.tuple [eT r.n,eT r.h,.int r.x,.int r.y,.bool r.s,eT (kS (kz r.d)),eD r.d]
theorem ecq(a b:Cl):PyData.eqv (ec a) (ec b)=decide (a=b):=encC.eqv a b
theorem YB(a b:Int):PyData.eqv (.int a) (.int b)=decide (a=b):=encI.eqv a b
theorem Ti(a b:Bool):PyData.eqv (.bool a) (.bool b)=decide (a=b):=by rw[PyData.eqv];cases a<;>cases b<;>rfl
theorem aG(a b:Int):(a==b)=decide (a=b):=rfl
theorem aH(a b:Bool):(a==b)=decide (a=b):=by cases a<;>cases b<;>rfl
theorem eDq:∀a b:Dz,kz a=kz b->PyData.eqv (eD a) (eD b)=decide (a=b):=by
 intro a b h
 cases a<;>cases b<;>first
  |(exfalso;simp[kz]at h;done)
  |(simp only[eD,PyData.eqv,PyData.eqvAll,ecq,YB,Ti,aG,aH,encT.eqv,encT.eqvL,Bool.and_true,Dz.plate.injEq,Dz.band.injEq,Dz.word.injEq,Dz.stencil.injEq,Dz.glass.injEq,Dz.window.injEq,Dz.turn.injEq,Dz.tiles.injEq,Bool.decide_and,decide_true])
theorem Tf:∀rs:List Tx,PyData.depthAll (rs.map eT)<=1
 |[]=>by rw[List.map_nil,PyData.depthAll];decide
 |r::rs=>by
  have:=Tf rs
  rw[X',PyData.depthAll]
  unfold eT at *
  simp only[PyData.depth]
  omega
theorem encZ:Enc eZ:=by
 refine⟨fun a b=>?_,fun a=>?_,fun a=>?_,fun a=>?_⟩
 ·unfold eZ
  simp only[PyData.eqv,PyData.eqvAll,YB,Ti,encT.eqv,Bool.and_true]
  obtain⟨a1,a2,a3,a4,a5,a6⟩:=a
  obtain⟨b1,b2,b3,b4,b5,b6⟩:=b
  simp only[Rz.mk.injEq,Bool.decide_and]
  by_cases h:kz a6=kz b6
  ·rw[eDq a6 b6 h,h,decide_eq_true rfl,Bool.true_and]
   simp[Bool.beq_eq_decide_eq]
  ·have h1:kS (kz a6)≠kS (kz b6):=fun z=>h (Io (Im _) (Im _) z)
   have h2:a6≠b6:=fun z=>h (by rw[z])
   rw[decide_eq_false h1,decide_eq_false h2]
   simp
 ·show PyData.canLay0 (.tuple _)=true
  simp only[PyData.canLay0,PyData.canLayAll0,encT.can,Bool.true_and,Bool.and_true]
  cases a.d<;>simp only[eD,PyData.canLay0,PyData.canLayAll0,encT.can,encC.can,encT.canL,Bool.true_and,Bool.and_true]
 ·have hc:=encC.dep
  have key:PyData.depth (eD a.d)<=10:=by
   cases a.d with
   |stencil rs x y =>
    have:=Tf rs
    simp only[eD,ec,PyData.depth,PyData.depthAll]
    omega
   |word t x y=>simp[eD,eT,ec,PyData.depth,PyData.depthAll]
   |_=>simp[eD,ec,PyData.depth,PyData.depthAll]
  show PyData.depth (.tuple _)<=20
  simp only[PyData.depth,PyData.depthAll,eT]
  omega
 ·show Cb (.tuple _)=true
  simp only[Cb,fixDs,encT.fix,Bool.true_and,Bool.and_true]
  cases a.d<;>simp only[eD,Cb,fixDs,encT.fix,encC.fix,encT.fixL,Bool.true_and,Bool.and_true]
theorem GN(n:Nat):(rng 0 n).map PyData.int=(List.range n).map fun(k:Nat)=>PyData.int (k:Int):=by
 unfold rng
 rw[ay]
 refine List.map_congr_left fun k _=>?_
 show PyData.int (0+(k:Int))=_
 rw[Int.zero_add]
theorem Wh{i:Nat}{f:DX}{τ t5:DS}{d:PyData}{xs:List PyData}(hi:τ[i]?=some (some (.m xs)))(hf:f (τ.set i (some (.d (.list xs))))=some (d,t5))(hx:(Cb d&&t5.all okM)=true):Bo i f τ=some (d,t5.set i (some (.m xs))):=by
 unfold Bo
 rw[hi]
 show(f _).bind _=_
 rw[hf]
 show(if _ then _ else _)=_
 rw[if_pos hx]
theorem B9{F:List PyData->Option PyData}{f:DX}{τ t5:DS}{d r:PyData}(h:f τ=some (d,t5))(e:F [d]=some r):AN F (AA f AD) τ=some (r,t5):=by
 unfold AN
 rw[acc h rfl]
 show((F [d]).map _)=_
 rw[e];rfl
theorem OW{i:Nat}{a:DA}{τ t5:DS}{d:PyData}{xs:List PyData}(h:a τ=some ([.d d],t5))(m:t5[i]?=some (some (.m xs)))(hz:xs.length<900):Av (dMt i Ah a) τ=some (.nx (t5.set i (some (.m (xs++[d]))))):=by
 have hs:xs.length<sizeLine:=aN hz (by decide)
 unfold Av dMt
 rw[h]
 show((match t5[i]? with|some (some (.m xs))=>_|_=>_):Option (PyData×DS)).map _=_
 rw[m]
 show((if xs.length<sizeLine then some (PyData.none,xs++[d]) else none).map _).map _=_
 rw[if_pos hs]
 rfl
theorem Oi{a:DA}{τ t5:DS}{rs:List Ar}{ds:List PyData}(h:a τ=some (rs,t5))(k:Aq rs=some ds)(hz:ds.length<=1000):Aa a τ=some (.tuple ds,t5):=by
 unfold Aa
 rw[h]
 show(Aq rs).bind _=_
 rw[k]
 show(if ds.length<=sizeLine then _ else _)=_
 rw[if_pos (sz hz)]
theorem ZV{c:DT}{b:DB}{n:Nat}{τ t5:DS}(h:c τ=some (false,t5)):dWh c b (n+1) τ=some (.nx t5):=by
 rw[dWh,h];rfl
theorem ZU{c:DT}{b:DB}{n:Nat}{τ t5 t9:DS}(h:c τ=some (true,t5))(k:b t5=some (.nx t9)):dWh c b (n+1) τ=dWh c b n t9:=by
 rw[dWh,h]
 show(b t5).bind _=_
 rw[k];rfl
theorem Ku{i:Nat}{f:DX}{τ:DS}{xs:List PyData}{d:PyData}(hi:τ[i]?=some (some (.m xs)))(hf:f (τ.set i (some (.d (.list xs))))=some (d,τ.set i (some (.d (.list xs)))))(hd:Cb d=true)(hok:(τ.set i (some (.d (.list xs)))).all okM=true):Bo i f τ=some (d,τ):=by
 unfold Bo
 rw[hi]
 dsimp only
 rw[hf]
 dsimp only[Option.bind]
 rw[hd,hok,Bool.and_self,if_pos rfl,List.set_set]
 congr 2
 obtain⟨hlt,he⟩:=F'.mp hi
 rw[<- he,List.set_getElem_self]
def Az(al s:Str):Prop:=∀c∈s.cps.toList,c∈al.cps.toList
def alN:Str:="abcdefghijklmnopqrstuvwxyz0123456789"
def alW:Str:="0123456789abcdef-_"
def alS:Str:="#."
theorem Gb{al s:Str}(ha:PyData.strOk al=true)(h:Az al s):PyData.strOk s=true:=by
 unfold PyData.strOk at *
 rw[Array.all_eq_true_iff_forall_mem]at *
 exact fun c hc=>ha c (aw.mp (h c (aw.mpr hc)))
theorem ixA{al:Str}{m:Int}(h0:0<m)(hl:(al.length:Int)=m)(hz:m<=100)(v:Int):∃c,c∈al.cps.toList/\Hl (.str al) (.int (v % m))=some (.str ⟨#[c]⟩):=by
 have hk0:=ak v (show m≠0 by omega)
 have hk1:=aa v h0
 have e:al.cps.toList.length=al.length:=rfl
 have hk:(v % m).toNat<al.cps.toList.length:=by omega
 refine⟨al.cps.toList[(v % m).toNat],cS hk,?_⟩
 show(if al.length<=sizeLine then _ else _)=_
 rw[if_pos (sz (by omega))]
 unfold atI ixN
 rw[if_pos hk0,if_pos (by omega)]
 show(al.cps.toList[(v % m).toNat]?).map _=_
 rw[aX hk];rfl
theorem Y8{s:Str}{c:Nat}(h:s.length<=100):Cz (.str s) (.str ⟨#[c]⟩)=some (.str (s++(⟨#[c]⟩:Str))):=by
 show(if s.length+1<=sizeLine then _ else _)=_
 rw[if_pos (sz (by omega))]
theorem Nf(s:Str)(c:Nat):(s++(⟨#[c]⟩:Str)).length=s.length+1:=by
 show(s.cps++#[c]).size=_
 rw[Array.size_append];rfl
theorem Qh{al s:Str}{c:Nat}(h:Az al s)(hc:c∈al.cps.toList):Az al (s++(⟨#[c]⟩:Str)):=by
 intro x hx
 have:x∈(s.cps++#[c]).toList:=hx
 rw[af]at this
 rcases au.mp this with z|z
 ·exact h x z
 ·rw[aT.mp z];exact hc
theorem MX(al:Str):Az al "":=by
 intro c hc
 have:(Str.cps "").toList=[]:=∅
 rw[this]at hc;cases hc
def sgB(al:Str)(m:Int):DB:=AI (AJ (dOp Cz (AB 1) (dOp Hl (dC (.str al)) (dOp AW (AB 0) (dC (.int m))))) (dN 1)) (AJ (dOp Af (AB 0) (dC (.int m))) (dN 0))
theorem Mu{al:Str}{m:Int}(h0:0<m)(hl:(al.length:Int)=m)(hz:m<=100)(n:Int)(n0:0<=n)(n1:n<=50)(v:Int):∃(u:Int) (s:Str) (o:Option L),nM o/\(s.length:Int)=n/\Az al s /\
  Bn (dN 3) (sgB al m) ((rng 0 n.toNat).map PyData.int) [some (.d (.int v)),some (.d (.str "")),some (.d (.int n)),none]=some (.nx [some (.d (.int u)),some (.d (.str s)),some (.d (.int n)),o]):=by
 let st:Int->Str->Option L->DS:=fun u s o=>[some (.d (.int u)),some (.d (.str s)),some (.d (.int n)),o]
 have lp:∃t7,Bn (dN 3) (sgB al m) ((List.range n.toNat).map fun(k:Nat)=>PyData.int (k:Int)) (st v "" none)=some (.nx t7)/\∃u s o,nM o/\s.length=(List.range n.toNat).length/\Az al s/\t7=st u s o:=by
  refine Bv (fun(pre:List Nat) τ=>∃u s o,nM o/\s.length=pre.length/\Az al s/\τ=st u s o) ⟨v,"",none,Ao,∅,MX al,rfl⟩ ?_
  rintro pre k post τ hp ⟨u,s,o,ho,hr,hall,rfl⟩
  have hl':=DC hp
  rw[aq]at hl'
  let K:Option L:=some (.d (.int (k:Int)))
  obtain⟨c,hc,ej⟩:=ixA h0 hl hz u
  let s':=s++(⟨#[c]⟩:Str)
  have s1:AJ (dOp Cz (AB 1) (dOp Hl (dC (.str al)) (dOp AW (AB 0) (dC (.int m))))) (dN 1) (st u s K)=some (.nx (st u s' K)) :=
   AY (d:=.str s') (t5:=st u s K) (oQ (.str s) (.str ⟨#[c]⟩) (st u s K) rfl (oQ (.str al) (.int (u % m)) (st u s K) rfl (oQ (.int u) (.int m) (st u s K) rfl rfl (A9 h0)) ej) (Y8 (by omega))) rfl
  have s2:AJ (dOp Af (AB 0) (dC (.int m))) (dN 0) (st u s' K)=some (.nx (st (u / m) s' K)) :=
   AY (d:=.int (u / m)) (t5:=st u s' K) (oQ (.int u) (.int m) (st u s' K) rfl rfl (Bc h0 (by omega))) rfl
  exact⟨st u s K,_,Bs (o:=o) rfl ho,(AF s1).trans s2,u / m,s',K,Bz,by rw[Nf,T',hr];rfl,Qh hall hc,rfl⟩
 obtain⟨t7,e,u,s,o,ho,hl,hall,rfl⟩:=lp
 rw[<- GN]at e
 rw[aq]at hl
 exact⟨u,s,o,ho,by omega,hall,e⟩
theorem MQ(v:Int):∃(t:Tx) (w:Int) (ls:List L),Dj [.d (.int v)]=some (.tuple [eT t,.int w],ls)/\1<=t.1.length/\t.1.length<=8/\Az alN t.1:=by
 obtain⟨u,s,o,ho,hl,ha,e⟩:=Mu (al:=alN) (m:=36) (by decide) ∅ (by decide) (1+v % 8) (by omega) (by omega) (v / 8)
 refine⟨⟨s,Gb ∅ ha⟩,u,[.d (.int v)],?_,by show 1<=s.length;omega,by show s.length<=8;omega,ha⟩
 unfold Dj
 let I:Int->Option L:=fun i=>some (.d (.int i))
 let T:Option L:=some (.d (.str ""))
 refine AU (τ:=[I u,some (.d (.str s)),I (1+v % 8),o]) ?_ rfl rfl
 have z2:AJ (dOp Ag (dC (.int 1)) (dOp AW (AB 0) (dC (.int 8)))) (dN 2) [I v,T,none,none]=some (.nx [I v,T,I (1+v % 8),none]):=by
  have d:=A9 (i:=v) (j:=8) (by decide)
  walk_at "b|I,T,d"
 have z3:AJ (dOp Af (AB 0) (dC (.int 8))) (dN 0) [I v,T,I (1+v % 8),none]=some (.nx [I (v / 8),T,I (1+v % 8),none]):=by
  have d:=Bc (i:=v) (j:=8) (by decide) (by decide)
  walk_at "b|I,T,d"
 refine(AF rfl).trans ((AF z2).trans ((AF z3).trans ?_))
 exact(AF ((C2 (GP (n:=1+v % 8) (t5:=[I (v / 8),T,I (1+v % 8),none]) rfl (by omega) (by omega))).trans e)).trans rfl
theorem L3(v:Int):∃(t:Tx) (w:Int) (ls:List L),Di [.d (.int v)]=some (.tuple [eT t,.int w],ls)/\t.1.length<=6/\Az alW t.1:=by
 obtain⟨u,s,o,ho,hl,ha,e⟩:=Mu (al:=alW) (m:=18) (by decide) ∅ (by decide) (v % 7) (by omega) (by omega) (v / 7)
 refine⟨⟨s,Gb ∅ ha⟩,u,[.d (.int v)],?_,by show s.length<=6;omega,ha⟩
 unfold Di
 let I:Int->Option L:=fun i=>some (.d (.int i))
 let T:Option L:=some (.d (.str ""))
 refine AU (τ:=[I u,some (.d (.str s)),I (v % 7),o]) ?_ rfl rfl
 have z2:AJ (dOp AW (AB 0) (dC (.int 7))) (dN 2) [I v,T,none,none]=some (.nx [I v,T,I (v % 7),none]):=by
  have d:=A9 (i:=v) (j:=7) (by decide)
  walk_at "b|I,T,d"
 have z3:AJ (dOp Af (AB 0) (dC (.int 7))) (dN 0) [I v,T,I (v % 7),none]=some (.nx [I (v / 7),T,I (v % 7),none]):=by
  have d:=Bc (i:=v) (j:=7) (by decide) (by decide)
  walk_at "b|I,T,d"
 refine(AF rfl).trans ((AF z2).trans ((AF z3).trans ?_))
 exact(AF ((C2 (GP (n:=v % 7) (t5:=[I (v / 7),T,I (v % 7),none]) rfl (by omega) (by omega))).trans e)).trans rfl
theorem EI(v:Int):∃(x w:Int) (ls:List L),A1 [.d (.int v)]=some (.tuple [.int x,.int w],ls)/\-60<=x/\x<=60:=by
 have d1:=A9 (i:=v) (j:=6) (by decide)
 have d2:=Bc (i:=v) (j:=6) (by decide) (by decide)
 have d3:=A9 (i:=v / 6) (j:=121) (by decide)
 have d4:=A9 (i:=v / 6) (j:=12) (by decide)
 have d5:=Bc (i:=v) (j:=726) (by decide) (by decide)
 have d6:=Bc (i:=v) (j:=72) (by decide) (by decide)
 by_cases h:v % 6=0
 ·refine⟨v / 6 % 121-60,v / 726,[.d (.int v)],?_,by omega,by omega⟩
  have q:fEq (.int (v % 6)) (.int 0)=some (.bool true):=by rw[encI.fEq,decide_eq_true h]
  walk_at "b|A1,d1,d2,d3,d5,q"
 ·refine⟨v / 6 % 12-3,v / 72,[.d (.int v)],?_,by omega,by omega⟩
  have q:fEq (.int (v % 6)) (.int 0)=some (.bool false):=by rw[encI.fEq,decide_eq_false h]
  walk_at "b|A1,d1,d2,d4,d6,q"
theorem EJ(v m:Int)(m0:5<=m)(m1:m<=100):∃(x w:Int) (ls:List L),BO [.d (.int v),.d (.int m)]=some (.tuple [.int x,.int w],ls)/\1<=x/\x<=m:=by
 have d1:=A9 (i:=v) (j:=8) (by decide)
 have d2:=Bc (i:=v) (j:=8) (by decide) (by decide)
 have d3:=A9 (i:=v / 8) (j:=m) (by omega)
 have d4:=Bc (i:=v / 8) (j:=m) (by omega) (by omega)
 have d5:=A9 (i:=v / 8) (j:=5) (by decide)
 have d6:=Bc (i:=v) (j:=40) (by decide) (by decide)
 have g0:=ak (v / 8) (show m≠0 by omega)
 have g1:=aa (v / 8) (show 0<m by omega)
 by_cases h:v % 8=0
 ·refine⟨1+v / 8 % m,v / 8 / m,[.d (.int v),.d (.int m)],?_,by omega,by omega⟩
  have q:fEq (.int (v % 8)) (.int 0)=some (.bool true):=by rw[encI.fEq,decide_eq_true h]
  walk_at "b|BO,d1,d2,d3,d4,q"
 ·refine⟨1+v / 8 % 5,v / 40,[.d (.int v),.d (.int m)],?_,by omega,by omega⟩
  have q:fEq (.int (v % 8)) (.int 0)=some (.bool false):=by rw[encI.fEq,decide_eq_false h]
  walk_at "b|BO,d1,d2,d5,d6,q"
theorem LH(v:Int):∃(a b:Cl) (w:Int) (ls:List L),Bp [.d (.int v)]=some (.tuple [ec a,ec b,.int w],ls)/\OkF a/\OkF b:=by
 obtain⟨a,u,l1,e1,oa⟩:=HG v
 obtain⟨b,w,l2,e2,ob⟩:=HG (u / 3)
 have d1:=A9 (i:=u) (j:=3) (by decide)
 have d2:=Bc (i:=u) (j:=3) (by decide) (by decide)
 by_cases h:u % 3=0
 ·refine⟨a,(1,1),u / 3,[.d (.int v)],?_,oa,?_⟩
  ·have q:fEq (.int (u % 3)) (.int 0)=some (.bool true):=by rw[encI.fEq,decide_eq_true h]
   walk_at "a|Bp,e1,q,d1,d2"
   rfl
  ·have:=QJ (t:=1) (b:=1) (by decide) (by decide) (by decide) (by decide)
   rwa [show frm 1 1=(1,1) by decide]at this
 ·refine⟨a,b,w,[.d (.int v)],?_,oa,ob⟩
  have q:fEq (.int (u % 3)) (.int 0)=some (.bool false):=by rw[encI.fEq,decide_eq_false h]
  walk_at "a|Bp,e1,e2,q,d1,d2"
theorem YJ:∀rs:List Tx,fixDs (rs.map eT)=true:=encT.fixL
theorem JN(v:Int):∃(R:List Tx) (w:Nat) (v':Int) (ls:List L),CJ [.d (.int v)]=some (.tuple [.tuple (R.map eT),.int v'],ls)/\1<=R.length/\R.length<=8/\1<=w/\w<=8/\∀r∈R,r.1.length=w/\Az alS r.1:=by
 generalize hw:(1+v % 8:Int)=W
 generalize hh:(1+v / 8 % 8:Int)=Hh
 have w1:1<=W:=by omega
 have w2:W<=8:=by omega
 have h1:1<=Hh:=by omega
 have h2:Hh<=8:=by omega
 let I:Int->Option L:=fun i=>some (.d (.int i))
 let st:Int->List Tx->Option L->Option L->Option L->DS:=fun u R o4 o5 o6=>[I u,I W,I Hh,some (.m (R.map eT)),o4,o5,o6]
 let S:Str->Option L:=fun r=>some (.d (.str r))
 let Bi:DB:=AI (AJ (dOp Cz (AB 5) (dOp Hl (dC (.str "#.")) (dOp AW (AB 0) (dC (.int 2))))) (dN 5)) (AJ (dOp Af (AB 0) (dC (.int 2))) (dN 0))
 have inner:∀(u:Int) (R:List Tx) (o4 o6:Option L),nM o6->∃t7,Bn (dN 6) Bi ((List.range W.toNat).map fun(k:Nat)=>PyData.int (k:Int)) (st u R o4 (S "") o6)=some (.nx t7)/\∃u' r o,nM o/\r.length=(List.range W.toNat).length/\Az alS r/\t7=st u' R o4 (S r) o:=by
  intro u R o4 o6 n6
  refine Bv (fun(pre:List Nat) τ=>∃u' r o,nM o/\r.length=pre.length/\Az alS r/\τ=st u' R o4 (S r) o) ⟨u,"",o6,n6,∅,MX _,rfl⟩ ?_
  rintro pre k post τ hp ⟨u',r,o,ho,hr,hall,rfl⟩
  have hl:=DC hp
  rw[aq]at hl
  let K:Option L:=I (k:Int)
  let t5:=st u' R o4 (S r) K
  obtain⟨c,hc,ej⟩:=ixA (al:=alS) (m:=2) (by decide) ∅ (by decide) u'
  let r':=r++(⟨#[c]⟩:Str)
  have s1:AJ (dOp Cz (AB 5) (dOp Hl (dC (.str "#.")) (dOp AW (AB 0) (dC (.int 2))))) (dN 5) t5=some (.nx (st u' R o4 (S r') K)) :=
   AY (d:=.str r') (t5:=t5) (oQ (.str r) (.str ⟨#[c]⟩) t5 rfl (oQ (.str "#.") (.int (u' % 2)) t5 rfl (oQ (.int u') (.int 2) t5 rfl rfl (A9 (by decide))) ej) (Y8 (by omega))) rfl
  have s2:AJ (dOp Af (AB 0) (dC (.int 2))) (dN 0) (st u' R o4 (S r') K)=some (.nx (st (u' / 2) R o4 (S r') K)) :=
   AY (d:=.int (u' / 2)) (t5:=st u' R o4 (S r') K) (oQ (.int u') (.int 2) (st u' R o4 (S r') K) rfl rfl (Bc (by decide) (by decide))) rfl
  exact⟨t5,_,Bs (o:=o) rfl ho,(AF s1).trans s2,u' / 2,r',K,Bz,by rw[Nf,T',hr];rfl,Qh hall hc,rfl⟩
 have outer:∃t7,Bn (dN 4) (AI (AJ (dC (.str "")) (dN 5)) (AI (B0 (dR1 (AA (AB 1) AD)) (dN 6) Bi) (Av (dMt 3 Ah (AA (AB 5) AD))))) ((List.range Hh.toNat).map fun(k:Nat)=>PyData.int (k:Int)) (st (v / 64) [] none none none)=some (.nx t7)/\∃u R o4 o5 o6,nM o4/\nM o5/\nM o6/\R.length=(List.range Hh.toNat).length/\(∀r∈R,r.1.length=W.toNat/\Az alS r.1)/\t7=st u R o4 o5 o6:=by
  refine Bv (fun(pre:List Nat) τ=>∃u R o4 o5 o6,nM o4/\nM o5/\nM o6/\R.length=pre.length/\(∀r∈R,r.1.length=W.toNat/\Az alS r.1)/\τ=st u R o4 o5 o6) ⟨v / 64,[],none,none,none,Ao,Ao,Ao,rfl,(fun r hr=>by cases hr),rfl⟩ ?_
  rintro pre k post τ hp ⟨u,R,o4,o5,o6,n4,n5,n6,hR,hall,rfl⟩
  have hl:=DC hp
  rw[aq]at hl
  let K:Option L:=I (k:Int)
  have s1:AJ (dC (.str "")) (dN 5) (st u R K o5 o6)=some (.nx (st u R K (S "") o6)):=AY (d:=.str "") (t5:=st u R K o5 o6) rfl (Bs (o:=o5) rfl n5)
  obtain⟨t7,e,u',r,o,ho,hr,hal,rfl⟩:=inner u R K o6 n6
  rw[<- GN]at e
  let rt:Tx:=⟨r,Gb ∅ hal⟩
  have s2:B0 (dR1 (AA (AB 1) AD)) (dN 6) Bi (st u R K (S "") o6)=some (.nx (st u' R K (S r) o)):=(C2 (GP (n:=W) (t5:=st u R K (S "") o6) rfl (by omega) (by omega))).trans e
  have s3:Av (dMt 3 Ah (AA (AB 5) AD)) (st u' R K (S r) o)=some (.nx (st u' (R++[rt]) K (S r) o)):=by
   refine(OW (i:=3) (d:=eT rt) (xs:=R.map eT) (t5:=st u' R K (S r) o) rfl rfl (by rw[B'];omega)).trans ?_
   show some (Out.nx [_,_,_,some (.m (R.map eT++[eT rt])),_,_,_])=_
   rw[show R.map eT++[eT rt]=(R++[rt]).map eT by rw[bE];rfl]
  refine⟨st u R K o5 o6,st u' (R++[rt]) K (S r) o,Bs (o:=o4) rfl n4,(AF s1).trans ((AF s2).trans s3),u',R++[rt],K,S r,o,Bz,Bz,ho,by rw[T',T',hR];rfl,fun x hx=>?_,rfl⟩
  rcases au.mp hx with z|z
  ·exact hall x z
  ·rw[aT.mp z]
   rw[aq]at hr
   exact⟨hr,hal⟩
 obtain⟨t7,e,u,R,o4,o5,o6,n4,n5,n6,hR,hall,rfl⟩:=outer
 rw[<- GN]at e
 rw[aq]at hR
 unfold CJ
 let s0:DS:=[I v,none,none,none,none,none,none]
 let s1:DS:=[I v,I W,none,none,none,none,none]
 let s2:DS:=[I v,I W,I Hh,none,none,none,none]
 let s3:DS:=[I (v / 64),I W,I Hh,none,none,none,none]
 have z1:AJ (dOp Ag (dC (.int 1)) (dOp AW (AB 0) (dC (.int 8)))) (dN 1) s0=some (.nx s1) :=
  AY (d:=.int W) (t5:=s0) (oQ (.int 1) (.int (v % 8)) s0 rfl (oQ (.int v) (.int 8) s0 rfl rfl (A9 (by decide))) (by rw[<- hw];rfl)) rfl
 have z2:AJ (dOp Ag (dC (.int 1)) (dOp AW (dOp Af (AB 0) (dC (.int 8))) (dC (.int 8)))) (dN 2) s1=some (.nx s2) :=
  AY (d:=.int Hh) (t5:=s1) (oQ (.int 1) (.int (v / 8 % 8)) s1 rfl (oQ (.int (v / 8)) (.int 8) s1 (oQ (.int v) (.int 8) s1 rfl rfl (Bc (by decide) (by decide))) rfl (A9 (by decide))) (by rw[<- hh];rfl)) rfl
 have z3:AJ (dOp Af (AB 0) (dC (.int 64))) (dN 0) s2=some (.nx s3) :=
  AY (d:=.int (v / 64)) (t5:=s2) (oQ (.int v) (.int 64) s2 rfl rfl (Bc (by decide) (by decide))) rfl
 have z4:Gh 1 3 s3=some (.nx (st (v / 64) [] none none none)):=rfl
 refine⟨R,W.toNat,u,_,AU (τ:=st u R o4 o5 o6) ?_ rfl rfl,by omega,by omega,by omega,by omega,hall⟩
 refine(AF z1).trans ((AF z2).trans ((AF z3).trans ((AF z4).trans ?_)))
 refine(AF ((C2 (GP (n:=Hh) (t5:=st (v / 64) [] none none none) rfl (by omega) (by omega))).trans e)).trans (AZ (t5:=st u R o4 o5 o6) ?_)
 let l9:DS:=[I u,I W,I Hh,some (.d (.list (R.map eT))),o4,o5,o6]
 refine Wh (i:=3) (xs:=R.map eT) (t5:=l9) rfl ?_ ?_
 ·unfold Aa
  show((AA (AN Fg (AA (AB 3) AD)) (AA (AB 0) AD) l9).bind _)=_
  rw[acc (B9 (d:=.list (R.map eT)) (r:=.tuple (R.map eT)) rfl rfl) (acc (t5:=l9) (d:=.int u) rfl rfl)]
  rfl
 ·show((fixDs (R.map eT)&&(true&&true))&&(true&&(true&&(true&&(true&&(okM o4&&(okM o5&&(okM o6&&true))))))))=true
  rw[YJ,Cd n4,Cd n5,Cd n6];rfl
def Mp:Dz->Prop
 |.plate w h a b=>1<=w/\w<=12/\1<=h/\h<=12/\OkF a/\OkF b
 |.band w h a b=>-12<=w/\w<=12/\-12<=h/\h<=12/\OkF a/\OkF b
 |.word t a b=>t.1.length<=6/\Az alW t.1/\OkF a/\OkF b
 |.stencil R a b=>1<=R.length/\R.length<=8/\(∃w,1<=w/\w<=8/\∀r∈R,r.1.length=w/\Az alS r.1)/\OkF a/\OkF b
 |.group=>True
 |.glass a=>OkF a
 |.window w h x y=>1<=w/\w<=16/\1<=h/\h<=16/\-60<=x/\x<=60/\-60<=y/\y<=60
 |.turn q _=>0<=q/\q<=3
 |.tiles a b x y=>1<=a/\a<=3/\1<=b/\b<=3/\-20<=x/\x<=20/\-20<=y/\y<=20
 |.mask=>True
theorem inT(t:Tx)(ts:List Tx):fIn false (eT t) (.tuple (ts.map eT))=some (.bool (decide (t∈ts))):=by
 simp only[DL.fIn,encT.ok,encT.okL,encT.any,Bool.and_self,if_true,Bool.false_eq_true,if_false]
 exact congrArg (fun b=>some (PyData.bool b)) (decide_eq_decide.mpr bb)
theorem sk{i j:Nat}(hi:i<10)(hj:j<10)(h:i≠j){a:DB}{τ:DS}(e:τ[0]?=some (some (.d (eT (kS i))))):AQ (AE (dOp fEq (AB 0) (dC (eT (kS j))))) a AR τ=some (.nx τ):=by
 refine(Bm (t5:=τ) (tst (oQ (eT (kS i)) (eT (kS j)) τ (by unfold AB;rw[e]) rfl ?_))).trans rfl
 rw[encT.fEq,decide_eq_false fun z=>h (Io hi hj z)]
theorem tk{i:Nat}{a:DB}{τ:DS}(e:τ[0]?=some (some (.d (eT (kS i))))):AQ (AE (dOp fEq (AB 0) (dC (eT (kS i))))) a AR τ=a τ:=by
 refine FV (t5:=τ) (tst (oQ (eT (kS i)) (eT (kS i)) τ (by unfold AB;rw[e]) rfl ?_))
 rw[encT.fEq,decide_eq_true rfl]
theorem Mc{i:Nat}(hi:i<10)(v:Int):∃(d:Dz) (w:Int) (ls:List L),Ae [.d (eT (kS i)),.d (.int v)]=some (.tuple [eD d,.int w],ls)/\kz d=i/\Mp d:=by
 let I:Int->Option L:=fun i=>some (.d (.int i))
 let K:Option L:=some (.d (eT (kS i)))
 let N:Option L:=none
 let LS:List L:=[.d (eT (kS i)),.d (.int v)]
 let l5:DS:=[K,I v,N,N,N,N,N,N,N,N,N]
 have g1:AE (dOp (fIn false) (AB 0) (Aa (AA (dC (.str "group")) (AA (dC (.str "mask")) AD)))) l5=some (decide (kS i∈[kS 4,kS 9]),l5) :=
  tst (oQ (eT (kS i)) (.tuple ([kS 4,kS 9].map eT)) l5 rfl rfl (inT _ _))
 have g0:i≠4->i≠9->∀a:DB,AQ (AE (dOp (fIn false) (AB 0) (Aa (AA (dC (.str "group")) (AA (dC (.str "mask")) AD))))) a AR l5=some (.nx l5):=fun h4 h9 a=>by
  refine(Bm (t5:=l5) (g1.trans ?_)).trans rfl
  rw[decide_eq_false]
  intro z
  rcases Z'.mp z with z|z
  ·exact h4 (Io hi (by decide) z)
  ·exact h9 (Io hi (by decide) (aT.mp z))
 have g2:i=4\/i=9->Ae [.d (eT (kS i)),.d (.int v)]=some (.tuple [.tuple [],.int v],[.d (eT (kS i)),.d (.int v)]):=fun h=>by
  unfold Ae
  refine AU (τ:=l5) ((EL ((FV (t5:=l5) (g1.trans ?_)).trans rfl))) rfl rfl
  rw[decide_eq_true]
  rcases h with rfl|rfl
  ·exact L'
  ·exact O' _ L'
 have q1:i=4->∃(d:Dz) (w:Int) (ls:List L),Ae [.d (eT (kS i)),.d (.int v)]=some (.tuple [eD d,.int w],ls)/\kz d=i/\Mp d:=fun h=>⟨.group,v,_,g2 (.inl h),by rw[h];rfl,trivial⟩
 have q2:i=9->∃(d:Dz) (w:Int) (ls:List L),Ae [.d (eT (kS i)),.d (.int v)]=some (.tuple [eD d,.int w],ls)/\kz d=i/\Mp d:=fun h=>⟨.mask,v,_,g2 (.inr h),by rw[h];rfl,trivial⟩
 by_cases h4:i=4
 ·exact q1 h4
 by_cases h9:i=9
 ·exact q2 h9
 have G0:=g0 h4 h9
 by_cases h7:i=7
 ·subst h7
  have d1:=A9 (i:=v) (j:=4) (by decide)
  have d2:=Bc (i:=v) (j:=4) (by decide) (by decide)
  have d3:=A9 (i:=v / 4) (j:=2) (by decide)
  have d4:=Bc (i:=v) (j:=8) (by decide) (by decide)
  have d5:fEq (.int (v / 4 % 2)) (.int 1)=some (.bool (decide (v / 4 % 2=1))):=encI.fEq _ _
  refine⟨.turn (v % 4) (decide (v / 4 % 2=1)),v / 8,LS,?_,rfl,by show 0<=v % 4;omega,by show v % 4<=3;omega⟩
  unfold Ae
  refine AU (τ:=l5) ((AF (G0 _)).trans (EL ((tk (i:=7) (τ:=l5) rfl).trans (AZ (t5:=l5) ?_)))) rfl rfl
  walk_at "b|l5,K,I,N,d1,d2,d3,d4,d5,eD"
 have G1:∀a:DB,AQ (AE (dOp fEq (AB 0) (dC (.str "turn")))) a AR l5=some (.nx l5):=fun a=>sk hi (j:=7) (by decide) h7 rfl
 by_cases h8:i=8
 ·subst h8
  have d1:=A9 (i:=v) (j:=3) (by decide)
  have d2:=Bc (i:=v) (j:=3) (by decide) (by decide)
  have d3:=A9 (i:=v / 3) (j:=3) (by decide)
  have d4:=Bc (i:=v) (j:=9) (by decide) (by decide)
  have d5:=A9 (i:=v / 9) (j:=41) (by decide)
  have d6:=Bc (i:=v) (j:=369) (by decide) (by decide)
  have d7:=A9 (i:=v / 369) (j:=41) (by decide)
  have d8:=Bc (i:=v) (j:=15129) (by decide) (by decide)
  have d9:=A9 (i:=v / 15129) (j:=4) (by decide)
  have da:=Bc (i:=v) (j:=60516) (by decide) (by decide)
  generalize ha:1+v % 3=a
  generalize hb:1+v / 3 % 3=b
  generalize hx:v / 9 % 41-20=x
  generalize hy:v / 369 % 41-20=y
  have db:=A9 (i:=x) (j:=7) (by decide)
  have dc:=A9 (i:=y) (j:=7) (by decide)
  let T:Int->Int->Option L:=fun x y=>some (.d (.tuple [.int a,.int b,.int x,.int y]))
  let t5:Int->Int->DS:=fun x y=>[K,I v,T x y,N,N,N,N,N,N,N,N]
  have s1:AJ (Aa (AA (dOp Ag (dC (.int 1)) (dOp AW (AB 1) (dC (.int 3)))) (AA (dOp Ag (dC (.int 1)) (dOp AW (dOp Af (AB 1) (dC (.int 3))) (dC (.int 3)))) (AA (dOp BJ (dOp AW (dOp Af (AB 1) (dC (.int 9))) (dC (.int 41))) (dC (.int 20))) (AA (dOp BJ (dOp AW (dOp Af (AB 1) (dC (.int 369))) (dC (.int 41))) (dC (.int 20))) AD))))) (dN 2) l5=some (.nx (t5 x y)):=by
   walk_at "b|l5,t5,T,K,I,N,d1,d2,d3,d4,d5,d6,d7,ha,hb,hx,hy"
  have fin:∀x y:Int,AL (Aa (AA (AB 2) (AA (dOp Af (AB 1) (dC (.int 60516))) AD))) (t5 x y)=some (.rt (.tuple [.tuple [.int a,.int b,.int x,.int y],.int (v / 60516)]) (t5 x y)):=fun x y=>by
   walk_at "b|l5,t5,T,K,I,N,da"
  by_cases hp:v / 15129 % 4>0
  ·refine⟨.tiles a b (x % 7) (y % 7),v / 60516,LS,?_,rfl,?_⟩
   ·unfold Ae
    refine AU (τ:=t5 (x % 7) (y % 7)) ((AF (G0 _)).trans ((AF (G1 _)).trans (EL ((tk (i:=8) (τ:=l5) rfl).trans ((AF s1).trans ((AF (t5:=t5 (x % 7) (y % 7)) ?_).trans (fin _ _))))))) rfl rfl
    refine(FV (t5:=t5 x y) ?_).trans ?_
    ·walk_at "b|t5,T,K,I,N,d8,d9,hp,decide_true"
    ·have e1:Fj (AB 2) E1 (dPt (dC (.int 2))) (t5 x y)=some (.tuple [.int a,.int b],t5 x y):=rfl
     refine AY (d:=.tuple [.int a,.int b,.int (x % 7),.int (y % 7)]) (t5:=t5 x y) (op2 e1 (y:=.tuple [.int (x % 7),.int (y % 7)]) (t9:=t5 x y) ?_ rfl) rfl
     walk_at "b|t5,T,K,I,N,db,dc"
   ·exact⟨by omega,by omega,by omega,by omega,by omega,by omega,by omega,by omega⟩
  ·refine⟨.tiles a b x y,v / 60516,LS,?_,rfl,?_⟩
   ·unfold Ae
    refine AU (τ:=t5 x y) ((AF (G0 _)).trans ((AF (G1 _)).trans (EL ((tk (i:=8) (τ:=l5) rfl).trans ((AF s1).trans ((AF (t5:=t5 x y) ?_).trans (fin _ _))))))) rfl rfl
    refine(Bm (t5:=t5 x y) ?_).trans rfl
    walk_at "b|t5,T,K,I,N,d8,d9,hp,decide_false"
   ·exact⟨by omega,by omega,by omega,by omega,by omega,by omega,by omega,by omega⟩
 have G2:∀a:DB,AQ (AE (dOp fEq (AB 0) (dC (.str "tiles")))) a AR l5=some (.nx l5):=fun a=>sk hi (j:=8) (by decide) h8 rfl
 by_cases h6:i=6
 ·subst h6
  obtain⟨w,v1,l1,e1,w0,w1⟩:=EJ v 16 (by decide) (by decide)
  obtain⟨h,v2,l2,e2,h0,h1⟩:=EJ v1 16 (by decide) (by decide)
  obtain⟨x,v3,l3,e3,x0,x1⟩:=EI v2
  obtain⟨y,v4,l4,e4,y0,y1⟩:=EI v3
  refine⟨.window w h x y,v4,LS,?_,rfl,w0,w1,h0,h1,x0,x1,y0,y1⟩
  unfold Ae
  let st:Int->Option L->Option L->Option L->Option L->DS:=fun v a b c d=>[K,I v,N,a,b,c,d,N,N,N,N]
  refine AU (τ:=st v4 (I w) (I h) (I x) (I y)) ((AF (G0 _)).trans ((AF (G1 _)).trans ((AF (G2 _)).trans (EL ((tk (i:=6) (τ:=l5) rfl).trans ?_))))) rfl rfl
  refine(AF (t5:=st v1 (I w) N N N) (AY (cQ l5 [.int v,.int 16] rfl rfl e1) rfl)).trans ?_
  refine(AF (t5:=st v2 (I w) (I h) N N) (AY (cQ (st v1 (I w) N N N) [.int v1,.int 16] rfl rfl e2) rfl)).trans ?_
  refine(AF (t5:=st v3 (I w) (I h) (I x) N) (AY (cQ (st v2 (I w) (I h) N N) [.int v2] rfl rfl e3) rfl)).trans ?_
  exact(AF (t5:=st v4 (I w) (I h) (I x) (I y)) (AY (cQ (st v3 (I w) (I h) (I x) N) [.int v3] rfl rfl e4) rfl)).trans rfl
 have G3:∀a:DB,AQ (AE (dOp fEq (AB 0) (dC (.str "window")))) a AR l5=some (.nx l5):=fun a=>sk hi (j:=6) (by decide) h6 rfl
 obtain⟨p,q,v',lp,ep,op,oq⟩:=LH v
 let A:Option L:=some (.d (ec p))
 let B:Option L:=some (.d (ec q))
 let st:Int->Option L->Option L->Option L->Option L->DS:=fun v a b c d=>[K,I v,N,a,b,N,N,A,B,c,d]
 let t5:=st v' N N N N
 have P:AJ (AH Bp (AA (AB 1) AD)) (dGT (AM (dN 7) (AM (dN 8) (AM (dN 1) Au)))) l5=some (.nx t5):=AY (cQ l5 [.int v] rfl rfl ep) rfl
 by_cases h5:i=5
 ·subst h5
  refine⟨.glass q,v',LS,?_,rfl,oq⟩
  unfold Ae
  exact AU (τ:=t5) ((AF (G0 _)).trans ((AF (G1 _)).trans ((AF (G2 _)).trans ((AF (G3 _)).trans ((AF P).trans (EL ((tk (i:=5) (τ:=t5) rfl).trans rfl))))))) rfl rfl
 have G5:∀a:DB,AQ (AE (dOp fEq (AB 0) (dC (.str "glass")))) a AR t5=some (.nx t5):=fun a=>sk hi (j:=5) (by decide) h5 rfl
 by_cases hh:i=0
 ·subst hh
  obtain⟨w,v1,l1,e1,w0,w1⟩:=EJ v' 12 (by decide) (by decide)
  obtain⟨h,v2,l2,e2,h0,h1⟩:=EJ v1 12 (by decide) (by decide)
  refine⟨.plate w h p q,v2,LS,?_,rfl,w0,w1,h0,h1,op,oq⟩
  unfold Ae
  refine AU (τ:=st v2 (I w) (I h) N N) ((AF (G0 _)).trans ((AF (G1 _)).trans ((AF (G2 _)).trans ((AF (G3 _)).trans ((AF P).trans ((AF (G5 _)).trans (EL ((tk (i:=0) (τ:=t5) rfl).trans ?_)))))))) rfl rfl
  refine(AF (t5:=st v1 (I w) N N N) (AY (cQ t5 [.int v',.int 12] rfl rfl e1) rfl)).trans ?_
  exact(AF (t5:=st v2 (I w) (I h) N N) (AY (cQ (st v1 (I w) N N N) [.int v1,.int 12] rfl rfl e2) rfl)).trans rfl
 have G6:∀a:DB,AQ (AE (dOp fEq (AB 0) (dC (.str "plate")))) a AR t5=some (.nx t5):=fun a=>sk hi (j:=0) (by decide) hh rfl
 by_cases h1:i=1
 ·subst h1
  have d1:=A9 (i:=v') (j:=25) (by decide)
  have d2:=Bc (i:=v') (j:=25) (by decide) (by decide)
  have d3:=A9 (i:=v' / 25) (j:=25) (by decide)
  have d4:=Bc (i:=v') (j:=625) (by decide) (by decide)
  refine⟨.band (v' % 25-12) (v' / 25 % 25-12) p q,v' / 625,LS,?_,rfl,by omega,by omega,by omega,by omega,op,oq⟩
  unfold Ae
  refine AU (τ:=t5) ((AF (G0 _)).trans ((AF (G1 _)).trans ((AF (G2 _)).trans ((AF (G3 _)).trans ((AF P).trans ((AF (G5 _)).trans ((AF (G6 _)).trans (EL ((tk (i:=1) (τ:=t5) rfl).trans (AZ (t5:=t5) ?_)))))))))) rfl rfl
  walk_at "b|t5,st,K,I,N,A,B,d1,d2,d3,d4,eD"
 have G7:∀a:DB,AQ (AE (dOp fEq (AB 0) (dC (.str "band")))) a AR t5=some (.nx t5):=fun a=>sk hi (j:=1) (by decide) h1 rfl
 by_cases h2:i=2
 ·subst h2
  obtain⟨t,v1,l1,e1,t6,ta⟩:=L3 v'
  refine⟨.word t p q,v1,LS,?_,rfl,t6,ta,op,oq⟩
  unfold Ae
  refine AU (τ:=st v1 N N (some (.d (eT t))) N) ((AF (G0 _)).trans ((AF (G1 _)).trans ((AF (G2 _)).trans ((AF (G3 _)).trans ((AF P).trans ((AF (G5 _)).trans ((AF (G6 _)).trans ((AF (G7 _)).trans (EL ((tk (i:=2) (τ:=t5) rfl).trans ?_)))))))))) rfl rfl
  exact(AF (t5:=st v1 N N (some (.d (eT t))) N) (AY (cQ t5 [.int v'] rfl rfl e1) rfl)).trans rfl
 have G8:∀a:DB,AQ (AE (dOp fEq (AB 0) (dC (.str "word")))) a AR t5=some (.nx t5):=fun a=>sk hi (j:=2) (by decide) h2 rfl
 have h3:i=3:=by omega
 subst h3
 obtain⟨R,w,v1,l1,e1,r1,r2,w1,w2,hr⟩:=JN v'
 refine⟨.stencil R p q,v1,LS,?_,rfl,r1,r2,⟨w,w1,w2,hr⟩,op,oq⟩
 unfold Ae
 refine AU (τ:=st v1 N N N (some (.d (.tuple (R.map eT))))) ((AF (G0 _)).trans ((AF (G1 _)).trans ((AF (G2 _)).trans ((AF (G3 _)).trans ((AF P).trans ((AF (G5 _)).trans ((AF (G6 _)).trans ((AF (G7 _)).trans ((AF (G8 _)).trans ?_))))))))) rfl rfl
 exact(AF (t5:=st v1 N N N (some (.d (.tuple (R.map eT))))) (AY (cQ t5 [.int v'] rfl rfl e1) rfl)).trans rfl
theorem lcg{α:Type}{enc:α->PyData}{rs:List α}{τ:DS}{fr:List Nat}{it:DI}{ex:DS}{c:DT}{e:DX}(p:α->Bool)(f:α->PyData)(h:it τ=some (rs.map enc,τ))(hz:rs.length<=1000)(hm:(fr.all fun j=>!isM τ j)=true)(hb:Ho 1 fr τ=none::ex)
  (hc:∀r∈rs,c (some (.d (enc r))::ex)=some (p r,some (.d (enc r))::ex)) (he:∀r∈rs,p r=true->e (some (.d (enc r))::ex)=some (f r,some (.d (enc r))::ex)):dLC 1 fr it (dN 0) c e τ=some (.list ((rs.filter p).map f),τ):=by
 obtain ⟨l6, el⟩ := Hu (enc := enc) (g := dN 0) (c := c) (e := e) (fun τ => ∃ o1, nM o1 /\ τ = o1 :: ex) p f (xs := rs) (acc := []) (τ := none :: ex) ⟨none, Ao, rfl⟩ (by
  rintro x τ hx ⟨o1,n1,rfl⟩
  exact⟨some (.d (enc x))::ex,some (.d (enc x))::ex,Bs (o:=o1) rfl n1,hc x hx,fun _=>⟨_,Bz,rfl⟩,fun hp=>⟨some (.d (enc x))::ex,he x hx hp,_,Bz,rfl⟩⟩)
 rw[bc]at el
 exact QR (ds:=rs.map enc) (t5:=τ) (l6:=l6) h (by rw[B'];exact sz hz) hm (by rw[hb];exact el)
theorem BM{α:Type}(l:List α):l.filter (fun _=>true)=l:=List.filter_eq_self.mpr fun _ _=>rfl
structure OkRow(r:Rz):Prop where
 n1:1<=r.n.1.length
 n8:r.n.1.length<=8
 na:Az alN r.n.1
 x0:-60<=r.x
 x1:r.x<=60
 y0:-60<=r.y
 y1:r.y<=60
 d:Mp r.d
def OkR:List Rz->Prop
 |[]=>True
 |r::a=>OkR a/\OkRow r/\(∀q∈a,q.n≠r.n)/\(r.h=t0\/∃q∈a,q.n=r.h)
def hsR:List Rz->Tx->List Tx
 |[],_=>[]
 |r::a,n=>if r.n=n then n::hsR a r.h else hsR a n
def MY(rs:List Rz)(t:Tx):Option Rz:=rs.find? fun r=>decide (r.n=t)
theorem OkRow.ne{r:Rz}(h:OkRow r):r.n≠t0:=fun z=>by
 have:=h.n1
 rw[z]at this
 exact absurd this ∅
theorem OkR.all{a:List Rz}(ok:OkR a):∀r∈a,OkRow r:=by
 induction a with
 |nil=>intro r hr;cases hr
 |cons q a ih =>
  intro r hr
  rcases Z'.mp hr with h|h
  ·rw[h];exact ok.2.1
  ·exact ih ok.1 r h
theorem OkR.suf{p q:List Rz}(ok:OkR (p++q)):OkR q:=by
 induction p with
 |nil=>exact ok
 |cons x p ih=>exact ih ok.1
theorem OkR.inj{a:List Rz}(ok:OkR a):∀r∈a,∀q∈a,r.n=q.n->r=q:=by
 induction a with
 |nil=>intro r hr;cases hr
 |cons x a ih =>
  intro r hr q hq e
  rcases Z'.mp hr with h1|h1<;>rcases Z'.mp hq with h2|h2
  ·rw[h1,h2]
  ·rw[h1]at e;exact absurd e.symm (ok.2.2.1 q h2)
  ·rw[h2]at e;exact absurd e (ok.2.2.1 r h1)
  ·exact ih ok.1 r h1 q h2 e
theorem QC:∀{a:List Rz},OkR a->hsR a t0=[]
 |[],_=>rfl
 |r::a,⟨h,o,_⟩=>by
  unfold hsR
  rw[if_neg o.ne];exact QC h
abbrev OkZ(rs:List Rz):Prop:=OkR rs.reverse
theorem QK{rs:List Rz}(ok:OkZ rs){r:Rz}(hr:r∈rs):MY rs r.n=some r:=by
 unfold MY
 cases e:rs.find? fun q=>decide (q.n=r.n) with
 |none=>exact absurd (List.find?_eq_none.mp e r hr) (by simp)
 |some q =>
  have h1:=List.find?_some e
  have h2:=List.mem_of_find?_eq_some e
  rw[OkR.inj ok q (ae.mpr h2) r (ae.mpr hr) (of_decide_eq_true h1)]
theorem QL{rs:List Rz}{n:Tx}(h:∀q∈rs,q.n≠n):MY rs n=none:=List.find?_eq_none.mpr fun q hq=>by simpa using h q hq
def kvZ(rs:List Rz):List (PyData×PyData):=rs.map fun r=>(eT r.n,eZ r)
theorem Km(t:Tx):∀rs:List Rz,Fd (kvZ rs) t.1=(MY rs t).map eZ
 |[]=>rfl
 |r::rs=>by
  show(if r.n.1=t.1 then some (eZ r) else Fd (kvZ rs) t.1)=_
  unfold MY
  rw[cA]
  by_cases h:r.n=t
  ·rw[if_pos (by rw[h]),decide_eq_true h];rfl
  ·rw[if_neg (fun z=>h (cX z)),decide_eq_false h];exact Km t rs
theorem UK{rs:List Rz}{r:Rz}(h:∀q∈rs,q.n≠r.n):ME (kvZ rs) r.n.1 (eZ r)=kvZ (rs++[r]):=by
 unfold ME
 rw[Km,QL h]
 show(if (none:Option PyData).isSome=true then _ else _)=_
 rw[if_neg (by decide)]
 unfold kvZ
 rw[bE];rfl
theorem Oz{rs pre post:List Rz}{r:Rz}(ok:OkZ rs)(e:rs=pre++r::post):∀q∈pre,q.n≠r.n:=by
 have:OkR (post.reverse++(r::pre.reverse)):=by
  have:=ok
  unfold OkZ at this
  rw[e]at this
  simpa using this
 exact fun q hq=>this.suf.2.2.1 q (ae.mpr hq)
theorem VS(a b:Tx):fNe (eT a) (eT b)=some (.bool (!decide (a=b))):=encT.fNe a b
theorem Gu(a b:Tx):fEq (eT a) (eT b)=some (.bool (decide (a=b))):=encT.fEq a b
theorem RA{i:Nat}{e k:DX}{τ t5 t9:DS}{d:PyData}{x:Str}{kv0 kvs:List (PyData×PyData)}(he:e τ=some (d,t5))(h1:t5[i]?=some (some (.g (.dict kv0))))(hk:k t5=some (.str x,t9))(h2:t9[i]?=some (some (.g (.dict kvs))))(hf:Cb d=true)(hz:kvs.length<=1000) :
  JB i e k τ=some (.nx (t9.set i (some (.g (.dict (ME kvs x d)))))):=by
 unfold JB
 rw[he]
 dsimp only[Option.bind]
 rw[h1]
 dsimp only
 rw[hk]
 dsimp only
 rw[h2]
 dsimp only
 rw[if_pos ⟨hf,cK hz (by decide)⟩]
theorem VD{i:Nat}{f:DX}{τ t5:DS}{x:Str}{kvs:List (PyData×PyData)}(hf:f τ=some (.str x,t5))(h:t5[i]?=some (some (.g (.dict kvs)))):Lq false f i τ=some (.bool (Fd kvs x).isSome,t5):=by
 unfold Lq
 rw[hf]
 dsimp only[Option.bind]
 rw[h]
 dsimp only
 rw[Bool.false_bne]
theorem U7{i:Nat}{f:DX}{τ t5:DS}{x:Str}{kv0 kvs:List (PyData×PyData)}{d:PyData}(h0:τ[i]?=some (some (.g (.dict kv0))))(hf:f τ=some (.str x,t5))(h:t5[i]?=some (some (.g (.dict kvs))))(hd:Fd kvs x=some d):Lp i f τ=some (d,t5):=by
 unfold Lp
 rw[h0]
 dsimp only
 rw[hf]
 dsimp only[Option.bind]
 rw[h]
 dsimp only
 rw[hd];rfl
theorem Wz{c:DT}{b:DB}{n:Nat}{τ:DS}{o:Option Out}(h:dWh c b n τ=o):Fh (fun _=>n) c b τ=o:=h
theorem S5{rs:List Rz}(ok:OkZ rs)(hl:rs.length<=40){a:Tx}(ha:a=t0\/∃q∈rs,q.n=a):∃ls,Ez [.d (.list (rs.map eZ)),.d (eT a)]=some (.list ((hsR rs.reverse a).map eT),ls):=by
 let R:Option L:=some (.d (.list (rs.map eZ)))
 let T:Tx->Option L:=fun a=>some (.d (eT a))
 let M:List Tx->Option L:=fun l=>some (.m (l.map eT))
 let G:List Rz->Option L:=fun l=>some (.g (.dict (kvZ l)))
 let st:List Rz->Option L->DS:=fun l o=>[R,T a,M [],G l,o]
 have lp:∃t7,Bn (dN 4) (JB 3 (AB 4) (dOp AK (AB 4) (dC (.int 0)))) (rs.map eZ) (st [] none)=some (.nx t7)/\∃o,nM o/\t7=st rs o:=by
  refine Bv (fun pre τ=>∃o,nM o/\τ=st pre o) ⟨none,Ao,rfl⟩ ?_
  rintro pre r post τ e ⟨o,ho,rfl⟩
  have hz:=DC e
  refine⟨st pre (some (.d (eZ r))),st (pre++[r]) (some (.d (eZ r))),Bs (o:=o) rfl ho,?_,_,Bz,rfl⟩
  refine(RA (d:=eZ r) (x:=r.n.1) (kv0:=kvZ pre) (kvs:=kvZ pre) (t5:=st pre (some (.d (eZ r)))) (t9:=st pre (some (.d (eZ r)))) rfl rfl (oQ (eZ r) (.int 0) (st pre (some (.d (eZ r)))) rfl rfl rfl) rfl (encZ.fix r) ?_).trans ?_
  ·rw[show(kvZ pre).length=pre.length from B' ..];omega
  ·rw[UK (Oz ok e)];rfl
 obtain⟨t7,e1,o,ho,rfl⟩:=lp
 let C:DT:=BI (AE (dOp fNe (AB 1) (dC (.str "")))) (AE (Lq false (AB 1) 3))
 let B:DB:=AI (Av (dMt 2 Ah (AA (AB 1) AD))) (AJ (dOp AK (Lp 3 (AB 1)) (dC (.int 1))) (dN 1))
 let sw:Tx->List Tx->DS:=fun a l=>[R,T a,M l,G rs,o]
 have cT:∀b l,C (sw b l)=some (!decide (b=t0)&&(MY rs b).isSome,sw b l):=fun b l=>by
  refine K2 (tst (oQ (eT b) (eT t0) (sw b l) rfl rfl (VS b t0))) (tst ?_)
  rw[VD (x:=b.1) (kvs:=kvZ rs) (t5:=sw b l) rfl rfl,Km,bq]
 have wl:∀(ah post:List Rz) (b:Tx) (l:List Tx) (n:Nat),rs.reverse=post++ah->(b=t0\/∃q∈ah,q.n=b)->ah.length<n->l.length+ah.length<=60->∃b',dWh C B n (sw b l)=some (.nx (sw b' (l++hsR ah b))):=by
  have stop:∀(ah:List Rz) (l:List Tx) (n:Nat),OkR ah->0<n->∃b',dWh C B n (sw t0 l)=some (.nx (sw b' (l++hsR ah t0))):=fun ah l n oa hn=>by
   obtain⟨n,rfl⟩:∃m,n=m+1:=⟨n-1,by omega⟩
   refine⟨t0,?_⟩
   rw[QC oa,bD]
   refine ZV (t5:=sw t0 l) ?_
   rw[cT,decide_eq_true rfl];rfl
  intro ah
  induction ah with
  |nil =>
   intro post b l n e hb hn _
   rcases hb with rfl|⟨q,hq,_⟩
   ·exact stop [] l n trivial (by omega)
   ·cases hq
  |cons r ah ih =>
   intro post b l n e hb hn hz
   have okr:OkR (r::ah):=(show OkR (post++r::ah) from e▸ok).suf
   rcases hb with rfl|⟨q,hq,hqb⟩
   ·exact stop (r::ah) l n okr (by omega)
   simp only[List.length_cons]at hn hz
   by_cases h:r.n=b
   ·obtain⟨n,rfl⟩:∃m,n=m+1:=⟨n-1,by omega⟩
    have hr:r∈rs:=ae.mp (e▸aQ _ L')
    have hf:MY rs b=some r:=h▸QK ok hr
    obtain⟨b',e2⟩:=ih (post++[r]) r.h (l++[b]) n (by rw[e];simp) okr.2.2.2 (by omega) (by rw[T'];simp only[List.length_cons,List.length_nil];omega)
    refine⟨b',(ZU (t5:=sw b l) (t9:=sw r.h (l++[b])) ?_ ?_).trans (e2.trans ?_)⟩
    ·rw[cT,hf,decide_eq_false (h▸okr.2.1.ne)];rfl
    ·have s1:Av (dMt 2 Ah (AA (AB 1) AD)) (sw b l)=some (.nx (sw b (l++[b]))):=by
      refine(OW (i:=2) (d:=eT b) (xs:=l.map eT) (t5:=sw b l) rfl rfl (by rw[B'];omega)).trans ?_
      show some (Out.nx [R,T b,some (.m (l.map eT++[eT b])),G rs,o])=_
      rw[show l.map eT++[eT b]=(l++[b]).map eT by rw[bE];rfl]
     refine(AF s1).trans (AY (d:=eT r.h) (t5:=sw b (l++[b])) (oQ (eZ r) (.int 1) (sw b (l++[b])) (U7 (x:=b.1) (kv0:=kvZ rs) (kvs:=kvZ rs) (t5:=sw b (l++[b])) rfl rfl rfl (by rw[Km,hf];rfl)) rfl rfl) rfl)
    ·rw[show hsR (r::ah) b=b::hsR ah r.h from by rw[hsR,if_pos h],bN]
     rfl
   ·have:∃q∈ah,q.n=b:=by
     rcases Z'.mp hq with rfl|hq
     ·exact absurd hqb h
     ·exact⟨q,hq,hqb⟩
    obtain⟨b',e2⟩:=ih (post++[r]) b l n (by rw[e];simp) (.inr this) (by omega) (by omega)
    refine⟨b',e2.trans ?_⟩
    rw[show hsR (r::ah) b=hsR ah b from by rw[hsR,if_neg h]]
 obtain⟨b',e2⟩:=wl rs.reverse [] a [] 100 rfl (ha.imp id fun⟨q,hq,e⟩=>⟨q,ae.mpr hq,e⟩) (by rw[cF];omega) (by rw[cF,List.length_nil];omega)
 rw[bc]at e2
 refine⟨[.d (.list (rs.map eZ)),.d (eT a)],?_⟩
 unfold Ez
 refine AU (τ:=sw b' (hsR rs.reverse a)) ?_ rfl rfl
 exact(AF (t5:=[R,T a,M [],none,none]) rfl).trans ((AF (t5:=st [] none) rfl).trans ((AF ((C2 (ds:=rs.map eZ) (t5:=st [] none) rfl).trans e1)).trans ((AF (t5:=sw b' (hsR rs.reverse a)) (Wz e2)).trans rfl)))
theorem BW{α:Type}{enc:α->PyData}{xs:List α}{k:Int}(h0:0<=k)(h1:k<(xs.length:Int)):∃a,atI (xs.map enc) k=some (enc a)/\xs[k.toNat]?=some a:=by
 have hk:k.toNat<xs.length:=by omega
 refine⟨xs[k.toNat],?_,aX hk⟩
 unfold atI ixN
 rw[B',if_pos h0,if_pos h1]
 simp[hk]
theorem Ss{α:Type}{enc:α->PyData}{xs:List α}(h:0<xs.length):∃a∈xs,atI (xs.map enc) (-1)=some (enc a):=by
 have hk:xs.length-1<xs.length:=by omega
 refine⟨xs[xs.length-1],cS hk,?_⟩
 unfold atI ixN
 rw[B',if_neg (by decide),if_pos (by omega)]
 show(xs.map enc)[((-1:Int)+(xs.length:Int)).toNat]?=_
 rw[show((-1:Int)+(xs.length:Int)).toNat=xs.length-1 by omega]
 simp[hk]
def KH:List Tx:=[kS 4,kS 5,kS 6,kS 7,kS 8,kS 9]
def KA:List Nat:=[0,1,2,3,0,3,4,5,6,7,8,9]
theorem Rk{τ:DS}:Fj (AH Ci AD) (dPt (dC (.int 6))) E1 τ=some (.tuple (KH.map eT),τ):=rfl
theorem Uz{i:Nat}(hi:i<10):kS i∈KH↔4<=i:=by
 have:∀i:Fin 10,decide (kS i∈KH)=decide (4<=i.1):=∅
 have:=this ⟨i,hi⟩
 rwa [decide_eq_decide]at this
theorem inL(t:Tx)(ts:List Tx):fIn false (eT t) (.list (ts.map eT))=some (.bool (decide (t∈ts))) :=
 (encT.fIn t ts).trans (congrArg (fun b=>some (PyData.bool b)) (decide_eq_decide.mpr bb))
theorem Zv(t:Tx)(ts:List Tx):fIn true (eT t) (.list (ts.map eT))=some (.bool (!decide (t∈ts))) :=
 (encT.fNotIn t ts).trans (congrArg (fun b=>some (PyData.bool (!b))) (decide_eq_decide.mpr bb))
theorem Lz{rs:List Rz}(ok:OkZ rs)(hl:rs.length<=40)(v:Int):∃(r:Rz) (w:Int) (ls:List L),Cg [.d (.list (rs.map eZ)),.d (.int v)]=some (.tuple [eZ r,.int w],ls)/\OkRow r /\
  (r.h=t0\/∃q∈rs,q.n=r.h/\4<=kz q.d/\(hsR rs.reverse q.n).length<7)/\(kz r.d=8->∀q∈rs,q.n∈hsR rs.reverse r.h->kz q.d≠8):=by
 let D:PyData:=.list (rs.map eZ)
 let R:Option L:=some (.d D)
 let I:Int->Option L:=fun i=>some (.d (.int i))
 let T:Tx->Option L:=fun a=>some (.d (eT a))
 let M:List Tx->Option L:=fun l=>some (.m (l.map eT))
 obtain⟨nm,u,l1,e1,n1,n8,na⟩:=MQ v
 let p:Rz->Bool:=fun r=>decide (kS (kz r.d)∈KH)&&decide (((hsR rs.reverse r.n).length:Int)<7)
 let hsO:List Rz->List Tx:=fun l=>t0::(l.filter p).map (·.n)
 let ex:DS:=[none,none,none,none,none,none]
 let s3:List Tx->Option L->DS:=fun hs o4=>R::I u::T nm::M hs::o4::none::ex
 have lp:∃t7,Bn (dN 4) (AQ (BI (AE (dOp (fIn false) (dOp AK (AB 4) (dC (.int 5))) (Fj (AH Ci AD) (dPt (dC (.int 6))) E1))) (AE (dOp fLt (AN Aj (AA (AH Ez (AA (AB 0) (AA (dOp AK (AB 4) (dC (.int 0))) AD))) AD)) (dC (.int 7))))) (Av (dMt 3 Ah (AA (dOp AK (AB 4) (dC (.int 0))) AD))) AR) (rs.map eZ) (s3 (hsO []) none)=some (.nx t7)/\∃o,nM o/\t7=s3 (hsO rs) o:=by
  refine Bv (fun pre τ=>∃o,nM o/\τ=s3 (hsO pre) o) ⟨none,Ao,rfl⟩ ?_
  rintro pre r post τ e ⟨o,ho,rfl⟩
  have hz:=DC e
  have hr:r∈rs:=FF e
  let t5:=s3 (hsO pre) (some (.d (eZ r)))
  obtain⟨lu,eu⟩:=S5 ok hl (a:=r.n) (.inr ⟨r,hr,rfl⟩)
  have c1:AE (dOp (fIn false) (dOp AK (AB 4) (dC (.int 5))) (Fj (AH Ci AD) (dPt (dC (.int 6))) E1)) t5=some (decide (kS (kz r.d)∈KH),t5) :=
   tst (oQ (eT (kS (kz r.d))) (.tuple (KH.map eT)) t5 (oQ (eZ r) (.int 5) t5 rfl rfl rfl) Rk (inT _ _))
  have c2:AE (dOp fLt (AN Aj (AA (AH Ez (AA (AB 0) (AA (dOp AK (AB 4) (dC (.int 0))) AD))) AD)) (dC (.int 7))) t5=some (decide (((hsR rs.reverse r.n).length:Int)<7),t5):=by
   refine tst (oQ (.int ((hsR rs.reverse r.n).length:Int)) (.int 7) t5 (B9 (d:=.list ((hsR rs.reverse r.n).map eT)) (cQ t5 [D,eT r.n] (acc (t5:=t5) rfl (acc (t5:=t5) (oQ (eZ r) (.int 0) t5 rfl rfl rfl) rfl)) rfl eu) ?_) rfl rfl)
   show some (PyData.int (((hsR rs.reverse r.n).map eT).length:Int))=_
   rw[B']
  have c:=K2 c1 c2
  refine⟨t5,s3 (hsO (pre++[r])) (some (.d (eZ r))),Bs (o:=o) rfl ho,?_,_,Bz,rfl⟩
  cases hp:p r with
  |true =>
   refine(FV (t5:=t5) (c.trans (by rw[show(_&&_)=true from hp]))).trans ?_
   have hpl:(pre.filter p).length<=pre.length:=List.length_filter_le ..
   refine(OW (i:=3) (d:=eT r.n) (xs:=(hsO pre).map eT) (t5:=t5) (acc (t5:=t5) (oQ (eZ r) (.int 0) t5 rfl rfl rfl) rfl) rfl ?_).trans ?_
   ·rw[B']
    show((pre.filter p).map (·.n)).length+1<900
    rw[B'];omega
   ·have:(hsO pre).map eT++[eT r.n]=(hsO (pre++[r])).map eT:=by
     show eT t0::((pre.filter p).map (·.n)).map eT++[eT r.n]=eT t0::(((pre++[r]).filter p).map (·.n)).map eT
     rw[List.filter_append,bx,hp]
     simp
    show some (Out.nx (R::I u::T nm::some (.m ((hsO pre).map eT++[eT r.n]))::some (.d (eZ r))::none::ex))=_
    rw[this]
  |false =>
   refine(Bm (t5:=t5) (c.trans (by rw[show(_&&_)=false from hp]))).trans ?_
   have:hsO (pre++[r])=hsO pre:=by
    show t0::((pre++[r]).filter p).map (·.n)=t0::(pre.filter p).map (·.n)
    rw[List.filter_append,bx,hp]
    simp
   rw[this];rfl
 obtain⟨t7,e3,o4,ho4,rfl⟩:=lp
 generalize hhs:hsO rs=hs at e3
 have hs0:0<hs.length:=by rw[<- hhs];exact Nat.succ_pos _
 have hs1:hs.length<=41:=by
  rw[<- hhs]
  show((rs.filter p).map (·.n)).length+1<=41
  have hpl:(rs.filter p).length<=rs.length:=List.length_filter_le ..
  rw[B'];omega
 have hsm:∀h∈hs,h=t0\/∃q∈rs,q.n=h/\4<=kz q.d/\(hsR rs.reverse q.n).length<7:=fun h hh=>by
  rw[<- hhs]at hh
  rcases Z'.mp hh with rfl|hh
  ·exact .inl rfl
  ·obtain⟨q,hq,rfl⟩:=av.mp hh
   obtain⟨hq1,hq2⟩:=b8.mp hq
   have hq2:(decide (kS (kz q.d)∈KH)&&decide (((hsR rs.reverse q.n).length:Int)<7))=true:=hq2
   rw[K',decide_eq_true_eq,decide_eq_true_eq,Uz (Im _)]at hq2
   exact .inr ⟨q,hq1,rfl,hq2.1,by omega⟩
 have okm4:okM o4=true:=Cd ho4
 let s5:Int->Option L->DS:=fun u o5=>R::I u::T nm::M hs::o4::o5::ex
 let b5:Int->Option L->DS:=fun u o5=>R::I u::T nm::some (.d (.list (hs.map eT)))::o4::o5::ex
 have hok:∀u o5,okM o5=true->(b5 u o5).all okM=true:=fun u o5 h=>by
  show(true&&(true&&(true&&(true&&(okM o4&&(okM o5&&true))))))=true
  rw[okm4,h];rfl
 have ln:∀u o5,AN Aj (AA (AB 3) AD) (b5 u o5)=some (.int (hs.length:Int),b5 u o5):=fun u o5=>by
  refine B9 (d:=.list (hs.map eT)) (t5:=b5 u o5) rfl ?_
  show some (PyData.int ((hs.map eT).length:Int))=_
  rw[B']
 have n0:(0:Int)<(hs.length:Int):=by omega
 have k0:=ak u (show(hs.length:Int)≠0 by omega)
 have k1:=aa u n0
 obtain⟨ha,ea,ha2⟩:=BW (enc:=eT) (xs:=hs) k0 k1
 have ha3:ha∈hs:=aO ha2
 have z4:AJ (Bo 3 (dOp A6 (AB 3) (dOp AW (AB 1) (AN Aj (AA (AB 3) AD))))) (dN 5) (s5 u none)=some (.nx (s5 u (T ha))):=by
  refine AY (d:=eT ha) (t5:=s5 u none) (Ku (i:=3) (xs:=hs.map eT) rfl ?_ rfl (hok u none rfl)) rfl
  exact oQ (.list (hs.map eT)) (.int (u % (hs.length:Int))) (b5 u none) rfl (oQ (.int u) (.int (hs.length:Int)) (b5 u none) rfl (ln u none) (A9 n0)) ea
 have z5:∃h∈hs,AQ (Bj 3 (AE (dOp fEq (dOp AW (dOp Af (AB 1) (AN Aj (AA (AB 3) AD))) (dC (.int 2))) (dC (.int 0))))) (AJ (Bo 3 (dOp A6 (AB 3) (dUn En (dC (.int 1))))) (dN 5)) AR (s5 u (T ha))=some (.nx (s5 u (T h))):=by
  have c:Bj 3 (AE (dOp fEq (dOp AW (dOp Af (AB 1) (AN Aj (AA (AB 3) AD))) (dC (.int 2))) (dC (.int 0)))) (s5 u (T ha))=some (decide (u / (hs.length:Int) % 2=0),s5 u (T ha)):=by
   refine F5 (i:=3) (xs:=hs.map eT) (t5:=b5 u (T ha)) rfl (tst (oQ (.int (u / (hs.length:Int) % 2)) (.int 0) (b5 u (T ha)) (oQ (.int (u / (hs.length:Int))) (.int 2) (b5 u (T ha)) (oQ (.int u) (.int (hs.length:Int)) (b5 u (T ha)) rfl (ln u _) (Bc n0 (by omega))) rfl (A9 (by decide))) rfl (encI.fEq _ _))) (hok u _ rfl)
  by_cases h:u / (hs.length:Int) % 2=0
  ·obtain⟨hb,hb1,eb⟩:=Ss (enc:=eT) hs0
   refine⟨hb,hb1,(FV (t5:=s5 u (T ha)) (by rw[c,decide_eq_true h])).trans ?_⟩
   refine AY (d:=eT hb) (t5:=s5 u (T ha)) (Ku (i:=3) (xs:=hs.map eT) rfl ?_ rfl (hok u _ rfl)) rfl
   exact oQ (.list (hs.map eT)) (.int (-1)) (b5 u (T ha)) rfl rfl eb
  ·exact⟨ha,ha3,(Bm (t5:=s5 u (T ha)) (by rw[c,decide_eq_false h])).trans rfl⟩
 obtain⟨h,hh,z5⟩:=z5
 generalize hu2:u / (hs.length:Int) / 2=u2
 have z6:AJ (Bo 3 (dOp Af (dOp Af (AB 1) (AN Aj (AA (AB 3) AD))) (dC (.int 2)))) (dN 1) (s5 u (T h))=some (.nx (s5 u2 (T h))):=by
  refine AY (d:=.int u2) (t5:=s5 u (T h)) (Ku (i:=3) (xs:=hs.map eT) rfl ?_ rfl (hok u _ rfl)) rfl
  rw[<- hu2]
  exact oQ (.int (u / (hs.length:Int))) (.int 2) (b5 u (T h)) (oQ (.int u) (.int (hs.length:Int)) (b5 u (T h)) rfl (ln u _) (Bc n0 (by omega))) rfl (Bc (by decide) (by decide))
 obtain⟨x,u3,l3,ex3,x0,x1⟩:=EI u2
 obtain⟨y,u4,l4,ey4,y0,y1⟩:=EI u3
 let s9:Int->Option L->Option L->Option L->Option L->Option L->Option L->DS:=fun u o6 o7 o8 o9 o10 o11=>[R,I u,T nm,M hs,o4,T h,o6,o7,o8,o9,o10,o11]
 have z7:AJ (AH A1 (AA (AB 1) AD)) (dGT (AM (dN 6) (AM (dN 1) Au))) (s9 u2 none none none none none none)=some (.nx (s9 u3 (I x) none none none none none)) :=
  AY (cQ (s9 u2 none none none none none none) [.int u2] rfl rfl ex3) rfl
 have z8:AJ (AH A1 (AA (AB 1) AD)) (dGT (AM (dN 7) (AM (dN 1) Au))) (s9 u3 (I x) none none none none none)=some (.nx (s9 u4 (I x) (I y) none none none none)) :=
  AY (cQ (s9 u3 (I x) none none none none none) [.int u3] rfl rfl ey4) rfl
 have m12:AW (.int u4) (.int 12)=some (.int (u4 % 12)):=A9 (by decide)
 obtain⟨j,ej,ej2⟩:=BW (enc:=fun i=>eT (kS i)) (xs:=KA) (k:=u4 % 12) (by omega) (by show u4 % 12<12;omega)
 have hj:j<10:=by
  have:=aO ej2
  have q:∀i∈KA,i<10:=by decide
  exact q j this
 let t8:Nat->DS:=fun j=>s9 u4 (I x) (I y) (T (kS j)) none none none
 have z9:AJ (dOp AK (AH Ci AD) (dOp AW (AB 1) (dC (.int 12)))) (dN 8) (s9 u4 (I x) (I y) none none none none)=some (.nx (t8 j)) :=
  AY (d:=eT (kS j)) (t5:=s9 u4 (I x) (I y) none none none none) (oQ (.tuple (KA.map fun i=>eT (kS i))) (.int (u4 % 12)) (s9 u4 (I x) (I y) none none none none) rfl (oQ (.int u4) (.int 12) (s9 u4 (I x) (I y) none none none none) rfl rfl m12) ej) rfl
 have hup:h=t0\/∃q∈rs,q.n=h:=(hsm h hh).imp id fun⟨q,a,b,_⟩=>⟨q,a,b⟩
 obtain⟨lu,eu⟩:=S5 ok hl hup
 let up:=hsR rs.reverse h
 let U:Option L:=some (.d (.list (up.map eT)))
 let ta:Nat->DS:=fun j=>s9 u4 (I x) (I y) (T (kS j)) U none none
 have za:AJ (AH Ez (AA (AB 0) (AA (AB 5) AD))) (dN 9) (t8 j)=some (.nx (ta j)) :=
  AY (cQ (t8 j) [D,eT h] rfl rfl eu) rfl
 let pt:Rz->Bool:=fun r=>decide (r.n∈up)&&decide (kS (kz r.d)=kS 8)
 have zb:∃j',j'<10/\(j'=8->rs.filter pt=[])/\AQ (BI (AE (dOp fEq (AB 8) (dC (.str "tiles")))) (AE (dOp fNe (dLC 1 [9] (dIL (AB 0)) (dN 0) (BI (AE (dOp (fIn false) (dOp AK (AB 0) (dC (.int 0))) (AB 1))) (AE (dOp fEq (dOp AK (AB 0) (dC (.int 5))) (dC (.str "tiles"))))) (AB 0)) (C7 AD)))) (AJ (dC (.str "group")) (dN 8)) AR (ta j)=some (.nx (ta j')):=by
  have c1:AE (dOp fEq (AB 8) (dC (.str "tiles"))) (ta j)=some (decide (kS j=kS 8),ta j):=tst (oQ (eT (kS j)) (eT (kS 8)) (ta j) rfl rfl (Gu _ _))
  have lc:dLC 1 [9] (dIL (AB 0)) (dN 0) (BI (AE (dOp (fIn false) (dOp AK (AB 0) (dC (.int 0))) (AB 1))) (AE (dOp fEq (dOp AK (AB 0) (dC (.int 5))) (dC (.str "tiles"))))) (AB 0) (ta j)=some (.list ((rs.filter pt).map eZ),ta j):=by
   refine lcg (enc:=eZ) (rs:=rs) (ex:=[U]) pt eZ rfl (by omega) rfl rfl (fun r hr=>?_) (fun r hr _=>rfl)
   let τ:DS:=[some (.d (eZ r)),U]
   exact K2 (τ:=τ) (tst (oQ (eT r.n) (.list (up.map eT)) τ (oQ (eZ r) (.int 0) τ rfl rfl rfl) rfl (inL _ _))) (tst (oQ (eT (kS (kz r.d))) (eT (kS 8)) τ (oQ (eZ r) (.int 5) τ rfl rfl rfl) rfl (Gu _ _)))
  have c2:AE (dOp fNe (dLC 1 [9] (dIL (AB 0)) (dN 0) (BI (AE (dOp (fIn false) (dOp AK (AB 0) (dC (.int 0))) (AB 1))) (AE (dOp fEq (dOp AK (AB 0) (dC (.int 5))) (dC (.str "tiles"))))) (AB 0)) (C7 AD)) (ta j)=some (!decide (rs.filter pt=[]),ta j) :=
   tst (oQ (.list ((rs.filter pt).map eZ)) (.list (([]:List Rz).map eZ)) (ta j) lc rfl (encZ.fNeL _ _))
  have c:=K2 c1 c2
  by_cases hc:(decide (kS j=kS 8)&&!decide (rs.filter pt=[]))=true
  ·exact⟨4,by decide,fun z=>absurd z (by decide),(FV (t5:=ta j) (by rw[c,hc])).trans rfl⟩
  ·have hc:=Bool.eq_false_iff.mpr hc
   refine⟨j,hj,fun z=>?_,(Bm (t5:=ta j) (by rw[c,hc])).trans rfl⟩
   rw[z,decide_eq_true rfl,Bool.true_and,Bool.not_eq_false',decide_eq_true_eq]at hc
   exact hc
 obtain⟨k,hk,hk8,zb⟩:=zb
 generalize hsh:decide (u4 / 12 % 8>0)=sh
 let S:Option L:=some (.d (.bool sh))
 have zc:AJ (dOp fGt (dOp AW (dOp Af (AB 1) (dC (.int 12))) (dC (.int 8))) (dC (.int 0))) (dN 10) (ta k)=some (.nx (s9 u4 (I x) (I y) (T (kS k)) U S none)):=by
  refine AY (d:=.bool sh) (t5:=ta k) (oQ (.int (u4 / 12 % 8)) (.int 0) (ta k) (oQ (.int (u4 / 12)) (.int 8) (ta k) (oQ (.int u4) (.int 12) (ta k) rfl rfl (Bc (by decide) (by decide))) rfl (A9 (by decide))) rfl ?_) rfl
  rw[<- hsh];rfl
 obtain⟨d,w,ld,ed,kd,okd⟩:=Mc hk (u4 / 96)
 let tz:DS:=s9 w (I x) (I y) (T (kS k)) U S (some (.d (eD d)))
 have zd:AJ (AH Ae (AA (AB 8) (AA (dOp Af (AB 1) (dC (.int 96))) AD))) (dGT (AM (dN 11) (AM (dN 1) Au))) (s9 u4 (I x) (I y) (T (kS k)) U S none)=some (.nx tz) :=
  AY (cQ (s9 u4 (I x) (I y) (T (kS k)) U S none) [eT (kS k),.int (u4 / 96)] (acc (t5:=s9 u4 (I x) (I y) (T (kS k)) U S none) rfl (acc (oQ (.int u4) (.int 96) (s9 u4 (I x) (I y) (T (kS k)) U S none) rfl rfl (Bc (by decide) (by decide))) rfl)) rfl ed) rfl
 refine⟨⟨nm,h,x,y,sh,d⟩,w,[.d D,.d (.int v)],?_,⟨n1,n8,na,x0,x1,y0,y1,okd⟩,hsm h hh,fun hd8 q hq hqu z=>?_⟩
 ·unfold Cg
  refine AU (τ:=tz) ?_ rfl rfl
  refine(AF (t5:=R::I u::T nm::none::none::none::ex) (AY (cQ (R::I v::none::none::none::none::ex) [.int v] rfl rfl e1) rfl)).trans ?_
  refine(AF (t5:=s3 (hsO []) none) rfl).trans ((AF ((C2 (ds:=rs.map eZ) (t5:=s3 (hsO []) none) rfl).trans e3)).trans ?_)
  refine(AF z4).trans ((AF z5).trans ((AF z6).trans ((AF z7).trans ((AF z8).trans ((AF z9).trans ((AF za).trans ((AF zb).trans ((AF zc).trans ((AF zd).trans (AZ ?_))))))))))
  have ez:eZ ⟨nm,h,x,y,sh,d⟩ = .tuple [eT nm,eT h,.int x,.int y,.bool sh,eT (kS k),eD d]:=by rw[<- kd];rfl
  rw[ez];rfl
 ·have f:=hk8 (kd▸hd8)
  have : q ∈ rs.filter pt := b8.mpr ⟨hq, by
   show(decide (q.n∈up)&&decide (kS (kz q.d)=kS 8))=true
   rw[decide_eq_true hqu,z,decide_eq_true rfl];rfl⟩
  rw[f]at this;cases this
def VtR:List Rz->Prop
 |[]=>True
 |r::a=>VtR a/\(r.h=t0\/∃q∈a,q.n=r.h/\4<=kz q.d/\(hsR a q.n).length<7)/\(kz r.d=8->∀q∈a,q.n∈hsR a r.h->kz q.d≠8)
theorem K5{ns:List Int}{f m:Int}(f0:0<=f)(m0:0<=m)(m1:m<=24):∃(rs:List Rz) (ls:List L),CN [.c (ns.map .int),.d (.int f),.d (.int m)]=some (.list (rs.map eZ),ls)/\OkZ rs/\VtR rs.reverse/\(rs.length:Int)<=m/\(1<=m->1<=rs.length):=by
 let C:Option L:=some (.c (ns.map .int))
 let I:Int->Option L:=fun i=>some (.d (.int i))
 let st:List Rz->Option L->Option L->Option L->DS:=fun rs o4 o5 o6=>[C,I f,I m,some (.m (rs.map eZ)),o4,o5,o6]
 let bt:List Rz->Option L->Option L->Option L->DS:=fun rs o4 o5 o6=>[C,I f,I m,some (.d (.list (rs.map eZ))),o4,o5,o6]
 have hok:∀rs o4 o5 o6,nM o4->nM o5->nM o6->(bt rs o4 o5 o6).all okM=true:=fun rs o4 o5 o6 h4 h5 h6=>by
  show(true&&(true&&(true&&(true&&(okM o4&&(okM o5&&(okM o6&&true)))))))=true
  rw[Cd h4,Cd h5,Cd h6];rfl
 have lp:∃t7,Bn (dN 4) (AI (AJ (Bo 3 (AH Cg (AA (AB 3) (AA (AV 0 Co (AA (dOp Ag (AB 1) (AB 4)) AD)) AD)))) (dGT (AM (dN 5) (AM (dN 6) Au)))) (AQ (Bj 3 (AE (dOp (fIn true) (dOp AK (AB 5) (dC (.int 0))) (dLC 1 [] (dIL (AB 3)) (dN 0) A7 (dOp AK (AB 0) (dC (.int 0))))))) (Av (dMt 3 Ah (AA (AB 5) AD))) AR)) ((List.range m.toNat).map fun(k:Nat)=>PyData.int (k:Int)) (st [] none none none)=some (.nx t7)/\∃rs o4 o5 o6,nM o4/\nM o5/\nM o6/\OkZ rs/\VtR rs.reverse/\rs.length<=(List.range m.toNat).length/\(0<(List.range m.toNat).length->0<rs.length)/\t7=st rs o4 o5 o6:=by
  refine Bv (fun(pre:List Nat) τ=>∃rs o4 o5 o6,nM o4/\nM o5/\nM o6/\OkZ rs/\VtR rs.reverse/\rs.length<=pre.length/\(0<pre.length->0<rs.length)/\τ=st rs o4 o5 o6) ⟨[],none,none,none,Ao,Ao,Ao,trivial,trivial,J' _,fun h=>h,rfl⟩ ?_
  rintro pre k post τ e ⟨rs,o4,o5,o6,n4,n5,n6,ok,vt,hle,hpos,rfl⟩
  have hz:=DC e
  rw[aq]at hz
  have hl:rs.length<=40:=by omega
  let K:Option L:=I (k:Int)
  obtain⟨v,l1,e1⟩:=Qt (ns:=ns) (k:=f+(k:Int)) (by omega)
  obtain⟨r,w,l2,e2,okr,hh,ht⟩:=Lz ok hl v
  let X:Option L:=some (.d (eZ r))
  have z1:AJ (Bo 3 (AH Cg (AA (AB 3) (AA (AV 0 Co (AA (dOp Ag (AB 1) (AB 4)) AD)) AD)))) (dGT (AM (dN 5) (AM (dN 6) Au))) (st rs K o5 o6)=some (.nx (st rs K X (I w))):=by
   refine AY (d:=.tuple [eZ r,.int w]) (t5:=st rs K o5 o6) (Ku (i:=3) (xs:=rs.map eZ) rfl ?_ ?_ (hok rs K o5 o6 Bz n5 n6)) ?_
   ·refine cQ (bt rs K o5 o6) [.list (rs.map eZ),.int v] (acc (t5:=bt rs K o5 o6) rfl (acc (t5:=bt rs K o5 o6) (E3 (xs:=ns.map .int) (t5:=bt rs K o5 o6) (rs:=[.d (.int (f+(k:Int)))]) (ds:=[.int (f+(k:Int))]) rfl rfl rfl e1) rfl)) rfl e2
   ·show(Cb (eZ r)&&(true&&true))=true
    rw[encZ.fix];rfl
   ·show(dN 5 (eZ r) (st rs K o5 o6)).bind _=_
    rw[Bs (o:=o5) rfl n5]
    show(dN 6 (.int w) (st rs K X o6)).bind _=_
    rw[Bs (o:=o6) rfl n6];rfl
  have z2:Bj 3 (AE (dOp (fIn true) (dOp AK (AB 5) (dC (.int 0))) (dLC 1 [] (dIL (AB 3)) (dN 0) A7 (dOp AK (AB 0) (dC (.int 0)))))) (st rs K X (I w))=some (!decide (r.n∈rs.map (·.n)),st rs K X (I w)):=by
   let l9:=bt rs K X (I w)
   have lc:dLC 1 [] (dIL (AB 3)) (dN 0) A7 (dOp AK (AB 0) (dC (.int 0))) l9=some (.list ((rs.map (·.n)).map eT),l9):=by
    have:=lcg (enc:=eZ) (rs:=rs) (τ:=l9) (fr:=[]) (it:=dIL (AB 3)) (ex:=[]) (c:=A7) (e:=dOp AK (AB 0) (dC (.int 0))) (fun _=>true) (fun r=>eT r.n) rfl (by omega) rfl rfl (fun r _=>rfl) (fun r _ _=>rfl)
    rw[this,BM,ay];rfl
   exact F5 (i:=3) (xs:=rs.map eZ) (t5:=l9) rfl (tst (oQ (eT r.n) (.list ((rs.map (·.n)).map eT)) l9 (oQ (eZ r) (.int 0) l9 rfl rfl rfl) lc (Zv _ _))) (hok rs K X (I w) Bz Bz Bz)
  by_cases hn:r.n∈rs.map (·.n)
  ·refine⟨st rs K o5 o6,st rs K X (I w),Bs (o:=o4) rfl n4,(AF z1).trans ((Bm (t5:=st rs K X (I w)) (by rw[z2,decide_eq_true hn];rfl)).trans rfl),rs,K,X,I w,Bz,Bz,Bz,ok,vt,by rw[T'];omega,fun _=>by obtain⟨q,hq,_⟩:=av.mp hn;exact List.length_pos_of_mem hq,rfl⟩
  ·have z3:Av (dMt 3 Ah (AA (AB 5) AD)) (st rs K X (I w))=some (.nx (st (rs++[r]) K X (I w))):=by
    refine(OW (i:=3) (d:=eZ r) (xs:=rs.map eZ) (t5:=st rs K X (I w)) rfl rfl (by rw[B'];omega)).trans ?_
    show some (Out.nx [C,I f,I m,some (.m (rs.map eZ++[eZ r])),K,X,I w])=_
    rw[show rs.map eZ++[eZ r]=(rs++[r]).map eZ by rw[bE];rfl]
   have er:(rs++[r]).reverse=r::rs.reverse:=by simp
   refine⟨st rs K o5 o6,st (rs++[r]) K X (I w),Bs (o:=o4) rfl n4,(AF z1).trans ((FV (t5:=st rs K X (I w)) (by rw[z2,decide_eq_false hn];rfl)).trans z3),rs++[r],K,X,I w,Bz,Bz,Bz,?_,?_,by rw[T',T'];simp only[List.length_cons,List.length_nil];omega,fun _=>by rw[T'];exact Nat.succ_pos _,rfl⟩
   ·show OkR (rs++[r]).reverse
    rw[er]
    exact⟨ok,okr,fun q hq z=>hn (av.mpr ⟨q,ae.mp hq,z⟩),hh.imp id fun⟨q,hq,e,_⟩=>⟨q,ae.mpr hq,e⟩⟩
   ·rw[er]
    exact⟨vt,hh.imp id fun⟨q,hq,e,h4,h7⟩=>⟨q,ae.mpr hq,e,h4,h7⟩,fun h8 q hq=>ht h8 q (ae.mp hq)⟩
 obtain⟨t7,e,rs,o4,o5,o6,n4,n5,n6,ok,vt,hle,hpos,rfl⟩:=lp
 rw[<- GN]at e
 rw[aq]at hle hpos
 refine⟨rs,[.c (ns.map .int),.d (.int f),.d (.int m)],?_,ok,vt,by omega,fun h=>hpos (by omega)⟩
 unfold CN
 refine AU (τ:=st rs o4 o5 o6) ?_ rfl rfl
 exact(AF (t5:=st [] none none none) rfl).trans ((AF ((C2 (GP (n:=m) (t5:=st [] none none none) rfl (by omega) (by omega))).trans e)).trans rfl)
theorem Ll{d1 d2:PyData}:∀(n:Nat) (a b:Int) (o:Option L),nM o->0<=a->0<=b->b.toNat<n->∃o',nM o' /\
  dWh (AE (dOp fNe (AB 3) (dC (.int 0)))) (AI (AJ (dOp AW (AB 2) (AB 3)) (dN 4)) (AI (AJ (AB 3) (dN 2)) (AJ (AB 4) (dN 3)))) n [some (.d d1),some (.d d2),some (.d (.int a)),some (.d (.int b)),o]=some (.nx [some (.d d1),some (.d d2),some (.d (.int (gI a b))),some (.d (.int 0)),o'])
 |0,a,b,o,_,_,_,h=>absurd h (Nat.not_lt_zero _)
 |n+1,a,b,o,ho,ha,hb,h=>by
  let st:Int->Int->Option L->DS:=fun x y z=>[some (.d d1),some (.d d2),some (.d (.int x)),some (.d (.int y)),z]
  have t:AE (dOp fNe (AB 3) (dC (.int 0))) (st a b o)=some (!decide (b=0),st a b o):=by
   show(((fNe (.int b) (.int 0)).map fun d=>(d,st a b o)).bind _)=_
   rw[encI.fNe];rfl
  unfold dWh
  rw[show AE (dOp fNe (AB 3) (dC (.int 0))) [some (.d d1),some (.d d2),some (.d (.int a)),some (.d (.int b)),o]=some (!decide (b=0),st a b o) from t]
  by_cases hz:b=0
  ·subst hz
   exact⟨o,ho,by rw[NU ha];rfl⟩
  ·have hp:0<b:=by omega
   have md:=aa a hp
   have mn:=ak a (show b≠0 by omega)
   obtain⟨o',ho',e⟩:=Ll (d1:=d1) (d2:=d2) n b (a % b) (some (.d (.int (a % b)))) Bz hb mn (by omega)
   refine⟨o',ho',?_⟩
   rw[decide_eq_false hz]
   have bd:AI (AJ (dOp AW (AB 2) (AB 3)) (dN 4)) (AI (AJ (AB 3) (dN 2)) (AJ (AB 4) (dN 3))) (st a b o)=some (.nx (st b (a % b) (some (.d (.int (a % b)))))):=by
    refine(AF (t5:=st a b (some (.d (.int (a % b))))) (AY (d:=.int (a % b)) (t5:=st a b o) ?_ (Bs rfl ho))).trans rfl
    show((AW (.int a) (.int b)).map fun d=>(d,st a b o))=_
    rw[A9 hp];rfl
   show((AI _ _ (st a b o)).bind _)=_
   rw[bd]
   show dWh _ _ n (st b (a % b) _)=_
   rw[<- QH ha hp]
   exact e
theorem Mb{t b:Int}(hb:0<b):BL [.d (.int t),.d (.int b)]=some (.int (gI t b),[.d (.int t),.d (.int b)]):=by
 obtain⟨o,ho,e⟩:=Ll (d1:=.int t) (d2:=.int b) (b.toNat+1) (Gx t) b none Ao (Nk t) (by omega) (cP _)
 rw[QI]at e
 unfold BL
 refine AU (τ:=[some (.d (.int t)),some (.d (.int b)),some (.d (.int (gI t b))),some (.d (.int 0)),o]) ?_ rfl rfl
 refine(AF (t5:=[some (.d (.int t)),some (.d (.int b)),some (.d (.int (Gx t))),none,none]) rfl).trans ?_
 refine(AF (t5:=[some (.d (.int t)),some (.d (.int b)),some (.d (.int (Gx t))),some (.d (.int b)),none]) ?_).trans ?_
 ·have:Gx b=b:=Qr (by omega)
  show some (Out.nx [_,_,_,some (.d (.int (Gx b))),_])=_
  rw[this]
 ·exact(AF e).trans rfl
theorem VI{s:Cl}(h:OkF s):gI s.1 s.2=1:=by
 obtain⟨t,b,hb,rfl⟩:=h.red
 have hg:0<Int.gcd t b:=cD _ (by omega)
 show((Int.gcd (t / (Int.gcd t b:Nat)) (b / (Int.gcd t b:Nat)):Nat):Int)=1
 rw[Int.gcd_ediv_gcd_ediv_gcd hg];rfl
theorem Oa(x:Int):DU [.d (.int x)]=some (.bool true,[.d (.int x)]):=rfl
theorem BA{x a b:Int}(h1:a<=x)(h2:x<=b):Ad [.d (.int x),.d (.int a),.d (.int b)]=some (.bool true,[.d (.int x),.d (.int a),.d (.int b)]):=by
 walk_at "a|Ad,Oa,h1,h2,decide_true"
theorem GQ{x:Int}(h1:-60<=x)(h2:x<=60):A8 [.d (.int x)]=some (.bool true,[.d (.int x)]):=by
 have w:=BA h1 h2
 walk_at "a|A8,w"
theorem O1{s:Cl}(h:OkF s):∃ls,ET [.d (ec s)]=some (.bool true,ls):=by
 have b1:=h.b1
 have lo:=h.lo
 have hi:=h.hi
 have dv:=Mb (t:=s.1) (b:=s.2) (by omega)
 rw[VI h]at dv
 let I:Int->Option L:=fun i=>some (.d (.int i))
 let τ:DS:=[some (.d (ec s)),I s.1,I s.2]
 refine⟨[.d (ec s)],?_⟩
 unfold ET
 refine AU (τ:=τ) ?_ rfl rfl
 refine(AF (t5:=[some (.d (ec s)),none,none]) rfl).trans ((AF (t5:=[some (.d (ec s)),I s.1,none]) rfl).trans ((AF (t5:=τ) rfl).trans ((AF (t5:=τ) rfl).trans (AZ ?_))))
 have c1:dOp fGe (AB 2) (dC (.int 1)) τ=some (.bool true,τ):=oQ (.int s.2) (.int 1) τ rfl rfl (by show some (PyData.bool (decide (s.2≥1)))=_;rw[decide_eq_true (by omega)])
 have c2:BH fLe fLe (dC (.int 0)) (AB 1) (AB 2) τ=some (.bool true,τ):=by
  walk_at "a|τ,I,lo,hi,decide_true"
 have c3:dOp fEq (AH BL (AA (AB 1) (AA (AB 2) AD))) (dC (.int 1)) τ=some (.bool true,τ):=oQ (.int 1) (.int 1) τ (cQ τ [.int s.1,.int s.2] rfl rfl dv) rfl (by rw[encI.fEq,decide_eq_true rfl])
 exact(EU c1).trans ((EU c2).trans c3)
theorem Fo{s:Cl}(h:OkF s):∃ls,Aw [.d (ec s)]=some (.bool true,ls):=by
 obtain⟨l1,e1⟩:=O1 h
 have b2:=h.b2
 let τ:DS:=[some (.d (ec s))]
 refine⟨[.d (ec s)],?_⟩
 unfold Aw
 refine AU (τ:=τ) (AZ ((EU (BE (t5:=τ) (ds:=[ec s]) rfl rfl e1)).trans (oQ (.int s.2) (.int 1000) τ rfl rfl ?_))) rfl rfl
 show some (PyData.bool (decide (s.2<=1000)))=_
 rw[decide_eq_true b2]
theorem GS{a b:Cl}(ha:OkF a)(hb:OkF b):∃ls,BS [.d (ec a),.d (ec b)]=some (.bool true,ls):=by
 obtain⟨l1,e1⟩:=Fo ha
 obtain⟨l2,e2⟩:=Fo hb
 let τ:DS:=[some (.d (ec a)),some (.d (ec b))]
 refine⟨[.d (ec a),.d (ec b)],?_⟩
 unfold BS
 exact AU (τ:=τ) (AZ ((EU (BE (t5:=τ) (ds:=[ec a]) rfl rfl e1)).trans (BE (t5:=τ) (ds:=[ec b]) rfl rfl e2))) rfl rfl
def inB(al:Str)(c:Nat):Bool:=match Kp (.str ⟨#[c]⟩) (.str al) with
 |some (.bool b)=>b
 |_=>false
theorem VE{al:Str}{c:Nat}(h:inB al c=true):Kp (.str ⟨#[c]⟩) (.str al)=some (.bool true):=by
 unfold inB at h
 split at h
 ·rename_i b e;rw[e,h]
 ·cases h
theorem YD:∀c∈alN.cps.toList,inB alN c=true:=∅
theorem YC:∀c∈alS.cps.toList,inB alS c=true:=∅
theorem XG:∀c∈alW.cps.toList,(Cc Dx ⟨#[c]⟩).isSome=true:=∅
theorem Ng{α:Type}:∀l:List α,Ds (l.map fun _=>PyData.bool true)=some (l.map fun _=>true)
 |[]=>rfl
 |a::l=>by
  rw[X',Ds,Ng l];rfl
theorem Nj{α:Type}(l:List α):FW [.list (l.map fun _=>PyData.bool true)]=some (.bool true):=by
 show(Ds (l.map fun _=>PyData.bool true)).map _=_
 rw[Ng]
 show some (PyData.bool ((l.map fun _=>true).all id))=_
 rw[show((l.map fun _=>true).all id)=true by simp]
def eC(c:Nat):PyData:=.str ⟨#[c]⟩
theorem Ke{t:Tx}(h:t.1.length<=100):Aj [eT t]=some (.int (t.1.length:Nat)):=by
 show(if t.1.length<=sizeLine then _ else _)=_
 rw[if_pos (sz (by omega))]
theorem IC{al:Str}{t:Tx}{lo hi:Int}(ha:Az al t.1)(hal:∀c∈al.cps.toList,inB al c=true)(h1:lo<=(t.1.length:Nat))(h2:((t.1.length:Nat):Int)<=hi)(hz:t.1.length<=100) :
  ∃ls,BC [.d (eT t),.d (.str al),.d (.int lo),.d (.int hi)]=some (.bool true,ls):=by
 let A:Option L:=some (.d (.str al))
 let τ:DS:=[some (.d (eT t)),A,some (.d (.int lo)),some (.d (.int hi))]
 refine⟨[.d (eT t),.d (.str al),.d (.int lo),.d (.int hi)],?_⟩
 unfold BC
 refine AU (τ:=τ) ?_ rfl rfl
 have ln:AN Aj (AA (AB 0) AD) τ=some (.int (t.1.length:Nat),τ):=B9 (d:=eT t) (t5:=τ) rfl (Ke hz)
 have c1:Am (AE (BH fLe fLe (AB 2) (AN Aj (AA (AB 0) AD)) (AB 3))) τ=some (false,τ):=by
  refine Fz (b:=true) (tst ?_)
  unfold BH
  show((AN Aj (AA (AB 0) AD) τ).bind _)=_
  rw[ln]
  walk_at "a|τ,A,h1,h2,decide_true"
 refine(AF (t5:=τ) ((Bm (t5:=τ) (FZ (t5:=τ) rfl c1)).trans rfl)).trans (AZ ?_)
 have lc:dLC 1 [1] (dIS (AB 0)) (dN 0) A7 (dOp Kp (AB 0) (AB 1)) τ=some (.list (t.1.cps.toList.map fun _=>PyData.bool true),τ):=by
  have := lcg (enc := eC) (rs := t.1.cps.toList) (τ := τ) (fr := [1]) (it := dIS (AB 0)) (ex := [A]) (c := A7) (e := dOp Kp (AB 0) (AB 1)) (fun _ => true) (fun _ => .bool true) rfl (by show t.1.length <= 1000; omega) rfl rfl (fun r _ => rfl) (fun c hc _ =>
   oQ (eC c) (.str al) [some (.d (eC c)),A] rfl rfl (VE (hal c (ha c hc))))
  rw[this,BM]
 exact B9 lc (Nj _)
theorem Ir{t:Tx}(ha:Az alN t.1)(h1:1<=t.1.length)(h2:t.1.length<=8):∃ls,B7 [.d (eT t)]=some (.bool true,ls):=by
 obtain⟨l1,e1⟩:=IC (lo:=1) (hi:=8) ha YD (by omega) (by omega) (by omega)
 refine⟨[.d (eT t)],?_⟩
 unfold B7
 exact AU (τ:=[some (.d (eT t))]) (AZ (cQ [some (.d (eT t))] [eT t,.str alN,.int 1,.int 8] rfl rfl e1)) rfl rfl
theorem J6{t:Tx}(ha:Az alW t.1)(h2:t.1.length<=6):∃ls,CD [.d (eT t)]=some (.bool true,ls):=by
 let τ:DS:=[some (.d (eT t))]
 refine⟨[.d (eT t)],?_⟩
 unfold CD
 refine AU (τ:=τ) ?_ rfl rfl
 have c1:AE (dOp fGt (AN Aj (AA (AB 0) AD)) (dC (.int 6))) τ=some (false,τ):=by
  refine tst (oQ (.int (t.1.length:Nat)) (.int 6) τ (B9 (d:=eT t) (t5:=τ) rfl (Ke (by omega))) rfl ?_)
  show some (PyData.bool (decide (((t.1.length:Nat):Int)>6)))=_
  rw[decide_eq_false (by omega)]
 refine(AF (t5:=τ) ((Bm (t5:=τ) (FZ (t5:=τ) rfl c1)).trans rfl)).trans (AZ ?_)
 have sg:∀c∈t.1.cps.toList,DD [.d (eC c)]=some (.bool true,[.d (eC c)]):=fun c hc=>by
  unfold DD
  refine AU (τ:=[some (.d (eC c))]) (AZ ?_) rfl rfl
  show some (PyData.bool (Cc Dx ⟨#[c]⟩).isSome,_)=_
  rw[XG c (ha c hc)];rfl
 have lc:dLC 1 [] (dIS (AB 0)) (dN 0) A7 (AH DD (AA (AB 0) AD)) τ=some (.list (t.1.cps.toList.map fun _=>PyData.bool true),τ):=by
  have := lcg (enc := eC) (rs := t.1.cps.toList) (τ := τ) (fr := []) (it := dIS (AB 0)) (ex := []) (c := A7) (e := AH DD (AA (AB 0) AD)) (fun _ => true) (fun _ => .bool true) rfl (by show t.1.length <= 1000; omega) rfl rfl (fun r _ => rfl) (fun c hc _ =>
   BE (t5:=[some (.d (eC c))]) (ds:=[eC c]) rfl rfl (sg c hc))
  rw[this,BM]
 exact B9 lc (Nj _)
theorem Hc{R:List Tx}{w:Nat}(r1:1<=R.length)(r8:R.length<=8)(w1:1<=w)(w8:w<=8)(h:∀r∈R,r.1.length=w/\Az alS r.1):∃ls,BV [.d (.tuple (R.map eT))]=some (.bool true,ls):=by
 let D:Option L:=some (.d (.tuple (R.map eT)))
 let τ:DS:=[D]
 refine⟨[.d (.tuple (R.map eT))],?_⟩
 unfold BV
 refine AU (τ:=τ) ?_ rfl rfl
 have hn:(1:Int)<=(R.length:Nat):=by omega
 have hn8:((R.length:Nat):Int)<=8:=by omega
 have ln:AN Aj (AA (AB 0) AD) τ=some (.int (R.length:Nat),τ):=B9 (d:=.tuple (R.map eT)) (t5:=τ) rfl (by show some (PyData.int ((R.map eT).length:Nat))=_;rw[B'])
 have c1:Am (AE (BH fLe fLe (dC (.int 1)) (AN Aj (AA (AB 0) AD)) (dC (.int 8)))) τ=some (false,τ):=by
  refine Fz (b:=true) (tst ?_)
  unfold BH
  rw[show dC (.int 1) τ=some (.int 1,τ) from rfl]
  dsimp only[Option.bind]
  rw[ln]
  walk_at "a|hn,hn8,decide_true"
 have lc:dLC 1 [] (dIT (AB 0)) (dN 0) A7 (AH BC (AA (AB 0) (AA (dC (.str "#.")) (AA (dC (.int 1)) (AA (dC (.int 8)) AD))))) τ=some (.list (R.map fun _=>PyData.bool true),τ):=by
  have := lcg (enc := eT) (rs := R) (τ := τ) (fr := []) (it := dIT (AB 0)) (ex := []) (c := A7) (e := AH BC (AA (AB 0) (AA (dC (.str "#.")) (AA (dC (.int 1)) (AA (dC (.int 8)) AD))))) (fun _ => true) (fun _ => .bool true) rfl (by omega) rfl rfl (fun r _ => rfl) (fun r hr _ => by
   obtain⟨h1,h2⟩:=h r hr
   obtain⟨l1,e1⟩:=IC (lo:=1) (hi:=8) h2 YC (by omega) (by omega) (by omega)
   exact cQ [some (.d (eT r))] [eT r,.str alS,.int 1,.int 8] rfl rfl e1)
  rw[this,BM]
 have lc2:dLC 1 [0] (dIT (AB 0)) (dN 0) A7 (dOp fEq (AN Aj (AA (AB 0) AD)) (AN Aj (AA (dOp AK (AB 1) (dC (.int 0))) AD))) τ=some (.list (R.map fun _=>PyData.bool true),τ):=by
  obtain⟨z,zs,rfl⟩:∃z zs,R=z::zs:=by
   cases R with
   |nil=>simp at r1
   |cons z zs=>exact⟨z,zs,rfl⟩
  have := lcg (enc := eT) (rs := z :: zs) (τ := τ) (fr := [0]) (it := dIT (AB 0)) (ex := [D]) (c := A7) (e := dOp fEq (AN Aj (AA (AB 0) AD)) (AN Aj (AA (dOp AK (AB 1) (dC (.int 0))) AD))) (fun _ => true) (fun _ => .bool true) rfl (by omega) rfl rfl (fun r _ => rfl) (fun r hr _ => by
   have h1:=(h r hr).1
   have h2:=(h z L').1
   let t:DS:=[some (.d (eT r)),D]
   obtain⟨a,ea,ha2⟩:=BW (enc:=eT) (xs:=z::zs) (k:=0) (by decide) (by simp only[List.length_cons];omega)
   cases (A' ha2)
   refine oQ (.int (r.1.length:Nat)) (.int (z.1.length:Nat)) t (B9 (d:=eT r) (t5:=t) rfl (Ke (by omega))) (B9 (d:=eT z) (t5:=t) (oQ (.tuple ((z::zs).map eT)) (.int 0) t rfl rfl ea) (Ke (by omega))) ?_
   rw[encI.fEq,h1,h2,decide_eq_true rfl])
  rw[this,BM]
 have c2:Am (AE (AN FW (AA (dLC 1 [] (dIT (AB 0)) (dN 0) A7 (AH BC (AA (AB 0) (AA (dC (.str "#.")) (AA (dC (.int 1)) (AA (dC (.int 8)) AD)))))) AD))) τ=some (false,τ):=Fz (b:=true) (tst (B9 lc (Nj _)))
 exact(AF (t5:=τ) ((Bm (t5:=τ) (FZ (t5:=τ) rfl c1)).trans rfl)).trans ((AF (t5:=τ) ((Bm (t5:=τ) c2).trans rfl)).trans (AZ (B9 lc2 (Nj _))))
def GF:Nat->Mir
 |0=>DV
 |1=>EA
 |2=>D0
 |3=>CF
 |4=>DY
 |5=>DW
 |6=>Cv
 |7=>D1
 |8=>Cw
 |_=>DY
theorem Om{i:Nat}(hi:i<10):∀{l:List Nat},i∈l->(∀j∈l,j<10)->CB (l.map fun j=>((kS j).1,GF j)) (kS i).1=some (GF i)
 |[],h,_=>by cases h
 |j::l,h,hl=>by
  rw[X',CB]
  by_cases e:j=i
  ·subst e;rw[if_pos rfl]
  ·rw[if_neg fun z=>e (Io (hl j L') hi (cX z))]
   rcases Z'.mp h with z|z
   ·exact absurd z.symm e
   ·exact Om hi z fun k hk=>hl k (O' _ hk)
theorem ten{i:Nat}(hi:i<10):i∈[0,1,2,3,4,5,6,7,8,9]:=by
 have:∀i:Fin 10,i.1∈[0,1,2,3,4,5,6,7,8,9]:=by decide
 exact this ⟨i,hi⟩
theorem K3{i:Nat}(hi:i<10):CB Ap (kS i).1=some (GF i):=Om (l:=[0,1,2,3,4,5,6,7,8,9]) hi (ten hi) (by decide)
theorem R1(d:Dz)(ok:Mp d):∃ls,GF (kz d) [.d (eD d)]=some (.bool true,ls):=by
 cases d with
 |plate w h a b =>
  obtain⟨w0,w1,h0,h1,oa,ob⟩:=ok
  obtain⟨lp,ep⟩:=GS oa ob
  have e1:=BA w0 w1
  have e2:=BA h0 h1
  let τ:DS:=[some (.d (eD (.plate w h a b)))]
  refine⟨[.d (eD (.plate w h a b))],?_⟩
  show DV _=_
  unfold DV
  refine AU (τ:=τ) ?_ rfl rfl
  have c:=Fz (tst (BE (G:=BS) (a:=AA (dOp AK (AB 0) (dC (.int 2))) (AA (dOp AK (AB 0) (dC (.int 3))) AD)) (τ:=τ) (t5:=τ) (rs:=[.d (ec a),.d (ec b)]) (ds:=[ec a,ec b]) rfl rfl ep))
  refine(AF (t5:=τ) ((Bm (t5:=τ) (FZ (t5:=τ) rfl c)).trans rfl)).trans (AZ ?_)
  exact(EU (cQ τ [.int w,.int 1,.int 12] rfl rfl e1)).trans (cQ τ [.int h,.int 1,.int 12] rfl rfl e2)
 |band w h a b =>
  obtain⟨w0,w1,h0,h1,oa,ob⟩:=ok
  obtain⟨lp,ep⟩:=GS oa ob
  have e1:=BA w0 w1
  have e2:=BA h0 h1
  let τ:DS:=[some (.d (eD (.band w h a b)))]
  refine⟨[.d (eD (.band w h a b))],?_⟩
  show EA _=_
  unfold EA
  refine AU (τ:=τ) ?_ rfl rfl
  have c:=Fz (tst (BE (G:=BS) (a:=AA (dOp AK (AB 0) (dC (.int 2))) (AA (dOp AK (AB 0) (dC (.int 3))) AD)) (τ:=τ) (t5:=τ) (rs:=[.d (ec a),.d (ec b)]) (ds:=[ec a,ec b]) rfl rfl ep))
  refine(AF (t5:=τ) ((Bm (t5:=τ) (FZ (t5:=τ) rfl c)).trans rfl)).trans (AZ ?_)
  exact(EU (cQ τ [.int w,.int (-12),.int 12] rfl rfl e1)).trans (cQ τ [.int h,.int (-12),.int 12] rfl rfl e2)
 |word t a b =>
  obtain⟨h6,ha,oa,ob⟩:=ok
  obtain⟨lp,ep⟩:=GS oa ob
  obtain⟨lt,et⟩:=J6 ha h6
  let τ:DS:=[some (.d (eD (.word t a b)))]
  refine⟨[.d (eD (.word t a b))],?_⟩
  show D0 _=_
  unfold D0
  refine AU (τ:=τ) (AZ ?_) rfl rfl
  exact(EU (t5:=τ) rfl).trans ((EU (cQ τ [eT t] rfl rfl et)).trans (cQ τ [ec a,ec b] rfl rfl ep))
 |stencil R a b =>
  obtain⟨r1,r8,⟨w,w1,w8,hr⟩,oa,ob⟩:=ok
  obtain⟨lp,ep⟩:=GS oa ob
  obtain⟨lt,et⟩:=Hc r1 r8 w1 w8 hr
  let τ:DS:=[some (.d (eD (.stencil R a b)))]
  refine⟨[.d (eD (.stencil R a b))],?_⟩
  show CF _=_
  unfold CF
  refine AU (τ:=τ) (AZ ?_) rfl rfl
  exact(EU (t5:=τ) rfl).trans ((EU (cQ τ [.tuple (R.map eT)] rfl rfl et)).trans (cQ τ [ec a,ec b] rfl rfl ep))
 |group=>exact⟨_,rfl⟩
 |mask=>exact⟨_,rfl⟩
 |glass a =>
  obtain⟨lb,eb⟩:=Fo (show OkF a from ok)
  let τ:DS:=[some (.d (eD (.glass a)))]
  refine⟨[.d (eD (.glass a))],?_⟩
  show DW _=_
  unfold DW
  exact AU (τ:=τ) (AZ ((EU (t5:=τ) rfl).trans (cQ τ [ec a] rfl rfl eb))) rfl rfl
 |window w h x y =>
  obtain⟨w0,w1,h0,h1,x0,x1,y0,y1⟩:=ok
  have e1:=BA w0 w1
  have e2:=BA h0 h1
  have e3:=GQ x0 x1
  have e4:=GQ y0 y1
  let τ:DS:=[some (.d (eD (.window w h x y)))]
  refine⟨[.d (eD (.window w h x y))],?_⟩
  show Cv _=_
  unfold Cv
  refine AU (τ:=τ) ?_ rfl rfl
  have c1:=Fz (tst (BE (G:=A8) (a:=AA (dOp AK (AB 0) (dC (.int 2))) AD) (τ:=τ) (t5:=τ) (rs:=[.d (.int x)]) (ds:=[.int x]) rfl rfl e3))
  have c2:=Fz (tst (BE (G:=A8) (a:=AA (dOp AK (AB 0) (dC (.int 3))) AD) (τ:=τ) (t5:=τ) (rs:=[.d (.int y)]) (ds:=[.int y]) rfl rfl e4))
  refine(AF (t5:=τ) ((Bm (t5:=τ) (FZ (t5:=τ) rfl (FZ c1 c2))).trans rfl)).trans (AZ ?_)
  exact(EU (cQ τ [.int w,.int 1,.int 16] rfl rfl e1)).trans (cQ τ [.int h,.int 1,.int 16] rfl rfl e2)
 |turn q f =>
  obtain⟨q0,q1⟩:=ok
  have e1:=BA q0 q1
  let τ:DS:=[some (.d (eD (.turn q f)))]
  refine⟨[.d (eD (.turn q f))],?_⟩
  show D1 _=_
  unfold D1
  exact AU (τ:=τ) (AZ ((EU (t5:=τ) rfl).trans ((EU (cQ τ [.int q,.int 0,.int 3] rfl rfl e1)).trans rfl))) rfl rfl
 |tiles a b x y =>
  obtain⟨a0,a1,b0,b1,x0,x1,y0,y1⟩:=ok
  have e1:=BA a0 a1
  have e2:=BA b0 b1
  have e3:=BA x0 x1
  have e4:=BA y0 y1
  let τ:DS:=[some (.d (eD (.tiles a b x y)))]
  refine⟨[.d (eD (.tiles a b x y))],?_⟩
  show Cw _=_
  unfold Cw
  refine AU (τ:=τ) ?_ rfl rfl
  have c1:=Fz (tst (BE (G:=Ad) (a:=AA (dOp AK (AB 0) (dC (.int 0))) (AA (dC (.int 1)) (AA (dC (.int 3)) AD))) (τ:=τ) (t5:=τ) (rs:=[.d (.int a),.d (.int 1),.d (.int 3)]) (ds:=[.int a,.int 1,.int 3]) rfl rfl e1))
  have c2:=Fz (tst (BE (G:=Ad) (a:=AA (dOp AK (AB 0) (dC (.int 1))) (AA (dC (.int 1)) (AA (dC (.int 3)) AD))) (τ:=τ) (t5:=τ) (rs:=[.d (.int b),.d (.int 1),.d (.int 3)]) (ds:=[.int b,.int 1,.int 3]) rfl rfl e2))
  refine(AF (t5:=τ) ((Bm (t5:=τ) (FZ (t5:=τ) rfl (FZ c1 c2))).trans rfl)).trans (AZ ?_)
  exact(EU (cQ τ [.int x,.int (-20),.int 20] rfl rfl e3)).trans (cQ τ [.int y,.int (-20),.int 20] rfl rfl e4)
theorem MW(d:Dz)(ok:Mp d):∃ls,FH [.d (eT (kS (kz d))),.d (eD d)]=some (.bool true,ls):=by
 obtain⟨lf,ef⟩:=R1 d ok
 let τ:DS:=[some (.d (eT (kS (kz d)))),some (.d (eD d))]
 refine⟨[.d (eT (kS (kz d))),.d (eD d)],?_⟩
 unfold FH
 refine AU (τ:=τ) (AZ ?_) rfl rfl
 have c2:ON Ap (AB 0) τ=some (.bool true,τ):=by
  show some (PyData.bool (CB Ap (kS (kz d)).1).isSome,τ)=_
  rw[K3 (Im d)];rfl
 have c3:Bg "tuple" (AB 1) τ=some (.bool true,τ):=by cases d<;>rfl
 have c4:Gv Ap (AB 0) (AA (AB 1) AD) τ=some (.bool true,τ):=by
  show((CB Ap (kS (kz d)).1).bind fun G=>AH G (AA (AB 1) AD) τ)=_
  rw[K3 (Im d)]
  exact BE (G:=GF (kz d)) (a:=AA (AB 1) AD) (τ:=τ) (t5:=τ) (rs:=[.d (eD d)]) (ds:=[eD d]) rfl rfl ef
 exact(EU (t5:=τ) rfl).trans ((EU c2).trans ((EU c3).trans c4))
structure OkN(t:Tx):Prop where
 n1:1<=t.1.length
 n8:t.1.length<=8
 na:Az alN t.1
theorem OG{r:Rz}(hh:r.h=t0\/OkN r.h):BI (AE (dOp fNe (AH A0 (AA (AB 0) AD)) (dC (.str "")))) (Am (AE (AH B7 (AA (AH A0 (AA (AB 0) AD)) AD)))) [some (.d (eZ r))]=some (false,[some (.d (eZ r))]):=by
 let τ:DS:=[some (.d (eZ r))]
 have t1:AE (dOp fNe (AH A0 (AA (AB 0) AD)) (dC (.str ""))) τ=some (!decide (r.h=t0),τ):=tst (oQ (eT r.h) (eT t0) τ rfl rfl (VS _ _))
 by_cases h:r.h=t0
 ·rw[decide_eq_true h]at t1
  unfold BI
  rw[t1];rfl
 ·have hn:=hh.resolve_left h
  obtain⟨l3,e5⟩:=Ir hn.na hn.n1 hn.n8
  rw[decide_eq_false h]at t1
  exact(K2 t1 (Fz (tst (BE (G:=B7) (a:=AA (AH A0 (AA (AB 0) AD)) AD) (τ:=τ) (t5:=τ) (rs:=[.d (eT r.h)]) (ds:=[eT r.h]) rfl rfl e5)))).trans rfl
theorem OF{r:Rz}(ok:OkRow r)(hh:r.h=t0\/OkN r.h):∃ls,Ey [.d (eZ r)]=some (.bool true,ls):=by
 obtain⟨l1,e1⟩:=Ir ok.na ok.n1 ok.n8
 obtain⟨l2,e2⟩:=MW r.d ok.d
 have e3:=GQ ok.x0 ok.x1
 have e4:=GQ ok.y0 ok.y1
 let τ:DS:=[some (.d (eZ r))]
 refine⟨[.d (eZ r)],?_⟩
 unfold Ey
 refine AU (τ:=τ) ?_ rfl rfl
 have c1:=Fz (tst (BE (G:=B7) (a:=AA (AH DR (AA (AB 0) AD)) AD) (τ:=τ) (t5:=τ) (rs:=[.d (eT r.n)]) (ds:=[eT r.n]) rfl rfl e1))
 have c2:=OG hh
 have c3:=Fz (tst (BE (G:=A8) (a:=AA (AH GX (AA (AB 0) AD)) AD) (τ:=τ) (t5:=τ) (rs:=[.d (.int r.x)]) (ds:=[.int r.x]) rfl rfl e3))
 have c4:=Fz (tst (BE (G:=A8) (a:=AA (AH GW (AA (AB 0) AD)) AD) (τ:=τ) (t5:=τ) (rs:=[.d (.int r.y)]) (ds:=[.int r.y]) rfl rfl e4))
 refine(AF (t5:=τ) rfl).trans ((AF (t5:=τ) ((Bm (t5:=τ) c1).trans rfl)).trans ((AF (t5:=τ) ((Bm (t5:=τ) c2).trans rfl)).trans ((AF (t5:=τ) ((Bm (t5:=τ) (FZ c3 c4)).trans rfl)).trans (AZ ?_))))
 exact(EU (t5:=τ) rfl).trans (cQ τ [eT (kS (kz r.d)),eD r.d] rfl rfl e2)
theorem UA(r:Rz){j:Int}(h0:0<=j)(h1:j<7):∃d,AK (eZ r) (.int j)=some d:=by
 obtain⟨a,ea,_⟩:=BW (enc:=fun x=>x) (xs:=[eT r.n,eT r.h,.int r.x,.int r.y,.bool r.s,eT (kS (kz r.d)),eD r.d]) (k:=j) h0 (by show j<7;exact h1)
 rw[List.map_id']at ea
 exact⟨a,ea⟩
theorem J9{rs:List Rz}(hl:rs.length<=900):∃ls,Bb [.d (.list (rs.map eZ)),.d (.list (rs.map eZ))]=some (.bool true,ls):=by
 let D:Option L:=some (.d (.list (rs.map eZ)))
 let I:Int->Option L:=fun i=>some (.d (.int i))
 let st:Option L->Option L->DS:=fun a b=>[D,D,a,b]
 refine⟨[.d (.list (rs.map eZ)),.d (.list (rs.map eZ))],?_⟩
 let Bi:DB:=AQ (AE (dOp fNe (Bg "bool" (dOp AK (dOp A6 (AB 0) (AB 2)) (AB 3))) (Bg "bool" (dOp AK (dOp A6 (AB 1) (AB 2)) (AB 3))))) (AL (dC (.bool false))) AR
 have inn:∀(k:Int) (o:Option L),0<=k->k<(rs.length:Int)->nM o->∃o',nM o'/\B0 (dR1 (AA (dC (.int 7)) AD)) (dN 3) Bi (st (I k) o)=some (.nx (st (I k) o')):=by
  intro k o k0 k1 ho
  obtain⟨r,er,_⟩:=BW (enc:=eZ) k0 k1
  have lp := Bv (enc := PyData.int) (xs := rng 0 7) (τ := st (I k) o) (g := dN 3) (b := Bi) (fun (pre : List Int) τ => ∃ o', nM o' /\ τ = st (I k) o') ⟨o, ho, rfl⟩ (by
   rintro pre j post τ e ⟨o',ho',rfl⟩
   have hj:=(mem_rng (n:=7)).mp (FF e)
   obtain⟨d,ed⟩:=UA r (j:=j) (by omega) (by omega)
   let t:=st (I k) (I j)
   refine⟨t,t,Bs (o:=o') rfl ho',?_,_,Bz,rfl⟩
   have y1:∀v:Nat,t[v]?=some D->Bg "bool" (dOp AK (dOp A6 (AB v) (AB 2)) (AB 3)) t=some (.bool (Ro "bool" d),t):=fun v hv=>by
    unfold Bg
    rw[oQ (eZ r) (.int j) t (oQ (.list (rs.map eZ)) (.int k) t (by unfold AB;rw[hv]) rfl er) rfl ed]
    rfl
   refine(Bm (t5:=t) (tst (op2 (y1 0 rfl) (y1 1 rfl) ?_))).trans rfl
   cases Ro "bool" d<;>rfl)
  obtain⟨t7,e,o',ho',rfl⟩:=lp
  exact⟨o',ho',(C2 (GP (n:=7) (t5:=st (I k) o) rfl (by decide) (by decide))).trans e⟩
 have lp := Bv (enc := PyData.int) (xs := rng 0 (rs.length : Int).toNat) (τ := st none none) (g := dN 2) (b := B0 (dR1 (AA (dC (.int 7)) AD)) (dN 3) Bi) (fun (pre : List Int) τ => ∃ a b, nM a /\ nM b /\ τ = st a b) ⟨none, none, Ao, Ao, rfl⟩ (by
  rintro pre k post τ e ⟨a,b,ha,hb,rfl⟩
  have hk:=mem_rng.mp (FF e)
  obtain⟨o',ho',ei⟩:=inn k b (by omega) (by omega) hb
  exact⟨_,_,Bs (o:=a) rfl ha,ei,_,_,Bz,ho',rfl⟩)
 obtain⟨t7,e,a,b,ha,hb,rfl⟩:=lp
 unfold Bb
 refine AU (τ:=st a b) ?_ rfl rfl
 have c1:AE (dOp fNe (AB 0) (AB 1)) (st none none)=some (false,st none none):=tst (oQ (.list (rs.map eZ)) (.list (rs.map eZ)) (st none none) rfl rfl (by rw[encZ.fNeL,decide_eq_true rfl];rfl))
 refine(AF (t5:=st none none) ((Bm (t5:=st none none) (FZ (t5:=st none none) rfl c1)).trans rfl)).trans ((AF (t5:=st a b) ((C2 (GP (n:=(rs.length:Int)) (t5:=st none none) ?_ (by omega) (by omega))).trans ?_)).trans rfl)
 ·show some ([Ar.d (.int ((rs.map eZ).length:Int))],_)=_
  rw[B']
 ·exact e
abbrev c1(c:Nat):Str:=⟨#[c]⟩
abbrev nS(c:Nat)(w:Str):Prop:=c∉w.cps.toList
theorem Qp{x:Str}{c i:Nat}(h:x.cps.toList[i]?=some c):StrLaws.At x (c1 c) x.length i:=by
 obtain⟨hi,e⟩:=F'.mp h
 refine⟨by rw[cE]at hi;exact hi,?_⟩
 rw[StrLaws.subAt_eq]
 show(List.take 1 (List.drop i x.cps.toList)==[c])=true
 rw[bL hi,e]
 simp
theorem Kc{x:Str}{c a b:Nat}(h:c∈(Builtin.Str.strSub x a b).cps.toList):∃i,a<=i/\i<b/\StrLaws.At x (c1 c) x.length i:=by
 rw[StrLaws.strSub_toList]at h
 obtain⟨j,hj⟩:=bw.mp h
 rw[List.getElem?_take]at hj
 split at hj
 ·rw[List.getElem?_drop]at hj
  exact⟨a+j,by omega,by omega,Qp hj⟩
 ·cases hj
theorem MP{x:Str}{c lim:Nat}:∀(n a:Nat) (st:Array Nat×Nat),st.snd<=a->st.fst.size<=a->a+n<=lim+1 ->
  (∀i∈st.fst.toList,i∈(forIn (List.range' a n) st (StrLaws.occBody x (c1 c) x.length (lim+1))).run.fst.toList)/\(∀i∈List.range' a n,StrLaws.At x (c1 c) x.length i->i∈(forIn (List.range' a n) st (StrLaws.occBody x (c1 c) x.length (lim+1))).run.fst.toList)
 |0,a,st,_,_,_=>⟨fun i h=>h,fun i h=>by simp at h⟩
 |n+1,a,st,h1,h2,h3=>by
  rw[List.range'_succ,cV]
  unfold StrLaws.occBody
  split
  ·obtain⟨q1,q2⟩:=MP (x:=x) (c:=c) (lim:=lim) n (a+1) (st.fst.push a,a+(c1 c).length) (J' _) (by rw[Array.size_push];omega) (by omega)
   refine⟨fun i hi=>q1 i (by rw[Array.toList_push];exact bM _ hi),fun i hi hA=>?_⟩
   rcases Z'.mp hi with rfl|hi
   ·exact q1 i (by rw[Array.toList_push];simp)
   ·exact q2 i hi hA
  ·rename_i hc
   obtain⟨q1,q2⟩:=MP (x:=x) (c:=c) (lim:=lim) n (a+1) st (by omega) (by omega) (by omega)
   refine⟨q1,fun i hi hA=>?_⟩
   rcases Z'.mp hi with rfl|hi
   ·exact absurd ⟨⟨⟨by omega,h1⟩,hA.1⟩,hA.2⟩ hc
   ·exact q2 i hi hA
theorem Tg{x y:Str}:∀{cuts:List Nat} {a f:Nat},StrLaws.ChainTo x y x.length a cuts f->∀i∈cuts,a<=i
 |[],_,_,_,i,h=>by cases h
 |c::r,a,f,h,i,hi=>by
  rcases Z'.mp hi with rfl|hi
  ·exact h.1
  ·have:=Tg h.2.2 i hi;have:=h.1;omega
theorem LG{x:Str}{c:Nat}:∀{cuts:List Nat} {a f:Nat},StrLaws.ChainTo x (c1 c) x.length a cuts f->(∀i,a<=i->StrLaws.At x (c1 c) x.length i->i∈cuts)->∀p∈StrLaws.partsFrom x 1 a cuts,nS c p
 |[],a,f,h,k,p,hp,hc=>by
  rw[aT.mp hp]at hc
  obtain⟨i,h1,_,h3⟩:=Kc hc
  cases k i h1 h3
 |q::r,a,f,h,k,p,hp,hc=>by
  rcases Z'.mp hp with rfl|hp
  ·obtain⟨i,h1,h2,h3⟩:=Kc hc
   rcases Z'.mp (k i h1 h3)with rfl|hi
   ·omega
   ·have:=Tg h.2.2 i hi
    have e:(c1 c).length=1:=rfl
    omega
  ·refine LG (cuts:=r) (a:=q+1) h.2.2 (fun i hi hA=>?_) p hp hc
   rcases Z'.mp (k i (by have:=h.1;omega) hA)with rfl|hi
   ·omega
   ·assumption
theorem Oy{x:Str}{c:Nat}(hc:c<256):∀p∈Txt.split x (c1 c),nS c p:=by
 unfold Txt.split
 split
 ·rename_i h
  intro p hp hm
  rw[aT.mp hp]at hm
  rcases Bool.or_eq_true_iff.mp h with h|h
  ·have h:=of_decide_eq_true h
   have:x.cps.toList.length<1:=by rw[cE];exact h
   rw[show x.cps.toList=[] from List.eq_nil_of_length_eq_zero (by omega)]at hm
   cases hm
  ·have h:=of_decide_eq_true h
   have e:Builtin.Str.strKind (c1 c)=1:=by unfold Builtin.Str.strKind;rw[if_pos (by simp[hc])]
   rw[e]at h
   have:1<=Builtin.Str.strKind x:=by
    unfold Builtin.Str.strKind
    split
    ·omega
    ·split<;>omega
   omega
 ·obtain⟨f,hf⟩:=StrLaws.occ_chain x (c1 c) (x.length+1)
  have hin:∀i,0<=i->StrLaws.At x (c1 c) x.length i->i∈Builtin.Str.occurrences x (c1 c) 0 x.length (x.length+1):=fun i _ hA=>by
   rw[StrLaws.occ_eq]
   exact(MP (x:=x) (c:=c) (lim:=x.length) (x.length+1) 0 (#[],0) (J' _) (J' _) (by omega)).2 i (by have:=hA.1;simp[List.mem_range'];omega) hA
  split
  ·rename_i h
   intro p hp hm
   rw[aT.mp hp]at hm
   obtain⟨j,hj⟩:=bw.mp hm
   have:=hin j (bH _) (Qp hj)
   rw[List.isEmpty_iff.mp h]at this
   cases this
  ·rw[StrLaws.partsBetween_eq]
   exact LG hf hin
theorem Mi{c:Nat}:∀{u v r s:List Nat},c∉u->c∉v->(r=[]\/r.head?=some c)->(s=[]\/s.head?=some c)->u++r=v++s->u=v/\r=s
 |[],[],r,s,_,_,_,_,e=>⟨rfl,e⟩
 |a::u,[],r,s,hu,_,_,hs,e=>by
  rcases hs with rfl|hs
  ·cases e
  ·rw[bc]at e
   rw[<- e]at hs
   injection hs with hs
   exact absurd (hs▸L') hu
 |[],b::v,r,s,_,hv,hr,_,e=>by
  rcases hr with rfl|hr
  ·cases e
  ·rw[bc]at e
   rw[e]at hr
   injection hr with hr
   exact absurd (hr▸L') hv
 |a::u,b::v,r,s,hu,hv,hr,hs,e=>by
  injection e with e1 e2
  obtain⟨q1,q2⟩:=Mi (fun h=>hu (O' _ h)) (fun h=>hv (O' _ h)) hr hs e2
  exact⟨by rw[e1,q1],q2⟩
def jT(c:Nat):List Str->List Nat
 |[]=>[]
 |w::ws=>c::(w.cps.toList++jT c ws)
theorem NM(c:Nat)(ws:List Str):jT c ws=[]\/(jT c ws).head?=some c:=by cases ws with
 |nil=>exact .inl rfl
 |cons w ws=>exact .inr rfl
theorem EC(c:Nat):∀(w:Str) (ws:List Str),(Str.join (c1 c) (w::ws)).cps.toList=w.cps.toList++jT c ws
 |w,[]=>by show w.cps.toList=_;rw[jT,bD]
 |w,v::ws=>by
  show(w++c1 c++Str.join (c1 c) (v::ws)).cps.toList=_
  rw[bK,bK,af,af,EC c v ws,bN]
  rfl
theorem FE{a b:Str}(h:a.cps.toList=b.cps.toList):a=b:=Str.ext' (Array.toList_inj.mp h)
theorem Lf{c:Nat}:∀{ws vs:List Str},(∀w∈ws,nS c w)->(∀w∈vs,nS c w)->jT c ws=jT c vs->ws=vs
 |[],[],_,_,_=>rfl
 |[],v::vs,_,_,e=>by cases e
 |w::ws,[],_,_,e=>by cases e
 |w::ws,v::vs,hw,hv,e=>by
  injection e with _ e
  obtain⟨q1,q2⟩:=Mi (hw w L') (hv v L') (NM c ws) (NM c vs) e
  rw[FE q1,Lf (fun x hx=>hw x (O' _ hx)) (fun x hx=>hv x (O' _ hx)) q2]
theorem FX{c:Nat}(hc:c<256){ws:List Str}(hn:ws≠[])(h:∀w∈ws,nS c w):Txt.split (Txt.join (c1 c) ws) (c1 c)=ws:=by
 have e:=StrLaws.join_split (Txt.join (c1 c) ws) (c1 c)
 have h2:=Oy (x:=Txt.join (c1 c) ws) hc
 generalize hs:Txt.split (Txt.join (c1 c) ws) (c1 c)=vs at e h2
 rw[show Txt.join (c1 c) ws=Str.join (c1 c) ws from bC _ _]at e
 cases ws with
 |nil=>exact absurd rfl hn
 |cons w ws =>
  cases vs with
  |nil =>
   have:(Txt.split (Txt.join (c1 c) (w::ws)) (c1 c)).length=0:=by rw[hs];rfl
   unfold Txt.split at this
   split at this
   ·cases this
   ·split at this
    ·cases this
    ·rw[StrLaws.partsBetween_eq]at this
     obtain⟨p,r,q⟩:=StrLaws.partsFrom_ne (Txt.join (c1 c) (w::ws)) (c1 c).length 0 (Builtin.Str.occurrences (Txt.join (c1 c) (w::ws)) (c1 c) 0 (Txt.join (c1 c) (w::ws)).length ((Txt.join (c1 c) (w::ws)).length+1))
     rw[q]at this;cases this
  |cons v vs =>
   refine Lf (c:=c) h2 h ?_
   show c::(v.cps.toList++jT c vs)=c::(w.cps.toList++jT c ws)
   rw[<- EC,<- EC,e]
theorem RO{c:Nat}{a b:Str}(ha:nS c a):Txt.partition (a++c1 c++b) (c1 c)=(a,c1 c,b):=by
 have e:=StrLaws.partition_sum (a++c1 c++b) (c1 c)
 unfold Txt.partition at e ⊢
 rcases StrLaws.occ_head (a++c1 c++b) (c1 c) 1 (J' _)with ⟨_,h⟩|⟨i,r,h0,h1,h2⟩
 ·refine absurd (Qp (x:=a++c1 c++b) (i:=a.cps.toList.length) (c:=c) ?_) (h _)
  rw[bK,bK,af,af,bN,aV (J' _),Nat.sub_self]
  rfl
 ·rw[h0]at e ⊢
  dsimp only at e ⊢
  generalize hp:Builtin.Str.strSub (a++c1 c++b) 0 i=p at e ⊢
  generalize Builtin.Str.strSub (a++c1 c++b) (i+(c1 c).length) (a++c1 c++b).length=q at e ⊢
  have hn:nS c p:=fun hm=>by
   rw[<- hp]at hm
   obtain⟨j,_,h3,h4⟩:=Kc hm
   exact h2 j h3 h4
  have e2:=congrArg (fun s=>s.cps.toList) e
  simp only[Str.cps_append,Array.toList_append,List.append_assoc]at e2
  obtain⟨q1,q2⟩:=Mi hn ha (.inr rfl) (.inr rfl) e2
  rw[FE q1,FE (List.append_cancel_left q2)]
def alI:Str:="-0123456789"
def alP:Str:="-0123456789abcdefghijklmnopqrstuvwxyz_#./:"
def alB:Str:="-0123456789abcdefghijklmnopqrstuvwxyz_#./: "
def alL:Str:="-0123456789abcdefghijklmnopqrstuvwxyz_#./: \n"
theorem CU{a b s:Str}(h:Az a s)(k:∀c∈a.cps.toList,c∈b.cps.toList):Az b s:=fun c hc=>k c (h c hc)
theorem QB{al s t:Str}(h:Az al s)(k:Az al t):Az al (s++t):=by
 intro c hc
 rw[bK,af]at hc
 rcases au.mp hc with h1|h1
 ·exact h c h1
 ·exact k c h1
theorem Jr{al s:Str}{c:Nat}(h:Az al s)(k:c∉al.cps.toList):nS c s:=fun hc=>k (h c hc)
theorem TZ{al:Str}{c:Nat}(hc:c∈al.cps.toList):∀{ws:List Str},(∀w∈ws,Az al w)->∀x∈jT c ws,x∈al.cps.toList
 |[],_,x,hx=>by cases hx
 |w::ws,h,x,hx=>by
  rcases Z'.mp hx with rfl|hx
  ·exact hc
  ·rcases au.mp hx with hx|hx
   ·exact h w L' x hx
   ·exact TZ hc (fun v hv=>h v (O' _ hv)) x hx
theorem Kk{al:Str}{c:Nat}(hc:c∈al.cps.toList){w:Str}{ws:List Str}(h:∀v∈w::ws,Az al v):Az al (Txt.join (c1 c) (w::ws)):=by
 intro x hx
 rw[show Txt.join (c1 c) (w::ws)=Str.join (c1 c) (w::ws) from bC _ _,EC]at hx
 rcases au.mp hx with hx|hx
 ·exact h w L' x hx
 ·exact TZ hc (fun v hv=>h v (O' _ hv)) x hx
abbrev NI(i:Int):Prop:=-60<=i/\i<=1000
def whT(i:Int):Bool:=(match BB [.d (.str (tS i))] with
 |some (.int j,_)=>decide (j=i)
 |_=>false)&&((tS i).cps.toList.all fun c=>alI.cps.toList.contains c)&&decide ((tS i).length<=6)
def chk(k:Nat):Bool:=(List.range 54).all fun n=>whT ((n:Int)+54*(k:Int)-60)
theorem wh0:chk 0=true:=∅
theorem wh1:chk 1=true:=∅
theorem wh2:chk 2=true:=∅
theorem wh3:chk 3=true:=∅
theorem wh4:chk 4=true:=∅
theorem wh5:chk 5=true:=∅
theorem wh6:chk 6=true:=∅
theorem wh7:chk 7=true:=∅
theorem wh8:chk 8=true:=∅
theorem wh9:chk 9=true:=∅
theorem Zf:chk 10=true:=∅
theorem Ze:chk 11=true:=∅
theorem Zd:chk 12=true:=∅
theorem Zc:chk 13=true:=∅
theorem Zb:chk 14=true:=∅
theorem Za:chk 15=true:=∅
theorem ZZ:chk 16=true:=∅
theorem ZY:chk 17=true:=∅
theorem ZX:chk 18=true:=∅
theorem ZW:chk 19=true:=∅
theorem Sb:∀k,k<20->chk k=true
 |0,_=>wh0
 |1,_=>wh1
 |2,_=>wh2
 |3,_=>wh3
 |4,_=>wh4
 |5,_=>wh5
 |6,_=>wh6
 |7,_=>wh7
 |8,_=>wh8
 |9,_=>wh9
 |10,_=>Zf
 |11,_=>Ze
 |12,_=>Zd
 |13,_=>Zc
 |14,_=>Zb
 |15,_=>Za
 |16,_=>ZZ
 |17,_=>ZY
 |18,_=>ZX
 |19,_=>ZW
 |n+20,h=>absurd h (by omega)
theorem L4{i:Int}(h:NI i):whT i=true:=by
 have hk:(i+60).toNat / 54<20:=by omega
 have e:=aZ.mp (Sb _ hk) ((i+60).toNat % 54) (bh.mpr (by omega))
 rwa [show(((i+60).toNat % 54:Nat):Int)+54*(((i+60).toNat / 54:Nat):Int)-60=i by omega]at e
theorem Bu{i:Int}(h:NI i):∃ls,BB [.d (.str (tS i))]=some (.int i,ls):=by
 have h:=L4 h
 unfold whT at h
 rw[K',K']at h
 have h:=h.1.1
 split at h
 ·rename_i j ls e
  rw[of_decide_eq_true h]at e
  exact⟨ls,e⟩
 ·cases h
theorem Jg{i:Int}(h:NI i):Az alI (tS i):=by
 have h:=L4 h
 unfold whT at h
 rw[K',K']at h
 intro c hc
 have:=aZ.mp h.1.2 c hc
 exact List.contains_iff_mem.mp this
theorem EF{i:Int}(h:NI i):(tS i).length<=6:=by
 have h:=L4 h
 unfold whT at h
 rw[K',K']at h
 exact of_decide_eq_true h.2
theorem MU{i:Int}(h:NI i):i.natAbs.log2<1920:=cK (Nat.log2_le_self _) (by omega)
theorem K4{i:Int}(h:NI i):C5 [.int i]=some (.str (tS i)):=if_pos (MU h)
inductive Dt where
 |i (n:Int)
 |f (a:Cl)
 |t (x:Tx)
 |r (R:List Tx)
 |b (f:Bool)
def fw(a:Cl):Str:=tS a.1++"/"++tS a.2
def hw(t:Tx):Str:=if t=t0 then "." else t.1
def eDt:Dt->PyData
 |.i n=>.int n
 |.f a=>ec a
 |.t x=>eT x
 |.r R=>.tuple (R.map eT)
 |.b f=>.bool f
def fo:Nat->Tx
 |0=>⟨"whole",∅⟩
 |1=>⟨"fraction",∅⟩
 |2=>⟨"text",∅⟩
 |3=>⟨"rows",∅⟩
 |_=>⟨"flipped",∅⟩
def fmN:Dt->Nat
 |.i _=>0
 |.f _=>1
 |.t _=>2
 |.r _=>3
 |.b _=>4
def fm(d:Dt):PyData:=eT (fo (fmN d))
def wd:Dt->Str
 |.i n=>tS n
 |.f a=>fw a
 |.t x=>hw x
 |.r R=>Txt.join ":" (R.map (·.1))
 |.b f=>if f=true then "flip" else "flat"
def Qs:Dt->Prop
 |.i n=>NI n
 |.f a=>OkF a
 |.t x=>x.1.length<=6/\Az alW x.1
 |.r R=>1<=R.length/\R.length<=8/\∀r∈R,r.1.length<=8/\Az alS r.1
 |.b _=>True
def dts:Dz->List Dt
 |.plate w h a b=>[.i w,.i h,.f a,.f b]
 |.band w h a b=>[.i w,.i h,.f a,.f b]
 |.word t a b=>[.t t,.f a,.f b]
 |.stencil R a b=>[.r R,.f a,.f b]
 |.group=>[]
 |.glass a=>[.f a]
 |.window w h x y=>[.i w,.i h,.i x,.i y]
 |.turn q f=>[.i q,.b f]
 |.tiles a b x y=>[.i a,.i b,.i x,.i y]
 |.mask=>[]
theorem MZ(d:Dz):eD d = .tuple ((dts d).map eDt):=by cases d<;>rfl
theorem QM(d:Dz):Cc AS (kS (kz d)).1=some (.tuple ((dts d).map fm)):=by cases d<;>rfl
theorem Hx(d:Dz):(dts d).length<=4:=by cases d<;>simp[dts]
theorem KQ{d:Dz}(h:Mp d):∀x∈dts d,Qs x:=by
 cases d with
 |plate w h a b=>obtain⟨h1,h2,h3,h4,h5,h6⟩:=h;simp only[dts,List.forall_mem_cons];exact⟨by constructor<;>omega,by constructor<;>omega,h5,h6,fun _ z=>nomatch z⟩
 |band w h a b=>obtain⟨h1,h2,h3,h4,h5,h6⟩:=h;simp only[dts,List.forall_mem_cons];exact⟨by constructor<;>omega,by constructor<;>omega,h5,h6,fun _ z=>nomatch z⟩
 |word t a b=>obtain⟨h1,h2,h5,h6⟩:=h;simp only[dts,List.forall_mem_cons];exact⟨⟨h1,h2⟩,h5,h6,fun _ z=>nomatch z⟩
 |stencil R a b=>obtain⟨h1,h2,⟨w,h3,h4,h7⟩,h5,h6⟩:=h;simp only[dts,List.forall_mem_cons];exact⟨⟨h1,h2,fun r hr=>⟨by rw[(h7 r hr).1];exact h4,(h7 r hr).2⟩⟩,h5,h6,fun _ z=>nomatch z⟩
 |glass a=>simp only[dts,List.forall_mem_cons];exact⟨h,fun _ z=>nomatch z⟩
 |window w h' x y=>obtain⟨h1,h2,h3,h4,h5,h6,h7,h8⟩:=h;simp only[dts,List.forall_mem_cons];exact⟨by constructor<;>omega,by constructor<;>omega,by constructor<;>omega,by constructor<;>omega,fun _ z=>nomatch z⟩
 |turn q f=>obtain⟨h1,h2⟩:=h;simp only[dts,List.forall_mem_cons];exact⟨by constructor<;>omega,trivial,fun _ z=>nomatch z⟩
 |tiles a b x y=>obtain⟨h1,h2,h3,h4,h5,h6,h7,h8⟩:=h;simp only[dts,List.forall_mem_cons];exact⟨by constructor<;>omega,by constructor<;>omega,by constructor<;>omega,by constructor<;>omega,fun _ z=>nomatch z⟩
 |group=>exact fun _ z=>nomatch z
 |mask=>exact fun _ z=>nomatch z
theorem OkF.n1{a:Cl}(h:OkF a):NI a.1:=by have:=h.lo;have:=h.hi;have:=h.b2;constructor<;>omega
theorem OkF.n2{a:Cl}(h:OkF a):NI a.2:=by have:=h.b1;have:=h.b2;constructor<;>omega
theorem bl:(" ":Str)=c1 32:=∅
theorem co:(":":Str)=c1 58:=∅
theorem sl:("/":Str)=c1 47:=∅
theorem lf:("\n":Str)=c1 10:=∅
theorem I_P:∀c∈alI.cps.toList,c∈alP.cps.toList:=∅
theorem N_P:∀c∈alN.cps.toList,c∈alP.cps.toList:=∅
theorem W_P:∀c∈alW.cps.toList,c∈alP.cps.toList:=∅
theorem S_P:∀c∈alS.cps.toList,c∈alP.cps.toList:=∅
theorem Zh:Az alP "/":=by unfold Az;decide +kernel
theorem XU:Az alP ".":=by unfold Az;decide +kernel
theorem Zx(f:Bool):Az alP (wd (.b f)):=by unfold Az;cases f<;>decide +kernel
theorem VR(f:Bool):(wd (.b f)).length<=100:=by cases f<;>decide +kernel
theorem Ip(sep:Str)(h1:sep.length<=1){n m:Nat}{ws:List Str}(h:∀w∈ws,w.length<=n)(hm:ws.length<=m):(ws.map (·.length)).sum+ws.length*sep.length<=m*(n+1):=by
 have:(ws.map (·.length)).sum<=ws.length*n:=by
  clear hm
  induction ws with
  |nil=>exact bH _
  |cons w ws ih =>
   have h1:=ih fun v hv=>h v (O' _ hv)
   have h2:=h w L'
   rw[X',List.sum_cons,aR,Nat.succ_mul];omega
 have h3:ws.length*sep.length<=ws.length*1:=Nat.mul_le_mul_left _ h1
 have h4:ws.length*(n+1)<=m*(n+1):=Nat.mul_le_mul_right _ hm
 rw[Nat.mul_succ]at h4
 omega
theorem Fc(sep:Str)(h1:sep.length<=1){n m:Nat}{ws:List Str}(h:∀w∈ws,w.length<=n)(hm:ws.length<=m):(Txt.join sep ws).length<=m*(n+1):=by
 rw[show Txt.join sep ws=Str.join sep ws from bC _ _]
 exact W' (StrLaws.join_length_le sep ws) (Ip sep h1 h hm)
theorem Ob{d:Dt}(h:Qs d):Az alP (wd d)/\(wd d).length<=100:=by
 cases d with
 |i n=>exact⟨CU (Jg h) I_P,W' (EF h) (by decide)⟩
 |f a =>
  refine⟨QB (QB (CU (Jg h.n1) I_P) Zh) (CU (Jg h.n2) I_P),?_⟩
  show(tS a.1++"/"++tS a.2).length<=100
  have:=EF h.n1
  have:=EF h.n2
  rw[bO,bO,show("/":Str).length=1 by decide +kernel];omega
 |t x =>
  show Az alP (hw x)/\(hw x).length<=100
  unfold hw
  split
  ·exact⟨XU,∅⟩
  ·exact⟨CU h.2 W_P,W' h.1 (by decide)⟩
 |r R =>
  obtain⟨h1,h2,h3⟩:=h
  show Az alP (Txt.join ":" (R.map (·.1)))/\(Txt.join ":" (R.map (·.1))).length<=100
  constructor
  ·cases R with
   |nil=>simp at h1
   |cons z zs =>
    rw[co,X']
    refine Kk ∅ fun v hv=>?_
    rw[<- X']at hv
    obtain⟨r,hr,rfl⟩:=av.mp hv
    exact CU (h3 r hr).2 S_P
  ·refine W' (Fc ":" ∅ (n:=8) (m:=8) (fun w hw=>?_) (by rw[B'];exact h2)) (by decide)
   obtain⟨r,hr,rfl⟩:=av.mp hw
   exact(h3 r hr).1
 |b f=>exact⟨Zx f,VR f⟩
theorem To{xs:List PyData}{k:Nat}{d:PyData}(h:xs[k]?=some d):atI xs (k:Int)=some d:=by
 have hk:k<xs.length:=(F'.mp h).1
 unfold atI ixN
 rw[if_pos (by omega),if_pos (by omega)]
 exact h
theorem skT{c:DT}{a b:DB}{τ:DS}(h:c τ=some (false,τ)):AI (AQ c a AR) b τ=b τ:=AF ((Bm h).trans rfl)
theorem tkT{c:DT}{a b:DB}{τ t7:DS}{d:PyData}(h:c τ=some (true,τ))(k:a τ=some (.rt d t7)):AI (AQ c a AR) b τ=some (.rt d t7):=by
 unfold AI
 rw[FV h,k];rfl
theorem Ru{c:DT}{a b:DX}{τ t5:DS}(h:c τ=some (true,t5)):dIf c a b τ=a t5:=by unfold dIf;rw[h];rfl
theorem VF{c:DT}{a b:DX}{τ t5:DS}(h:c τ=some (false,t5)):dIf c a b τ=b t5:=by unfold dIf;rw[h];rfl
theorem VN:∀i j:_root_.Fin 5,decide (fo i.1=fo j.1)=decide (i.1=j.1):=∅
theorem VQ(d:Dt):fmN d<5:=by cases d<;>simp[fmN]
theorem fq{d:Dt}{j:Nat}(hj:j<5){o:Option L}:AE (dOp fEq (AB 0) (dC (eT (fo j)))) [some (.d (fm d)),o]=some (decide (fmN d=j),[some (.d (fm d)),o]):=by
 refine tst (oQ (eT (fo (fmN d))) (eT (fo j)) [some (.d (fm d)),o] rfl rfl ?_)
 rw[Gu]
 exact congrArg (fun b=>some (PyData.bool b)) (VN ⟨fmN d,VQ d⟩ ⟨j,hj⟩)
theorem fS{d:Dt}{j:Nat}{o:Option L}{a b:DB}(hj:j<5)(hn:fmN d≠j):AI (AQ (AE (dOp fEq (AB 0) (dC (eT (fo j))))) a AR) b [some (.d (fm d)),o]=b [some (.d (fm d)),o]:=skT ((fq hj).trans (by rw[decide_eq_false hn]))
theorem fT{d:Dt}{j:Nat}{o:Option L}{a b:DB}{x:PyData}{τ:DS}(hj:j<5)(hn:fmN d=j)(k:a [some (.d (fm d)),o]=some (.rt x τ)):AI (AQ (AE (dOp fEq (AB 0) (dC (eT (fo j))))) a AR) b [some (.d (fm d)),o]=some (.rt x τ):=tkT ((fq hj).trans (by rw[decide_eq_true hn])) k
theorem Ye(s:Str):Str.empty++s=s:=FE (by rw[bK,af];rfl)
theorem VX(s:Str):""++s=s:=FE (by rw[bK,af,show("":Str).cps.toList=[] by decide +kernel];rfl)
theorem sl1:("/":Str).length=1:=∅
theorem YK{a:Cl}(h:OkF a){o:Option L}:dF3 "/" (AB 1) (AB 2) [o,some (.d (.int a.1)),some (.d (.int a.2))]=some (.str (fw a),[o,some (.d (.int a.1)),some (.d (.int a.2))]):=by
 have h1:=EF h.n1
 have h2:=EF h.n2
 unfold dF3
 show(if _ then _ else none)=_
 rw[Ye,if_pos ⟨MU h.n1,sz (by omega),sz (by rw[bO,sl1];omega)⟩]
 show(if _ then _ else none)=_
 rw[if_pos ⟨MU h.n2,sz (by rw[bO,bO,sl1];omega)⟩]
 rfl
theorem VL{a:Cl}(h:OkF a):BU [.d (ec a)]=some (.str (fw a),[.d (ec a)]):=by
 unfold BU
 exact AU (τ:=[some (.d (ec a)),some (.d (.int a.1)),some (.d (.int a.2))]) ((AF (t5:=[some (.d (ec a)),some (.d (.int a.1)),none]) rfl).trans ((AF (t5:=[some (.d (ec a)),some (.d (.int a.1)),some (.d (.int a.2))]) rfl).trans (AZ (YK h)))) rfl rfl
theorem Oj(x:Tx):BK [.d (eT x)]=some (.str (hw x),[.d (eT x)]):=by
 unfold BK hw
 have c:AE (dOp fEq (AB 0) (dC (.str ""))) [some (.d (eT x))]=some (decide (x=t0),[some (.d (eT x))]):=tst (oQ (eT x) (eT t0) [some (.d (eT x))] rfl rfl (Gu x t0))
 refine AU (τ:=[some (.d (eT x))]) (AZ ?_) rfl rfl
 by_cases h:x=t0
 ·rw[decide_eq_true h]at c
  rw[if_pos h];exact(Ru c).trans rfl
 ·rw[decide_eq_false h]at c
  rw[if_neg h];exact(VF c).trans rfl
def ptT:Tx:=⟨".",∅⟩
theorem Ol{x:Tx}(hx:nS 46 x.1):B6 [.d (.str (hw x))]=some (eT x,[.d (.str (hw x))]):=by
 unfold B6 hw
 by_cases h:x=t0
 ·rw[if_pos h]
  have c:AE (dOp fEq (AB 0) (dC (.str "."))) [some (.d (eT ptT))]=some (true,[some (.d (eT ptT))]):=tst (oQ (eT ptT) (eT ptT) [some (.d (eT ptT))] rfl rfl ((Gu _ _).trans (by rw[decide_eq_true rfl])))
  exact AU (τ:=[some (.d (eT ptT))]) (AZ ((Ru c).trans (by rw[h];rfl))) rfl rfl
 ·rw[if_neg h]
  have hn:x≠ptT:=fun z=>hx (by rw[z];decide +kernel)
  have c:AE (dOp fEq (AB 0) (dC (.str "."))) [some (.d (eT x))]=some (false,[some (.d (eT x))]):=tst (oQ (eT x) (eT ptT) [some (.d (eT x))] rfl rfl ((Gu _ _).trans (by rw[decide_eq_false hn])))
  exact AU (τ:=[some (.d (eT x))]) (AZ ((VF c).trans rfl)) rfl rfl
theorem Ou:∀R:List Tx,Ei (R.map eT)=some (R.map (·.1))
 |[]=>rfl
 |r::R=>by
  show(Ei (R.map eT)).map _=_
  rw[Ou R];rfl
theorem Lg{R:List Tx}(h8:R.length<=8)(h:∀r∈R,r.1.length<=8){f:DX}{τ t5:DS}(e:f τ=some (.tuple (R.map eT),t5)):E2 ":" f τ=some (.str (Txt.join ":" (R.map (·.1))),t5):=by
 unfold E2
 rw[e]
 show(Ei (R.map eT)).bind _=_
 rw[Ou]
 show(if _ then _ else none)=_
 rw[if_pos]
 refine W' (Ip ":" ∅ (n:=8) (m:=8) (fun w hw=>?_) (by rw[B'];exact h8)) (by decide)
 obtain⟨r,hr,rfl⟩:=av.mp hw
 exact h r hr
theorem Yi{d:Dt}(h:Qs d):BZ [.d (fm d),.d (eDt d)]=some (.str (wd d),[.d (fm d),.d (eDt d)]):=by
 unfold BZ
 let τ:Dt->DS:=fun d=>[some (.d (fm d)),some (.d (eDt d))]
 refine AU (τ:=τ d) ?_ rfl rfl
 cases d with
 |i n=>exact(fS (d:=(.i n)) (j:=1) (by decide) (by show _≠_;simp[fmN])).trans ((fS (d:=(.i n)) (j:=2) (by decide) (by show _≠_;simp[fmN])).trans ((fS (d:=(.i n)) (j:=3) (by decide) (by show _≠_;simp[fmN])).trans ((fS (d:=(.i n)) (j:=4) (by decide) (by show _≠_;simp[fmN])).trans (AZ (B9 (d:=.int n) (t5:=τ (.i n)) rfl (K4 h))))))
 |f a=>exact fT (d:=(.f a)) (j:=1) (by decide) rfl (AZ (cQ (τ (.f a)) [ec a] rfl rfl (VL h)))
 |t x=>exact(fS (d:=(.t x)) (j:=1) (by decide) (by show _≠_;simp[fmN])).trans (fT (d:=(.t x)) (j:=2) (by decide) rfl (AZ (cQ (τ (.t x)) [eT x] rfl rfl (Oj x))))
 |r R=>exact(fS (d:=(.r R)) (j:=1) (by decide) (by show _≠_;simp[fmN])).trans ((fS (d:=(.r R)) (j:=2) (by decide) (by show _≠_;simp[fmN])).trans (fT (d:=(.r R)) (j:=3) (by decide) rfl (AZ (Lg h.2.1 (fun r hr=>(h.2.2 r hr).1) rfl))))
 |b f=>exact(fS (d:=(.b f)) (j:=1) (by decide) (by show _≠_;simp[fmN])).trans ((fS (d:=(.b f)) (j:=2) (by decide) (by show _≠_;simp[fmN])).trans ((fS (d:=(.b f)) (j:=3) (by decide) (by show _≠_;simp[fmN])).trans (fT (d:=(.b f)) (j:=4) (by decide) rfl (AZ (by cases f<;>rfl)))))
theorem VM{a:Cl}(h:OkF a):∃ls,Bw [.d (.str (fw a))]=some (ec a,ls):=by
 obtain⟨l1,e1⟩:=Bu h.n1
 obtain⟨l2,e2⟩:=Bu h.n2
 let W:Option L:=some (.d (.str (fw a)))
 let P:PyData:=.tuple [.str (tS a.1),.str "/",.str (tS a.2)]
 let I:Int->Option L:=fun i=>some (.d (.int i))
 have hp:Iv (.str (fw a)) (.str "/")=some P:=by
  unfold Iv
  dsimp only
  rw[if_pos ⟨∅,sz (by have:=(Ob (d:=.f a) h).2;exact W' this (by decide))⟩]
  unfold fw
  rw[sl,RO (Jr (Jg h.n1) ∅),<- sl]
  rfl
 let t5:DS:=[W,some (.d P),none,none]
 let t9:DS:=[W,some (.d P),I a.1,none]
 let l7:DS:=[W,some (.d P),I a.1,I a.2]
 refine⟨[.d (.str (fw a))],?_⟩
 unfold Bw
 refine AU (τ:=l7) ?_ rfl rfl
 refine(AF (t5:=t5) (AY (d:=P) (t5:=[W,none,none,none]) (oQ (.str (fw a)) (.str "/") [W,none,none,none] rfl rfl hp) rfl)).trans ?_
 refine(AF (t5:=t9) (AY (d:=.int a.1) (t5:=t5) (cQ t5 [.str (tS a.1)] rfl rfl e1) rfl)).trans ?_
 refine(AF (t5:=l7) (AY (d:=.int a.2) (t5:=t9) (cQ t9 [.str (tS a.2)] rfl rfl e2) rfl)).trans ?_
 exact AZ rfl
def flT:Bool->Tx
 |true=>⟨"flip",∅⟩
 |false=>⟨"flat",∅⟩
theorem Yj{d:Dt}(h:Qs d):∃ls,CH [.d (fm d),.d (.str (wd d))]=some (eDt d,ls):=by
 refine⟨[.d (fm d),.d (.str (wd d))],?_⟩
 unfold CH
 let τ:Dt->DS:=fun d=>[some (.d (fm d)),some (.d (.str (wd d)))]
 refine AU (τ:=τ d) ?_ rfl rfl
 cases d with
 |i n =>
  obtain⟨l1,e1⟩:=Bu h
  exact(fS (d:=(.i n)) (j:=1) (by decide) (by show _≠_;simp[fmN])).trans ((fS (d:=(.i n)) (j:=2) (by decide) (by show _≠_;simp[fmN])).trans ((fS (d:=(.i n)) (j:=3) (by decide) (by show _≠_;simp[fmN])).trans ((fS (d:=(.i n)) (j:=4) (by decide) (by show _≠_;simp[fmN])).trans (AZ (cQ (τ (.i n)) [.str (tS n)] rfl rfl e1)))))
 |f a =>
  obtain⟨l1,e1⟩:=VM h
  exact fT (d:=(.f a)) (j:=1) (by decide) rfl (AZ (cQ (τ (.f a)) [.str (fw a)] rfl rfl e1))
 |t x=>exact(fS (d:=(.t x)) (j:=1) (by decide) (by show _≠_;simp[fmN])).trans (fT (d:=(.t x)) (j:=2) (by decide) rfl (AZ (cQ (τ (.t x)) [.str (hw x)] rfl rfl (Ol (Jr h.2 ∅)))))
 |r R =>
  refine(fS (d:=(.r R)) (j:=1) (by decide) (by show _≠_;simp[fmN])).trans ((fS (d:=(.r R)) (j:=2) (by decide) (by show _≠_;simp[fmN])).trans (fT (d:=(.r R)) (j:=3) (by decide) rfl (AZ ?_)))
  have hl:=(Ob (d:=.r R) h).2
  have hs:Txt.split (Txt.join ":" (R.map (·.1))) ":"=R.map (·.1):=by
   rw[co]
   refine FX (by decide) (fun z=>?_) fun w hw=>?_
   ·have:=congrArg List.length z
    rw[B',List.length_nil]at this
    have:=h.1;omega
   ·obtain⟨r,hr,rfl⟩:=av.mp hw
    exact Jr (h.2.2 r hr).2 ∅
  have e:De (.str (wd (.r R))) (.str ":")=some (.list (R.map eT)):=by
   show(if _ then some (PyData.list ((Txt.split (Txt.join ":" (R.map Subtype.val)) ":").map PyData.str)) else none)=_
   rw[hs,ay,if_pos ⟨∅,sz (W' hl (by decide)),by show(Txt.split (Txt.join ":" (R.map Subtype.val)) ":").length<=sizeLine;rw[hs,B'];exact sz (by have:=h.2.1;omega)⟩]
   rfl
  exact B9 (d:=.list (R.map eT)) (t5:=τ (.r R)) (oQ (.str (wd (.r R))) (.str ":") (τ (.r R)) rfl rfl e) rfl
 |b f =>
  refine(fS (d:=(.b f)) (j:=1) (by decide) (by show _≠_;simp[fmN])).trans ((fS (d:=(.b f)) (j:=2) (by decide) (by show _≠_;simp[fmN])).trans ((fS (d:=(.b f)) (j:=3) (by decide) (by show _≠_;simp[fmN])).trans (fT (d:=(.b f)) (j:=4) (by decide) rfl (AZ ?_))))
  have:wd (.b f)=(flT f).1:=by cases f<;>rfl
  refine oQ (eT (flT f)) (eT (flT true)) (τ (.b f)) ?_ rfl ((Gu _ _).trans ?_)
  ·exact congrArg (fun s=>some (PyData.str s,τ (.b f))) this
  ·show _=some (PyData.bool f)
   exact congrArg (fun b=>some (PyData.bool b)) (by cases f<;>decide +kernel)
theorem VG(x:Tx):x.1++(if (if decide (x=t0)=true then (1:Int) else 0)<1 then Str.empty else ".")=hw x:=by
 unfold hw
 by_cases h:x=t0
 ·rw[decide_eq_true h,if_pos h]
  show x.1++"."=_
  rw[h];exact VX _
 ·rw[decide_eq_false h,if_neg h]
  show x.1++Str.empty=_
  exact FE (by rw[bK,af];exact bD _)
theorem O7{x:Tx}(hl:x.1.length<=100){f:DX}{τ:DS}(e:f τ=some (eT x,τ)):dOp Cz f (dOp HY (dC (.str ".")) (AN Cy (AA (dOp fEq f (dC (.str ""))) AD))) τ=some (.str (hw x),τ):=by
 refine oQ (eT x) (.str (if (if decide (x=t0)=true then (1:Int) else 0)<1 then Str.empty else ".")) τ e (oQ (.str ".") (.int (if decide (x=t0)=true then (1:Int) else 0)) τ rfl (B9 (d:=.bool (decide (x=t0))) (oQ (eT x) (eT t0) τ e rfl (Gu x t0)) rfl) ?_) ?_
 ·unfold HY
  dsimp only
  rw[if_pos (by split<;>decide)]
 ·show(if _ then _ else none)=_
  rw[if_pos,VG]
  refine sz ?_
  have:(if (if decide (x=t0)=true then (1:Int) else 0)<1 then Str.empty else (".":Str)).length<=1:=by split<;>decide +kernel
  omega
theorem O0{k:Tx}{d:Dt}(h:Qs d)(hk:∀R,d = .r R->k=kS 3):Bk [.d (eT k),.d (eDt d)]=some (.str (wd d),[.d (eT k),.d (eDt d)]):=by
 unfold Bk
 let τ:Dt->DS:=fun d=>[some (.d (eT k)),some (.d (eDt d))]
 refine AU (τ:=τ d) ?_ rfl rfl
 have kq:∀d,AE (dOp fEq (AB 0) (dC (.str "stencil"))) (τ d)=some (decide (k=kS 3),τ d):=fun d=>tst (oQ (eT k) (eT (kS 3)) (τ d) rfl rfl (Gu _ _))
 cases d with
 |b f=>exact tkT rfl (AZ (by cases f<;>rfl))
 |i n=>exact(skT rfl).trans (tkT rfl (AZ (B9 (d:=.int n) (t5:=τ (.i n)) rfl (K4 h))))
 |t x=>exact(skT rfl).trans ((skT rfl).trans (tkT rfl (AZ (O7 (W' h.1 (by decide)) rfl))))
 |r R =>
  cases R with
  |nil=>exact absurd h.1 (by decide)
  |cons z zs =>
   have c : AE (Bg "str" (dOp AK (AB 1) (dC (.int 0)))) (τ (.r (z :: zs))) = some (true, τ (.r (z :: zs))) := tst (by
    unfold Bg
    rw[op2 (x:=.tuple ((z::zs).map eT)) (y:=.int 0) (r:=eT z) (t5:=τ (.r (z::zs))) rfl rfl (To (k:=0) rfl)]
    rfl)
   exact(skT rfl).trans ((skT rfl).trans ((skT rfl).trans (tkT (K2 (p:=true) ((kq (.r (z::zs))).trans (by rw[decide_eq_true (hk _ rfl)];rfl)) c) (AZ (Lg h.2.1 (fun r hr=>(h.2.2 r hr).1) rfl)))))
 |f a =>
  have h1:=EF h.n1
  have h2:=EF h.n2
  refine(skT rfl).trans ((skT rfl).trans ((skT rfl).trans ((skT ((K2 (kq (.f a)) (q:=false) rfl).trans (by rw[Bool.and_false]))).trans (AZ ?_))))
  refine oQ (.str (tS a.1++"/")) (.str (tS a.2)) (τ (.f a)) (oQ (.str (tS a.1)) (.str "/") (τ (.f a)) (B9 (d:=.int a.1) (t5:=τ (.f a)) rfl (K4 h.n1)) rfl ?_) (B9 (d:=.int a.2) (t5:=τ (.f a)) rfl (K4 h.n2)) ?_
  ·show(if _ then _ else none)=_
   rw[if_pos (sz (by rw[sl1];omega))]
  ·show(if _ then _ else none)=_
   rw[if_pos (sz (by rw[bO,sl1];omega))];rfl
theorem Rl{s:Str}{ws:List Str}{n m:Nat}(hs:s.length<=1)(h:∀w∈ws,w.length<=n)(hm:ws.length<=m)(hz:m*(n+1)<=1000000):JoinOk s ws=true:=by
 unfold JoinOk
 rw[Bool.not_eq_true']
 unfold Builtin.Str.tooLong
 rw[StrLaws.joinTotal]
 have:=Ip s hs h hm
 have q:(1000000:Nat)<=sizeLine:=by decide
 exact decide_eq_false (by omega)
theorem Ov:∀ws:List Str,Ei (ws.map PyData.str)=some ws
 |[]=>rfl
 |r::R=>by
  show(Ei (R.map PyData.str)).map _=_
  rw[Ov R];rfl
theorem Ki{sep:Str}{ws:List Str}{n m:Nat}(hs:sep.length<=1)(h:∀w∈ws,w.length<=n)(hm:ws.length<=m)(hz:m*(n+1)<=1000000){f:DX}{τ t5:DS}(e:f τ=some (.list (ws.map PyData.str),t5)):Em sep f τ=some (.str (Txt.join sep ws),t5):=by
 unfold Em
 rw[e]
 show(Ei (ws.map PyData.str)).bind _=_
 rw[Ov]
 show(if _ then _ else none)=_
 rw[if_pos (Rl hs h hm hz)]
def onT(b:Bool):Str:=if b=true then "on" else "off"
def rws(r:Rz):List Str:=[(kS (kz r.d)).1,r.n.1,hw r.h,tS r.x,tS r.y,onT r.s]++(dts r.d).map wd
def rt(r:Rz):Str:=Txt.join " " (rws r)
structure Ok8(r:Rz):Prop where
 row:OkRow r
 h:r.h=t0\/OkN r.h
theorem X6:∀i:Fin 10,(∀c∈(kS i.1).1.cps.toList,c∈alP.cps.toList)/\(kS i.1).1.length<=100/\(kS i.1).1.cps.toList≠[]:=∅
theorem Zj(b:Bool):Az alP (onT b)/\(onT b).length<=100:=by unfold Az;cases b<;>decide +kernel
theorem Ok8.x{r:Rz}(h:Ok8 r):NI r.x:=by have:=h.row.x0;have:=h.row.x1;constructor<;>omega
theorem Ok8.y{r:Rz}(h:Ok8 r):NI r.y:=by have:=h.row.y0;have:=h.row.y1;constructor<;>omega
theorem Ok8.nd{r:Rz}(h:Ok8 r):nS 46 r.h.1:=by
 rcases h.h with z|z
 ·rw[z];decide +kernel
 ·exact Jr z.na ∅
theorem Zw{r:Rz}(h:Ok8 r):Az alP (hw r.h)/\(hw r.h).length<=100:=by
 unfold hw
 split
 ·exact⟨XU,∅⟩
 ·rename_i n
  have z:=h.h.resolve_left n
  exact⟨CU z.na N_P,W' z.n8 (by decide)⟩
theorem K7{r:Rz}(h:Ok8 r):∀w∈rws r,Az alP w/\w.length<=100:=by
 have k:=X6 ⟨kz r.d,Im _⟩
 intro w hw'
 rcases au.mp hw' with z|z
 ·simp only[List.mem_cons,List.not_mem_nil,or_false]at z
  rcases z with rfl|rfl|rfl|rfl|rfl|rfl
  ·exact⟨k.1,k.2.1⟩
  ·exact⟨CU h.row.na N_P,W' h.row.n8 (by decide)⟩
  ·exact Zw h
  ·exact⟨CU (Jg h.x) I_P,W' (EF h.x) (by decide)⟩
  ·exact⟨CU (Jg h.y) I_P,W' (EF h.y) (by decide)⟩
  ·exact Zj _
 ·obtain⟨d,hd,rfl⟩:=av.mp z
  exact Ob (KQ h.row.d d hd)
theorem Hr(r:Rz):(rws r).length<=10:=by
 have:=Hx r.d
 unfold rws
 rw[T',B']
 show 6+_<=10
 omega
theorem MA{r:Rz}(h:Ok8 r):(rt r).length<=1010:=Fc " " ∅ (n:=100) (m:=10) (fun w hw=>(K7 h w hw).2) (Hr r)
theorem P_B:∀c∈alP.cps.toList,c∈alB.cps.toList:=∅
theorem B_L:∀c∈alB.cps.toList,c∈alL.cps.toList:=∅
theorem O6{r:Rz}(h:Ok8 r):Az alB (rt r):=by
 unfold rt
 rw[bl]
 exact Kk ∅ fun v hv=>CU (K7 h v hv).1 P_B
theorem XJ(r:Rz):(rt r).cps.toList≠[]:=by
 have k:=X6 ⟨kz r.d,Im _⟩
 unfold rt rws
 rw[bl,List.cons_append,show Txt.join (c1 32) _=Str.join (c1 32) _ from bC _ _,EC]
 exact fun z=>k.2.2 (List.append_eq_nil_iff.mp z).1
theorem Zy{i:Nat}{a:DA}{τ t5:DS}{ys xs:List PyData}(h:a τ=some ([.d (.list ys)],t5))(m:t5[i]?=some (some (.m xs)))(hz:xs.length+ys.length<=900):Av (dMt i Bq a) τ=some (.nx (t5.set i (some (.m (xs++ys))))):=by
 have hs:xs.length+ys.length<=sizeLine:=sz (by omega)
 unfold Av dMt
 rw[h]
 show((match t5[i]? with|some (some (.m xs))=>_|_=>_):Option (PyData×DS)).map _=_
 rw[m]
 show((if xs.length+ys.length<=sizeLine then some (PyData.none,xs++ys) else none).map _).map _=_
 rw[if_pos hs]
 rfl
def g2':DG:=dGT (AM (dN 0) (AM (dN 1) Au))
theorem lc2{α:Type}{e1 e2:α->PyData}{rs:List α}{τ:DS}{it:DI}{e:DX}(f:α->PyData)(h:it τ=some (rs.map (fun a=>.tuple [e1 a,e2 a]),τ))(hz:rs.length<=1000)
  (he:∀r∈rs,e [some (.d (e1 r)),some (.d (e2 r))]=some (f r,[some (.d (e1 r)),some (.d (e2 r))])):dLC 2 [] it g2' A7 e τ=some (.list (rs.map f),τ):=by
 obtain ⟨l6, el⟩ := Hu (enc := fun a => PyData.tuple [e1 a, e2 a]) (g := g2') (c := A7) (e := e) (fun τ => ∃ o1 o2, nM o1 /\ nM o2 /\ τ = [o1, o2]) (fun _ => true) f (xs := rs) (acc := []) (τ := [none, none]) ⟨none, none, Ao, Ao, rfl⟩ (by
  rintro x τ hx ⟨o1,o2,n1,n2,rfl⟩
  refine⟨[some (.d (e1 x)),some (.d (e2 x))],[some (.d (e1 x)),some (.d (e2 x))],?_,rfl,(fun z=>nomatch z),fun _=>⟨_,he x hx,_,_,Bz,Bz,rfl⟩⟩
  show(dN 0 (e1 x) [o1,o2]).bind _=_
  rw[Bs (o:=o1) rfl n1]
  show(dN 1 (e2 x) [some (.d (e1 x)),o2]).bind _=_
  rw[Bs (o:=o2) rfl n2];rfl)
 rw[bc,BM]at el
 exact QR (ds:=rs.map fun a=>.tuple [e1 a,e2 a]) (t5:=τ) (l6:=l6) h (by rw[B'];exact sz hz) rfl el
theorem J5{α:Type}(e1 e2:α->PyData):∀l:List α,FK (l.map e1) (l.map e2)=l.map fun a=>.tuple [e1 a,e2 a]
 |[]=>rfl
 |a::l=>by
  show PyData.tuple [e1 a,e2 a]::FK (l.map e1) (l.map e2)=_
  rw[J5 e1 e2 l];rfl
theorem P6{a:DA}{τ t5:DS}{rs:List Ar}{ds:List PyData}(h:a τ=some (rs,t5))(k:Aq rs=some ds)(hz:ds.length<=1000):C7 a τ=some (.list ds,t5):=by
 unfold C7
 rw[h]
 show(Aq rs).bind _=_
 rw[k]
 show(if ds.length<=sizeLine then _ else _)=_
 rw[if_pos (sz hz)]
theorem QA{d:Dz}{f:DX}{τ t5:DS}(h:f τ=some (eT (kS (kz d)),t5)):dKd AS f τ=some (.tuple ((dts d).map fm),t5):=by
 unfold dKd
 rw[h]
 show(Cc AS (kS (kz d)).1).map _=_
 rw[QM];rfl
def hd6(r:Rz):List Str:=[(kS (kz r.d)).1,r.n.1,hw r.h,tS r.x,tS r.y,onT r.s]
theorem TM{r:Rz}(h:Ok8 r):Ba [.d (eZ r)]=some (.str (rt r),[.d (eZ r)]):=by
 let R:Option L:=some (.d (eZ r))
 let O:Option L:=some (.d (.str (onT r.s)))
 let F:PyData:=.tuple ((dts r.d).map fm)
 let M:List Str->Option L:=fun l=>some (.m (l.map PyData.str))
 let l5:DS:=[R,none,none,none]
 let t5:DS:=[R,O,none,none]
 let t9:DS:=[R,O,M (hd6 r),none]
 let l7:DS:=[R,O,M (hd6 r),some (.d F)]
 let l8:DS:=[R,O,M (rws r),some (.d F)]
 have s1:AJ (dIf (AE (AH Cu (AA (AB 0) AD))) (dC (.str "on")) (dC (.str "off"))) (dN 1) l5=some (.nx t5):=by
  refine AY (d:=.str (onT r.s)) (t5:=l5) ?_ rfl
  have c:AE (AH Cu (AA (AB 0) AD)) l5=some (r.s,l5):=rfl
  unfold onT
  cases hs:r.s with
  |true=>rw[hs]at c;exact(Ru c).trans rfl
  |false=>rw[hs]at c;exact(VF c).trans rfl
 have s2:BP 1 2 (C7 (AA (AH Cf (AA (AB 0) AD)) (AA (AH DR (AA (AB 0) AD)) (AA (AH BK (AA (AH A0 (AA (AB 0) AD)) AD)) (AA (AN C5 (AA (AH GX (AA (AB 0) AD)) AD)) (AA (AN C5 (AA (AH GW (AA (AB 0) AD)) AD)) (AA (AB 1) AD))))))) t5=some (.nx t9):=by
  refine F8 (t5:=t5) (xs:=(hd6 r).map PyData.str) (P6 (rs:=[.d (eT (kS (kz r.d))),.d (eT r.n),.d (.str (hw r.h)),.d (.str (tS r.x)),.d (.str (tS r.y)),.d (.str (onT r.s))]) ?_ rfl (by decide:6<=1000)) (by decide) (by decide:2<4) rfl
  exact acc (t5:=t5) rfl (acc (t5:=t5) rfl (acc (cQ t5 [eT r.h] rfl rfl (Oj r.h)) (acc (B9 (d:=.int r.x) (t5:=t5) rfl (K4 h.x)) (acc (B9 (d:=.int r.y) (t5:=t5) rfl (K4 h.y)) rfl))))
 have s3:AJ (dKd AS (AH Cf (AA (AB 0) AD))) (dN 3) t9=some (.nx l7):=AY (d:=F) (t5:=t9) (QA rfl) rfl
 have s4:Av (dMt 2 Bq (AA (dLC 2 [] (dIZ (AA (AB 3) (AA (AH ES (AA (AB 0) AD)) AD))) (dGT (AM (dN 0) (AM (dN 1) Au))) A7 (AH BZ (AA (AB 0) (AA (AB 1) AD)))) AD)) l7=some (.nx l8):=by
  have dl:=Hx r.d
  refine(Zy (i:=2) (xs:=(hd6 r).map PyData.str) (ys:=(dts r.d).map fun d=>PyData.str (wd d)) (t5:=l7) (acc (lc2 (e1:=fm) (e2:=eDt) (fun d=>PyData.str (wd d)) ?_ (by omega) fun d hd=>?_) rfl) rfl ?_).trans ?_
  ·unfold dIZ
   rw[acc (t5:=l7) (d:=F) rfl (acc (t5:=l7) (d:=eD r.d) rfl rfl)]
   rw[MZ]
   show some (FK ((dts r.d).map fm) ((dts r.d).map eDt),l7)=_
   rw[J5]
  ·exact cQ [some (.d (fm d)),some (.d (eDt d))] [fm d,eDt d] rfl rfl (Yi (KQ h.row.d d hd))
  ·rw[B',B'];show 6+_<=_;omega
  ·show some (Out.nx [R,O,some (.m ((hd6 r).map PyData.str++(dts r.d).map fun d=>PyData.str (wd d))),some (.d F)])=some (Out.nx [R,O,some (.m ((hd6 r++(dts r.d).map wd).map PyData.str)),some (.d F)])
   rw[bE,ay];rfl
 unfold Ba
 refine AU (τ:=l8) ((AF s1).trans ((AF s2).trans ((AF s3).trans ((AF s4).trans (AZ ?_))))) rfl rfl
 refine Ku (i:=2) (xs:=(rws r).map PyData.str) rfl ?_ rfl ?_
 ·exact Ki ∅ (n:=100) (m:=10) (fun w hw=>(K7 h w hw).2) (Hr r) (by decide) rfl
 ·rfl
theorem XM{r:Rz}(h:Ok8 r):CQ [.d (eZ r)]=some (.str (rt r),[.d (eZ r)]):=by
 let R:Option L:=some (.d (eZ r))
 let M:List Str->Option L:=fun l=>some (.m (l.map PyData.str))
 let hd5:List Str:=[(kS (kz r.d)).1,r.n.1,hw r.h,tS r.x,tS r.y]
 let l5:DS:=[R,none]
 let t5:DS:=[R,M hd5]
 let t9:DS:=[R,M (hd6 r)]
 let l7:DS:=[R,some (.d (.list ((hd6 r).map PyData.str)))]
 have hl:r.h.1.length<=100:=by
  rcases h.h with z|z
  ·rw[z];decide +kernel
  ·exact W' z.n8 (by decide)
 have s1:BP 1 1 (C7 (AA (dOp AK (AB 0) (dC (.int 5))) (AA (dOp AK (AB 0) (dC (.int 0))) (AA (dOp Cz (dOp AK (AB 0) (dC (.int 1))) (dOp HY (dC (.str ".")) (AN Cy (AA (dOp fEq (dOp AK (AB 0) (dC (.int 1))) (dC (.str ""))) AD)))) (AA (AN C5 (AA (dOp AK (AB 0) (dC (.int 2))) AD)) (AA (AN C5 (AA (dOp AK (AB 0) (dC (.int 3))) AD)) AD)))))) l5=some (.nx t5):=by
  refine F8 (t5:=l5) (xs:=hd5.map PyData.str) (P6 (rs:=[.d (eT (kS (kz r.d))),.d (eT r.n),.d (.str (hw r.h)),.d (.str (tS r.x)),.d (.str (tS r.y))]) ?_ rfl (by decide:5<=1000)) (by decide) (by decide:1<2) rfl
  exact acc (t5:=l5) rfl (acc (t5:=l5) rfl (acc (O7 hl rfl) (acc (B9 (d:=.int r.x) (t5:=l5) rfl (K4 h.x)) (acc (B9 (d:=.int r.y) (t5:=l5) rfl (K4 h.y)) rfl))))
 have s2:Av (dMt 1 Ah (AA (dOp AK (Aa (AA (dC (.str "off")) (AA (dC (.str "on")) AD))) (AN Cy (AA (dOp AK (AB 0) (dC (.int 4))) AD))) AD)) t5=some (.nx t9):=by
  refine(OW (i:=1) (d:=.str (onT r.s)) (xs:=hd5.map PyData.str) (t5:=t5) (acc (oQ (.tuple [.str "off",.str "on"]) (.int (if r.s then 1 else 0)) t5 rfl (B9 (d:=.bool r.s) (t5:=t5) rfl rfl) ?_) rfl) rfl (by decide:5<900)).trans rfl
  unfold onT
  cases r.s<;>rfl
 unfold CQ
 refine AU (τ:=t9) ((AF s1).trans ((AF s2).trans (AZ ?_))) rfl rfl
 refine Ku (i:=1) (xs:=(hd6 r).map PyData.str) rfl ?_ rfl rfl
 refine Ki (ws:=rws r) ∅ (n:=100) (m:=10) (fun w hw=>(K7 h w hw).2) (Hr r) (by decide) (t5:=l7) ?_
 have dl:=Hx r.d
 have lc := lcg (enc := eDt) (rs := dts r.d) (τ := l7) (fr := [0]) (it := dIT (dOp AK (AB 0) (dC (.int 6)))) (ex := [R]) (c := A7) (e := AH Bk (AA (dOp AK (AB 1) (dC (.int 5))) (AA (AB 0) AD))) (fun _ => true) (fun d => PyData.str (wd d)) (by
  show(dIT (dOp AK (AB 0) (dC (.int 6))) l7)=_
  unfold dIT
  rw[show dOp AK (AB 0) (dC (.int 6)) l7=some (eD r.d,l7) from rfl,MZ];rfl) (by omega) rfl rfl (fun _ _=>rfl) (fun d hd _=>by
  let τ:DS:=[some (.d (eDt d)),R]
  refine cQ τ [eT (kS (kz r.d)),eDt d] rfl rfl (O0 (KQ h.row.d d hd) fun R e=>?_)
  subst e
  revert hd
  cases r.d<;>simp[dts,kz])
 rw[BM]at lc
 refine oQ (.list ((hd6 r).map PyData.str)) (.list ((dts r.d).map fun d=>PyData.str (wd d))) l7 rfl lc ?_
 show(if _ then some (PyData.list ((hd6 r).map PyData.str++_)) else none)=some (PyData.list ((hd6 r++(dts r.d).map wd).map PyData.str))
 rw[if_pos,bE,ay]
 ·rfl
 ·rw[B',B'];exact sz (by show 6+_<=_;omega)
theorem Np{r:Rz}(h:Ok8 r):De (.str (rt r)) (.str " ")=some (.list ((rws r).map PyData.str)):=by
 have hs:Txt.split (rt r) " "=rws r:=by
  unfold rt
  rw[bl]
  exact FX (by decide) (fun z=>by cases z) fun w hw=>Jr (K7 h w hw).1 ∅
 show(if _ then some (PyData.list ((Txt.split (rt r) " ").map PyData.str)) else none)=_
 have:=Hr r
 have:=MA h
 rw[hs,if_pos ⟨∅,W' (MA h) (by decide),sz (by omega)⟩]
theorem aC{xs ys:List PyData}(h:xs.length=6):Mj (xs++ys) (some 6) none=ys:=by
 unfold Mj
 have e:HT.sIx (xs++ys).length 0 (some 6)=min 6 (xs++ys).length:=by
  show(if (6:Int)<0 then (6+((xs++ys).length:Int)).toNat else min (6:Int).toNat (xs++ys).length)=_
  rw[if_neg (by decide)];rfl
 have e2:HT.sIx (xs++ys).length (xs++ys).length none=(xs++ys).length:=rfl
 rw[e,e2,T',h,Nat.min_eq_left (by omega)]
 rw[List.drop_left' h]
 exact List.take_of_length_le (by omega)
abbrev eW(r:Rz):PyData:=.list ((rws r).map PyData.str)
theorem K0{r:Rz}{τ:DS}{k:Nat}{s:Str}{v:Nat}(hv:τ[v]?=some (some (.d (eW r))))(h:((rws r).map PyData.str)[k]?=some (.str s)):dOp A6 (AB v) (dC (.int (k:Int))) τ=some (.str s,τ):=by
 refine oQ (eW r) (.int (k:Int)) τ (by unfold AB;rw[hv]) rfl ?_
 exact To h
theorem QF{r:Rz}(h:Ok8 r):Cn [.d (eW r)]=some (eZ r,[.d (eW r)]):=by
 obtain⟨lx,ex⟩:=Bu h.x
 obtain⟨ly,ey⟩:=Bu h.y
 have dl:=Hx r.d
 let W:Option L:=some (.d (eW r))
 let E:PyData:=.list ((dts r.d).map eDt)
 let l5:DS:=[W,none,none]
 let t5:DS:=[W,some (.d E),none]
 let t9:DS:=[W,some (.d E),some (.d (eT r.h))]
 unfold Cn
 refine AU (τ:=t9) ?_ rfl rfl
 have s1:AJ (dLC 2 [] (Mf (AA (dKd AS (dOp A6 (AB 0) (dC (.int 0)))) (AA (dSl (AB 0) (dPt (dC (.int 6))) E1) AD))) (dGT (AM (dN 0) (AM (dN 1) Au))) A7 (AH CH (AA (AB 0) (AA (AB 1) AD)))) (dN 1) l5=some (.nx t5):=by
  refine AY (d:=E) (t5:=l5) (lc2 (e1:=fm) (e2:=fun d=>PyData.str (wd d)) eDt ?_ (by omega) fun d hd=>?_) rfl
  ·unfold Mf
   have sl:dSl (AB 0) (dPt (dC (.int 6))) E1 l5=some (.list ((dts r.d).map fun d=>PyData.str (wd d)),l5):=by
    show some (PyData.list (Mj ((rws r).map PyData.str) (some 6) none),l5)=_
    rw[show(rws r).map PyData.str=(hd6 r).map PyData.str++(dts r.d).map fun d=>PyData.str (wd d) from by unfold rws hd6;rw[bE,ay];rfl,aC rfl]
   have w0:dOp A6 (AB 0) (dC (.int 0)) l5=some (eT (kS (kz r.d)),l5):=K0 (r:=r) (v:=0) (k:=0) rfl rfl
   rw[acc (a:=AA (dSl (AB 0) (dPt (dC (.int 6))) E1) AD) (QA w0) (acc (a:=AD) sl rfl)]
   show some (FK ((dts r.d).map fm) ((dts r.d).map fun d=>PyData.str (wd d)),l5)=_
   rw[J5]
  ·obtain⟨ld,ed⟩:=Yj (KQ h.row.d d hd)
   exact cQ [some (.d (fm d)),some (.d (.str (wd d)))] [fm d,.str (wd d)] rfl rfl ed
 have s2:AJ (AH B6 (AA (dOp A6 (AB 0) (dC (.int 2))) AD)) (dN 2) t5=some (.nx t9) :=
  AY (d:=eT r.h) (t5:=t5) (cQ t5 [.str (hw r.h)] (acc (K0 (r:=r) (v:=0) (k:=2) rfl rfl) rfl) rfl (Ol h.nd)) rfl
 refine(AF s1).trans ((AF s2).trans (AZ ?_))
 have on:dOp fEq (dOp A6 (AB 0) (dC (.int 5))) (dC (.str "on")) t9=some (.bool r.s,t9):=by
  refine oQ (.str (onT r.s)) (.str "on") t9 (K0 (r:=r) (v:=0) (k:=5) rfl rfl) rfl ?_
  cases r.s with
  |true=>exact(Gu ⟨"on",∅⟩ ⟨"on",∅⟩).trans (by rw[decide_eq_true rfl])
  |false=>exact(Gu ⟨"off",∅⟩ ⟨"on",∅⟩).trans (congrArg (fun b=>some (PyData.bool b)) ∅)
 refine(Oi (rs:=[.d (eT r.n),.d (eT r.h),.d (.int r.x),.d (.int r.y),.d (.bool r.s),.d (eT (kS (kz r.d))),.d (.tuple ((dts r.d).map eDt))]) (t5:=t9) ?_ rfl (by decide:7<=1000)).trans ?_
 ·refine acc (K0 (r:=r) (v:=0) (k:=1) rfl rfl) (acc (t5:=t9) rfl (acc (cQ t9 [.str (tS r.x)] (acc (K0 (r:=r) (v:=0) (k:=3) rfl rfl) rfl) rfl ex) (acc (cQ t9 [.str (tS r.y)] (acc (K0 (r:=r) (v:=0) (k:=4) rfl rfl) rfl) rfl ey) (acc on (acc (K0 (r:=r) (v:=0) (k:=0) rfl rfl) (acc (B9 (d:=E) (t5:=t9) rfl rfl) rfl))))))
 ·show some (PyData.tuple [eT r.n,eT r.h,.int r.x,.int r.y,.bool r.s,eT (kS (kz r.d)),.tuple ((dts r.d).map eDt)],t9)=_
  rw[<- MZ];rfl
theorem aM:PyData.strOk alB=true:=∅
def rT(r:Rz)(h:Ok8 r):Tx:=⟨rt r,Gb aM (O6 h)⟩
theorem Q4{r:Rz}(h:Ok8 r):DQ [.d (.str (rt r))]=some (eZ r,[.d (.str (rt r))]):=by
 obtain⟨l1,e1⟩:=OF h.row h.h
 let T:Option L:=some (.d (.str (rt r)))
 let W:Option L:=some (.d (eW r))
 let l5:DS:=[T,none,none]
 let t5:DS:=[T,W,none]
 let t9:DS:=[T,W,some (.d (eZ r))]
 unfold DQ
 refine AU (τ:=t9) ?_ rfl rfl
 have w0:dOp A6 (AB 1) (dC (.int 0)) t5=some (eT (kS (kz r.d)),t5):=K0 (r:=r) (v:=1) (k:=0) rfl rfl
 have c1:AE (JC AS (dOp A6 (AB 1) (dC (.int 0)))) t5=some (false,t5):=by
  refine tst ?_
  unfold JC
  rw[w0]
  show some (PyData.bool (!(Cc AS (kS (kz r.d)).1).isSome),t5)=_
  rw[QM];rfl
 have c2:AE (dOp fNe (AN Aj (AA (AB 1) AD)) (dOp Ag (dC (.int 6)) (AN Aj (AA (dKd AS (dOp A6 (AB 1) (dC (.int 0)))) AD)))) t5=some (false,t5):=by
  refine tst (oQ (.int ((rws r).length:Nat)) (.int (6+((dts r.d).length:Nat))) t5 (B9 (d:=eW r) (t5:=t5) rfl ?_) (oQ (.int 6) (.int ((dts r.d).length:Nat)) t5 rfl (B9 (d:=.tuple ((dts r.d).map fm)) (QA w0) ?_) rfl) ?_)
  ·show some (PyData.int (((rws r).map PyData.str).length:Nat))=_
   rw[B']
  ·show some (PyData.int (((dts r.d).map fm).length:Nat))=_
   rw[B']
  ·rw[encI.fNe,decide_eq_true]
   ·rfl
   ·unfold rws
    rw[T',B']
    show(((6+_:Nat)):Int)=_
    omega
 refine(AF (t5:=t5) (AY (d:=eW r) (t5:=l5) (oQ (.str (rt r)) (.str " ") l5 rfl rfl (Np h)) rfl)).trans ?_
 refine(skT (FZ c1 c2)).trans ?_
 refine(AF (t5:=t9) (AY (d:=eZ r) (t5:=t5) (cQ t5 [eW r] rfl rfl (QF h)) rfl)).trans (AZ ?_)
 have q1:AE (AH Ey (AA (AB 2) AD)) t9=some (true,t9):=tst (cQ t9 [eZ r] rfl rfl e1)
 have q2:AE (dOp fEq (AH Ba (AA (AB 2) AD)) (AB 0)) t9=some (true,t9):=tst (oQ (eT (rT r h)) (eT (rT r h)) t9 (cQ t9 [eZ r] rfl rfl (TM h)) rfl ((Gu _ _).trans (by rw[decide_eq_true rfl])))
 exact(Ru (K2 q1 q2)).trans rfl
def scT(rs:List Rz):Str:=Txt.join "\n" (rs.map rt)
theorem TY(s:Str):Txt.join s []="":=by rw[show Txt.join s []=Str.join s [] from bC _ _];exact(show Str.empty=("":Str) by decide +kernel)
theorem aL:PyData.strOk alL=true:=∅
theorem T8{rs:List Rz}(h:∀r∈rs,Ok8 r):Az alL (scT rs):=by
 unfold scT
 cases rs with
 |nil=>rw[List.map_nil,TY];exact MX _
 |cons r rs =>
  rw[lf,X']
  refine Kk ∅ fun v hv=>?_
  rw[<- X']at hv
  obtain⟨q,hq,rfl⟩:=av.mp hv
  exact CU (O6 (h q hq)) B_L
def sT(rs:List Rz)(h:∀r∈rs,Ok8 r):Tx:=⟨scT rs,Gb aL (T8 h)⟩
theorem M3{rs:List Rz}(h:∀r∈rs,Ok8 r):∀w∈rs.map rt,w.length<=1010:=fun w hw=>by
 obtain⟨q,hq,rfl⟩:=av.mp hw
 exact MA (h q hq)
theorem Q2{rs:List Rz}(h:∀r∈rs,Ok8 r)(hl:rs.length<=40):(scT rs).length<=40*1011:=Fc "\n" ∅ (n:=1010) (m:=40) (M3 h) (by rw[B'];exact hl)
theorem K1{G:Mir}{rs:List Rz}(h:∀r∈rs,G [.d (eZ r)]=some (.str (rt r),[.d (eZ r)]))(hl:rs.length<=40){i:Nat}{τ:DS}(hi:dIL (AB i) τ=some (rs.map eZ,τ))(hb:Ho 1 [] τ=[none]):dLC 1 [] (dIL (AB i)) (dN 0) A7 (AH G (AA (AB 0) AD)) τ=some (.list ((rs.map rt).map PyData.str),τ):=by
 have:=lcg (enc:=eZ) (rs:=rs) (τ:=τ) (fr:=[]) (it:=dIL (AB i)) (ex:=[]) (c:=A7) (e:=AH G (AA (AB 0) AD)) (fun _=>true) (fun r=>.str (rt r)) hi (by omega) rfl hb (fun r _=>rfl) (fun r hr _=>cQ [some (.d (eZ r))] [eZ r] rfl rfl (h r hr))
 rw[this,BM,ay];rfl
theorem TH{rs:List Rz}(h:∀r∈rs,Ok8 r)(hl:rs.length<=40){f:DX}{τ t5:DS}(e:f τ=some (.list ((rs.map rt).map PyData.str),t5)):Em "\n" f τ=some (.str (scT rs),t5):=Ki ∅ (n:=1010) (m:=40) (M3 h) (by rw[B'];exact hl) (by decide) e
theorem Q0{rs:List Rz}(h:∀r∈rs,Ok8 r)(hl:rs.length<=40):BF [.d (.list (rs.map eZ))]=some (.str (scT rs),[.d (.list (rs.map eZ))]):=by
 unfold BF
 exact AU (τ:=[some (.d (.list (rs.map eZ)))]) (AZ (TH h hl (K1 (fun r hr=>TM (h r hr)) hl rfl rfl))) rfl rfl
theorem Ox{rs:List Rz}(h:∀r∈rs,Ok8 r)(hl:rs.length<=40)(hn:rs≠[]):De (.str (scT rs)) (.str "\n")=some (.list ((rs.map rt).map PyData.str)):=by
 have hs:Txt.split (scT rs) "\n"=rs.map rt:=by
  unfold scT
  rw[lf]
  refine FX (by decide) (fun z=>hn (List.map_eq_nil_iff.mp z)) fun w hw=>?_
  obtain⟨q,hq,rfl⟩:=av.mp hw
  exact Jr (O6 (h q hq)) ∅
 show(if _ then some (PyData.list ((Txt.split (scT rs) "\n").map PyData.str)) else none)=_
 rw[hs,if_pos ⟨∅,W' (Q2 h hl) (by decide),by rw[B'];exact sz (by omega)⟩]
theorem T7{rs:List Rz}(hn:rs≠[]):(scT rs).cps.toList≠[]:=by
 cases rs with
 |nil=>exact absurd rfl hn
 |cons r rs =>
  unfold scT
  rw[lf,X',show Txt.join (c1 10) _=Str.join (c1 10) _ from bC _ _,EC]
  exact fun z=>XJ r (List.append_eq_nil_iff.mp z).1
theorem ZS{c:DT}{a r:DBX}{τ t7:DS}(h:c τ=some (false,t7)):Gm (xIf c a (xOf AR)) r τ=r t7:=by
 unfold Gm xIf
 rw[h];rfl
theorem S0{b:DB}{r:DBX}{τ t7:DS}(h:b τ=some (.nx t7)):Gm (xOf b) r τ=r t7:=by
 unfold Gm xOf
 rw[h];rfl
theorem Ww{b:DB}{r:DBX}{τ t7:DS}{d:PyData}(h:b τ=some (.rt d t7)):Gm (xOf b) r τ=some (.inl (.rt d t7)):=by
 unfold Gm xOf
 rw[h];rfl
theorem YI{np nl:Nat}{f:DBX}{ds:List PyData}{d:PyData}{τ:DS}(h:f ((ds.map L.d).map some++List.replicate nl none)=some (.inl (.rt d τ)))(hl:ds.length=np):Gi np nl f ds=some (.inl d):=by
 unfold Gi
 rw[if_pos hl,h];rfl
theorem Nh{α:Type}:∀l:List α,Ds (l.map fun _=>PyData.bool false)=some (l.map fun _=>false)
 |[]=>rfl
 |a::l=>by
  rw[X',Ds,Nh l];rfl
theorem ZK{α:Type}(l:List α):Lm [.list (l.map fun _=>PyData.bool false)]=some (.bool false):=by
 show(Ds (l.map fun _=>PyData.bool false)).map _=_
 rw[Nh]
 show some (PyData.bool ((l.map fun _=>false).any id))=_
 rw[show((l.map fun _=>false).any id)=false by simp]
theorem NW(l:List Rz):fixDs (l.map eZ)=true:=encZ.fixL l
theorem UC{rs:List Rz}(h:∀r∈rs,Ok8 r)(hl:rs.length<=40):Cp [.str (scT rs)]=some (.inl (.list (rs.map eZ))):=by
 let T:Option L:=some (.d (.str (scT rs)))
 let D:Option L:=some (.d (.list (rs.map eZ)))
 let l5:DS:=[T,none]
 let t5:DS:=[T,some (.m (rs.map eZ))]
 have c:AE (dOp fEq (AB 0) (dC (.str ""))) l5=some (decide (sT rs h=t0),l5):=tst (oQ (eT (sT rs h)) (eT t0) l5 rfl rfl (Gu _ _))
 unfold Cp
 refine SD ?_ (fun z=>by cases z)
 by_cases hn:rs=[]
 ·subst hn
  have e:sT [] h=t0:=cX (TY _)
  rw[decide_eq_true e]at c
  exact YI (Ww ((FV c).trans rfl)) rfl
 ·have e:sT rs h≠t0:=fun z=>T7 hn (by rw[show scT rs=("":Str) from congrArg Subtype.val z];decide +kernel)
  rw[decide_eq_false e]at c
  refine YI (τ:=t5) ((S0 (t7:=l5) ((Bm c).trans rfl)).trans ((S0 (t7:=t5) ?_).trans ((ZS (t7:=t5) ?_).trans rfl))) rfl
  ·refine F8 (t5:=l5) (xs:=rs.map eZ) ?_ (by decide) (by decide:1<2) rfl
   have hi:dIL (dOp De (AB 0) (dC (.str "\n"))) l5=some (rs.map (fun r=>.str (rt r)),l5):=by
    unfold dIL
    rw[oQ (.str (scT rs)) (.str "\n") l5 rfl rfl (Ox h hl hn),ay];rfl
   have:=lcg (enc:=fun r=>.str (rt r)) (rs:=rs) (τ:=l5) (fr:=[]) (ex:=[]) (c:=A7) (e:=AH DQ (AA (AB 0) AD)) (fun _=>true) eZ hi (by omega) rfl rfl (fun r _=>rfl) (fun r hr _=>cQ [some (.d (.str (rt r)))] [.str (rt r)] rfl rfl (Q4 (h r hr)))
   rw[this,BM]
  ·refine F5 (i:=1) (xs:=rs.map eZ) (t5:=[T,D]) rfl (tst ?_) rfl
   have:=lcg (enc:=eZ) (rs:=rs) (τ:=[T,D]) (fr:=[]) (it:=dIL (AB 1)) (ex:=[]) (c:=A7) (e:=dOp Gg (AB 0) (dC .none)) (fun _=>true) (fun _=>.bool false) rfl (by omega) rfl rfl (fun r _=>rfl) (fun r _ _=>rfl)
   rw[BM]at this
   exact B9 this (ZK _)
def N5:Tx:=⟨"none",∅⟩
theorem Uv:OkN N5:=⟨∅,∅,by unfold Az;decide +kernel⟩
def sS(C:Option L)(v:Int)(rs:List Rz)(a b c d e f g h:Option L):DS:=[C,some (.d (.int v)),some (.m (rs.map eZ)),a,b,c,d,e,f,g,h]
def sD(C:Option L)(v:Int)(rs:List Rz)(a b c d e f g h:Option L):DS:=[C,some (.d (.int v)),some (.d (.list (rs.map eZ))),a,b,c,d,e,f,g,h]
theorem TL{C:Option L}(hC:okM C=true){v:Int}{rs:List Rz}{a b c d e f g h:Option L}(ha:okM a=true)(hb:okM b=true)(hc:okM c=true)(hd:okM d=true)(he:okM e=true)(hf:okM f=true)(hg:okM g=true)(hh:okM h=true):(sD C v rs a b c d e f g h).all okM=true:=by
 show(okM C&&(true&&(true&&(okM a&&(okM b&&(okM c&&(okM d&&(okM e&&(okM f&&(okM g&&(okM h&&true)))))))))))=true
 rw[hC,ha,hb,hc,hd,he,hf,hg,hh];rfl
theorem XI{C:Option L}(hC:okM C=true){v:Int}{rs:List Rz}{a b c d e f g h:Option L}(ha:okM a=true)(hb:okM b=true)(hc:okM c=true)(hd:okM d=true)(he:okM e=true)(hf:okM f=true)(hg:okM g=true)(hh:okM h=true):(sS C v rs a b c d e f g h).all okM=true:=by
 show(okM C&&(true&&(fixDs (rs.map eZ)&&(okM a&&(okM b&&(okM c&&(okM d&&(okM e&&(okM f&&(okM g&&(okM h&&true)))))))))))=true
 rw[hC,ha,hb,hc,hd,he,hf,hg,hh,NW];rfl
theorem Th{i:Nat}{f:DX}{τ:DS}{m:List PyData}{ys:List PyData}(hi:τ[i]?=some (some (.m m)))(hf:f (τ.set i (some (.d (.list m))))=some (.list ys,τ.set i (some (.d (.list m)))))(hy:fixDs ys=true)(hok:(τ.set i (some (.d (.list m)))).all okM=true):C0 i f τ=some (.list ys,τ):=by
 unfold C0
 rw[hi]
 dsimp only
 rw[hf]
 dsimp only[Option.bind]
 rw[hy,hok,Bool.and_self,if_pos rfl,List.set_set]
 congr 2
 obtain⟨hlt,he⟩:=F'.mp hi
 rw[<- he]
 exact List.set_getElem_self hlt
theorem Q1{i j:Nat}{e k:DX}{τ t5 t9:DS}{d:PyData}{n:Int}{xs:List PyData}(he:e τ=some (d,t5))(hk:k t5=some (.int n,t9))(hm:t9[i]?=some (some (.m xs)))(hj:ixN xs.length n=some j):Dk i e k τ=some (.nx (t9.set i (some (.m (xs.set j d))))):=by
 unfold Dk
 rw[he,cR]
 dsimp only
 rw[hk,cR]
 dsimp only
 rw[hm]
 dsimp only
 rw[hj,Option.map_some]
abbrev gNm:DX:=C0 2 (dOp OL (dLC 1 [] (dIL (AB 2)) (dN 0) A7 (dOp AK (AB 0) (dC (.int 0)))) (C7 (AA (dC (.str "none")) AD)))
abbrev gB1:DB:=AJ (AV 0 Co (AA (dOp Ag (dC (.int 26)) (AB 4)) AD)) (dN 5)
abbrev gB2:DB:=Dk 2 (Bo 2 (dOp HZ (Aa (AA (dOp A6 (AB 3) (dOp AW (AB 5) (AN Aj (AA (AB 3) AD)))) (AA (dOp A6 (AB 3) (dOp AW (dOp Af (AB 5) (AN Aj (AA (AB 3) AD))) (AN Aj (AA (AB 3) AD)))) AD))) (Fj (dOp A6 (AB 2) (AB 4)) (dPt (dC (.int 2))) E1))) (AB 4)
theorem UB{ns:List Int}{v:Int}{rs0:List Rz}(h:∀r∈rs0,Ok8 r)(hl:rs0.length<=24):∃rs a b c,nM a/\nM b/\nM c/\(∀r∈rs,Ok8 r)/\rs.length=rs0.length /\
  AI (AJ gNm (dN 3)) (B0 (dR1 (AA (Bo 2 (AN Aj (AA (AB 2) AD))) AD)) (dN 4) (AI gB1 gB2)) (sS (some (.c (ns.map .int))) v rs0 none none none none none none none none)=some (.nx (sS (some (.c (ns.map .int))) v rs a b c none none none none none)):=by
 let C:Option L:=some (.c (ns.map .int))
 let I:Int->Option L:=fun i=>some (.d (.int i))
 let nm:List Tx:=rs0.map (·.n)++[N5]
 have nml:nm.length=rs0.length+1:=by show(rs0.map (·.n)++[N5]).length=_;rw[T',B'];rfl
 have nmo:∀t∈nm,OkN t:=fun t ht=>by
  rcases au.mp ht with z|z
  ·obtain⟨r,hr,rfl⟩:=av.mp z
   exact⟨(h r hr).row.n1,(h r hr).row.n8,(h r hr).row.na⟩
  ·rw[aT.mp z];exact Uv
 let N:Option L:=some (.d (.list (nm.map eT)))
 let st:List Rz->Option L->Option L->Option L->DS:=fun rs a b c=>sS C v rs a b c none none none none none
 let bt:List Rz->Option L->Option L->Option L->DS:=fun rs a b c=>sD C v rs a b c none none none none none
 have z1:AJ gNm (dN 3) (st rs0 none none none)=some (.nx (st rs0 N none none)):=by
  refine AY (d:=.list (nm.map eT)) (t5:=st rs0 none none none) (Th (m:=rs0.map eZ) rfl ?_ (YJ nm) rfl) rfl
  have lc:=lcg (enc:=eZ) (rs:=rs0) (τ:=bt rs0 none none none) (fr:=[]) (it:=dIL (AB 2)) (ex:=[]) (c:=A7) (e:=dOp AK (AB 0) (dC (.int 0))) (fun _=>true) (fun r=>eT r.n) rfl (by omega) rfl rfl (fun r _=>rfl) (fun r _ _=>rfl)
  rw[BM]at lc
  refine oQ (.list (rs0.map fun r:Rz=>eT r.n)) (.list [eT N5]) (bt rs0 none none none) lc rfl ?_
  show(if _ then some (PyData.list ((rs0.map fun r:Rz=>eT r.n)++[eT N5])) else none)=_
  rw[if_pos (by rw[B'];exact sz (by show rs0.length+1<=1000;omega))]
  show _=some (PyData.list ((rs0.map (·.n)++[N5]).map eT))
  rw[bE,ay];rfl
 have lp:∃t7,Bn (dN 4) (AI gB1 gB2) ((List.range rs0.length).map fun(k:Nat)=>PyData.int (k:Int)) (st rs0 N none none)=some (.nx t7)/\∃rs b c,nM b/\nM c/\(∀r∈rs,Ok8 r)/\rs.length=rs0.length/\t7=st rs N b c:=by
  refine Bv (fun(pre:List Nat) τ=>∃rs b c,nM b/\nM c/\(∀r∈rs,Ok8 r)/\rs.length=rs0.length/\τ=st rs N b c) ⟨rs0,none,none,Ao,Ao,h,rfl,rfl⟩ ?_
  rintro pre k post τ e ⟨rs,b,c,nb,nc,hr,hlen,rfl⟩
  have hk:k<rs0.length:=bh.mp (FF e)
  obtain⟨u,l1,e1⟩:=Qt (ns:=ns) (k:=26+(k:Int)) (by omega)
  obtain⟨r,er,gr⟩:=BW (enc:=eZ) (xs:=rs) (k:=(k:Int)) (by omega) (by omega)
  have hmem:r∈rs:=aO gr
  have M0:(0:Int)<(nm.length:Nat):=by omega
  obtain⟨t1,a1,g1⟩:=BW (enc:=eT) (xs:=nm) (k:=u % (nm.length:Nat)) (ak _ (by omega)) (aa _ M0)
  obtain⟨t2,a2,g2⟩:=BW (enc:=eT) (xs:=nm) (k:=u / (nm.length:Nat) % (nm.length:Nat)) (ak _ (by omega)) (aa _ M0)
  have o1:=nmo t1 (aO g1)
  have o2:=nmo t2 (aO g2)
  let q:Rz:={ r with n:=t1,h:=t2 }
  have okq:Ok8 q:=by
   have:=(hr r hmem).row
   exact⟨⟨o1.n1,o1.n8,o1.na,this.x0,this.x1,this.y0,this.y1,this.d⟩,.inr o2⟩
  let t5:=st rs N (I k) c
  let t9:=st rs N (I k) (I u)
  let l6:=bt rs N (I k) (I u)
  have s1:gB1 t5=some (.nx t9):=AY (d:=.int u) (t5:=t5) (E3 (xs:=ns.map .int) (t5:=t5) (rs:=[.d (.int (26+(k:Int)))]) (ds:=[.int (26+(k:Int))]) rfl rfl rfl e1) (Bs (o:=c) rfl nc)
  have ln:AN Aj (AA (AB 3) AD) l6=some (.int (nm.length:Nat),l6):=B9 (d:=.list (nm.map eT)) (t5:=l6) rfl (by show some (PyData.int ((nm.map eT).length:Nat))=_;rw[B'])
  have x1:dOp A6 (AB 3) (dOp AW (AB 5) (AN Aj (AA (AB 3) AD))) l6=some (eT t1,l6):=oQ (.list (nm.map eT)) (.int (u % (nm.length:Nat))) l6 rfl (oQ (.int u) (.int (nm.length:Nat)) l6 rfl ln (A9 M0)) a1
  have x2:dOp A6 (AB 3) (dOp AW (dOp Af (AB 5) (AN Aj (AA (AB 3) AD))) (AN Aj (AA (AB 3) AD))) l6=some (eT t2,l6):=oQ (.list (nm.map eT)) (.int (u / (nm.length:Nat) % (nm.length:Nat))) l6 rfl (oQ (.int (u / (nm.length:Nat))) (.int (nm.length:Nat)) l6 (oQ (.int u) (.int (nm.length:Nat)) l6 rfl ln (Bc M0 (by omega))) ln (A9 M0)) a2
  have x3:Fj (dOp A6 (AB 2) (AB 4)) (dPt (dC (.int 2))) E1 l6=some (.tuple [.int r.x,.int r.y,.bool r.s,eT (kS (kz r.d)),eD r.d],l6):=by
   unfold Fj
   rw[oQ (.list (rs.map eZ)) (.int (k:Int)) l6 rfl rfl er]
   rfl
  have x4:Bo 2 (dOp HZ (Aa (AA (dOp A6 (AB 3) (dOp AW (AB 5) (AN Aj (AA (AB 3) AD)))) (AA (dOp A6 (AB 3) (dOp AW (dOp Af (AB 5) (AN Aj (AA (AB 3) AD))) (AN Aj (AA (AB 3) AD)))) AD))) (Fj (dOp A6 (AB 2) (AB 4)) (dPt (dC (.int 2))) E1)) t9=some (eZ q,t9) :=
   Ku (i:=2) (xs:=rs.map eZ) rfl (oQ (.tuple [eT t1,eT t2]) (.tuple [.int r.x,.int r.y,.bool r.s,eT (kS (kz r.d)),eD r.d]) l6 (Oi (ds:=[eT t1,eT t2]) (acc x1 (acc x2 rfl)) rfl (by decide:2<=1000)) x3 rfl) (encZ.fix q) rfl
  have ix:ixN (rs.map eZ).length (k:Int)=some k:=by
   unfold ixN
   rw[B',if_pos (by omega),if_pos (by omega)];rfl
  have s2:gB2 t9=some (.nx (st (rs.set k q) N (I k) (I u))):=by
   refine(Q1 (t9:=t9) (xs:=rs.map eZ) (n:=(k:Int)) (j:=k) x4 rfl rfl ix).trans ?_
   show some (Out.nx [C,some (.d (.int v)),some (.m ((rs.map eZ).set k (eZ q))),N,I k,I u,none,none,none,none,none])=_
   rw[<- List.map_set];rfl
  refine⟨t5,_,Bs (o:=b) rfl nb,(AF s1).trans s2,rs.set k q,I k,I u,Bz,Bz,fun x hx=>?_,by rw[aU];exact hlen,rfl⟩
  rcases List.mem_or_eq_of_mem_set hx with z|z
  ·exact hr x z
  ·rw[z];exact okq
 obtain⟨t7,e,rs,b,c,nb,nc,hr,hlen,rfl⟩:=lp
 rw[<- GN]at e
 refine⟨rs,N,b,c,Bz,nb,nc,hr,hlen,(AF z1).trans ((C2 (GP (n:=(rs0.length:Nat)) (t5:=st rs0 N none none) (acc (Ku (i:=2) (xs:=rs0.map eZ) rfl (B9 (d:=.list (rs0.map eZ)) (t5:=bt rs0 N none none) rfl ?_) rfl rfl) rfl) (by omega) (by omega))).trans e)⟩
 show some (PyData.int ((rs0.map eZ).length:Nat))=_
 rw[B']
abbrev hC:DT:=Bj 2 (Bj 10 (Be (Am (AE (Bg "str" (AB 9)))) (Be (AE (dOp fNe (AB 9) (AB 6))) (Be (Am (AE (AH Bb (AA (AB 10) (AA (AB 2) AD))))) (AE (dOp fNe (AB 7) (AB 2)))))))
theorem W2{C:Option L}(hC:okM C=true){v:Int}{rs:List Rz}(h:∀r∈rs,Ok8 r)(hl:rs.length<=24){a b c f g o:Option L}(na:nM a)(nb:nM b)(nc:nM c)(nf:nM f)(ng:nM g)(ho:okM o=true):∃o',okM o'=true /\
  AI (AJ (AH BF (AA (AB 7) AD)) (dN 9)) (AI (BP 1 10 (AH CC (AA (AB 6) AD))) (AI (AQ My.hC (AL (dC (.bool false))) AR) (AI (Av (dMt 10 Ah (AA (dC .none) AD))) (Av (dMt 10 Dc AD))))) (sS C v rs a b c (some (.d (.str (scT rs)))) (some (.d (.list (rs.map eZ)))) f g o)=some (.nx (sS C v rs a b c (some (.d (.str (scT rs)))) (some (.d (.list (rs.map eZ)))) f (some (.d (.str (scT rs)))) o')):=by
 let T:Option L:=some (.d (.str (scT rs)))
 let D:PyData:=.list (rs.map eZ)
 let st:Option L->Option L->DS:=fun g o=>sS C v rs a b c T (some (.d D)) f g o
 let bt:Option L->Option L->DS:=fun g o=>sD C v rs a b c T (some (.d D)) f g o
 have okb:∀g o,okM g=true->okM o=true->(bt g o).all okM=true:=fun g o h1 h2=>TL hC (Cd na) (Cd nb) (Cd nc) rfl rfl (Cd nf) h1 h2
 have oks:∀g o,okM g=true->okM o=true->(st g o).all okM=true:=fun g o h1 h2=>XI hC (Cd na) (Cd nb) (Cd nc) rfl rfl (Cd nf) h1 h2
 have s1:AJ (AH BF (AA (AB 7) AD)) (dN 9) (st g o)=some (.nx (st T o)):=AY (d:=.str (scT rs)) (t5:=st g o) (cQ (st g o) [D] rfl rfl (Q0 h (by omega))) (Bs (o:=g) rfl ng)
 have s2:BP 1 10 (AH CC (AA (AB 6) AD)) (st T o)=some (.nx (st T (some (.m (rs.map eZ))))):=F8 (t5:=st T o) (xs:=rs.map eZ) (cQ (st T o) [.str (scT rs)] rfl rfl (X2 (ds:=[.str (scT rs)]) (UC h (by omega)))) (by decide) (by decide:10<11) (oks T o rfl ho)
 obtain⟨l3,e3⟩:=J9 (rs:=rs) (by omega)
 have s3:My.hC (st T (some (.m (rs.map eZ))))=some (false,st T (some (.m (rs.map eZ)))):=by
  refine F5 (i:=2) (xs:=rs.map eZ) (t5:=bt T (some (.m (rs.map eZ)))) rfl (F5 (i:=10) (xs:=rs.map eZ) (t5:=bt T (some (.d D))) rfl ?_ (okb T _ rfl rfl)) (okb T _ rfl (NW rs))
  have q1:AE (dOp fNe (AB 9) (AB 6)) (bt T (some (.d D)))=some (false,bt T (some (.d D))):=tst (oQ (eT (sT rs h)) (eT (sT rs h)) (bt T (some (.d D))) rfl rfl ((VS _ _).trans (by rw[decide_eq_true rfl];rfl)))
  have q2:=Fz (tst (BE (G:=Bb) (a:=AA (AB 10) (AA (AB 2) AD)) (τ:=bt T (some (.d D))) (t5:=bt T (some (.d D))) (rs:=[.d D,.d D]) (ds:=[D,D]) rfl rfl e3))
  have q3:AE (dOp fNe (AB 7) (AB 2)) (bt T (some (.d D)))=some (false,bt T (some (.d D))):=tst (oQ D D (bt T (some (.d D))) rfl rfl (by rw[encZ.fNeL,decide_eq_true rfl];rfl))
  exact FZ (t5:=bt T (some (.d D))) rfl (FZ q1 (FZ q2 q3))
 let xs:List PyData:=rs.map eZ++[.none]
 have s4:Av (dMt 10 Ah (AA (dC .none) AD)) (st T (some (.m (rs.map eZ))))=some (.nx (st T (some (.m xs)))):=OW (i:=10) (d:=.none) (xs:=rs.map eZ) (t5:=st T (some (.m (rs.map eZ)))) rfl rfl (by rw[B'];omega)
 have s5:Av (dMt 10 Dc AD) (st T (some (.m xs)))=some (.nx (st T (some (.m xs.reverse)))):=rfl
 refine⟨some (.m xs.reverse),?_,(AF s1).trans ((AF s2).trans ((skT s3).trans ((AF s4).trans s5)))⟩
 show fixDs (rs.map eZ++[PyData.none]).reverse=true
 rw[List.reverse_append,<- List.map_reverse]
 show(true&&fixDs (rs.reverse.map eZ))=true
 rw[NW];rfl
theorem Lb(ns:List Int)(h63:ns.length<=63):∃ls,Ij [.c (ns.map .int)]=some (.bool true,ls):=by
 let C:Option L:=some (.c (ns.map .int))
 obtain⟨v,l0,e0⟩:=Qt (ns:=ns) (k:=0) (by decide)
 obtain⟨rs0,l1,e1,ok,_,hl,_⟩:=K5 (ns:=ns) (f:=1) (m:=v % 25) (by decide) (by omega) (by omega)
 have h0:∀r∈rs0,Ok8 r:=fun r hr=>by
  have o:=OkR.all ok r (ae.mpr hr)
  refine⟨o,?_⟩
  have:∀{a:List Rz},OkR a->∀r∈a,r.h=t0\/OkN r.h:=fun {a}=>by
   induction a with
   |nil=>intro _ r hr;cases hr
   |cons q a ih =>
    intro ok r hr
    rcases Z'.mp hr with z|z
    ·rw[z]
     exact ok.2.2.2.imp id fun⟨p,hp,e⟩=>by
      have op:=OkR.all ok.1 p hp
      rw[<- e];exact⟨op.n1,op.n8,op.na⟩
    ·exact ih ok.1 r z
  exact this ok r (ae.mpr hr)
 let N:Option L:=none
 let p7:DS:=[C,N,N,N,N,N,N,N,N,N,N]
 let p4:DS:=[C,some (.d (.int v)),N,N,N,N,N,N,N,N,N]
 let st:List Rz->Option L->Option L->Option L->Option L->Option L->DS:=fun rs a b c d e=>sS C v rs a b c d e N N N
 have z1:AJ (AV 0 Co (AA (dC (.int 0)) AD)) (dN 1) p7=some (.nx p4):=AY (d:=.int v) (t5:=p7) (E3 (xs:=ns.map .int) (t5:=p7) (rs:=[.d (.int 0)]) (ds:=[.int 0]) rfl rfl rfl e0) rfl
 have z2:BP 1 2 (AV 0 CN (AA (dC (.int 1)) (AA (dOp AW (AB 1) (dC (.int 25))) AD))) p4=some (.nx (st rs0 N N N N N)):=F8 (t5:=p4) (xs:=rs0.map eZ) (E3 (xs:=ns.map .int) (t5:=p4) (rs:=[.d (.int 1),.d (.int (v % 25))]) (ds:=[.int 1,.int (v % 25)]) (acc (t5:=p4) rfl (acc (oQ (.int v) (.int 25) p4 rfl rfl (A9 (by decide))) rfl)) rfl rfl e1) (by decide) (by decide:2<11) rfl
 have z3:∃rs a b c,nM a/\nM b/\nM c/\(∀r∈rs,Ok8 r)/\rs.length<=24/\AQ (AE (dOp fEq (dOp AW (dOp Af (AB 1) (dC (.int 25))) (dC (.int 3))) (dC (.int 1)))) (AI (AJ gNm (dN 3)) (B0 (dR1 (AA (Bo 2 (AN Aj (AA (AB 2) AD))) AD)) (dN 4) (AI gB1 gB2))) AR (st rs0 N N N N N)=some (.nx (st rs a b c N N)):=by
  have c:AE (dOp fEq (dOp AW (dOp Af (AB 1) (dC (.int 25))) (dC (.int 3))) (dC (.int 1))) (st rs0 N N N N N)=some (decide (v / 25 % 3=1),st rs0 N N N N N):=tst (oQ (.int (v / 25 % 3)) (.int 1) (st rs0 N N N N N) (oQ (.int (v / 25)) (.int 3) (st rs0 N N N N N) (oQ (.int v) (.int 25) (st rs0 N N N N N) rfl rfl (Bc (by decide) (by decide))) rfl (A9 (by decide))) rfl (encI.fEq _ _))
  by_cases hv:v / 25 % 3=1
  ·rw[decide_eq_true hv]at c
   obtain⟨rs,a,b,d,na,nb,nd,hr,hlen,e⟩:=UB (ns:=ns) (v:=v) h0 (by omega)
   exact⟨rs,a,b,d,na,nb,nd,hr,by omega,(FV c).trans e⟩
  ·rw[decide_eq_false hv]at c
   exact⟨rs0,N,N,N,Ao,Ao,Ao,h0,by omega,(Bm c).trans rfl⟩
 obtain⟨rs,a,b,c,na,nb,nc,hr,hlen,z3⟩:=z3
 let T:Option L:=some (.d (.str (scT rs)))
 let D:Option L:=some (.d (.list (rs.map eZ)))
 have okd:∀d e,okM d=true->okM e=true->(sD C v rs a b c d e N N N).all okM=true:=fun d e h1 h2=>TL rfl (Cd na) (Cd nb) (Cd nc) h1 h2 rfl rfl rfl
 have z4:AJ (Bo 2 (Em "\n" (dLC 1 [] (dIL (AB 2)) (dN 0) A7 (AH CQ (AA (AB 0) AD))))) (dN 6) (st rs a b c N N)=some (.nx (st rs a b c T N)) :=
  AY (d:=.str (scT rs)) (t5:=st rs a b c N N) (Ku (i:=2) (xs:=rs.map eZ) rfl (TH hr (by omega) (K1 (fun r h=>XM (hr r h)) (by omega) rfl rfl)) rfl (okd N N rfl rfl)) rfl
 have z5:AJ (C0 2 (AN By (AA (AB 2) AD))) (dN 7) (st rs a b c T N)=some (.nx (st rs a b c T D)) :=
  AY (d:=.list (rs.map eZ)) (t5:=st rs a b c T N) (Th (i:=2) (m:=rs.map eZ) rfl (B9 (d:=.list (rs.map eZ)) (t5:=sD C v rs a b c T N N N N) rfl rfl) (NW rs) (okd T N rfl rfl)) rfl
 let Bd:DB:=AI (AJ (AH BF (AA (AB 7) AD)) (dN 9)) (AI (BP 1 10 (AH CC (AA (AB 6) AD))) (AI (AQ hC (AL (dC (.bool false))) AR) (AI (Av (dMt 10 Ah (AA (dC .none) AD))) (Av (dMt 10 Dc AD)))))
 have lp:∃t7,Bn (dN 8) Bd ((rng 0 2).map PyData.int) (st rs a b c T D)=some (.nx t7)/\∃f g o,nM f/\nM g/\okM o=true/\t7=sS C v rs a b c T D f g o:=by
  refine Bv (fun(pre:List Int) τ=>∃f g o,nM f/\nM g/\okM o=true/\τ=sS C v rs a b c T D f g o) ⟨none,none,none,Ao,Ao,rfl,rfl⟩ ?_
  rintro pre k post τ _ ⟨f,g,o,nf,ng,ho,rfl⟩
  obtain⟨o',ho',e⟩:=W2 (C:=C) rfl (v:=v) hr hlen na nb nc (f:=some (.d (.int k))) Bz ng ho
  exact⟨_,_,Bs (o:=f) rfl nf,e,_,_,_,Bz,Bz,ho',rfl⟩
 obtain⟨t7,e,f,g,o,_,_,_,rfl⟩:=lp
 refine⟨[.c (ns.map .int)],?_⟩
 unfold Ij
 refine AU (τ:=sS C v rs a b c T D f g o) ?_ rfl rfl
 exact(AF z1).trans ((AF z2).trans ((AF z3).trans ((AF z4).trans ((AF z5).trans ((AF ((C2 (GP (n:=2) (t5:=st rs a b c T D) rfl (by decide) (by decide))).trans e)).trans rfl)))))
theorem all_mk{l:PySem.W.OpenLaw}{w:World}{K:PySem.W.Frag}{h:Heap}{mg:Str->Option Value}{fa:Addr}(X:K.In h)(G:h.Ns mainGlobals mg)(hfa:mg "law"=some (.ref fa))
  (d0:DE K "_law_cell_at" HU)
  (d1:DE K "_law_big" M1)
  (d2:DE K "_law_name_of" HR)
  (d3:DE K "_law_step_of" HP)
  (d4:DE K "_law_up" O5)
  (d5:DE K "_law_low" Mz)
  (d6:DE K "_law_share_of" GI)
  (d7:DE K "_law_paint_of" GL)
  (d8:DE K "_law_stencil_of" Et)
  (d9:DE K "_law_size_of" HQ)
  (d10:DE K "_law_word_of" HN)
  (d11:DE K "_law_data_of" HS)
  (d12:DE K "_law_kinds" Jp)
  (d13:DE K "_law_row_of" IV)
  (d14:DE K "_law_scene_of" GJ)
  (d15:DE K "row_shown" HJ)
  (d16:DE K "row_kind" IH)
  (d17:DE K "row_name" IG)
  (d18:DE K "text_written" Ep)
  (d19:DE K "row_holder" GB)
  (d20:DE K "row_x" Mw)
  (d21:DE K "row_y" Mv)
  (d22:DE K "fraction_written" DK)
  (d23:DE K "datum_written" Ek)
  (d24:DE K "row_data" II)
  (d25:DE K "row_written" FR)
  (d26:DE K "scene_shown" FQ)
  (d27:DE K "text_read" HI)
  (d28:DE K "is_figures" GG)
  (d29:DE K "whole_read" F9)
  (d30:DE K "fraction_read" Ej)
  (d31:DE K "datum_read" GH)
  (d32:DE K "row_guessed" FT)
  (d33:DE K "is_text_of" GC)
  (d34:DE K "is_name" Jm)
  (d35:DE K "is_truth" IK)
  (d36:DE K "is_whole" IJ)
  (d37:DE K "is_within" HK)
  (d38:DE K "common_divisor" Dy)
  (d39:DE K "is_share" IL)
  (d40:DE K "is_bounded_share" DJ)
  (d41:DE K "is_paint" IQ)
  {f42:Addr} {g42:FuncData} (d42:DF K "is_plate" IM f42 g42)
  {f43:Addr} {g43:FuncData} (d43:DF K "is_band" Jo f43 g43)
  (d44:DE K "is_sign" Jl)
  (d45:DE K "is_word_text" Er)
  {f46:Addr} {g46:FuncData} (d46:DF K "is_word" Jj f46 g46)
  (d47:DE K "are_stencil_rows" DM)
  {f48:Addr} {g48:FuncData} (d48:DF K "is_stencil" GD f48 g48)
  {f49:Addr} {g49:FuncData} (d49:DF K "is_empty" IU f49 g49)
  {f50:Addr} {g50:FuncData} (d50:DF K "is_glass" IS f50 g50)
  (d51:DE K "is_place" IP)
  {f52:Addr} {g52:FuncData} (d52:DF K "is_window" HL f52 g52)
  {f53:Addr} {g53:FuncData} (d53:DF K "is_turn" Jk f53 g53)
  {f54:Addr} {g54:FuncData} (d54:DF K "are_tiles" HM f54 g54)
  (d55:DE K "is_data" Jn)
  (d56:DE K "is_row" K6)
  (d57:DE K "row_read" IF)
  (d58:DE K "scene_read" GA)
  (d59:DE K "_law_word_shown" Es)
  (d60:DE K "_law_row_text" GK)
  (d61:DE K "_law_same_rows" FU)
  (d62:DE K "law" TJ)
  (z_abs:PySem.W.nsIn K mainGlobals "abs"=some none)
  (z_all:PySem.W.nsIn K mainGlobals "all"=some none)
  (z_any:PySem.W.nsIn K mainGlobals "any"=some none)
  (z_bool:PySem.W.nsIn K mainGlobals "bool"=some none)
  (z_int:PySem.W.nsIn K mainGlobals "int"=some none)
  (z_isinstance:PySem.W.nsIn K mainGlobals "isinstance"=some none)
  (z_len:PySem.W.nsIn K mainGlobals "len"=some none)
  (z_list:PySem.W.nsIn K mainGlobals "list"=some none)
  (z_range:PySem.W.nsIn K mainGlobals "range"=some none)
  (z_str:PySem.W.nsIn K mainGlobals "str"=some none)
  (z_tuple:PySem.W.nsIn K mainGlobals "tuple"=some none)
  (z_zip:PySem.W.nsIn K mainGlobals "zip"=some none)
  {uv_FIGURES:Value} (kn_FIGURES:PySem.W.nsIn K mainGlobals "FIGURES"=some (some uv_FIGURES)) (kt_FIGURES:Ax ⟨K,w⟩ (.str "0123456789") uv_FIGURES=true)
  {ad_FORMS_notes:Addr} {es_FORMS_notes:Array DictEntry} {nn_FORMS_notes:Nat} (kn_FORMS_notes:PySem.W.nsIn K mainGlobals "FORMS_notes"=some (some (.ref ad_FORMS_notes))) (kl_FORMS_notes:K.lookup ad_FORMS_notes=some ⟨.type "dict",none,.dict es_FORMS_notes nn_FORMS_notes,#[]⟩) (kq_FORMS_notes:KdL ⟨K,w⟩ w es_FORMS_notes.toList AS) (hs_FORMS_notes:(ad_FORMS_notes==sysModules)=false)
  {ad_FORMS_rows:Addr} {es_FORMS_rows:Array DictEntry} {nn_FORMS_rows:Nat} (kn_FORMS_rows:PySem.W.nsIn K mainGlobals "FORMS_rows"=some (some (.ref ad_FORMS_rows))) (kl_FORMS_rows:K.lookup ad_FORMS_rows=some ⟨.type "dict",none,.dict es_FORMS_rows nn_FORMS_rows,#[]⟩) (kq_FORMS_rows:KfL w es_FORMS_rows.toList [("plate",f42),("band",f43),("word",f46),("stencil",f48),("group",f49),("glass",f50),("window",f52),("turn",f53),("tiles",f54),("mask",f49)]) (hs_FORMS_rows:(ad_FORMS_rows==sysModules)=false)
  {tk_HEAD:Tok} (kn_HEAD:PySem.W.nsIn K mainGlobals "HEAD"=some (some (.int 6 tk_HEAD)))
  {uv_NAME_SIGNS:Value} (kn_NAME_SIGNS:PySem.W.nsIn K mainGlobals "NAME_SIGNS"=some (some uv_NAME_SIGNS)) (kt_NAME_SIGNS:Ax ⟨K,w⟩ (.str "abcdefghijklmnopqrstuvwxyz0123456789") uv_NAME_SIGNS=true)
  {ad_SIGNS:Addr} {es_SIGNS:Array DictEntry} {nn_SIGNS:Nat} (kn_SIGNS:PySem.W.nsIn K mainGlobals "SIGNS"=some (some (.ref ad_SIGNS))) (kl_SIGNS:K.lookup ad_SIGNS=some ⟨.type "dict",none,.dict es_SIGNS nn_SIGNS,#[]⟩) (kq_SIGNS:KdL ⟨K,w⟩ w es_SIGNS.toList Dx) (hs_SIGNS:(ad_SIGNS==sysModules)=false)
  {c_NoText:Addr} (ac_NoText:PySem.W.nsIn K mainGlobals "NoText"=some (some (.ref c_NoText))) (qc_NoText:PySem.W.excIn K c_NoText [.type "ValueError",.type "Exception",.type "BaseException",.type "object"] "ValueError.__new__"=true)
  : ∃fd:FuncData,(∀(s:Shared) (v:Value),BindsTo s fd ⟨[v],[]⟩ [("_law_script",v)])/\∀base:Heap,K.In base->base.Ns mainGlobals mg->FnOk l.prog w K mg base CX0 10 fa fd ["_law_script"] (spD ⟨K,w⟩ Ij false):=by
 refine DE.law d62 X G hfa fun base _ _ F=>?_
 let Z:Zz:=⟨l.prog,w,K,mg,base⟩
 have D:∀{x st},DE K x st->Dd Z x st:=fun d=>⟨h,X,G,d⟩
 have z_abs:zQ Z "abs":=aW X G z_abs
 have z_all:zQ Z "all":=aW X G z_all
 have z_any:zQ Z "any":=aW X G z_any
 have z_bool:zQ Z "bool":=aW X G z_bool
 have z_int:zQ Z "int":=aW X G z_int
 have z_isinstance:zQ Z "isinstance":=aW X G z_isinstance
 have z_len:zQ Z "len":=aW X G z_len
 have z_list:zQ Z "list":=aW X G z_list
 have z_range:zQ Z "range":=aW X G z_range
 have z_str:zQ Z "str":=aW X G z_str
 have z_tuple:zQ Z "tuple":=aW X G z_tuple
 have z_zip:zQ Z "zip":=aW X G z_zip
 have kc_FIGURES:kaZ Z "FIGURES" (.str "0123456789") uv_FIGURES:=And.intro (bP X G kn_FIGURES) kt_FIGURES
 have kc_FORMS_notes:kdZ Z "FORMS_notes" AS:=⟨_,bP X G kn_FORMS_notes,⟨⟨es_FORMS_notes,nn_FORMS_notes,kl_FORMS_notes,kq_FORMS_notes⟩⟩,hs_FORMS_notes⟩
 have kc_HEAD:kiZ Z "HEAD" 6 tk_HEAD:=bP X G kn_HEAD
 have kc_NAME_SIGNS:kaZ Z "NAME_SIGNS" (.str "abcdefghijklmnopqrstuvwxyz0123456789") uv_NAME_SIGNS:=And.intro (bP X G kn_NAME_SIGNS) kt_NAME_SIGNS
 have kc_SIGNS:kdZ Z "SIGNS" Dx:=⟨_,bP X G kn_SIGNS,⟨⟨es_SIGNS,nn_SIGNS,kl_SIGNS,kq_SIGNS⟩⟩,hs_SIGNS⟩
 let cls:Nat->Addr:=fun n=>[c_NoText].getD n 0
 have hm_NoText:clZ Z cls 0 "NoText":=⟨bP X G ac_NoText,qc_NoText⟩
 have c47:FA Z:=Kb (D d0) z_len
 have c50:E8 Z:=KZ (D d2) z_range
 have c09:Dr Z:=KU (D d3)
 have c61:Mn Z:=Ra (D d4)
 have c60:Ky Z:=Pu (D d5) z_abs
 have c27:Dh Z:=Hg (D d8) z_range z_tuple
 have c48:E7 Z:=KY (D d9)
 have c49:E6 Z:=KS (D d10) z_range
 have c56:HC Z:=MO (D d12)
 have c08:Dq Z:=KN (D d15)
 have c15:EW Z:=LK (D d16)
 have c14:EV Z:=LJ (D d17)
 have c04:CZ Z:=Hd (D d18)
 have c07:C8 Z:=JQ (D d19)
 have c45:Hz Z:=Pq (D d20)
 have c44:Hy Z:=Pp (D d21)
 have c11:B3 Z:=FO (D d22)
 have c16:EX Z:=LL (D d24)
 have c10:Dm Z:=KL (D d27)
 have c34:Ec Z:=JT (D d28) z_all kc_FIGURES
 have c06:C9 Z:=JR (D d33) z_len z_str z_isinstance z_all
 have c17:EZ Z:=LN (D d35) z_bool z_isinstance
 have c13:EY Z:=LM (D d36) z_bool z_isinstance z_int
 have c20:Ck Z:=GU (D d38) z_abs
 have c55:G4 Z:=MK (D d44) kc_SIGNS
 have c19:Fv Z:=LV (D ⟨_,_,d49⟩) z_len
 have c26:Dg Z:=Hf (D d59) z_bool z_isinstance z_int z_str
 have c33:Dw Z:=Ic (D d61) z_list z_isinstance z_len z_range z_bool
 have c46:H0 Z:=Pw (D d1) c47 z_range
 have c35:Ee Z:=JV (D d6) c60
 have c22:C4 Z:=Gq (D d23) c11 c04 z_str
 have c03:CY Z:=JP (D d29) c34 kc_FIGURES
 have c57:G9 Z:=ML (D d34) c06 kc_NAME_SIGNS
 have c00:BQ Z:=KO (D d37) c13
 have c52:Fs Z:=LO (D d39) c13 c20 z_len z_tuple z_isinstance
 have c28:Df Z:=He (D d45) c55 z_len z_str z_isinstance z_all
 have c12:B4 Z:=FP (D d47) c06 z_len z_tuple z_isinstance z_all
 have c42:Eg Z:=JX (D d60) c26 z_str z_int
 have c36:Eh Z:=JY (D d7) c35
 have c05:Cr Z:=Ia (D d25) c08 c44 c45 c04 c07 c14 c15 c16 c22 z_str z_zip kc_FORMS_notes
 have c23:C3 Z:=Gp (D d30) c03
 have c01:BY Z:=FN (D d40) c52
 have c18:Eb Z:=LQ (D d51) c00
 have c40:Gz Z:=MJ (D ⟨_,_,d53⟩) c17 c00 z_len
 have c25:E5 Z:=KR (D ⟨_,_,d54⟩) c00 z_len
 have c51:E9 Z:=Ka (D d11) c48 c09 c36 c49 c27
 have c32:Du Z:=IZ (D d26) c05
 have c37:Ed Z:=JU (D d31) c23 c10 c03 z_tuple
 have c02:Cj Z:=LR (D d41) c01
 have c30:Fu Z:=LU (D ⟨_,_,d50⟩) c01 z_len
 have c24:E4 Z:=KP (D ⟨_,_,d52⟩) c18 c00 z_len
 have c53:Fw Z:=LW (D d13) c50 c61 c56 c09 c51 z_len
 have c31:Dv Z:=Ib (D d32) c37 c10 c03 z_zip z_tuple kc_HEAD kc_FORMS_notes
 have c29:Ft Z:=LP (D ⟨_,_,d42⟩) c02 c00 z_len
 have c38:HB Z:=MN (D ⟨_,_,d43⟩) c02 c00 z_len
 have c39:Gy Z:=MI (D ⟨_,_,d46⟩) c02 c28 z_len
 have c21:Ea Z:=JS (D ⟨_,_,d48⟩) c02 c12 z_len
 have c41:Ef Z:=JW (D d14) c53 c46 z_range
 have M_is_plate:=d42.m X G
 have M_is_band:=d43.m X G
 have M_is_word:=d46.m X G
 have M_is_stencil:=d48.m X G
 have M_is_empty:=d49.m X G
 have M_is_glass:=d50.m X G
 have M_is_window:=d52.m X G
 have M_is_turn:=d53.m X G
 have M_are_tiles:=d54.m X G
 have M_is_empty:=d49.m X G
 have kc5_FORMS_rows:kfZ Z 5 "FORMS_rows" Ap:=⟨_,[("plate",f42),("band",f43),("word",f46),("stencil",f48),("group",f49),("glass",f50),("window",f52),("turn",f53),("tiles",f54),("mask",f49)],bP X G kn_FORMS_rows,⟨⟨es_FORMS_rows,nn_FORMS_rows,kl_FORMS_rows,kq_FORMS_rows⟩⟩,hs_FORMS_rows,(.cons ⟨_,_,c29.mono (by decide),M_is_plate⟩ (.cons ⟨_,_,c38.mono (by decide),M_is_band⟩ (.cons ⟨_,_,c39.mono (by decide),M_is_word⟩ (.cons ⟨_,_,c21.mono (by decide),M_is_stencil⟩ (.cons ⟨_,_,c19.mono (by decide),M_is_empty⟩ (.cons ⟨_,_,c30.mono (by decide),M_is_glass⟩ (.cons ⟨_,_,c24.mono (by decide),M_is_window⟩ (.cons ⟨_,_,c40.mono (by decide),M_is_turn⟩ (.cons ⟨_,_,c25.mono (by decide),M_are_tiles⟩ (.cons ⟨_,_,c19.mono (by decide),M_is_empty⟩ .nil))))))))))⟩
 have c58:HA Z:=MM (D d55) c29 c38 c39 c21 c19 c30 c24 c40 c25 z_tuple z_isinstance z_str kc5_FORMS_rows
 have c59:JI Z:=N3 (D d56) c57 c14 c07 c18 c44 c45 c58 c16 c15 c17 c08 z_len z_tuple z_isinstance
 have c54:Fq Z:=LI (D d57) c31 c05 c59 z_len kc_HEAD kc_FORMS_notes
 have X_scene_read:Gj Z cls:=Ie (D d58) c54 z_any hm_NoText
 have c43:Gk Z:=Xl.plain X_scene_read
 exact Uq (Z:=Z) F c46 c41 c42 c32 c43 c33 z_len z_range z_list z_str z_isinstance
theorem entry{K:KW}{H:Hp}{a:Addr}{ns:List Int}{Q:VK}{X:XK}(hS:SqL K H a (ns.map V.int))(h63:ns.length<=63)(q:∀H',Q (.bl true) H'):spD K Ij false [.ref a] H Q X:=by
 obtain⟨ls,e⟩:=Lb ns h63
 refine⟨fun _=>False,fun _=>False,[.c (ns.map PyData.int)],.bool true,ls,⟨rfl,fun i x e=>?_,fun i x e=>?_,fun i x e=>?_,fun i j xs ys b e=>?_,fun _ h=>h.elim,fun _ h=>h.elim,GR.nil fun i x e=>?_⟩,e,fun v H' _ _ res=>?_⟩
 ·match i,e with
  |0,e=>cases e
  |i+1,e=>cases e
 ·match i,e with
  |0,e=>exact absurd (A' (A' e)).symm Ow.not_c
  |i+1,e=>cases e
 ·match i,e with
  |0,e =>
   cases e
   exact⟨a,ns.map V.int,rfl,QY hS,Li ns⟩
  |i+1,e=>cases e
 ·match i,e with
  |0,e=>exact absurd (A' (A' e)).symm Ow.not_c
  |i+1,e=>cases e
 ·match i,e with
  |0,e=>cases e
  |i+1,e=>cases e
 ·cases (show v = .bl true from res)
  exact q H'
theorem walk{l:PySem.W.OpenLaw}{q:Program}{loose:List Str}{XP:(Str->Option Value)->Heap->Prop}{YP:World->Heap->Prop}{d:DefRec}{K:Params->PySem.W.Frag}(hn:l.most=some 63)(hdf:d.params.defaults=[])
  (hY:∀(w:World) (h:Heap),YP w h->(K w.params).In h)
  (F : ∀ (w : World) (mg : Str -> Option Value) (fa : Addr) (h : Heap), (K w.params).In h -> h.Ns mainGlobals mg -> mg d.name = some (.ref fa) ->
   ∃fd:FuncData,(∀(s:Shared) (u:Value),BindsTo s fd ⟨[u],[]⟩ [("_law_script",u)])/\∀base:Heap,(K w.params).In base->base.Ns mainGlobals mg->FnOk l.prog w (K w.params) mg base CX0 10 fa fd ["_law_script"] (spD ⟨K w.params,w⟩ Ij false)) :
  PySem.W.WalkO q loose XP YP l.row.toRowW d [] (fun f vs=>PySem.call f vs) :=
 L2.walk_of (n:=63) (k:=10) (x:="_law_script") (CX:=fun _=>CX0) (sp:=fun w=>spD ⟨K w.params,w⟩ Ij false) hn (by decide) hdf ⟨rfl,by decide,by decide⟩ hY F (fun _ _ a ns hl _ hS=>entry hS hl fun _=>rfl) fun _ _ _ _ _ z=>z
end My
namespace PySem.W.Fast
def tw1181065395306852080:=0
def tw5368701208844749163:=0
def tw11108285205246792906:=0
def tw11571921582879365473:=0
def tw12036105819926235712:=0
def tw12231976086884584824:=0
def tw495399089810866166:=0
def tw6988564849743484708:=0
def tw12011160276170982881:=0
def tw4470488720943419064:=0
def tw17240452538685522122:=0
def tw587489001842731069:=0
def tw11568911150149253280:=0
def tw979315440395685347:=0
def tw14820338213092011083:=0
def tw11787634067550356432:=0
def tw6457517832980311051:=0
def tw15809228829114596777:=0
def tw8966711784164564106:=0
def tw589006084747412022:=0
def tw13126849427161926270:=0
def tw12684100103376354929:=0
def tw3613430865914992265:=0
def tw10943526605406662333:=0
def tw10458890299730251267:=0
def tw13745190822693874294:=0
def tw5633776774817273287:=0
def tw8778650493506111426:=0
def tw24679337591364846:=0
def tw10448010968484522108:=0
def tw15906892172876331331:=0
def tw3398162687277994135:=0
def tw12631923112001737746:=0
def tw12937141694637131909:=0
def tw7999606249347948137:=0
def tw17205810027968177697:=0
def tw2499507673853242355:=0
def tw1589321255950451312:=0
def tw4854743802909537250:=0
def tw5049273775979232454:=0
def tw2812501132371333996:=0
def tw15623832050161628748:=0
def tw5345430767412548960:=0
def tw9416311103238706258:=0
def tw5493429711543156275:=0
def tw12771096435405856245:=0
def tw2731612784646595791:=0
def tw15666287323600244516:=0
def tw15819562242531235015:=0
def tw4913125158717162518:=0
def tw14250702076689977888:=0
def tw13364595537118849894:=0
def tw10653424227074611940:=0
def tw16149872369461056162:=0
def tw17738865300259610659:=0
def tw13513604515341443744:=0
def tw17070556101284660632:=0
def tw8631329578338367410:=0
def tw8983337923879740945:=0
def tw315554089072430473:=0
def tw13941699639142156920:=0
def tw9792870919033426783:=0
def tw11737307126080953703:=0
def tw13345157464868775785:=0
def tw6451529368578073109:=0
def tw13967034060518936664:=0
def tw5433770178874099932:=0
def tw16893402535380421283:=0
def tw14102575915935940087:=0
def tw13325135323279519198:=0
def tw15977203393276826848:=0
def tw8694485912482934047:=0
def tw3407550371492012212:=0
def tw4802624977473805007:=0
def tw9591660177923410718:=0
def tw6360915953176882558:=0
def tw6297038614892197184:=0
def tw10503163848673100896:=0
def tw16837734659449292767:=0
def tw3422525958989354220:=0
def tw9124454822126065496:=0
def tw17564368193200647205:=0
def tw6204330802105557421:=0
def tw14024067875538648465:=0
def tw10280966910047660300:=0
def tw16379799093834179749:=0
def tw10377174185614205122:=0
def tw7695502017591926995:=0
def tw9076644145747077814:=0
def tw6667733948550728813:=0
def tw6116392548637124995:=0
def tw8303456274779164470:=0
def tw1975454561037150413:=0
def tw9908600004609756520:=0
def tw413821851483468358:=0
def tw1017522774527009864:=0
def tw9948981489186406084:=0
def tw14763665215963639598:=0
def tw5026747269737412981:=0
def tw14126857102145032837:=0
def tw17523193998386540035:=0
def tw7893959394667087049:=0
def tw231758749187883909:=0
def tw3903899474106097087:=0
def tw15912304907313199742:=0
def tw10558136447590787445:=0
def tw637696467002367670:=0
def tw8512944649375192541:=0
def tw8755879963234352207:=0
def tw13469376266524748112:=0
def tw9038530949652283825:=0
def tw14757127678083517003:=0
def tw12389050294099497114:=0
def tw16928276386060682839:=0
def tw8512204171490129058:=0
end PySem.W.Fast
open PySem PySem.W PyProof.Rows
set_option maxRecDepth 100000 in
set_option maxHeartbeats 0 in
theorem PySem.Challenge.cw_scenemend_k80_scenes_written_holds : PySem.Challenge.rw_scenemend_k80_scenes_written.Holds := by
 w_on;o_law;k_head;(case hw=>w_witness2)
 k_fill
 refine My.walk (l:=PySem.Challenge.rw_scenemend_k80_scenes_written) rfl rfl (fun w h Y=>PySem.W.kIn_of Y) ?F
 case F =>
  intro w mg fa h KX G hmg
  refine' My.all_mk KX G hmg ?d0 ?d1 ?d2 ?d3 ?d4 ?d5 ?d6 ?d7 ?d8 ?d9 ?d10 ?d11 ?d12 ?d13 ?d14 ?d15 ?d16 ?d17 ?d18 ?d19 ?d20 ?d21 ?d22 ?d23 ?d24 ?d25 ?d26 ?d27 ?d28 ?d29 ?d30 ?d31 ?d32 ?d33 ?d34 ?d35 ?d36 ?d37 ?d38 ?d39 ?d40 ?d41 ?d42 ?d43 ?d44 ?d45 ?d46 ?d47 ?d48 ?d49 ?d50 ?d51 ?d52 ?d53 ?d54 ?d55 ?d56 ?d57 ?d58 ?d59 ?d60 ?d61 ?d62 ?z_abs ?z_all ?z_any ?z_bool ?z_int ?z_isinstance ?z_len ?z_list ?z_range ?z_str ?z_tuple ?z_zip ?kn_FIGURES ?kt_FIGURES ?kn_FORMS_notes ?kl_FORMS_notes ?kq_FORMS_notes ?hs_FORMS_notes ?kn_FORMS_rows ?kl_FORMS_rows ?kq_FORMS_rows ?hs_FORMS_rows ?kn_HEAD ?kn_NAME_SIGNS ?kt_NAME_SIGNS ?kn_SIGNS ?kl_SIGNS ?kq_SIGNS ?hs_SIGNS ?ac_NoText ?qc_NoText
  (case d42|d43|d46|d48|d49|d50|d52|d53|d54=>(refine' L2.DF.mk ?a ?b ?c ?d;(case a=>k_is);(case b=>k_is);(case c=>k_is);(case d=>k_is)))
  (case d0|d1|d2|d3|d4|d5|d6|d7|d8|d9|d10|d11|d12|d13|d14|d15|d16|d17|d18|d19|d20|d21|d22|d23|d24|d25|d26|d27|d28|d29|d30|d31|d32|d33|d34|d35|d36|d37|d38|d39|d40|d41|d44|d45|d47|d51|d55|d56|d57|d58|d59|d60|d61|d62=>(refine' Exists.intro _ (Exists.intro _ (L2.DF.mk ?a ?b ?c ?d));(case a=>k_is);(case b=>k_is);(case c=>k_is);(case d=>k_is)))
  (case z_abs|z_all|z_any|z_bool|z_int|z_isinstance|z_len|z_list|z_range|z_str|z_tuple|z_zip|kn_FIGURES=>k_is)
  (case kt_FIGURES=>kernel_rfl)
  (case kn_FORMS_notes|kl_FORMS_notes=>k_is)
  (case kq_FORMS_notes=>(repeat' (first|exact trivial|(refine And.intro ⟨_,rfl⟩ (And.intro rfl (And.intro ?_ ?_)))|kernel_rfl)))
  (case hs_FORMS_notes=>kernel_rfl)
  (case kn_FORMS_rows|kl_FORMS_rows=>k_is)
  (case kq_FORMS_rows=>(repeat' (first|exact trivial|(refine And.intro ⟨_,rfl⟩ (And.intro rfl (And.intro rfl ?_))))))
  (case hs_FORMS_rows=>kernel_rfl)
  (case kn_HEAD|kn_NAME_SIGNS=>k_is)
  (case kt_NAME_SIGNS=>kernel_rfl)
  (case kn_SIGNS|kl_SIGNS=>k_is)
  (case kq_SIGNS=>(repeat' (first|exact trivial|(refine And.intro ⟨_,rfl⟩ (And.intro rfl (And.intro ?_ ?_)))|kernel_rfl)))
  (case hs_SIGNS=>kernel_rfl)
  (case ac_NoText=>k_is)
  (case qc_NoText=>k_exc)
