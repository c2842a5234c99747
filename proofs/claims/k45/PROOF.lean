import PyProof.Rows.All
import Wide.All
import OpenK.AllK
import Wide.FinOn
import Lean
import PyProof.EqAt
import PyProof.EqKinds
import PyProof.TupleCall
import KE.KSortTup
import PyProof.EnumMake
import PyProof.EnumStmt
import PyProof.EnumFor
import PyProof.TupleKey
import PyProof.Rows.SetFrom
import PyProof.IsRules
import PyProof.DictWalks
import PyProof.FactsAll.set
import PyProof.CollectIter
import PyProof.ConsumeS
import PySem.SetOps
import KE.KDictList
import PyProof.DictRoadsH
import PyProof.DictFindH
import PyProof.Rows.SortRuns
import PyProof.Draws
import PyProof.Rows.TupIter
import PyProof.Rows.FStr
import PyProof.StrCalls2
import PyProof.SliceStr2
import PyProof.StrBlockI
import PyProof.StrLawsNeg
import PyProof.StrLawsJoin
import KE.KIntText
import PyProof.RaisesStr
import PyProof.ConsumeWalk
import PyProof.WalkInts
import PyProof.DictUpdate
import KE.KDictOf
import PyProof.Rows.Range3
import PyProof.DictTable
import PyProof.ListMulRoad
import PyProof.FactsAll.tuple_2
import PyProof.StrCalls3
import PySem.Challenge.RW_scenemend_k45_deeds_done
set_option compiler.extract_closed false
set_option Elab.async false
set_option linter.all false
set_option maxRecDepth 100000
def oB{α β:Type}{x:Option α}{f:α->Option β}{b:β}(h:x.bind f=some b):∃a,x=some a/\f a=some b:=Option.bind_eq_some_iff.mp h
def oM{α β:Type}{x:Option α}{f:α->β}{b:β}(h:x.map f=some b):∃a,x=some a/\f a=b:=Option.map_eq_some_iff.mp h
abbrev B':=@List.length_map
abbrev J':=@Option.some.inj
abbrev K':=@List.mem_reverse
abbrev L':=@List.mem_cons_self
abbrev O':=@List.getElem?_map
abbrev P':=@List.mem_append_right
abbrev R':=@List.getElem?_eq_some_iff
abbrev T':=@List.length_append
abbrev U':=@PySem.Heap.get?_push_of_some
abbrev V':=@List.mem_cons_of_mem
abbrev W':=@List.getElem?_set_ne
abbrev X':=@Nat.le_refl
abbrev Y':=@Bool.and_eq_true
abbrev Z':=@List.getElem?_set_self
abbrev i':=@PySem.Heap.lt_size
abbrev kW:=@List.mem_append_left
abbrev kX:=@List.length_cons
abbrev kY:=@List.mem_cons
abbrev kZ:=@Nat.lt_of_lt_of_le
abbrev ka:=@List.mem_of_getElem?
abbrev kb:=@PySem.Heap.get?_push_size
abbrev kc:=@List.mem_append
abbrev ke:=@List.getElem?_append_left
abbrev kg:=@List.map_cons
abbrev ki:=@List.mem_singleton
abbrev kj:=@List.length_set
abbrev km:=@List.getElem?_eq_getElem
abbrev kn:=@PySem.W.mg_of
abbrev ko:=@PyProof.Rows.boot_isinstance
abbrev kr:=@Bool.false_ne_true
abbrev ku:=@List.append_nil
abbrev kx:=@List.getElem?_append_right
abbrev ky:=@PySem.W.mg_none_of
abbrev k6:=@Option.bind_some
abbrev k7:=@List.size_toArray
abbrev lA:=@Nat.le_trans
abbrev lB:=@List.mem_filter
abbrev lC:=@PySem.W.kia_one
abbrev lD:=@List.map_append
abbrev lE:=@Nat.ne_of_lt
abbrev lF:=@List.all_eq_true
abbrev lG:=@List.getElem?_replicate
abbrev lH:=@Int.emod_lt_of_pos
abbrev lI:=@PySem.Heap.get?_update_other
abbrev lJ:=@List.length_range
abbrev lK:=@List.append_assoc
abbrev lL:=@Bool.eq_false_iff
abbrev lM:=@Nat.lt_irrefl
abbrev lN:=@Int.emod_nonneg
abbrev lO:=@List.filter_cons
abbrev lP:=@Array.getElem?_eq_some_iff
abbrev lQ:=@PySem.mem_of_lookup
abbrev lR:=@List.length_reverse
abbrev lS:=@List.reverse_append
abbrev lT:=@List.length_replicate
abbrev lU:=@List.length_filter_le
abbrev lV:=@List.filterMap_cons
abbrev lW:=@Nat.zero_le
abbrev lX:=@List.lookup_cons
abbrev lY:=@List.append_of_mem
abbrev lZ:=@List.drop_eq_getElem_cons
abbrev lg:=@List.nodup_cons
abbrev lh:=@List.find?_cons
abbrev lj:=@List.nil_append
abbrev lq:=@Array.mem_toList_iff
abbrev lx:=@List.map_map
abbrev ly:=@List.mem_map
abbrev lz:=@List.nodup_append
abbrev mB:=@Bool.true_and
abbrev mC:=@Iff.rfl
abbrev mE:=@List.length_take
abbrev mF:=@List.length_drop
abbrev mG:=@List.mem_singleton_self
abbrev mH:=@PySem.F.plainAttrs_list
abbrev mI:=@PyProof.Rows.callWith_type1
abbrev mJ:=@List.reverse_reverse
abbrev mK:=@Nat.ne_of_gt
abbrev mL:=@List.drop_length
abbrev mM:=@PySem.W.callWith_K
abbrev mP:=@PySem.Obj.data_mapFields
abbrev mQ:=@List.getElem?_cons_succ
abbrev mR:=@Nat.add_sub_cancel_left
abbrev mS:=@List.mem_range
abbrev mT:=@PySem.W.cellsFrom_some
abbrev mU:=@List.reverse_cons
abbrev mV:=@PySem.Heap.size_after_update
abbrev mW:=@PyProof.Rows.slot_tuple_getitem
abbrev mX:=@PySem.Heap.get?_update_self
abbrev mY:=@PySem.Obj.isFreed_of_fields
abbrev mZ:=@List.take_append_drop
abbrev ma:=@List.getElem_mem
abbrev me:=@List.mem_of_mem_take
abbrev mh:=@List.of_mem_zip
abbrev mi:=@Int.gcd_eq_natAbs_gcd_natAbs
abbrev mj:=@Int.gcd_pos_of_ne_zero_right
abbrev mq:=@List.mem_map_of_mem
abbrev mr:=@Nat.le_of_lt
abbrev mx:=@Nat.le_of_eq
abbrev my:=@Int.ediv_eq_of_eq_mul_right
abbrev mz:=@PySem.Calls.Name_function_global
abbrev nA:=@Array.find?_toList
abbrev nB:=@PySem.Calls.spliced_cons
abbrev nC:=@Bool.and_false
abbrev nD:=@List.getD_eq_getElem?_getD
abbrev nE:=@PySem.W.kitx_dict
abbrev nF:=@Option.isSome_map
abbrev nH:=@Int.toNat_natCast
abbrev nI:=@List.any_cons
abbrev nJ:=@Nat.lt_succ_self
abbrev nK:=@List.any_eq_true
abbrev nL:=@Nat.succ_pos
abbrev nN:=@Nat.not_lt_zero
abbrev nO:=@Int.natCast_add
abbrev nP:=@Sum.inr.inj
abbrev nQ:=@PySem.boot_len
abbrev nR:=@Subtype.ext
abbrev nT:=@List.tail_cons
section
namespace L2
open PySem PySem.Spec PyProof.Rows
abbrev Key:=Sum Int Str
def So:Key->Value->Bool
 |.inl k,v=>Value.isInt k v
 |.inr x,v=>Value.isStrOf x v
def jv(w:World):Key->Int
 |.inl k=>hashInt k
 |.inr x=>hashStr w x
def Bh:∀{k:Key} {v:Value},So k v=true->(∃i t,k=Sum.inl i/\v=Value.int i t)\/(∃x t,k=Sum.inr x/\v=Value.str x t)
 |.inl i,v,h=>by
  obtain⟨t,e⟩:=Value.isInt_shape (k:=i) (v:=v) h
  exact .inl ⟨i,t,rfl,e⟩
 |.inr x,v,h=>by
  obtain⟨t,e⟩:=Value.isStrOf_shape (x:=x) (v:=v) h
  exact .inr ⟨x,t,rfl,e⟩
def T9(x:Str)(t:Tok):So (.inr x) (.str x t)=true:=by simp[So,Value.isStrOf]
def bG(a b:Int):decide ((Sum.inl a:Key)=Sum.inl b)=(a==b):=by
 by_cases e:a=b
 ·subst e;simp
 ·have h:¬(Sum.inl a:Key)=Sum.inl b:=fun q=>e (Sum.inl.inj q)
  rw[decide_eq_false h]
  exact(beq_eq_false_iff_ne.mpr e).symm
def bD(a b:Str):decide ((Sum.inr a:Key)=Sum.inr b)=decide (a=b):=by
 by_cases e:a=b
 ·subst e;simp
 ·have h:¬(Sum.inr a:Key)=Sum.inr b:=fun q=>e (nP q)
  rw[decide_eq_false h,decide_eq_false e]
def bF(a:Int)(b:Str):decide ((Sum.inl a:Key)=Sum.inr b)=false:=decide_eq_false (fun q=>nomatch q)
def bE(a:Str)(b:Int):decide ((Sum.inr a:Key)=Sum.inl b)=false:=decide_eq_false (fun q=>nomatch q)
def JA(prog:Program)(w:World):PySem.KeyKind prog w Key where
 is:=So
 hash:=jv w
 inj:=fun v a b ha hb=>by
  rcases Bh ha with ⟨i,t,rfl,rfl⟩|⟨x,t,rfl,rfl⟩
  ·rcases Bh hb with ⟨j,u,rfl,e⟩|⟨y,u,rfl,e⟩
   ·injection e with e1 _;rw[e1]
   ·exact nomatch e
  ·rcases Bh hb with ⟨j,u,rfl,e⟩|⟨y,u,rfl,e⟩
   ·exact nomatch e
   ·injection e with e1 _;rw[e1]
 byValue:=fun k v h=>by
  rcases Bh h with ⟨i,t,rfl,rfl⟩|⟨x,t,rfl,rfl⟩<;>rfl
 pyHash:=fun hv h=>by
  rcases Bh hv with ⟨i,t,rfl,rfl⟩|⟨x,t,rfl,rfl⟩
  ·exact wpAny_pyHash_int h
  ·exact wpAny_pyHash_str h
 eqBool:=fun hu hv h=>by
  rcases Bh hu with ⟨i,t,rfl,rfl⟩|⟨x,t,rfl,rfl⟩
  ·rcases Bh hv with ⟨j,u,rfl,rfl⟩|⟨y,u,rfl,rfl⟩
   ·rw[bG]at h;exact wpAny_eqBool_int h
   ·rw[bF]at h;exact SeqAt.EqAt.int_str i t y u _ _ _ _ h
  ·rcases Bh hv with ⟨j,u,rfl,rfl⟩|⟨y,u,rfl,rfl⟩
   ·rw[bE]at h;exact SeqAt.EqAt.str_int x t j u _ _ _ _ h
   ·rw[bD]at h;exact wpAny_eqBool_str h
 «strs»:=fun k x t v h=>by
  rcases Bh h with ⟨i,u,rfl,e⟩|⟨y,u,rfl,e⟩
  ·exact nomatch e
  ·injection e with e1 _
   subst e1
   cases v<;>rfl
def PU(prog:Program)(w:World)(x:Str)(t:Tok):(JA prog w).is (.inr x) (.str x t)=true:=T9 x t
end L2
namespace L2
open PySem PySem.Spec PyProof.Rows
inductive V where
 |non|bl (b:Bool)|int (i:Int)|str (x:Str)|byt (b:Array UInt8)|flt (b:UInt64)|ref (a:Addr)|ty (n:String)
 deriving DecidableEq
def RelV:V->Value->Prop
 |.non,u=>u=Value.none
 |.bl b,u=>u=Value.bool b
 |.int i,u=>∃t,u=Value.int i t
 |.str x,u=>∃t,u=Value.str x t
 |.byt b,u=>∃t,u=Value.bytes b t
 |.flt b,u=>∃t,u=Value.float b t
 |.ref a,u=>u=Value.ref a
 |.ty n,u=>u=Value.type n
abbrev Vals:List V->List Value->Prop:=Paired RelV
def Vals.length{xs:List V}{us:List Value}(r:Vals xs us):xs.length=us.length:=Paired.length r
def Vals.get:∀{xs:List V} {us:List Value} {i:Nat} {x:V},Vals xs us->xs[i]?=some x->∃u,us[i]?=some u/\RelV x u
 |_,_,_,_,.nil,e=>by simp at e
 |_,_,0,_,.cons r _,e=>by simp at e;subst e;exact⟨_,rfl,r⟩
 |_,_,i+1,x,.cons _ t,e=>by
  obtain⟨u,h1,h2⟩:=Vals.get (i:=i) (x:=x) t (by simpa using e)
  exact⟨u,by simpa using h1,h2⟩
def Vals.append:∀{xs ys:List V} {us ws:List Value},Vals xs us->Vals ys ws->Vals (xs++ys) (us++ws)
 |_,_,_,_,.nil,s=>s
 |_,_,_,_,.cons r t,s=>.cons r (Vals.append t s)
def Vals.take:∀{xs:List V} {us:List Value} (n:Nat),Vals xs us->Vals (xs.take n) (us.take n)
 |_,_,0,_=>.nil
 |_,_,_+1,.nil=>.nil
 |_,_,n+1,.cons r t=>.cons r (Vals.take n t)
def Vals.drop:∀{xs:List V} {us:List Value} (n:Nat),Vals xs us->Vals (xs.drop n) (us.drop n)
 |_,_,0,r=>r
 |_,_,_+1,.nil=>.nil
 |_,_,n+1,.cons _ t=>Vals.drop n t
def eg:Option V->Option Value->Prop
 |some v,some u=>RelV v u
 |none,none=>True
 |_,_=>False
def KV{κ:Type}:List (κ×V)->List (κ×Value)->Prop:=Paired fun(p:κ×V) (q:κ×Value)=>p.1=q.1/\RelV p.2 q.2
def kV:Key->V
 |.inl i=>.int i
 |.inr x=>.str x
inductive HO where
 |lst (xs:List V)
 |tup (xs:List V)
 |dK (kvs:List (Key×V))|dT (kvs:List (List Key×V))
 |set (S:Int->Bool) (n:Nat)
 |ins (C dx:Addr) (fs:List (Str×V))
 |own (x:Addr)
 |xd (fs:List (Str×V))
 |met (f x:Addr)
 |rng (lo hi:Int)
 |frz (o:Obj) (u:HO)
 |tbl (ps:Array Value)
 |ext (φ:Heap->Prop)
abbrev Hp:=Addr->Option HO
def upd(H:Hp)(a:Addr)(o:HO):Hp:=fun b=>if b=a then some o else H b
def Ah{H:Hp}{a:Addr}{o:HO}:upd H a o a=some o:=by unfold upd;rw[if_pos rfl]
def Aq{H:Hp}{a b:Addr}{o:HO}(h:b≠a):upd H a o b=H b:=by unfold upd;rw[if_neg h]
def A0{H:Hp}{a b:Addr}{o:HO}(h:H a=some o)(h':H b=none):a≠b:=by
 intro e;subst e;rw[h]at h';cases h'
section
variable (P:Program) (w:World)
def ObjOk(H:Hp)(h:Heap)(a:Addr):HO->Prop
 |.lst xs=>xs.length<=sizeLine/\∃(its:List Value) (n:Nat),Vals xs its/\h.get? a=some { cls:=.type "list",data:=.seq its.toArray n }
 |.tup xs=>xs.length<=sizeLine/\∃its:List Value,Vals xs its/\IsTup h a its.toArray
 |.dK kvs=>kvs.length<=sizeLine/\(a==sysModules)=false/\∃vs,KV kvs vs/\h.DictOf (JA P w) a vs
 |.dT kvs=>kvs.length<=sizeLine/\(a==sysModules)=false/\∃xs:List (List Key×Addr×Value),
   Paired (fun(p:List Key×V) (q:List Key×Addr×Value)=>p.1=q.1/\H q.2.1=some (.tup (p.1.map kV))/\RelV p.2 q.2.2) kvs xs /\
   ∃o es ep,h.get? a=some o/\o.ExactDict/\o.data = .dict es ep/\es.toList=xs.map (entryOfKey (tupleKind (JA P w)))/\(xs.map (·.1)).Nodup
 |.set S n=>h.SetOf (intKind P w) a S n
 |.ins C dx fs=>H dx=some (.own a)/\fs.length<=1000/\dx≠a/\h.get? a=some (PySem.W.instObj C dx) /\
   ∃mA,h.Ns1 dx mA/\(∀f,eg (fs.lookup f) (mA f))/\PySem.Within mA (fs.map (·.1))
 |.own _=>∃o,h.get? a=some o
 |.xd fs=>∃mA,h.Ns1 a mA/\∀f,eg (fs.lookup f) (mA f)
 |.rng lo hi=>∃t u v,h.get? a=some { cls:=.type "range",data:=.fields #[.int lo t,.int hi u,.int 1 v] }
 |.frz o u=>h.get? a=some o/\ObjOk H h a u
 |.tbl ps=>h.get? a=some { cls:=.none,data:=.fields ps }
 |.met f x=>h.get? a=some (PySem.W.methodObj (.ref f) (.ref x))
 |.ext φ=>φ h/\(∃o,h.get? a=some o)/\∀h1 h2:Heap,φ h1->(∀o,h1.get? a=some o->h2.get? a=some o)->φ h2
def HOk(H:Hp)(h:Heap):Prop:=∀a o,H a=some o->ObjOk P w H h a o
end
section
variable {P:Program} {w:World} {H H':Hp} {h h':Heap} {a:Addr} {o:HO}
def ObjOk.lt(x:ObjOk P w H h a o):a<h.objs.size:=by
 cases o with
 |lst xs=>obtain⟨_,_,_,_,e⟩:=x;exact i' e
 |tup xs=>obtain⟨_,_,_,p⟩:=x;exact p.lt
 |dK kvs=>obtain⟨_,_,_,_,o,_,_,e,_⟩:=x;exact i' e
 |dT kvs=>obtain⟨_,_,_,_,o,_,_,e,_⟩:=x;exact i' e
 |set S n=>obtain⟨o,_,_,_,e,_⟩:=x;exact i' e
 |ins C dx fs=>obtain⟨_,_,_,e,_⟩:=x;exact i' e
 |own y=>obtain⟨_,e⟩:=x;exact i' e
 |xd fs=>obtain⟨_,⟨_,_,_,e,_⟩,_⟩:=x;exact i' e
 |rng lo hi=>obtain⟨_,_,_,e⟩:=x;exact i' e
 |frz ob u=>obtain⟨e,_⟩:=x;exact i' e
 |tbl ps=>exact i' (show h.get? a=some _ from x)
 |met f y=>exact i' (show h.get? a=some _ from x)
 |ext φ=>obtain⟨_,⟨_,e⟩,_⟩:=x;exact i' e
def Paired.mapP{α β:Type}{F G:α->β->Prop}:∀{l₁:List α} {l₂:List β},Paired F l₁ l₂->(∀a b,F a b->G a b)->Paired G l₁ l₂
 |_,_,.nil,_=>.nil
 |_,_,.cons r t,f=>.cons (f _ _ r) (Paired.mapP t f)
def ObjOk.stay(x:ObjOk P w H h a o)(k:∀b u,(b=a\/H b=some (.own a))->h.get? b=some u->h'.get? b=some u)
  (ho:∀b,H b=some (.own a)->H' b=some (.own a)) (ht:∀b xs,H b=some (.tup xs)->H' b=some (.tup xs)):ObjOk P w H' h' a o:=by
 induction o with
 |lst xs=>obtain⟨z,its,n,r,e⟩:=x;exact⟨z,its,n,r,k _ _ (.inl rfl) e⟩
 |tup xs=>obtain⟨z,its,r,ob,e,c⟩:=x;exact⟨z,its,r,ob,k _ _ (.inl rfl) e,c⟩
 |dK kvs=>obtain⟨z,y,vs,r,ob,es,ep,e,c⟩:=x;exact⟨z,y,vs,r,ob,es,ep,k _ _ (.inl rfl) e,c⟩
 |dT kvs =>
  obtain⟨z,y,xs,r,ob,es,ep,e,c⟩:=x
  exact⟨z,y,xs,Paired.mapP r fun p q z=>⟨z.1,ht _ _ z.2.1,z.2.2⟩,ob,es,ep,k _ _ (.inl rfl) e,c⟩
 |set S n=>obtain⟨ob,es,ep,t,e,c⟩:=x;exact⟨ob,es,ep,t,k _ _ (.inl rfl) e,c⟩
 |ins C dx fs =>
  obtain⟨d,z,ne,e,mA,⟨od,es,ep,e2,c⟩,r⟩:=x
  exact⟨ho _ d,z,ne,k _ _ (.inl rfl) e,mA,⟨od,es,ep,k _ _ (.inr d) e2,c⟩,r⟩
 |own y=>obtain⟨ob,e⟩:=x;exact⟨ob,k _ _ (.inl rfl) e⟩
 |xd fs=>obtain⟨mA,⟨od,es,ep,e,c⟩,r⟩:=x;exact⟨mA,⟨od,es,ep,k _ _ (.inl rfl) e,c⟩,r⟩
 |rng lo hi=>obtain⟨t,u,v,e⟩:=x;exact⟨t,u,v,k _ _ (.inl rfl) e⟩
 |frz ob u ih=>obtain⟨e,q⟩:=x;exact⟨k _ _ (.inl rfl) e,ih q⟩
 |tbl ps =>
  have e:h.get? a=some { cls:=.none,data:=.fields ps }:=x
  show h'.get? a=some { cls:=.none,data:=.fields ps }
  exact k a _ (.inl rfl) e
 |met f y =>
  have e:h.get? a=some (PySem.W.methodObj (.ref f) (.ref y)):=x
  show h'.get? a=some (PySem.W.methodObj (.ref f) (.ref y))
  exact k a _ (.inl rfl) e
 |ext φ=>obtain⟨p,⟨o,e⟩,st⟩:=x;exact⟨st _ _ p fun o q=>k _ _ (.inl rfl) q,⟨o,k _ _ (.inl rfl) e⟩,st⟩
def HOk.lt(x:HOk P w H h)(e:H a=some o):a<h.objs.size:=(x a o e).lt
def HOk.fresh(x:HOk P w H h)(e:h.objs.size<=a):H a=none:=by
 cases q:H a with
 |none=>rfl
 |some u=>exact absurd (kZ (x.lt q) e) (lM _)
def HOk.kept(x:HOk P w H h)(k:∀b u,h.get? b=some u->h'.get? b=some u):HOk P w H h':=fun a o e =>
 (x a o e).stay (fun b u _ q=>k b u q) (fun _ q=>q) fun _ _ q=>q
def HOk.laid(x:HOk P w H h)(k:∀b u,h.get? b=some u->h'.get? b=some u)(hp:h.objs.size<=a)(new:ObjOk P w (upd H a o) h' a o):HOk P w (upd H a o) h':=fun b u e=>by
 have hn:=x.fresh hp
 by_cases hb:b=a
 ·subst hb;rw[Ah]at e;cases e;exact new
 ·rw[Aq hb]at e
  exact(x b u e).stay (fun c v _ q=>k c v q) (fun c q=>by rw[Aq (A0 q hn)];exact q) fun c xs q=>by rw[Aq (A0 q hn)];exact q
end
def Rd(H:Hp)(a:Addr)(u:HO):Prop:=H a=some u\/∃o,H a=some (.frz o u)
def Rd.ok{P:Program}{w:World}{H:Hp}{h:Heap}{a:Addr}{u:HO}(r:Rd H a u)(x:HOk P w H h):ObjOk P w H h a u:=by
 rcases r with r|⟨o,r⟩
 ·exact x a u r
 ·obtain⟨_,q⟩:=x a _ r
  exact q
def Mut:Option HO->Prop
 |some (.lst _)=>True
 |some (.dK _)=>True
 |some (.dT _)=>True
 |some (.set _ _)=>True
 |some (.ins _ _ _)=>True
 |some (.ext _)=>True
 |_=>False
section
variable {P:Program} {w:World} {H:Hp} {h h':Heap} {x e:Addr} {o':HO}
def HOk.write(ok:HOk P w H h)(mu:Mut (H x))(he:e=x\/H e=some (.own x))(k:∀b u,b≠e->h.get? b=some u->h'.get? b=some u)(heo:∃u,h'.get? e=some u)
  (new:ObjOk P w (upd H x o') h' x o'):HOk P w (upd H x o') h':=fun b u q=>by
 have nown:∀c y,H c=some (.own y)->c≠x:=fun c y r z=>by subst z;rw[r]at mu;exact mu
 have ntup:∀c xs,H c=some (.tup xs)->c≠x:=fun c xs r z=>by subst z;rw[r]at mu;exact mu
 by_cases hb:b=x
 ·subst hb;rw[Ah]at q;cases q;exact new
 ·rw[Aq hb]at q
  by_cases hbe:b=e
  ·have q':H b=some (.own x):=by
    rcases he with z|z
    ·exact absurd (hbe.trans z) hb
    ·rw[hbe];exact z
   rw[q]at q';cases q'
   obtain⟨v,hv⟩:=heo
   exact⟨v,by rw[hbe];exact hv⟩
  ·refine(ok b u q).stay (fun c v hc r=>k c v ?_ r) (fun c r=>by rw[Aq (nown c b r)];exact r) fun c xs r=>by rw[Aq (ntup c xs r)];exact r
   rcases hc with rfl|hc
   ·exact hbe
   ·rintro rfl
    rcases he with z|z
    ·exact nown c b hc z
    ·rw[hc]at z;cases z;exact hb rfl
end
structure Un(fs ex:List Addr)(H H':Hp)(h h':Heap):Prop where
 keep:∀b o,h.get? b=some o->H b=none->b∉fs->b∉ex->h'.get? b=some o
 slot:∀b o,h.get? b=some o->H b=none->b∈fs->b∉ex->∃sl,h'.get? b=some { o with slots:=sl }
 free:∀b o,h.get? b=some o->H b=none->b∉ex->H' b=none
 there:∀b o,h.get? b=some o->b∉ex->∃o',h'.get? b=some o'
 tups:∀b xs,H b=some (.tup xs)->H' b=some (.tup xs)
 frzs:∀b o u,H b=some (.frz o u)->H' b=some (.frz o u)
 tbls:∀b ps,H b=some (.tbl ps)->∃more,H' b=some (.tbl (ps++more))
section
variable {fs fs' ex ex':List Addr} {H H1 H2:Hp} {h h1 h2 h':Heap} {a x e:Addr} {o:HO}
def Un.any(u:Un fs ex H H1 h h1){b:Addr}{ob:Obj}(q:h.get? b=some ob)(n:H b=none)(hx:b∉ex):∃sl,h1.get? b=some { ob with slots:=sl }:=by
 by_cases hb:b∈fs
 ·exact u.slot b ob q n hb hx
 ·exact⟨ob.slots,u.keep b ob q n hb hx⟩
def Un.trans(a:Un fs ex H H1 h h1)(b:Un fs ex H1 H2 h1 h2):Un fs ex H H2 h h2 where
 keep:=fun c ob q n hc hx=>b.keep c ob (a.keep c ob q n hc hx) (a.free c ob q n hx) hc hx
 slot:=fun c ob q n hc hx=>by
  obtain⟨sl,e1⟩:=a.slot c ob q n hc hx
  obtain⟨sl',e2⟩:=b.slot c _ e1 (a.free c ob q n hx) hc hx
  exact⟨sl',e2⟩
 free:=fun c ob q n hx=>by
  obtain⟨o',e1⟩:=a.there c ob q hx
  exact b.free c o' e1 (a.free c ob q n hx) hx
 there:=fun c ob q hx=>by
  obtain⟨o',e1⟩:=a.there c ob q hx
  exact b.there c o' e1 hx
 tups:=fun c xs q=>b.tups c xs (a.tups c xs q)
 frzs:=fun c ob xs q=>b.frzs c ob xs (a.frzs c ob xs q)
 tbls:=fun c ps q=>by
  obtain⟨m1,e1⟩:=a.tbls c ps q
  obtain⟨m2,e2⟩:=b.tbls c _ e1
  exact⟨m1++m2,by rw[e2,Array.append_assoc]⟩
def Un.kept(k:∀b u,h.get? b=some u->h'.get? b=some u):Un fs ex H H h h' :=
 ⟨fun b ob q _ _ _=>k b ob q,fun b ob q _ _ _=>⟨ob.slots,k b ob q⟩,fun _ _ _ n _=>n,fun b ob q _=>⟨ob,k b ob q⟩,fun _ _ q=>q,fun _ _ _ q=>q,fun _ ps q=>⟨#[],by rw[q];simp⟩⟩
def Un.refl:Un fs ex H H h h:=Un.kept fun _ _ q=>q
def Un.laid(k:∀b u,h.get? b=some u->h'.get? b=some u)(hp:h.objs.size<=a)(hn:H a=none):Un fs ex H (upd H a o) h h' where
 keep:=fun b u q _ _ _=>k b u q
 slot:=fun b u q _ _ _=>⟨u.slots,k b u q⟩
 free:=fun b u q n _=>by rw[Aq (lE (kZ (i' q) hp))];exact n
 there:=fun b u q _=>⟨u,k b u q⟩
 tups:=fun b xs q=>by rw[Aq (A0 q hn)];exact q
 frzs:=fun b u xs q=>by rw[Aq (A0 q hn)];exact q
 tbls:=fun b ps q=>⟨#[],by rw[Aq (A0 q hn),q];simp⟩
def Un.write(mu:Mut (H x))(he:e=x\/H e=some (.own x))(k:∀b u,b≠e->h.get? b=some u->h'.get? b=some u)(heo:∃u,h'.get? e=some u):Un fs ex H (upd H x o) h h':=by
 have hx:∀b,H b=none->b≠x:=fun b n z=>by subst z;rw[n]at mu;exact mu
 have hb:∀b,H b=none->b≠e:=fun b n z=>by
  subst z
  rcases he with r|r
  ·exact hx b n r
  ·rw[n]at r;cases r
 have hm:∀b u,H b=some u->¬Mut (some u)->b≠x:=fun b u q nm z=>by subst z;rw[q]at mu;exact nm mu
 refine ⟨fun b u q n _ _ => k b u (hb b n) q, fun b u q n _ _ => ⟨u.slots, k b u (hb b n) q⟩, fun b u q n _ => by rw [Aq (hx b n)]; exact n, fun b u q _ => ?_,
  fun b xs q=>by rw[Aq (hm b _ q fun z=>z)];exact q,fun b u xs q=>by rw[Aq (hm b _ q fun z=>z)];exact q,fun b ps q=>⟨#[],by rw[Aq (hm b _ q fun z=>z),q];simp⟩⟩
 by_cases hbe:b=e
 ·subst hbe;exact heo
 ·exact⟨u,k b u hbe q⟩
end
def trk(h:Heap)(H:Hp):List Addr:=(List.range h.objs.size).filter fun a=>(H a).isSome
def OC(h:Heap)(H:Hp):Heap:=PySem.W.hideAll h (trk h H)
def UE(h:Heap)(H:Hp):(OC h H).objs.size=h.objs.size:=PySem.W.hideAll_size _ _
def WB{h:Heap}{H:Hp}{b:Addr}{o:Obj}(e:h.get? b=some o)(n:H b=none):(OC h H).get? b=some o :=
 PySem.W.hideAll_get _ e fun hm=>by
  have q:(H b).isSome=true:=(lB.mp hm).2
  rw[n]at q;simp at q
def Xu{h:Heap}{H:Hp}{b:Addr}{o:Obj}(e:(OC h H).get? b=some o):h.get? b=some o/\H b=none:=by
 have e':h.get? b=some o:=PySem.W.of_hideAll (trk h H) e
 refine⟨e',?_⟩
 cases q:H b with
 |none=>rfl
 |some x =>
  have hm:b∈trk h H:=lB.mpr ⟨mS.mpr (i' e'),by simp[q]⟩
  have z:(OC h H).get? b=none:=PySem.W.hideAll_none (trk h H) hm
  rw[z]at e;cases e
def ZA(g h:Heap)(L:Addr):List (Addr×Obj):=(List.range h.objs.size).filterMap fun a=>if a=L\/(g.get? a).isSome=true then none else (h.get? a).map fun o=>(a,o)
def Aw(g h:Heap)(L d:Addr):List (Addr×Obj):=(ZA g h L).filter fun p=>decide (p.1≠d)
end L2
namespace L2
open PySem PySem.Spec PyProof.Rows
structure Mod(K:PySem.W.Frag)(mg:Str->Option Value)(base:Heap):Prop where
 kin:K.In base
 glob:base.Ns mainGlobals mg
 blt:∃mb,base.Ns builtinsNs mb/\∀x:Str,x≠"__name__"->mb x=bootBuiltins x
 nolimit:base.NoLimit
structure Cx where
 prog:Program
 w:World
 K:PySem.W.Frag
 mg:Str->Option Value
 base:Heap
 A:Around
 N:List Str
 s₀:Shared
 H₀:Hp
 env:Env
 outer:List Env
 stack:List Env
 ex:List Addr
 fn:Str->Bool
 calm:Bool
 pn:List (Addr×Obj)
 xe:Value->Shared->Prop
def frs(l:List Env):List Addr:=l.filterMap (·.frame)
abbrev Cx.fs(X:Cx):List Addr:=frs X.outer
def Vis(sc:Scope)(x:Str):Prop:=sc.names.lookup x=some .local\/sc.names.lookup x=some .cell\/sc.names.lookup x=some .free
def Loc(sc:Scope)(x:Str):Prop:=sc.names.lookup x=some .local\/sc.names.lookup x=some .cell
def kT(env:Env)(h:Heap)(m:Str->Option Value)(x:Str)(u:Value):Prop :=
 (env.kindOf x=some .local/\m x=some u)\/((env.kindOf x=some .cell\/env.kindOf x=some .free)/\∃c,env.cells.lookup x=some c/\h.IsCell c (some u))
structure Cx.Ok(X:Cx):Prop where
 mod:Mod X.K X.mg X.base
 kind:X.env.scope.kind = .function
 glob:X.env.globals=mainGlobals
 blt:X.env.builtins=builtinsNs
 above:X.s₀.heap.objs.size<=X.env.locals
 inj:∀x y c,X.env.cells.lookup x=some c->X.env.cells.lookup y=some c->x=y
 has:∀x,(X.env.kindOf x=some .cell\/X.env.kindOf x=some .free)->∃c,X.env.cells.lookup x=some c
 cab:∀x c,X.fn x=true->X.env.cells.lookup x=some c->X.s₀.heap.objs.size<=c
 hd:X.calm=true->X.A.handled=none
 frames:X.A.frames=some X.stack
 stk:X.stack=X.outer\/(X.stack=X.env::X.outer/\X.env.frame=some X.env.locals)
 exf:∀b∈X.ex,b≠X.env.locals/\∀x c,X.env.cells.lookup x=some c->c≠b
 bs:∀b o,X.base.get? b=some o->X.s₀.heap.get? b=some o/\X.H₀ b=none
 bsz:X.base.objs.size<=X.s₀.heap.objs.size
 noex:∀b o,X.base.get? b=some o->b∉X.ex
 exfs:∀b∈X.ex,b∉X.fs
 funs:X.s₀.heap.FunFrames X.base X.outer
 frf:∀b∈X.fs,X.H₀ b=none
structure Inv(X:Cx)(pins:List (Addr×Obj))(σ:List (Option V))(H:Hp)(s:Shared):Prop where
 ok:X.Ok
 os:s.os=X.s₀.os
 bare:AllBare s.gens
 base:Un X.fs X.ex X.H₀ H X.s₀.heap s.heap
 loc:∃m,s.heap.Ns X.env.locals m/\∀(i:Nat) (x:Str) (v:V),X.N[i]?=some x->σ[i]?=some (some v)->Vis X.env.scope x->∃u,RelV v u/\kT X.env s.heap m x u
 cell:∀x c,X.env.cells.lookup x=some c->∃v,s.heap.IsCell c v
 free:H X.env.locals=none
 freeC:∀x c,X.env.cells.lookup x=some c->H c=none
 pin:∀p∈X.pn++pins,s.heap.get? p.1=some p.2/\H p.1=none/\p.1≠X.env.locals/\p.1∉X.fs/\∀v,p.2.data≠.cell v
 hok:HOk X.prog X.w H s.heap
 len:σ.length=X.N.length
section
variable {X:Cx} {pins:List (Addr×Obj)} {σ:List (Option V)} {H H':Hp} {s:Shared} {h':Heap}
def Cx.Ok.nofr(ok:X.Ok){b:Addr}{o:Obj}(e:X.base.get? b=some o):b∉X.fs:=fun hb=>by
 have:=(ok.funs.mem hb).1
 rw[e]at this;cases this
def Inv.bs(I:Inv X pins σ H s):∀b o,X.base.get? b=some o->s.heap.get? b=some o/\H b=none:=fun b o e =>
 ⟨I.base.keep b o (I.ok.bs b o e).1 (I.ok.bs b o e).2 (I.ok.nofr e) (I.ok.noex b o e),I.base.free b o (I.ok.bs b o e).1 (I.ok.bs b o e).2 (I.ok.noex b o e)⟩
def Inv.bk(I:Inv X pins σ H s):∀b o,X.base.get? b=some o->s.heap.get? b=some o:=fun b o e=>(I.bs b o e).1
def Inv.mod(I:Inv X pins σ H s):Mod X.K X.mg X.base:=I.ok.mod
def Inv.kIn(I:Inv X pins σ H s):X.K.In s.heap:=I.ok.mod.kin.keeps I.bk
def Inv.lt(I:Inv X pins σ H s):X.env.locals<s.heap.objs.size:=let ⟨_,hn,_⟩:=I.loc;hn.lt
def Inv.sz(I:Inv X pins σ H s):X.s₀.heap.objs.size<=s.heap.objs.size:=lA I.ok.above (mr I.lt)
def Inv.nofs(I:Inv X pins σ H s){a:Addr}(h:s.heap.objs.size<=a):a∉X.fs:=fun hb=>by
 obtain⟨_,o,ho,_⟩:=I.ok.funs.mem hb
 exact absurd (kZ (i' ho) (lA I.sz h)) (lM _)
def Inv.cne(I:Inv X pins σ H s):∀x c,X.env.cells.lookup x=some c->c≠X.env.locals:=fun x c e z=>by
 obtain⟨v,o,ho,hd⟩:=I.cell x c e
 obtain⟨m,⟨o',es,ep,ho',hd',_⟩,_⟩:=I.loc
 rw[z,ho']at ho;cases ho;rw[hd']at hd;cases hd
def Inv.funs(I:Inv X pins σ H s):s.heap.FunFrames X.base X.outer:=by
 have all:∀(l:List Env),(∀b∈frs l,b∈X.fs)->X.s₀.heap.FunFrames X.base l->s.heap.FunFrames X.base l:=by
  intro l
  induction l with
  |nil=>intro _ _;trivial
  |cons env r ih =>
   intro hs hl
   obtain⟨hk,⟨L,o,hf,hn,ho,hd⟩,hr⟩:=hl
   have hL:L∈X.fs:=hs L (by unfold frs;rw[lV,hf];exact L')
   obtain⟨sl,e⟩:=I.base.slot L o ho (I.ok.frf L hL) hL fun z=>I.ok.exfs L z hL
   exact⟨hk,⟨L,_,hf,hn,e,hd⟩,ih (fun b hb=>hs b (by unfold frs;rw[lV,hf];exact V' _ hb)) hr⟩
 exact all X.outer (fun _ hb=>hb) I.ok.funs
def Inv.stack(I:Inv X pins σ H s):s.heap.FunFrames X.base X.stack:=by
 rcases I.ok.stk with e|⟨e,hf⟩
 ·rw[e];exact I.funs
 ·rw[e]
  obtain⟨m,hn,_⟩:=I.loc
  refine .cons (by rw[I.ok.kind];decide) hf hn ?_ I.funs
  exact Heap.get?_none_of_le (lA I.ok.bsz I.ok.above)
def Inv.stkSub(I:Inv X pins σ H s):∀b∈frs X.stack,b∈X.env.locals::X.fs:=fun b hb=>by
 rcases I.ok.stk with e|⟨e,hf⟩
 ·rw[e]at hb;exact V' _ hb
 ·rw[e]at hb
  unfold frs at hb
  rw[lV,hf]at hb
  exact hb
def Inv.stkFree(I:Inv X pins σ H s):∀b∈frs X.stack,H b=none:=fun b hb=>by
 rcases kY.mp (I.stkSub b hb)with e|hb
 ·rw[e];exact I.free
 ·obtain⟨_,o,ho,_⟩:=I.ok.funs.mem hb
  exact I.base.free b o ho (I.ok.frf b hb) fun z=>I.ok.exfs b z hb
def Inv.step{g':Array GenState}{t':Nat}{d':Drawn}{ch:List Addr}(I:Inv X pins σ H s)
  (hch:∀b∈ch,(b∈X.ex\/X.s₀.heap.objs.size<=b)/\b≠X.env.locals/\(∀x c,X.env.cells.lookup x=some c->c≠b)/\∀p∈X.pn++pins,p.1≠b)
  (keep:∀b o,b≠X.env.locals->b∉X.fs->b∉ch->s.heap.get? b=some o->H b=none->h'.get? b=some o)
  (slot:∀b o,b≠X.env.locals->b∈X.fs->b∉ch->s.heap.get? b=some o->H b=none->∃sl,h'.get? b=some { o with slots:=sl }) (free:∀b o,b∉ch->s.heap.get? b=some o->H b=none->H' b=none)
  (there:∀b o,b∉ch->s.heap.get? b=some o->∃o',h'.get? b=some o')
  (tups:∀b xs,H b=some (.tup xs)->H' b=some (.tup xs)) (frzs:∀b o u,H b=some (.frz o u)->H' b=some (.frz o u)) (tbls:∀b ps,H b=some (.tbl ps)->∃more,H' b=some (.tbl (ps++more)))
  (ns:∀m,s.heap.Ns X.env.locals m->h'.Ns X.env.locals m) (hok:HOk X.prog X.w H' h') (hg:AllBare g') :
  Inv X pins σ H' { s with heap:=h',gens:=g',drawn:=d',toks:=t' }:=by
 have neL:∀b o,X.s₀.heap.get? b=some o->b≠X.env.locals:=fun b o e=>lE (kZ (i' e) I.ok.above)
 have neC:∀b o,X.s₀.heap.get? b=some o->b∉X.ex->b∉ch:=fun b o e hx hb=>by
  rcases(hch b hb).1 with z|z
  ·exact hx z
  ·exact absurd (kZ (i' e) z) (lM _)
 have cellK:∀x c,X.env.cells.lookup x=some c->∀v,s.heap.IsCell c v->h'.IsCell c v:=fun x c e v ⟨o,ho,hd⟩=>by
  have nch:c∉ch:=fun z=>(hch c z).2.2.1 x c e rfl
  by_cases hc:c∈X.fs
  ·obtain⟨sl,q⟩:=slot c o (I.cne x c e) hc nch ho (I.freeC x c e)
   exact⟨_,q,hd⟩
  ·exact⟨o,keep c o (I.cne x c e) hc nch ho (I.freeC x c e),hd⟩
 refine⟨I.ok,I.os,hg,⟨fun b o e n hb hx=>?_,fun b o e n hb hx=>?_,fun b o e n hx=>?_,fun b o e hx=>?_,fun b xs e=>tups b xs (I.base.tups b xs e),fun b o xs e=>frzs b o xs (I.base.frzs b o xs e),fun b ps e=>?_⟩,?_,fun x c e=>?_,?_,fun x c e=>?_,fun p hp=>?_,hok,I.len⟩
 ·exact keep b o (neL b o e) hb (neC b o e hx) (I.base.keep b o e n hb hx) (I.base.free b o e n hx)
 ·obtain⟨sl,e1⟩:=I.base.slot b o e n hb hx
  obtain⟨sl',e2⟩:=slot b _ (neL b o e) hb (neC b o e hx) e1 (I.base.free b o e n hx)
  exact⟨sl',e2⟩
 ·obtain⟨o',e1⟩:=I.base.there b o e hx
  exact free b o' (neC b o e hx) e1 (I.base.free b o e n hx)
 ·obtain⟨o',e1⟩:=I.base.there b o e hx
  exact there b o' (neC b o e hx) e1
 ·obtain⟨m1,e1⟩:=I.base.tbls b ps e
  obtain⟨m2,e2⟩:=tbls b _ e1
  exact⟨m1++m2,by rw[e2,Array.append_assoc]⟩
 ·obtain⟨m,hn,hl⟩:=I.loc
  refine⟨m,ns m hn,fun i x v e1 e2 e3=>?_⟩
  obtain⟨u,r,l⟩:=hl i x v e1 e2 e3
  refine⟨u,r,?_⟩
  rcases l with l|⟨k,c,e,z⟩
  ·exact .inl l
  ·exact .inr ⟨k,c,e,cellK x c e _ z⟩
 ·obtain⟨v,z⟩:=I.cell x c e
  exact⟨v,cellK x c e v z⟩
 ·obtain⟨m,⟨o,_,_,ho,_⟩,_⟩:=I.loc
  exact free _ o (fun z=>(hch _ z).2.1 rfl) ho I.free
 ·obtain⟨v,o,ho,hd⟩:=I.cell x c e
  exact free c o (fun z=>(hch c z).2.2.1 x c e rfl) ho (I.freeC x c e)
 ·obtain⟨e,n,ne,nf,d⟩:=I.pin p hp
  have nch:p.1∉ch:=fun z=>(hch p.1 z).2.2.2 p hp rfl
  exact⟨keep p.1 p.2 ne nf nch e n,free p.1 p.2 nch e n,ne,nf,d⟩
def Inv.un{t':Nat}(I:Inv X pins σ H s)(u:Un X.fs [] H H' s.heap h')(hok:HOk X.prog X.w H' h'):Inv X pins σ H' { s with heap:=h',toks:=t' }:=by
 obtain⟨m,⟨o,es,ep,ho,r⟩,_⟩:=id I.loc
 obtain⟨sl,hL⟩:=u.any ho I.free (by simp)
 exact I.step (g' := s.gens) (d' := s.drawn) (ch := []) (fun _ z => nomatch z) (fun b o _ hb _ e n => u.keep b o e n hb (by simp)) (fun b o _ hb _ e n => u.slot b o e n hb (by simp)) (fun b o _ e n => u.free b o e n (by simp)) (fun b o _ e => u.there b o e (by simp)) u.tups u.frzs u.tbls (fun m' hm => by
  obtain⟨o',es',ep',ho',r'⟩:=hm
  rw[ho]at ho';cases ho'
  exact⟨_,es',ep',hL,r'⟩) hok I.bare
def Inv.call{g':Array GenState}{t':Nat}{d':Drawn}{ch:List Addr}(I:Inv X pins σ H s)(u:Un (frs X.stack) ch H H' s.heap h')(hok:HOk X.prog X.w H' h')(hg:AllBare g')
  (hch:∀b∈ch,(b∈X.ex\/X.s₀.heap.objs.size<=b)/\b≠X.env.locals/\(∀x c,X.env.cells.lookup x=some c->c≠b)/\∀p∈X.pn++pins,p.1≠b) :
  Inv X pins σ H' { s with heap:=h',gens:=g',drawn:=d',toks:=t' }:=by
 obtain⟨m,⟨o,es,ep,ho,r⟩,_⟩:=id I.loc
 obtain⟨sl,hL⟩:=u.any ho I.free fun z=>(hch _ z).2.1 rfl
 exact I.step (ch := ch) hch (fun b o hL hb hc e n => u.keep b o e n (fun z => (kY.mp (I.stkSub b z)).elim hL hb) hc) (fun b o _ _ hc e n => u.any e n hc) (fun b o hc e n => u.free b o e n hc) (fun b o hc e => u.there b o e hc) u.tups u.frzs u.tbls (fun m' hm => by
  obtain⟨o',es',ep',ho',r'⟩:=hm
  rw[ho]at ho';cases ho'
  exact⟨_,es',ep',hL,r'⟩) hok hg
def Inv.turned{t':Nat}{it:Addr}(I:Inv X pins σ H s)(k:∀b o,b≠it->s.heap.get? b=some o->h'.get? b=some o)(hn:H it=none)(hL:it≠X.env.locals)
  (h1:it∈X.ex\/X.s₀.heap.objs.size<=it) (h2:∀x c,X.env.cells.lookup x=some c->c≠it) (h3:∀p∈X.pn++pins,p.1≠it):Inv X pins σ H { s with heap:=h',toks:=t' }:=by
 have nit:∀b u,H b=some u->b≠it:=fun b u e z=>by rw[z,hn]at e;cases e
 refine I.step (g':=s.gens) (d':=s.drawn) (ch:=[it]) (fun b hb=>?_) (fun b o _ _ hc e _=>k b o (fun z=>hc (by simp[z])) e) (fun b o _ _ hc e _=>⟨o.slots,k b o (fun z=>hc (by simp[z])) e⟩) (fun _ _ _ _ n=>n)
  (fun b o hc e=>⟨o,k b o (fun z=>hc (by simp[z])) e⟩) (fun _ _ e=>e) (fun _ _ _ e=>e) (fun b ps e=>⟨#[],by rw[e];simp⟩) (fun m hm=>?_) (fun b u e=>?_) I.bare
 ·have e:b=it:=by simpa using hb
  subst e
  exact⟨h1,hL,h2,h3⟩
 ·obtain⟨o,es,ep,ho,r⟩:=hm
  exact⟨o,es,ep,k _ o (Ne.symm hL) ho,r⟩
 ·refine(I.hok b u e).stay (fun c v hc q=>k c v ?_ q) (fun _ q=>q) fun _ _ q=>q
  rcases hc with z|z
  ·rw[z];exact nit b u e
  ·exact nit c _ z
def Inv.tok(I:Inv X pins σ H s)(t:Nat):Inv X pins σ H { s with toks:=t }:=I.un (h':=s.heap) (t':=t) Un.refl I.hok
def Inv.kept{t':Nat}(I:Inv X pins σ H s)(k:∀b u,s.heap.get? b=some u->h'.get? b=some u):Inv X pins σ H { s with heap:=h',toks:=t' }:=I.un (Un.kept k) (I.hok.kept k)
def Inv.laid{a:Addr}{o:HO}{t':Nat}(I:Inv X pins σ H s)(k:∀b u,s.heap.get? b=some u->h'.get? b=some u)(hp:s.heap.objs.size<=a)(new:ObjOk X.prog X.w (upd H a o) h' a o) :
  Inv X pins σ (upd H a o) { s with heap:=h',toks:=t' }:=I.un (Un.laid k hp (I.hok.fresh hp)) (I.hok.laid k hp new)
def Inv.write{x e:Addr}{o:HO}{t':Nat}(I:Inv X pins σ H s)(mu:Mut (H x))(he:e=x\/H e=some (.own x))(k:∀b u,b≠e->s.heap.get? b=some u->h'.get? b=some u)(heo:∃u,h'.get? e=some u)
  (new:ObjOk X.prog X.w (upd H x o) h' x o):Inv X pins σ (upd H x o) { s with heap:=h',toks:=t' }:=I.un (Un.write mu he k heo) (I.hok.write mu he k heo new)
def Inv.pins_of{pins':List (Addr×Obj)}(I:Inv X pins σ H s)(h:∀p∈pins',s.heap.get? p.1=some p.2/\H p.1=none/\p.1≠X.env.locals/\p.1∉X.fs/\∀v,p.2.data≠.cell v):Inv X pins' σ H s :=
 ⟨I.ok,I.os,I.bare,I.base,I.loc,I.cell,I.free,I.freeC,fun p hp=>(kc.mp hp).elim (fun z=>I.pin p (kW _ z)) (h p),I.hok,I.len⟩
def PN{N:List Str}(hN:N.Nodup){i j:Nat}{x:Str}(a:N[i]?=some x)(b:N[j]?=some x):i=j:=by
 obtain⟨h1,e1⟩:=R'.mp a
 obtain⟨h2,e2⟩:=R'.mp b
 exact(List.getElem_inj hN).mp (e1.trans e2.symm)
def JV{M:Model}{A:Around}{E:Value->Shared->Prop}{i:Nat}{x:Str}{v:V}{u:Value}{Q:Unit->Shared->Prop}(I:Inv X pins σ H s)(hN:X.N.Nodup)(hi:X.N[i]?=some x)(hx:Loc X.env.scope x)(r:RelV v u)
  (h:∀s',Inv X pins (σ.set i (some v)) H s'->(∃a,Heap.SameBut a s.heap s'.heap/\(a=X.env.locals\/X.env.cells.lookup x=some a))->Q () s') (hf:X.fn x=true\/X.env.scope.names.lookup x=some .local:=by first|exact .inl rfl|exact .inr rfl|assumption):wpAny M A (storeName X.env x u) Q E s:=by
 obtain⟨m,hn,hl⟩:=id I.loc
 have hcls:(X.env.scope.kind==.class||(X.env.scope.kind==.module&&X.env.locals != X.env.globals))=false:=by rw[I.ok.kind];rfl
 have hiσ:i<σ.length:=by rw[I.len];exact(R'.mp hi).1
 have cne:=I.cne
 have tracked:∀{a:Addr} {h':Heap},(∃o,s.heap.get? a=some o/\H a=none)->Heap.SameBut a s.heap h'->HOk X.prog X.w H h':=fun {a h'} ha hs b ob e=>by
  obtain⟨_,_,hfree⟩:=ha
  refine(I.hok b ob e).stay (fun c w' hc q=>(hs.2 c ?_).trans q) (fun _ q=>q) fun _ _ q=>q
  rintro rfl
  rcases hc with rfl|hc
  ·rw[hfree]at e;cases e
  ·rw[hfree]at hc;cases hc
 rcases hx with hk|hk
 ·refine wpAny_storeName_local hk hn (fun h' hn' hs=>?_) hcls
  obtain⟨oL,_,_,hoL,_⟩:=id hn
  refine h _ ⟨I.ok,I.os,I.bare,⟨fun b o e n hb hx=>?_,fun b o e n hb hx=>?_,I.base.free,fun b o e hx=>?_,I.base.tups,I.base.frzs,I.base.tbls⟩,⟨_,hn',fun j y v' e1 e2 e3=>?_⟩,fun y c e=>?_,I.free,I.freeC,fun p hp=>?_,tracked ⟨oL,hoL,I.free⟩ hs,by simpa using I.len⟩ ⟨_,hs,.inl rfl⟩
  ·exact(hs.2 b (lE (kZ (i' e) I.ok.above))).trans (I.base.keep b o e n hb hx)
  ·obtain⟨sl,e1⟩:=I.base.slot b o e n hb hx
   exact⟨sl,(hs.2 b (lE (kZ (i' e) I.ok.above))).trans e1⟩
  ·obtain⟨o',e1⟩:=I.base.there b o e hx
   exact⟨o',(hs.2 b (lE (kZ (i' e) I.ok.above))).trans e1⟩
  ·by_cases hj:j=i
   ·subst hj
    rw[hi]at e1;cases e1
    rw[Z' hiσ]at e2
    cases e2
    exact⟨u,r,.inl ⟨hk,by simp⟩⟩
   ·rw[W' (Ne.symm hj)]at e2
    obtain⟨u',r',q⟩:=hl j y v' e1 e2 e3
    refine⟨u',r',?_⟩
    rcases q with ⟨k,e⟩|⟨k,c,e,z⟩
    ·refine .inl ⟨k,?_⟩
     have:y≠x:=fun e=>hj (PN hN e1 (e▸hi))
     simp[this,e]
    ·exact .inr ⟨k,c,e,z.sameBut hs (cne y c e)⟩
  ·obtain⟨w',z⟩:=I.cell y c e
   exact⟨w',z.sameBut hs (cne y c e)⟩
  ·obtain⟨e,n,ne,nf,d⟩:=I.pin p hp
   exact⟨(hs.2 p.1 ne).trans e,n,ne,nf,d⟩
 ·have hfn:X.fn x=true:=by
   rcases hf with z|z
   ·exact z
   ·rw[z]at hk;cases hk
  obtain⟨c,hc⟩:=I.ok.has x (.inl hk)
  obtain⟨w',z⟩:=I.cell x c hc
  refine wpAny_storeName_cell I.ok.kind hk hc z (fun h' hc' hs=>?_)
  obtain⟨oc,hoc,hocd⟩:=id z
  refine h { s with heap:=h' } ⟨I.ok,I.os,I.bare,⟨fun b o e n hb hx=>?_,fun b o e n hb hx=>?_,I.base.free,fun b o e hx=>?_,I.base.tups,I.base.frzs,I.base.tbls⟩,⟨m,hn.sameBut hs (Ne.symm (cne x c hc)),fun j y v' e1 e2 e3=>?_⟩,fun y c' e=>?_,I.free,I.freeC,fun p hp=>?_,tracked ⟨oc,hoc,I.freeC x c hc⟩ hs,by simpa using I.len⟩ ⟨c,hs,.inr hc⟩
  ·exact(hs.2 b (lE (kZ (i' e) (I.ok.cab x c hfn hc)))).trans (I.base.keep b o e n hb hx)
  ·obtain⟨sl,e1⟩:=I.base.slot b o e n hb hx
   exact⟨sl,(hs.2 b (lE (kZ (i' e) (I.ok.cab x c hfn hc)))).trans e1⟩
  ·obtain⟨o',e1⟩:=I.base.there b o e hx
   exact⟨o',(hs.2 b (lE (kZ (i' e) (I.ok.cab x c hfn hc)))).trans e1⟩
  ·by_cases hj:j=i
   ·subst hj
    rw[hi]at e1;cases e1
    rw[Z' hiσ]at e2
    cases e2
    exact⟨u,r,.inr ⟨.inl hk,c,hc,hc'⟩⟩
   ·rw[W' (Ne.symm hj)]at e2
    obtain⟨u',r',q⟩:=hl j y v' e1 e2 e3
    refine⟨u',r',?_⟩
    rcases q with q|⟨k,c',e,z'⟩
    ·exact .inl q
    ·refine .inr ⟨k,c',e,z'.sameBut hs ?_⟩
     rintro rfl
     exact hj (PN hN e1 (I.ok.inj _ _ _ e hc▸hi))
  ·by_cases hcc:c'=c
   ·subst hcc;exact⟨_,hc'⟩
   ·obtain⟨w2,z2⟩:=I.cell y c' e
    exact⟨w2,z2.sameBut hs hcc⟩
  ·obtain⟨e,n,ne,nf,d⟩:=I.pin p hp
   refine⟨(hs.2 p.1 ?_).trans e,n,ne,nf,d⟩
   intro q
   rw[q,hoc]at e
   have q':oc=p.2:=J' e
   exact d w' (by rw[<- q'];exact hocd)
def Fi{M:Model}{A:Around}{E:Value->Shared->Prop}{i:Nat}{x:Str}{v:V}{u:Value}{Q:Unit->Shared->Prop}(I:Inv X pins σ H s)(hN:X.N.Nodup)(hi:X.N[i]?=some x)(hx:Loc X.env.scope x)(r:RelV v u)
  (h:∀s',Inv X pins (σ.set i (some v)) H s'->Q () s') (hf:X.fn x=true\/X.env.scope.names.lookup x=some .local:=by first|exact .inl rfl|exact .inr rfl|assumption):wpAny M A (storeName X.env x u) Q E s :=
 JV I hN hi hx r (fun s' I' _=>h s' I') hf
def Inv.call'{s':Shared}{ch:List Addr}(I:Inv X pins σ H s)(ho:s'.os=s.os)(u:Un (frs X.stack) ch H H' s.heap s'.heap)(hok:HOk X.prog X.w H' s'.heap)(hg:AllBare s'.gens)
  (hch:∀b∈ch,(b∈X.ex\/X.s₀.heap.objs.size<=b)/\b≠X.env.locals/\(∀x c,X.env.cells.lookup x=some c->c≠b)/\∀p∈X.pn++pins,p.1≠b):Inv X pins σ H' s':=by
 obtain⟨h',g',d',t',o'⟩:=s'
 have e:o'=s.os:=ho
 subst e
 exact I.call (g':=g') (t':=t') (d':=d') u hok hg hch
end
abbrev XK:=Value->Option Addr->Hp->Prop
abbrev St:=List (Option V)
abbrev VK:=V->Hp->Prop
abbrev TE:=St->Hp->VK->Prop
abbrev TT:=St->Hp->(Bool->Hp->Prop)->Prop
abbrev TA:=St->Hp->(List V->Hp->Prop)->Prop
structure Kw where
 nx:St->Hp->Prop
 rt:VK
 bk:St->Hp->Prop:=fun _ _=>False
 ct:St->Hp->Prop:=fun _ _=>False
abbrev TS:=Kw->St->Hp->Prop
def EP(X:Cx)(pins:List (Addr×Obj))(σ:St)(Q:VK)(u:Value)(s':Shared):Prop:=∃v H',Inv X pins σ H' s'/\RelV v u/\Q v H'
def TP(X:Cx)(pins:List (Addr×Obj))(σ:St)(Q:Bool->Hp->Prop)(b:Bool)(s':Shared):Prop:=∃H',Inv X pins σ H' s'/\Q b H'
def AP(X:Cx)(pins:List (Addr×Obj))(σ:St)(Q:List V->Hp->Prop)(us:List Value)(s':Shared):Prop:=∃vs H',Inv X pins σ H' s'/\Vals vs us/\Q vs H'
def SP(X:Cx)(pins:List (Addr×Obj))(D:Kw)(f:Flow)(s':Shared):Prop :=
 match f with
 |.next=>∃σ' H',Inv X pins σ' H' s'/\D.nx σ' H'
 |.brk=>∃σ' H',Inv X pins σ' H' s'/\D.bk σ' H'
 |.cont=>∃σ' H',Inv X pins σ' H' s'/\D.ct σ' H'
 |.ret u=>∃v σ' H',Inv X pins σ' H' s'/\RelV v u/\D.rt v H'
def PE(X:Cx)(e:Expr)(t:TE):Prop :=
 ∀(pins:List (Addr×Obj)) (s:Shared) (σ:St) (H:Hp) (Q:VK),Inv X pins σ H s->t σ H Q->wpAny (model X.prog X.w) X.A (eval e X.env) (EP X pins σ Q) X.xe s
def PT(X:Cx)(e:Expr)(t:TT):Prop :=
 ∀(pins:List (Addr×Obj)) (s:Shared) (σ:St) (H:Hp) (Q:Bool->Hp->Prop),Inv X pins σ H s->t σ H Q->wpAny (model X.prog X.w) X.A (isTrue e X.env (eval e X.env)) (TP X pins σ Q) X.xe s
def PW(X:Cx)(e:Expr)(t:TT):Prop :=
 ∀(whole:Sem Value) (pins:List (Addr×Obj)) (s:Shared) (σ:St) (H:Hp) (Q:Bool->Hp->Prop),Inv X pins σ H s->t σ H Q->wpAny (model X.prog X.w) X.A (isTrue e X.env whole) (TP X pins σ Q) X.xe s
def PW.pt{X:Cx}{e:Expr}{t:TT}(h:PW X e t):PT X e t:=h _
def PA(X:Cx)(es:List Expr)(t:TA):Prop :=
 ∀(pos:Pos) (pins:List (Addr×Obj)) (s:Shared) (σ:St) (H:Hp) (Q:List V->Hp->Prop),Inv X pins σ H s->t σ H Q->wpAny (model X.prog X.w) X.A (spliced (backTo pos (starEach es X.env))) (AP X pins σ Q) X.xe s
def PS(X:Cx)(st:Stmt)(t:TS):Prop :=
 ∀(pins:List (Addr×Obj)) (s:Shared) (σ:St) (H:Hp) (D:Kw),Inv X pins σ H s->t D σ H->wpAny (model X.prog X.w) X.A (exec st X.env) (SP X pins D) X.xe s
def PSs(X:Cx)(st:List Stmt)(t:TS):Prop :=
 ∀(pins:List (Addr×Obj)) (s:Shared) (σ:St) (H:Hp) (D:Kw),Inv X pins σ H s->t D σ H->wpAny (model X.prog X.w) X.A (execs st X.env) (SP X pins D) X.xe s
def thn{α:Type}{t:Sem α}{Q Q':α->Shared->Prop}{M:Model}{A:Around}{E:Value->Shared->Prop}{s:Shared}(h:wpAny M A t Q E s)(hQ:∀a s,Q a s->Q' a s):wpAny M A t Q' E s:=wpAny_mono h hQ fun _ _ x=>x
end L2
namespace L2
open PySem PySem.Spec PyProof.Rows
section
variable {X:Cx}
def Dq(i:Nat):TE:=fun σ H Q=>∃v,σ[i]?=some (some v)/\Q v H
def tC(v:V):TE:=fun _ H Q=>Q v H
def Na{i:Nat}{x:Str}{pos:Pos}(hN:X.N[i]?=some x)(hv:Vis X.env.scope x)(hd:(x==("__debug__":Str))=false:=by decide)(hcd:(x==("__classdict__":Str))=false:=by decide):PE X (.Name x pos) (Dq i):=by
 intro pins s σ H Q I h
 obtain⟨v,e,h⟩:=h
 obtain⟨m,hn,hl⟩:=I.loc
 obtain⟨u,r,l⟩:=hl i x v hN e hv
 have fin:EP X pins σ Q u s:=⟨v,H,I,r,h⟩
 rcases l with ⟨hk,hm⟩|⟨hk,c,hc,hcell⟩
 ·exact wpAny_Name (wpAny_loadName_local I.ok.kind hk hn hm fin) hd
 ·rcases hk with hk|hk
  ·exact wpAny_Name (wpAny_loadName_cell I.ok.kind hk hc hcell fin) hd
  ·exact wpAny_Name (wpAny_loadName_free I.ok.kind hk hc hcell fin hcd) hd
def Ld{i j pos}:PE X (.Constant (.int i) j pos) (tC (.int i)):=fun _ _ _ H _ I h=>wpAny_Constant_int ⟨.int i,H,I.tok _,⟨_,rfl⟩,h⟩
def fo{b j pos}:PE X (.Constant (.bool b) j pos) (tC (.bl b)):=fun _ _ _ H _ I h=>Constant_bool ⟨.bl b,H,I,rfl,h⟩
def VW{j pos}:PE X (.Constant .none j pos) (tC .non):=fun _ _ _ H _ I h=>Constant_none ⟨.non,H,I,rfl,h⟩
def EW{x j pos}:PE X (.Constant (.str x) j pos) (tC (.str x)):=fun _ _ _ H _ I h=>Calls.Constant_str ⟨.str x,H,I.tok _,⟨_,rfl⟩,h⟩
def Gl(X:Cx)(x:Str):Prop:=X.env.kindOf x=some .globalImplicit
def GG{E:Value->Shared->Prop}{pins:List (Addr×Obj)}{s:Shared}{σ:St}{H:Hp}{x:Str}{u:Value}{pos:Pos}{Q:Value->Shared->Prop}(I:Inv X pins σ H s)(hg:Gl X x)(hm:X.mg x=some u)(h:Q u s)
  (hd:(x==("__debug__":Str))=false:=by decide):wpAny (model X.prog X.w) X.A (eval (.Name x pos) X.env) Q E s :=
 mz I.ok.kind hg (Calls.loadGlobal_global (by rw[I.ok.glob];exact I.mod.glob.keeps I.bk) hm h) hd
def Lo{E:Value->Shared->Prop}{pins:List (Addr×Obj)}{s:Shared}{σ:St}{H:Hp}{x:Str}{u:Value}{pos:Pos}{Q:Value->Shared->Prop}(I:Inv X pins σ H s)(hg:Gl X x)(hm:X.mg x=none)(hv:bootBuiltins x=some u)(h:Q u s)
  (hn:x≠"__name__":=by decide) (hd:(x==("__debug__":Str))=false:=by decide):wpAny (model X.prog X.w) X.A (eval (.Name x pos) X.env) Q E s:=by
 obtain⟨mb,h1,h2⟩:=I.mod.blt
 exact mz I.ok.kind hg (Calls.loadGlobal_builtin (by rw[I.ok.glob];exact I.mod.glob.keeps I.bk) hm (by rw[I.ok.blt];exact h1.keeps I.bk) ((h2 x hn).trans hv) h) hd
def Cb{x:Str}{v:V}{u:Value}{pos:Pos}(hg:Gl X x)(hm:X.mg x=some u)(r:RelV v u)(hd:(x==("__debug__":Str))=false:=by decide):PE X (.Name x pos) (tC v) :=
 fun _ _ _ H _ I h=>GG I hg hm ⟨v,H,I,r,h⟩ hd
def Xg{x:Str}{v:V}{u:Value}{pos:Pos}(hg:Gl X x)(hm:X.mg x=none)(hv:bootBuiltins x=some u)(r:RelV v u)(hn:x≠"__name__":=by decide)(hd:(x==("__debug__":Str))=false:=by decide):PE X (.Name x pos) (tC v) :=
 fun _ _ _ H _ I h=>Lo I hg hm hv ⟨v,H,I,r,h⟩ hn hd
variable {a b:Expr} {ta tb:TE} {pos:Pos}
def tB(t:TE):TT:=fun σ H Q=>t σ H fun x H1=>∃c,x = .bl c/\Q c H1
def RL{e:Expr}{t:TE}(h:PE X e t)(he:∀whole,isTrue e X.env whole=(do let v <- whole;standAt e.pos;holding [v] (truthy v)):=by intro _;rfl):PT X e (tB t):=by
 intro pins s σ H Q I hw
 refine isTrue_plain (thn (h pins s σ H _ I hw) fun v s1 ⟨x,H1,I1,r1,q1⟩=>?_) (he _)
 obtain⟨d,rfl,q⟩:=q1
 cases r1
 exact wpAny_truthy_bool ⟨H1,I1,q⟩
variable {tA tB':TT} {Aw:List Expr}
def fT(t u:TT):TT:=fun σ H Q=>t σ H fun c H1=>if c=true then u σ H1 Q else Q false H1
def tOr(t u:TT):TT:=fun σ H Q=>t σ H fun c H1=>if c=true then Q true H1 else u σ H1 Q
def fR(t:TT):TT:=fun σ H Q=>t σ H fun c H1=>Q (!c) H1
def XR(ha:PT X a tA):PW X (.BoolOp .And [a] pos) tA:=by
 intro wh pins s σ H Q I h
 refine isTrue_and (thn (ha pins s σ H Q I h) fun c s1 e=>?_)
 cases c with
 |true=>exact isTrue_and_nil e
 |false=>exact e
def VD(ha:PT X a tA):PW X (.BoolOp .Or [a] pos) tA:=by
 intro wh pins s σ H Q I h
 refine isTrue_or (thn (ha pins s σ H Q I h) fun c s1 e=>?_)
 cases c with
 |false=>exact isTrue_or_nil e
 |true=>exact e
def aK(ha:PT X a tA)(hb:PW X (.BoolOp .And (b::Aw) pos) tB'):PW X (.BoolOp .And (a::b::Aw) pos) (fT tA tB'):=by
 intro wh pins s σ H Q I h
 refine isTrue_and (thn (ha pins s σ H _ I h) fun c s1 ⟨H1,I1,q1⟩=>?_)
 cases c with
 |true=>exact hb wh pins s1 σ H1 Q I1 q1
 |false=>exact⟨H1,I1,q1⟩
def ZU(ha:PT X a tA)(hb:PW X (.BoolOp .Or (b::Aw) pos) tB'):PW X (.BoolOp .Or (a::b::Aw) pos) (tOr tA tB'):=by
 intro wh pins s σ H Q I h
 refine isTrue_or (thn (ha pins s σ H _ I h) fun c s1 ⟨H1,I1,q1⟩=>?_)
 cases c with
 |true=>exact⟨H1,I1,q1⟩
 |false=>exact hb wh pins s1 σ H1 Q I1 q1
def VI(ha:PT X a tA):PT X (.UnaryOp .Not a pos) (fR tA):=by
 intro pins s σ H Q I h
 exact isTrue_not (ha pins s σ H (fun c H1=>Q (!c) H1) I h)
def ZP(ta tb:TE):TE:=fun σ H Q=>ta σ H fun x H1=>∃c,x = .bl c/\if c=true then tb σ H1 Q else Q (.bl false) H1
def ZM(ta:TE):TE:=fun σ H Q=>ta σ H fun x H1=>∃c,x = .bl c/\Q (.bl (!c)) H1
def aT{op}{t:TE}(h:PE X a t):PE X (.BoolOp op [a] pos) t:=fun pins s σ H Q I hw=>BoolOp_one (h pins s σ H Q I hw)
def aW(ha:PE X a ta)(hb:PE X (.BoolOp .And (b::Aw) pos) tb):PE X (.BoolOp .And (a::b::Aw) pos) (ZP ta tb):=by
 intro pins s σ H Q I h
 refine BoolOp_and (thn (ha pins s σ H _ I h) fun v s1 ⟨x,H1,I1,r1,q1⟩=>?_)
 obtain⟨c,rfl,q1⟩:=q1
 cases r1
 refine wpAny_truthy_bool ?_
 cases c with
 |true=>exact hb pins s1 σ H1 Q I1 q1
 |false=>exact⟨.bl false,H1,I1,rfl,q1⟩
def aU(ha:PE X a ta):PE X (.UnaryOp .Not a pos) (ZM ta):=by
 intro pins s σ H Q I h
 refine UnaryOp_ (thn (ha pins s σ H _ I h) fun v s1 ⟨x,H1,I1,r1,q1⟩=>?_)
 obtain⟨c,rfl,q1⟩:=q1
 cases r1
 exact not_of (wpAny_truthy_bool ⟨.bl (!c),H1,I1,rfl,q1⟩)
def tIf(t:TT)(ta tb:TE):TE:=fun σ H Q=>t σ H fun c H1=>if c=true then ta σ H1 Q else tb σ H1 Q
def VX{c:Expr}(hc:PT X c tA)(ha:PE X a ta)(hb:PE X b tb):PE X (.IfExp c a b pos) (tIf tA ta tb):=by
 intro pins s σ H Q I h
 refine wpAny_IfExp (thn (hc pins s σ H _ I h) fun d s1 ⟨H1,I1,q1⟩=>?_)
 cases d with
 |true=>exact ha pins s1 σ H1 Q I1 q1
 |false=>exact hb pins s1 σ H1 Q I1 q1
end
end L2
namespace L2
open PySem PySem.Spec PyProof.Rows
def SqL(K:PySem.W.Frag)(H:Hp)(a:Addr)(xs:List V):Prop :=
 Rd H a (.lst xs) \/
  ∃(o:Obj) (its:Array Value) (n:Nat),K.lookup a=some o/\o.cls = .type "list"/\o.dict=none/\o.data = .seq its n/\its.size<=sizeLine/\Vals xs its.toList
def SqT(K:PySem.W.Frag)(H:Hp)(a:Addr)(xs:List V):Prop :=
 Rd H a (.tup xs) \/
  ∃(o:Obj) (its:Array Value) (n:Nat),K.lookup a=some o/\o.cls = .type "tuple"/\o.data = .seq its n/\its.size<=sizeLine/\Vals xs its.toList
def kR:Value->Option V
 |.none=>some .non
 |.bool b=>some (.bl b)
 |.int i _=>some (.int i)
 |.str x _=>some (.str x)
 |.bytes b _=>some (.byt b)
 |.float b _=>some (.flt b)
 |.ref a=>some (.ref a)
 |.type n=>some (.ty n)
 |_=>none
def RelV.abs{x:V}{u:Value}(r:RelV x u):kR u=some x:=by
 cases x with
 |non=>cases r;rfl
 |bl _=>cases r;rfl
 |int _=>obtain⟨t,rfl⟩:=r;rfl
 |str _=>obtain⟨t,rfl⟩:=r;rfl
 |byt _=>obtain⟨t,rfl⟩:=r;rfl
 |flt _=>obtain⟨t,rfl⟩:=r;rfl
 |ref _=>cases r;rfl
 |ty _=>cases r;rfl
def RelV.inj{x y:V}{u:Value}(r:RelV x u)(q:RelV y u):x=y:=J' (r.abs.symm.trans q.abs)
def Vals.inj:∀{xs ys:List V} {us:List Value},Vals xs us->Vals ys us->xs=ys
 |_,_,_,.nil,.nil=>rfl
 |_,_,_,.cons r t,.cons r' t'=>by rw[r.inj r',Vals.inj t t']
section
variable {X:Cx} {pins:List (Addr×Obj)} {σ:St} {H:Hp} {s:Shared} {a:Addr} {xs ys:List V}
def SqL.of{K:PySem.W.Frag}(h:H a=some (.lst xs)):SqL K H a xs:=.inl (.inl h)
def SqT.of{K:PySem.W.Frag}(h:H a=some (.tup xs)):SqT K H a xs:=.inl (.inl h)
def Inv.list(I:Inv X pins σ H s)(h:SqL X.K H a xs):∃its:List Value,Vals xs its/\PlainL s.heap a its.toArray/\xs.length<=sizeLine:=by
 rcases h with h|⟨o,its,n,hk,hc,hd,hs,hz,r⟩
 ·obtain⟨z,its,n,r,e⟩:=h.ok I.hok
  exact⟨its,r,⟨_,n,e,rfl,rfl,rfl⟩,z⟩
 ·refine⟨its.toList,r,⟨o,n,I.kIn a o hk,hc,hd,by simpa using hs⟩,?_⟩
  have e:=r.length
  simp only[Array.length_toList]at e
  omega
def Inv.tuple(I:Inv X pins σ H s)(h:SqT X.K H a xs):∃its:List Value,Vals xs its/\IsTup s.heap a its.toArray/\xs.length<=sizeLine:=by
 rcases h with h|⟨o,its,n,hk,hc,hs,hz,r⟩
 ·obtain⟨z,its,r,p⟩:=h.ok I.hok
  exact⟨its,r,p,z⟩
 ·refine⟨its.toList,r,⟨o,I.kIn a o hk,hc,n,by simpa using hs⟩,?_⟩
  have e:=r.length
  simp only[Array.length_toList]at e
  omega
def Inv.list_inj(I:Inv X pins σ H s)(h:SqL X.K H a xs)(h':SqL X.K H a ys):xs=ys:=by
 obtain⟨its,r,⟨o,n,e,_,_,d⟩,_⟩:=I.list h
 obtain⟨its',r',⟨o',n',e',_,_,d'⟩,_⟩:=I.list h'
 rw[e]at e';cases e'
 rw[d]at d'
 injection d' with d1 _
 have:its=its':=by simpa using congrArg Array.toList d1
 subst this
 exact r.inj r'
def Inv.tuple_inj(I:Inv X pins σ H s)(h:SqT X.K H a xs)(h':SqT X.K H a ys):xs=ys:=by
 obtain⟨its,r,⟨o,e,_,n,d⟩,_⟩:=I.tuple h
 obtain⟨its',r',⟨o',e',_,n',d'⟩,_⟩:=I.tuple h'
 rw[e]at e';cases e'
 rw[d]at d'
 injection d' with d1 _
 have:its=its':=by simpa using congrArg Array.toList d1
 subst this
 exact r.inj r'
end
abbrev Cx.wish(X:Cx)(E:Value->Shared->Prop):Cx:={ X with xe:=E }
abbrev Cx.nox(X:Cx):Cx:=X.wish fun _ _=>False
def Cx.Ok.wish{X:Cx}(ok:X.Ok)(E:Value->Shared->Prop):(X.wish E).Ok :=
 ⟨ok.mod,ok.kind,ok.glob,ok.blt,ok.above,ok.inj,ok.has,ok.cab,ok.hd,ok.frames,ok.stk,ok.exf,ok.bs,ok.bsz,ok.noex,ok.exfs,ok.funs,ok.frf⟩
def Cx.Ok.unwish{X:Cx}{E:Value->Shared->Prop}(ok:(X.wish E).Ok):X.Ok :=
 ⟨ok.mod,ok.kind,ok.glob,ok.blt,ok.above,ok.inj,ok.has,ok.cab,ok.hd,ok.frames,ok.stk,ok.exf,ok.bs,ok.bsz,ok.noex,ok.exfs,ok.funs,ok.frf⟩
section
variable {X:Cx} {pins:List (Addr×Obj)} {σ:St} {H:Hp} {s:Shared} {E:Value->Shared->Prop}
def Inv.wish(I:Inv X pins σ H s)(E:Value->Shared->Prop):Inv (X.wish E) pins σ H s:=⟨I.ok.wish E,I.os,I.bare,I.base,I.loc,I.cell,I.free,I.freeC,I.pin,I.hok,I.len⟩
def Inv.unwish(I:Inv (X.wish E) pins σ H s):Inv X pins σ H s:=⟨I.ok.unwish,I.os,I.bare,I.base,I.loc,I.cell,I.free,I.freeC,I.pin,I.hok,I.len⟩
def SP.unwish{D:Kw}{f:Flow}{s':Shared}(h:SP (X.wish E) pins D f s'):SP X pins D f s':=by
 cases f with
 |next=>obtain⟨σ',H',I,q⟩:=h;exact⟨σ',H',I.unwish,q⟩
 |brk=>obtain⟨σ',H',I,q⟩:=h;exact⟨σ',H',I.unwish,q⟩
 |cont=>obtain⟨σ',H',I,q⟩:=h;exact⟨σ',H',I.unwish,q⟩
 |ret u=>obtain⟨v,σ',H',I,r,q⟩:=h;exact⟨v,σ',H',I.unwish,r,q⟩
def PSs.nox{st:List Stmt}{t:TS}(h:PSs X.nox st t):PSs X st t:=fun pins s σ H D I hw =>
 wpAny_mono (h pins s σ H D (I.wish _) hw) (fun _ _ q=>q.unwish) fun _ _ z=>False.elim z
end
section
variable {X:Cx} {st:Stmt} {Aw:List Stmt} {t u:TS} {e:Expr} {te:TE} {pos:Pos}
def ZN:TS:=fun D σ H=>D.nx σ H
def Uw(t u:TS):TS:=fun D σ H=>t { D with nx:=u D } σ H
def NZ:PSs X [] ZN:=fun _ _ σ H _ I h=>wpAny_execs_nil ⟨σ,H,I,h⟩
def DU(h1:PS X st t)(h2:PSs X Aw u):PSs X (st::Aw) (Uw t u):=by
 intro pins s σ H D I h
 refine wpAny_execs_cons (thn (h1 pins s σ H { D with nx:=u D } I h) fun f s1 q=>?_)
 cases f with
 |next =>
  obtain⟨σ',H',I',q⟩:=q
  exact h2 pins s1 σ' H' D I' q
 |ret v=>exact q
 |brk=>exact q
 |cont=>exact q
def Iq(h1:PS X st t):PSs X [st] t:=by
 intro pins s σ H D I h
 refine wpAny_execs_cons (thn (h1 pins s σ H D I h) fun f s1 q=>?_)
 cases f with
 |next=>exact wpAny_execs_nil q
 |ret v=>exact q
 |brk=>exact q
 |cont=>exact q
def Inv.quiet{pins:List (Addr×Obj)}{σ:St}{H:Hp}{s:Shared}(I:Inv X pins σ H s):interactive X.env=false:=by simp[interactive,I.ok.kind]
def LF(te:TE):TS:=fun D σ H=>te σ H fun _ H1=>D.nx σ H1
def Ir(he:PE X e te)(hs:swapsWith e none pos.line X.env=pure false:=by rfl):PS X (.Expr e pos) (LF te):=by
 intro pins s σ H D I h
 exact wpAny_Expr_any (thn (he pins s σ H _ I h) fun v s1 ⟨x,H1,I1,r1,q1⟩=>⟨σ,H1,I1,q1⟩) I.quiet hs
def TY(te:TE):TS:=fun D σ H=>te σ H D.rt
def ID(he:PE X e te):PS X (.Return (some e) pos) (TY te):=by
 intro pins s σ H D I h
 exact wpAny_Return_some (thn (he pins s σ H _ I h) fun v s1 ⟨x,H1,I1,r1,q1⟩=>⟨x,σ,H1,I1,r1,q1⟩)
def ZK:TS:=fun D _ H=>D.rt .non H
def XW:PS X (.Return none pos) ZK:=fun _ _ σ H _ I h=>wpAny_Return_none ⟨.non,σ,H,I,rfl,h⟩
def Z9(c:TT)(t u:TS):TS:=fun D σ H=>c σ H fun b H1=>if b=true then t D σ H1 else u D σ H1
def VQ{c:Expr}{a b:List Stmt}{tc:TT}(hc:PT X c tc)(ha:PSs X a t)(hb:PSs X b u):PS X (.If c a b pos) (Z9 tc t u):=by
 intro pins s σ H D I h
 refine wpAny_If (thn (hc pins s σ H _ I h) fun d s1 ⟨H1,I1,q1⟩=>?_)
 cases d with
 |true=>exact ha pins s1 σ H1 D I1 q1
 |false=>exact hb pins s1 σ H1 D I1 q1
def Ux:TS:=fun _ _ _=>False
def VP:PS X st Ux:=fun _ _ _ _ _ _ h=>h.elim
end
abbrev TG:=V->St->Hp->(St->Hp->Prop)->Prop
abbrev TGs:=List V->St->Hp->(St->Hp->Prop)->Prop
def PG(X:Cx)(target:Expr)(t:TG):Prop :=
 ∀(pins:List (Addr×Obj)) (s:Shared) (σ:St) (H:Hp) (v:V) (u:Value) (Q:St->Hp->Prop),Inv X pins σ H s->RelV v u->t v σ H Q ->
  wpAny (model X.prog X.w) X.A (assign target X.env u) (fun _ s'=>∃σ' H',Inv X pins σ' H' s'/\Q σ' H') X.xe s
def PGs(X:Cx)(ts:List Expr)(t:TGs):Prop :=
 ∀(pins:List (Addr×Obj)) (s:Shared) (σ:St) (H:Hp) (vs:List V) (us:List Value) (Q:St->Hp->Prop),Inv X pins σ H s->Vals vs us->t vs σ H Q ->
  wpAny (model X.prog X.w) X.A (assignInOrder ((assignEach ts X.env).map (·.2)) us) (fun _ s'=>∃σ' H',Inv X pins σ' H' s'/\Q σ' H') X.xe s
abbrev ZD:=V->V->V->Hp->(Hp->Prop)->Prop
def eo(X:Cx)(t:ZD):Prop :=
 ∀(pins:List (Addr×Obj)) (s:Shared) (σ:St) (H:Hp) (o i v:V) (ov iv u:Value) (Q:Hp->Prop),Inv X pins σ H s->RelV o ov->RelV i iv->RelV v u->t o i v H Q ->
  wpAny (model X.prog X.w) X.A (setItem ov iv u) (fun _ s'=>∃H',Inv X pins σ H' s'/\Q H') X.xe s
abbrev TIp:=V->V->Hp->VK->Prop
def PIp(X:Cx)(op:Operator)(t:TIp):Prop :=
 ∀(pins:List (Addr×Obj)) (s:Shared) (σ:St) (H:Hp) (x y:V) (v u:Value) (Q:VK),Inv X pins σ H s->RelV x v->RelV y u->t x y H Q ->
  wpAny (model X.prog X.w) X.A (inplaceOp op v u) (EP X pins σ Q) X.xe s
section
variable {X:Cx} {pos:Pos}
def FO(i:Nat):TG:=fun v σ H Q=>Q (σ.set i (some v)) H
def Sf{i:Nat}{x:Str}(hN:X.N.Nodup)(hi:X.N[i]?=some x)(hx:Loc X.env.scope x)(hf:X.fn x=true\/X.env.scope.names.lookup x=some .local:=by first|exact .inl rfl|exact .inr rfl|assumption):PG X (.Name x pos) (FO i):=by
 intro pins s σ H v u Q I r h
 exact wpAny_assign_Name (Fi I hN hi hx r (fun s' I'=>⟨_,H,I',h⟩) hf)
def gf:TGs:=fun vs σ H Q=>vs=[]/\Q σ H
def Ze(t:TG)(u:TGs):TGs:=fun vs σ H Q=>∃v r,vs=v::r/\t v σ H fun σ' H'=>u r σ' H' Q
def Xe:PGs X [] gf:=by
 intro pins s σ H vs us Q I r h
 obtain⟨e,h⟩:=h
 subst e
 cases r
 exact assignInOrder_nil ⟨σ,H,I,h⟩
def VV{e:Expr}{es:List Expr}{t:TG}{u:TGs}(h1:PG X e t)(h2:PGs X es u)
  (hs:(assignEach (e::es) X.env).map (·.2)=assign e X.env::(assignEach es X.env).map (·.2):=by rfl):PGs X (e::es) (Ze t u):=by
 intro pins s σ H vs us Q I r h
 obtain⟨v,vr,e1,h⟩:=h
 subst e1
 cases r with
 |cons r rr =>
  rw[hs]
  refine assignInOrder_cons (thn (h1 pins s σ H _ _ _ I r h) fun _ s1 ⟨σ1,H1,I1,q1⟩=>?_)
  exact h2 pins s1 σ1 H1 _ _ Q I1 rr q1
def YF(K:PySem.W.Frag)(n:Nat)(t:TGs):TG:=fun v σ H Q=>∃a xs,v = .ref a/\SqT K H a xs/\xs.length=n/\t xs σ H Q
def aQ{es:List Expr}{k:Nat}{t:TGs}{n:Nat}(hc:X.calm=true)(h:PGs X es t)
  (hn:(assignEach es X.env).length=n:=by rfl) (hst:(assignEach es X.env).findIdx? (·.1)=none:=by rfl):PG X (.Tuple es k pos) (YF X.K n t):=by
 intro pins s σ H v u Q I r hw
 obtain⟨a,xs,e1,hq,hl,hw⟩:=hw
 subst e1
 cases r
 obtain⟨its,rv,ht,hz⟩:=I.tuple hq
 refine assign_Tuple_tuple (I.ok.hd hc) ht (by simp[hn,<- hl,rv.length]) hst fun h' hx=>?_
 have I1:Inv X pins σ H { s with heap:=h' }:=I.kept (t':=s.toks) fun b o e=>hx b o (lE (i' e)) e
 exact h pins _ σ H xs _ Q I1 (by simpa using rv) hw
def bT(to ti:TE)(t:ZD):TG:=fun v σ H Q=>to σ H fun o H1=>ti σ H1 fun i H2=>t o i v H2 fun H3=>Q σ H3
def aR{o i:Expr}{to ti:TE}{t:ZD}(ho:PE X o to)(hi:PE X i ti)(hs:eo X t)
  (ha : ∀ v, assign (.Subscript o i pos) X.env v = (do
   let ov <- holding [v] (eval o X.env)
   let iv <- holding [v,ov] (eval i X.env)
   standAt pos
   holding [v,ov,iv] (setItem ov iv v)
   release [v,ov,iv] []):=by intro _;rfl):PG X (.Subscript o i pos) (bT to ti t):=by
 intro pins s σ H v u Q I r h
 rw[ha]
 refine wpAny_bind (wpAny_holding (thn (ho pins s σ H _ I h) fun ov s1 ⟨x,H1,I1,r1,q1⟩=>?_))
 refine wpAny_bind (wpAny_holding (thn (hi pins s1 σ H1 _ I1 q1) fun iv s2 ⟨y,H2,I2,r2,q2⟩=>?_))
 refine wpAny_bind (wpAny_standAt (wpAny_bind (wpAny_holding (thn (hs pins s2 σ H2 x y v ov iv u _ I2 r1 r2 r q2) fun _ s3 ⟨H3,I3,q3⟩=>?_))))
 exact wpAny_release ⟨σ,H3,I3,q3⟩
def JU(te:TE)(g:TG):TS:=fun D σ H=>te σ H fun x H1=>g x σ H1 D.nx
def VR{tg e:Expr}{te:TE}{g:TG}(he:PE X e te)(hg:PG X tg g)(hs:swapsWithSole [tg] e pos.line X.env=pure false:=by rfl)(hw:swappedStores [tg] e X.env=pure none:=by rfl)
  (h1:(assignEach [tg] X.env).map (·.2)=[assign tg X.env]:=by rfl):PS X (.Assign [tg] e pos) (JU te g):=by
 intro pins s σ H D I h
 refine wpAny_Assign_stores (thn (he pins s σ H _ I h) fun v s1 ⟨x,H1,I1,r1,q1⟩=>?_) hs hw
 rw[h1]
 exact thn (hg pins s1 σ H1 x v _ I1 r1 q1) fun _ s2 q=>q
def IC{i:Nat}{x:Str}{e:Expr}{te:TE}{pos':Pos}(hN:X.N.Nodup)(hi:X.N[i]?=some x)(hx:Loc X.env.scope x)(he:PE X e te)(hs:swapsWith e (some (.Name x pos')) pos.line X.env=pure false:=by rfl)(hf:X.fn x=true\/X.env.scope.names.lookup x=some .local:=by first|exact .inl rfl|exact .inr rfl|assumption) :
  PS X (.Assign [.Name x pos'] e pos) (JU te (FO i)):=by
 intro pins s σ H D I h
 refine wpAny_Assign_Name (thn (he pins s σ H _ I h) fun v s1 ⟨y,H1,I1,r1,q1⟩=>?_) hs
 exact Fi I1 hN hi hx r1 (fun s2 I2=>⟨_,H1,I2,q1⟩) hf
def fQ(i j:Nat)(ta:TA):TS:=fun D σ H=>ta σ H fun vs H1=>∃v w,vs=[v,w]/\D.nx ((σ.set i (some v)).set j (some w)) H1
def aM{i j:Nat}{x y:Str}{a b:Expr}{ta:TA}{px py pt:Pos}{kt k2 pt2}(hc:X.calm=true)(hN:X.N.Nodup)(hi:X.N[i]?=some x)(hj:X.N[j]?=some y)(hij:i≠j)
  (hx:X.env.scope.names.lookup x=some .local) (hy:X.env.scope.names.lookup y=some .local) (ha:PA X [a,b] ta)
  (hw:swappedStores [.Tuple [.Name x px,.Name y py] kt pt] (.Tuple [a,b] k2 pt2) X.env=pure (some [x,y]))
  (hs:swapsWithSole [.Tuple [.Name x px,.Name y py] kt pt] (.Tuple [a,b] k2 pt2) pos.line X.env=pure false:=by rfl) :
  PS X (.Assign [.Tuple [.Name x px,.Name y py] kt pt] (.Tuple [a,b] k2 pt2) pos) (fQ i j ta):=by
 intro pins s σ H D I h
 rw[exec_Assign_arm]
 refine wpAny_bind (wpAny_standAt ?_)
 rw[hs]
 refine wpAny_bind (wpAny_pure ?_)
 rw[if_neg (by decide)]
 refine wpAny_bind (Tuple_ (thn (ha _ pins s σ H _ I h) fun us s1 ⟨vs,H1,I1,r1,q1⟩=>?_))
 obtain⟨v,w,e1,q1⟩:=q1
 subst e1
 obtain⟨u1,u2,rfl,rv,rw'⟩:∃u1 u2,us=[u1,u2]/\RelV v u1/\RelV w u2:=by
  cases r1 with
  |cons p q =>
   cases q with
   |cons p' q' =>
    cases q'
    exact⟨_,_,rfl,p,p'⟩
 refine wpAny_newObj_type ?_ (by show 2<=sizeLine;decide)
 have I2:Inv X pins σ H1 { s1 with heap:=s1.heap.push { cls:=.type "tuple",data:=.seq [u1,u2].toArray } }:=I1.kept (t':=s1.toks) fun b o e=>U' _ e
 rw[hw]
 refine wpAny_bind (wpAny_pure ?_)
 show wpAny (model X.prog X.w) X.A (do rule "assign.swapped-stores";let items <- unpackItems (.ref s1.heap.objs.size) 2 none;assignInOrder [fun v=>bindName X.env y v,fun v=>bindName X.env x v] items.reverse;pure Flow.next) _ _ _
 refine wpAny_bind (wpAny_rule (wpAny_bind (unpackItems_tuple (items:=#[u1,u2]) (I.ok.hd hc) (IsTup.new s1.heap _) fun h' hx'=>?_)))
 have I3:=I2.kept (h':=h') (t':=s1.toks) fun b o e=>hx' b o (lE (i' e)) e
 show wpAny _ _ (assignInOrder [fun v=>bindName X.env y v,fun v=>bindName X.env x v] [u2,u1] >>= fun _=>pure Flow.next) _ _ _
 refine wpAny_bind (assignInOrder_cons (wpAny_bindName (Fi I3 hN hj (.inl hy) rw' (fun s2 I4=>?_) (.inr hy))))
 refine assignInOrder_cons (wpAny_bindName (Fi I4 hN hi (.inl hx) rv (fun s3 I5=>assignInOrder_nil (wpAny_pure ?_)) (.inr hx)))
 rw[List.set_comm _ _ (Ne.symm hij)]at I5
 exact⟨_,H1,I5,q1⟩
def fS(i:Nat)(te:TE)(ti:TIp):TS:=fun D σ H=>∃x,σ[i]?=some (some x)/\te σ H fun y H1=>ti x y H1 fun z H2=>D.nx (σ.set i (some z)) H2
def aN{i:Nat}{x:Str}{e:Expr}{te:TE}{op:Operator}{ti:TIp}{pos':Pos}(hN:X.N.Nodup)(hi:X.N[i]?=some x)(hx:Loc X.env.scope x)(he:PE X e te)(ho:PIp X op ti)(hf:X.fn x=true\/X.env.scope.names.lookup x=some .local:=by first|exact .inl rfl|exact .inr rfl|assumption) :
  PS X (.AugAssign (.Name x pos') op e pos) (fS i te ti):=by
 intro pins s σ H D I h
 obtain⟨v,e1,h⟩:=h
 obtain⟨m,hn,hl⟩:=I.loc
 have vis:Vis X.env.scope x:=by rcases hx with k|k;exact .inl k;exact .inr (.inl k)
 obtain⟨u,r,l⟩:=hl i x v hi e1 vis
 refine wpAny_AugAssign_Name ?_
 have go:wpAny (model X.prog X.w) X.A (eval e X.env) (fun w s₂=>wpAny (model X.prog X.w) X.A (inplaceOp op u w) (fun r s₃=>wpAny (model X.prog X.w) X.A (storeName X.env x r) (fun _=>SP X pins D .next) X.xe s₃) X.xe s₂) X.xe s:=by
  refine thn (he pins s σ H _ I h) fun w s1 ⟨y,H1,I1,r1,q1⟩=>?_
  refine thn (ho pins s1 σ H1 v y u w _ I1 r r1 q1) fun z s2 ⟨zv,H2,I2,r2,q2⟩=>?_
  exact Fi I2 hN hi hx r2 (fun s3 I3=>⟨_,H2,I3,q2⟩) hf
 rcases l with ⟨hk,hm⟩|⟨hk,c,hc,hcell⟩
 ·exact wpAny_loadName_local I.ok.kind hk hn hm go
 ·rcases hk with hk|hk
  ·exact wpAny_loadName_cell I.ok.kind hk hc hcell go
  ·rcases hx with k|k
   ·have:X.env.scope.names.lookup x=some .free:=hk
    rw[k]at this;cases this
   ·have:X.env.scope.names.lookup x=some .free:=hk
    rw[k]at this;cases this
def ipI(f:Int->Int->Int):TIp:=fun x y H Q=>∃i j,x = .int i/\y = .int j/\Q (.int (f i j)) H
def bN:PIp X .Add (ipI fun i j=>i+j):=by
 intro pins s σ H x y v u Q I r1 r2 h
 obtain⟨i,j,e1,e2,q⟩:=h
 subst e1;subst e2
 obtain⟨t,rfl⟩:=r1
 obtain⟨t',rfl⟩:=r2
 exact iadd_int ⟨.int _,H,I.tok _,⟨_,rfl⟩,q⟩
end
section
variable {X:Cx} {pos:Pos}
def Uv(c:TT)(tb:TS):TS:=fun D σ H=>∃W:Nat->St->Hp->Prop,(∃m,W m σ H)/\∀m σ H,W m σ H ->
 c σ H fun b H1=>if b=true then ∃N:St->Hp->Prop,(∀σ' H',N σ' H'->∃m',m'<m/\W m' σ' H')/\tb { D with nx:=N,ct:=N,bk:=D.nx } σ H1 else D.nx σ H1
def VM{c:Expr}{body:List Stmt}{tc:TT}{tb:TS}(hp:PassesOwn (model X.prog X.w) X.A X.env X.xe)(hc:PT X c tc)(hb:PSs X body tb):PS X (.While c body [] pos) (Uv tc tb):=by
 intro pins s σ H D I h
 obtain⟨W,⟨m0,w0⟩,turn⟩:=h
 refine wpAny_While (codeAny_whileLoop (fun n s'=>∃σ' H',Inv X pins σ' H' s'/\W n σ' H') ?_ m0 ⟨σ,H,I,w0⟩)
 rintro n s1 ⟨σ1,H1,I1,w1⟩
 refine wpAny_passesOwn hp (thn (hc pins s1 σ1 H1 _ I1 (turn n σ1 H1 w1)) fun b s2 ⟨H2,I2,q2⟩=>?_)
 cases b with
 |true =>
  obtain⟨N,hN,q2⟩:=q2
  rw[if_pos rfl]
  refine wpAny_passesOwn hp (thn (hb pins s2 σ1 H2 _ I2 q2) fun f s3 q3=>?_)
  cases f with
  |next =>
   obtain⟨σ3,H3,I3,n3⟩:=q3
   obtain⟨m',hm,w3⟩:=hN σ3 H3 n3
   exact⟨m',hm,σ3,H3,I3,w3⟩
  |cont =>
   obtain⟨σ3,H3,I3,n3⟩:=q3
   obtain⟨m',hm,w3⟩:=hN σ3 H3 n3
   exact⟨m',hm,σ3,H3,I3,w3⟩
  |brk=>exact q3
  |ret v=>exact q3
 |false =>
  rw[if_neg kr]
  exact wpAny_execs_nil ⟨σ1,H2,I2,q2⟩
end
structure It where
 go:Nat->Hp->Prop
 yld:Nat->Hp->V->Hp->Prop
 stop:Nat->Hp->Prop
def IY(X:Cx)(pins:List (Addr×Obj))(H:Hp)(b:Addr):Prop :=
 H b=none/\b≠X.env.locals/\b∉X.fs/\(b∈X.ex\/X.s₀.heap.objs.size<=b)/\(∀x c,X.env.cells.lookup x=some c->c≠b)/\∀p∈X.pn++pins,p.1≠b
def Inv.fpOk{X:Cx}{pins:List (Addr×Obj)}{σ:St}{H H':Hp}{s:Shared}{b:Addr}(I:Inv X pins σ H s)(hb:s.heap.objs.size<=b)(hn:H' b=none):IY X pins H' b:=by
 refine⟨hn,mK (kZ I.lt hb),I.nofs hb,.inr (lA I.sz hb),fun x c e z=>?_,fun p hp z=>?_⟩
 ·obtain⟨v,q⟩:=I.cell x c e
  exact absurd (kZ q.lt (by rw[z];exact hb)) (lM _)
 ·exact absurd (kZ (i' (I.pin p hp).1) (by rw[z];exact hb)) (lM _)
structure Turn(P:Program)(w:World)(K:PySem.W.Frag)(tg:Expr)(J:It)(fp:List Addr)(it:Addr)(tn:Nat->Heap->Prop):Prop where
 mem:it∈fp
 obj:∀i h,tn i h->∀b∈fp,∃o,h.get? b=some o/\∀v,o.data≠.cell v
 keep:∀i h h',tn i h->(∀b∈fp,∀o,h.get? b=some o->h'.get? b=some o)->tn i h'
 item:∀(X:Cx),X.prog=P->X.w=w->X.K=K->X.calm=true->∀(i:Nat) (pins:List (Addr×Obj)) (s:Shared) (σ:St) (H:Hp) (E:Value->Shared->Prop),Inv X pins σ H s->(∀b∈fp,IY X pins H b)->tn i s.heap->J.go i H ->
  wpAny (model P w) X.A (pyNext (.ref it)) (fun r s1 => ∃ u, r = some u /\
   wpAny (model P w) X.A (letOwnedTupleGo tg (.ref it) u) (fun _ s2=>∃x H',Inv X pins σ H' s2/\RelV x u/\J.yld i H x H'/\tn (i+1) s2.heap/\∀b∈fp,H' b=none) E s1) E s
 done:∀(X:Cx),X.prog=P->X.w=w->X.K=K->X.calm=true->∀(i:Nat) (pins:List (Addr×Obj)) (s:Shared) (σ:St) (H:Hp) (E:Value->Shared->Prop),Inv X pins σ H s->(∀b∈fp,IY X pins H b)->tn i s.heap->J.stop i H ->
  wpAny (model P w) X.A (pyNext (.ref it)) (fun r s1=>r=none/\Inv X pins σ H s1) E s
 self:∀(A:Around) (i:Nat) (s:Shared) (Q:Value->Shared->Prop) (E:Value->Shared->Prop),tn i s.heap->Q (.ref it) s->wpAny (model P w) A (pyIter (.ref it)) Q E s
abbrev TI:=St->Hp->(It->Hp->Prop)->Prop
def PIE(X:Cx)(pins:List (Addr×Obj))(σ:St)(tg:Expr)(R:It->Hp->Prop)(itv:Value)(s2:Shared):Prop :=
 ∃(it:Addr) (fp:List Addr) (tn:Nat->Heap->Prop) (J:It) (H':Hp),itv = .ref it/\Inv X pins σ H' s2/\Turn X.prog X.w X.K tg J fp it tn/\tn 0 s2.heap/\(∀b∈fp,IY X pins H' b)/\R J H'
def PI(X:Cx)(tg iter:Expr)(wi:TI):Prop :=
 ∀(pins:List (Addr×Obj)) (s:Shared) (σ:St) (H:Hp) (R:It->Hp->Prop),Inv X pins σ H s->wi σ H R ->
  wpAny (model X.prog X.w) X.A (eval iter X.env) (fun v s1=>wpAny (model X.prog X.w) X.A (pyIter v) (PIE X pins σ tg R) X.xe s1) X.xe s
def Pk{M:Model}{A:Around}{E:Value->Shared->Prop}{s:Shared}{tg:Expr}{it:Addr}{u:Value}{o:Obj}{n:String}{vs:Array Value}{Q:Unit->Shared->Prop}(ho:s.heap.get? it=some o)(hc:o.cls = .type n)(hd:o.data = .fields vs)
    (hn:["enumerate","zip","dict_itemiterator","dict_reverseitemiterator","odict_iterator","itertools.zip_longest","itertools.pairwise"].contains n=false) (hQ:Q () s):wpAny M A (letOwnedTupleGo tg (.ref it) u) Q E s:=by
  unfold letOwnedTupleGo
  cases tg<;>first
    |exact wpAny_pure hQ
    | (cases u <;> first
        |exact wpAny_pure hQ
        | (refine wpAny_bind (wpAny_load ho ?_)
           rw[hc,hd]
           show wpAny M A (if (["enumerate","zip","dict_itemiterator","dict_reverseitemiterator","odict_iterator","itertools.zip_longest","itertools.pairwise"].contains n&&vs[0]?==some (rawInt _))=true then _ else _) Q E s
           rw[if_neg (by intro h;rw[hn,Bool.false_and]at h;cases h)]
           exact wpAny_pure hQ))
def Itl(K:PySem.W.Frag)(a:Addr):It :=
 ⟨fun i H=>∃xs x,SqL K H a xs/\xs[i]?=some x,fun i H x H'=>H'=H/\∀xs,SqL K H a xs->xs[i]?=some x,fun i H=>∃xs,SqL K H a xs/\xs.length<=i⟩
def Itt(K:PySem.W.Frag)(a:Addr):It :=
 ⟨fun i H=>∃xs x,SqT K H a xs/\xs[i]?=some x,fun i H x H'=>H'=H/\∀xs,SqT K H a xs->xs[i]?=some x,fun i H=>∃xs,SqT K H a xs/\xs.length<=i⟩
def Itr(lo:Int)(n:Nat):It:=⟨fun i _=>i<n,fun i H x H'=>H'=H/\x = .int (lo+i),fun i _=>n<=i⟩
def JT{P:Program}{w:World}{K:PySem.W.Frag}{tg:Expr}(a it:Addr):Turn P w K tg (Itl K a) [it] it (fun i h=>h.IsListIter it a i) where
 mem:=by simp
 obj:=fun i h st b hb=>by
  have e:b=it:=by simpa using hb
  subst e
  obtain⟨o,e,c,d⟩:=st
  exact⟨o,e,fun v z=>by rw[d]at z;cases z⟩
 keep:=fun i h h' st k=>st.at fun o e=>k it (by simp) o e
 item:=by
  intro X hP hw hK hc i pins s σ H E I hf st hg
  subst hP hw hK
  obtain⟨xs,x,hq,hx⟩:=hg
  obtain⟨its,rv,p,hz⟩:=I.list hq
  obtain⟨u,hu,ru⟩:=rv.get hx
  obtain⟨f0,f1,f2,f3,f4,f5⟩:=hf it (by simp)
  refine wpAny_pyNext_list_item st p.isList (x:=u) (by simpa using hu) fun h' st' sb=>?_
  have I1:Inv X pins σ H { s with heap:=h' }:=I.turned (t':=s.toks) (fun b o hb e=>(sb.2 b hb).trans e) f0 f1 f3 f4 f5
  obtain⟨o,e,c,d⟩:=id st'
  exact⟨u,rfl,Pk (s:={ s with heap:=h' }) e c d (by decide) ⟨x,H,I1,ru,⟨rfl,fun ys hy=>by rw[I.list_inj hy hq];exact hx⟩,st',fun b hb=>(hf b hb).1⟩⟩
 done:=by
  intro X hP hw hK hc i pins s σ H E I hf st hg
  subst hP hw hK
  obtain⟨xs,hq,hx⟩:=hg
  obtain⟨its,rv,p,hz⟩:=I.list hq
  obtain⟨f0,f1,f2,f3,f4,f5⟩:=hf it (by simp)
  have hl:=rv.length
  exact wpAny_pyNext_list_end (I.ok.hd hc) st p.isList (by simp;omega) fun h' eb=>⟨rfl,I.turned (t':=s.toks) (fun b o hb e=>eb b o hb e) f0 f1 f3 f4 f5⟩
 self:=fun _ _ _ _ _ st h=>wpAny_pyIter_listiter st h
def P9{P:Program}{w:World}{K:PySem.W.Frag}{tg:Expr}(a it:Addr):Turn P w K tg (Itt K a) [it] it (fun i h=>h.IsTupleIter it a i) where
 mem:=by simp
 obj:=fun i h st b hb=>by
  have e:b=it:=by simpa using hb
  subst e
  obtain⟨o,e,c,d⟩:=st
  exact⟨o,e,fun v z=>by rw[d]at z;cases z⟩
 keep:=fun i h h' st k=>st.at fun o e=>k it (by simp) o e
 item:=by
  intro X hP hw hK hc i pins s σ H E I hf st hg
  subst hP hw hK
  obtain⟨xs,x,hq,hx⟩:=hg
  obtain⟨its,rv,p,hz⟩:=I.tuple hq
  obtain⟨u,hu,ru⟩:=rv.get hx
  obtain⟨f0,f1,f2,f3,f4,f5⟩:=hf it (by simp)
  refine wpAny_pyNext_tuple_item st (show s.heap.IsTuple a its.toArray from p) (x:=u) (by simpa using hu) fun h' st' sb=>?_
  have I1:Inv X pins σ H { s with heap:=h' }:=I.turned (t':=s.toks) (fun b o hb e=>(sb.2 b hb).trans e) f0 f1 f3 f4 f5
  obtain⟨o,e,c,d⟩:=id st'
  exact⟨u,rfl,Pk (s:={ s with heap:=h' }) e c d (by decide) ⟨x,H,I1,ru,⟨rfl,fun ys hy=>by rw[I.tuple_inj hy hq];exact hx⟩,st',fun b hb=>(hf b hb).1⟩⟩
 done:=by
  intro X hP hw hK hc i pins s σ H E I hf st hg
  subst hP hw hK
  obtain⟨xs,hq,hx⟩:=hg
  obtain⟨its,rv,p,hz⟩:=I.tuple hq
  obtain⟨f0,f1,f2,f3,f4,f5⟩:=hf it (by simp)
  have hl:=rv.length
  exact wpAny_pyNext_tuple_end (I.ok.hd hc) st (show s.heap.IsTuple a its.toArray from p) (by simp;omega) fun h' eb=>⟨rfl,I.turned (t':=s.toks) (fun b o hb e=>eb b o hb e) f0 f1 f3 f4 f5⟩
 self:=fun _ _ _ _ _ st h=>wpAny_pyIter_tupleiter st h
def RA{P:Program}{w:World}{K:PySem.W.Frag}{tg:Expr}(it:Addr)(lo:Int)(n:Nat):Turn P w K tg (Itr lo n) [it] it (fun i h=>IsRangeIter h it (lo+(i:Nat)*1) ((n:Int)-(i:Nat)) 1) where
 mem:=by simp
 obj:=fun i h st b hb=>by
  have e:b=it:=by simpa using hb
  subst e
  exact ⟨_, st, fun v z => by
   have z':Data.fields _=Data.cell v:=z
   cases z'⟩
 keep:=fun i h h' st k=>k it (by simp) _ st
 item:=by
  intro X hP hw hK hc i pins s σ H E I hf st hg
  subst hP hw hK
  obtain⟨f0,f1,f2,f3,f4,f5⟩:=hf it (by simp)
  have W:=Walks.range (prog:=X.prog) (w:=X.w) (I.ok.hd hc) it lo 1 n
  refine W.item i s _ _ hg st fun v h' tk hv st' kk=>?_
  obtain⟨t,rfl⟩:=hv
  have I1:Inv X pins σ H { s with heap:=h',toks:=tk }:=I.turned (fun b o hb e=>kk b o (by simpa using hb) e) f0 f1 f3 f4 f5
  refine⟨_,rfl,Pk (s:={ s with heap:=h',toks:=tk }) (n:="range_iterator") st' rfl rfl (by decide) ⟨.int (lo+i),H,I1,⟨t,?_⟩,⟨rfl,rfl⟩,st',fun b hb=>(hf b hb).1⟩⟩
  rw[Int.mul_one]
 done:=by
  intro X hP hw hK hc i pins s σ H E I hf st hg
  subst hP hw hK
  obtain⟨f0,f1,f2,f3,f4,f5⟩:=hf it (by simp)
  exact wpAny_pyNext_range_end (I.ok.hd hc) st (by have:n<=i:=hg;omega) fun h' eb=>⟨rfl,I.turned (t':=s.toks) (fun b o hb e=>eb b o hb e) f0 f1 f3 f4 f5⟩
 self:=fun _ _ _ _ _ st h=>wpAny_pyIter_rangeiter st h
end L2
namespace L2
open PySem PySem.Spec PyProof.Rows
section
variable {X:Cx} {tg:Expr}
def M8(K:PySem.W.Frag)(tl:TE):TI:=fun σ H R=>tl σ H fun x H1=>∃a,x = .ref a/\(∃xs,SqL K H1 a xs)/\R (Itl K a) H1
def YC(K:PySem.W.Frag)(tl:TE):TI:=fun σ H R=>tl σ H fun x H1=>∃a,x = .ref a/\(∃xs,SqT K H1 a xs)/\R (Itt K a) H1
def Xb{l:Expr}{tl:TE}(hl:PE X l tl):PI X tg l (M8 X.K tl):=by
 intro pins s σ H R I h
 refine thn (hl pins s σ H _ I h) fun v s1 ⟨x,H1,I1,r1,q1⟩=>?_
 obtain⟨a,e,⟨xs,hq⟩,q⟩:=q1
 subst e
 cases r1
 obtain⟨its,rv,p,hz⟩:=I1.list hq
 refine wpAny_pyIter_list p.isList ?_
 refine⟨s1.heap.objs.size,[s1.heap.objs.size],_,_,H1,rfl,I1.kept (t':=s1.toks) fun b o e=>U' _ e,JT a _,⟨_,kb _ rfl,rfl,rfl⟩,fun b hb=>?_,q⟩
 have e:b=s1.heap.objs.size:=by simpa using hb
 subst e
 exact I1.fpOk (X' _) (I1.hok.fresh (X' _))
def aO{l:Expr}{tl:TE}(hl:PE X l tl):PI X tg l (YC X.K tl):=by
 intro pins s σ H R I h
 refine thn (hl pins s σ H _ I h) fun v s1 ⟨x,H1,I1,r1,q1⟩=>?_
 obtain⟨a,e,⟨xs,hq⟩,q⟩:=q1
 subst e
 cases r1
 obtain⟨its,rv,p,hz⟩:=I1.tuple hq
 refine wpAny_pyIter_tuple (show s1.heap.IsTuple a its.toArray from p) ?_
 refine⟨s1.heap.objs.size,[s1.heap.objs.size],_,_,H1,rfl,I1.kept (t':=s1.toks) fun b o e=>U' _ e,P9 a _,⟨_,kb _ rfl,rfl,rfl⟩,fun b hb=>?_,q⟩
 have e:b=s1.heap.objs.size:=by simpa using hb
 subst e
 exact I1.fpOk (X' _) (I1.hok.fresh (X' _))
def U7{pins:List (Addr×Obj)}{σ:St}{H:Hp}{s:Shared}{R:It->Hp->Prop}{E:Value->Shared->Prop}{lo hi:Int}{t u v:Tok}{tk:Nat}(I:Inv X pins σ H s)(h1:-(2 ^ 62)<=lo)(h2:lo<2 ^ 62)(h3:-(2 ^ 62)<=hi)(h4:hi<2 ^ 62)
  (q:R (Itr lo (hi-lo).toNat) H):wpAny (model X.prog X.w) X.A (pyIter (.ref s.heap.objs.size)) (PIE X pins σ tg R) E { s with heap:=s.heap.push { cls:=.type "range",data:=.fields #[.int lo t,.int hi u,.int 1 v] },toks:=tk }:=by
 refine wpAny_pyIter_range (IsRange.new ..) (small_one h1 h2 h3 h4) ?_
 have I1:Inv X pins σ H { s with heap:=s.heap.push { cls:=.type "range",data:=.fields #[.int lo t,.int hi u,.int 1 v] },toks:=tk }:=I.kept fun b o e=>U' _ e
 refine ⟨(s.heap.push { cls := .type "range", data := .fields #[.int lo t, .int hi u, .int 1 v] }).objs.size, [(s.heap.push { cls := .type "range", data := .fields #[.int lo t, .int hi u, .int 1 v] }).objs.size], _, _, H, rfl,
  I1.kept (t':=tk) fun b o e=>U' _ e,RA _ lo (hi-lo).toNat,?_,fun b hb=>?_,q⟩
 ·have e1:lo+((0:Nat):Int)*1=lo:=by simp
  have e2:(((hi-lo).toNat:Nat):Int)-((0:Nat):Int)=Builtin.Range.rangeSize lo hi 1:=by rw[rangeSize_one];split<;>omega
  show IsRangeIter _ _ (lo+((0:Nat):Int)*1) ((((hi-lo).toNat:Nat):Int)-((0:Nat):Int)) 1
  rw[e1,e2]
  exact kb _ rfl
 ·have e:b=(s.heap.push { cls:=.type "range",data:=.fields #[.int lo t,.int hi u,.int 1 v] }).objs.size:=by simpa using hb
  subst e
  exact I1.fpOk (X' _) (I1.hok.fresh (X' _))
def Zc(ta:TA):TI:=fun σ H R=>ta σ H fun vs H1=>∃j:Int,vs=[.int j]/\-(2 ^ 62)<=j/\j<2 ^ 62/\R (Itr 0 j.toNat) H1
def Th{a:Expr}{ta:TA}{p pos:Pos}(hg:Gl X "range")(hm:X.mg "range"=none)(ha:PA X [a] ta)(hs:starEach [a] X.env=[(false,eval a X.env)]:=by rfl):PI X tg (.Call (.Name "range" p) [a] [] pos) (Zc ta):=by
 intro pins s σ H R I h
 refine Call_ (Lo I hg hm boot_range (mI (thn (ha pos pins s σ H _ I h) fun us s1 ⟨vs,H1,I1,r1,q1⟩=>?_) hs rfl))
 obtain⟨j,e,q1,q2,q⟩:=q1
 subst e
 cases r1 with
 |cons r rr =>
  cases rr
  obtain⟨t,rfl⟩:=r
  exact call_range_1 (U7 I1 (by omega) (by omega) q1 q2 (by simpa using q))
def XA(wi:TI)(g:TG)(tb:TS):TS:=fun D σ H=>wi σ H fun J H1=>∃W:Nat->Nat->St->Hp->Prop,(∃m,W 0 m σ H1)/\∀i m σ H,W i m σ H ->
 (J.stop i H/\D.nx σ H)\/(J.go i H/\∃N:St->Hp->Prop,(∀σ' H',N σ' H'->∃m',m'<m/\W (i+1) m' σ' H')/\∀x H',J.yld i H x H'->g x σ H' fun σ2 H2=>tb { D with nx:=N,ct:=N,bk:=D.nx } σ2 H2)
def Lc(fp:List Addr)(h:Heap):List (Addr×Obj):=fp.filterMap fun b=>(h.get? b).map fun o=>(b,o)
def GA{fp:List Addr}{h:Heap}{b:Addr}{o:Obj}(hb:b∈fp)(e:h.get? b=some o):(b,o)∈Lc fp h:=List.mem_filterMap.mpr ⟨b,hb,by rw[e];rfl⟩
def T1{fp:List Addr}{h:Heap}{p:Addr×Obj}(hp:p∈Lc fp h):p.1∈fp/\h.get? p.1=some p.2:=by
 obtain⟨b,hb,e⟩:=List.mem_filterMap.mp hp
 cases q:h.get? b with
 |none=>rw[q]at e;cases e
 |some o =>
  rw[q]at e
  have e':(b,o)=p:=J' e
  subst e'
  exact⟨hb,q⟩
def Inv.pinned{pins:List (Addr×Obj)}{σ:St}{H:Hp}{s:Shared}{fp:List Addr}(I:Inv X pins σ H s)(hf:∀b∈fp,IY X pins H b)(ho:∀b∈fp,∃o,s.heap.get? b=some o/\∀v,o.data≠.cell v):Inv X (pins++Lc fp s.heap) σ H s :=
 I.pins_of fun p hp=>(kc.mp hp).elim (fun z=>I.pin p (P' _ z)) fun z=>by
  obtain⟨hb,e⟩:=T1 z
  obtain⟨f0,f1,f2,_⟩:=hf p.1 hb
  obtain⟨o,e',d⟩:=ho p.1 hb
  rw[e]at e';cases e'
  exact⟨e,f0,f1,f2,d⟩
def Inv.unpinned{pins pl:List (Addr×Obj)}{σ:St}{H:Hp}{s:Shared}(I:Inv X (pins++pl) σ H s):Inv X pins σ H s:=I.pins_of fun p hp=>I.pin p (P' _ (kW _ hp))
def RM{iter:Expr}{body:List Stmt}{wi:TI}{g:TG}{tb:TS}{pos:Pos}(hp:PassesOwn (model X.prog X.w) X.A X.env X.xe)(hc:X.calm=true)(hi:PI X tg iter wi)(hg:PG X tg g)(hb:PSs X body tb)
  (hs:∀x,foldedSetIterable iter X.env x=pure x:=by intro _;rfl):PS X (.For tg iter body [] pos) (XA wi g tb):=by
 intro pins s σ H D I h
 refine wpAny_For (thn (hi pins s σ H _ I h) fun v s1 h1=>thn h1 fun itv s2 h2=>?_) hs
 obtain⟨it,fp,tn,J,H2,e,I2,T,st2,f2,W,⟨m0,w0⟩,turn⟩:=h2
 subst e
 -- what stays true of the iterator's objects through the loop
 have stat:∀{H':Hp},(∀b∈fp,H' b=none)->∀b∈fp,IY X pins H' b:=fun hn b hb=>⟨hn b hb,(f2 b hb).2⟩
 refine codeAny_forLoop_any (fun n s'=>∃i σ' H',Inv X pins σ' H' s'/\tn i s'.heap/\(∀b∈fp,H' b=none)/\W i n σ' H') ?_ m0 ⟨0,σ,H2,I2,st2,fun b hb=>(f2 b hb).1,w0⟩
 rintro n s3 ⟨i,σ3,H3,I3,st3,fr3,w3⟩
 rcases turn i n σ3 H3 w3 with ⟨stop,qn⟩|⟨go,N,hN,step⟩
 ·refine wpAny_passesOwn hp (thn (T.done X rfl rfl rfl hc i pins s3 σ3 H3 X.xe I3 (stat fr3) st3 stop) fun r s4 ⟨hr,I4⟩=>?_)
  subst hr
  exact wpAny_execs_nil ⟨σ3,H3,I4,qn⟩
 ·refine wpAny_passesOwn hp (thn (T.item X rfl rfl rfl hc i pins s3 σ3 H3 X.xe I3 (stat fr3) st3 go) fun r s4 ⟨u,hr,h4⟩=>?_)
  subst hr
  refine wpAny_passesOwn hp (thn h4 fun _ s5 ⟨x,H5,I5,r5,y5,st5,fr5⟩=>?_)
  have I5':=I5.pinned (stat fr5) (T.obj _ _ st5)
  refine wpAny_passesOwn hp (thn (hg _ s5 σ3 H5 x u _ I5' r5 (step x H5 y5)) fun _ s6 ⟨σ6,H6,I6,q6⟩=>?_)
  refine wpAny_passesOwn hp (thn (hb _ s6 σ6 H6 _ I6 q6) fun f s7 q7=>?_)
  have again:∀{σ7:St} {H7:Hp},Inv X (pins++Lc fp s5.heap) σ7 H7 s7->N σ7 H7->∃m,m<n/\∃i σ' H',Inv X pins σ' H' s7/\tn i s7.heap/\(∀b∈fp,H' b=none)/\W i m σ' H':=fun {σ7 H7} I7 n7=>by
   obtain⟨m',hm,w7⟩:=hN σ7 H7 n7
   refine⟨m',hm,i+1,σ7,H7,I7.unpinned,T.keep _ _ _ st5 fun b hb o e=>(I7.pin (b,o) (P' _ (P' _ (GA hb e)))).1,fun b hb=>?_,w7⟩
   obtain⟨o,e,d⟩:=T.obj _ _ st5 b hb
   exact(I7.pin (b,o) (P' _ (P' _ (GA hb e)))).2.1
  cases f with
  |next=>obtain⟨σ7,H7,I7,n7⟩:=q7;exact again I7 n7
  |cont=>obtain⟨σ7,H7,I7,n7⟩:=q7;exact again I7 n7
  |brk=>obtain⟨σ7,H7,I7,q7⟩:=q7;exact⟨σ7,H7,I7.unpinned,q7⟩
  |ret v=>obtain⟨x7,σ7,H7,I7,r7,q7⟩:=q7;exact⟨x7,σ7,H7,I7.unpinned,r7,q7⟩
end
end L2
namespace L2
open PySem PySem.Spec PyProof.Rows
abbrev R2:=V->V->Hp->VK->Prop
def OpR(X:Cx)(f:Value->Value->Sem Value)(r:R2):Prop :=
 ∀(pins:List (Addr×Obj)) (s:Shared) (σ:St) (H:Hp) (x y:V) (v u:Value) (Q:VK),Inv X pins σ H s->RelV x v->RelV y u->r x y H Q ->
  wpAny (model X.prog X.w) X.A (f v u) (EP X pins σ Q) X.xe s
def UnR(X:Cx)(f:Value->Sem Value)(r:V->Hp->VK->Prop):Prop :=
 ∀(pins:List (Addr×Obj)) (s:Shared) (σ:St) (H:Hp) (x:V) (v:Value) (Q:VK),Inv X pins σ H s->RelV x v->r x H Q ->
  wpAny (model X.prog X.w) X.A (f v) (EP X pins σ Q) X.xe s
def Cp(X:Cx)(f:Value)(r:List V->Hp->VK->Prop):Prop :=
 ∀(pins:List (Addr×Obj)) (s:Shared) (σ:St) (H:Hp) (xs:List V) (us:List Value) (Q:VK),Inv X pins σ H s->Vals xs us->r xs H Q ->
  wpAny (model X.prog X.w) X.A (call f us) (EP X pins σ Q) X.xe s
def tOp(r:R2)(ta tb:TE):TE:=fun σ H Q=>ta σ H fun x H1=>tb σ H1 fun y H2=>r x y H2 Q
def tUn(r:V->Hp->VK->Prop)(ta:TE):TE:=fun σ H Q=>ta σ H fun x H1=>r x H1 Q
def rI(C:Int->Int->Prop)(g:Int->Int->V):R2:=fun x y H Q=>∃i j,x = .int i/\y = .int j/\C i j/\Q (g i j) H
def rI0(g:Int->Int->V):R2:=fun x y H Q=>∃i j,x = .int i/\y = .int j/\Q (g i j) H
def rU(g:Int->V):V->Hp->VK->Prop:=fun x H Q=>∃i,x = .int i/\Q (g i) H
section
variable {X:Cx} {a b c:Expr} {ta tb tc:TE} {pos:Pos}
def eK(ha:PE X a ta)(hb:PE X b tb){pins:List (Addr×Obj)}{s:Shared}{σ:St}{H:Hp}{R:V->V->Hp->Prop}(I:Inv X pins σ H s)
  (h:ta σ H fun x H1=>tb σ H1 fun y H2=>R x y H2) {Q:Value->Shared->Prop} {f:Value->Value->Sem Value}
  (hf:∀v u s2 x y H2,Inv X pins σ H2 s2->RelV x v->RelV y u->R x y H2->wpAny (model X.prog X.w) X.A (f v u) Q X.xe s2) :
  wpAny (model X.prog X.w) X.A (eval a X.env) (fun v s₁=>wpAny (model X.prog X.w) X.A (eval b X.env) (fun u s₂=>wpAny (model X.prog X.w) X.A (f v u) Q X.xe s₂) X.xe s₁) X.xe s:=by
 refine thn (ha pins s σ H _ I h) fun v s1 ⟨x,H1,I1,r1,q1⟩=>?_
 refine thn (hb pins s1 σ H1 _ I1 q1) fun u s2 ⟨y,H2,I2,r2,q2⟩=>?_
 exact hf v u s2 x y H2 I2 r1 r2 q2
def Ou{op:Operator}{r:R2}(ho:OpR X (binaryOp op) r)(ha:PE X a ta)(hb:PE X b tb):PE X (.BinOp a op b pos) (tOp r ta tb):=by
 intro pins s σ H Q I h
 exact wpAny_BinOp (eK ha hb I h fun v u s2 x y H2 I2 rx ry q=>ho pins s2 σ H2 x y v u Q I2 rx ry q)
def fj{op:UnaryOp}{r:V->Hp->VK->Prop}(ho:UnR X (unaryOp op) r)(ha:PE X a ta):PE X (.UnaryOp op a pos) (tUn r ta):=by
 intro pins s σ H Q I h
 exact UnaryOp_ (thn (ha pins s σ H _ I h) fun v s1 ⟨x,H1,I1,r1,q1⟩=>ho pins s1 σ H1 x v Q I1 r1 q1)
def opI{f:Value->Value->Sem Value}{C:Int->Int->Prop}{g:Int->Int->Int}
  (rule:∀(i j:Int) (t u:Tok) (s:Shared) (Q:Value->Shared->Prop) (E:Value->Shared->Prop),C i j->Q (.int (g i j) s.toks) { s with toks:=s.toks+1 }->wpAny (model X.prog X.w) X.A (f (.int i t) (.int j u)) Q E s) :
  OpR X f (rI C fun i j=>.int (g i j)):=by
 intro pins s σ H x y v u Q I rx ry h
 obtain⟨i,j,rfl,rfl,hc,q⟩:=h
 obtain⟨t,rfl⟩:=rx
 obtain⟨t',rfl⟩:=ry
 exact rule i j t t' s _ _ hc ⟨.int (g i j),H,I.tok _,⟨_,rfl⟩,q⟩
def f6{f:Value->Value->Sem Value}{g:Int->Int->Int}
  (rule:∀(i j:Int) (t u:Tok) (s:Shared) (Q:Value->Shared->Prop) (E:Value->Shared->Prop),Q (.int (g i j) s.toks) { s with toks:=s.toks+1 }->wpAny (model X.prog X.w) X.A (f (.int i t) (.int j u)) Q E s) :
  OpR X f (rI0 fun i j=>.int (g i j)):=by
 intro pins s σ H x y v u Q I rx ry h
 obtain⟨i,j,rfl,rfl,q⟩:=h
 obtain⟨t,rfl⟩:=rx
 obtain⟨t',rfl⟩:=ry
 exact rule i j t t' s _ _ ⟨.int (g i j),H,I.tok _,⟨_,rfl⟩,q⟩
def Xp{f:Value->Value->Sem Value}{g:Int->Int->Bool}
  (rule:∀(i j:Int) (t u:Tok) (s:Shared) (Q:Value->Shared->Prop) (E:Value->Shared->Prop),Q (.bool (g i j)) s->wpAny (model X.prog X.w) X.A (f (.int i t) (.int j u)) Q E s) :
  OpR X f (rI0 fun i j=>.bl (g i j)):=by
 intro pins s σ H x y v u Q I rx ry h
 obtain⟨i,j,rfl,rfl,q⟩:=h
 obtain⟨t,rfl⟩:=rx
 obtain⟨t',rfl⟩:=ry
 exact rule i j t t' s _ _ ⟨.bl (g i j),H,I,rfl,q⟩
def Wy(i j:Int):Prop:=0<=j/\j<=1000000/\i.natAbs<2 ^ 64
def CMul(i j:Int):Prop:=(-(2 ^ 64)<i/\i<2 ^ 64)\/(-(2 ^ 64)<j/\j<2 ^ 64)
def CMul.ok{i j:Int}(h:CMul i j):IntMulOk i j:=by
 rcases h with ⟨h1,h2⟩|⟨h1,h2⟩
 ·exact .of_left (intBits_le_64 h1 h2)
 ·exact .of_right (intBits_le_64 h1 h2)
def ao:OpR X (binaryOp .Add) (rI0 fun i j=>.int (i+j)):=f6 fun _ _ _ _ _ _ _ q=>add_int q
def aX:OpR X (binaryOp .Sub) (rI0 fun i j=>.int (i-j)):=f6 fun _ _ _ _ _ _ _ q=>sub_int q
def ae:OpR X (binaryOp .Mod) (rI (fun _ j=>0<j) fun i j=>.int (i % j)):=opI fun i j _ _ _ _ _ hc q=>by
 have h1:(0:Int)<j:=hc
 exact mod_int' (by omega) (by rw[Int.fmod_eq_emod_of_nonneg i (by omega)];exact q)
def aZ:OpR X (binaryOp .Pow) (rI Wy fun i j=>.int (i ^ j.toNat)):=opI fun _ _ _ _ _ _ _ hc q=>pow_int_small hc.1 hc.2.1 hc.2.2 q
def unI{f:Value->Sem Value}{g:Int->Int}
  (rule:∀(i:Int) (t:Tok) (s:Shared) (Q:Value->Shared->Prop) (E:Value->Shared->Prop),Q (.int (g i) s.toks) { s with toks:=s.toks+1 }->wpAny (model X.prog X.w) X.A (f (.int i t)) Q E s) :
  UnR X f (rU fun i=>.int (g i)):=by
 intro pins s σ H x v Q I rx h
 obtain⟨i,rfl,q⟩:=h
 obtain⟨t,rfl⟩:=rx
 exact rule i t s _ _ ⟨.int (g i),H,I.tok _,⟨_,rfl⟩,q⟩
def Z4:UnR X (unaryOp .USub) (rU fun i=>.int (-i)):=unI fun _ _ _ _ _ q=>neg_int q
end
section
variable {X:Cx} {a b c:Expr} {ta tb tc:TE} {pos:Pos}
def Rl{pins:List (Addr×Obj)}{σ:St}{H:Hp}{s:Shared}{Q:VK}{k k':Bool}(I:Inv X pins σ H s)(q:Q (.bl k) H)(e:k=k'):EP X pins σ Q (.bool k') s:=by
 subst e
 exact⟨.bl k,H,I,rfl,q⟩
def fq:OpR X (compareOp .Lt) (rI0 fun i j=>.bl (decide (i<j))):=Xp fun _ _ _ _ _ _ _ q=>lt_int q
def fu:OpR X (compareOp .LtE) (rI0 fun i j=>.bl (decide (i<=j))):=Xp fun _ _ _ _ _ _ _ q=>le_int q
def fy:OpR X (compareOp .Gt) (rI0 fun i j=>.bl (decide (j<i))):=Xp fun _ _ _ _ _ _ _ q=>gt_int q
def fz:OpR X (compareOp .GtE) (rI0 fun i j=>.bl (decide (j<=i))):=Xp fun _ _ _ _ _ _ _ q=>ge_int q
def Ts:OpR X (compareOp .In) (fun x y H Q=>∃i j,x = .str i/\y = .str j/\Q (.bl (!(Builtin.Str.occurrences j i 0 j.length 1).isEmpty)) H):=by
 intro pins s σ H x y v u Q I rx ry h
 obtain⟨i,j,rfl,rfl,q⟩:=h
 obtain⟨t,rfl⟩:=rx
 obtain⟨t',rfl⟩:=ry
 exact in_str (Rl I q rfl)
def af:OpR X (compareOp .Is) (fun x y H Q=>y = .non/\Q (.bl (decide (x = .non))) H):=by
 intro pins s σ H x y v u Q I rx ry h
 obtain⟨rfl,q⟩:=h
 cases ry
 refine is_none_gen (Rl I q ?_)
 cases x<;>first
  |(cases rx;rfl)
  |(obtain⟨t,rfl⟩:=rx;rfl)
def Xi:OpR X (compareOp .IsNot) (fun x y H Q=>y = .non/\Q (.bl (!decide (x = .non))) H):=by
 intro pins s σ H x y v u Q I rx ry h
 obtain⟨rfl,q⟩:=h
 cases ry
 refine isnot_none_gen (Rl I q ?_)
 cases x<;>first
  |(cases rx;rfl)
  |(obtain⟨t,rfl⟩:=rx;rfl)
def az(b:Expr){op:CmpOp}(h:op≠.In:=by decide)(h2:op≠.NotIn:=by decide):behindInMarks op b=false:=by
 have e1:(op==CmpOp.In)=false:=by cases op<;>first|rfl|exact absurd rfl h
 have e2:(op==CmpOp.NotIn)=false:=by cases op<;>first|rfl|exact absurd rfl h2
 cases b<;>simp[behindInMarks,e1,e2]
def Nb{op:CmpOp}{r:R2}(ho:OpR X (compareOp op) r)(ha:PE X a ta)(hb:PE X b tb)(hm:behindInMarks op b=false):PE X (.Compare a [op] [b] pos) (tOp r ta tb):=by
 intro pins s σ H Q I h
 exact wpAny_Compare1 (eK ha hb I h fun v u s2 x y H2 I2 rx ry q=>ho pins s2 σ H2 x y v u Q I2 rx ry q) hm
def SJ(t:TE):TT:=fun σ H Q=>t σ H fun x H'=>∃k,x = .bl k/\Q k H'
def NY{op:CmpOp}{r:R2}(ho:OpR X (compareOp op) r)(ha:PE X a ta)(hb:PE X b tb)(hm:behindInMarks op b=false):PT X (.Compare a [op] [b] pos) (SJ (tOp r ta tb)):=by
 intro pins s σ H Q I h
 refine wpAny_isTrue_Compare1 (thn (ha pins s σ H _ I h) fun v s1 ⟨x, H1, I1, r1, q1⟩ => thn (hb pins s1 σ H1 _ I1 q1) fun u s2 ⟨y, H2, I2, r2, q2⟩ =>
  thn (ho pins s2 σ H2 x y v u _ I2 r1 r2 q2) fun c s3 ⟨z,H3,I3,r3,k,e,q3⟩=>?_) hm
 subst e
 cases r3
 exact wpAny_truthy_bool ⟨H3,I3,q3⟩
def RD(r r':R2)(ta tb tc:TE):TE:=fun σ H Q=>ta σ H fun x H1=>tb σ H1 fun y H2=>r x y H2 fun z H3=>∃k,z = .bl k /\
 (if k=true then tc σ H3 fun w' H4=>r' y w' H4 Q else Q (.bl false) H3)
def VY{op op':CmpOp}{r r':R2}(ho:OpR X (compareOp op) r)(ho':OpR X (compareOp op') r')(ha:PE X a ta)(hb:PE X b tb)(hc:PE X c tc)
  (hm:lastMarks [op,op'] [b,c]=false:=by with_unfolding_all rfl):PE X (.Compare a [op,op'] [b,c] pos) (RD r r' ta tb tc):=by
 intro pins s σ H Q I h
 refine Compare_chain (thn (ha pins s σ H _ I h) fun v s1 ⟨x, H1, I1, r1, q1⟩ => chain_link (thn (hb pins s1 σ H1 _ I1 q1) fun u s2 ⟨y, H2, I2, r2, q2⟩ =>
  thn (ho pins s2 σ H2 x y v u _ I2 r1 r2 q2) fun d s3 ⟨z,H3,I3,r3,k,e,q3⟩=>?_)) hm
 subst e
 cases r3
 refine wpAny_truthy_bool ?_
 cases k with
 |false=>exact ite_ff ⟨.bl false,H3,I3,rfl,q3⟩
 |true=>exact ite_tt (chain_last (thn (hc pins s3 σ H3 _ I3 q3) fun w' s4 ⟨z',H4,I4,r4,q4⟩=>ho' pins s4 σ H4 y z' u w' Q I4 r2 r4 q4))
def VL{op op':CmpOp}{r r':R2}(ho:OpR X (compareOp op) r)(ho':OpR X (compareOp op') r')(ha:PE X a ta)(hb:PE X b tb)(hc:PE X c tc)
  (hm:lastMarks [op,op'] [b,c]=false:=by with_unfolding_all rfl):PT X (.Compare a [op,op'] [b,c] pos) (SJ (RD r r' ta tb tc)):=by
 intro pins s σ H Q I h
 refine isTrue_chain (thn (ha pins s σ H _ I h) fun v s1 ⟨x, H1, I1, r1, q1⟩ => test_link (thn (hb pins s1 σ H1 _ I1 q1) fun u s2 ⟨y, H2, I2, r2, q2⟩ =>
  thn (ho pins s2 σ H2 x y v u _ I2 r1 r2 q2) fun d s3 ⟨z,H3,I3,r3,k,e,q3⟩=>?_)) hm
 subst e
 cases r3
 refine wpAny_truthy_bool ?_
 cases k with
 |false =>
  obtain⟨k',e',q'⟩:=q3
  cases e'
  exact ite_ff ⟨H3,I3,q'⟩
 |true =>
  refine ite_tt (test_last (thn (hc pins s3 σ H3 _ I3 q3) fun w' s4 ⟨z',H4,I4,r4,q4⟩=>thn (ho' pins s4 σ H4 y z' u w' _ I4 r2 r4 q4) fun d' s5 ⟨z2,H5,I5,r5,k2,e2,q5⟩=>?_))
  subst e2
  cases r5
  exact wpAny_truthy_bool ⟨H5,I5,q5⟩
def N4:(sizeLine:Nat)<2 ^ 63:=by rw[sizeLine_eq];decide
def RP:OpR X (binaryOp .Add) (fun x y H Q=>∃i j,x = .str i/\y = .str j/\i.length+j.length<=sizeLine/\Q (.str (i++j)) H):=by
 intro pins s σ H x y v u Q I rx ry h
 obtain⟨i,j,rfl,rfl,hz,q⟩:=h
 obtain⟨t,rfl⟩:=rx
 obtain⟨t',rfl⟩:=ry
 exact add_str (fun t' tk=>⟨.str (i++j),H,I.tok _,⟨_,rfl⟩,q⟩) hz
def Hw{x:V}{us:List Value}(r:Vals [x] us):∃u,us=[u]/\RelV x u:=by
 cases r with
 |cons r1 r2=>cases r2;exact⟨_,rfl,r1⟩
def Um{x y:V}{us:List Value}(r:Vals [x,y] us):∃u w',us=[u,w']/\RelV x u/\RelV y w':=by
 cases r with
 |cons r1 r2 =>
  cases r2 with
  |cons r3 r4=>cases r4;exact⟨_,_,rfl,r1,r3⟩
def Wi:Cp X (.builtin "abs") (fun xs H Q=>∃i,xs=[.int i]/\Q (.int (if i<0 then -i else i)) H):=by
 intro pins s σ H xs us Q I r h
 obtain⟨i,rfl,q⟩:=h
 obtain⟨u,rfl,t,rfl⟩:=Hw r
 exact call_abs_int fun u tk=>⟨.int (if i<0 then -i else i),H,I.tok _,⟨_,rfl⟩,q⟩
def UP(hc:X.calm=true):Cp X (.builtin "max") (fun xs H Q=>∃i j,xs=[.int i,.int j]/\Q (.int (if j>i then j else i)) H):=by
 intro pins s σ H xs us Q I r h
 obtain⟨i,j,rfl,q⟩:=h
 obtain⟨u,w',rfl,⟨t,rfl⟩,⟨t',rfl⟩⟩:=Um r
 refine max_two_ints (I.ok.hd hc) fun h' tk k=>⟨_,H,I.kept k,?_,q⟩
 by_cases hj:j>i
 ·rw[if_pos hj,if_pos hj];exact⟨_,rfl⟩
 ·rw[if_neg hj,if_neg hj];exact⟨_,rfl⟩
def UO(hc:X.calm=true):Cp X (.builtin "min") (fun xs H Q=>∃i j,xs=[.int i,.int j]/\Q (.int (if j<i then j else i)) H):=by
 intro pins s σ H xs us Q I r h
 obtain⟨i,j,rfl,q⟩:=h
 obtain⟨u,w',rfl,⟨t,rfl⟩,⟨t',rfl⟩⟩:=Um r
 refine min_two_ints (I.ok.hd hc) fun h' tk k=>⟨_,H,I.kept k,?_,q⟩
 by_cases hj:j<i
 ·rw[if_pos hj,if_pos hj];exact⟨_,rfl⟩
 ·rw[if_neg hj,if_neg hj];exact⟨_,rfl⟩
def UT:Cp X (.type "int") (fun xs H Q=>(∃i,xs=[.int i]/\Q (.int i) H)\/∃k,xs=[.bl k]/\Q (.int (if k then 1 else 0)) H):=by
 intro pins s σ H xs us Q I r h
 rcases h with ⟨i,rfl,q⟩|⟨k,rfl,q⟩
 ·obtain⟨u,rfl,t,rfl⟩:=Hw r
  exact call_int_int ⟨.int i,H,I,⟨_,rfl⟩,q⟩
 ·obtain⟨u,rfl,r1⟩:=Hw r
  cases r1
  exact call_int_bool ⟨.int (if k then 1 else 0),H,I.tok _,⟨_,rfl⟩,q⟩
def UY(K:PySem.W.Frag)(x:V)(H:Hp)(n:Nat):Prop :=
 match x with
 |.str y=>y.length<=sizeLine/\n=y.length
 |.byt y=>y.size<=sizeLine/\n=y.size
 |.ref p=>(∃xs,SqL K H p xs/\n=xs.length)\/∃xs,SqT K H p xs/\n=xs.length
 |_=>False
def ME:Cp X (.builtin "len") (fun xs H Q=>∃x n,xs=[x]/\UY X.K x H n/\Q (.int n) H):=by
 intro pins s σ H xs us Q I r h
 obtain⟨x,n,rfl,e,q⟩:=h
 obtain⟨u,rfl,rx⟩:=Hw r
 have hl:=N4
 have hs:sizeLine=16777216:=sizeLine_eq
 cases x with
 |str y =>
  obtain⟨t,rfl⟩:=rx
  obtain⟨hy,e'⟩:y.length<=sizeLine/\n=y.length:=e
  subst e'
  exact len_str (by omega) ⟨.int _,H,I.tok _,⟨_,rfl⟩,q⟩
 |byt y =>
  obtain⟨t,rfl⟩:=rx
  obtain⟨hy,e'⟩:y.size<=sizeLine/\n=y.size:=e
  subst e'
  exact PySem.W.len_bytes (by omega) ⟨.int _,H,I.tok _,⟨_,rfl⟩,q⟩
 |ref p =>
  cases rx
  have e':(∃xs,SqL X.K H p xs/\n=xs.length)\/∃xs,SqT X.K H p xs/\n=xs.length:=e
  rcases e' with ⟨xs,hx,e'⟩|⟨xs,hx,e'⟩
  ·subst e'
   obtain⟨its,r',pl,hz⟩:=I.list hx
   have hlen:=r'.length
   exact Calls.call_len_list pl.isList (by simp only[List.size_toArray];omega) ⟨.int xs.length,H,I.tok _,⟨_,by simp only[List.size_toArray];rw[hlen]⟩,q⟩
  ·subst e'
   obtain⟨its,r',pl,hz⟩:=I.tuple hx
   have hlen:=r'.length
   exact len_tuple pl (by simp only[List.size_toArray];omega) ⟨.int xs.length,H,I.tok _,⟨_,by simp only[List.size_toArray];rw[hlen]⟩,q⟩
 |_=>exact(show False from e).elim
end
end L2
namespace L2
open PySem PySem.Spec PyProof.Rows
structure ObjM(h:Heap)(x dx C:Addr)(mA:Str->Option Value):Prop where
 obj:h.get? x=some (PySem.W.instObj C dx)
 ns:h.Ns1 dx mA
 ne:dx≠x
def T4{h:Heap}{dx:Addr}{mA:Str->Option Value}(n:h.Ns1 dx mA):∃od,h.get? dx=some od/\∀name,PySem.W.lookIn name od=some (mA name):=by
 obtain⟨o,es,ep,ho,hd,hk,_,hm⟩:=n
 refine⟨o,ho,fun name=>?_⟩
 have e:=hm name
 unfold nsFind findBy at e
 rw[<- nA]at e
 unfold PySem.W.lookIn
 rw[hd]
 dsimp only
 split
 ·rename_i y q
  rw[q]at e
  exact congrArg some e
 ·rename_i q
  rw[q]at e
  have a:es.toList.any (·.refKey)=false:=by
   rw[List.any_eq_false]
   intro y hy
   obtain⟨z,t,hkey⟩:=hk y (lq.mp hy)
   simp[DictEntry.refKey,hkey]
  have a':¬es.toList.any (·.refKey)=true:=by rw[a];exact kr
  rw[if_neg a']
  exact congrArg some e
def ObjM.look{h:Heap}{x dx C:Addr}{mA:Str->Option Value}(I:ObjM h x dx C mA):∃od,PySem.W.InstAt h x (PySem.W.instObj C dx) C (some od)/\∀name,PySem.W.lookIn name od=some (mA name) :=
 let ⟨od,ho,hl⟩:=T4 I.ns
 ⟨od,⟨I.obj,rfl,rfl,ho⟩,hl⟩
section
variable {prog:Program} {w:World} {A:Around} {E:Value->Shared->Prop} {s:Shared} {K:PySem.W.Frag} {x dx C f:Addr} {mA:Str->Option Value} {name:Str} {v:Value}
end
section
variable {P:Program} {w:World} {H H':Hp} {h h':Heap} {a C dx:Addr} {fs fs':List (Str×V)}
def YA(hok:HOk P w H h)(e:H a=some (.ins C dx fs)):∃mA,ObjM h a dx C mA/\(∀f,eg (fs.lookup f) (mA f))/\PySem.Within mA (fs.map (·.1))/\fs.length<=1000/\H dx=some (.own a):=by
 obtain⟨d,z,ne,ob,mA,n,r,q⟩:=(show ObjOk P w H h a (.ins C dx fs) from hok a _ e)
 exact⟨mA,⟨ob,n,ne⟩,r,q,z,d⟩
end
structure Cls(K:PySem.W.Frag)(C:Addr):Prop where
 pg:PySem.W.plainGet K C Str.empty=true
 hd:PySem.W.hasDictIn K C=true
 po:PySem.W.plainOver K C=true
 sa:PySem.W.findIn K (.ref C) "__setattr__"=some (some (.builtin "object.__setattr__"))
def Cls.get{K:PySem.W.Frag}{C:Addr}(c:Cls K C)(f:Str):PySem.W.plainGet K C f=true:=c.pg
section
variable {X:Cx} {pins:List (Addr×Obj)} {σ:St} {H:Hp} {s:Shared} {a C dx:Addr} {fs:List (Str×V)} {f:Str} {v:V} {A:Around} {E:Value->Shared->Prop}
end
section
variable {X:Cx} {o e value:Expr} {f:Str} {pos pos' tpos:Pos} {ta tv:TE}
end
section
variable {X:Cx} {pins:List (Addr×Obj)} {σ:St} {H:Hp} {s:Shared} {A:Around} {E:Value->Shared->Prop} {Q:Value->Shared->Prop} {c:Value} {b:Bool}
inductive Kv (K:PySem.W.Frag) (H:Hp):V->Value->Prop where
 |non:Kv K H .non (.type "NoneType")
 |bl (x:Bool):Kv K H (.bl x) (.type "bool")
 |int (i:Int):Kv K H (.int i) (.type "int")
 |str (x:Str):Kv K H (.str x) (.type "str")
 |flt (x:UInt64):Kv K H (.flt x) (.type "float")
 |lst {a:Addr} {xs:List V} (e:H a=some (.lst xs)):Kv K H (.ref a) (.type "list")
 |frz {a:Addr} {o:Obj} {xs:List V} (e:H a=some (.frz o (.lst xs))):Kv K H (.ref a) (.type "list")
 |tup {a:Addr} {xs:List V} (e:H a=some (.tup xs)):Kv K H (.ref a) (.type "tuple")
 |dK {a:Addr} {kvs:List (Key×V)} (e:H a=some (.dK kvs)):Kv K H (.ref a) (.type "dict")
 |dT {a:Addr} {kvs:List (List Key×V)} (e:H a=some (.dT kvs)):Kv K H (.ref a) (.type "dict")
 |ins {a C dx:Addr} {fs:List (Str×V)} (e:H a=some (.ins C dx fs)) (cl:Cls K C) (ha:PySem.W.findIn K (.ref C) "__class__"=some (some (.builtin "object.__class__")))
   (hn:PySem.W.specialIn K (.builtin "object.__class__") "__get__"=some (some (.builtin "getset_descriptor.__get__"))) (htk:PySem.W.takesIn K (.builtin "object.__class__")=some true)
   (hm:PySem.W.mroIn K C (.type "object")=some true):Kv K H (.ref a) (.ref C)
def Fv{x:V}{u t:Value}(I:Inv X pins σ H s)(rx:RelV x u)(ty:Kv X.K H x t)(e:PySem.W.kitOne X.K t c=some b)(h:∀tk,Q (.bool b) { s with toks:=tk }) :
  wpAny (model X.prog X.w) A (call (.builtin "isinstance") [u,c]) Q E s:=by
 cases ty with
 |non=>cases (show u=Value.none from rx);exact lC PySem.W.kitx_none I.kIn True.intro e (fun z=>nomatch z) h
 |bl y=>cases (show u=Value.bool y from rx);exact lC PySem.W.kitx_bool I.kIn True.intro e (fun z=>nomatch z) h
 |int i=>obtain⟨t,q⟩:=(show ∃t,u=Value.int i t from rx);cases q;exact lC PySem.W.kitx_int I.kIn True.intro e (fun z=>nomatch z) h
 |str y=>obtain⟨t,q⟩:=(show ∃t,u=Value.str y t from rx);cases q;exact lC PySem.W.kitx_str I.kIn True.intro e (fun z=>nomatch z) h
 |flt y=>obtain⟨t,q⟩:=(show ∃t,u=Value.float y t from rx);cases q;exact lC PySem.W.kitx_float I.kIn True.intro e (fun z=>nomatch z) h
 |@lst a xs ea =>
  cases (show u=Value.ref a from rx)
  obtain⟨_,_,n,_,h1⟩:=(show ObjOk X.prog X.w H s.heap a (.lst xs) from I.hok a _ ea)
  exact lC PySem.W.kitx_list I.kIn ⟨_,h1,rfl⟩ e (fun z=>nomatch z) h
 |@frz a ob xs ea =>
  cases (show u=Value.ref a from rx)
  obtain⟨_,_,_,n,_,h1⟩:=(show ObjOk X.prog X.w H s.heap a (.frz ob (.lst xs)) from I.hok a _ ea)
  exact lC PySem.W.kitx_list I.kIn ⟨_,h1,rfl⟩ e (fun z=>nomatch z) h
 |@tup a xs ea =>
  cases (show u=Value.ref a from rx)
  obtain⟨_,_,_,p⟩:=(show ObjOk X.prog X.w H s.heap a (.tup xs) from I.hok a _ ea)
  obtain⟨o,h1,h2,_⟩:=p
  exact lC PySem.W.kitx_tuple I.kIn ⟨o,h1,h2⟩ e (fun z=>nomatch z) h
 |@dK a kvs ea =>
  cases (show u=Value.ref a from rx)
  obtain⟨_,_,vs,_,p⟩:=(show ObjOk X.prog X.w H s.heap a (.dK kvs) from I.hok a _ ea)
  obtain⟨o,es,ep,h1,h2,_⟩:=p
  exact lC nE I.kIn ⟨o,h1,h2.1⟩ e (fun z=>nomatch z) h
 |@dT a kvs ea =>
  cases (show u=Value.ref a from rx)
  obtain⟨_,_,xs,_,o,es,ep,h1,h2,_⟩:=(show ObjOk X.prog X.w H s.heap a (.dT kvs) from I.hok a _ ea)
  exact lC nE I.kIn ⟨o,h1,h2.1⟩ e (fun z=>nomatch z) h
 |@ins a C dx fs ea cl ha hn htk hm =>
  cases (show u=Value.ref a from rx)
  obtain⟨mA,O,_⟩:=YA I.hok ea
  obtain⟨od,J,_⟩:=O.look
  exact lC (PySem.W.kitx_own (cl.get _) cl.hd ha hn htk hm) I.kIn J e (fun z=>nomatch z) h
end
end L2
namespace L2
open PySem PySem.Spec PyProof.Rows
structure Room(k:Nat)(A:Around):Prop where
 hd:A.handled=none
 dp:A.depth+3*k+5<recursionLimit
 un:A.units+16*k+200<cLine
def Room.mono{j k:Nat}{A:Around}(r:Room k A)(h:j<=k):Room j A:=⟨r.hd,by have:=r.dp;omega,by have:=r.un;omega⟩
def Room.deeper{k:Nat}{A:Around}(r:Room (k+1) A)(env:Env):Room k (A.deeper env) :=
 ⟨r.hd,by have:=r.dp;show A.depth+1+3*k+5<_;omega,by have:=r.un;show A.units+3+16*k+200<_;omega⟩
def Room.depth{k:Nat}{A:Around}(r:Room k A):A.depth<recursionLimit:=by have:=r.dp;omega
def Room.units{k:Nat}{A:Around}(r:Room k A):A.units+64<cLine:=by have:=r.un;omega
def Em:TA:=fun _ H Q=>Q [] H
def Bs(ta:TE)(tr:TA):TA:=fun σ H Q=>ta σ H fun x H1=>tr σ H1 fun xs H2=>Q (x::xs) H2
section
variable {X:Cx} {e:Expr} {es:List Expr} {te:TE} {t:TA} {pos:Pos}
def Az:PA X [] Em:=fun _ _ _ _ H Q I h=>Calls.spliced_nil ⟨[],H,I,.nil,h⟩
def AR(ha:PE X e te)(hr:PA X es t)(hs:starEach (e::es) X.env=(false,eval e X.env)::starEach es X.env:=by rfl):PA X (e::es) (Bs te t):=by
 intro pos pins s σ H Q I h
 rw[hs]
 show wpAny _ _ (spliced ((false,eval e X.env)::backTo pos (starEach es X.env))) _ _ s
 refine nB (thn (ha pins s σ H _ I h) fun u s1 ⟨x,H1,I1,r1,q1⟩=>?_)
 exact thn (hr pos pins s1 σ H1 _ I1 q1) fun us s2 ⟨xs,H2,I2,r2,q2⟩=>⟨x::xs,H2,I2,.cons r1 r2,q2⟩
def W9(t:TA):TE:=fun σ H Q=>t σ H fun xs H1=>xs.length<=sizeLine/\∀p,H1 p=none->Q (.ref p) (upd H1 p (.tup xs))
def Uy(t:TA):TE:=fun σ H Q=>t σ H fun xs H1=>xs.length<=sizeLine/\∀p,H1 p=none->Q (.ref p) (upd H1 p (.lst xs))
def Es{x1}(h:PA X es t):PE X (.Tuple es x1 pos) (W9 t):=by
 intro pins s σ H Q I hq
 refine wpAny_Tuple_spliced (thn (h pos pins s σ H _ I hq) fun us s1 ⟨xs,H1,I1,r,z,q⟩=>⟨by rw[<- r.length];exact z,?_⟩)
 have hf:H1 s1.heap.objs.size=none:=I1.hok.fresh (X' _)
 refine⟨.ref s1.heap.objs.size,upd H1 s1.heap.objs.size (.tup xs),I1.laid (t':=s1.toks) (fun b u e=>U' _ e) (X' _) ?_,rfl,q _ hf⟩
 exact⟨z,us,r,⟨_,kb _ rfl,rfl,_,rfl⟩⟩
def IE(h:PA X es t):PE X (.List es pos) (Uy t):=by
 intro pins s σ H Q I hq
 refine wpAny_List_spliced (thn (h pos pins s σ H _ I hq) fun us s1 ⟨xs,H1,I1,r,z,q⟩=>⟨by rw[<- r.length];exact z,?_⟩)
 have hf:H1 s1.heap.objs.size=none:=I1.hok.fresh (X' _)
 refine⟨.ref s1.heap.objs.size,upd H1 s1.heap.objs.size (.lst xs),I1.laid (t':=s1.toks) (fun b u e=>U' _ e) (X' _) ?_,rfl,q _ hf⟩
 exact⟨z,us,0,r,kb _ rfl⟩
end
abbrev Sp:=List V->Hp->VK->XK->Prop
abbrev CXT:=List Env->Hp->Shared->XK->Value->Shared->Prop
structure Wx(P:Program)(w:World)(K:PySem.W.Frag)(mg:Str->Option Value)(base:Heap)(A:Around)(outer:List Env)(s:Shared)(H:Hp):Prop where
 frames:A.frames=some outer
 mod:Mod K mg base
 bs:∀b o,base.get? b=some o->s.heap.get? b=some o/\H b=none
 bsz:base.objs.size<=s.heap.objs.size
 funs:s.heap.FunFrames base outer
 frf:∀b∈frs outer,H b=none
 hok:HOk P w H s.heap
 bare:AllBare s.gens
def CE(outer:List Env)(P:Program)(w:World)(H:Hp)(s:Shared)(Q:VK)(u:Value)(s':Shared):Prop :=
 ∃v H',s'.os=s.os/\AllBare s'.gens/\Un (frs outer) [] H H' s.heap s'.heap/\HOk P w H' s'.heap/\RelV v u/\Q v H'
def CR(CX:CXT)(outer:List Env)(P:Program)(w:World)(H:Hp)(s:Shared)(Q:VK)(E:XK)(r:Result)(s':Shared):Prop :=
 match r with
 |.ok (.ret u)=>CE outer P w H s Q u s'
 |.ok _=>False
 |.error e=>CX outer H s E e s'
structure FnOk(P:Program)(w:World)(K:PySem.W.Frag)(mg:Str->Option Value)(base:Heap)(CX:CXT)(k:Nat)(f:Addr)(fd:FuncData)(ps:List Str)(sp:Sp):Prop where
 len:∀vs H Q E,sp vs H Q E->vs.length=ps.length
 run:∀(A:Around) (outer:List Env) (s:Shared) (H:Hp) (args:Args) (us:List Value) (vs:List V) (Q:VK) (E:XK),Room k A->Wx P w K mg base A outer s H->BindsTo s fd args (ps.zip us)->Vals vs us->sp vs H Q E ->
  codeAny (model P w) A (.call (.ref f) args) (CR CX outer P w H s Q E) s
def FnOk.mono{P:Program}{w:World}{K:PySem.W.Frag}{mg:Str->Option Value}{base:Heap}{CX:CXT}{j k:Nat}{f:Addr}{fd:FuncData}{ps:List Str}{sp:Sp}(F:FnOk P w K mg base CX j f fd ps sp)(h:j<=k) :
  FnOk P w K mg base CX k f fd ps sp:=⟨F.len,fun A outer s H args us vs Q E hr=>F.run A outer s H args us vs Q E (hr.mono h)⟩
section
variable {X:Cx} {pins:List (Addr×Obj)} {σ:St} {H:Hp} {s s':Shared}
def Inv.env0(I:Inv X pins σ H s):Wx X.prog X.w X.K X.mg X.base X.A X.stack s H :=
 ⟨I.ok.frames,I.ok.mod,I.bs,lA I.ok.bsz I.sz,I.stack,I.stkFree,I.hok,I.bare⟩
def Inv.after{Q:VK}{u:Value}(I:Inv X pins σ H s)(h:CE X.stack X.prog X.w H s Q u s'):EP X pins σ Q u s':=by
 obtain⟨v,H',os,bare,un,hok,r,q⟩:=h
 obtain⟨hh,g,d,t,os'⟩:=s'
 obtain rfl:os'=s.os:=os
 exact⟨v,H',I.call (h':=hh) (g':=g) (d':=d) (t':=t) (ch:=[]) un hok bare (fun b z=>absurd z (by simp)),r,q⟩
end
def En(sp:Sp)(dvs:List V)(E:XK)(t:TA):TE:=fun σ H Q=>t σ H fun vs H1=>sp (vs++dvs) H1 Q E
def Binds(K:PySem.W.Frag)(fd:FuncData)(ps:List Str)(ds:List Value):Prop :=
 ∀(s:Shared) (us:List Value),K.In s.heap->(us++ds).length=ps.length->BindsTo s fd ⟨us,[]⟩ (ps.zip (us++ds))
def Binds.all{K:PySem.W.Frag}{fd:FuncData}{ps:List Str}(h:∀us:List Value,us.length=ps.length->bindArgs fd ⟨us,[]⟩=pure (ps.zip us)):Binds K fd ps []:=fun s us _ hl=>by
 rw[ku]at hl ⊢
 exact .of_eq (h us hl)
def Jt(CX:CXT)(X:Cx)(E:XK):Prop:=∀(pins:List (Addr×Obj)) (σ:St) (H:Hp) (s:Shared) (e:Value) (s':Shared),Inv X pins σ H s->CX X.stack H s E e s'->X.xe e s'
section
variable {X:Cx} {CX:CXT} {k:Nat} {f C:Addr} {fd:FuncData} {ps:List Str} {sp:Sp} {dvs:List V} {ds:List Value} {E:XK} {x m:Str} {p pos apos:Pos} {e o:Expr} {es:List Expr} {ta:TE} {t:TA}
def RH{pins:List (Addr×Obj)}{σ:St}{H:Hp}{s:Shared}{Q:VK}{us:List Value}{vs:List V}(F:FnOk X.prog X.w X.K X.mg X.base CX k f fd ps sp)(hr:Room k X.A)(hb:Binds X.K fd ps ds)(hd:Vals dvs ds)(hx:Jt CX X E)
  (I:Inv X pins σ H s) (r:Vals vs us) (h:sp (vs++dvs) H Q E):wpAny (model X.prog X.w) X.A (call (.ref f) us) (EP X pins σ Q) X.xe s:=by
 have r2:Vals (vs++dvs) (us++ds):=r.append hd
 have hl:(us++ds).length=ps.length:=by rw[<- r2.length];exact F.len _ _ _ _ h
 refine wpAny_call (codeAny_mono (F.run X.A X.stack s H ⟨us,[]⟩ (us++ds) (vs++dvs) Q E hr I.env0 (hb s us I.kIn hl) r2 h) fun r s' hq=>?_)
 cases r with
 |error e=>exact hx pins σ H s e s' I hq
 |ok fl =>
  cases fl with
  |ret u=>exact I.after hq
  |next=>exact False.elim hq
  |brk=>exact False.elim hq
  |cont=>exact False.elim hq
def Sg(F:FnOk X.prog X.w X.K X.mg X.base CX k f fd ps sp)(hr:Room k X.A)(hg:Gl X x)(hm:X.mg x=some (.ref f))(hk:PySem.W.keepIn X.K (.ref f)=true)(hb:Binds X.K fd ps ds)(hd:Vals dvs ds)(hx:Jt CX X E)
  (ha:PA X (e::es) t) (hdb:(x==("__debug__":Str))=false:=by decide) (he:starEach (e::es) X.env=(false,eval e X.env)::starEach es X.env:=by rfl) (hpl:(backTo pos (starEach es X.env)).any (·.1)=false:=by rfl) :
  PE X (.Call (.Name x p) (e::es) [] pos) (En sp dvs E t):=by
 intro pins s σ H Q I h
 refine wpAny_Call_Name_kw (GG I hg hm ?_ hdb)
 refine mM (h₀:=X.base) I.ok.mod.kin hk (thn (ha pos pins s σ H _ I h) fun us s1 ⟨vs,H1,I1,r,q⟩=>⟨I1.kIn,?_⟩) he hpl
 exact RH F hr hb hd hx I1 r q
def Vc(F:FnOk X.prog X.w X.K X.mg X.base CX k f fd ps sp)(hr:Room k X.A)(hg:Gl X x)(hm:X.mg x=some (.ref f))(hk:PySem.W.keepIn X.K (.ref f)=true)(hb:Binds X.K fd ps ds)(hd:Vals dvs ds)(hx:Jt CX X E)
  (hdb:(x==("__debug__":Str))=false:=by decide):PE X (.Call (.Name x p) [] [] pos) (En sp dvs E Em):=by
 intro pins s σ H Q I h
 refine wpAny_Call_Name_kw (GG I hg hm ?_ hdb)
 exact PySem.W.callWith_K0 I.kIn hk (RH (us:=[]) F hr hb hd hx I .nil h)
end
section
variable {X:Cx} {CX:CXT} {k:Nat} {f C:Addr} {fd:FuncData} {ps ks:List Str} {sp:Sp} {E:XK} {x m:Str} {p pos apos kpos:Pos} {e o:Expr} {es:List Expr} {kws:List Keyword} {te ta:TE} {t tk:TA} {nm:Option Str}
variable {g:List Value->List Value->List Value} {gV:List V->List V->List V}
end
structure Ee(N P:List Str)(sc:Scope):Prop where
 kind:sc.kind = .function
 co:sc.isCoroutine=false
 gen:sc.isGenerator=false
 nd:N.Nodup
 pre:N.take P.length=P
 par:∀x∈P,sc.names.lookup x=some .local\/sc.names.lookup x=some .cell
 nofree:∀y∈sc.names,y.2≠.free
def NI{kindOf:Str->Option NameKind}{x:Str}:∀{binds:List (Str×Value)} {m:Str->Option Value},(∀v,(x,v)∉binds)->bindL kindOf binds m x=m x
 |[],_,_=>rfl
 |(n,v)::r,m,h=>by
  unfold bindL
  rw[NI fun w hw=>h w (V' _ hw)]
  split
  ·have:x≠n:=by rintro rfl;exact h v L'
   simp[this]
  ·rfl
def NK{kindOf:Str->Option NameKind}{x:Str}:∀{binds:List (Str×Value)} {m:Str->Option Value},(∀v,(x,v)∉binds)->bindC kindOf binds m x=m x
 |[],_,_=>rfl
 |(n,v)::r,m,h=>by
  unfold bindC
  rw[NK fun w hw=>h w (V' _ hw)]
  split
  ·rfl
  ·have:x≠n:=by rintro rfl;exact h v L'
   simp[this]
def NJ{kindOf:Str->Option NameKind}{x:Str}{v:Value}:∀{P:List Str} {vs:List Value} {i:Nat} {m:Str->Option Value},P.Nodup->P[i]?=some x->vs[i]?=some v->kindOf x=some .local ->
  bindL kindOf (P.zip vs) m x=some v
 |[],_,_,_,_,h,_,_=>by simp at h
 |_::_,[],_,_,_,_,h,_=>by simp at h
 |p::P,w::vs,0,m,nd,h1,h2,hk=>by
  simp at h1 h2;subst h1;subst h2
  show bindL kindOf ((p,w)::P.zip vs) m p=_
  unfold bindL
  rw[NI fun v hv=>(lg.mp nd).1 (mh hv).1,if_pos hk]
  simp
 |p::P,w::vs,i+1,m,nd,h1,h2,hk=>by
  show bindL kindOf ((p,w)::P.zip vs) m x=_
  unfold bindL
  exact NJ (i:=i) (lg.mp nd).2 (by simpa using h1) (by simpa using h2) hk
def NL{kindOf:Str->Option NameKind}{x:Str}{v:Value}:∀{P:List Str} {vs:List Value} {i:Nat} {m:Str->Option Value},P.Nodup->P[i]?=some x->vs[i]?=some v->kindOf x≠some .local ->
  bindC kindOf (P.zip vs) m x=some v
 |[],_,_,_,_,h,_,_=>by simp at h
 |_::_,[],_,_,_,_,h,_=>by simp at h
 |p::P,w::vs,0,m,nd,h1,h2,hk=>by
  simp at h1 h2;subst h1;subst h2
  show bindC kindOf ((p,w)::P.zip vs) m p=_
  unfold bindC
  rw[NK fun v hv=>(lg.mp nd).1 (mh hv).1,if_neg hk]
  simp
 |p::P,w::vs,i+1,m,nd,h1,h2,hk=>by
  show bindC kindOf ((p,w)::P.zip vs) m x=_
  unfold bindC
  exact NL (i:=i) (lg.mp nd).2 (by simpa using h1) (by simpa using h2) hk
def start(N:List Str)(vs:List V):St:=vs.map some++List.replicate (N.length-vs.length) none
def JP(CX:CXT)(P:Program)(w:World)(K:PySem.W.Frag)(mg:Str->Option Value)(base:Heap)(N:List Str)(qual:Str)(scope:Scope)(f:Addr)(cd:Value)(A:Around)(outer:List Env)(s:Shared)(H:Hp)(E:XK):Cx where
 prog:=P
 w:=w
 K:=K
 mg:=mg
 base:=base
 A:=A.deeper (envOfC qual scope s.heap.objs.size f cd)
 N:=N
 s₀:=s
 H₀:=H
 env:=envOfC qual scope s.heap.objs.size f cd
 outer:=outer
 stack:=envOfC qual scope s.heap.objs.size f cd::outer
 ex:=[]
 calm:=true
 fn:=fun _=>true
 pn:=[]
 xe:=fun e s'=>wpAny (model P w) (A.deeper (envOfC qual scope s.heap.objs.size f cd)) (leaving (envOfC qual scope s.heap.objs.size f cd) e) (fun _ s''=>CX outer H s E e s'') (fun e' s''=>CX outer H s E e' s'') s'
def Pz{sc:Scope}{n:Nat}{x:Str}(h:sc.names.lookup x=some .cell):∃c,(cellsFrom n sc.names []).lookup x=some c:=by
 have q:=mT sc.names n [] (.inl h)
 exact Option.isSome_iff_exists.mp q
def M7{CX:CXT}{P:Program}{w:World}{K:PySem.W.Frag}{mg:Str->Option Value}{base:Heap}{N ps:List Str}{qual:Str}{scope:Scope}{f:Addr}{cd:Value}{A:Around}{outer:List Env}{s s1:Shared}{H:Hp}{E:XK}{us:List Value}{vs:List V}
  (S:Ee N ps scope) (hd:A.handled=none) (e0:Wx P w K mg base A outer s H) (hl:vs.length=ps.length) (r:Vals vs us)
  (x:InCallC s s.heap.objs.size (bindL (envOfC qual scope s.heap.objs.size f cd).kindOf (ps.zip us) fun _=>none) (cellsFrom (s.heap.objs.size+1) scope.names []) (bindC (envOfC qual scope s.heap.objs.size f cd).kindOf (ps.zip us) fun _=>none) s1) :
  Inv (JP CX P w K mg base N qual scope f cd A outer s H E) [] (start N vs) H s1:=by
 have hpl:ps.length<=N.length:=by have:=congrArg List.length S.pre;rw[mE]at this;omega
 obtain⟨h1,tk,rfl,hk⟩:=x.done
 have noA:∀b:Addr,b∉(JP CX P w K mg base N qual scope f cd A outer s H E).ex:=fun b z=>absurd (show b∈([]:List Addr) from z) (by simp)
 refine ⟨⟨e0.mod, S.kind, rfl, rfl, X' _, fun y z c h1 h2 => ?_, fun y hy => ?_, fun y c _ h => ?_, fun _ => hd, Around.frames_deeper e0.frames, .inr ⟨rfl, rfl⟩, fun b z => absurd z (noA b), e0.bs, e0.bsz, fun b _ _ => noA b, fun b z => absurd z (noA b), e0.funs, e0.frf⟩,
  rfl,e0.bare,Un.kept hk,⟨_,x.toInCall.ns,fun i y v h1 h2 h3=>?_⟩,fun y c h=>⟨_,x.cell y c h⟩,e0.hok.fresh (X' _),fun y c h=>?_,fun p hp=>absurd (show p∈([]:List (Addr×Obj)) from hp) (by simp),e0.hok.kept hk,?_⟩
 ·exact name_of_addr x.apart (lQ h1) (lQ h2)
 ·have hy:scope.names.lookup y=some .cell\/scope.names.lookup y=some .free:=hy
  rcases hy with hy|hy
  ·exact Pz hy
  ·exact absurd rfl (S.nofree _ (lQ hy))
 ·exact mr (x.above y c (lQ h))
 ·have hi:i<vs.length:=by
   unfold start at h2
   by_cases hi:i<vs.length
   ·exact hi
   ·rw[kx (by simpa using hi)]at h2
    rw[lG]at h2
    split at h2<;>cases h2
  have ha:vs[i]?=some v:=by
   unfold start at h2
   rw[ke (by simpa using hi),O']at h2
   cases e:vs[i]? with
   |none=>rw[e]at h2;cases h2
   |some a=>rw[e]at h2;cases h2;rfl
  obtain⟨u,hu,rv⟩:=r.get ha
  have hp:ps[i]?=some y:=by
   rw[<- S.pre,List.getElem?_take_of_lt (by omega)];exact h1
  have ndP:ps.Nodup:=by rw[<- S.pre];exact S.nd.sublist (List.take_sublist _ _)
  refine⟨u,rv,?_⟩
  rcases S.par y (ka hp)with k|k
  ·exact .inl ⟨k,NJ ndP hp hu k⟩
  ·obtain⟨c,e⟩:=Pz (n:=s.heap.objs.size+1) k
   refine .inr ⟨.inl k,c,e,?_⟩
   have q:=x.cell y c e
   rw[NL ndP hp hu (by show scope.names.lookup y≠_;rw[k];decide)]at q
   exact q
 ·exact e0.hok.fresh (mr (x.above y c (lQ h)))
 ·unfold start
  show _=N.length
  rw[T',B',lT]
  omega
def Zg{CX:CXT}{P:Program}{w:World}{K:PySem.W.Frag}{mg:Str->Option Value}{base:Heap}{k:Nat}{f:Addr}{name qual:Str}{params:Arguments}{body:List Stmt}{scope:Scope}{dV kV doc pm cdv ct oc:Value}{an od:Option Addr}
  {osl:Array (Option Value)} {N ps:List Str} {sp:Sp} (lk:K.lookup f=some ⟨oc,od,.func (PySem.W.fnOf name qual params body scope dV kV doc pm an cdv ct),osl⟩) (hcd:PySem.W.codeIn K cdv qual=true) (S:Ee N ps scope)
  (len:∀vs H Q E,sp vs H Q E->vs.length=ps.length)
  (hbody : ∀ (A : Around) (outer : List Env) (s : Shared) (H : Hp) (vs : List V) (Q : VK) (E : XK), Room k (A.deeper (envOfC qual scope s.heap.objs.size f cdv)) -> sp vs H Q E ->
   ∃t,PSs (JP CX P w K mg base N qual scope f cdv A outer s H E) body t/\t { nx:=fun _ H'=>Q .non H',rt:=Q } (start N vs) H) :
  FnOk P w K mg base CX (k+1) f (PySem.W.fnOf name qual params body scope dV kV doc pm an cdv ct) ps sp:=by
 refine⟨len,fun A outer s H args us vs Q E hr e0 hb r hsp=>?_⟩
 have hl:=len _ _ _ _ hsp
 have KX:K.In s.heap:=e0.mod.kin.keeps fun b o e=>(e0.bs b o e).1
 have lim:s.heap.NoLimit:=e0.mod.nolimit.keeps fun b o e=>(e0.bs b o e).1
 have hkind:∀y∈ps.zip us,scope.names.lookup y.1=some .local\/(scope.names.lookup y.1=some .cell/\((cellsFrom (s.heap.objs.size+1) scope.names []).lookup y.1).isSome=true):=fun⟨n,v⟩ hy=>by
  rcases S.par n (mh hy).1 with q|q
  ·exact .inl q
  ·exact .inr ⟨q,mT _ _ _ (.inl q)⟩
 refine codeAny_call_function hr.depth (KX _ _ lk) rfl S.co S.gen rfl (PySem.W.codeRec_of KX hcd) (hb _ _ _ _ ?_)
 refine wpAny_newFunctionEnv_cells S.kind hkind fun env he s1 x=>?_
 subst he
 refine⟨lim.keeps x.toInCall.keep,codeAny_func ?_⟩
 obtain⟨t,ht,hq⟩:=hbody A outer s H vs Q E (hr.deeper _) hsp
 have I:Inv (JP CX P w K mg base N qual scope f cdv A outer s H E) [] (start N vs) H s1:=M7 S hr.hd e0 hl r x
 refine wpAny_mono (ht [] s1 (start N vs) H _ I hq) (fun fl s' hs=>?_) fun e s' hs=>hs
 have fin:∀{σ':St} {H':Hp} {v:V} {u:Value},Inv (JP CX P w K mg base N qual scope f cdv A outer s H E) [] σ' H' s'->RelV v u->Q v H'->CE outer P w H s Q u s' :=
  fun {σ' H' v u} J rv q=>⟨v,H',J.os,J.bare,J.base,J.hok,rv,q⟩
 cases fl with
 |ret u =>
  obtain⟨v,σ',H',J,rv,q⟩:=hs
  exact fin J rv q
 |next =>
  obtain⟨σ',H',J,q⟩:=hs
  exact fin (v:=V.non) (u:=Value.none) J rfl q
 |brk =>
  obtain⟨_,_,_,q⟩:=hs
  exact False.elim q
 |cont =>
  obtain⟨_,_,_,q⟩:=hs
  exact False.elim q
end L2
namespace L2
open PySem PySem.Spec PyProof.Rows
section
variable {X:Cx} {x:Str} {p pos:Pos} {e:Expr} {es:List Expr} {t:TA} {id T:String} {r:List V->Hp->VK->Prop}
def tCB(r:List V->Hp->VK->Prop)(t:TA):TE:=fun σ H Q=>t σ H fun vs H1=>r vs H1 Q
def Bu(hc:Cp X (.builtin id) r)(hg:Gl X x)(hm:X.mg x=none)(hv:bootBuiltins x=some (.builtin id))(ha:PA X (e::es) t)(hn:x≠"__name__":=by decide)(hdb:(x==("__debug__":Str))=false:=by decide)
  (he:starEach (e::es) X.env=(false,eval e X.env)::starEach es X.env:=by rfl) (hpl:(backTo pos (starEach es X.env)).any (·.1)=false:=by rfl):PE X (.Call (.Name x p) (e::es) [] pos) (tCB r t):=by
 intro pins s σ H Q I h
 refine wpAny_Call_Name_kw (Lo I hg hm hv ?_ hn hdb)
 exact PyProof.Rows.callWith_builtin1 (thn (ha pos pins s σ H _ I h) fun us s1 ⟨vs,H1,I1,r1,q1⟩=>hc pins s1 σ H1 vs us Q I1 r1 q1) he hpl
def Ti(hc:Cp X (.type T) r)(hg:Gl X x)(hm:X.mg x=none)(hv:bootBuiltins x=some (.type T))(ha:PA X (e::es) t)(hn:x≠"__name__":=by decide)(hdb:(x==("__debug__":Str))=false:=by decide)
  (he:starEach (e::es) X.env=(false,eval e X.env)::starEach es X.env:=by rfl) (hpl:(backTo pos (starEach es X.env)).any (·.1)=false:=by rfl):PE X (.Call (.Name x p) (e::es) [] pos) (tCB r t):=by
 intro pins s σ H Q I h
 refine wpAny_Call_Name_kw (Lo I hg hm hv ?_ hn hdb)
 exact mI (thn (ha pos pins s σ H _ I h) fun us s1 ⟨vs,H1,I1,r1,q1⟩=>hc pins s1 σ H1 vs us Q I1 r1 q1) he hpl
end
end L2
namespace HT
open PySem PyProof.Rows
section
open PySem.SeqAt
open PySem.AutoSeq1 (wpAny_loadPart')
open PySem.MeetsSeq PySem.MeetsSeq2 PySem.MeetsSeq3
end
section
variable {prog:Program} {w:World} {A:Around} {E:Value->Shared->Prop} {s:Shared}
def cat_tup{t b:Addr}{vs ws:List Value}{Q:Value->Shared->Prop}(ht:IsTup s.heap t vs.toArray)(hb:IsTup s.heap b ws.toArray)(hv:vs≠[])
  (h1:ws=[]->Q (.ref t) s) (h2:ws≠[]->Q (.ref s.heap.objs.size) { s with heap:=s.heap.push { cls:=.type "tuple",data:=.seq (vs++ws).toArray } })
  (hsz:vs.length+ws.length<=sizeLine):wpAny (model prog w) A (binaryOp .Add (.ref t) (.ref b)) Q E s:=by
 obtain⟨⟨cls,dd,data,sl⟩,ho,hc,n,hd⟩:=id ht
 obtain⟨⟨cls2,dd2,data2,sl2⟩,ho2,hc2,n2,hd2⟩:=id hb
 simp only at hc hd hc2 hd2
 subst hc hd hc2 hd2
 have e:vs.toArray++ws.toArray=(vs++ws).toArray:=by simp
 by_cases hw:ws=[]
 ·exact concat_meets ⟨_,ho,rfl⟩ ⟨_,ho2,rfl⟩ noFill_tuple_add seq_tuple_add PySem.F.slot_tuple_add PySem.F.entry_tuple_add (PySem.F.args_tuple_add_2 _ _)
   (tuple_addW1 t b vs.toArray ws.toArray n n2 dd dd2 sl sl2 (by simpa using hv) (by simp[hw])) ⟨ho,ho2,h1 hw⟩
 ·refine concat_meets ⟨_,ho,rfl⟩ ⟨_,ho2,rfl⟩ noFill_tuple_add seq_tuple_add PySem.F.slot_tuple_add PySem.F.entry_tuple_add (PySem.F.args_tuple_add_2 _ _)
   (tuple_addW2 t b vs.toArray ws.toArray n n2 dd dd2 sl sl2 (by simpa using hv) (by simpa using hw) (by rw[k7,k7];exact hsz)) ⟨ho,ho2,?_⟩
  rw[e]
  exact h2 hw
def sIx(n d:Nat):Option Int->Nat
 |none=>d
 |some v=>if v<0 then (v+(n:Int)).toNat else min v.toNat n
def aD(n d:Nat)(hd:d<=n)(o:Option Int):sIx n d o<=n:=by
 cases o with
 |none=>exact hd
 |some v =>
  show(if v<0 then (v+(n:Int)).toNat else min v.toNat n)<=n
  by_cases hv:v<0
  ·rw[if_pos hv];omega
  ·rw[if_neg hv];exact Nat.min_le_right _ _
def TH(v:Int)(n d:Nat):(if v<0 then max (v+(n:Int)) 0 else min v (n:Int))=((sIx n d (some v):Nat):Int):=by
 show(if v<0 then max (v+(n:Int)) 0 else min v (n:Int))=(((if v<0 then (v+(n:Int)).toNat else min v.toNat n):Nat):Int)
 by_cases hv:v<0
 ·simp only[if_pos hv];omega
 ·simp only[if_neg hv];omega
def R4(lo hi:Option Int)(n:Nat):Builtin.Slice.sliceAdjust lo hi 1 (n:Int)=(((sIx n 0 lo:Nat):Int),((sIx n n hi:Nat):Int)):=by
 have h1:¬((1:Int)<0):=by omega
 unfold Builtin.Slice.sliceAdjust
 simp only[h1,if_false]
 refine Prod.ext ?_ ?_
 ·cases lo with
  |none=>rfl
  |some v=>exact TH v n 0
 ·cases hi with
  |none=>rfl
  |some v=>exact TH v n n
def RO(i j:Nat):Builtin.Slice.slicePlaces (i:Int) (j:Int) 1=j-i:=by
 unfold Builtin.Slice.slicePlaces
 have h1:(1:Int)>0:=by omega
 simp only[h1,if_true,Int.ediv_one]
 split<;>omega
def LH{v:Value}{o:Option Int}{Q:Option Int->Shared->Prop}(p:IsPart v o)(h:Q o s):wpAny (model prog w) A (Builtin.Slice.slicePartIndex v) Q E s:=by
 cases p with
 |none=>exact slicePart_none h
 |int i t=>exact slicePart_int h
def JW{sl:Addr}{vl vu:Value}{lo hi:Option Int}{n:Nat}{Q:Int×Int×Nat->Shared->Prop}(hs:s.heap.IsSliceOf sl vl vu .none)(pl:IsPart vl lo)(pu:IsPart vu hi)
  (h:Q (((sIx n 0 lo:Nat):Int),1,sIx n n hi-sIx n 0 lo) s):wpAny (model prog w) A (Builtin.Slice.sliceApplied (.ref sl) (pure (n:Int))) Q E s:=by
 obtain⟨os,hos,hcs,hds⟩:=id hs
 unfold Builtin.Slice.sliceApplied Builtin.Slice.sliceFields
 refine wpAny_bind (wpAny_bind (wpAny_field hos hds (x:=vl) rfl (wpAny_bind (wpAny_field hos hds (x:=vu) rfl (wpAny_bind (wpAny_field hos hds (x:=.none) rfl (wpAny_pure ?_)))))))
 refine wpAny_bind (slicePart_none ?_)
 show wpAny _ _ (if ((1:Int)==0)=true then _ else _) _ _ s
 rw[if_neg (by decide)]
 refine wpAny_bind (LH pl (wpAny_bind (LH pu (wpAny_bind (wpAny_pure ?_)))))
 show wpAny _ _ (match Builtin.Slice.sliceAdjust lo hi 1 (n:Int) with|(lo,hi)=>pure (lo,(1:Int),Builtin.Slice.slicePlaces lo hi 1)) _ _ s
 rw[R4 lo hi n]
 show wpAny _ _ (pure (((sIx n 0 lo:Nat):Int),(1:Int),Builtin.Slice.slicePlaces ((sIx n 0 lo:Nat):Int) ((sIx n n hi:Nat):Int) 1)) _ _ s
 rw[RO]
 exact wpAny_pure h
def VU(xs:Array Value)(i k:Nat):((List.range k).filterMap fun(m:Nat)=>xs[((i:Int)+(m:Int)*1).toNat]?).toArray=((xs.toList.drop i).take k).toArray:=by
 have e:(fun(m:Nat)=>xs[((i:Int)+(m:Int)*1).toNat]?)=fun m=>xs[i+m]?:=by
  funext m
  have:((i:Int)+(m:Int)*1).toNat=i+m:=by omega
  rw[this]
 rw[e]
 have:=pick_run xs i k
 rw[List.filterMap_map]at this
 have e2:((fun x=>xs[x]?)∘fun x=>i+x)=fun m=>xs[i+m]?:=rfl
 rw[e2]at this
 rw[this]
def getItem_tuple_cut{t sl:Addr}{items:Array Value}{vl vu:Value}{lo hi:Option Int}{Q:Value->Shared->Prop}(ht:IsTup s.heap t items)(hs:s.heap.IsSliceOf sl vl vu .none)(pl:IsPart vl lo)(pu:IsPart vu hi)
  (hw:¬(sIx items.size 0 lo=0/\sIx items.size items.size hi=items.size))
  (h:Q (.ref s.heap.objs.size) { s with heap:=s.heap.push { cls:=.type "tuple",data:=.seq ((items.toList.drop (sIx items.size 0 lo)).take (sIx items.size items.size hi-sIx items.size 0 lo)).toArray } })
  (hsz:items.size<=sizeLine):wpAny (model prog w) A (getItem (.ref t) (.ref sl)) Q E s:=by
 have htake:sizeOk (.seq ((items.toList.drop (sIx items.size 0 lo)).take (sIx items.size items.size hi-sIx items.size 0 lo)).toArray):=by
  show((items.toList.drop (sIx items.size 0 lo)).take (sIx items.size items.size hi-sIx items.size 0 lo)).toArray.size<=sizeLine
  rw[k7,mE,mF,Array.length_toList]
  omega
 have hj:sIx items.size items.size hi<=items.size:=aD _ _ (X' _) hi
 obtain⟨os,hos,hcs,hds⟩:=id hs
 have hTs:s.TypeIs (.ref sl) "slice":=⟨os,hos,hcs⟩
 unfold getItem
 try with_reducible refine wpAny_holding ?_
 first|refine wpAny_bind (wpAny_pure ?_)|skip
 refine wpAny_bind (wpAny_sequenceKey ht.typeIs (by decide) ?_)
 refine wpAny_bind (wpAny_callSpecial?_slot (name := Str.ofString "__getitem__") ht.typeIs mW
  (wpAny_call_entry mW ht.typeIs entry_tuple_getitem ?_ (args_tuple_getitem _ _)))
 show wpAny _ _ (Builtin.Tuple.tupleItemsOf (.ref t) >>= _) _ _ s
 refine wpAny_bind (tupleItemsOf_ ht ?_)
 refine wpAny_bind (wpAny_typeOf hTs ?_)
 rw[if_pos (by decide)]
 refine wpAny_bind (JW hs pl pu ?_)
 have hno:¬((((sIx items.size 0 lo:Nat):Int)==0&&(1:Int)==1&&(sIx items.size items.size hi-sIx items.size 0 lo)==items.size)=true):=by
  intro q
  rw[Y',Y']at q
  have q1:((sIx items.size 0 lo:Nat):Int)=0:=eq_of_beq q.1.1
  have q2:sIx items.size items.size hi-sIx items.size 0 lo=items.size:=eq_of_beq q.2
  exact hw ⟨by omega,by omega⟩
 show wpAny _ _ (if (((sIx items.size 0 lo:Nat):Int)==0&&(1:Int)==1&&(sIx items.size items.size hi-sIx items.size 0 lo)==items.size)=true then _ else _) _ _ s
 rw[if_neg hno,VU]
 first
  |exact wpAny_bind (m:=Builtin.Tuple.tupleExact _) (wpAny_newObj_type (wpAny_pure ⟨_,rfl,wpAny_pure h⟩) htake)
  |exact wpAny_bind (m:=Builtin.Tuple.tupleExact _) (wpAny_newObj_type (wpAny_bind (wpAny_pure (wpAny_pure ⟨_,rfl,wpAny_pure h⟩))) htake)
  |exact wpAny_bind (wpAny_bind (m:=Builtin.Tuple.tupleExact _) (wpAny_newObj_type (wpAny_pure (wpAny_pure ⟨_,rfl,wpAny_pure h⟩)) htake))
  |exact wpAny_bind (wpAny_bind (m:=Builtin.Tuple.tupleExact _) (wpAny_newObj_type (wpAny_pure ⟨_,rfl,wpAny_pure h⟩) htake))
end
end HT
namespace L2
open PySem PySem.Spec PyProof.Rows
abbrev TO:=St->Hp->(Option Int->Hp->Prop)->Prop
def PO(X:Cx)(e:Option Expr)(t:TO):Prop :=
 ∀(pins:List (Addr×Obj)) (s:Shared) (σ:St) (H:Hp) (Q:Option Int->Hp->Prop),Inv X pins σ H s->t σ H Q ->
  wpAny (model X.prog X.w) X.A (evalPart e X.env) (fun u s'=>∃o H',Inv X pins σ H' s'/\IsPart u o/\Q o H') X.xe s
def SK:TO:=fun _ H Q=>Q none H
def ZL(t:TE):TO:=fun σ H Q=>t σ H fun x H1=>∃i,x = .int i/\Q (some i) H1
section
variable {X:Cx} {e:Expr} {te:TE} {lo hi:Option Expr} {tl th:TO} {pos p2:Pos}
def XY:PO X none SK:=by
 intro pins s σ H Q I h
 rw[evalPart_none]
 exact wpAny_pure ⟨none,H,I,.none,h⟩
def XX(h:PE X e te):PO X (some e) (ZL te):=by
 intro pins s σ H Q I hw
 rw[evalPart_some]
 refine thn (h pins s σ H _ I hw) fun u s1 ⟨x,H1,I1,r1,q1⟩=>?_
 obtain⟨i,rfl,q⟩:=q1
 obtain⟨t,rfl⟩:=r1
 exact⟨some i,H1,I1,.int i t,q⟩
def SlR(X:Cx)(r:V->Option Int->Option Int->Hp->VK->Prop):Prop :=
 ∀(pins:List (Addr×Obj)) (s:Shared) (σ:St) (H:Hp) (x:V) (v vl vu:Value) (lo hi:Option Int) (sl:Addr) (Q:VK),Inv X pins σ H s->RelV x v->s.heap.IsSliceOf sl vl vu .none->IsPart vl lo->IsPart vu hi->r x lo hi H Q ->
  ∃T id,typeLookup (.type T) "__getitem__"=pure (some (.builtin id))/\s.TypeIs v T/\wpAny (model X.prog X.w) X.A (getItem v (.ref sl)) (EP X pins σ Q) X.xe s
def tSl(r:V->Option Int->Option Int->Hp->VK->Prop)(te:TE)(tl th:TO):TE:=fun σ H Q=>te σ H fun x H1=>tl σ H1 fun l H2=>th σ H2 fun u H3=>r x l u H3 Q
def Ot{r:V->Option Int->Option Int->Hp->VK->Prop}(hr:SlR X r)(he:PE X e te)(hl:PO X lo tl)(hu:PO X hi th):PE X (.Subscript e (.Slice lo hi none p2) pos) (tSl r te tl th):=by
 intro pins s σ H Q I h
 refine Subscript_ (thn (he pins s σ H _ I h) fun v s1 ⟨x,H1,I1,r1,q1⟩=>?_)
 refine wpAny_Slice (thn (hl pins s1 σ H1 _ I1 q1) fun vl s2 ⟨l,H2,I2,pl,q2⟩=>thn (hu pins s2 σ H2 _ I2 q2) fun vu s3 ⟨u,H3,I3,pu,q3⟩=>?_)
 rw[evalPart_none]
 refine wpAny_pure ?_
 have I4:Inv X pins σ H3 { s3 with heap:=s3.heap.push { cls:=.type "slice",data:=.fields #[vl,vu,.none] } }:=I3.kept (t':=s3.toks) fun b ob q=>U' _ q
 obtain⟨T,id,hT,ht,hg⟩:=hr pins { s3 with heap:=s3.heap.push { cls:=.type "slice",data:=.fields #[vl,vu,.none] } } σ H3 x v vl vu l u s3.heap.objs.size Q I4 r1 (Heap.IsSliceOf.new ..) pl pu q3
 show wpAny (model X.prog X.w) X.A (subscriptTail e (.Slice lo hi none p2) v (.ref s3.heap.objs.size)) (EP X pins σ Q) X.xe { s3 with heap:=s3.heap.push { cls:=.type "slice",data:=.fields #[vl,vu,.none] } }
 exact tail_any (ops:=[.ref s3.heap.objs.size,v]) ht hT hg (by with_unfolding_all rfl)
def Mj(xs:List V)(lo hi:Option Int):List V:=(xs.drop (HT.sIx xs.length 0 lo)).take (HT.sIx xs.length xs.length hi-HT.sIx xs.length 0 lo)
def Kg(xs:List V)(lo hi:Option Int):(Mj xs lo hi).length<=xs.length:=by
 unfold Mj
 rw[mE,mF]
 omega
def aG(K:PySem.W.Frag):V->Option Int->Option Int->Hp->VK->Prop:=fun x lo hi H Q=>∃a xs,x = .ref a/\SqT K H a xs /\
 ¬(HT.sIx xs.length 0 lo=0/\HT.sIx xs.length xs.length hi=xs.length)/\∀p,H p=none->Q (.ref p) (upd H p (.tup (Mj xs lo hi)))
def aC:SlR X (aG X.K):=by
 intro pins s σ H x v vl vu lo hi sl Q I rx hs pl pu h
 obtain⟨a,xs,rfl,hx,hw,q⟩:=h
 cases rx
 obtain⟨its,r,ht,hz⟩:=I.tuple hx
 have hlen:its.toArray.size=xs.length:=by rw[k7];exact r.length.symm
 refine⟨"tuple",_,PyProof.Rows.slot_tuple_getitem.lookup,ht.typeIs,?_⟩
 refine HT.getItem_tuple_cut ht hs pl pu (by rw[hlen];exact hw) ?_ (by rw[hlen];exact hz)
 rw[hlen]
 refine⟨.ref s.heap.objs.size,_,I.laid (t':=s.toks) (o:=.tup (Mj xs lo hi)) (fun b ob q=>U' _ q) (X' _) ?_,rfl,q _ (I.hok.fresh (X' _))⟩
 exact⟨lA (Kg xs lo hi) hz,_,(r.drop (HT.sIx xs.length 0 lo)).take (HT.sIx xs.length xs.length hi-HT.sIx xs.length 0 lo),IsTup.new _ _⟩
def SW(K:PySem.W.Frag):R2:=fun x y H Q=>∃a b xs ys,x = .ref a/\y = .ref b/\SqT K H a xs/\SqT K H b ys/\xs≠[]/\xs.length+ys.length<=sizeLine /\
 (ys=[]->Q (.ref a) H)/\(ys≠[]->∀p,H p=none->Q (.ref p) (upd H p (.tup (xs++ys))))
def Vals.nil_iff{xs:List V}{us:List Value}(r:Vals xs us):us=[]↔xs=[]:=by
 cases r with
 |nil=>simp
 |cons _ _=>simp
def Xo:OpR X (binaryOp .Add) (SW X.K):=by
 intro pins s σ H x y v u Q I rx ry h
 obtain⟨a,b,xs,ys,rfl,rfl,ha,hb,hx,hz,q1,q2⟩:=h
 cases rx
 cases ry
 obtain⟨its,r1,p1,_⟩:=I.tuple ha
 obtain⟨its2,r2,p2,_⟩:=I.tuple hb
 refine HT.cat_tup p1 p2 (fun z=>hx (r1.nil_iff.mp z)) (fun z=>⟨.ref a,H,I,rfl,q1 (r2.nil_iff.mp z)⟩) (fun z=>?_) (by rw[<- r1.length,<- r2.length];exact hz)
 refine⟨.ref s.heap.objs.size,_,I.laid (t':=s.toks) (o:=.tup (xs++ys)) (fun b ob q=>U' _ q) (X' _) ?_,rfl,q2 (fun w=>z (r2.nil_iff.mpr w)) _ (I.hok.fresh (X' _))⟩
 exact⟨by rw[T'];exact hz,_,r1.append r2,IsTup.new _ _⟩
end
end L2
namespace L2
open PySem PySem.Spec PyProof.Rows
def ixN(n:Nat)(i:Int):Option Nat:=if 0<=i then (if i<n then some i.toNat else none) else if -(n:Int)<=i then some (i+n).toNat else none
def atI{α:Type}(xs:List α)(i:Int):Option α:=(ixN xs.length i).bind fun j=>xs[j]?
def X5{n:Nat}{i:Int}{j:Nat}(h:ixN n i=some j):seqIndex? i n=some j/\j<n/\-(n:Int)<=i/\i<n:=by
 unfold ixN at h
 by_cases h0:0<=i
 ·rw[if_pos h0]at h
  by_cases h1:i<n
  ·rw[if_pos h1]at h
   have e:i.toNat=j:=J' h
   exact⟨by rw[seqIndex_of h0 h1,e],by omega,by omega,h1⟩
  ·rw[if_neg h1]at h;cases h
 ·rw[if_neg h0]at h
  by_cases h1:-(n:Int)<=i
  ·rw[if_pos h1]at h
   have e:(i+n).toNat=j:=J' h
   exact⟨by rw[seqIndex_neg (by omega) h1,e],by omega,h1,by omega⟩
  ·rw[if_neg h1]at h;cases h
def OW{α:Type}{xs:List α}{i:Int}{v:α}(h:atI xs i=some v):∃j,seqIndex? i xs.length=some j/\xs[j]?=some v/\j<xs.length/\-(xs.length:Int)<=i/\i<xs.length:=by
 unfold atI at h
 cases e:ixN xs.length i with
 |none=>rw[e]at h;cases h
 |some j =>
  rw[e]at h
  obtain⟨h1,h2,h3,h4⟩:=X5 e
  exact⟨j,h1,h,h2,h3,h4⟩
def Gf(b:Expr):Prop:=∀o i,subscripted b false o i=operate [o,i] (getItem o i)
def IxR(X:Cx)(r:R2):Prop :=
 ∀(value slice:Expr) (pins:List (Addr×Obj)) (s:Shared) (σ:St) (H:Hp) (x y:V) (v u:Value) (Q:VK),Inv X pins σ H s->RelV x v->RelV y u->r x y H Q ->
  subscripted slice false v u=operate [v,u] (getItem v u)->wpAny (model X.prog X.w) X.A (subscriptTail value slice v u) (EP X pins σ Q) X.xe s
def MtR(X:Cx)(id:String)(r:V->List V->Hp->VK->Prop):Prop :=
 ∀(pins:List (Addr×Obj)) (s:Shared) (σ:St) (H:Hp) (x:V) (xs:List V) (v:Value) (us:List Value) (Q:VK),Inv X pins σ H s->RelV x v->Vals xs us->r x xs H Q ->
  wpAny (model X.prog X.w) X.A (call (.builtin id) (v::us)) (EP X pins σ Q) X.xe s
section
variable {X:Cx} {a b:Expr} {ta tb:TE} {pos:Pos}
def Iu{r:R2}(hr:IxR X r)(ha:PE X a ta)(hb:PE X b tb)(hs:Gf b):PE X (.Subscript a b pos) (tOp r ta tb):=by
 intro pins s σ H Q I h
 exact Subscript_ (eK ha hb I h fun v u s2 x y H2 I2 rx ry q=>hr a b pins s2 σ H2 x y v u Q I2 rx ry q (hs _ _))
def Td(K:PySem.W.Frag):R2:=fun x y H Q=>∃p xs i v,x = .ref p/\y = .int i/\SqL K H p xs/\atI xs i=some v/\Q v H
def NW(K:PySem.W.Frag):R2:=fun x y H Q=>∃p xs i v,x = .ref p/\y = .int i/\SqT K H p xs/\atI xs i=some v/\Q v H
def fY:R2:=fun x y H Q=>∃z i c,x = .str z/\y = .int i/\z.length<=sizeLine/\atI z.cps.toList i=some c/\Q (.str ⟨#[c]⟩) H
def N8:IxR X (Td X.K):=by
 intro value slice pins s σ H x y v u Q I rx ry h hs
 obtain⟨p,xs,i,z,rfl,rfl,hq,he,q⟩:=h
 cases rx
 obtain⟨t,rfl⟩:=ry
 obtain⟨its,r,pl,hz⟩:=I.list hq
 obtain⟨j,h1,h2,h3,h4,h5⟩:=OW he
 obtain⟨w,ew,rw'⟩:=r.get h2
 have hl:=r.length
 have hn:=N4
 have fin:EP X pins σ Q w s:=⟨z,H,I,rw',q⟩
 by_cases h0:0<=i
 ·have hj:i.toNat=j:=by
   rw[seqIndex_of h0 h5]at h1
   exact J' h1
  exact item_listR pl.isList h0 (by omega) (by rw[hj];simpa using ew) fin hs
 ·have hj:(i+(its.toArray.size:Int)).toNat=j:=by
   rw[seqIndex_neg (by omega) h4]at h1
   rw[k7,<- hl]
   exact J' h1
  exact subscriptTail_builtinR (x:=w) pl.isList.typeIs slot_list_getitem.lookup
   (wpAny_getItem_list_neg (Q:=fun r s'=>r=w/\EP X pins σ Q r s') pl.isList (by omega) (by rw[k7]<;>omega) (by omega) (by rw[hj];simpa using ew) ⟨rfl,fin⟩) hs
def Lp:IxR X (NW X.K):=by
 intro value slice pins s σ H x y v u Q I rx ry h hs
 obtain⟨p,xs,i,z,rfl,rfl,hq,he,q⟩:=h
 cases rx
 obtain⟨t,rfl⟩:=ry
 obtain⟨its,r,pl,hz⟩:=I.tuple hq
 obtain⟨j,h1,h2,h3,h4,h5⟩:=OW he
 obtain⟨w,ew,rw'⟩:=r.get h2
 have hl:=r.length
 have hn:=N4
 have fin:EP X pins σ Q w s:=⟨z,H,I,rw',q⟩
 exact subscriptTail_builtinR (x:=w) pl.typeIs slot_tuple_getitem.lookup
  (getItem_tuple (j:=j) (Q:=fun r s'=>r=w/\EP X pins σ Q r s') pl (by omega) (by omega) (by rw[k7,<- hl];exact h1) (by simpa using ew) ⟨rfl,fin⟩) hs
def bI:IxR X fY:=by
 intro value slice pins s σ H x y v u Q I rx ry h hs
 obtain⟨z,i,c,rfl,rfl,hz,he,q⟩:=h
 obtain⟨t,rfl⟩:=rx
 obtain⟨t',rfl⟩:=ry
 obtain⟨j,h1,h2,h3,h4,h5⟩:=OW he
 have hl:z.cps.toList.length=z.length:=by simp[Str.length]
 rw[hl]at h1 h4 h5
 have hn:=N4
 exact tail_any (typeIs_str s z t) slot_str_getitem.lookup (getItem_str (c := c) (by
  have e1:decide (i < -(2 ^ 63:Int))=false:=decide_eq_false (by omega)
  have e2:decide (i≥2 ^ 63)=false:=decide_eq_false (by omega)
  rw[e1,e2,Bool.or_false]) (by rw[h1];simpa using h2) ⟨.str ⟨#[c]⟩,H,I.tok _,⟨_,rfl⟩,q⟩) hs
def NT(lo hi:Option Int)(n:Nat):(sliceBounds lo hi none n).1=((HT.sIx n 0 lo:Nat):Int)/\(sliceBounds lo hi none n).2.1=((HT.sIx n n hi:Nat):Int)/\(sliceBounds lo hi none n).2.2=1:=by
 refine⟨?_,?_,rfl⟩
 ·cases lo with
  |none=>simp[sliceBounds,HT.sIx]
  |some i =>
   simp only[sliceBounds,HT.sIx,Option.getD_none,show(1:Int)>0 by decide,if_true]
   by_cases h:i<0
   ·simp only[h,if_true]<;>omega
   ·simp only[h,if_false]<;>omega
 ·cases hi with
  |none=>simp[sliceBounds,HT.sIx]
  |some i =>
   simp only[sliceBounds,HT.sIx,Option.getD_none,show(1:Int)>0 by decide,if_true]
   by_cases h:i<0
   ·simp only[h,if_true]<;>omega
   ·simp only[h,if_false]<;>omega
def MQ(its:List Value)(lo hi:Option Int):slicePick its.toArray lo hi none=((its.drop (HT.sIx its.length 0 lo)).take (HT.sIx its.length its.length hi-HT.sIx its.length 0 lo)).toArray:=by
 obtain⟨h1,h2,h3⟩:=NT lo hi its.toArray.size
 unfold slicePick
 rw[h1,h2,h3]
 simp only[sliceRange_one,pick_run,List.size_toArray]<;>rfl
def aH(K:PySem.W.Frag):V->Option Int->Option Int->Hp->VK->Prop:=fun x lo hi H Q=>∃a xs,x = .ref a/\SqL K H a xs/\∀p,H p=none->Q (.ref p) (upd H p (.lst (Mj xs lo hi)))
def XH:SlR X (aH X.K):=by
 intro pins s σ H x v vl vu lo hi sl Q I rx hs pl pu h
 obtain⟨a,xs,rfl,hx,q⟩:=h
 cases rx
 obtain⟨its,r,ht,hz⟩:=I.list hx
 have hlen:=r.length
 refine⟨"list",_,slot_list_getitem.lookup,ht.isList.typeIs,?_⟩
 refine wpAny_getItem_list_slice ht.isList hs pl pu .none (by simp) ?_ (by rw[k7]<;>omega)
 rw[MQ,<- hlen]
 refine⟨.ref s.heap.objs.size,_,I.laid (t':=s.toks) (o:=.lst (Mj xs lo hi)) (fun b ob q=>U' _ q) (X' _) ?_,rfl,q _ (I.hok.fresh (X' _))⟩
 exact⟨lA (Kg xs lo hi) hz,_,0,(r.drop (HT.sIx xs.length 0 lo)).take (HT.sIx xs.length xs.length hi-HT.sIx xs.length 0 lo),kb _ rfl⟩
def OT:Cp X (.type "list") (fun xs H Q=>∃p ys,xs=[.ref p]/\(SqL X.K H p ys\/SqT X.K H p ys)/\∀l,H l=none->Q (.ref l) (upd H l (.lst ys))):=by
 intro pins s σ H xs us Q I r h
 obtain⟨p,ys,rfl,hq,q⟩:=h
 obtain⟨u,rfl,rx⟩:=Hw r
 cases rx
 have fin:∀(its:List Value),Vals ys its->ys.length<=sizeLine->∀(h':Heap) (c':Nat),(∀b o',s.heap.get? b=some o'->h'.get? b=some o') ->
   h'.get? s.heap.objs.size=some { cls:=.type "list",dict:=none,data:=.seq its.toArray c',slots:=#[] }->EP X pins σ Q (.ref s.heap.objs.size) { s with heap:=h' }:=fun its r' hz h' c' kp e =>
  ⟨.ref s.heap.objs.size,_,I.laid (t':=s.toks) kp (X' _) (show ObjOk X.prog X.w _ h' _ (.lst ys) from⟨hz,its,c',r',e⟩),rfl,q _ (I.hok.fresh (X' _))⟩
 rcases hq with hq|hq
 ·obtain⟨its,r',pl,hz⟩:=I.list hq
  have hlen:=r'.length
  obtain⟨o,ho,hc,n,hd⟩:=pl.isList
  exact call_list_seq p (.inl rfl) ho hc hd (fun h' c' kp e=>fin its r' hz h' c' kp e) (by simp only[List.size_toArray]<;>omega)
 ·obtain⟨its,r',pl,hz⟩:=I.tuple hq
  have hlen:=r'.length
  obtain⟨o,ho,hc,n,hd⟩:=pl
  exact call_list_seq p (.inr rfl) ho hc hd (fun h' c' kp e=>fin its r' hz h' c' kp e) (by simp only[List.size_toArray]<;>omega)
def Ml:Cp X (.type "tuple") (fun xs H Q=>∃p ys,xs=[.ref p]/\((SqL X.K H p ys/\∀l,H l=none->Q (.ref l) (upd H l (.tup ys)))\/(SqT X.K H p ys/\Q (.ref p) H))):=by
 intro pins s σ H xs us Q I r h
 obtain⟨p,ys,rfl,h⟩:=h
 obtain⟨u,rfl,rx⟩:=Hw r
 cases rx
 rcases h with ⟨hq,q⟩|⟨hq,q⟩
 ·obtain⟨its,r',pl,hz⟩:=I.list hq
  have hlen:=r'.length
  refine call_tuple_list pl.isList (fun h' kp=>?_) (by simp only[List.size_toArray]<;>omega)
  have I1:Inv X pins σ H { s with heap:=h' }:=I.kept (t':=s.toks) kp
  have I2:Inv X pins σ (upd H h'.objs.size (.tup ys)) { s with heap:=h'.push { cls:=.type "tuple",data:=.seq its.toArray } } :=
   I1.laid (t':=s.toks) (fun b o e=>U' _ e) (X' _) (show ObjOk X.prog X.w _ _ _ (.tup ys) from⟨hz,its,r',IsTup.new _ _⟩)
  exact⟨.ref h'.objs.size,_,I2,rfl,q _ (I1.hok.fresh (X' _))⟩
 ·obtain⟨its,r',pl,hz⟩:=I.tuple hq
  exact call_tuple_same pl ⟨.ref p,H,I,rfl,q⟩
def tyV(K:PySem.W.Frag)(T:String)(x:V)(H:Hp):Prop:=match x with
 |.str _=>T="str"
 |.int _=>T="int"
 |.ref p=>(T="list"/\∃xs,SqL K H p xs)\/(T="tuple"/\∃o,K.lookup p=some o/\o.cls = .type "tuple"/\o.dict=none) \/
   (T="dict"/\((∃kvs,H p=some (.dK kvs))\/∃kvs,H p=some (.dT kvs)))\/(T="set"/\∃S n,H p=some (.set S n))
 |_=>False
def Uq{pins:List (Addr×Obj)}{σ:St}{H:Hp}{s:Shared}{T:String}{x:V}{v:Value}(I:Inv X pins σ H s)(r:RelV x v)(ty:tyV X.K T x H) :
  s.TypeIs v T/\∀a,v = .ref a->∃ob,s.heap.get? a=some ob/\ob.dict=none:=by
 cases x with
 |str z =>
  obtain⟨t,rfl⟩:=r
  cases (show T="str" from ty)
  exact⟨typeIs_str s z t,fun _ e=>nomatch e⟩
 |int i =>
  obtain⟨t,rfl⟩:=r
  cases (show T="int" from ty)
  exact⟨typeIs_int s i t,fun _ e=>nomatch e⟩
 |ref p =>
  cases r
  rcases ty with ⟨rfl,xs,hq⟩|⟨rfl,o,hk,hc,hd⟩|⟨rfl,hk⟩|⟨rfl,S,n,hk⟩
  ·obtain⟨its,_,pl,_⟩:=I.list hq
   refine⟨pl.isList.typeIs,fun a e=>?_⟩
   cases e
   obtain⟨o,n,e,c,hd,_⟩:=pl
   exact⟨o,e,hd⟩
  ·refine⟨⟨o,I.kIn p o hk,hc⟩,fun a e=>?_⟩
   cases e
   exact⟨o,I.kIn _ o hk,hd⟩
  ·have z:∃o,s.heap.get? p=some o/\o.ExactDict:=by
    rcases hk with ⟨kvs,hk⟩|⟨kvs,hk⟩
    ·obtain⟨_,_,_,_,o,_,_,e,ex,_⟩:=I.hok p _ hk
     exact⟨o,e,ex⟩
    ·obtain⟨_,_,_,_,o,_,_,e,ex,_⟩:=I.hok p _ hk
     exact⟨o,e,ex⟩
   obtain⟨o,e,ex⟩:=z
   refine⟨⟨o,e,ex.1⟩,fun a e2=>?_⟩
   cases e2
   exact⟨o,e,ex.2.1⟩
  ·obtain⟨o,_,_,_,e,ex,_⟩:=I.hok p _ hk
   refine⟨⟨o,e,ex.1⟩,fun a e2=>?_⟩
   cases e2
   exact⟨o,e,ex.2.1⟩
 |_=>exact False.elim ty
def aA(K:PySem.W.Frag)(T:String)(r:V->List V->Hp->VK->Prop)(to:TE):TE:=fun σ H Q=>to σ H fun x H1=>tyV K T x H1/\r x [] H1 Q
def tBM(K:PySem.W.Frag)(T:String)(r:V->List V->Hp->VK->Prop)(to:TE)(t:TA):TE:=fun σ H Q=>to σ H fun x H1=>tyV K T x H1/\t σ H1 fun xs H2=>r x xs H2 Q
variable {o e:Expr} {es:List Expr} {to:TE} {t:TA} {name:Str} {apos cpos:Pos} {T id:String} {r:V->List V->Hp->VK->Prop}
def aV(pa:PlainAttrs T)(slot:Slot T name id)(hty:typeOf (.builtin id)=pure (.type "method_descriptor"))(hm:MtR X id r)(ho:PE X o to)
  (hbase:attributeBase o name X.env (eval o X.env)=eval o X.env:=by rfl) (hline:(apos.endLine==cpos.line)=true:=by rfl):PE X (.Call (.Attribute o name apos) [] [] cpos) (aA X.K T r to):=by
 intro pins s σ H Q I h
 refine wpAny_Call_method0_late hbase hline (thn (ho pins s σ H _ I h) fun v s1 ⟨x,H1,I1,r1,ty,q1⟩=>?_)
 obtain⟨h1,h2⟩:=Uq I1 r1 ty
 exact⟨T,id,pa,slot,hty,h1,h2,Calls.callWith_builtin rfl (PySem.evalArgs_none (hm pins s1 σ H1 x [] v [] Q I1 r1 .nil q1))⟩
def Vd(pa:PlainAttrs T)(slot:Slot T name id)(hty:typeOf (.builtin id)=pure (.type "method_descriptor"))(hm:MtR X id r)(ho:PE X o to)(ha:PA X (e::es) t)
  (hbase:attributeBase o name X.env (eval o X.env)=eval o X.env:=by rfl)
  (hfew : ((backTo cpos (starEach (e :: es) X.env)).all (fun x => !x.1) && (backToKw cpos (keywordEach [] X.env)).all (fun x => x.1.isSome)
   && decide ((e::es).length+([]:List Keyword).length+(if ([]:List Keyword).isEmpty then 0 else 1)<30))=true:=by rfl)
  (hline:(apos.endLine==cpos.line)=true:=by rfl) (hs:starEach (e::es) X.env=(false,eval e X.env)::starEach es X.env:=by rfl) (hplain:(backTo cpos (starEach es X.env)).any (·.1)=false:=by rfl) :
  PE X (.Call (.Attribute o name apos) (e::es) [] cpos) (tBM X.K T r to t):=by
 intro pins s σ H Q I h
 refine wpAny_Call_method_late hbase hfew hline rfl (thn (ho pins s σ H _ I h) fun v s1 ⟨x,H1,I1,r1,ty,q1⟩=>?_)
 obtain⟨h1,h2⟩:=Uq I1 r1 ty
 refine⟨T,id,pa,slot,hty,h1,h2,?_⟩
 have hA:=ha cpos pins s1 σ H1 _ I1 q1
 rw[hs]at hA ⊢
 refine Calls.callWith_builtin (by show(false||(backTo cpos (starEach es X.env)).any (·.1))=false;rw[hplain]<;>rfl) (Calls.evalArgs_plain ?_)
 exact thn hA fun us s2 ⟨vs,H2,I2,r2,q2⟩=>hm pins s2 σ H2 x vs v us Q I2 r1 r2 q2
end
end L2
namespace L2
open PySem PySem.Spec PyProof.Rows
def MtM(X:Cx)(id:String)(r:V->List V->Hp->VK->Prop):Prop :=
 ∀(pins:List (Addr×Obj)) (s:Shared) (σ:St) (H:Hp) (x:V) (xs:List V) (v:Value) (us:List Value) (Q:VK),Inv X pins σ H s->RelV x v->Vals xs us->r x xs H Q ->
  wpAny (model X.prog X.w) X.A (call (.builtin id) (v::us)) (EP X pins σ Q) X.xe s
def Vals.one:∀{x:V} {us:List Value},Vals [x] us->∃u,us=[u]/\RelV x u
 |_,_,.cons r .nil=>⟨_,rfl,r⟩
def Vals.zero:∀{us:List Value},Vals [] us->us=[]
 |_,.nil=>rfl
def Vals.reverse{xs:List V}{us:List Value}(h:Vals xs us):Vals xs.reverse us.reverse:=by
 induction h with
 |nil=>exact .nil
 |cons r t ih=>rw[mU,mU];exact Vals.append ih (.cons r .nil)
section
variable {X:Cx} {pins:List (Addr×Obj)} {σ:St} {H:Hp} {s:Shared} {l b:Addr} {xs ys zs:List V}
def Inv.lset{its its':List Value}{n:Nat}{f:Array Value->Array Value}{t':Nat}(I:Inv X pins σ H s)(hH:H l=some (.lst xs))
  (e:s.heap.get? l=some { cls:=.type "list",data:=.seq its.toArray n }) (hf:f its.toArray=its'.toArray) (hv:Vals ys its') (hz:ys.length<=sizeLine) :
  Inv X pins σ (upd H l (.lst ys)) { s with heap:=s.heap.update l (Obj.mapSeq f),toks:=t' }:=by
 have q:=PySem.IsL.update e f
 rw[hf]at q
 refine I.write (x:=l) (e:=l) (by rw[hH];exact trivial) (.inl rfl) (fun b' u hb hu=>(lI s.heap (Obj.mapSeq f) (Ne.symm hb)).trans hu) ⟨_,q⟩ ?_
 exact⟨hz,its',_,hv,q⟩
def Inv.lnew{its:List Value}{t':Nat}(I:Inv X pins σ H s)(hv:Vals ys its)(hz:ys.length<=sizeLine) :
  Inv X pins σ (upd H s.heap.objs.size (.lst ys)) { s with heap:=s.heap.push { cls:=.type "list",data:=.seq its.toArray },toks:=t' } :=
 I.laid (fun _ _ q=>U' _ q) (X' _) ⟨hz,its,0,hv,kb _ rfl⟩
def Inv.fresh(I:Inv X pins σ H s):H s.heap.objs.size=none:=I.hok.fresh (X' _)
def Inv.lstM(I:Inv X pins σ H s)(hH:H l=some (.lst xs)):xs.length<=sizeLine/\∃(its:List Value) (n:Nat),Vals xs its/\xs.length=its.length/\s.heap.get? l=some { cls:=.type "list",data:=.seq its.toArray n }:=by
 obtain⟨z,its,n,r,e⟩:=I.hok l _ hH
 exact⟨z,its,n,r,r.length,e⟩
end
section
variable {X:Cx}
def NX:V->List V->Hp->VK->Prop:=fun x vs H Q=>∃l xs y,x = .ref l/\vs=[y]/\H l=some (.lst xs)/\xs.length<sizeLine/\Q .non (upd H l (.lst (xs++[y])))
def JZ:MtM X "list.append" NX:=by
 intro pins s σ H x vs v us Q I rx rv h
 obtain⟨l,xs,y,rfl,rfl,hH,hz,q⟩:=h
 cases rx
 obtain⟨u,rfl,ru⟩:=rv.one
 obtain⟨z,its,n,r,hl,e⟩:=I.lstM hH
 refine call_meets F.slot_list_append ⟨_,e,rfl⟩ F.entry_list_append (F.args_list_append_2 _ _) (PySem.list_append l its.toArray n u (by rw[k7];omega)) ⟨e,?_⟩
 refine⟨.non,_,I.lset (its':=its++[u]) hH e (by simp) (r.append (.cons ru .nil)) ?_,rfl,q⟩
 rw[T',List.length_singleton]
 omega
def Oq:V->List V->Hp->VK->Prop:=fun x vs H Q=>∃l xs,x = .ref l/\vs=[]/\H l=some (.lst xs)/\Q .non (upd H l (.lst xs.reverse))
def Rf:MtM X "list.reverse" Oq:=by
 intro pins s σ H x vs v us Q I rx rv h
 obtain⟨l,xs,rfl,rfl,hH,q⟩:=h
 cases rx
 have hus:=rv.zero
 subst hus
 obtain⟨z,its,n,r,hl,e⟩:=I.lstM hH
 refine call_meets F.slot_list_reverse ⟨_,e,rfl⟩ F.entry_list_reverse (F.args_list_reverse_1 _) (AutoSeq1.list_reverse_list_0 l its.toArray n (by rw[k7];omega)) ⟨e,?_⟩
 refine⟨.non,_,I.lset (its':=its.reverse) hH e (by simp) r.reverse ?_,rfl,q⟩
 rw[lR]
 omega
def aJ:R2:=fun x y H Q=>∃l b xs zs,x = .ref l/\y = .ref b/\H l=some (.lst xs)/\H b=some (.lst zs)/\xs.length+zs.length<=sizeLine/\∀p,H p=none->Q (.ref p) (upd H p (.lst (xs++zs)))
def Lf:OpR X (binaryOp .Add) aJ:=by
 intro pins s σ H x y v u Q I rx ry h
 obtain⟨l,b,xs,zs,rfl,rfl,hH,hB,hz,q⟩:=h
 cases rx
 cases ry
 obtain⟨z,its,n,r,hl,e⟩:=I.lstM hH
 obtain⟨z2,its2,n2,r2,hl2,e2⟩:=I.lstM hB
 refine PySem.P.add_list e e2 ?_ (by rw[k7,k7];omega)
 have ea:its.toArray++its2.toArray=(its++its2).toArray:=by simp
 rw[ea]
 exact⟨.ref _,_,I.lnew (t':=s.toks) (r.append r2) (by rw[T'];omega),rfl,q _ I.fresh⟩
end
section
variable {prog:Program} {w:World} {A:Around} {E:Value->Shared->Prop} {s:Shared}
end
section
variable {X:Cx}
end
end L2
namespace Att
open PySem PySem.W PySem.Calls PyProof.Rows
def Kr{P:Params}{h:Heap}:∀(ns:List Int) (vs:List Value),WellAll P h vs (ns.map WData.int)->IntsAre vs ns:=by
 intro ns
 induction ns with
 |nil =>
  intro vs w
  rw[List.map_nil]at w
  cases w
  exact .nil
 |cons n ns ih =>
  intro vs w
  rw[kg]at w
  cases w with
  |cons a b =>
   cases a
   exact .cons _ _ (ih _ b)
def TZ{l:OpenLaw}{n:Nat}(hn:l.most=some n){P:Params}{h:Heap}{args:List WData}{vals:List Value}
  (hpre:l.row.toRowW.claim.pre args=true) (hwl:WellAll P h vals args) :
  ∃a vs ns,vals=[Value.ref a]/\args=[WData.list (ns.map WData.int)]/\h.get? a=some { cls:=.type "list",data:=.seq vs.toArray }/\IntsAre vs ns/\ns.length<=n:=by
 have hsh:WShape.hasAll [] args [.list .int]=true:=(pre_splitW hpre).1
 have hc:l.pre.holds [] { args:=args }=true:=(pre_splitW hpre).2
 obtain⟨d,r,rfl,h1,h2⟩:=hasAllW_cons hsh
 obtain rfl:=hasAllW_nil h2
 obtain⟨xs,rfl,h3⟩:=hasW_list h1
 obtain⟨ns,rfl⟩:=items_int h3
 have hlen:ns.length<=n:=by
  unfold OpenLaw.pre at hc
  have h4:(WTm.not (.lt (.lit (.int (n:Int))) (.len (.arg 0)))).holds [] { args:=[.list (ns.map .int)] }=true:=by
   have h4:=(holds_andW hc).1
   rw[hn]at h4
   exact h4
  have h5:=condW_of h4 (w_not (w_lt w_lit (w_len_list (w_arg rfl))))
  rw[B']at h5
  refine Nat.le_of_not_lt fun q=>?_
  have q':(n:Int)<((ns.length:Nat):Int):=by omega
  first
   |(rw[decide_eq_true q']at h5;exact absurd h5 (by decide))
   |(simp at h5;omega)
 cases hwl with
 |cons w1 w2 =>
  cases w2
  cases w1 with
  |list ho hall=>exact⟨_,_,ns,rfl,rfl,ho,Kr ns _ hall,hlen⟩
def Tg(l:OpenLaw)(args:List WData):l.row.toRowW.claim.post args (.bool true) args=true :=
 postW_of (r:=l.row.toRowW) (X:=(true==true))
  (show WShape.has [] (.bool true) .bool=true by first|rfl|decide|simp[WShape.has,WShape.arms,WShape.armsAll])
  (show(WTm.eq .res (.lit (.bool true))).value [] { args:=args,res:=some (.bool true),after:=args }=some (.bool (true==true)) from w_eq_bool (w_res rfl) w_lit) rfl
def attach_call{l:OpenLaw}{n:Nat}{q:Program}{loose:List Str}{XP:(Str->Option Value)->Heap->Prop}{YP:World->Heap->Prop}{d:DefRec}
  (hn:l.most=some n) (hdf:d.params.defaults=[])
  (call : ∀ (w : World) (s₀ s₁ : Shared) (mg mb : Str -> Option Value) (fa : Addr) (o : Obj) (pm cd doc : Value) (a : Addr) (vs : List Value) (ns : List Int),
   Ground q loose [] XP w s₀ mg mb s₁.heap->YP w s₁.heap ->
   s₁.heap.get? fa=some o->o.data = .func (docDef d.name d.params d.body d.scope pm cd doc)->s₁.heap.CodeRec cd d.name->mg d.name=some (.ref fa) ->
   s₁.heap.get? a=some { cls:=.type "list",data:=.seq vs.toArray }->IntsAre vs ns->ns.length<=n->s₁.gens=#[] ->
   codeAny (model l.prog w) callerA (.call (.ref fa) ⟨[.ref a],[]⟩) (fun r s'=>r = .ok (.ret (.bool true))/\OldK s₁.heap s'.heap/\s'.os=s₁.os/\AllBare s'.gens) s₁) :
  WalkO q loose XP YP l.row.toRowW d [] (fun f vs=>PySem.call f vs):=by
 intro w s₀ s₁ mg mb G Y fa o pm cd doc dV kV ho hd hcd hD hmg hg args vals as hpre hlay hrd hwl hlo
 obtain rfl:dV = .none:=Dflts.none hD hdf
 obtain rfl:kV = .none:=Dflts.noKw hD
 obtain⟨a,vs,ns,rfl,rfl,hobj,hints,hlen⟩:=TZ hn hpre hwl
 refine enter_call (codeAny_mono (call w s₀ s₁ mg mb fa o pm cd doc a vs ns G Y ho (fd_plain hd) hcd hmg hobj hints hlen hg) fun r s' hq=>?_)
 obtain⟨rfl,h2,h3,h4⟩:=hq
 exact⟨.inl ⟨.bool true,.bool true,[],rfl,fun _=>rfl,.bool true,Tg l _,fun _=>⟨List.Pairwise.nil,fun _ hm=>(nomatch hm)⟩⟩,h2,h3,h4⟩
section
variable {prog:Program} {w:World} {A:Around} {E:Value->Shared->Prop} {s:Shared} {K:Frag}
end
end Att
namespace L2
open PySem PySem.Spec PyProof.Rows
def Mm:∀{vs:List Value} {ns:List Int},IntsAre vs ns->Vals (ns.map V.int) vs
 |_,_,.nil=>.nil
 |_,_,.cons n t h=>.cons ⟨t,rfl⟩ (Mm h)
def ey(H:Hp):Prop:=∀b,H b=none\/∃o xs,H b=some (.frz o (.lst xs))
def V1{P:Program}{w:World}{K:PySem.W.Frag}{mg mb:Str->Option Value}{CX:CXT}{k:Nat}{fa a:Addr}{fd:FuncData}{x:Str}{sp:Sp}{s₁:Shared}{vs:List Value}{ns:List Int}
  (KX:K.In s₁.heap) (hns:s₁.heap.Ns mainGlobals mg) (hb:s₁.heap.Ns builtinsNs mb) (hbb:∀x:Str,x≠"__name__"->mb x=bootBuiltins x) (hlim:s₁.heap.NoLimit) (hg:s₁.gens=#[])
  (ha:s₁.heap.get? a=some { cls:=.type "list",data:=.seq vs.toArray }) (hi:IntsAre vs ns) (hl:ns.length<=sizeLine) (hr:Room k callerA)
  (F:∀base:Heap,K.In base->base.Ns mainGlobals mg->FnOk P w K mg base CX k fa fd [x] sp) (hbind:∀(s:Shared) (u:Value),BindsTo s fd ⟨[u],[]⟩ [(x,u)])
  (hsp:∀H:Hp,ey H->SqL K H a (ns.map V.int)->sp [.ref a] H (fun v _=>v = .bl true) fun _ _ _=>False)
  (hCX:∀H e s',CX [] H s₁ (fun _ _ _=>False) e s'->False) :
  codeAny (model P w) callerA (.call (.ref fa) ⟨[.ref a],[]⟩) (fun r s'=>r = .ok (.ret (.bool true))/\OldK s₁.heap s'.heap/\s'.os=s₁.os/\AllBare s'.gens) s₁:=by
 have rv:=Mm hi
 have lenV:=hi.length
 -- from an abstract heap in which nothing but the script may be tracked
 have core:∀H:Hp,ey H->SqL K H a (ns.map V.int)->HOk P w H s₁.heap->(∀b,H b≠none->b=a)->(H a≠none->K.lookup a=none) ->
   codeAny (model P w) callerA (.call (.ref fa) ⟨[.ref a],[]⟩) (fun r s'=>r = .ok (.ret (.bool true))/\OldK s₁.heap s'.heap/\s'.os=s₁.os/\AllBare s'.gens) s₁:=by
  intro H hO hS hok hA hK
  have base_of:∀{b:Addr} {o:Obj},s₁.heap.get? b=some o->H b=none->(OC s₁.heap H).get? b=some o:=fun e n=>WB e n
  have noA:∀{b:Addr} {o:Obj} {es:Array DictEntry} {ep:Nat},s₁.heap.get? b=some o->o.data = .dict es ep->H b=none:=fun {b o es ep} e d=>by
   cases q:H b with
   |none=>rfl
   |some u =>
    have e':b=a:=hA b (by rw[q];simp)
    subst e'
    rw[ha]at e;cases e
    have d':Data.seq vs.toArray _=Data.dict es ep:=d
    cases d'
  have nsK:∀{b:Addr} {m:Str->Option Value},s₁.heap.Ns b m->(OC s₁.heap H).Ns b m:=fun {b m} ⟨o,es,ep,e,d,r⟩=>⟨o,es,ep,base_of e (noA e d),d,r⟩
  have hKb : K.In (OC s₁.heap H) := fun b o e => base_of (KX b o e) (by
   cases q:H b with
   |none=>rfl
   |some u =>
    have e':b=a:=hA b (by rw[q];simp)
    subst e'
    rw[hK (by rw[q];simp)]at e;cases e)
  have hM:Mod K mg (OC s₁.heap H):=⟨hKb,nsK hns,⟨mb,nsK hb,hbb⟩,let ⟨mc,h1,h2⟩:=hlim;⟨mc,nsK h1,h2⟩⟩
  have e0:Wx P w K mg (OC s₁.heap H) callerA [] s₁ H:=⟨rfl,hM,fun b o e=>Xu e,mx (UE _ _),trivial,fun b hb=>absurd (show b∈([]:List Addr) from hb) (by simp),hok,.of_eq hg⟩
  refine codeAny_mono ((F _ hKb (nsK hns)).run callerA [] s₁ H ⟨[.ref a],[]⟩ [.ref a] [.ref a] _ _ hr e0 (hbind s₁ (.ref a)) (.cons rfl .nil) (hsp H hO hS)) fun r s' h=>?_
  cases r with
  |error e=>exact(hCX H e s' h).elim
  |ok fl =>
   cases fl with
   |next=>exact False.elim h
   |brk=>exact False.elim h
   |cont=>exact False.elim h
   |ret u =>
    obtain⟨v,H',os,bare,un,hok',r',q⟩:=h
    have q':v = .bl true:=q
    subst q'
    obtain rfl:u=Value.bool true:=r'
    refine⟨rfl,OldK.of_keep fun b o e=>?_,os,bare⟩
    cases q:H b with
    |none=>exact un.keep b o e q (by intro z;exact absurd (show b∈([]:List Addr) from z) (by simp)) (by simp)
    |some u =>
     rcases hO b with z|⟨ob,xs,z⟩
     ·rw[q]at z;cases z
     ·have z2:=un.frzs b ob _ z
      obtain⟨e1,_⟩:=hok b _ z
      obtain⟨e2,_⟩:=hok' b _ z2
      rw[e]at e1;cases e1
      exact e2
 cases hk:K.lookup a with
 |some o =>
  -- the script is one of the module's own objects
  have e:=KX a o hk
  rw[ha]at e
  cases e
  refine core (fun _=>none) (fun _=>.inl rfl) (.inr ⟨_,vs.toArray,_,hk,rfl,rfl,rfl,by rw[k7,lenV];exact hl,by simpa using rv⟩) (fun b u z=>by have z':(none:Option HO)=some u:=z;cases z') (fun b z=>absurd rfl z) fun z=>absurd rfl z
 |none =>
  refine core (fun b=>if b=a then some (.frz { cls:=.type "list",data:=.seq vs.toArray } (.lst (ns.map V.int))) else none) (fun b=>?_) (.inl (.inr ⟨{ cls:=.type "list",data:=.seq vs.toArray },if_pos rfl⟩)) (fun b u z=>?_) (fun b z=>?_) fun _=>hk
  ·by_cases hb:b=a
   ·exact .inr ⟨_,_,if_pos hb⟩
   ·exact .inl (if_neg hb)
  ·by_cases hb:b=a
   ·have z':=(if_pos hb).symm.trans z
    cases z'
    subst hb
    exact⟨ha,by rw[B'];exact hl,vs,_,rv,ha⟩
   ·have z':=(if_neg hb).symm.trans z
    cases z'
  ·by_cases hb:b=a
   ·exact hb
   ·exact absurd (if_neg hb) z
end L2
namespace L2
open PySem PySem.Spec PyProof.Rows
def walk_of{l:PySem.W.OpenLaw}{n k:Nat}{q:Program}{loose:List Str}{XP:(Str->Option Value)->Heap->Prop}{YP:World->Heap->Prop}{d:DefRec}{K:Params->PySem.W.Frag}{CX:World->CXT}{sp:World->Sp}{x:Str}
  (hn:l.most=some n) (hn2:n<=sizeLine) (hdf:d.params.defaults=[]) (hr:Room k callerA)
  (hY:∀(w:World) (h:Heap),YP w h->(K w.params).In h)
  (F : ∀ (w : World) (mg : Str -> Option Value) (fa : Addr) (h : Heap), (K w.params).In h -> h.Ns mainGlobals mg -> mg d.name = some (.ref fa) ->
   ∃fd:FuncData,(∀(s:Shared) (u:Value),BindsTo s fd ⟨[u],[]⟩ [(x,u)]) /\
    ∀base:Heap,(K w.params).In base->base.Ns mainGlobals mg->FnOk l.prog w (K w.params) mg base (CX w) k fa fd [x] (sp w))
  (hsp:∀(w:World) (H:Hp) (a:Addr) (ns:List Int),ns.length<=n->ey H->SqL (K w.params) H a (ns.map V.int)->sp w [.ref a] H (fun v _=>v = .bl true) fun _ _ _=>False)
  (hCX:∀(w:World) (H:Hp) (s:Shared) (e:Value) (s':Shared),CX w [] H s (fun _ _ _=>False) e s'->False) :
  PySem.W.WalkO q loose XP YP l.row.toRowW d [] (fun f vs=>PySem.call f vs):=by
 refine Att.attach_call hn hdf fun w s₀ s₁ mg mb fa o pm cd doc a vs ns G Y ho hd hcd hmg hobj hints hlen hg=>?_
 have KX:=hY w _ Y
 obtain⟨fd,hb,hF⟩:=F w mg fa _ KX G.T.g hmg
 exact V1 KX G.T.g G.T.b G.T.builtins G.T.nolimit hg hobj hints (lA hlen hn2) hr hF hb (fun H hO hS=>hsp w H a ns hlen hO hS) fun H e s'=>hCX w H s₁ e s'
end L2
namespace L2
open PySem PySem.Spec PyProof.Rows
def EL(s:Stmt):Arguments:=match s with
 |.FunctionDef _ a _ _ _ _ _ _ _ _=>a
 |_=>{ posonlyargs:=[],args:=[],vararg:=none,kwonlyargs:=[],kw_defaults:=[],kwarg:=none,defaults:=[] }
def Bk(s:Stmt):List Stmt:=match s with
 |.FunctionDef _ _ b _ _ _ _ _ _ _=>b
 |_=>[]
def AV(s:Stmt):Scope:=match s with
 |.FunctionDef _ _ _ _ _ _ sc _ _ _=>sc
 |_=>{ kind:=.function,names:=[],isGenerator:=false,isCoroutine:=false }
abbrev CX0:CXT:=fun _ _ _ _ _ _=>False
abbrev E0:XK:=fun _ _ _=>False
def Ve{X:Cx}:Jt CX0 X E0:=fun _ _ _ _ _ _ _ h=>h.elim
structure Fun(K:PySem.W.Frag)(x qual:Str)(st:Stmt)(f:Addr)(fd:FuncData):Prop where
 ex:∃(oc:Value) (od:Option Addr) (kV doc pm:Value) (an:Option Addr) (cdv ct:Value) (osl:Array (Option Value)),
  fd=PySem.W.fnOf x qual (EL st) (Bk st) (AV st) .none kV doc pm an cdv ct/\K.lookup f=some ⟨oc,od,.func fd,osl⟩/\PySem.W.codeIn K cdv qual=true
 kp:PySem.W.keepIn K (.ref f)=true
section
variable {P:Program} {w:World} {K:PySem.W.Frag} {mg:Str->Option Value} {base:Heap}
def Fun.ok{x qual:Str}{st:Stmt}{f:Addr}{fd:FuncData}{N ps:List Str}{k:Nat}{sp:Sp}(F:Fun K x qual st f fd)(S:Ee N ps (AV st))(len:∀vs H Q E,sp vs H Q E->vs.length=ps.length)
  (hbody : ∀ (cdv : Value) (A : Around) (outer : List Env) (s : Shared) (H : Hp) (vs : List V) (Q : VK) (E : XK), Room k (A.deeper (envOfC qual (AV st) s.heap.objs.size f cdv)) -> sp vs H Q E ->
   ∃t,PSs (JP CX0 P w K mg base N qual (AV st) f cdv A outer s H E).nox (Bk st) t/\t { nx:=fun _ H'=>Q .non H',rt:=Q } (start N vs) H):FnOk P w K mg base CX0 (k+1) f fd ps sp:=by
 obtain⟨oc,od,kV,doc,pm,an,cdv,ct,osl,rfl,lk,hcd⟩:=F.ex
 refine Zg lk hcd S len fun A outer s H vs Q E hr hsp=>?_
 obtain⟨t,h,q⟩:=hbody cdv A outer s H vs Q E hr hsp
 exact⟨t,h.nox,q⟩
def Fun.binds{x qual:Str}{st:Stmt}{f:Addr}{fd:FuncData}{ps:List Str}(F:Fun K x qual st f fd)
  (h:∀(kV doc pm:Value) (an:Option Addr) (cdv ct:Value) (us:List Value),us.length=ps.length->bindArgs (PySem.W.fnOf x qual (EL st) (Bk st) (AV st) .none kV doc pm an cdv ct) ⟨us,[]⟩=pure (ps.zip us)):Binds K fd ps []:=by
 obtain⟨oc,od,kV,doc,pm,an,cdv,ct,osl,rfl,lk,hcd⟩:=F.ex
 exact .all (h kV doc pm an cdv ct)
def bV{x qual:Str}{st:Stmt}{f:Addr}{oc:Value}{od an:Option Addr}{osl:Array (Option Value)}{kV doc pm cdv ct:Value}(l:K.lookup f=some ⟨oc,od,.func (PySem.W.fnOf x qual (EL st) (Bk st) (AV st) .none kV doc pm an cdv ct),osl⟩)
  (c:PySem.W.codeIn K cdv qual=true) (k:PySem.W.keepIn K (.ref f)=true):Fun K x qual st f (PySem.W.fnOf x qual (EL st) (Bk st) (AV st) .none kV doc pm an cdv ct):=⟨⟨oc,od,kV,doc,pm,an,cdv,ct,osl,rfl,l,c⟩,k⟩
end
section
variable {X:Cx}
def pv(i:Nat){x:Str}{pos:Pos}(hN:X.N[i]?=some x:=by rfl)(hv:Vis X.env.scope x:=by first|exact Or.inl rfl|exact Or.inr (Or.inl rfl)|exact Or.inr (Or.inr rfl))(hd:(x==("__debug__":Str))=false:=by decide)
  (hcd:(x==("__classdict__":Str))=false:=by decide):PE X (.Name x pos) (Dq i):=Na hN hv hd hcd
end
def Same(H H':Hp):Prop:=∀b o,H b=some o->H' b=some o
def Same.trans{H H1 H2:Hp}(a:Same H H1)(b:Same H1 H2):Same H H2:=fun c o h=>b c o (a c o h)
def Same.seq{K:PySem.W.Frag}{H H':Hp}{a:Addr}{xs:List V}(e:Same H H')(h:SqL K H a xs):SqL K H' a xs:=by
 rcases h with (h|⟨o,h⟩)|h
 ·exact .inl (.inl (e _ _ h))
 ·exact .inl (.inr ⟨o,e _ _ h⟩)
 ·exact .inr h
def Bd(n:Nat)(x:Int):Prop:=x.natAbs<2 ^ n
def Bd.mono{m n:Nat}{x:Int}(h:Bd m x)(k:m<=n):Bd n x:=kZ h (Nat.pow_le_pow_right (by decide) k)
def Bd.bits{n:Nat}{x:Int}(h:Bd n x):Builtin.Int.intBits x<=n+1:=by
 unfold Builtin.Int.intBits
 split
 ·exact lW _
 ·have:x.natAbs.log2<=n:=by
   rcases Nat.eq_zero_or_pos x.natAbs with h0|hp
   ·rw[h0];simp
   ·exact mr ((Nat.log2_lt (mK hp)).mpr h)
  omega
def Bd.log{n:Nat}{x:Int}(h:Bd n x):x.natAbs.log2<=n:=by
 rcases Nat.eq_zero_or_pos x.natAbs with h0|hp
 ·rw[h0];simp
 ·exact mr ((Nat.log2_lt (mK hp)).mpr h)
def Bd.of{n:Nat}{x m:Int}(h1:-m<=x)(h2:x<=m)(hm:m.natAbs<2 ^ n):Bd n x:=by
 unfold Bd
 omega
section
variable {X:Cx}
def CMulB(i j:Int):Prop:=CMul i j\/(Bd 8000 i/\Bd 8000 j)
def CMulB.ok{i j:Int}(h:CMulB i j):IntMulOk i j:=by
 rcases h with h|⟨h,k⟩
 ·exact h.ok
 ·have a:=h.bits
  have b:=k.bits
  have e:(2:Nat) ^ 20=1048576:=by decide
  exact IntMulOk.of_bits (by omega) (by omega)
def Xk:OpR X (binaryOp .Mult) (rI CMulB fun i j=>.int (i*j)):=opI fun _ _ _ _ _ _ _ hc q=>mul_int q hc.ok
def P2(i j:Int):Prop:=0<j/\Bd 8000 j
def Vh:OpR X (binaryOp .FloorDiv) (rI P2 fun i j=>.int (i / j)):=opI fun i j _ _ _ _ _ hc q=>by
 have:=hc.2.log
 rw[<- Int.fdiv_eq_ediv_of_nonneg _ (Int.le_of_lt hc.1)]at q
 exact floordiv_int (by have:=hc.1;omega) q (.inl (PyProof.noPylong_of_log2 (by omega)))
def Zq(i j:Int):Prop:=j≠0/\Bd 8000 j
end
mutual
def Is(H:Hp):PyData->V->Prop
 |.none,v=>v = .non
 |.bool b,v=>v = .bl b
 |.int i,v=>v = .int i
 |.str x,v=>v = .str x
 |.tuple ds,v=>∃a vs,v = .ref a/\H a=some (.tup vs)/\IsL H ds vs
 |.list ds,v=>∃a vs,v = .ref a/\H a=some (.lst vs)/\IsL H ds vs
 |.dict _,_=>False
def IsL(H:Hp):List PyData->List V->Prop
 |[],vs=>vs=[]
 |d::ds,vs=>∃x xs,vs=x::xs/\Is H d x/\IsL H ds xs
end
mutual
def Cs:PyData->Bool
 |.none=>true
 |.bool _=>true
 |.int _=>true
 |.str _=>true
 |.tuple ds=>fixDs ds
 |.list _=>false
 |.dict _=>false
def fixDs:List PyData->Bool
 |[]=>true
 |d::ds=>Cs d&&fixDs ds
end
section
variable {X:Cx} {pins:List (Addr×Obj)} {σ:St} {H:Hp} {s:Shared}
end
def okD(d:PyData):Bool:=SeqAt.shaped d
section
variable {X:Cx}
def Gn{es:List PyData}(h:okD (.list es)=true):PyData.canLayAll0 es=true/\PyData.depthAll es<=63:=by
 unfold okD SeqAt.shaped at h
 rw[Y']at h
 obtain⟨h1,h2⟩:=h
 have h3:=of_decide_eq_true h2
 simp only[PyData.depth]at h3
 exact⟨by simpa only[PyData.canLay0] using h1,by omega⟩
def Eo{d:PyData}(h:okD d=true):d.canLay0=true:=by
 unfold okD SeqAt.shaped at h
 rw[Y']at h
 exact h.1
end
structure Cal(P:Program)(w:World)(K:PySem.W.Frag)(mg:Str->Option Value)(base:Heap)(k:Nat)(x:Str)(ps:List Str)(sp:Sp):Prop where
 ex:∃f fd,FnOk P w K mg base CX0 k f fd ps sp/\Binds K fd ps []/\PySem.W.keepIn K (.ref f)=true/\mg x=some (.ref f)
def Cal.mono{P:Program}{w:World}{K:PySem.W.Frag}{mg:Str->Option Value}{base:Heap}{j k:Nat}{x:Str}{ps:List Str}{sp:Sp}(C:Cal P w K mg base j x ps sp)(h:j<=k):Cal P w K mg base k x ps sp:=by
 obtain⟨f,fd,F,b,kp,m⟩:=C.ex
 exact⟨f,fd,F.mono h,b,kp,m⟩
def Cal.of{P:Program}{w:World}{K:PySem.W.Frag}{mg:Str->Option Value}{base:Heap}{k:Nat}{x:Str}{ps:List Str}{sp:Sp}{f:Addr}{fd:FuncData}{st:Stmt}(F:Fun K x x st f fd)(ok:FnOk P w K mg base CX0 k f fd ps sp)(b:Binds K fd ps [])(m:mg x=some (.ref f)):Cal P w K mg base k x ps sp:=⟨f,fd,ok,b,F.kp,m⟩
section
variable {X:Cx} {k:Nat} {ps:List Str} {sp:Sp} {x:Str} {p pos:Pos} {e:Expr} {es:List Expr} {t:TA}
def Vb(C:Cal X.prog X.w X.K X.mg X.base k x ps sp)(hr:Room k X.A)(hg:Gl X x)(ha:PA X (e::es) t)(hdb:(x==("__debug__":Str))=false:=by decide)
  (he:starEach (e::es) X.env=(false,eval e X.env)::starEach es X.env:=by rfl) (hpl:(backTo pos (starEach es X.env)).any (·.1)=false:=by rfl) :
  PE X (.Call (.Name x p) (e::es) [] pos) (En sp [] E0 t):=by
 obtain⟨f,fd,F,b,kp,m⟩:=C.ex
 exact Sg F hr hg m kp b .nil Ve ha hdb he hpl
end
def ZV{X:Cx}{x:Str}{T:String}{pos:Pos}(hg:Gl X x)(hm:X.mg x=none)(hv:bootBuiltins x=some (.type T))(hn:x≠"__name__")(hd:(x==("__debug__":Str))=false):PE X (.Name x pos) (tC (.ty T)):=Xg hg hm hv rfl hn hd
def Xj{X:Cx}:OpR X (compareOp .IsNot) (fun x y H Q=>∃b c,x = .bl b/\y = .bl c/\Q (.bl (!(b==c))) H):=by
 intro pins s σ H x y v u Q I rx ry h
 obtain⟨b,c,rfl,rfl,q⟩:=h
 cases rx
 cases ry
 exact PyProof.Rows.isnot_bool ⟨.bl _,H,I,rfl,q⟩
def Ax{H:Hp}{p:Addr}(h:H p=none)(o:HO):Same H (upd H p o):=fun b u q=>by rw[Aq (A0 q h)];exact q
def V2{K:PySem.W.Frag}(T:String):PySem.W.kitOne K (.type T) (.type T)=some true:=by
 unfold PySem.W.kitOne
 rw[if_pos (beq_self_eq_true _)]
def bC{K:PySem.W.Frag}{t T:String}{b:Bool}(h1:(Value.type t==Value.type T)=false)(h2:PySem.W.kitMeta T=true)(h3:(PySem.fastBuiltinMro t).map (·.contains (Value.type T))=some b):PySem.W.kitOne K (.type t) (.type T)=some b:=by
 unfold PySem.W.kitOne PySem.W.kitCls
 rw[h1,if_neg kr]
 simp only[h2,if_true]
 exact h3
def OS{env:Env}:∀(names:List (Str×NameKind)) (cs:List (Str×Addr)),(∀x,(x,NameKind.free)∈names->∃c,env.cells.lookup x=some c) ->
  (∀x c,cs.lookup x=some c->env.cells.lookup x=some c) ->
  ∃ cl, (forIn names cs fun (x : Str × NameKind) (r : List (Str × Addr)) => match x with
   |(name,kind)=>if (kind==NameKind.free)=true then do let c <- cellOf env name;pure (ForInStep.yield ((name,c)::r)) else pure (ForInStep.yield r):Sem (List (Str×Addr)))=pure cl /\
   (∀x c,cl.lookup x=some c->env.cells.lookup x=some c)/\(∀x,(x,NameKind.free)∈names->∃c,cl.lookup x=some c)/\(∀x c,cs.lookup x=some c->∃c',cl.lookup x=some c')
 |[],cs,_,h2=>⟨cs,rfl,h2,fun x hx=>by simp at hx,fun x c e=>⟨c,e⟩⟩
 |(n,k)::r,cs,h1,h2=>by
  by_cases hk:k = .free
  ·subst hk
   obtain⟨c,hc⟩:=h1 n L'
   have hh:∀x c',((n,c)::cs).lookup x=some c'->env.cells.lookup x=some c':=by
    intro x c' e
    rw[lX]at e
    cases q:x==n with
    |true=>rw[q]at e;cases e;rw[eq_of_beq q];exact hc
    |false=>rw[q]at e;exact h2 x c' e
   obtain⟨cl,e,a,b,d⟩:=OS (env:=env) r ((n,c)::cs) (fun x hx=>h1 x (V' _ hx)) hh
   refine⟨cl,?_,a,fun x hx=>?_,fun x c' e'=>?_⟩
   ·rw[List.forIn_cons]
    have ec:cellOf env n=pure c:=by
     unfold cellOf
     rw[hc]
    simp only[beq_self_eq_true,if_true]
    rw[ec]
    exact e
   ·rcases kY.mp hx with z|z
    ·cases z
     exact d n c (by rw[lX,beq_self_eq_true])
    ·exact b x z
   ·cases q:x==n with
    |true=>exact d x c (by rw[lX,q])
    |false=>exact d x c' (by rw[lX,q];exact e')
  ·obtain⟨cl,e,a,b,d⟩:=OS (env:=env) r cs (fun x hx=>h1 x (V' _ hx)) h2
   refine⟨cl,?_,a,fun x hx=>?_,d⟩
   ·rw[List.forIn_cons]
    have hb:(k==NameKind.free)=false:=by simpa using hk
    simp only[hb,Bool.false_eq_true,if_false]
    exact e
   ·rcases kY.mp hx with z|z
    ·cases z;exact absurd rfl hk
    ·exact b x z
def OQ{env:Env}{scope:Scope}(h:∀x,(x,NameKind.free)∈scope.names->∃c,env.cells.lookup x=some c) :
  ∃cl,closureFor scope env=pure cl/\(∀x c,cl.lookup x=some c->env.cells.lookup x=some c)/\(∀x,(x,NameKind.free)∈scope.names->∃c,cl.lookup x=some c):=by
 obtain⟨cl,e,a,b,_⟩:=OS (env:=env) scope.names [] h (fun x c e=>by simp at e)
 refine⟨cl,?_,a,b⟩
 exact(congrArg (fun m:Sem (List (Str×Addr))=>m >>= fun r=>(pure r:Sem (List (Str×Addr)))) e).trans rfl
def UL{prog:Program}{w:World}{A:Around}{R:Result->Shared->Prop}{s:Shared}{elt target iter:Expr}{ifs:List Expr}{scope:Scope}{pos:Pos}{it acc:Value}{env:Env}(I:Nat->Shared->Prop)
  (turn : ∀ n s, I n s -> wpAny (model prog w) A (pyNext it) (fun r s₁ => match r with
   |none=>R (.ok .next) s₁
   | some v => wpAny (model prog w) A (letOwnedTupleGo target it v) (fun _ s₁ => wpAny (model prog w) A (assign target env v) (fun _ s₂ =>
     wpAny (model prog w) A (forIn ifs true fun c r => if r = true then do let ok <- isTrue c env (eval c env); pure (ForInStep.yield ok) else pure (ForInStep.yield r)) (fun ok s₃ =>
      if ok = true then wpAny (model prog w) A (eval elt env) (fun x s₄ =>
       wpAny (model prog w) A (call (.builtin "list.append") [acc,x]) (fun _ s₅=>∃m,m<n/\I m s₅) (fun _ _=>False) s₄) (fun _ _=>False) s₃
      else ∃m,m<n/\I m s₃) (fun _ _=>False) s₂) (fun _ _=>False) s₁) (fun _ _=>False) s₁) (fun _ _=>False) s)
  (n:Nat) (h:I n s) :
  codeAny (model prog w) A (.compLoop (.ListComp elt [⟨target,iter,ifs,0⟩] scope pos) 0 it acc env) R s:=by
 refine codeAny_loop rfl I (fun n s hI=>?_) n h
 show wpAny _ A ((compTurn (.ListComp elt [⟨target,iter,ifs,0⟩] scope pos) 0 it acc env).onRaise (fun x=>do noteFrame x env;theTreesLotGoes x)) _ _ s
 refine wpAny_noted ?_
 rw[compTurn_list]
 refine wpAny_bind (wpAny_standAt (wpAny_bind (wpAny_mono (turn n s hI) (fun r s₁ h₁=>?_) fun _ _ h'=>h'.elim)))
 cases r with
 |none=>exact wpAny_pure h₁
 |some v =>
  refine wpAny_bind (wpAny_mono h₁ (fun _ s₁ h₁=>?_) fun _ _ h'=>h'.elim)
  refine wpAny_bind (wpAny_mono h₁ (fun _ s₂ h₂=>wpAny_bind (wpAny_mono h₂ (fun ok s₃ h₃=>?_) fun _ _ h'=>h'.elim)) fun _ _ h'=>h'.elim)
  cases ok with
  |false=>exact wpAny_pure ⟨rfl,h₃⟩
  |true =>
   exact wpAny_bind (wpAny_bind (wpAny_mono h₃ (fun x s₄ h₄=>wpAny_bind (wpAny_mono h₄ (fun _ s₅ h₅=>wpAny_pure (wpAny_pure ⟨rfl,h₅⟩)) fun _ _ h'=>h'.elim)) fun _ _ h'=>h'.elim))
def IB{env:Env}:∀{names:List (Str×NameKind)} {x:Str} {k:NameKind},names.lookup x=some k ->
  (names.map fun(n,k)=>if (k==NameKind.free&&env.scope.kind==.function&&env.kindOf n==some .cell) then (n,NameKind.cell) else (n,k)).lookup x=some k \/
  (k = .free/\(names.map fun(n,k)=>if (k==NameKind.free&&env.scope.kind==.function&&env.kindOf n==some .cell) then (n,NameKind.cell) else (n,k)).lookup x=some .cell)
 |[],_,_,h=>by simp at h
 |(n,k')::r,x,k,h=>by
  rw[kg]
  dsimp only
  cases hx:x==n with
  |true =>
   simp only[List.lookup_cons,hx]at h
   have e:k=k':=(J' h).symm
   subst e
   by_cases hc:(k==NameKind.free&&env.scope.kind==.function&&env.kindOf n==some .cell)=true
   ·rw[if_pos hc]
    refine .inr ⟨?_,by simp only[List.lookup_cons,hx]⟩
    simp only[Bool.and_eq_true]at hc
    exact eq_of_beq hc.1.1
   ·rw[if_neg hc]
    exact .inl (by simp only[List.lookup_cons,hx])
  |false =>
   simp only[List.lookup_cons,hx]at h
   have ih:=@IB env r x k h
   by_cases hc:(k'==NameKind.free&&env.scope.kind==.function&&env.kindOf n==some .cell)=true
   ·rw[if_pos hc];simp only[List.lookup_cons,hx];exact ih
   ·rw[if_neg hc];simp only[List.lookup_cons,hx];exact ih
def F9{env:Env}:∀{names:List (Str×NameKind)} {x:Str} {k:NameKind},(∀y∈names,y.2≠.cell) ->
  (names.map fun(n,k)=>if (k==NameKind.free&&env.scope.kind==.function&&env.kindOf n==some .cell) then (n,NameKind.cell) else (n,k)).lookup x=some k->(k = .cell\/k = .free)->(x,NameKind.free)∈names
 |[],_,_,_,h,_=>by simp at h
 |(n,k')::r,x,k,nc,h,hk=>by
  rw[kg]at h
  dsimp only at h
  cases hx:x==n with
  |true =>
   have e:=eq_of_beq hx
   subst e
   by_cases hc:(k'==NameKind.free&&env.scope.kind==.function&&env.kindOf x==some .cell)=true
   ·simp only[Bool.and_eq_true]at hc
    rw[eq_of_beq hc.1.1]
    exact L'
   ·rw[if_neg hc,lX,hx]at h
    cases h
    rcases hk with rfl|rfl
    ·exact absurd rfl (nc _ L')
    ·exact L'
  |false =>
   refine V' _ (F9 (env:=env) (fun y hy=>nc y (V' _ hy)) ?_ hk)
   by_cases hc:(k'==NameKind.free&&env.scope.kind==.function&&env.kindOf n==some .cell)=true
   ·rw[if_pos hc,lX,hx]at h;exact h
   ·rw[if_neg hc,lX,hx]at h;exact h
def Gv{scope:Scope}{env:Env}{x:Str}(h:scope.names.lookup x=some .local):(relabel scope env).names.lookup x=some .local:=lookup_relabel_local h
def XM{scope:Scope}{env:Env}{x:Str}(h:scope.names.lookup x=some .globalImplicit):(relabel scope env).names.lookup x=some .globalImplicit:=by
 rcases IB (env:=env) h with z|⟨z,_⟩
 ·exact z
 ·cases z
def NV{scope:Scope}{env:Env}{x:Str}(h:scope.names.lookup x=some .free):(relabel scope env).names.lookup x=some .cell\/(relabel scope env).names.lookup x=some .free:=by
 rcases IB (env:=env) h with z|⟨_,z⟩
 ·exact .inr z
 ·exact .inl z
def JS{scope:Scope}{env:Env}{x:Str}(h:scope.names.lookup x=some .local):Vis (relabel scope env) x:=.inl (Gv h)
def Uj{scope:Scope}{env:Env}{x:Str}(h:scope.names.lookup x=some .free):Vis (relabel scope env) x:=(NV h).elim (fun z=>.inr (.inl z)) fun z=>.inr (.inr z)
def M6{scope:Scope}{env:Env}{x:Str}(h:scope.names.lookup x=some .local):Loc (relabel scope env) x:=.inl (Gv h)
def blk(own:Nat)(fr:List Nat)(σ:St):St:=List.replicate own none++fr.map fun j=>(σ[j]?).join
def cxC(X:Cx)(N':List Str)(scope:Scope)(cl:List (Str×Addr))(fp:List Addr)(s3:Shared)(H3:Hp):Cx:={ X with
 N:=N',s₀:=s3,H₀:=H3,env:=compEnvC scope cl s3.heap.objs.size X.env,outer:=X.stack,stack:=X.stack,ex:=fp,fn:=fun _=>false,pn:=[],xe:=fun _ _=>False }
structure R5(X:Cx)(N':List Str)(own:Nat)(fr:List Nat)(scope:Scope):Prop where
 kind:scope.kind = .function
 len:N'.length=own+fr.length
 cell:∀y∈scope.names,y.2≠.cell
 names:∀y∈scope.names,y.2 = .local->scope.names.lookup y.1=some .local
 free:∀x,(x,NameKind.free)∈scope.names->X.env.scope.names.lookup x=some .cell\/X.env.scope.names.lookup x=some .free
 slot:∀k j,fr[k]?=some j->∃x,N'[own+k]?=some x/\X.N[j]?=some x/\scope.names.lookup x=some .free
def Y5{own:Nat}{fr:List Nat}{σ:St}{i:Nat}{v:V}(h:(blk own fr σ)[i]?=some (some v)):∃k j,i=own+k/\fr[k]?=some j/\σ[j]?=some (some v):=by
 unfold blk at h
 by_cases hi:i<own
 ·rw[ke (by simpa using hi),lG,if_pos hi]at h
  cases h
 ·rw[kx (by simpa using hi),lT,O']at h
  cases e:fr[i-own]? with
  |none=>rw[e]at h;cases h
  |some j =>
   rw[e]at h
   simp only[Option.map_some,Option.some.injEq]at h
   refine⟨i-own,j,by omega,e,?_⟩
   cases q:σ[j]? with
   |none=>rw[q]at h;cases h
   |some o=>rw[q]at h;cases o with
    |none=>cases h
    |some u=>cases h;rfl
section
variable {X:Cx} {N':List Str} {own:Nat} {fr:List Nat} {scope:Scope}
def X9{pins:List (Addr×Obj)}{σ:St}{H3:Hp}{s3:Shared}{cl:List (Str×Addr)}{fp:List Addr}{h4:Heap}{tk:Nat}(ok:R5 X N' own fr scope)(I:Inv X pins σ H3 s3)(f2:∀b∈fp,IY X pins H3 b)(flt:∀b∈fp,b<s3.heap.objs.size)
  (cl1:∀x c,cl.lookup x=some c->X.env.cells.lookup x=some c) (cl2:∀x,(x,NameKind.free)∈scope.names->∃c,cl.lookup x=some c)
  (m4:Str->Option Value) (n4:h4.Ns s3.heap.objs.size m4) (k4:∀b o,s3.heap.get? b=some o->h4.get? b=some o) :
  Inv (cxC X N' scope cl fp s3 H3) [] (blk own fr σ) H3 { s3 with heap:=h4,toks:=tk }:=by
 have stk:∀b,b∈frs X.stack->b∈X.env.locals::X.fs:=I.stkSub
 have exfs:∀b∈fp,b∉frs X.stack:=fun b hb z=>by
  rcases kY.mp (stk b z)with e|e
  ·exact(f2 b hb).2.1 e
  ·exact(f2 b hb).2.2.1 e
 have okk:(cxC X N' scope cl fp s3 H3).Ok:=by
  refine ⟨I.ok.mod, ok.kind, I.ok.glob, I.ok.blt, X' _, fun x y c e1 e2 => I.ok.inj x y c (cl1 x c e1) (cl1 y c e2), fun x hx => ?_, fun x c hf => ?_, I.ok.hd, I.ok.frames, .inl rfl, fun b hb => ⟨lE (flt b hb), fun x c e => (f2 b hb).2.2.2.2.1 x c (cl1 x c e)⟩,
   I.bs,lA I.ok.bsz I.sz,fun b o e hb=>?_,exfs,I.stack,I.stkFree⟩
  ·refine cl2 x ?_
   have hx:(relabel scope X.env).names.lookup x=some .cell\/(relabel scope X.env).names.lookup x=some .free:=hx
   rcases hx with hx|hx
   ·exact F9 (env:=X.env) ok.cell hx (.inl rfl)
   ·exact F9 (env:=X.env) ok.cell hx (.inr rfl)
  ·exact absurd (show false=true from hf) kr
  ·rcases(f2 b hb).2.2.2.1 with z|z
   ·exact I.ok.noex b o e z
   ·exact absurd (kZ (i' e) (lA I.ok.bsz z)) (lM _)
 refine⟨okk,rfl,I.bare,Un.kept k4,⟨m4,n4,fun i x v e1 e2 e3=>?_⟩,fun x c e=>?_,I.hok.fresh (X' _),fun x c e=>I.freeC x c (cl1 x c e),fun p hp=>absurd (show p∈([]:List (Addr×Obj)) from hp) (by simp),I.hok.kept k4,?_⟩
 ·obtain⟨k,j,rfl,ej,es⟩:=Y5 e2
  obtain⟨y,y1,y2,y0⟩:=ok.slot k j ej
  have y3:=lQ y0
  rw[show(cxC X N' scope cl fp s3 H3).N=N' from rfl,y1]at e1
  cases e1
  obtain⟨m,hn,hl⟩:=I.loc
  have vis:Vis X.env.scope x:=(ok.free x y3).elim (fun z=>.inr (.inl z)) fun z=>.inr (.inr z)
  obtain⟨u,r,l⟩:=hl j x v y2 es vis
  refine⟨u,r,?_⟩
  rcases l with ⟨l,_⟩|⟨_,c,ec,z⟩
  ·exfalso
   have l':X.env.scope.names.lookup x=some .local:=l
   rcases ok.free x y3 with q|q
   ·rw[q]at l';cases l'
   ·rw[q]at l';cases l'
  ·obtain⟨c',ec'⟩:=cl2 x y3
   have:=cl1 x c' ec'
   rw[ec]at this
   cases this
   obtain⟨o,ho,hd⟩:=z
   refine .inr ⟨?_,c,ec',⟨o,k4 c o ho,hd⟩⟩
   rcases e3 with z|z|z
   ·exfalso
    have z':(relabel scope X.env).names.lookup x=some .local:=z
    rcases NV (env:=X.env) y0 with q|q
    ·rw[z']at q;cases q
    ·rw[z']at q;cases q
   ·exact .inl z
   ·exact .inr z
 ·obtain⟨v,o,ho,hd⟩:=I.cell x c (cl1 x c e)
  exact⟨v,o,k4 c o ho,hd⟩
 ·show(blk own fr σ).length=N'.length
  unfold blk
  rw[T',lT,B',ok.len]
end
def PTs(X:Cx)(ifs:List Expr)(tc:TT):Prop :=
 ∀(pins:List (Addr×Obj)) (s:Shared) (σ:St) (H:Hp) (Q:Bool->Hp->Prop),Inv X pins σ H s->tc σ H Q->wpAny (model X.prog X.w) X.A (forIn ifs true fun c r=>if r=true then do let ok <- isTrue c X.env (eval c X.env);pure (ForInStep.yield ok) else pure (ForInStep.yield r)) (TP X pins σ Q) X.xe s
def fP:TT:=fun _ H Q=>Q true H
def XU{X:Cx}:PTs X [] fP:=fun pins s σ H Q I h=>wpAny_tests_nil ⟨H,I,h⟩
def Sb{X:Cx}{c:Expr}{tc:TT}(h:PT X c tc):PTs X [c] tc:=fun pins s σ H Q I hq=>wpAny_tests_one (h pins s σ H Q I hq)
def gP(own:Nat)(fr:List Nat)(g:TG)(tc:TT)(te:TE)(J:It)(σ:St)(H1:Hp)(Q:VK):Prop:=∀D,H1 D=none->∃W:Nat->Nat->List V->St->Hp->Prop,(∃m,W 0 m [] (blk own fr σ) (upd H1 D (.lst [])))/\∀i m ys σ' H',W i m ys σ' H' ->
 (J.stop i H' /\ Q (.ref D) H') \/ (J.go i H' /\ ∀ x H2, J.yld i H' x H2 -> g x σ' H2 fun σ3 H3 => tc σ3 H3 fun b H4 => if b = true then te σ3 H4 fun y H5 => H5 D = some (.lst ys) /\ ys.length < sizeLine /\ ∃ m', m' < m /\ W (i + 1) m' (ys ++ [y]) σ3 (upd H5 D (.lst (ys ++ [y])))
  else ∃m',m'<m/\W (i+1) m' ys σ3 H4)
def tLC(own:Nat)(fr:List Nat)(wi:TI)(g:TG)(tc:TT)(te:TE):TE:=fun σ H Q=>wi σ H fun J H1=>gP own fr g tc te J σ H1 Q
structure Own(X:Cx)(pins:List (Addr×Obj))(C:Addr)(H:Hp)(s:Shared):Prop where
 ns:∃m,s.heap.Ns C m
 hn:H C=none
 ne:C≠X.env.locals
 ab:X.s₀.heap.objs.size<=C
 nc:∀x c,X.env.cells.lookup x=some c->c≠C
 np:∀p∈X.pn++pins,p.1≠C
structure Wu(G:Cx->Prop)(P:Program)(w:World)(K:PySem.W.Frag)(tg:Expr)(J:It)(fp:List Addr)(it:Addr)(tn:Nat->Heap->Prop):Prop where
 obj:∀i h,tn i h->∀b∈fp,∃o,h.get? b=some o/\∀v,o.data≠.cell v
 keep:∀i h h',tn i h->(∀b∈fp,∀o,h.get? b=some o->h'.get? b=some o)->tn i h'
 item:∀(X:Cx),X.prog=P->X.w=w->X.K=K->G X->∀(i:Nat) (pins:List (Addr×Obj)) (s:Shared) (σ:St) (H:Hp) (E:Value->Shared->Prop),Inv X pins σ H s->(∀b∈fp,IY X pins H b)->tn i s.heap->J.go i H ->
  wpAny (model P w) X.A (pyNext (.ref it)) (fun r s1 => ∃ u, r = some u /\
   wpAny (model P w) X.A (letOwnedTupleGo tg (.ref it) u) (fun _ s2=>∃x H',Inv X pins σ H' s2/\RelV x u/\J.yld i H x H'/\tn (i+1) s2.heap/\∀b∈fp,H' b=none) E s1) E s
 done:∀(X:Cx),X.prog=P->X.w=w->X.K=K->G X->∀(i:Nat) (pins:List (Addr×Obj)) (s:Shared) (σ:St) (H:Hp) (E:Value->Shared->Prop),Inv X pins σ H s->(∀b∈fp,IY X pins H b)->tn i s.heap->J.stop i H ->
  wpAny (model P w) X.A (pyNext (.ref it)) (fun r s1=>r=none/\Inv X pins σ H s1) E s
 self:∀(A:Around) (i:Nat) (s:Shared) (Q:Value->Shared->Prop) (E:Value->Shared->Prop),tn i s.heap->Q (.ref it) s->wpAny (model P w) A (pyIter (.ref it)) Q E s
def Turn.g{P:Program}{w:World}{K:PySem.W.Frag}{tg:Expr}{J:It}{fp:List Addr}{it:Addr}{tn:Nat->Heap->Prop}(T:Turn P w K tg J fp it tn):Wu (fun X=>X.calm=true) P w K tg J fp it tn:=⟨T.obj,T.keep,T.item,T.done,T.self⟩
section
variable {X:Cx} {N':List Str} {own:Nat} {fr:List Nat} {scope:Scope} {elt tg iter:Expr} {ifs:List Expr} {pos:Pos}
def Own.go{pins:List (Addr×Obj)}{σ:St}{H:Hp}{s:Shared}{C:Addr}{h':Heap}(O:Own X pins C H s)(I:Inv X pins σ H s)(sb:Heap.SameBut C s.heap h'):Inv X pins σ H { s with heap:=h' } :=
 I.turned (t':=s.toks) (fun b o hb e=>sb.extBut b o hb e) O.hn O.ne (.inr O.ab) O.nc O.np
def MC{G:Cx->Prop}{pins:List (Addr×Obj)}{σ:St}{H2:Hp}{s2:Shared}{J:It}{fp:List Addr}{it:Addr}{tn:Nat->Heap->Prop}{cl:List (Str×Addr)}{Q:VK}{g:TG}{tc:TT}{te:TE}{RR:Value->Addr->Result->Shared->Prop}{E:Value->Shared->Prop}
  (hc:∀s3 H3,Inv X pins σ H3 s3->G (cxC X N' scope cl fp s3 H3)) (ok:R5 X N' own fr scope) (I2:Inv X pins σ H2 s2) (T:Wu G X.prog X.w X.K tg J fp it tn) (st2:tn 0 s2.heap) (f2:∀b∈fp,IY X pins H2 b)
  (cl1:∀x c,cl.lookup x=some c->X.env.cells.lookup x=some c) (cl2:∀x,(x,NameKind.free)∈scope.names->∃c,cl.lookup x=some c)
  (hg:∀fp s3 H3,PG (cxC X N' scope cl fp s3 H3) tg g) (ht:∀fp s3 H3,PTs (cxC X N' scope cl fp s3 H3) ifs tc) (he:∀fp s3 H3,PE (cxC X N' scope cl fp s3 H3) elt te)
  (h:gP own fr g tc te J σ H2 Q)
  (fin:∀D C s' H',Inv X pins σ H' s'->Own X pins C H' s'->Q (.ref D) H'->RR (.ref D) C (.ok .next) s') :
  wpAny (model X.prog X.w) X.A (newList []) (fun acc s₃ => wpAny (model X.prog X.w) X.A (newFunctionEnv scope X.env.globals cl [] X.env.qual none .none (some X.env)) (fun cenv s₄ =>
   codeAny (model X.prog X.w) X.A (.compStart (.ListComp elt [⟨tg,iter,ifs,0⟩] scope pos) 0 (.ref it) acc { cenv with scope:=relabel scope X.env }) (RR acc cenv.locals) s₄) E s₃) E s2:=by
 obtain⟨W,⟨m0,w0⟩,turn⟩:=h s2.heap.objs.size (I2.hok.fresh (X' _))
 refine wpAny_newObj_type (wpAny_newFunctionEnv ok.cell (by intro y hy;simp at hy) (fun h₁ hns₁ hsb₁=>?_) ok.kind)
 dsimp only at hns₁ hsb₁ ⊢
 have I3:Inv X pins σ (upd H2 s2.heap.objs.size (.lst [])) { s2 with heap:=s2.heap.push { cls:=.type "list",dict:=none,data:=.seq ([]:List Value).toArray } } :=
  I2.laid (t':=s2.toks) (fun b u e=>U' _ e) (X' _) ⟨lW _,[],0,.nil,kb _ rfl⟩
 generalize hH3:upd H2 s2.heap.objs.size (.lst [])=H3 at w0 I3
 generalize hS3:({ s2 with heap:=s2.heap.push { cls:=.type "list",dict:=none,data:=.seq ([]:List Value).toArray } }:Shared)=S3 at I3
 have e3:s2.heap.push { cls:=.type "list",dict:=none,data:=.seq ([]:List Value).toArray }=S3.heap:=by rw[<- hS3]
 have k23:∀b o,s2.heap.get? b=some o->S3.heap.get? b=some o:=fun b o e=>by rw[<- e3];exact U' _ e
 rw[e3]at hns₁ hsb₁ ⊢
 have st3:tn 0 S3.heap:=T.keep _ _ _ st2 fun b _ o e=>k23 b o e
 have flt:∀b∈fp,b<S3.heap.objs.size:=fun b hb=>by
  obtain⟨o,e,_⟩:=T.obj _ _ st3 b hb
  exact i' e
 have flt2:∀b∈fp,b<s2.heap.objs.size:=fun b hb=>by
  obtain⟨o,e,_⟩:=T.obj _ _ st2 b hb
  exact i' e
 have f3:∀b∈fp,IY X pins H3 b:=fun b hb=>by
  refine⟨?_,(f2 b hb).2⟩
  rw[<- hH3,Aq (lE (flt2 b hb))]
  exact(f2 b hb).1
 have k34:∀b o,S3.heap.get? b=some o->h₁.get? b=some o:=fun b o e=>hsb₁.extBut b o (lE (i' e)) (U' _ e)
 have I4:Inv (cxC X N' scope cl fp S3 H3) [] (blk own fr σ) H3 { S3 with heap:=h₁,toks:=s2.toks+([]:List (Str×Value)).length }:=X9 ok I3 f3 flt cl1 cl2 _ hns₁ k34
 have st4:tn 0 h₁:=T.keep _ _ _ st3 fun b _ o e=>k34 b o e
 -- back in the def
 have back:∀{σ' H' s'},Inv (cxC X N' scope cl fp S3 H3) [] σ' H' s'->Inv X pins σ H' s'/\Own X pins S3.heap.objs.size H' s':=fun {σ' H' s'} I'=>by
  have J1:Inv X pins σ H' s':=I3.call' I'.os I'.base I'.hok I'.bare fun b hb=>⟨(f3 b hb).2.2.2.1,(f3 b hb).2.1,(f3 b hb).2.2.2.2⟩
  refine⟨J1,⟨let ⟨m,hn,_⟩:=I'.loc;⟨m,hn⟩,I'.free,mK I3.lt,I3.sz,fun x c e z=>?_,fun p hp z=>?_⟩⟩
  ·obtain⟨v,q⟩:=I3.cell x c e
   exact absurd q.lt (by rw[z];exact lM _)
  ·exact absurd (i' (I3.pin p hp).1) (by rw[z];exact lM _)
 have stat:∀{H':Hp},(∀b∈fp,H' b=none)->∀b∈fp,IY (cxC X N' scope cl fp S3 H3) [] H' b:=fun hn b hb =>
  ⟨hn b hb,(I4.ok.exf b hb).1,I4.ok.exfs b hb,.inl hb,(I4.ok.exf b hb).2,fun p hp=>absurd (show p∈([]:List (Addr×Obj)) from hp) (by simp)⟩
 have loop:codeAny (model X.prog X.w) X.A (.compLoop (.ListComp elt [⟨tg,iter,ifs,0⟩] scope pos) 0 (.ref it) (.ref s2.heap.objs.size) (cxC X N' scope cl fp S3 H3).env) (RR (.ref s2.heap.objs.size) S3.heap.objs.size) { S3 with heap:=h₁,toks:=s2.toks+([]:List (Str×Value)).length }:=by
  refine UL (fun n s'=>∃i ys σ' H',Inv (cxC X N' scope cl fp S3 H3) [] σ' H' s'/\tn i s'.heap/\(∀b∈fp,H' b=none)/\W i n ys σ' H') ?_ m0 ⟨0,[],_,H3,I4,st4,fun b hb=>(f3 b hb).1,w0⟩
  rintro n s5 ⟨i,ys,σ5,H5,I5,st5,fr5,w5⟩
  rcases turn i n ys σ5 H5 w5 with ⟨stop,qn⟩|⟨go,step⟩
  ·refine thn (T.done (cxC X N' scope cl fp S3 H3) rfl rfl rfl (hc _ _ I3) i [] s5 σ5 H5 (fun _ _=>False) I5 (stat fr5) st5 stop) fun r s6 ⟨hr,I6⟩=>?_
   subst hr
   obtain⟨J1,O⟩:=back I6
   exact fin _ _ s6 H5 J1 O qn
  ·refine thn (T.item (cxC X N' scope cl fp S3 H3) rfl rfl rfl (hc _ _ I3) i [] s5 σ5 H5 (fun _ _=>False) I5 (stat fr5) st5 go) fun r s6 ⟨u,hr,h6⟩=>?_
   subst hr
   refine thn h6 fun _ s7 ⟨x,H7,I7,r7,y7,st7,fr7⟩=>?_
   have I7':=I7.pinned (stat fr7) (T.obj _ _ st7)
   refine thn (hg fp S3 H3 _ s7 σ5 H7 x u _ I7' r7 (step x H7 y7)) fun _ s8 ⟨σ8,H8,I8,q8⟩=>?_
   refine thn (ht fp S3 H3 _ s8 σ8 H8 _ I8 q8) fun b s9 ⟨H9,I9,q9⟩=>?_
   have again:∀{σ' H' s' m' ys'},m'<n->Inv (cxC X N' scope cl fp S3 H3) ([]++Lc fp s7.heap) σ' H' s'->W (i+1) m' ys' σ' H'->∃m,m<n/\∃i ys σ' H',Inv (cxC X N' scope cl fp S3 H3) [] σ' H' s'/\tn i s'.heap/\(∀b∈fp,H' b=none)/\W i m ys σ' H':=fun {σ' H' s' m' ys'} hm I' w'=>by
    refine⟨m',hm,i+1,ys',σ',H',I'.unpinned,T.keep _ _ _ st7 fun b hb o e=>(I'.pin (b,o) (P' _ (P' _ (GA hb e)))).1,fun b hb=>?_,w'⟩
    obtain⟨o,e,d⟩:=T.obj _ _ st7 b hb
    exact(I'.pin (b,o) (P' _ (P' _ (GA hb e)))).2.1
   cases b with
   |false =>
    rw[if_neg kr]at q9 ⊢
    obtain⟨m',hm,w9⟩:=q9
    exact again hm I9 w9
   |true =>
    rw[if_pos rfl]at q9 ⊢
    refine thn (he fp S3 H3 _ s9 σ8 H9 _ I9 q9) fun v s10 ⟨y,H10,I10,r10,q10⟩=>?_
    obtain⟨hD,hz,m',hm,w10⟩:=q10
    refine thn (JZ (X:=cxC X N' scope cl fp S3 H3) _ s10 σ8 H10 (.ref s2.heap.objs.size) [y] (.ref s2.heap.objs.size) [v] (fun _ H'=>W (i+1) m' (ys++[y]) σ8 H') I10 rfl (.cons r10 .nil) ⟨_,ys,y,rfl,rfl,hD,hz,w10⟩) fun v' s11 ⟨_,H11,I11,_,q11⟩=>?_
    exact again hm I11 q11
 subst hS3
 exact codeAny_compStart_list loop (T.self _ 0 _ _ _ st4 loop)
def fk{wi:TI}{g:TG}{tc:TT}{te:TE}(hc:X.calm=true)(ok:R5 X N' own fr scope)(hi:PI X tg iter wi)
  (hg:∀cl fp s3 H3,PG (cxC X N' scope cl fp s3 H3) tg g) (ht:∀cl fp s3 H3,PTs (cxC X N' scope cl fp s3 H3) ifs tc) (he:∀cl fp s3 H3,PE (cxC X N' scope cl fp s3 H3) elt te)
  (hs:∀x,foldedSetIterable iter X.env x=pure x:=by intro _;rfl):PE X (.ListComp elt [⟨tg,iter,ifs,0⟩] scope pos) (tLC own fr wi g tc te):=by
 intro pins s σ H Q I h
 obtain⟨cl,ecl,cl1,cl2⟩:=OQ (env:=X.env) (scope:=scope) fun x hx=>I.ok.has x (ok.free x hx)
 rw[eval_ListComp]
 refine wpAny_comprehension_free (use:=none) rfl hs ecl ok.kind ok.names (thn (hi pins s σ H _ I h) fun v s1 h1=>thn h1 fun itv s2 h2=>?_)
 obtain⟨it,fp,tn,J,H2,rfl,I2,T,st2,f2,h2⟩:=h2
 refine MC (RR:=fun acc C=>compPost (model X.prog X.w) X.A X.xe none (EP X pins σ Q) acc C) (fun _ _ _=>hc) ok I2 T.g st2 f2 cl1 cl2 (hg cl) (ht cl) (he cl) h2 ?_
 intro D C s' H' J1 O q
 obtain⟨m,hn⟩:=O.ns
 exact⟨m,hn,fun h'' sb=>⟨.ref D,H',O.go J1 sb,rfl,q⟩⟩
def VN{wi:TI}{g:TG}{tc:TT}{te:TE}{i:Nat}{y:Str}{py spos:Pos}(hN:X.N.Nodup)(hiN:X.N[i]?=some y)(hy:X.env.scope.names.lookup y=some .local)(hc:X.calm=true)(ok:R5 X N' own fr scope)(hi:PI X tg iter wi)
  (hg:∀cl fp s3 H3,PG (cxC X N' scope cl fp s3 H3) tg g) (ht:∀cl fp s3 H3,PTs (cxC X N' scope cl fp s3 H3) ifs tc) (he:∀cl fp s3 H3,PE (cxC X N' scope cl fp s3 H3) elt te)
  (hsw:swapsWith (.ListComp elt [⟨tg,iter,ifs,0⟩] scope pos) (some (.Name y py)) spos.line X.env=pure true)
  (hs:∀x,foldedSetIterable iter X.env x=pure x:=by intro _;rfl):PS X (.Assign [.Name y py] (.ListComp elt [⟨tg,iter,ifs,0⟩] scope pos) spos) (fun D σ H=>tLC own fr wi g tc te σ H fun v H'=>D.nx (σ.set i (some v)) H'):=by
 intro pins s σ H D I h
 obtain⟨cl,ecl,cl1,cl2⟩:=OQ (env:=X.env) (scope:=scope) fun x hx=>I.ok.has x (ok.free x hx)
 rw[exec_Assign_Name_used _ _ _ _ hsw]
 refine wpAny_bind (wpAny_standAt (wpAny_bind ?_))
 show wpAny _ _ (do let _ <- comprehension (.ListComp elt [⟨tg,iter,ifs,0⟩] scope pos) scope X.env _ (newList []) false (eval iter X.env) (some (assign (.Name y py) X.env))) _ _ s
 refine wpAny_bind (wpAny_mono (wpAny_comprehension_free (use := some (assign (.Name y py) X.env)) (Q := fun _ s' => SP X pins D .next s') rfl hs ecl ok.kind ok.names
  (thn (hi pins s σ H _ I h) fun v s1 h1=>thn h1 fun itv s2 h2=>?_)) (fun _ s' hq=>wpAny_pure (wpAny_pure hq)) fun _ _ e=>e)
 obtain⟨it,fp,tn,J,H2,rfl,I2,T,st2,f2,h2⟩:=h2
 refine MC (RR:=fun acc C=>compPost (model X.prog X.w) X.A X.xe (some (assign (.Name y py) X.env)) (fun _ s'=>SP X pins D .next s') acc C) (fun _ _ _=>hc) ok I2 T.g st2 f2 cl1 cl2 (hg cl) (ht cl) (he cl) h2 ?_
 intro D' C s' H' J1 O q
 show wpAny _ _ (assign (.Name y py) X.env (.ref D')) _ _ _
 refine wpAny_assign_Name (JV J1 hN hiN (.inl hy) (v:=.ref D') rfl (fun s'' J2 sb=>?_) (.inr hy))
 obtain⟨m,hn⟩:=O.ns
 obtain⟨a,sb,ha⟩:=sb
 have nea:C≠a:=by
  rcases ha with ha|ha
  ·rw[ha];exact O.ne
  ·exact fun z=>O.nc y a ha z.symm
 refine⟨m,hn.sameBut sb nea,fun h'' sb'=>?_⟩
 have O2:Own X pins C H' s'':=⟨⟨m,hn.sameBut sb nea⟩,O.hn,O.ne,O.ab,O.nc,O.np⟩
 exact⟨_,H',O2.go J2 sb',q⟩
end
end L2
end
section
namespace DL
open PySem L2 PyProof.Rows
structure KW where
 fr:PySem.W.Frag
 w:World
instance:CoeOut KW PySem.W.Frag:=⟨KW.fr⟩
abbrev Gi(X:Cx):KW:=⟨X.K,X.w⟩
def hT(ks:List Int):Int:=reduceHash (Builtin.Tuple.tupleHashOf (ks.map hashInt))
def Xd(a:Addr)(ts:List (List Int×Addr×V))(ep:Nat):Heap->Prop:=fun h=>(a==sysModules)=false/\ts.length<=sizeLine/\(ts.map (·.1)).Nodup /\
 ∃xs:List (List Int×Addr×Value),Paired (fun(t:List Int×Addr×V) (x:List Int×Addr×Value)=>t.1=x.1/\t.2.1=x.2.1/\RelV t.2.2 x.2.2) ts xs /\
  ∃(o:Obj) (es:Array DictEntry),h.get? a=some o/\o.ExactDict/\o.data = .dict es ep/\es.toList=xs.map fun x=>⟨hT x.1,.ref x.2.1,x.2.2⟩
def HD(H:Hp)(a:Addr)(ts:List (List Int×Addr×V)):Prop:=∃ep,H a=some (.ext (Xd a ts ep))
def txK(ts:List (Str×V)):List (Key×V):=ts.map fun t=>(Sum.inr t.1,t.2)
mutual
def Is(K:KW)(H:Hp):PyData->V->Prop
 |.none,v=>v = .non
 |.bool b,v=>v = .bl b
 |.int i,v=>v = .int i
 |.str x,v=>v = .str x
 |.tuple ds,v=>∃a vs,v = .ref a/\SqT K H a vs/\IsL K H ds vs
 |.list ds,v=>∃a vs,v = .ref a/\H a=some (.lst vs)/\IsL K H ds vs
 |.dict kvs,v=>∃a ts,v = .ref a/\HD H a ts/\IsKV K H kvs ts
def IsL(K:KW)(H:Hp):List PyData->List V->Prop
 |[],vs=>vs=[]
 |d::ds,vs=>∃x xs,vs=x::xs/\Is K H d x/\IsL K H ds xs
def IsKV(K:KW)(H:Hp):List (PyData×PyData)->List (List Int×Addr×V)->Prop
 |[],ts=>ts=[]
 |(k,d)::r,ts=>∃t tr,ts=t::tr/\k = .tuple (t.1.map PyData.int)/\SqT K H t.2.1 (t.1.map V.int)/\Is K H d t.2.2/\IsKV K H r tr
end
def Same.tup{K:KW}{H H':Hp}{a:Addr}{xs:List V}(e:Same H H')(h:SqT K H a xs):SqT K H' a xs:=by
 rcases h with (h|⟨o,h⟩)|h
 ·exact .inl (.inl (e _ _ h))
 ·exact .inl (.inr ⟨o,e _ _ h⟩)
 ·exact .inr h
def TSm(H H':Hp):Prop:=∀b o,H b=some o->(∀xs,o≠.lst xs)->(∀φ,o≠.ext φ)->H' b=some o
def TSm.tup{K:KW}{H H':Hp}{a:Addr}{xs:List V}(e:TSm H H')(h:SqT K H a xs):SqT K H' a xs:=by
 rcases h with (h|⟨o,h⟩)|h
 ·exact .inl (.inl (e _ _ h (fun _ z=>by cases z) fun _ z=>by cases z))
 ·exact .inl (.inr ⟨o,e _ _ h (fun _ z=>by cases z) fun _ z=>by cases z⟩)
 ·exact .inr h
section
variable {K:KW}
mutual
theorem Is.mono{H H':Hp}(s:Same H H'):∀{d:PyData} {v:V},Is K H d v->Is K H' d v
 |.none,_,h=>h
 |.bool _,_,h=>h
 |.int _,_,h=>h
 |.str _,_,h=>h
 |.tuple _,_,⟨a,vs,e,h,l⟩=>⟨a,vs,e,Same.tup s h,IsL.mono s l⟩
 |.list _,_,⟨a,vs,e,h,l⟩=>⟨a,vs,e,s _ _ h,IsL.mono s l⟩
 |.dict _,_,⟨a,ts,e,⟨ep,h⟩,l⟩=>⟨a,ts,e,⟨ep,s _ _ h⟩,IsKV.mono s l⟩
theorem IsL.mono{H H':Hp}(s:Same H H'):∀{ds:List PyData} {vs:List V},IsL K H ds vs->IsL K H' ds vs
 |[],_,h=>h
 |_::_,_,⟨x,xs,e,h,l⟩=>⟨x,xs,e,Is.mono s h,IsL.mono s l⟩
theorem IsKV.mono{H H':Hp}(s:Same H H'):∀{kvs:List (PyData×PyData)} {ts:List (List Int×Addr×V)},IsKV K H kvs ts->IsKV K H' kvs ts
 |[],_,h=>h
 |(_,_)::_,_,⟨t,tr,e,ek,hk,h,l⟩=>⟨t,tr,e,ek,Same.tup s hk,Is.mono s h,IsKV.mono s l⟩
end
mutual
theorem Is.monoT{H H':Hp}(s:TSm H H'):∀{d:PyData} {v:V},Cs d=true->Is K H d v->Is K H' d v
 |.none,_,_,h=>h
 |.bool _,_,_,h=>h
 |.int _,_,_,h=>h
 |.str _,_,_,h=>h
 |.tuple _,_,f,⟨a,vs,e,h,l⟩=>⟨a,vs,e,s.tup h,IsL.monoT s f l⟩
 |.list _,_,f,_=>absurd f kr
 |.dict _,_,f,_=>absurd f kr
theorem IsL.monoT{H H':Hp}(s:TSm H H'):∀{ds:List PyData} {vs:List V},fixDs ds=true->IsL K H ds vs->IsL K H' ds vs
 |[],_,_,h=>h
 |d::ds,_,f,⟨x,xs,e,h,l⟩=>⟨x,xs,e,Is.monoT s (by rw[fixDs,Y']at f;exact f.1) h,IsL.monoT s (by rw[fixDs,Y']at f;exact f.2) l⟩
end
def IsL.length{H:Hp}:∀{ds:List PyData} {vs:List V},IsL K H ds vs->vs.length=ds.length
 |[],_,h=>by rw[show _=[] from h];rfl
 |_::_,_,⟨x,xs,e,_,l⟩=>by rw[e,kX,kX,IsL.length l]
def IsL.get{H:Hp}:∀{ds:List PyData} {vs:List V} {i:Nat} {d:PyData},IsL K H ds vs->ds[i]?=some d->∃v,vs[i]?=some v/\Is K H d v
 |[],_,_,_,_,e=>by simp at e
 |d::ds,_,0,_,⟨x,xs,e,h,l⟩,q=>by
  subst e
  simp at q
  subst q
  exact⟨x,rfl,h⟩
 |d::ds,_,i+1,_,⟨x,xs,e,h,l⟩,q=>by
  subst e
  obtain⟨v,a,b⟩:=IsL.get (i:=i) l (by simpa using q)
  exact⟨v,by simpa using a,b⟩
end
section
variable {X:Cx} {pins:List (Addr×Obj)} {σ:L2.St} {H:Hp} {s:Shared}
mutual
theorem FH(I:Inv X pins σ H s):∀{d:PyData} {v:V} {u:Value},Is (Gi X) H d v->RelV v u->∃as,Reads s.heap u d as
 |.none,_,_,h,r=>by subst h;cases r;exact⟨_,.none⟩
 |.bool _,_,_,h,r=>by subst h;cases r;exact⟨_,.bool _⟩
 |.int _,_,_,h,r=>by subst h;obtain⟨t,rfl⟩:=r;exact⟨_,.int _ _⟩
 |.str _,_,_,h,r=>by subst h;obtain⟨t,rfl⟩:=r;exact⟨_,.str _ _⟩
 |.tuple ds,_,_,⟨a,vs,e,h,l⟩,r=>by
  subst e;cases r
  obtain⟨its,rr,⟨o,e,c,n,q⟩,_⟩:=I.tuple h
  obtain⟨as,z⟩:=readsL I l rr
  exact⟨_,.tuple e c q z⟩
 |.list ds,_,_,⟨a,vs,e,h,l⟩,r=>by
  subst e;cases r
  obtain⟨_,its,n,rr,e⟩:=I.hok a _ h
  obtain⟨as,z⟩:=readsL I l rr
  exact⟨_,.list e rfl rfl z⟩
 |.dict kvs,_,_,⟨a,ts,e,⟨ep,h⟩,l⟩,r=>by
  subst e;cases r
  obtain⟨⟨_,_,_,xs,pr,o,es,ho,he,hd,hes⟩,_,_⟩:=(show ObjOk X.prog X.w H s.heap a (.ext (Xd a ts ep)) from I.hok a _ h)
  obtain⟨as,bs,z1,z2⟩:=readsK I l pr
  refine⟨_,.dict ho he.1 hd (as:=as) (bs:=bs) ?_ ?_⟩
  ·rw[hes,lx];exact z1
  ·rw[hes,lx];exact z2
theorem readsL(I:Inv X pins σ H s):∀{ds:List PyData} {vs:List V} {us:List Value},IsL (Gi X) H ds vs->Vals vs us->∃as,ReadsAll s.heap us ds as
 |[],_,_,h,r=>by subst h;cases r;exact⟨_,.nil⟩
 |d::ds,_,_,⟨x,xs,e,h,l⟩,r=>by
  subst e
  cases r with
  |cons r1 r2 =>
   obtain⟨as,z⟩:=FH I h r1
   obtain⟨bs,y⟩:=readsL I l r2
   exact⟨_,.cons z y⟩
theorem readsK(I:Inv X pins σ H s):∀{kvs:List (PyData×PyData)} {ts:List (List Int×Addr×V)} {xs:List (List Int×Addr×Value)},IsKV (Gi X) H kvs ts->Paired (fun(t:List Int×Addr×V) (x:List Int×Addr×Value)=>t.1=x.1/\t.2.1=x.2.1/\RelV t.2.2 x.2.2) ts xs ->
  ∃as bs,ReadsAll s.heap (xs.map fun x=>Value.ref x.2.1) (kvs.map (·.1)) as/\ReadsAll s.heap (xs.map fun x=>x.2.2) (kvs.map (·.2)) bs
 |[],_,_,h,r=>by subst h;cases r;exact⟨_,_,.nil,.nil⟩
 |(k,d)::kvs,_,_,⟨t,tr,e,ek,hk,h,l⟩,r=>by
  subst e
  cases r with
  |cons r1 r2 =>
   obtain⟨q1,q2,q3⟩:=r1
   obtain⟨as,bs,z1,z2⟩:=readsK I l r2
   obtain⟨cs,z3⟩:=FH I h q3
   obtain⟨its,rr,⟨o,e,c,n,q⟩,_⟩:=I.tuple hk
   subst ek
   have hz:∃ds,ReadsAll s.heap its.toArray.toList (t.1.map PyData.int) ds:=by
    clear hk e q
    generalize t.1=ks at rr
    induction ks generalizing its with
    |nil=>cases rr;exact⟨_,.nil⟩
    |cons k ks ih =>
     cases rr with
     |cons a b =>
      obtain⟨ds,y⟩:=ih _ b
      obtain⟨tk,rfl⟩:=a
      exact⟨_,.cons (.int _ _) y⟩
   obtain⟨ds,y⟩:=hz
   rw[q2]at e
   exact⟨_,_,.cons (.tuple e c q y) z1,.cons z3 z2⟩
end
def XQ(K:KW):R2:=fun x y H Q=>∃d e,Is K H d x/\Is K H e y/\okD d=true/\okD e=true/\Q (.bl (PyData.eqv d e)) H
def XO(K:KW):R2:=fun x y H Q=>∃d e,Is K H d x/\Is K H e y/\okD d=true/\okD e=true/\Q (.bl (!PyData.eqv d e)) H
def aj(hu:X.A.units+64<cLine):OpR X (compareOp .Eq) (XQ (Gi X)):=by
 intro pins s σ H x y v u Q I rx ry h
 obtain⟨d,e,hd,he,od,oe,q⟩:=h
 obtain⟨as,ra⟩:=FH I hd rx
 obtain⟨bs,rb⟩:=FH I he ry
 exact eq_dataH ra rb od oe hu ⟨.bl _,H,I,rfl,q⟩
def Vf(hu:X.A.units+64<cLine):OpR X (compareOp .NotEq) (XO (Gi X)):=by
 intro pins s σ H x y v u Q I rx ry h
 obtain⟨d,e,hd,he,od,oe,q⟩:=h
 obtain⟨as,ra⟩:=FH I hd rx
 obtain⟨bs,rb⟩:=FH I he ry
 exact ne_dataH ra rb od oe hu ⟨.bl _,H,I,rfl,q⟩
def RJ(K:KW)(neg:Bool):R2:=fun x y H Q=>∃d es,Is K H d x/\(Is K H (.list es) y\/Is K H (.tuple es) y)/\okD d=true/\okD (.list es)=true/\Q (.bl (if neg then !(es.any fun y=>PyData.eqv y d) else es.any fun y=>PyData.eqv y d)) H
def ai(hu:X.A.units+65<cLine):OpR X (compareOp .In) (RJ (Gi X) false):=by
 intro pins s σ H x y v u Q I rx ry h
 obtain⟨d,es,hd,he,od,oe,q⟩:=h
 obtain⟨as,ra⟩:=FH I hd rx
 obtain⟨c1,c2⟩:=Gn oe
 have hm:X.A.units+1+min (PyData.depthAll es) d.depth<cLine:=by omega
 rcases he with he|he
 ·obtain⟨bs,rb⟩:=FH I he ry
  exact SeqAt.in_list_reads rb ra c1 (Eo od) hm ⟨.bl _,H,I,rfl,q⟩
 ·obtain⟨bs,rb⟩:=FH I he ry
  exact SeqAt.in_tuple_reads rb ra c1 (Eo od) hm ⟨.bl _,H,I,rfl,q⟩
def Tq(hu:X.A.units+65<cLine):OpR X (compareOp .NotIn) (RJ (Gi X) true):=by
 intro pins s σ H x y v u Q I rx ry h
 obtain⟨d,es,hd,he,od,oe,q⟩:=h
 obtain⟨as,ra⟩:=FH I hd rx
 obtain⟨c1,c2⟩:=Gn oe
 have hm:X.A.units+1+min (PyData.depthAll es) d.depth<cLine:=by omega
 rcases he with he|he
 ·obtain⟨bs,rb⟩:=FH I he ry
  exact SeqAt.notIn_list_reads rb ra c1 (Eo od) hm ⟨.bl _,H,I,rfl,q⟩
 ·obtain⟨bs,rb⟩:=FH I he ry
  exact SeqAt.notIn_tuple_reads rb ra c1 (Eo od) hm ⟨.bl _,H,I,rfl,q⟩
end
end DL
end
section
namespace DL
open PySem L2
inductive L where
 |d (x:PyData)
 |m (xs:List PyData)
 |c (xs:List PyData)
 |k (kvs:List (List Int×PyData))
 |g (x:PyData)
abbrev DS:=List (Option L)
inductive Ow where
 |l (xs:List PyData)
 |t (kvs:List (List Int×PyData))
def Ow.L:Ow->L
 |.l xs=>.m xs
 |.t kvs=>.k kvs
def Mh(kvs:List (List Int×PyData)):List (PyData×PyData):=kvs.map fun p=>(.tuple (p.1.map PyData.int),p.2)
def Ow.D:Ow->PyData
 |.l xs=>.list xs
 |.t kvs=>.dict (Mh kvs)
def Ow.fl:Ow->Bool
 |.l _=>true
 |.t _=>false
def Ow.not_d{o:Ow}{x:PyData}:o.L≠.d x:=by cases o<;>exact fun z=>nomatch z
def Ow.not_g{o:Ow}{x:PyData}:o.L≠.g x:=by cases o<;>exact fun z=>nomatch z
def Ow.not_c{o:Ow}{x:List PyData}:o.L≠.c x:=by cases o<;>exact fun z=>nomatch z
def Ow.inj{o p:Ow}(h:o.L=p.L):o=p:=by
 cases o<;>cases p<;>cases h<;>rfl
def IsO(K:KW)(H:Hp):Ow->Addr->HO->Prop
 |.l xs,_,h=>∃vs,h = .lst vs/\IsL K H xs vs
 |.t kvs,a,h=>∃ts,(∃ep,h = .ext (Xd a ts ep))/\IsKV K H (Mh kvs) ts
def IsO.mono{K:KW}{H H':Hp}(s:Same H H'):∀{o:Ow} {a:Addr} {h:HO},IsO K H o a h->IsO K H' o a h
 |.l _,_,_,⟨vs,e,l⟩=>⟨vs,e,l.mono s⟩
 |.t _,_,_,⟨ts,e,l⟩=>⟨ts,e,l.mono s⟩
def IsO.is{K:KW}{H:Hp}:∀{o:Ow} {a:Addr} {h:HO},IsO K H o a h->H a=some h->Is K H o.D (.ref a)
 |.l _,a,_,⟨vs,e,l⟩,z=>⟨a,vs,rfl,e▸z,l⟩
 |.t _,a,_,⟨ts,⟨ep,e⟩,l⟩,z=>⟨a,ts,rfl,⟨ep,e▸z⟩,l⟩
open Classical in
noncomputable def hid(S:Addr->Prop)(H:Hp):Hp:=fun a=>if S a then none else H a
def hid_iff{S:Addr->Prop}{H:Hp}{b:Addr}{o:HO}:hid S H b=some o↔¬S b/\H b=some o:=by
 unfold hid
 by_cases h:S b
 ·rw[if_pos h];exact⟨fun z=>(nomatch z),fun z=>absurd h z.1⟩
 ·rw[if_neg h];exact⟨fun z=>⟨h,z⟩,fun z=>z.2⟩
def Keep(S:Addr->Prop)(H:Hp)(S':Addr->Prop)(H':Hp):Prop:=∀b o,¬S b->H b=some o->¬S' b/\H' b=some o
def Chg(M:Addr->Prop)(H H':Hp):Prop:=∀b o,¬M b->H b=some o->H' b=some o
def Keep.same{S S':Addr->Prop}{H H':Hp}(k:Keep S H S' H'):Same (hid S H) (hid S' H'):=fun b o e=>hid_iff.mpr (k b o (hid_iff.mp e).1 (hid_iff.mp e).2)
def Keep.refl{S:Addr->Prop}{H:Hp}:Keep S H S H:=fun _ _ h e=>⟨h,e⟩
def Keep.trans{S S1 S2:Addr->Prop}{H H1 H2:Hp}(a:Keep S H S1 H1)(b:Keep S1 H1 S2 H2):Keep S H S2 H2:=fun c o h e=>b c o (a c o h e).1 (a c o h e).2
def Chg.refl{M:Addr->Prop}{H:Hp}:Chg M H H:=fun _ _ _ e=>e
def Chg.trans{M:Addr->Prop}{H H1 H2:Hp}(a:Chg M H H1)(b:Chg M H1 H2):Chg M H H2:=fun c o h e=>b c o h (a c o h e)
def Chg.of{M:Addr->Prop}{H H':Hp}(s:Same H H'):Chg M H H':=fun b o _ e=>s b o e
def Chg.keep{S M:Addr->Prop}{H H':Hp}(c:Chg M H H')(sub:∀a,M a->S a):Keep S H S H':=fun b o h e=>⟨h,c b o (fun z=>h (sub b z)) e⟩
def Same.keep{S:Addr->Prop}{H H':Hp}(s:Same H H'):Keep S H S H':=fun b o h e=>⟨h,s b o e⟩
def same_hid{S:Addr->Prop}{H:Hp}:Same (hid S H) H:=fun b o e=>(hid_iff.mp e).2
def C5{S S':Addr->Prop}{H:Hp}(h:∀a,S' a->S a):Same (hid S H) (hid S' H):=Keep.same fun b o n e=>⟨fun z=>n (h b z),e⟩
def tsS{H H':Hp}(s:Same H H'):TSm H H':=fun b o e _ _=>s b o e
def TSm.refl{H:Hp}:TSm H H:=fun _ _ e _ _=>e
mutual
def Dp(K:KW)(S:Addr->Prop)(H:Hp):PyData->V->List Addr->Prop
 |.none,v,F=>v = .non/\F=[]
 |.bool b,v,F=>v = .bl b/\F=[]
 |.int i,v,F=>v = .int i/\F=[]
 |.str x,v,F=>v = .str x/\F=[]
 |.tuple ds,v,F=>∃a vs,v = .ref a/\SqT K (hid S H) a vs/\DpL K S H ds vs F
 |.list ds,v,F=>∃a vs G,v = .ref a/\F=a::G/\H a=some (.lst vs)/\DpL K S H ds vs G
 |.dict _,_,_=>False
def DpL(K:KW)(S:Addr->Prop)(H:Hp):List PyData->List V->List Addr->Prop
 |[],vs,F=>vs=[]/\F=[]
 |d::ds,vs,F=>∃x xs F1 F2,vs=x::xs/\F=F1++F2/\Dp K S H d x F1/\DpL K S H ds xs F2
end
section
variable {K:KW} {S S':Addr->Prop} {H H':Hp}
mutual
theorem Dp.mono(s:TSm (hid S H) (hid S' H')):∀{d:PyData} {v:V} {F:List Addr},(∀a∈F,H' a=H a)->Dp K S H d v F->Dp K S' H' d v F
 |.none,_,_,_,h=>h
 |.bool _,_,_,_,h=>h
 |.int _,_,_,_,h=>h
 |.str _,_,_,_,h=>h
 |.tuple _,_,_,f,⟨a,vs,e,h,l⟩=>⟨a,vs,e,s.tup h,DpL.mono s f l⟩
 |.list _,_,_,f,⟨a,vs,G,e,e2,h,l⟩=>⟨a,vs,G,e,e2,(f a (by rw[e2];exact L' ..)).trans h,DpL.mono s (fun b hb=>f b (by rw[e2];exact V' _ hb)) l⟩
theorem DpL.mono(s:TSm (hid S H) (hid S' H')):∀{ds:List PyData} {vs:List V} {F:List Addr},(∀a∈F,H' a=H a)->DpL K S H ds vs F->DpL K S' H' ds vs F
 |[],_,_,_,h=>h
 |_::_,_,_,f,⟨x,xs,F1,F2,e,e2,h,l⟩=>⟨x,xs,F1,F2,e,e2,Dp.mono s (fun b hb=>f b (by rw[e2];exact kW _ hb)) h,DpL.mono s (fun b hb=>f b (by rw[e2];exact P' _ hb)) l⟩
end
end
def IsX(K:KW)(H:Hp):List (PyData×PyData)->List (Str×V)->Prop
 |[],ts=>ts=[]
 |(k,d)::r,ts=>∃t tr,ts=t::tr/\k = .str t.1/\Cs d=true/\Is K H d t.2/\IsX K H r tr
def IsX.mono{K:KW}{H H':Hp}(s:TSm H H'):∀{kvs:List (PyData×PyData)} {ts:List (Str×V)},IsX K H kvs ts->IsX K H' kvs ts
 |[],_,h=>h
 |(_,_)::_,_,⟨t,tr,e,ek,f,h,l⟩=>⟨t,tr,e,ek,f,Is.monoT s f h,IsX.mono s l⟩
def DpT(K:KW)(S:Addr->Prop)(H:Hp)(d:PyData)(v:V)(F:List Addr):Prop:=match d with
 |.dict kvs=>∃a ts,v = .ref a/\F=[a]/\H a=some (.dK (txK ts))/\IsX K (hid S H) kvs ts
 |d=>Dp K S H d v F
def DpT.of{K:KW}{S:Addr->Prop}{H:Hp}{d:PyData}{v:V}{F:List Addr}(h:Dp K S H d v F):DpT K S H d v F:=by
 cases d with
 |dict kvs=>exact(show False from h).elim
 |_=>exact h
def DpT.mono{K:KW}{S S':Addr->Prop}{H H':Hp}{d:PyData}{v:V}{F:List Addr}(s:TSm (hid S H) (hid S' H'))(f:∀a∈F,H' a=H a)(h:DpT K S H d v F):DpT K S' H' d v F:=by
 cases d with
 |dict kvs =>
  obtain⟨a,ts,e,e2,h,l⟩:=(show ∃a ts,v = .ref a/\F=[a]/\H a=some (.dK (txK ts))/\IsX K (hid S H) kvs ts from h)
  exact⟨a,ts,e,e2,(f a (by rw[e2];exact mG a)).trans h,l.mono s⟩
 |_=>exact Dp.mono s f h
def GR(K:KW)(S M:Addr->Prop)(τ:DS)(σ:St)(H:Hp):Prop:=∃φ:Nat->List Addr,∀(i:Nat) (d:PyData),τ[i]?=some (some (.g d)) ->
 (∃v,σ[i]?=some (some v)/\DpT K S H d v (φ i))/\(φ i).Nodup/\(∀a∈φ i,M a)/\(∀(j:Nat) (o:Ow) (a:Addr),τ[j]?=some (some o.L)->σ[j]?=some (some (.ref a))->a∉φ i) /\
  ∀(j:Nat) (d':PyData),j≠i->τ[j]?=some (some (.g d'))->∀a∈φ i,a∉φ j
def GR.nil{K:KW}{S M:Addr->Prop}{τ:DS}{σ:St}{H:Hp}(h:∀(i:Nat) (d:PyData),τ[i]?≠some (some (.g d))):GR K S M τ σ H:=⟨fun _=>[],fun i d e=>absurd e (h i d)⟩
def GR.to{K:KW}{S M S' M':Addr->Prop}{τ t5:DS}{σ σ':St}{H H':Hp}(g:GR K S M τ σ H)(ht:∀(i:Nat) (d:PyData),t5[i]?=some (some (.g d))->τ[i]?=some (some (.g d))/\σ'[i]?=σ[i]?)
  (ho:∀(j:Nat) (o:Ow) (a:Addr),t5[j]?=some (some o.L)->σ'[j]?=some (some (.ref a))->(∃o':Ow,τ[j]?=some (some o'.L)/\σ[j]?=some (some (.ref a)))\/¬M a)
  (hm:∀a,M a->(∀(j:Nat) (o:Ow),τ[j]?=some (some o.L)->σ[j]?≠some (some (.ref a)))->M' a/\H' a=H a) (ts:TSm (hid S H) (hid S' H')):GR K S' M' t5 σ' H':=by
 obtain⟨φ,g⟩:=g
 refine⟨φ,fun i d e=>?_⟩
 obtain⟨e1,e2⟩:=ht i d e
 obtain⟨⟨v,g1,g2⟩,g3,g4,g5,g6⟩:=g i d e1
 have hm':∀a∈φ i,M' a/\H' a=H a:=fun a ha=>hm a (g4 a ha) fun j o q q2=>g5 j o a q q2 ha
 refine⟨⟨v,e2.trans g1,g2.mono ts fun a ha=>(hm' a ha).2⟩,g3,fun a ha=>(hm' a ha).1,fun j o a q1 q2 ha=>?_,fun j d' hj q=>g6 j d' hj (ht j d' q).1⟩
 rcases ho j o a q1 q2 with ⟨o',z1,z2⟩|z
 ·exact g5 j o' a z1 z2 ha
 ·exact z (g4 a ha)
structure R(K:KW)(S M:Addr->Prop)(τ:DS)(σ:St)(H:Hp):Prop where
 len:σ.length=τ.length
 dat:∀(i:Nat) (x:PyData),τ[i]?=some (some (.d x))->∃v,σ[i]?=some (some v)/\Is K (hid S H) x v
 mt:∀(i:Nat) (o:Ow),τ[i]?=some (some o.L)->∃(a:Addr) (h:HO),σ[i]?=some (some (.ref a))/\M a/\H a=some h/\IsO K (hid S H) o a h
 cst:∀(i:Nat) (xs:List PyData),τ[i]?=some (some (.c xs))->∃(a:Addr) (vs:List V),σ[i]?=some (some (.ref a))/\SqL K (hid S H) a vs/\IsL K (hid S H) xs vs
 inj:∀(i j:Nat) (o p:Ow) (a:Addr),τ[i]?=some (some o.L)->τ[j]?=some (some p.L)->σ[i]?=some (some (.ref a))->σ[j]?=some (some (.ref a))->i=j
 sub:∀a,M a->S a
 ex:∀a,S a->∃o,H a=some o
 gr:GR K S M τ σ H
def Res(K:KW)(fr:Bool)(S:Addr->Prop)(H H':Hp)(d:PyData)(v:V):Prop:=match fr with
 |false=>Is K (hid S H') d v
 |true=>∃(o:Ow) (a:Addr) (h:HO),d=o.D/\v = .ref a/\H a=none/\H' a=some h/\IsO K (hid (fun b=>S b\/b=a) H') o a h
section
variable {K:KW} {S M:Addr->Prop} {τ:DS} {σ:St} {H H':Hp}
def R.fresh(r:R K S M τ σ H){a:Addr}(h:H a=none):¬S a:=fun z=>by
 obtain⟨o,e⟩:=r.ex a z
 rw[h]at e;cases e
def R.ml(r:R K S M τ σ H)(i:Nat)(xs:List PyData)(e:τ[i]?=some (some (.m xs))):∃(a:Addr) (vs:List V),σ[i]?=some (some (.ref a))/\M a/\H a=some (.lst vs)/\IsL K (hid S H) xs vs:=by
 obtain⟨a,h,h1,h2,h3,vs,rfl,l⟩:=r.mt i (.l xs) e
 exact⟨a,vs,h1,h2,h3,l⟩
def R.same(r:R K S M τ σ H)(s:Same H H'):R K S M τ σ H' where
 len:=r.len
 dat:=fun i x e=>let ⟨v,a,b⟩:=r.dat i x e;⟨v,a,b.mono (Same.keep s).same⟩
 mt:=fun i o e=>let ⟨a,h,h1,h2,h3,h4⟩:=r.mt i o e;⟨a,h,h1,h2,s _ _ h3,h4.mono (Same.keep s).same⟩
 cst:=fun i xs e=>let ⟨a,vs,h1,h2,h3⟩:=r.cst i xs e;⟨a,vs,h1,(Same.keep s).same.seq h2,h3.mono (Same.keep s).same⟩
 inj:=r.inj
 sub:=r.sub
 ex:=fun a h=>let ⟨o,e⟩:=r.ex a h;⟨o,s _ _ e⟩
 gr:=r.gr.to (fun i d e=>⟨e,rfl⟩) (fun j o a e q=>.inl ⟨o,e,q⟩) (fun a h _=>⟨h,by obtain⟨o,e⟩:=r.ex a (r.sub a h);rw[e];exact s _ _ e⟩) (tsS (Same.keep s).same)
def Res.is{fr:Bool}{d:PyData}{v:V}(h:Res K fr S H H' d v)(f:∀a,H a=none->¬S a):Is K (hid S H') d v:=by
 cases fr with
 |false=>exact h
 |true =>
  obtain⟨o,a,ho,rfl,rfl,h1,h2,h3⟩:=h
  exact IsO.is (h3.mono (C5 fun b z=>.inl z)) (hid_iff.mpr ⟨f a h1,h2⟩)
def Res.imp{fr:Bool}{d:PyData}{v:V}(h:Res K fr S H H' d v)(f:∀a,H a=none->¬S a)(fr':Bool)(hf:fr'=true->fr=true):Res K fr' S H H' d v:=by
 cases fr' with
 |false=>exact h.is f
 |true=>rw[hf rfl]at h;exact h
end
abbrev DX:=DS->Option (PyData×DS)
abbrev DT:=DS->Option (Bool×DS)
inductive Ar where
 |d (x:PyData)
 |s (i:Nat)
abbrev DA:=DS->Option (List Ar×DS)
inductive Out where
 |nx (τ:DS)
 |bk (τ:DS)
 |ct (τ:DS)
 |rt (d:PyData) (τ:DS)
abbrev DB:=DS->Option Out
def Like(τ t5:DS):Prop:=t5.length=τ.length/\∀j:Nat,((∀x,t5[j]?=some (some (.d x))↔τ[j]?=some (some (.d x)))/\∀x,t5[j]?=some (some (.c x))↔τ[j]?=some (some (.c x)))/\∀b:Bool,(∃o:Ow,o.fl=b/\t5[j]?=some (some o.L))↔∃o:Ow,o.fl=b/\τ[j]?=some (some o.L)
def Like.refl{τ:DS}:Like τ τ:=⟨rfl,fun j=>⟨⟨fun x=>mC,fun x=>mC⟩,fun b=>mC⟩⟩
def Like.trans{τ t4 t7:DS}(a:Like τ t4)(b:Like t4 t7):Like τ t7:=⟨b.1.trans a.1,fun j=>⟨⟨fun x=>((b.2 j).1.1 x).trans ((a.2 j).1.1 x),fun x=>((b.2 j).1.2 x).trans ((a.2 j).1.2 x)⟩,fun c=>((b.2 j).2 c).trans ((a.2 j).2 c)⟩⟩
def Like.own{τ t5:DS}(a:Like τ t5)(j:Nat):(∃o:Ow,t5[j]?=some (some o.L))↔∃o:Ow,τ[j]?=some (some o.L) :=
 ⟨fun⟨o,h⟩=>let ⟨p,_,q⟩:=((a.2 j).2 o.fl).mp ⟨o,rfl,h⟩;⟨p,q⟩,fun⟨o,h⟩=>let ⟨p,_,q⟩:=((a.2 j).2 o.fl).mpr ⟨o,rfl,h⟩;⟨p,q⟩⟩
def Like.ml{τ t5:DS}(a:Like τ t5){j:Nat}{xs:List PyData}(h:t5[j]?=some (some (.m xs))):∃ys,τ[j]?=some (some (.m ys)):=by
 obtain⟨o,e,h⟩:=((a.2 j).2 true).mp ⟨.l xs,rfl,h⟩
 cases o with
 |l ys=>exact⟨ys,h⟩
 |t ys=>cases e
structure E K (t:TE) (fr:Bool) (f:DX):Prop where
 like:∀τ d t5,f τ=some (d,t5)->Like τ t5
 run:∀S M τ σ H (Q:VK) d t5,R K S M τ σ H->f τ=some (d,t5)->(∀v H',R K S M t5 σ H'->Chg M H H'->Res K fr S H H' d v->Q v H')->t σ H Q
structure T K (t:TT) (f:DT):Prop where
 like:∀τ b t5,f τ=some (b,t5)->Like τ t5
 run:∀S M τ σ H (Q:Bool->Hp->Prop) b t5,R K S M τ σ H->f τ=some (b,t5)->(∀H',R K S M t5 σ H'->Chg M H H'->Q b H')->t σ H Q
def ZE(K:KW)(S:Addr->Prop)(σ:St)(H:Hp):List Ar->List V->Prop
 |[],vs=>vs=[]
 |.d x::rs,vs=>∃v us,vs=v::us/\Is K (hid S H) x v/\ZE K S σ H rs us
 |.s i::rs,vs=>∃v us,vs=v::us/\σ[i]?=some (some v)/\ZE K S σ H rs us
structure A K (t:TA) (f:DA):Prop where
 like:∀τ rs t5,f τ=some (rs,t5)->Like τ t5
 run:∀S M τ σ H (Q:List V->Hp->Prop) rs t5,R K S M τ σ H->f τ=some (rs,t5)->(∀vs H',R K S M t5 σ H'->Chg M H H'->ZE K S σ H' rs vs->Q vs H')->t σ H Q
structure Frm where
 S:Addr->Prop
 M:Addr->Prop
 H:Hp
 ar:List (Option V)
structure RF(K:KW)(F:Frm)(S M:Addr->Prop)(τ:DS)(σ:St)(H:Hp):Prop where
 r:R K S M τ σ H
 sS:∀a,F.S a->S a
 old:∀b o,F.H b=some o->¬F.M b->H b=some o
 new:∀a,M a->F.M a\/F.H a=none
 fm:∀a,F.M a->M a
 fs:∀a,F.S a->∃o,F.H a=some o
 fsub:∀a,F.M a->F.S a
 snew:∀a,S a->F.S a\/F.H a=none
 par:∀(i:Nat) (v:V),F.ar[i]?=some (some v)->σ[i]?=some (some v)
 pm:∀(i:Nat) (v:V),F.ar[i]?=some (some v)->∃o:Ow,τ[i]?=some (some o.L)
 fma:∀a,F.M a->∃i:Nat,F.ar[i]?=some (some (.ref a))
def Gl(K:KW)(F:Frm)(fr:Bool)(S:Addr->Prop)(H:Hp)(D:Kw):Out->Prop
 |.nx t5=>∀S' M' σ' H',RF K F S' M' t5 σ' H'->Keep S H S' H'->D.nx σ' H'
 |.bk t5=>∀S' M' σ' H',RF K F S' M' t5 σ' H'->Keep S H S' H'->D.bk σ' H'
 |.ct t5=>∀S' M' σ' H',RF K F S' M' t5 σ' H'->Keep S H S' H'->D.ct σ' H'
 |.rt d t5=>∀S' M' σ' H' v,RF K F S' M' t5 σ' H'->Res K fr F.S F.H H' d v->D.rt v H'
def B(K:KW)(np:Nat)(t:TS)(fr:Bool)(f:DB):Prop:=∀(F:Frm) S M τ σ H (D:Kw) out,F.ar.length<=np->RF K F S M τ σ H->f τ=some out->Gl K F fr S H D out->t D σ H
variable {K:KW}
section
variable {S M:Addr->Prop} {τ t5:DS} {σ:St} {H H' H2:Hp}
def R.none(r:R K S M τ σ H')(c:Chg M H H'){a:Addr}(h:H' a=Option.none):H a=Option.none:=by
 cases e:H a with
 |none=>rfl
 |some o =>
  exfalso
  by_cases hm:M a
  ·obtain⟨o',e'⟩:=r.ex a (r.sub a hm)
   rw[h]at e';cases e'
  ·have:=c a o hm e
   rw[h]at this;cases this
def Res.back{fr:Bool}{d:PyData}{v:V}(h:Res K fr S H' H2 d v)(r:R K S M τ σ H')(c:Chg M H H'):Res K fr S H H2 d v:=by
 cases fr with
 |false=>exact h
 |true =>
  obtain⟨xs,a,vs,e1,e2,h1,h2,h3⟩:=h
  exact⟨xs,a,vs,e1,e2,r.none c h1,h2,h3⟩
def R.isr(r:R K S M τ σ H){fr:Bool}{d:PyData}{v:V}(h:Res K fr S H H' d v):Is K (hid S H') d v:=h.is fun _ z=>r.fresh z
end
def E.weak{t:TE}{fr:Bool}{f:DX}(h:E K t fr f):E K t false f:=⟨h.like,fun S M τ σ H Q d t5 r e q=>h.run S M τ σ H Q d t5 r e fun v H' r' c res=>q v H' r' c (r.isr res)⟩
def AJ(i:Nat)(τ:DS):Option (PyData×DS):=match τ[i]? with
 |some (some (.d x))=>some (x,τ)
 |_=>none
def Lw{i:Nat}:E K (Dq i) false (AJ i):=by
 refine⟨fun τ d t5 e=>?_,?_⟩
 ·unfold AJ at e;split at e
  ·cases e;exact .refl
  ·cases e
 intro S M τ σ H Q d t5 r e q
 unfold AJ at e
 split at e
 ·rename_i x hx
  cases e
  obtain⟨v,h1,h2⟩:=r.dat i _ hx
  exact⟨v,h1,q v H r .refl h2⟩
 ·cases e
def dC(d:PyData)(τ:DS):Option (PyData×DS):=some (d,τ)
def e_c{d:PyData}{v:V}(h:∀H,Is K H d v):E K (tC v) false (dC d):=by
 refine⟨fun τ d t5 e=>?_,?_⟩
 ·cases e;exact .refl
 intro S M τ σ H Q d' t5 r e q
 cases e
 exact q v H r .refl (h _)
def NF{i:Int}:E K (tC (.int i)) false (dC (.int i)):=e_c fun _=>rfl
def kH{b:Bool}:E K (tC (.bl b)) false (dC (.bool b)):=e_c fun _=>rfl
def gj{x:Str}:E K (tC (.str x)) false (dC (.str x)):=e_c fun _=>rfl
def gn:E K (tC .non) false (dC .none):=e_c fun _=>rfl
def OR(K:KW)(fr:Bool)(r:R2)(F:PyData->PyData->Option PyData):Prop:=∀(S:Addr->Prop) H x y dx dy d (Q:VK),(∀a,H a=none->¬S a)->Is K (hid S H) dx x->Is K (hid S H) dy y->F dx dy=some d->(∀v H',Same H H'->Res K fr S H H' d v->Q v H')->r x y H Q
def dOp(F:PyData->PyData->Option PyData)(a b:DX)(τ:DS):Option (PyData×DS):=(a τ).bind fun p=>(b p.2).bind fun q=>(F p.1 q.1).map fun d=>(d,q.2)
def OJ{fr fa fb:Bool}{r:R2}{F:PyData->PyData->Option PyData}{ta tb:TE}{a b:DX}(h:OR K fr r F)(ha:E K ta fa a)(hb:E K tb fb b):E K (tOp r ta tb) fr (dOp F a b):=by
 refine⟨fun τ d t5 e=>?_,?_⟩
 ·unfold dOp at e;obtain⟨⟨x,t4⟩,e1,e⟩:=oB e;obtain⟨⟨y,t7⟩,e2,e⟩:=oB e;obtain⟨z,e3,e⟩:=oM e;cases e;exact(ha.like _ _ _ e1).trans (hb.like _ _ _ e2)
 intro S M τ σ H Q d t5 rr e q
 unfold dOp at e
 obtain⟨⟨x,t4⟩,e1,e⟩:=oB e
 obtain⟨⟨y,t7⟩,e2,e⟩:=oB e
 obtain⟨z,e3,e⟩:=oM e
 cases e
 refine ha.run S M τ σ H _ x t4 rr e1 fun v1 H1 r1 c1 i1=>?_
 refine hb.run S M t4 σ H1 _ y t7 r1 e2 fun v2 H2 r2 c2 i2=>?_
 refine h S H2 v1 v2 x y d _ (fun _=>r2.fresh) ((rr.isr i1).mono (c2.keep r1.sub).same) (r1.isr i2) e3 fun v H' s res=>?_
 exact q v H' (r2.same s) ((c1.trans c2).trans (.of s)) (res.back r2 (c1.trans c2))
def UR(K:KW)(fr:Bool)(r:V->Hp->VK->Prop)(F:PyData->Option PyData):Prop:=∀(S:Addr->Prop) H x dx d (Q:VK),(∀a,H a=none->¬S a)->Is K (hid S H) dx x->F dx=some d->(∀v H',Same H H'->Res K fr S H H' d v->Q v H')->r x H Q
def dUn(F:PyData->Option PyData)(a:DX)(τ:DS):Option (PyData×DS):=(a τ).bind fun p=>(F p.1).map fun d=>(d,p.2)
def kD{fr fa:Bool}{r:V->Hp->VK->Prop}{F:PyData->Option PyData}{ta:TE}{a:DX}(h:UR K fr r F)(ha:E K ta fa a):E K (tUn r ta) fr (dUn F a):=by
 refine⟨fun τ d t5 e=>?_,?_⟩
 ·unfold dUn at e;obtain⟨⟨x,t4⟩,e1,e⟩:=oB e;obtain⟨z,e3,e⟩:=oM e;cases e;exact ha.like _ _ _ e1
 intro S M τ σ H Q d t5 rr e q
 unfold dUn at e
 obtain⟨⟨x,t4⟩,e1,e⟩:=oB e
 obtain⟨z,e3,e⟩:=oM e
 cases e
 refine ha.run S M τ σ H _ x _ rr e1 fun v1 H1 r1 c1 i1=>?_
 refine h S H1 v1 x d _ (fun _=>r1.fresh) (rr.isr i1) e3 fun v H' s res=>?_
 exact q v H' (r1.same s) (c1.trans (.of s)) (res.back r1 c1)
def fI(g:Int->Int->PyData):PyData->PyData->Option PyData
 |.int i,.int j=>some (g i j)
 |_,_=>none
def fC(C:Int->Int->Prop)[∀i j,Decidable (C i j)](g:Int->Int->PyData):PyData->PyData->Option PyData
 |.int i,.int j=>if C i j then some (g i j) else none
 |_,_=>none
def YK{g:Int->Int->PyData}{x y d:PyData}(h:fI g x y=some d):∃i j,x = .int i/\y = .int j/\d=g i j:=by
 unfold fI at h
 split at h
 ·exact⟨_,_,rfl,rfl,(J' h).symm⟩
 ·cases h
def YL{C:Int->Int->Prop}[∀i j,Decidable (C i j)]{g:Int->Int->PyData}{x y d:PyData}(h:fC C g x y=some d):∃i j,x = .int i/\y = .int j/\C i j/\d=g i j:=by
 unfold fC at h
 split at h
 ·split at h
  ·rename_i hc;exact⟨_,_,rfl,rfl,hc,(J' h).symm⟩
  ·cases h
 ·cases h
def To{g:Int->Int->V}{g':Int->Int->PyData}(h:∀i j H,Is K H (g' i j) (g i j)):OR K false (rI0 g) (fI g'):=by
 intro S H x y dx dy d Q _ ix iy e q
 obtain⟨i,j,rfl,rfl,rfl⟩:=YK e
 exact⟨i,j,ix,iy,q _ H (fun _ _ e=>e) (h _ _ _)⟩
def Xh{C:Int->Int->Prop}[∀i j,Decidable (C i j)]{g:Int->Int->V}{g':Int->Int->PyData}(h:∀i j H,Is K H (g' i j) (g i j)):OR K false (rI C g) (fC C g'):=by
 intro S H x y dx dy d Q _ ix iy e q
 obtain⟨i,j,rfl,rfl,c,rfl⟩:=YL e
 exact⟨i,j,ix,iy,c,q _ H (fun _ _ e=>e) (h _ _ _)⟩
instance {i j:Int}:Decidable (CMulB i j):=by unfold CMulB CMul Bd;infer_instance
instance {i j:Int}:Decidable (P2 i j):=by unfold P2 Bd;infer_instance
instance {i j:Int}:Decidable (Wy i j):=by unfold Wy;infer_instance
def Ay:=fI fun i j=>.int (i+j)
def BN:=fI fun i j=>.int (i-j)
def II:=fC CMulB fun i j=>.int (i*j)
def A7:=fC P2 fun i j=>.int (i / j)
def Af:=fC (fun _ j=>0<j) fun i j=>.int (i % j)
def Pn:=fC Wy fun i j=>.int (i ^ j.toNat)
def fLt:=fI fun i j=>.bool (decide (i<j))
def fLe:=fI fun i j=>.bool (decide (i<=j))
def fGt:=fI fun i j=>.bool (decide (j<i))
def fGe:=fI fun i j=>.bool (decide (j<=i))
def ZX:OR K false (rI0 fun i j=>.int (i+j)) Ay:=To fun _ _ _=>rfl
def f7:OR K false (rI0 fun i j=>.int (i-j)) BN:=To fun _ _ _=>rfl
def gC:OR K false (rI CMulB fun i j=>.int (i*j)) II:=Xh fun _ _ _=>rfl
def gJ:OR K false (rI P2 fun i j=>.int (i / j)) A7:=Xh fun _ _ _=>rfl
def gD:OR K false (rI (fun _ j=>0<j) fun i j=>.int (i % j)) Af:=Xh fun _ _ _=>rfl
def f9:OR K false (rI Wy fun i j=>.int (i ^ j.toNat)) Pn:=Xh fun _ _ _=>rfl
def jm:OR K false (rI0 fun i j=>.bl (decide (i<j))) fLt:=To fun _ _ _=>rfl
def jo:OR K false (rI0 fun i j=>.bl (decide (i<=j))) fLe:=To fun _ _ _=>rfl
def jq:OR K false (rI0 fun i j=>.bl (decide (j<i))) fGt:=To fun _ _ _=>rfl
def jr:OR K false (rI0 fun i j=>.bl (decide (j<=i))) fGe:=To fun _ _ _=>rfl
def GJ:PyData->Option PyData
 |.int i=>some (.int (-i))
 |_=>none
def fJ:UR K false (rU fun i=>.int (-i)) GJ:=by
 intro S H x dx d Q _ ix e q
 unfold GJ at e
 split at e
 ·cases e;exact⟨_,ix,q _ H (fun _ _ e=>e) rfl⟩
 ·cases e
def fEq(x y:PyData):Option PyData:=if okD x&&okD y then some (.bool (PyData.eqv x y)) else none
def fNe(x y:PyData):Option PyData:=if okD x&&okD y then some (.bool (!PyData.eqv x y)) else none
def js:OR K false (XQ K) fEq:=by
 intro S H x y dx dy d Q _ ix iy e q
 unfold fEq at e
 split at e
 ·rename_i h
  rw[Y']at h
  cases e
  exact⟨dx,dy,ix.mono same_hid,iy.mono same_hid,h.1,h.2,q _ H (fun _ _ e=>e) rfl⟩
 ·cases e
def gB:OR K false (XO K) fNe:=by
 intro S H x y dx dy d Q _ ix iy e q
 unfold fNe at e
 split at e
 ·rename_i h
  rw[Y']at h
  cases e
  exact⟨dx,dy,ix.mono same_hid,iy.mono same_hid,h.1,h.2,q _ H (fun _ _ e=>e) rfl⟩
 ·cases e
def fIn(neg:Bool)(x:PyData):PyData->Option PyData
 |.list es=>if okD x&&okD (.list es) then some (.bool (if neg then !(es.any fun y=>PyData.eqv y x) else es.any fun y=>PyData.eqv y x)) else none
 |.tuple es=>if okD x&&okD (.list es) then some (.bool (if neg then !(es.any fun y=>PyData.eqv y x) else es.any fun y=>PyData.eqv y x)) else none
 |_=>none
def gH{neg:Bool}:OR K false (RJ K neg) (fIn neg):=by
 intro S H x y dx dy d Q _ ix iy e q
 unfold fIn at e
 split at e
 ·split at e
  ·rename_i h
   rw[Y']at h
   cases e
   exact⟨dx,_,ix.mono same_hid,.inl (iy.mono same_hid),h.1,h.2,q _ H (fun _ _ e=>e) rfl⟩
  ·cases e
 ·split at e
  ·rename_i h
   rw[Y']at h
   cases e
   exact⟨dx,_,ix.mono same_hid,.inr (iy.mono same_hid),h.1,h.2,q _ H (fun _ _ e=>e) rfl⟩
  ·cases e
 ·cases e
def JE:PyData->Bool
 |.none=>true
 |_=>false
def IJ(x y:PyData):Option PyData:=match y with
 |.none=>some (.bool (JE x))
 |_=>none
def B9(x y:PyData):Option PyData:=match y with
 |.none=>some (.bool (!JE x))
 |_=>none
def V5{H:Hp}{x:PyData}{v:V}(h:Is K H x v):decide (v=V.non)=JE x:=by
 cases x with
 |none=>rw[show v = .non from h];rfl
 |bool b=>rw[show v = .bl b from h];rfl
 |int b=>rw[show v = .int b from h];rfl
 |str b=>rw[show v = .str b from h];rfl
 |list b=>obtain⟨a,vs,rfl,_⟩:=h;rfl
 |tuple b=>obtain⟨a,vs,rfl,_⟩:=h;rfl
 |dict b=>obtain⟨a,ts,rfl,_⟩:=h;rfl
def gF:OR K false (fun x y H Q=>y = .non/\Q (.bl (decide (x = .non))) H) IJ:=by
 intro S H x y dx dy d Q _ ix iy e q
 unfold IJ at e
 split at e
 ·cases e
  refine⟨iy,?_⟩
  rw[V5 ix]
  exact q _ H (fun _ _ e=>e) rfl
 ·cases e
def av:OR K false (fun x y H Q=>y = .non/\Q (.bl (!decide (x = .non))) H) B9:=by
 intro S H x y dx dy d Q _ ix iy e q
 unfold B9 at e
 split at e
 ·cases e
  refine⟨iy,?_⟩
  rw[V5 ix]
  exact q _ H (fun _ _ e=>e) rfl
 ·cases e
def DR:PyData->PyData->Option PyData
 |.list xs,.int i=>atI xs i
 |_,_=>none
def AN:PyData->PyData->Option PyData
 |.tuple xs,.int i=>atI xs i
 |_,_=>none
def Rh{H:Hp}{ds:List PyData}{vs:List V}{i:Int}{d:PyData}(h:IsL K H ds vs)(e:atI ds i=some d):∃v,atI vs i=some v/\Is K H d v:=by
 unfold atI at e ⊢
 rw[h.length]
 cases q:ixN ds.length i with
 |none=>rw[q]at e;cases e
 |some j =>
  rw[q]at e
  exact h.get (show ds[j]?=some d from e)
def ZW:OR K false (Td K) DR:=by
 intro S H x y dx dy d Q _ ix iy e q
 unfold DR at e
 split at e
 ·obtain⟨a,vs,rfl,h,l⟩:=ix
  obtain⟨v,h1,h2⟩:=Rh l e
  exact⟨a,vs,_,v,rfl,iy,SqL.of (hid_iff.mp h).2,h1,q _ H (fun _ _ e=>e) h2⟩
 ·cases e
def Vp:OR K false (NW K) AN:=by
 intro S H x y dx dy d Q _ ix iy e q
 unfold AN at e
 split at e
 ·obtain⟨a,vs,rfl,h,l⟩:=ix
  obtain⟨v,h1,h2⟩:=Rh l e
  exact⟨a,vs,_,v,rfl,iy,Same.tup same_hid h,h1,q _ H (fun _ _ e=>e) h2⟩
 ·cases e
def Gj:PyData->PyData->Option PyData
 |.list xs,.list ys=>if xs.length+ys.length<=sizeLine then some (.list (xs++ys)) else none
 |_,_=>none
def E1{H:Hp}:∀{xs ys:List PyData} {vs us:List V},IsL K H xs vs->IsL K H ys us->IsL K H (xs++ys) (vs++us)
 |[],_,_,_,h,k=>by rw[show _=[] from h];exact k
 |_::_,_,_,_,⟨x,xs,e,h,l⟩,k=>by subst e;exact⟨x,_,rfl,h,E1 l k⟩
def Ip{S:Addr->Prop}{H:Hp}{xs:List PyData}{vs:List V}{p:Addr}(hp:H p=none)(l:IsL K (hid S H) xs vs):Res K true S H (upd H p (.lst vs)) (.list xs) (.ref p):=by
 refine⟨.l xs,p,_,rfl,rfl,hp,Ah,vs,rfl,l.mono (Keep.same fun b o hn e=>?_)⟩
 have:b≠p:=A0 e hp
 exact⟨fun z=>z.elim hn this,by rw[Aq this];exact e⟩
def gK:OR K true aJ Gj:=by
 intro S H x y dx dy d Q _ ix iy e q
 unfold Gj at e
 split at e
 ·split at e
  ·rename_i hz
   cases e
   obtain⟨a,vs,rfl,h,l⟩:=ix
   obtain⟨b,us,rfl,h',l'⟩:=iy
   refine⟨a,b,vs,us,rfl,rfl,(hid_iff.mp h).2,(hid_iff.mp h').2,by rw[l.length,l'.length];exact hz,fun p hp=>?_⟩
   exact q _ _ (Ax hp _) (Ip hp (E1 l l'))
  ·cases e
 ·cases e
def AD(a:DX)(τ:DS):Option (Bool×DS):=(a τ).bind fun p=>match p.1 with
 |.bool b=>some (b,p.2)
 |_=>none
def FY{fr:Bool}{t:TE}{a:DX}(h:E K t fr a):T K (SJ t) (AD a):=by
 refine⟨fun τ d t5 e=>?_,?_⟩
 ·unfold AD at e;obtain⟨⟨x,t4⟩,e1,e⟩:=oB e;dsimp only at e;split at e
  ·cases e;exact h.like _ _ _ e1
  ·cases e
 intro S M τ σ H Q b t5 r e q
 unfold AD at e
 obtain⟨⟨x,t4⟩,e1,e⟩:=oB e
 dsimp only at e
 split at e
 ·cases e
  refine h.run S M τ σ H _ _ _ r e1 fun v H' r' c i=>?_
  exact⟨b,(show v = .bl b from r.isr i),q H' r' c⟩
 ·cases e
def ZJ{fr:Bool}{t:TE}{a:DX}(h:E K t fr a):T K (tB t) (AD a):=FY h
def An(a b:DT)(τ:DS):Option (Bool×DS):=(a τ).bind fun p=>if p.1=true then b p.2 else some (false,p.2)
def BQ(a b:DT)(τ:DS):Option (Bool×DS):=(a τ).bind fun p=>if p.1=true then some (true,p.2) else b p.2
def Ao(a:DT)(τ:DS):Option (Bool×DS):=(a τ).map fun p=>(!p.1,p.2)
def fO{ta tb:TT}{a b:DT}(ha:T K ta a)(hb:T K tb b):T K (fT ta tb) (An a b):=by
 refine⟨fun τ d t5 e=>?_,?_⟩
 ·unfold An at e;obtain⟨⟨c,t4⟩,e1,e⟩:=oB e;cases c with
  |true=>exact(ha.like _ _ _ e1).trans (hb.like _ _ _ e)
  |false=>cases e;exact ha.like _ _ _ e1
 intro S M τ σ H Q k t5 r e q
 unfold An at e
 obtain⟨⟨c,t4⟩,e1,e⟩:=oB e
 refine ha.run S M τ σ H _ c t4 r e1 fun H1 r1 c1=>?_
 cases c with
 |true=>exact hb.run S M t4 σ H1 _ k t5 r1 e fun H2 r2 c2=>q H2 r2 (c1.trans c2)
 |false=>cases e;exact q H1 r1 c1
def jh{ta tb:TT}{a b:DT}(ha:T K ta a)(hb:T K tb b):T K (tOr ta tb) (BQ a b):=by
 refine⟨fun τ d t5 e=>?_,?_⟩
 ·unfold BQ at e;obtain⟨⟨c,t4⟩,e1,e⟩:=oB e;cases c with
  |false=>exact(ha.like _ _ _ e1).trans (hb.like _ _ _ e)
  |true=>cases e;exact ha.like _ _ _ e1
 intro S M τ σ H Q k t5 r e q
 unfold BQ at e
 obtain⟨⟨c,t4⟩,e1,e⟩:=oB e
 refine ha.run S M τ σ H _ c t4 r e1 fun H1 r1 c1=>?_
 cases c with
 |false=>exact hb.run S M t4 σ H1 _ k t5 r1 e fun H2 r2 c2=>q H2 r2 (c1.trans c2)
 |true=>cases e;exact q H1 r1 c1
def fM{ta:TT}{a:DT}(ha:T K ta a):T K (fR ta) (Ao a):=by
 refine⟨fun τ d t5 e=>?_,?_⟩
 ·unfold Ao at e;obtain⟨⟨c,t4⟩,e1,e⟩:=oM e;cases e;exact ha.like _ _ _ e1
 intro S M τ σ H Q k t5 r e q
 unfold Ao at e
 obtain⟨⟨c,t4⟩,e1,e⟩:=oM e
 cases e
 exact ha.run S M τ σ H _ c _ r e1 fun H1 r1 c1=>q H1 r1 c1
def dIf(c:DT)(a b:DX)(τ:DS):Option (PyData×DS):=(c τ).bind fun p=>if p.1=true then a p.2 else b p.2
def kG{fr:Bool}{tc:TT}{ta tb:TE}{c:DT}{a b:DX}(hc:T K tc c)(ha:E K ta fr a)(hb:E K tb fr b):E K (tIf tc ta tb) fr (dIf c a b):=by
 refine⟨fun τ d t5 e=>?_,?_⟩
 ·unfold dIf at e;obtain⟨⟨c,t4⟩,e1,e⟩:=oB e;cases c with
  |true=>exact(hc.like _ _ _ e1).trans (ha.like _ _ _ e)
  |false=>exact(hc.like _ _ _ e1).trans (hb.like _ _ _ e)
 intro S M τ σ H Q d t5 r e q
 unfold dIf at e
 obtain⟨⟨k,t4⟩,e1,e⟩:=oB e
 refine hc.run S M τ σ H _ k t4 r e1 fun H1 r1 c1=>?_
 cases k with
 |true=>exact ha.run S M t4 σ H1 _ d t5 r1 e fun v H2 r2 c2 i=>q v H2 r2 (c1.trans c2) (i.back r1 c1)
 |false=>exact hb.run S M t4 σ H1 _ d t5 r1 e fun v H2 r2 c2 i=>q v H2 r2 (c1.trans c2) (i.back r1 c1)
def Bm(a b:DX)(τ:DS):Option (PyData×DS):=(AD a τ).bind fun p=>if p.1=true then b p.2 else some (.bool false,p.2)
def dOr(a b:DX)(τ:DS):Option (PyData×DS):=(AD a τ).bind fun p=>if p.1=true then some (.bool true,p.2) else b p.2
def Ht(a:DX)(τ:DS):Option (PyData×DS):=(AD a τ).map fun p=>(.bool (!p.1),p.2)
def hJ{fa fb:Bool}{ta tb:TE}{a b:DX}(ha:E K ta fa a)(hb:E K tb fb b):E K (ZP ta tb) false (Bm a b):=by
 refine⟨fun τ d t5 e=>?_,?_⟩
 ·unfold Bm at e;obtain⟨⟨c,t4⟩,e1,e⟩:=oB e;cases c with
  |true=>exact((FY ha).like _ _ _ e1).trans (hb.like _ _ _ e)
  |false=>cases e;exact(FY ha).like _ _ _ e1
 intro S M τ σ H Q d t5 r e q
 unfold Bm at e
 obtain⟨⟨k,t4⟩,e1,e⟩:=oB e
 refine(FY ha).run S M τ σ H (fun c H1=>if c=true then tb σ H1 Q else Q (.bl false) H1) k t4 r e1 fun H1 r1 c1=>?_
 cases k with
 |true=>exact hb.weak.run S M t4 σ H1 _ d t5 r1 e fun v H2 r2 c2 i=>q v H2 r2 (c1.trans c2) i
 |false=>cases e;exact q _ H1 r1 c1 rfl
def gm{fa:Bool}{ta:TE}{a:DX}(ha:E K ta fa a):E K (ZM ta) false (Ht a):=by
 refine⟨fun τ d t5 e=>?_,?_⟩
 ·unfold Ht at e;obtain⟨⟨c,t4⟩,e1,e⟩:=oM e;cases e;exact(FY ha).like _ _ _ e1
 intro S M τ σ H Q d t5 r e q
 unfold Ht at e
 obtain⟨⟨k,t4⟩,e1,e⟩:=oM e
 cases e
 exact(FY ha).run S M τ σ H (fun c H1=>Q (.bl (!c)) H1) k _ r e1 fun H1 r1 c1=>q _ H1 r1 c1 rfl
def BO(F G:PyData->PyData->Option PyData)(a b c:DX)(τ:DS):Option (PyData×DS):=(a τ).bind fun p=>(b p.2).bind fun q=>(F p.1 q.1).bind fun z=>match z with
 |.bool true=>(c q.2).bind fun s=>(G q.1 s.1).map fun d=>(d,s.2)
 |.bool false=>some (.bool false,q.2)
 |_=>none
def S5{fa fb fc:Bool}{r r':R2}{F G:PyData->PyData->Option PyData}{ta tb tc:TE}{a b c:DX}(h:OR K false r F)(h':OR K false r' G)(ha:E K ta fa a)(hb:E K tb fb b)(hc:E K tc fc c):E K (RD r r' ta tb tc) false (BO F G a b c):=by
 refine⟨fun τ d t5 e=>?_,?_⟩
 ·unfold BO at e;obtain⟨⟨x,t4⟩,e1,e⟩:=oB e;obtain⟨⟨y,t7⟩,e2,e⟩:=oB e;obtain⟨z,e3,e⟩:=oB e;split at e
  ·obtain⟨⟨w,p6⟩,e4,e⟩:=oB e;obtain⟨z,e5,e⟩:=oM e;cases e;exact((ha.like _ _ _ e1).trans (hb.like _ _ _ e2)).trans (hc.like _ _ _ e4)
  ·cases e;exact(ha.like _ _ _ e1).trans (hb.like _ _ _ e2)
  ·cases e
 intro S M τ σ H Q d t5 rr e q
 unfold BO at e
 obtain⟨⟨x,t4⟩,e1,e⟩:=oB e
 obtain⟨⟨y,t7⟩,e2,e⟩:=oB e
 obtain⟨z,e3,e⟩:=oB e
 refine ha.run S M τ σ H _ x t4 rr e1 fun v1 H1 r1 c1 i1=>?_
 refine hb.run S M t4 σ H1 _ y t7 r1 e2 fun v2 H2 r2 c2 i2=>?_
 have j2:=r1.isr i2
 refine h S H2 v1 v2 x y z _ (fun _=>r2.fresh) ((rr.isr i1).mono (c2.keep r1.sub).same) j2 e3 fun v H3 s res=>?_
 have r3:=r2.same s
 have c3:Chg M H H3:=(c1.trans c2).trans (.of s)
 split at e
 ·obtain⟨⟨w,p6⟩,e4,e⟩:=oB e
  obtain⟨z,e5,e⟩:=oM e
  cases e
  refine⟨true,res,?_⟩
  refine hc.run S M t7 σ H3 _ w _ r3 e4 fun v4 H4 r4 c4 i4=>?_
  refine h' S H4 v2 v4 y w d _ (fun _=>r4.fresh) ((j2.mono (Same.keep s).same).mono (c4.keep r3.sub).same) (r3.isr i4) e5 fun v5 H5 s5 res5=>?_
  exact q v5 H5 (r4.same s5) ((c3.trans c4).trans (.of s5)) res5
 ·cases e
  exact⟨false,res,q _ H3 r3 c3 rfl⟩
 ·cases e
variable {K:KW}
def AF(τ:DS):Option (List Ar×DS):=some ([],τ)
def AA(a:DX)(r:DA)(τ:DS):Option (List Ar×DS):=(a τ).bind fun p=>(r p.2).map fun q=>(.d p.1::q.1,q.2)
def TR:A K Em AF:=by
 refine⟨fun τ d t5 e=>?_,?_⟩
 ·cases e;exact .refl
 intro S M τ σ H Q rs t5 r e q
 cases e
 exact q [] H r .refl rfl
def Ws{fr:Bool}{te:TE}{t:TA}{a:DX}{f:DA}(ha:E K te fr a)(hr:A K t f):A K (Bs te t) (AA a f):=by
 refine⟨fun τ d t5 e=>?_,?_⟩
 ·unfold AA at e
  obtain⟨⟨x,t4⟩,e1,e⟩:=oB e
  obtain⟨⟨y,t7⟩,e2,e⟩:=oM e
  cases e
  exact(ha.like _ _ _ e1).trans (hr.like _ _ _ e2)
 intro S M τ σ H Q rs t5 r e q
 unfold AA at e
 obtain⟨⟨x,t4⟩,e1,e⟩:=oB e
 obtain⟨⟨y,t7⟩,e2,e⟩:=oM e
 cases e
 refine ha.run S M τ σ H _ x t4 r e1 fun v H1 r1 c1 i1=>?_
 refine hr.run S M t4 σ H1 _ y _ r1 e2 fun vs H2 r2 c2 i2=>?_
 exact q (v::vs) H2 r2 (c1.trans c2) ⟨v,vs,rfl,(r.isr i1).mono (c2.keep r1.sub).same,i2⟩
def A1:List Ar->Option (List PyData)
 |[]=>some []
 |.d x::r=>(A1 r).map (x::·)
 |.s _::_=>none
def CJ{S:Addr->Prop}{σ:St}{H:Hp}:∀{rs:List Ar} {vs:List V} {ds:List PyData},ZE K S σ H rs vs->A1 rs=some ds->IsL K (hid S H) ds vs
 |[],_,_,h,e=>by cases e;exact h
 |.d x::r,_,_,⟨v,us,e1,h,l⟩,e=>by
  obtain⟨ds,e2,e⟩:=oM e
  cases e
  exact⟨v,us,e1,h,CJ l e2⟩
 |.s _::_,_,_,_,e=>by cases e
def AY(a:DA)(τ:DS):Option (PyData×DS):=(a τ).bind fun p=>(A1 p.1).bind fun ds=>if ds.length<=sizeLine then some (.tuple ds,p.2) else none
def Cy(a:DA)(τ:DS):Option (PyData×DS):=(a τ).bind fun p=>(A1 p.1).bind fun ds=>if ds.length<=sizeLine then some (.list ds,p.2) else none
def gi{t:TA}{a:DA}(ha:A K t a):E K (W9 t) false (AY a):=by
 refine⟨fun τ d t5 e=>?_,?_⟩
 ·unfold AY at e
  obtain⟨⟨x,t4⟩,e1,e⟩:=oB e
  obtain⟨ds,e2,e⟩:=oB e
  split at e
  ·cases e;exact ha.like _ _ _ e1
  ·cases e
 intro S M τ σ H Q d t5 r e q
 unfold AY at e
 obtain⟨⟨x,t4⟩,e1,e⟩:=oB e
 obtain⟨ds,e2,e⟩:=oB e
 split at e
 ·rename_i hz
  cases e
  refine ha.run S M τ σ H _ x _ r e1 fun vs H1 r1 c1 i1=>?_
  have l:=CJ i1 e2
  refine⟨by rw[l.length];exact hz,fun p hp=>?_⟩
  have s:=Ax hp (HO.tup vs)
  exact q _ _ (r1.same s) (c1.trans (.of s)) ⟨p,vs,rfl,SqT.of (hid_iff.mpr ⟨r1.fresh hp,Ah⟩),l.mono (Same.keep s).same⟩
 ·cases e
def gq{t:TA}{a:DA}(ha:A K t a):E K (Uy t) true (Cy a):=by
 refine⟨fun τ d t5 e=>?_,?_⟩
 ·unfold Cy at e
  obtain⟨⟨x,t4⟩,e1,e⟩:=oB e
  obtain⟨ds,e2,e⟩:=oB e
  split at e
  ·cases e;exact ha.like _ _ _ e1
  ·cases e
 intro S M τ σ H Q d t5 r e q
 unfold Cy at e
 obtain⟨⟨x,t4⟩,e1,e⟩:=oB e
 obtain⟨ds,e2,e⟩:=oB e
 split at e
 ·rename_i hz
  cases e
  refine ha.run S M τ σ H _ x _ r e1 fun vs H1 r1 c1 i1=>?_
  have l:=CJ i1 e2
  refine⟨by rw[l.length];exact hz,fun p hp=>?_⟩
  have s:=Ax hp (HO.lst vs)
  exact q _ _ (r1.same s) (c1.trans (.of s)) ((Ip hp l).back r1 c1)
 ·cases e
def BR(K:KW)(fr:Bool)(r:List V->Hp->VK->Prop)(F:List PyData->Option PyData):Prop:=∀(S:Addr->Prop) H vs ds d (Q:VK),(∀a,H a=none->¬S a)->IsL K (hid S H) ds vs->F ds=some d->(∀v H',Same H H'->Res K fr S H H' d v->Q v H')->r vs H Q
def Ak(F:List PyData->Option PyData)(a:DA)(τ:DS):Option (PyData×DS):=(a τ).bind fun p=>(A1 p.1).bind fun ds=>(F ds).map fun d=>(d,p.2)
def Zi{fr:Bool}{r:List V->Hp->VK->Prop}{F:List PyData->Option PyData}{t:TA}{a:DA}(h:BR K fr r F)(ha:A K t a):E K (tCB r t) fr (Ak F a):=by
 refine⟨fun τ d t5 e=>?_,?_⟩
 ·unfold Ak at e
  obtain⟨⟨x,t4⟩,e1,e⟩:=oB e
  obtain⟨ds,e2,e⟩:=oB e
  obtain⟨z,e3,e⟩:=oM e
  cases e;exact ha.like _ _ _ e1
 intro S M τ σ H Q d t5 rr e q
 unfold Ak at e
 obtain⟨⟨x,t4⟩,e1,e⟩:=oB e
 obtain⟨ds,e2,e⟩:=oB e
 obtain⟨z,e3,e⟩:=oM e
 cases e
 refine ha.run S M τ σ H _ x _ rr e1 fun vs H1 r1 c1 i1=>?_
 refine h S H1 vs ds d _ (fun _=>r1.fresh) (CJ i1 e2) e3 fun v H' s res=>?_
 exact q v H' (r1.same s) (c1.trans (.of s)) (res.back r1 c1)
def spD(K:KW)(G:List L->Option (PyData×List L))(fr:Bool):Sp:=fun vs H Q _=>∃(S M:Addr->Prop) (ls:List L) (r:PyData) (ls':List L),R K S M (ls.map some) (vs.map some) H/\G ls=some (r,ls') /\
 ∀v H',R K S M (ls'.map some) (vs.map some) H'->Chg M H H'->Res K fr S H H' r v->Q v H'
def RI{S M:Addr->Prop}{τ:DS}{σ:St}{H:Hp}(r:R K S M τ σ H){ds:List PyData}{vs:List V}(l:IsL K (hid S H) ds vs):R K S (fun _=>False) ((ds.map L.d).map some) (vs.map some) H where
 len:=by rw[B',B',B',l.length]
 dat:=fun i x e=>by
  rw[O',O']at e
  cases q:ds[i]? with
  |none=>rw[q]at e;cases e
  |some d =>
   rw[q]at e
   cases e
   obtain⟨v,h1,h2⟩:=l.get q
   exact⟨v,by rw[O',h1];rfl,h2⟩
 mt:=fun i o e=>by
  rw[O',O']at e
  cases q:ds[i]? with
  |none=>rw[q]at e;cases e
  |some d=>rw[q]at e;cases o<;>cases e
 cst:=fun i xs e=>by
  rw[O',O']at e
  cases q:ds[i]? with
  |none=>rw[q]at e;cases e
  |some d=>rw[q]at e;cases e
 inj:=fun i j o p a e=>by
  rw[O',O']at e
  cases q:ds[i]? with
  |none=>rw[q]at e;cases e
  |some d=>rw[q]at e;cases o<;>cases e
 sub:=fun a h=>h.elim
 ex:=r.ex
 gr:=GR.nil fun i d e=>by
  rw[O',O']at e
  cases q:ds[i]? with
  |none=>rw[q]at e;cases e
  |some d=>rw[q]at e;cases e
def AB(G:List L->Option (PyData×List L))(a:DA)(τ:DS):Option (PyData×DS):=(a τ).bind fun p=>(A1 p.1).bind fun ds=>(G (ds.map L.d)).map fun q=>(q.1,p.2)
def OK{fr:Bool}{G:List L->Option (PyData×List L)}{t:TA}{a:DA}{X:XK}(ha:A K t a):E K (En (spD K G fr) [] X t) fr (AB G a):=by
 refine⟨fun τ d t5 e=>?_,?_⟩
 ·unfold AB at e
  obtain⟨⟨x,t4⟩,e1,e⟩:=oB e
  obtain⟨ds,e2,e⟩:=oB e
  obtain⟨z,e3,e⟩:=oM e
  cases e;exact ha.like _ _ _ e1
 intro S M τ σ H Q d t5 rr e q
 unfold AB at e
 obtain⟨⟨x,t4⟩,e1,e⟩:=oB e
 obtain⟨ds,e2,e⟩:=oB e
 obtain⟨⟨z,ls'⟩,e3,e⟩:=oM e
 cases e
 refine ha.run S M τ σ H _ x _ rr e1 fun vs H1 r1 c1 i1=>?_
 have l:=CJ i1 e2
 show spD K G fr (vs++[]) H1 Q X
 rw[ku]
 refine⟨S,fun _=>False,ds.map L.d,_,ls',RI r1 l,e3,fun v H' _ c res=>?_⟩
 have s:Same H1 H':=fun b o e=>c b o (fun z=>z) e
 exact q v H' (r1.same s) (c1.trans (.of s)) (res.back r1 c1)
def Kx{a b:Ow}(h:some (some a.L)=some (some b.L)):a=b:=Ow.inj (J' (J' h))
def R.setO{S M:Addr->Prop}{τ:DS}{σ:St}{H H':Hp}(r:R K S M τ σ H){i:Nat}{a:Addr}{w w':Ow}{h:HO}(hi:τ[i]?=some (some w.L))(ha:σ[i]?=some (some (.ref a)))
  (c:Chg (fun b=>b=a) H H') (h':H' a=some h) (l:IsO K (hid S H') w' a h):R K S M (τ.set i (some w'.L)) σ H':=by
 have hlt:i<τ.length:=(R'.mp hi).1
 have Sa:S a:=by
  obtain⟨b,us,h1,h2,_⟩:=r.mt i w hi
  rw[ha]at h1;cases h1
  exact r.sub _ h2
 have k:Keep S H S H':=c.keep fun b e=>by subst e;exact Sa
 have ne:∀j,j≠i->(τ.set i (some w'.L))[j]?=τ[j]?:=fun j hj=>W' (Ne.symm hj)
 have se:(τ.set i (some w'.L))[i]?=some (some w'.L):=Z' hlt
 refine⟨by rw[kj];exact r.len,fun j x e=>?_,fun j ys e=>?_,fun j x e=>?_,fun j1 j2 ys zs b e1 e2 f1 f2=>?_,r.sub,fun b hb=>?_,r.gr.to (fun j d e=>?_) (fun j o b e q=>?_) (fun b hb hn=>⟨hb,?_⟩) (tsS k.same)⟩
 ·by_cases hj:j=i
  ·subst hj;rw[se]at e;exact absurd (J' (J' e)) Ow.not_d
  ·rw[ne j hj]at e
   obtain⟨v,h1,h2⟩:=r.dat j x e
   exact⟨v,h1,h2.mono k.same⟩
 ·by_cases hj:j=i
  ·subst hj
   rw[se]at e
   obtain rfl:=Ow.inj (J' (J' e))
   obtain⟨b,us,h1,h2,_⟩:=r.mt j w hi
   rw[ha]at h1;cases h1
   exact⟨a,h,ha,h2,h',l⟩
  ·rw[ne j hj]at e
   obtain⟨b,us,h1,h2,h3,h4⟩:=r.mt j ys e
   refine⟨b,us,h1,h2,c b _ (fun z=>?_) h3,h4.mono k.same⟩
   subst z
   exact hj (r.inj j i ys w b e hi h1 ha)
 ·by_cases hj:j=i
  ·subst hj;rw[se]at e;exact absurd (J' (J' e)) Ow.not_c
  ·rw[ne j hj]at e
   obtain⟨b,us,h1,h2,h3⟩:=r.cst j x e
   exact⟨b,us,h1,k.same.seq h2,h3.mono k.same⟩
 ·have g:∀(j:Nat) (ys:Ow),(τ.set i (some w'.L))[j]?=some (some ys.L)->∃zs:Ow,τ[j]?=some (some zs.L):=fun j ys e=>by
   by_cases hj:j=i
   ·subst hj;exact⟨_,hi⟩
   ·rw[ne j hj]at e;exact⟨_,e⟩
  obtain⟨_,g1⟩:=g j1 ys e1
  obtain⟨_,g2⟩:=g j2 zs e2
  exact r.inj _ _ _ _ b g1 g2 f1 f2
 ·by_cases e:b=a
  ·subst e;exact⟨_,h'⟩
  ·obtain⟨o,q⟩:=r.ex b hb
   exact⟨o,c b o e q⟩
 ·by_cases hj:j=i
  ·subst hj;rw[se]at e;exact absurd (J' (J' e)) Ow.not_g
  ·rw[ne j hj]at e;exact⟨e,rfl⟩
 ·by_cases hj:j=i
  ·subst hj;exact .inl ⟨w,hi,q⟩
  ·rw[ne j hj]at e;exact .inl ⟨o,e,q⟩
 ·obtain⟨o,e⟩:=r.ex b (r.sub b hb)
  rw[e];exact c b o (fun z=>hn i w hi (by rw[z];exact ha)) e
def R.setM{S M:Addr->Prop}{τ:DS}{σ:St}{H H':Hp}(r:R K S M τ σ H){i:Nat}{a:Addr}{xs xs':List PyData}{vs:List V}(hi:τ[i]?=some (some (.m xs)))(ha:σ[i]?=some (some (.ref a)))
  (c:Chg (fun b=>b=a) H H') (h':H' a=some (.lst vs)) (l:IsL K (hid S H') xs' vs):R K S M (τ.set i (some (.m xs'))) σ H':=r.setO (w:=.l xs) (w':=.l xs') hi ha c h' ⟨vs,rfl,l⟩
def T5{τ:DS}{i:Nat}{w w':Ow}(hi:τ[i]?=some (some w.L))(hf:w.fl=w'.fl):Like τ (τ.set i (some w'.L)):=by
 have hlt:i<τ.length:=(R'.mp hi).1
 refine⟨by rw[kj],fun j=>?_⟩
 by_cases hj:j=i
 ·subst hj
  rw[Z' hlt,hi]
  exact⟨⟨fun x=>⟨fun z=>absurd (J' (J' z)) Ow.not_d,fun z=>absurd (J' (J' z)) Ow.not_d⟩,fun x=>⟨fun z=>absurd (J' (J' z)) Ow.not_c,fun z=>absurd (J' (J' z)) Ow.not_c⟩⟩,fun b=>⟨fun⟨o,h1,h2⟩=>⟨w,by rw[hf,Kx h2];exact h1,rfl⟩,fun⟨o,h1,h2⟩=>⟨w',by rw[<- hf,Kx h2];exact h1,rfl⟩⟩⟩
 ·rw[W' (Ne.symm hj)]
  exact⟨⟨fun x=>mC,fun x=>mC⟩,fun b=>mC⟩
def T6{τ:DS}{i:Nat}{xs xs':List PyData}(hi:τ[i]?=some (some (.m xs))):Like τ (τ.set i (some (.m xs'))):=T5 (w:=.l xs) (w':=.l xs') hi rfl
def E6(i:Nat)(G:List L->Option (PyData×List L))(a:DA)(τ:DS):Option (PyData×DS):=(a τ).bind fun p=>(A1 p.1).bind fun ds=>match p.2[i]? with
 |some (some (.m xs))=>(G (.m xs::ds.map L.d)).bind fun q=>match q.2 with
  |.m xs'::_=>some (q.1,p.2.set i (some (.m xs')))
  |_=>none
 |some (some (.k xs))=>(G (.k xs::ds.map L.d)).bind fun q=>match q.2 with
  |.k xs'::_=>some (q.1,p.2.set i (some (.k xs')))
  |_=>none
 |_=>none
def okM:Option L->Bool
 |some (.m xs)=>fixDs xs
 |some (.k kvs)=>fixDs (kvs.map (·.2))
 |_=>true
def IsKV.monoT{H H':Hp}(s:TSm H H'):∀{kvs:List (List Int×PyData)} {ts:List (List Int×Addr×V)},fixDs (kvs.map (·.2))=true->IsKV K H (Mh kvs) ts->IsKV K H' (Mh kvs) ts
 |[],_,_,h=>h
 |(k,d)::kvs,_,f,⟨t,tr,e,ek,hk,h,l⟩=>by
  rw[kg,fixDs,Y']at f
  exact⟨t,tr,e,ek,s.tup hk,Is.monoT s f.1 h,IsKV.monoT s (kvs:=kvs) f.2 l⟩
def IsO.monoT{H H':Hp}(s:TSm H H'):∀{o:Ow} {a:Addr} {h:HO},okM (some o.L)=true->IsO K H o a h->IsO K H' o a h
 |.l _,_,_,f,⟨vs,e,l⟩=>⟨vs,e,l.monoT s f⟩
 |.t _,_,_,f,⟨ts,e,l⟩=>⟨ts,e,IsKV.monoT s f l⟩
def OwH(h:HO):Prop:=(∃vs,h = .lst vs)\/∃φ,h = .ext φ
def IsO.ho{H:Hp}:∀{o:Ow} {a:Addr} {h:HO},IsO K H o a h->OwH h
 |.l _,_,_,⟨vs,e,_⟩=>.inl ⟨vs,e⟩
 |.t _,_,_,⟨ts,⟨ep,e⟩,_⟩=>.inr ⟨_,e⟩
def ET(i:Nat)(f:DX)(τ:DS):Option (PyData×DS):=match τ[i]? with
 |some (some (.m xs))=>(f (τ.set i (some (.d (.list xs))))).bind fun q=>if Cs q.1&&q.2.all okM then some (q.1,q.2.set i (some (.m xs))) else none
 |some (some (.k xs))=>(f (τ.set i (some (.d (.dict (Mh xs)))))).bind fun q=>if Cs q.1&&q.2.all okM then some (q.1,q.2.set i (some (.k xs))) else none
 |_=>none
def NH{i:Nat}{f:DX}{τ:DS}{d:PyData}{t5:DS}(e:ET i f τ=some (d,t5)):∃w t4,τ[i]?=some (some (Ow.L w))/\f (τ.set i (some (.d w.D)))=some (d,t4)/\Cs d=true/\t4.all okM=true/\t5=t4.set i (some w.L):=by
 unfold ET at e
 split at e
 ·rename_i xs hx
  obtain⟨⟨z,t4⟩,e1,e⟩:=oB e
  dsimp only at e
  split at e
  ·rename_i h
   rw[Y']at h
   cases e
   exact⟨.l xs,t4,hx,e1,h.1,h.2,rfl⟩
  ·cases e
 ·rename_i xs hx
  obtain⟨⟨z,t4⟩,e1,e⟩:=oB e
  dsimp only at e
  split at e
  ·rename_i h
   rw[Y']at h
   cases e
   exact⟨.t xs,t4,hx,e1,h.1,h.2,rfl⟩
  ·cases e
 ·cases e
def Ef{S S':Addr->Prop}{H:Hp}(h:∀a,S' a->S a\/∃o,H a=some o/\OwH o):TSm (hid S H) (hid S' H):=fun b o e nl ne=>by
 obtain⟨e1,e2⟩:=hid_iff.mp e
 refine hid_iff.mpr ⟨fun z=>?_,e2⟩
 rcases h b z with z|⟨o',z,⟨vs,rfl⟩|⟨φ,rfl⟩⟩
 ·exact e1 z
 ·rw[e2]at z;cases z;exact nl _ rfl
 ·rw[e2]at z;cases z;exact ne _ rfl
def frz{S M:Addr->Prop}{τ:DS}{σ:St}{H:Hp}(r:R K S M τ σ H){i:Nat}{w:Ow}{p:Addr}(hi:τ[i]?=some (some w.L))(hp:σ[i]?=some (some (.ref p))) :
  R K (fun b=>S b/\b≠p) (fun b=>M b/\b≠p) (τ.set i (some (.d w.D))) σ H:=by
 have hlt:i<τ.length:=(R'.mp hi).1
 have ne:∀j,j≠i->(τ.set i (some (.d w.D)))[j]?=τ[j]?:=fun j hj=>W' (Ne.symm hj)
 have se:(τ.set i (some (.d w.D)))[i]?=some (some (.d w.D)):=Z' hlt
 have k:Same (hid S H) (hid (fun b=>S b/\b≠p) H):=C5 fun a z=>z.1
 have mn:∀(j:Nat) (ys:Ow),(τ.set i (some (.d w.D)))[j]?=some (some ys.L)->j≠i/\τ[j]?=some (some ys.L):=fun j ys e=>by
  by_cases hj:j=i
  ·subst hj;rw[se]at e;exact absurd (J' (J' e)).symm Ow.not_d
  ·rw[ne j hj]at e;exact⟨hj,e⟩
 have cs:∀(j:Nat) (ys:List PyData),(τ.set i (some (.d w.D)))[j]?=some (some (.c ys))->τ[j]?=some (some (.c ys)):=fun j ys e=>by
  by_cases hj:j=i
  ·subst hj;rw[se]at e;cases e
  ·rw[ne j hj]at e;exact e
 refine⟨by rw[kj];exact r.len,fun j x e=>?_,fun j ys e=>?_,fun j ys e=>let ⟨a,vs,h1,h2,h3⟩:=r.cst j ys (cs j ys e);⟨a,vs,h1,k.seq h2,h3.mono k⟩,fun j1 j2 ys zs b e1 e2 f1 f2=>?_,fun a h=>⟨r.sub a h.1,h.2⟩,fun a h=>r.ex a h.1,r.gr.to (fun j d e=>?_) (fun j o b e q=>.inl ⟨o,(mn j o e).2,q⟩) (fun b hb hn=>⟨⟨hb,fun z=>hn i w hi (by rw[z];exact hp)⟩,rfl⟩) (tsS k)⟩
 ·by_cases hj:j=i
  ·subst hj
   rw[se]at e
   cases e
   obtain⟨b,us,h1,h2,h3,h4⟩:=r.mt j w hi
   rw[hp]at h1;cases h1
   exact⟨_,hp,IsO.is (h4.mono k) (hid_iff.mpr ⟨fun z=>z.2 rfl,h3⟩)⟩
  ·rw[ne j hj]at e
   obtain⟨v,h1,h2⟩:=r.dat j x e
   exact⟨v,h1,h2.mono k⟩
 ·obtain⟨hj,e⟩:=mn j ys e
  obtain⟨b,us,h1,h2,h3,h4⟩:=r.mt j ys e
  refine⟨b,us,h1,⟨h2,fun z=>?_⟩,h3,h4.mono k⟩
  subst z
  exact hj (r.inj j i ys w b e hi h1 hp)
 ·exact r.inj j1 j2 ys zs b (mn _ _ e1).2 (mn _ _ e2).2 f1 f2
 ·by_cases hj:j=i
  ·subst hj;rw[se]at e;cases e
  ·rw[ne j hj]at e;exact⟨e,rfl⟩
def ZH{S M:Addr->Prop}{τ t4:DS}{σ:St}{H H':Hp}(r:R K S M τ σ H){i:Nat}{w:Ow}{p:Addr}(hi:τ[i]?=some (some w.L))(hp:σ[i]?=some (some (.ref p)))
  (r1:R K (fun b=>S b/\b≠p) (fun b=>M b/\b≠p) t4 σ H') (lk:Like (τ.set i (some (.d w.D))) t4) (c:Chg (fun b=>M b/\b≠p) H H') (ok:t4.all okM=true):R K S M (t4.set i (some w.L)) σ H':=by
 have hlt:i<τ.length:=(R'.mp hi).1
 have hl1:t4.length=τ.length:=by have:=lk.1;rw[kj]at this;exact this
 have hlt1:i<t4.length:=by omega
 have ne:∀j,j≠i->(t4.set i (some w.L))[j]?=t4[j]?:=fun j hj=>W' (Ne.symm hj)
 have se:(t4.set i (some w.L))[i]?=some (some w.L):=Z' hlt1
 have ne0:∀j,j≠i->(τ.set i (some (.d w.D)))[j]?=τ[j]?:=fun j hj=>W' (Ne.symm hj)
 obtain⟨b0,us,hb0,h2,h3,h4⟩:=r.mt i w hi
 rw[hp]at hb0;cases hb0
 have h3':H' p=some us:=c p _ (fun z=>z.2 rfl) h3
 have c':Chg M H H':=fun b o hn e=>c b o (fun z=>hn z.1) e
 have k:Keep S H S H':=c'.keep r.sub
 have ts:TSm (hid (fun b=>S b/\b≠p) H') (hid S H'):=Ef fun a z=>by
  by_cases e:a=p
  ·subst e;exact .inr ⟨_,h3',h4.ho⟩
  ·exact .inl ⟨z,e⟩
 have mm:∀(j:Nat) (ys:Ow),j≠i->t4[j]?=some (some ys.L)->∃zs:Ow,τ[j]?=some (some zs.L):=fun j ys hj e=>by
  obtain⟨zs,q⟩:=(lk.own j).mp ⟨_,e⟩
  rw[ne0 j hj]at q
  exact⟨zs,q⟩
 have cs:∀(j:Nat) (ys:List PyData),(t4.set i (some w.L))[j]?=some (some (.c ys))->τ[j]?=some (some (.c ys)):=fun j ys e=>by
  by_cases hj:j=i
  ·subst hj;rw[se]at e;exact absurd (J' (J' e)) Ow.not_c
  ·rw[ne j hj]at e
   have:=((lk.2 j).1.2 ys).mp e
   rw[ne0 j hj]at this
   exact this
 refine⟨by rw[kj];exact r1.len,fun j x e=>?_,fun j ys e=>?_,fun j ys e=>let ⟨a,vs,h1,h2,h3⟩:=r.cst j ys (cs j ys e);⟨a,vs,h1,k.same.seq h2,h3.mono k.same⟩,fun j1 j2 ys zs b e1 e2 f1 f2=>?_,r.sub,fun a h=>?_,r1.gr.to (fun j d e=>?_) (fun j o b e q=>?_) (fun b hb hn=>⟨hb.1,rfl⟩) ts⟩
 ·by_cases hj:j=i
  ·subst hj;rw[se]at e;exact absurd (J' (J' e)) Ow.not_d
  ·rw[ne j hj]at e
   have:=((lk.2 j).1.1 x).mp e
   rw[ne0 j hj]at this
   obtain⟨v,h5,h6⟩:=r.dat j x this
   exact⟨v,h5,h6.mono k.same⟩
 ·by_cases hj:j=i
  ·subst hj
   rw[se]at e
   obtain rfl:=Kx e
   exact⟨p,us,hp,h2,h3',h4.mono k.same⟩
  ·rw[ne j hj]at e
   obtain⟨b,ws,h5,h6,h7,h8⟩:=r1.mt j ys e
   have fx:okM (some ys.L)=true:=lF.mp ok (some ys.L) (ka e)
   exact⟨b,ws,h5,h6.1,h7,h8.monoT ts fx⟩
 ·have g:∀(j:Nat) (ys:Ow),(t4.set i (some w.L))[j]?=some (some ys.L)->∃zs:Ow,τ[j]?=some (some zs.L):=fun j ys e=>by
   by_cases hj:j=i
   ·subst hj;exact⟨_,hi⟩
   ·rw[ne j hj]at e;exact mm j ys hj e
  obtain⟨_,g1⟩:=g j1 ys e1
  obtain⟨_,g2⟩:=g j2 zs e2
  exact r.inj _ _ _ _ b g1 g2 f1 f2
 ·by_cases e:a=p
  ·subst e;exact⟨_,h3'⟩
  ·exact r1.ex a ⟨h,e⟩
 ·by_cases hj:j=i
  ·subst hj;rw[se]at e;exact absurd (J' (J' e)) Ow.not_g
  ·rw[ne j hj]at e;exact⟨e,rfl⟩
 ·by_cases hj:j=i
  ·subst hj
   rw[hp]at q;cases q
   exact .inr fun z=>z.2 rfl
  ·rw[ne j hj]at e;exact .inl ⟨o,e,q⟩
def PY{τ t4:DS}{i:Nat}{w:Ow}(hi:τ[i]?=some (some w.L))(lk:Like (τ.set i (some (.d w.D))) t4):Like τ (t4.set i (some w.L)):=by
 have hlt:i<τ.length:=(R'.mp hi).1
 have hl1:t4.length=τ.length:=by have:=lk.1;rw[kj]at this;exact this
 refine⟨by rw[kj];exact hl1,fun j=>?_⟩
 by_cases hj:j=i
 ·subst hj
  rw[Z' (by omega),hi]
  exact⟨⟨fun x=>mC,fun x=>mC⟩,fun b=>mC⟩
 ·have:=lk.2 j
  rw[W' (Ne.symm hj)]at this ⊢
  exact this
def g9{i:Nat}{fr:Bool}{t:TE}{f:DX}(h:E K t fr f):E K t false (ET i f):=by
 refine⟨fun τ d t5 e=>?_,?_⟩
 ·obtain⟨xs,t4,e1,e2,_,_,rfl⟩:=NH e
  exact PY e1 (h.like _ _ _ e2)
 intro S M τ σ H Q d t5 r e q
 obtain⟨xs,t4,e1,e2,fx,ok,rfl⟩:=NH e
 obtain⟨p,us,hp,hM,hl,ll⟩:=r.mt i xs e1
 refine h.weak.run _ _ _ σ H _ d t4 (frz r e1 hp) e2 fun v H' r' c res=>?_
 have r2:=ZH r e1 hp r' (h.like _ _ _ e2) c ok
 refine q v H' r2 (fun b o hn e=>c b o (fun z=>hn z.1) e) ?_
 have h3':H' p=some us:=c p _ (fun z=>z.2 rfl) hl
 exact Is.monoT (Ef fun a z => by
  by_cases e:a=p
  ·subst e;exact .inr ⟨_,h3',ll.ho⟩
  ·exact .inl ⟨z,e⟩) fx (show Is K (hid (fun b=>S b/\b≠p) H') d v from res)
def HH(i:Nat)(f:DX)(τ:DS):Option (PyData×DS):=match τ[i]? with
 |some (some (.m xs))=>(f (τ.set i (some (.d (.list xs))))).bind fun q=>match q.1 with
  |.list ys=>if fixDs ys&&q.2.all okM then some (q.1,q.2.set i (some (.m xs))) else none
  |_=>none
 |some (some (.k xs))=>(f (τ.set i (some (.d (.dict (Mh xs)))))).bind fun q=>match q.1 with
  |.list ys=>if fixDs ys&&q.2.all okM then some (q.1,q.2.set i (some (.k xs))) else none
  |_=>none
 |_=>none
def Ow.D_list{o:Ow}{ys:List PyData}(h:PyData.list ys=o.D):o = .l ys:=by
 cases o with
 |l xs=>cases h;rfl
 |t kvs=>cases h
variable {K:KW}
def jb(K:KW)(S:Addr->Prop)(J:It)(H:Hp)(ds:List PyData):Prop:=∀(S2:Addr->Prop) (H2:Hp),Keep S H S2 H2->(∀(i:Nat) (d:PyData),ds[i]?=some d->J.go i H2/\∀x H3,J.yld i H2 x H3->H3=H2/\Is K (hid S2 H2) d x)/\∀i,ds.length<=i->J.stop i H2
abbrev DI:=DS->Option (List PyData×DS)
structure IT(K:KW)(wi:TI)(f:DI):Prop where
 like:∀τ ds t5,f τ=some (ds,t5)->Like τ t5
 run:∀S M τ σ H (Q:It->Hp->Prop) ds t5,R K S M τ σ H->f τ=some (ds,t5)->(∀J H',R K S M t5 σ H'->Chg M H H'->jb K S J H' ds->Q J H')->wi σ H Q
def dIL(f:DX)(τ:DS):Option (List PyData×DS):=(f τ).bind fun p=>match p.1 with
 |.list ds=>some (ds,p.2)
 |_=>none
def dIT(f:DX)(τ:DS):Option (List PyData×DS):=(f τ).bind fun p=>match p.1 with
 |.tuple ds=>some (ds,p.2)
 |_=>none
def Ss{fr:Bool}{t:TE}{f:DX}(h:E K t fr f):IT K (M8 K t) (dIL f):=by
 refine⟨fun τ d t5 e=>?_,?_⟩
 ·unfold dIL at e
  obtain⟨⟨x,t4⟩,e1,e⟩:=oB e
  dsimp only at e
  split at e
  ·cases e;exact h.like _ _ _ e1
  ·cases e
 intro S M τ σ H Q ds t5 r e q
 unfold dIL at e
 obtain⟨⟨x,t4⟩,e1,e⟩:=oB e
 dsimp only at e
 split at e
 ·cases e
  refine h.weak.run S M τ σ H _ _ _ r e1 fun v H1 r1 c1 i1=>?_
  have i1':Is K (hid S H1) (.list ds) v:=i1
  obtain⟨a,vs,rfl,hl,ll⟩:=i1'
  refine⟨a,rfl,⟨vs,SqL.of (hid_iff.mp hl).2⟩,q _ H1 r1 c1 fun S2 H2 k=>?_⟩
  have hl2:=k.same _ _ hl
  have ll2:=ll.mono k.same
  refine⟨fun i d e=>?_,fun i hi=>⟨vs,SqL.of (hid_iff.mp hl2).2,by rw[ll.length];exact hi⟩⟩
  obtain⟨u,h1,h2⟩:=ll2.get e
  refine⟨⟨vs,u,SqL.of (hid_iff.mp hl2).2,h1⟩,fun x H3 y=>⟨y.1,?_⟩⟩
  have:=y.2 vs (SqL.of (hid_iff.mp hl2).2)
  rw[h1]at this;cases this
  exact h2
 ·cases e
def bK{fr:Bool}{t:TE}{f:DX}(h:E K t fr f):IT K (YC K t) (dIT f):=by
 refine⟨fun τ d t5 e=>?_,?_⟩
 ·unfold dIT at e
  obtain⟨⟨x,t4⟩,e1,e⟩:=oB e
  dsimp only at e
  split at e
  ·cases e;exact h.like _ _ _ e1
  ·cases e
 intro S M τ σ H Q ds t5 r e q
 unfold dIT at e
 obtain⟨⟨x,t4⟩,e1,e⟩:=oB e
 dsimp only at e
 split at e
 ·cases e
  refine h.weak.run S M τ σ H _ _ _ r e1 fun v H1 r1 c1 i1=>?_
  have i1':Is K (hid S H1) (.tuple ds) v:=i1
  obtain⟨a,vs,rfl,hl,ll⟩:=i1'
  refine⟨a,rfl,⟨vs,Same.tup same_hid hl⟩,q _ H1 r1 c1 fun S2 H2 k=>?_⟩
  have hl2:=Same.tup same_hid (Same.tup k.same hl)
  have ll2:=ll.mono k.same
  refine⟨fun i d e=>?_,fun i hi=>⟨vs,hl2,by rw[ll.length];exact hi⟩⟩
  obtain⟨u,h1,h2⟩:=ll2.get e
  refine⟨⟨vs,u,hl2,h1⟩,fun x H3 y=>⟨y.1,?_⟩⟩
  have:=y.2 vs hl2
  rw[h1]at this;cases this
  exact h2
 ·cases e
def Gw(lo:Int)(n:Nat):List PyData:=(List.range n).map fun(k:Nat)=>PyData.int (lo+(k:Int))
def U8{S:Addr->Prop}{H:Hp}{lo:Int}{n:Nat}:jb K S (Itr lo n) H (Gw lo n):=by
 intro S2 H2 k
 refine⟨fun i d e=>?_,fun i hi=>?_⟩
 ·unfold Gw at e
  rw[O']at e
  by_cases hi:i<n
  ·rw[List.getElem?_range hi]at e
   cases e
   exact⟨hi,fun x H3 y=>⟨y.1,y.2⟩⟩
  ·rw[List.getElem?_eq_none (by simpa using hi)]at e
   cases e
 ·unfold Gw at hi
  rw[B',lJ]at hi
  exact hi
def dR1(a:DA)(τ:DS):Option (List PyData×DS):=(a τ).bind fun p=>(A1 p.1).bind fun ds=>match ds with
 |[.int j]=>if -(2 ^ 62)<=j/\j<2 ^ 62 then some (Gw 0 j.toNat,p.2) else none
 |_=>none
def dR2(a:DA)(τ:DS):Option (List PyData×DS):=(a τ).bind fun p=>(A1 p.1).bind fun ds=>match ds with
 |[.int i,.int j]=>if -(2 ^ 62)<=i/\i<2 ^ 62/\-(2 ^ 62)<=j/\j<2 ^ 62 then some (Gw i (j-i).toNat,p.2) else none
 |_=>none
def UA{t:TA}{a:DA}(ha:A K t a):IT K (Zc t) (dR1 a):=by
 refine⟨fun τ d t5 e=>?_,?_⟩
 ·unfold dR1 at e
  obtain⟨⟨x,t4⟩,e1,e⟩:=oB e
  obtain⟨ds,e2,e⟩:=oB e
  split at e
  ·split at e
   ·cases e;exact ha.like _ _ _ e1
   ·cases e
  ·cases e
 intro S M τ σ H Q ds t5 r e q
 unfold dR1 at e
 obtain⟨⟨x,t4⟩,e1,e⟩:=oB e
 obtain⟨ds',e2,e⟩:=oB e
 split at e
 ·split at e
  ·rename_i j hj
   cases e
   refine ha.run S M τ σ H _ x _ r e1 fun vs H1 r1 c1 i1=>?_
   obtain⟨v,us,rfl,iv,iu⟩:=CJ i1 e2
   cases (show us=[] from iu)
   exact⟨j,by rw[show v = .int j from iv],hj.1,hj.2,q _ H1 r1 c1 U8⟩
  ·cases e
 ·cases e
abbrev DG:=PyData->DS->Option DS
def MSame(τ t5:DS):Prop:=t5.length=τ.length/\∀(j:Nat) (o:Ow),t5[j]?=some (some o.L)↔τ[j]?=some (some o.L)
def MSame.refl{τ:DS}:MSame τ τ:=⟨rfl,fun _ _=>mC⟩
def MSame.trans{τ t4 t7:DS}(a:MSame τ t4)(b:MSame t4 t7):MSame τ t7:=⟨b.1.trans a.1,fun j xs=>(b.2 j xs).trans (a.2 j xs)⟩
structure TG1 K (g:TG) (f:DG):Prop where
 ms:∀d τ t5,f d τ=some t5->MSame τ t5
 run:∀S M τ σ H v d t5 (Q:St->Hp->Prop),R K S M τ σ H->Is K (hid S H) d v->f d τ=some t5->(∀σ',R K S M t5 σ' H->(∀(j:Nat) (o:Ow),τ[j]?=some (some o.L)->σ'[j]?=σ[j]?)->Q σ' H)->g v σ H Q
structure TG2 K (g:TGs) (f:List PyData->DS->Option DS):Prop where
 ms:∀d τ t5,f d τ=some t5->MSame τ t5
 run:∀S M τ σ H vs ds t5 (Q:St->Hp->Prop),R K S M τ σ H->IsL K (hid S H) ds vs->f ds τ=some t5->(∀σ',R K S M t5 σ' H->(∀(j:Nat) (o:Ow),τ[j]?=some (some o.L)->σ'[j]?=σ[j]?)->Q σ' H)->g vs σ H Q
def dN(i:Nat)(d:PyData)(τ:DS):Option DS:=match τ[i]? with
 |some (some (.m _))=>none
 |some (some (.k _))=>none
 |some _=>some (τ.set i (some (.d d)))
 |none=>none
def TB{i:Nat}{d:PyData}{τ t5:DS}(e:dN i d τ=some t5):i<τ.length/\(∀o:Ow,τ[i]?≠some (some o.L))/\t5=τ.set i (some (.d d)):=by
 unfold dN at e
 split at e
 ·cases e
 ·cases e
 ·rename_i o hn hk ho
  cases e
  refine⟨(R'.mp ho).1,fun xs z=>?_,rfl⟩
  rw[ho]at z
  cases xs with
  |l xs=>exact hn xs (J' z)
  |t xs=>exact hk xs (J' z)
 ·cases e
def R.setD{S M:Addr->Prop}{τ:DS}{σ:St}{H:Hp}(r:R K S M τ σ H){i:Nat}{d:PyData}{v:V}(hi:i<τ.length)(hm:∀o:Ow,τ[i]?≠some (some o.L))(iv:Is K (hid S H) d v):R K S M (τ.set i (some (.d d))) (σ.set i (some v)) H:=by
 have hs:i<σ.length:=by rw[r.len];exact hi
 have ne:∀j,j≠i->(τ.set i (some (.d d)))[j]?=τ[j]?:=fun j hj=>W' (Ne.symm hj)
 have ne':∀j,j≠i->(σ.set i (some v))[j]?=σ[j]?:=fun j hj=>W' (Ne.symm hj)
 have mn:∀(j:Nat) (ys:Ow),(τ.set i (some (.d d)))[j]?=some (some ys.L)->j≠i/\τ[j]?=some (some ys.L):=fun j ys e=>by
  by_cases hj:j=i
  ·subst hj;rw[Z' hi]at e;exact absurd (J' (J' e)).symm Ow.not_d
  ·rw[ne j hj]at e;exact⟨hj,e⟩
 refine⟨by rw[kj,kj];exact r.len,fun j x e=>?_,fun j xs e=>?_,fun j xs e=>?_,fun j1 j2 ys zs b e1 e2 f1 f2=>?_,r.sub,r.ex,r.gr.to (fun j x e=>?_) (fun j o b e q=>.inl ⟨o,(mn j o e).2,by rw[ne' j (mn j o e).1]at q;exact q⟩) (fun b hb hn=>⟨hb,rfl⟩) .refl⟩
 ·by_cases hj:j=i
  ·subst hj
   rw[Z' hi]at e
   cases e
   exact⟨v,Z' hs,iv⟩
  ·rw[ne j hj]at e
   rw[ne' j hj]
   exact r.dat j x e
 ·obtain⟨hj,e⟩:=mn j xs e
  rw[ne' j hj]
  exact r.mt j xs e
 ·by_cases hj:j=i
  ·subst hj;rw[Z' hi]at e;cases e
  ·rw[ne j hj]at e
   rw[ne' j hj]
   exact r.cst j xs e
 ·obtain⟨h1,e1⟩:=mn j1 ys e1
  obtain⟨h2,e2⟩:=mn j2 zs e2
  rw[ne' _ h1]at f1
  rw[ne' _ h2]at f2
  exact r.inj _ _ _ _ b e1 e2 f1 f2
 ·by_cases hj:j=i
  ·subst hj;rw[Z' hi]at e;cases e
  ·rw[ne j hj]at e;exact⟨e,ne' j hj⟩
def Xx{τ:DS}{i:Nat}{d:PyData}(hi:i<τ.length)(hm:∀o:Ow,τ[i]?≠some (some o.L)):MSame τ (τ.set i (some (.d d))):=by
 refine⟨by rw[kj],fun j xs=>?_⟩
 by_cases hj:j=i
 ·subst hj
  rw[Z' hi]
  exact⟨fun z=>absurd (J' (J' z)).symm Ow.not_d,fun z=>absurd z (hm xs)⟩
 ·rw[W' (Ne.symm hj)]
def E2{i:Nat}:TG1 K (FO i) (dN i):=by
 refine⟨fun d τ t5 e=>?_,?_⟩
 ·obtain⟨h1,h2,rfl⟩:=TB e
  exact Xx h1 h2
 intro S M τ σ H v d t5 Q r iv e q
 obtain⟨h1,h2,rfl⟩:=TB e
 refine q _ (r.setD h1 h2 iv) fun j xs ej=>?_
 have:j≠i:=fun z=>h2 xs (by rw[<- z];exact ej)
 exact W' (Ne.symm this)
def DK:List PyData->DS->Option DS
 |[],τ=>some τ
 |_::_,_=>none
def Ag(f:DG)(g:List PyData->DS->Option DS):List PyData->DS->Option DS
 |d::ds,τ=>(f d τ).bind fun t4=>g ds t4
 |[],_=>none
def bS:TG2 K gf DK:=by
 refine⟨fun d τ t5 e=>?_,?_⟩
 ·cases d with
  |nil=>cases e;exact .refl
  |cons _ _=>cases e
 intro S M τ σ H vs ds t5 Q r iv e q
 cases ds with
 |nil=>cases e;exact⟨iv,q σ r fun _ _ _=>rfl⟩
 |cons _ _=>cases e
def YE{t:TG}{u:TGs}{f:DG}{g:List PyData->DS->Option DS}(h1:TG1 K t f)(h2:TG2 K u g):TG2 K (Ze t u) (Ag f g):=by
 refine⟨fun d τ t5 e=>?_,?_⟩
 ·cases d with
  |nil=>cases e
  |cons d ds =>
   obtain⟨t4,e1,e⟩:=oB e
   exact(h1.ms _ _ _ e1).trans (h2.ms _ _ _ e)
 intro S M τ σ H vs ds t5 Q r iv e q
 cases ds with
 |nil=>cases e
 |cons d ds =>
  obtain⟨t4,e1,e⟩:=oB e
  obtain⟨v,us,rfl,iv,iu⟩:=iv
  refine⟨v,us,rfl,h1.run S M τ σ H v d t4 _ r iv e1 fun σ1 r1 k1=>?_⟩
  refine h2.run S M t4 σ1 H us ds t5 _ r1 iu e fun σ2 r2 k2=>?_
  refine q σ2 r2 fun j xs hj=>?_
  rw[k2 j xs (((h1.ms _ _ _ e1).2 j xs).mpr hj),k1 j xs hj]
def dGT(g:List PyData->DS->Option DS)(d:PyData)(τ:DS):Option DS:=match d with
 |.tuple ds=>g ds τ
 |_=>none
def gd{n:Nat}{u:TGs}{g:List PyData->DS->Option DS}(h:TG2 K u g)(hn:∀ds τ t5,g ds τ=some t5->ds.length=n):TG1 K (YF K n u) (dGT g):=by
 refine⟨fun d τ t5 e=>?_,?_⟩
 ·unfold dGT at e
  split at e
  ·exact h.ms _ _ _ e
  ·cases e
 intro S M τ σ H v d t5 Q r iv e q
 unfold dGT at e
 split at e
 ·obtain⟨a,vs,rfl,hl,ll⟩:=iv
  exact⟨a,vs,rfl,Same.tup same_hid hl,by rw[ll.length];exact hn _ _ _ e,h.run S M τ σ H vs _ t5 Q r ll e q⟩
 ·cases e
def Si:∀(ds:List PyData) (τ t5:DS),DK ds τ=some t5->ds.length=0
 |[],_,_,_=>rfl
 |_::_,_,_,e=>by cases e
def PZ{n:Nat}{f:DG}{g:List PyData->DS->Option DS}(h:∀ds τ t5,g ds τ=some t5->ds.length=n):∀(ds:List PyData) (τ t5:DS),Ag f g ds τ=some t5->ds.length=n+1
 |[],_,_,e=>by cases e
 |d::ds,τ,t5,e=>by
  obtain⟨t4,e1,e⟩:=oB e
  rw[kX,h _ _ _ e]
def D0(g:DG)(c:DT)(e:DX):List PyData->List PyData->DS->Option (List PyData×DS)
 |[],acc,τ=>some (acc,τ)
 |d::ds,acc,τ=>(g d τ).bind fun t4=>(c t4).bind fun p=>if p.1=true then (e p.2).bind fun q=>D0 g c e ds (acc++[q.1]) q.2 else D0 g c e ds acc p.2
def noG:Option L->Option L
 |some (.g _)=>none
 |o=>o
def OU(own:Nat)(fr:List Nat)(τ:DS):DS:=List.replicate own none++fr.map fun j=>noG (τ[j]?).join
def PQ{o:Option L}{l:L}(h:noG o=some l):o=some l/\∀x,l≠.g x:=by
 unfold noG at h
 split at h
 ·cases h
 ·rename_i hn
  exact⟨h,fun x z=>hn x (by rw[h,z])⟩
def isM(τ:DS)(j:Nat):Bool:=match τ[j]? with
 |some (some (.m _))=>true
 |some (some (.k _))=>true
 |_=>false
def isM_iff{τ:DS}{j:Nat}:isM τ j=true↔∃o:Ow,τ[j]?=some (some o.L):=by
 unfold isM
 split
 ·rename_i xs h;exact⟨fun _=>⟨.l xs,h⟩,fun _=>rfl⟩
 ·rename_i xs h;exact⟨fun _=>⟨.t xs,h⟩,fun _=>rfl⟩
 ·rename_i h1 h2
  exact ⟨fun z => (nomatch z), fun ⟨o, z⟩ => by
   cases o with
   |l xs=>exact absurd z (h1 xs)
   |t xs=>exact absurd z (h2 xs)⟩
def dLC(own:Nat)(fr:List Nat)(it:DI)(g:DG)(c:DT)(e:DX)(τ:DS):Option (PyData×DS):=(it τ).bind fun p=>if p.1.length<=sizeLine/\(fr.all fun j=>!isM p.2 j)=true then (D0 g c e p.1 [] (OU own fr p.2)).map fun q=>(.list q.1,p.2) else none
def JQ{own:Nat}{fr:List Nat}{τ:DS}{i:Nat}{l:L}(h:(OU own fr τ)[i]?=some (some l)):∃k j,i=own+k/\fr[k]?=some j/\τ[j]?=some (some l):=by
 unfold OU at h
 by_cases hi:i<own
 ·rw[ke (by simpa using hi),lG,if_pos hi]at h
  cases h
 ·rw[kx (by simpa using hi),lT,O']at h
  cases e:fr[i-own]? with
  |none=>rw[e]at h;cases h
  |some j =>
   rw[e]at h
   simp only[Option.map_some,Option.some.injEq]at h
   refine⟨i-own,j,by omega,e,?_⟩
   replace h:=(PQ h).1
   cases q:τ[j]? with
   |none=>rw[q]at h;cases h
   |some o=>rw[q]at h;cases o with
    |none=>cases h
    |some u=>cases h;rfl
def eJ{own:Nat}{fr:List Nat}{τ:DS}(i:Nat)(d:PyData):(OU own fr τ)[i]?≠some (some (.g d)):=fun h=>by
 unfold OU at h
 by_cases hi:i<own
 ·rw[ke (by simpa using hi),lG,if_pos hi]at h
  cases h
 ·rw[kx (by simpa using hi),lT,O']at h
  cases e:fr[i-own]? with
  |none=>rw[e]at h;cases h
  |some j =>
   rw[e]at h
   simp only[Option.map_some,Option.some.injEq]at h
   exact(PQ h).2 d rfl
def Wk{own:Nat}{fr:List Nat}{σ:St}{k j:Nat}{v:V}(e:fr[k]?=some j)(h:σ[j]?=some (some v)):(blk own fr σ)[own+k]?=some (some v):=by
 unfold blk
 rw[kx (by simp),lT,O',show own+k-own=k by omega,e]
 show some (σ[j]?).join=_
 rw[h];rfl
def Pe{H:Hp}{xs:List PyData}{vs:List V}{d:PyData}{v:V}(l:IsL K H xs vs)(i:Is K H d v):IsL K H (xs++[d]) (vs++[v]):=E1 l ⟨v,[],rfl,i,rfl⟩
def gu{own:Nat}{fr:List Nat}{wi:TI}{it:DI}{tg:TG}{g:DG}{tc:TT}{c:DT}{te:TE}{e:DX}{fe:Bool}(hi:IT K wi it)(hg:TG1 K tg g)(hc:T K tc c)(he:E K te fe e):E K (tLC own fr wi tg tc te) true (dLC own fr it g c e):=by
 refine⟨fun τ d t5 e=>?_,?_⟩
 ·unfold dLC at e
  obtain⟨⟨x,t4⟩,e1,e⟩:=oB e
  split at e
  ·obtain⟨z,e3,e⟩:=oM e
   cases e;exact hi.like _ _ _ e1
  ·cases e
 intro S M τ σ H Q d t5 r ee q
 unfold dLC at ee
 obtain⟨⟨ds,t4⟩,e1,ee⟩:=oB ee
 split at ee
 ·rename_i hz
  obtain⟨hz,hnm⟩:=hz
  have hz:ds.length<=sizeLine:=hz
  obtain⟨⟨acc,b7⟩,e3,ee⟩:=oM ee
  obtain⟨rfl,rfl⟩:d = .list acc/\t5=t4:=by cases ee;exact⟨rfl,rfl⟩
  refine hi.run S M τ σ H _ ds _ r e1 fun J H1 r1 c1 iJ=>?_
  intro D hD
  -- nothing of the def may be changed in the block
  refine⟨fun i m ys σ' H'=>∃Ge acc',R K (fun b=>S b\/b=D) (fun _=>False) Ge σ' H'/\Keep S H1 (fun b=>S b\/b=D) H'/\Chg (fun b=>b=D) H1 H'/\IsL K (hid (fun b=>S b\/b=D) H') acc' ys/\H' D=some (.lst ys)/\ys.length<=i/\i<=ds.length/\m=ds.length-i/\D0 g c e (ds.drop i) acc' Ge=some (acc,b7),?_,?_⟩
  ·have s:=Ax hD (HO.lst [])
   have k:Keep S H1 (fun b=>S b\/b=D) (upd H1 D (.lst [])):=fun b o hn e=>by
    have:=A0 e hD
    exact⟨fun z=>z.elim hn this,s b o e⟩
   refine⟨ds.length,OU own fr t5,[],⟨?_,?_,?_,?_,?_,fun a h=>h.elim,?_,GR.nil eJ⟩,k,.of s,rfl,Ah,X' _,lW _,by simp,by simpa using e3⟩
   ·unfold blk OU;simp
   ·intro i x e
    obtain⟨kk,j,rfl,ej,et⟩:=JQ e
    obtain⟨v,h1,h2⟩:=r1.dat j x et
    exact⟨v,Wk ej h1,h2.mono k.same⟩
   ·intro i xs e
    obtain⟨kk,j,rfl,ej,et⟩:=JQ e
    have:=lF.mp hnm j (ka ej)
    rw[isM_iff.mpr ⟨xs,et⟩]at this
    cases this
   ·intro i x e
    obtain⟨kk,j,rfl,ej,et⟩:=JQ e
    obtain⟨a,vs,h1,h2,h3⟩:=r1.cst j x et
    exact⟨a,vs,Wk ej h1,k.same.seq h2,h3.mono k.same⟩
   ·intro i j xs ys a e
    obtain⟨kk,j',rfl,ej,et⟩:=JQ e
    have:=lF.mp hnm j' (ka ej)
    rw[isM_iff.mpr ⟨xs,et⟩]at this
    cases this
   ·rintro a (h|rfl)
    ·obtain⟨o,e⟩:=r1.ex a h
     exact⟨o,s _ _ e⟩
    ·exact⟨_,Ah⟩
  ·rintro i m ys σ' H' ⟨Ge,acc',rb,k,ch,la,hHD,hyl,hil,rfl,hl⟩
   obtain⟨I1,I2⟩:=iJ _ _ k
   by_cases hlt:i<ds.length
   ·right
    have ed:ds[i]?=some ds[i]:=km hlt
    obtain⟨go,yl⟩:=I1 i _ ed
    refine⟨go,fun x H2 y=>?_⟩
    obtain⟨rfl,ix⟩:=yl x H2 y
    rw[lZ hlt,D0]at hl
    obtain⟨t7,e2,hl⟩:=oB hl
    obtain⟨⟨b,n9⟩,e4,hl⟩:=oB hl
    refine hg.run _ _ Ge σ' H2 x _ t7 _ rb ix e2 fun σ3 r3 k3=>?_
    refine hc.run _ _ t7 σ3 H2 _ b n9 r3 e4 fun H4 r4 c4=>?_
    have s4:Same H2 H4:=fun b o e=>c4 b o (fun z=>z) e
    cases b with
    |false =>
     rw[if_neg kr]
     exact⟨ds.length-(i+1),by omega,n9,acc',r4,k.trans (Same.keep s4),ch.trans (.of s4),la.mono (Same.keep s4).same,s4 _ _ hHD,by omega,hlt,rfl,hl⟩
    |true =>
     rw[if_pos rfl]
     rw[if_pos rfl]at hl
     obtain⟨⟨z,p8⟩,e5,hl⟩:=oB hl
     refine he.weak.run _ _ n9 σ3 H4 _ z p8 r4 e5 fun v H5 r5 c5 i5=>?_
     have s5:Same H2 H5:=s4.trans fun b o e=>c5 b o (fun z=>z) e
     have hD5:=s5 _ _ hHD
     refine⟨hD5,by omega,ds.length-(i+1),by omega,p8,acc'++[z],?_,?_,?_,?_,Ah,by rw[T',List.length_singleton];omega,hlt,rfl,hl⟩
     ·have kk:Keep (fun b=>S b\/b=D) H5 (fun b=>S b\/b=D) (upd H5 D (.lst (ys++[v]))):=fun b o hn e=>⟨hn,by rw[Aq (fun z=>hn (.inr z))];exact e⟩
      refine⟨r5.len,fun j x e=>let ⟨u,a,b⟩:=r5.dat j x e;⟨u,a,b.mono kk.same⟩,fun j xs e=>let ⟨_,_,_,h,_⟩:=r5.mt j xs e;h.elim,fun j xs e=>let ⟨a,vs,h1,h2,h3⟩:=r5.cst j xs e;⟨a,vs,h1,kk.same.seq h2,h3.mono kk.same⟩,r5.inj,fun _ h=>h.elim,fun a h=>?_,r5.gr.to (fun i d e=>⟨e,rfl⟩) (fun j o a e q=>.inl ⟨o,e,q⟩) (fun a h _=>h.elim) (tsS kk.same)⟩
      by_cases e:a=D
      ·subst e;exact⟨_,Ah⟩
      ·obtain⟨o,q⟩:=r5.ex a h
       exact⟨o,by rw[Aq e];exact q⟩
     ·refine k.trans fun b o hn e=>⟨hn,?_⟩
      rw[Aq (fun z=>hn (.inr z))]
      exact s5 _ _ e
     ·refine ch.trans fun b o hn e=>?_
      rw[Aq hn]
      exact s5 _ _ e
     ·refine(Pe (la.mono (Same.keep s5).same) i5).mono (Keep.same fun b o hn e=>⟨hn,?_⟩)
      rw[Aq (fun z=>hn (.inr z))]
      exact e
   ·left
    have e:i=ds.length:=by omega
    subst e
    rw[mL,D0]at hl
    cases hl
    refine⟨I2 _ (X' _),?_⟩
    have s:Same H1 H':=fun b o e=>ch b o (A0 e hD) e
    refine q _ H' (r1.same s) (c1.trans (.of s)) ⟨.l acc,D,_,rfl,rfl,r1.none c1 hD,hHD,ys,rfl,la⟩
 ·cases ee
variable {K:KW}
variable {K:KW}
def Bz(i:Nat)(f:DX)(τ:DS):Option (PyData×DS):=(f τ).bind fun p=>match p.2[i]?,p.1 with
 |some (some (.c xs)),.int k=>(atI xs k).map fun d=>(d,p.2)
 |_,_=>none
def gx{i:Nat}{fr:Bool}{tb:TE}{f:DX}(h:E K tb fr f):E K (tOp (Td K) (Dq i) tb) false (Bz i f):=by
 refine⟨fun τ d t5 e=>?_,?_⟩
 ·unfold Bz at e
  obtain⟨⟨x,t4⟩,e1,e⟩:=oB e
  dsimp only at e
  split at e
  ·obtain⟨z,e3,e⟩:=oM e
   cases e;exact h.like _ _ _ e1
  ·cases e
 intro S M τ σ H Q d t5 r e q
 unfold Bz at e
 obtain⟨⟨x,t4⟩,e1,e⟩:=oB e
 dsimp only at e
 split at e
 ·rename_i xs k hx
  obtain⟨z,e3,e⟩:=oM e
  cases e
  obtain⟨a,vs,ha,_⟩:=r.cst i xs ((((h.like _ _ _ e1).2 i).1.2 xs).mp hx)
  refine⟨.ref a,ha,h.weak.run S M τ σ H _ _ _ r e1 fun v H1 r1 c1 i1=>?_⟩
  obtain⟨a',vs',ha',h2,h3⟩:=r1.cst i xs hx
  rw[ha]at ha';cases ha'
  obtain⟨u,h4,h5⟩:=Rh h3 e3
  exact⟨a,vs',k,u,rfl,i1,same_hid.seq h2,h4,q u H1 r1 c1 h5⟩
 ·cases e
def A6(i:Nat)(τ:DS):Option (PyData×DS):=match τ[i]? with
 |some (some (.c xs))=>some (.int xs.length,τ)
 |_=>none
def bZ{i:Nat}:E K (tCB (fun xs H Q=>∃x n,xs=[x]/\UY K x H n/\Q (.int n) H) (Bs (Dq i) Em)) false (A6 i):=by
 refine⟨fun τ d t5 e=>?_,?_⟩
 ·unfold A6 at e
  split at e
  ·cases e;exact .refl
  ·cases e
 intro S M τ σ H Q d t5 r e q
 unfold A6 at e
 split at e
 ·rename_i xs hx
  cases e
  obtain⟨a,vs,ha,h2,h3⟩:=r.cst i xs hx
  refine⟨.ref a,ha,.ref a,vs.length,rfl,.inl ⟨vs,same_hid.seq h2,rfl⟩,?_⟩
  exact q _ H r .refl (by rw[h3.length];rfl)
 ·cases e
def AZ(i:Nat)(G:List L->Option (PyData×List L))(a:DA)(τ:DS):Option (PyData×DS):=(a τ).bind fun p=>(A1 p.1).bind fun ds=>match p.2[i]? with
 |some (some (.c xs))=>(G (.c xs::ds.map L.d)).map fun q=>(q.1,p.2)
 |_=>none
def YQ{i:Nat}{fr:Bool}{G:List L->Option (PyData×List L)}{t:TA}{a:DA}{X:XK}(ha:A K t a):E K (En (spD K G fr) [] X (Bs (Dq i) t)) fr (AZ i G a):=by
 refine⟨fun τ d t5 e=>?_,?_⟩
 ·unfold AZ at e
  obtain⟨⟨x,t4⟩,e1,e⟩:=oB e
  obtain⟨ds,e2,e⟩:=oB e
  dsimp only at e
  split at e
  ·obtain⟨z,e3,e⟩:=oM e
   cases e;exact ha.like _ _ _ e1
  ·cases e
 intro S M τ σ H Q d t5 rr e q
 unfold AZ at e
 obtain⟨⟨x,t4⟩,e1,e⟩:=oB e
 obtain⟨ds,e2,e⟩:=oB e
 dsimp only at e
 split at e
 ·rename_i xs hx
  obtain⟨⟨z,ls'⟩,e3,e⟩:=oM e
  cases e
  obtain⟨p,us,hp,_⟩:=rr.cst i xs ((((ha.like _ _ _ e1).2 i).1.2 xs).mp hx)
  refine⟨.ref p,hp,ha.run S M τ σ H _ x _ rr e1 fun vs H1 r1 c1 i1=>?_⟩
  have l:=CJ i1 e2
  obtain⟨p',us',hp',h2,h3⟩:=r1.cst i xs hx
  rw[hp]at hp';cases hp'
  show spD K G fr ((.ref p::vs)++[]) H1 Q X
  rw[ku]
  have ra:=RI r1 l
  refine⟨S,fun _=>False,.c xs::ds.map L.d,_,ls',⟨?_,?_,?_,?_,?_,fun _ h=>h.elim,r1.ex,GR.nil ?_⟩,e3,fun v H' _ c res=>?_⟩
  ·have:=ra.len
   simp only[List.length_map,List.map_cons,List.length_cons]at this ⊢
   omega
  ·intro j x e
   cases j with
   |zero=>cases e
   |succ j=>exact ra.dat j x (by simpa using e)
  ·intro j ys e
   cases j with
   |zero=>exact absurd (J' (J' e)).symm Ow.not_c
   |succ j=>obtain⟨_,_,_,h,_⟩:=ra.mt j ys (by simpa using e);exact h.elim
  ·intro j ys e
   cases j with
   |zero=>cases e;exact⟨p,us',rfl,h2,h3⟩
   |succ j=>exact ra.cst j ys (by simpa using e)
  ·intro j k ys ws b e1 e2 _ _
   cases j with
   |zero=>exact absurd (J' (J' e1)).symm Ow.not_c
   |succ j=>obtain⟨_,_,_,h,_⟩:=ra.mt j ys (by simpa using e1);exact h.elim
  ·intro j x e
   cases j with
   |zero=>cases e
   |succ j =>
    rw[kg,mQ,O',O']at e
    cases q:ds[j]? with
    |none=>rw[q]at e;cases e
    |some d=>rw[q]at e;cases e
  ·have s:Same H1 H':=fun b o e=>c b o (fun z=>z) e
   exact q v H' (r1.same s) (c1.trans (.of s)) (res.back r1 c1)
 ·cases e
section
variable {F:Frm} {S M:Addr->Prop} {τ t5:DS} {σ:St} {H H':Hp}
def RF.step(f:RF K F S M τ σ H)(r':R K S M t5 σ H')(c:Chg M H H')(lk:Like τ t5):RF K F S M t5 σ H' where
 r:=r'
 sS:=f.sS
 old:=fun b o e n=>c b o (fun z=>(f.new b z).elim n fun q=>by rw[q]at e;cases e) (f.old b o e n)
 new:=f.new
 fm:=f.fm
 fs:=f.fs
 fsub:=f.fsub
 snew:=f.snew
 par:=f.par
 pm:=fun i v e=>let ⟨xs,h⟩:=f.pm i v e;(lk.own i).mpr ⟨xs,h⟩
 fma:=f.fma
def RF.stay(f:RF K F S M τ σ H){σ':St}(r':R K S M t5 σ' H)(ms:MSame τ t5)(k:∀(j:Nat) (o:Ow),τ[j]?=some (some o.L)->σ'[j]?=σ[j]?):RF K F S M t5 σ' H where
 r:=r'
 sS:=f.sS
 old:=f.old
 new:=f.new
 fm:=f.fm
 fs:=f.fs
 fsub:=f.fsub
 snew:=f.snew
 par:=fun i v e=>by
  obtain⟨xs,h⟩:=f.pm i v e
  rw[k i xs h]
  exact f.par i v e
 pm:=fun i v e=>let ⟨xs,h⟩:=f.pm i v e;⟨xs,(ms.2 i xs).mpr h⟩
 fma:=f.fma
def RF.hnone(f:RF K F S M τ σ H){a:Addr}(h:H a=none):F.H a=none:=by
 cases e:F.H a with
 |none=>rfl
 |some o =>
  exfalso
  by_cases hm:F.M a
  ·obtain⟨o',e'⟩:=f.r.ex a (f.sS a (f.fsub a hm))
   rw[h]at e';cases e'
  ·have:=f.old a o e hm
   rw[h]at this;cases this
def RF.res(f:RF K F S M τ σ H){fr:Bool}{d:PyData}{v:V}(h:Res K fr S H H' d v):Res K fr F.S F.H H' d v:=by
 cases fr with
 |false=>exact Is.mono (C5 f.sS) h
 |true =>
  obtain⟨xs,a,vs,e1,e2,h1,h2,h3⟩:=h
  exact⟨xs,a,vs,e1,e2,f.hnone h1,h2,h3.mono (C5 fun b z=>z.elim (fun z=>.inl (f.sS b z)) .inr)⟩
end
variable {np:Nat}
def AI(e:DX)(g:DG)(τ:DS):Option Out:=(e τ).bind fun p=>(g p.1 p.2).map .nx
def TM{fr fe:Bool}{te:TE}{tg:TG}{e:DX}{g:DG}(he:E K te fe e)(hg:TG1 K tg g):B K np (JU te tg) fr (AI e g):=by
 intro F S M τ σ H D out hnp f ee q
 unfold AI at ee
 obtain⟨⟨x,t4⟩,e1,ee⟩:=oB ee
 obtain⟨t7,e2,ee⟩:=oM ee
 cases ee
 refine he.weak.run S M τ σ H _ x t4 f.r e1 fun v H1 r1 c1 i1=>?_
 refine hg.run S M t4 σ H1 v x t7 _ r1 i1 e2 fun σ' r2 k=>?_
 exact q S M σ' H1 ((f.step r1 c1 (he.like _ _ _ e1)).stay r2 (hg.ms _ _ _ e2) k) (c1.keep f.r.sub)
def iq{fr fe:Bool}{te:TE}{i:Nat}{e:DX}(he:E K te fe e):B K np (fun D σ H=>te σ H fun v H'=>D.nx (σ.set i (some v)) H') fr (AI e (dN i)):=TM (tg:=FO i) he E2
def GL(np i:Nat)(τ:DS):Option Out:=if np<=i/\i<τ.length then some (.nx (τ.set i (some (.m [])))) else none
def tkP:List (PyData×PyData)->Option (List (List Int×PyData))
 |[]=>some []
 |(.tuple ks,d)::r=>(tkI ks).bind fun k=>(tkP r).map ((k,d)::·)
 |_=>none
where tkI:List PyData->Option (List Int)
 |[]=>some []
 |.int i::r=>(tkI r).map (i::·)
 |_=>none
def SG:∀(k:List Int),tkP.tkI (k.map PyData.int)=some k
 |[]=>rfl
 |i::k=>by rw[kg,tkP.tkI,SG k];rfl
def SF:∀(m:List (List Int×PyData)),tkP (Mh m)=some m
 |[]=>rfl
 |(k,d)::m=>by
  have:=SF m
  show(tkP.tkI (k.map PyData.int)).bind _=_
  rw[SG]
  show((tkP (Mh m)).map _)=_
  rw[this];rfl
def e7{o:Ow}{kvs:List (PyData×PyData)}{m:List (List Int×PyData)}(h:PyData.dict kvs=o.D)(e:tkP kvs=some m):o = .t m:=by
 cases o with
 |l xs=>cases h
 |t m'=>cases h;rw[SF]at e;cases e;rfl
def E4(np i:Nat)(e:DX)(τ:DS):Option Out:=(e τ).bind fun p=>match p.1 with
 |.list xs=>if np<=i/\i<p.2.length/\p.2.all okM=true then some (.nx (p.2.set i (some (.m xs)))) else none
 |.dict kvs=>(tkP kvs).bind fun m=>if np<=i/\i<p.2.length/\p.2.all okM=true then some (.nx (p.2.set i (some (.k m)))) else none
 |_=>none
def RF.newM{F:Frm}{S M:Addr->Prop}{τ:DS}{σ:St}{H:Hp}(f:RF K F S M τ σ H){a:Addr}{i:Nat}{xs:Ow}{vs:HO}(hi:i<τ.length)(hnp:F.ar.length<=i)(hS:S a)(hM:¬M a)(hF:F.H a=none)(h':H a=some vs)
  (l:IsO K (hid S H) xs a vs):RF K F S (fun b=>M b\/b=a) (τ.set i (some xs.L)) (σ.set i (some (.ref a))) H:=by
 have hs:i<σ.length:=by rw[f.r.len];exact hi
 have ne:∀j,j≠i->(τ.set i (some xs.L))[j]?=τ[j]?:=fun j hj=>W' (Ne.symm hj)
 have ne':∀j,j≠i->(σ.set i (some (V.ref a)))[j]?=σ[j]?:=fun j hj=>W' (Ne.symm hj)
 have se:(τ.set i (some xs.L))[i]?=some (some xs.L):=Z' hi
 have se':(σ.set i (some (V.ref a)))[i]?=some (some (.ref a)):=Z' hs
 have Ma:∀(j:Nat) (ys:Ow) (b:Addr),j≠i->τ[j]?=some (some ys.L)->σ[j]?=some (some (.ref b))->b≠a:=fun j ys b hj e e' z=>by
  obtain⟨b',us,h1,h2,_⟩:=f.r.mt j ys e
  rw[e']at h1;cases h1
  subst z
  exact hM h2
 refine⟨⟨by rw[kj,kj];exact f.r.len,fun j x e=>?_,fun j ys e=>?_,fun j ys e=>?_,fun j1 j2 ys zs b e1 e2 f1 f2=>?_,fun b h=>h.elim (f.r.sub b) fun z=>by rw[z];exact hS,f.r.ex,f.r.gr.to (fun j x e=>?_) (fun j o b e q=>?_) (fun b hb _=>⟨.inl hb,rfl⟩) .refl⟩,f.sS,f.old,fun b h=>h.elim (f.new b) fun z=>.inr (by rw[z];exact hF),fun b h=>.inl (f.fm b h),f.fs,f.fsub,f.snew,fun j v e=>?_,fun j v e=>?_,f.fma⟩
 ·by_cases hj:j=i
  ·subst hj;rw[se]at e;exact absurd (J' (J' e)) Ow.not_d
  ·rw[ne j hj]at e
   rw[ne' j hj]
   exact f.r.dat j x e
 ·by_cases hj:j=i
  ·subst hj
   rw[se]at e
   obtain rfl:=Kx e
   exact⟨a,vs,se',.inr rfl,h',l⟩
  ·rw[ne j hj]at e
   rw[ne' j hj]
   obtain⟨b,us,h1,h2,h3,h4⟩:=f.r.mt j ys e
   exact⟨b,us,h1,.inl h2,h3,h4⟩
 ·by_cases hj:j=i
  ·subst hj;rw[se]at e;exact absurd (J' (J' e)) Ow.not_c
  ·rw[ne j hj]at e
   rw[ne' j hj]
   exact f.r.cst j ys e
 ·by_cases h1:j1=i
  ·by_cases h2:j2=i
   ·rw[h1,h2]
   ·exfalso
    subst h1
    rw[se']at f1;cases f1
    rw[ne j2 h2]at e2
    rw[ne' j2 h2]at f2
    exact Ma j2 zs _ h2 e2 f2 rfl
  ·by_cases h2:j2=i
   ·exfalso
    subst h2
    rw[se']at f2;cases f2
    rw[ne j1 h1]at e1
    rw[ne' j1 h1]at f1
    exact Ma j1 ys _ h1 e1 f1 rfl
   ·rw[ne j1 h1]at e1
    rw[ne' j1 h1]at f1
    rw[ne j2 h2]at e2
    rw[ne' j2 h2]at f2
    exact f.r.inj _ _ _ _ b e1 e2 f1 f2
 ·by_cases hj:j=i
  ·subst hj;rw[se]at e;exact absurd (J' (J' e)) Ow.not_g
  ·rw[ne j hj]at e;exact⟨e,ne' j hj⟩
 ·by_cases hj:j=i
  ·subst hj;rw[se']at q;cases q;exact .inr hM
  ·rw[ne j hj]at e;rw[ne' j hj]at q;exact .inl ⟨o,e,q⟩
 ·have:j≠i:=fun z=>by
   subst z
   have:=(R'.mp e).1
   omega
  rw[ne' j this]
  exact f.par j v e
 ·have:j≠i:=fun z=>by
   subst z
   have:=(R'.mp e).1
   omega
  rw[ne j this]
  exact f.pm j v e
def RF.hide{F:Frm}{S M:Addr->Prop}{τ:DS}{σ:St}{H H':Hp}(f:RF K F S M τ σ H){a:Addr}(s:Same H H')(ha:H a=none)(h':∃o,H' a=some o):RF K F (fun b=>S b\/b=a) M τ σ H':=by
 have k:Keep S H (fun b=>S b\/b=a) H':=fun b o hn e=>⟨fun z=>z.elim hn (A0 e ha),s b o e⟩
 refine ⟨⟨f.r.len, fun j x e => let ⟨v, h1, h2⟩ := f.r.dat j x e; ⟨v, h1, h2.mono k.same⟩, fun j x e => let ⟨b, vs, h1, h2, h3, h4⟩ := f.r.mt j x e; ⟨b, vs, h1, h2, s _ _ h3, h4.mono k.same⟩,
  fun j x e=>let ⟨b,vs,h1,h2,h3⟩:=f.r.cst j x e;⟨b,vs,h1,k.same.seq h2,h3.mono k.same⟩,f.r.inj,fun b h=>.inl (f.r.sub b h),fun b h=>?_,f.r.gr.to (fun i d e=>⟨e,rfl⟩) (fun j o a e q=>.inl ⟨o,e,q⟩) (fun a h _=>⟨h,by obtain⟨o,e⟩:=f.r.ex a (f.r.sub a h);rw[e];exact s _ _ e⟩) (tsS k.same)⟩,fun b h=>.inl (f.sS b h),fun b o e n=>s _ _ (f.old b o e n),f.new,f.fm,f.fs,f.fsub,fun b h=>h.elim (f.snew b) fun z=>.inr (by rw[z];exact f.hnone ha),f.par,f.pm,f.fma⟩
 rcases h with h|h
 ·obtain⟨o,e⟩:=f.r.ex b h
  exact⟨o,s _ _ e⟩
 ·rw[h];exact h'
def RF.hideE{F:Frm}{S M:Addr->Prop}{τ t4:DS}{σ:St}{H H':Hp}(f:RF K F S M τ σ H){a:Addr}(r1:R K S M t4 σ H')(c:Chg M H H')(lk:Like τ t4)(ok:t4.all okM=true)(ha:H a=none)(h':∃o,H' a=some o/\OwH o):RF K F (fun b=>S b\/b=a) M t4 σ H':=by
 have f1:=f.step r1 c lk
 have k:Keep S H (fun b=>S b\/b=a) H':=fun b o hn e=>⟨fun z=>z.elim hn (A0 e ha),c b o (fun z=>hn (f.r.sub b z)) e⟩
 have ts:TSm (hid S H') (hid (fun b=>S b\/b=a) H'):=Ef fun b z=>z.elim .inl fun z=>by subst z;exact .inr h'
 refine⟨⟨r1.len,fun j x e=>?_,fun j x e=>?_,fun j x e=>?_,r1.inj,fun b h=>.inl (f.r.sub b h),fun b h=>?_,r1.gr.to (fun i d e=>⟨e,rfl⟩) (fun j o a e q=>.inl ⟨o,e,q⟩) (fun a h _=>⟨h,rfl⟩) ts⟩,fun b h=>.inl (f.sS b h),f1.old,f.new,f.fm,f.fs,f.fsub,fun b h=>h.elim (f.snew b) fun z=>.inr (by rw[z];exact f.hnone ha),f.par,f1.pm,f.fma⟩
 ·obtain⟨v,h1,h2⟩:=f.r.dat j x (((lk.2 j).1.1 x).mp e)
  exact⟨v,h1,h2.mono k.same⟩
 ·obtain⟨b,vs,h1,h2,h3,h4⟩:=r1.mt j x e
  exact⟨b,vs,h1,h2,h3,h4.monoT ts (lF.mp ok (some x.L) (ka e))⟩
 ·obtain⟨b,vs,h1,h2,h3⟩:=f.r.cst j x (((lk.2 j).1.2 x).mp e)
  exact⟨b,vs,h1,k.same.seq h2,h3.mono k.same⟩
 ·rcases h with h|h
  ·exact r1.ex b h
  ·obtain⟨vs,e,_⟩:=h'
   rw[h];exact⟨_,e⟩
def ip{fr:Bool}{i:Nat}:B K np (JU (Uy Em) (FO i)) fr (GL np i):=by
 intro F S M τ σ H D out hnp f ee q
 unfold GL at ee
 split at ee
 ·rename_i hi
  cases ee
  refine⟨lW _,fun a ha=>?_⟩
  have s:=Ax ha (HO.lst [])
  have f1:=f.hide s ha ⟨_,Ah⟩
  have hM:¬M a:=fun z=>f.r.fresh ha (f.r.sub a z)
  exact q _ _ _ _ (f1.newM (xs:=.l []) hi.2 (lA hnp hi.1) (.inr rfl) hM (f.hnone ha) Ah ⟨[],rfl,rfl⟩) fun b o hn e=>⟨fun z=>z.elim hn (A0 e ha),s b o e⟩
 ·cases ee
def eL{fr:Bool}{i:Nat}{te:TE}{e:DX}(he:E K te true e):B K np (JU te (FO i)) fr (E4 np i e):=by
 intro F S M τ σ H D out hnp f ee q
 unfold E4 at ee
 obtain⟨⟨x,t4⟩,e1,ee⟩:=oB ee
 dsimp only at ee
 split at ee
 ·split at ee
  ·rename_i xs hi
   cases ee
   refine he.run S M τ σ H _ _ t4 f.r e1 fun v H1 r1 c1 i1=>?_
   obtain⟨ys,a,vs,e2,rfl,h1,h2,h3⟩:=i1
   obtain rfl:=Ow.D_list e2
   have f1:=f.hideE r1 c1 (he.like _ _ _ e1) hi.2.2 h1 ⟨_,h2,h3.ho⟩
   have hM:¬M a:=fun z=>f.r.fresh h1 (f.r.sub a z)
   exact q _ _ _ _ (f1.newM (xs:=.l _) hi.2.1 (lA hnp hi.1) (.inr rfl) hM (f.hnone h1) h2 h3) fun b o hn e=>⟨fun z=>z.elim hn (A0 e h1),c1 b o (fun z=>hn (f.r.sub b z)) e⟩
  ·cases ee
 ·obtain⟨m,em,ee⟩:=oB ee
  split at ee
  ·rename_i hi
   cases ee
   refine he.run S M τ σ H _ _ t4 f.r e1 fun v H1 r1 c1 i1=>?_
   obtain⟨ys,a,vs,e2,rfl,h1,h2,h3⟩:=i1
   obtain rfl:=e7 e2 em
   have f1:=f.hideE r1 c1 (he.like _ _ _ e1) hi.2.2 h1 ⟨_,h2,h3.ho⟩
   have hM:¬M a:=fun z=>f.r.fresh h1 (f.r.sub a z)
   exact q _ _ _ _ (f1.newM (xs:=.t _) hi.2.1 (lA hnp hi.1) (.inr rfl) hM (f.hnone h1) h2 h3) fun b o hn e=>⟨fun z=>z.elim hn (A0 e h1),c1 b o (fun z=>hn (f.r.sub b z)) e⟩
  ·cases ee
 ·cases ee
def AM(e:DX)(τ:DS):Option Out:=(e τ).map fun p=>.rt p.1 p.2
def ij{fr fe:Bool}{te:TE}{e:DX}(he:E K te fe e)(hf:fr=true->fe=true):B K np (TY te) fr (AM e):=by
 intro F S M τ σ H D out hnp f ee q
 unfold AM at ee
 obtain⟨⟨x,t4⟩,e1,ee⟩:=oM ee
 cases ee
 refine he.run S M τ σ H _ x t4 f.r e1 fun v H1 r1 c1 i1=>?_
 exact q S M σ H1 v (f.step r1 c1 (he.like _ _ _ e1)) (f.res (i1.imp (fun _=>f.r.fresh) fr hf))
def Dt(np i:Nat)(τ:DS):Option Out:=match τ[i]? with
 |some (some (.m xs))=>if np<=i then some (.rt (.list xs) τ) else none
 |some (some (.k xs))=>if np<=i then some (.rt (.dict (Mh xs)) τ) else none
 |_=>none
def Rr{np i:Nat}{τ:DS}{out:Out}(e:Dt np i τ=some out):∃w,τ[i]?=some (some (Ow.L w))/\np<=i/\out = .rt w.D τ:=by
 unfold Dt at e
 split at e
 ·rename_i xs hx
  split at e
  ·rename_i h;cases e;exact⟨.l xs,hx,h,rfl⟩
  ·cases e
 ·rename_i xs hx
  split at e
  ·rename_i h;cases e;exact⟨.t xs,hx,h,rfl⟩
  ·cases e
 ·cases e
def eO{fr:Bool}{i:Nat}:B K np (TY (Dq i)) fr (Dt np i):=by
 intro F S M τ σ H D out hnp f ee q
 obtain⟨xs,hx,hi,rfl⟩:=Rr ee
 obtain⟨a,vs,h1,h2,h3,h4⟩:=f.r.mt i xs hx
 refine⟨_,h1,q S M σ H _ f ?_⟩
 have hF:F.H a=none:=by
  rcases f.new a h2 with z|z
  ·exfalso
   obtain⟨j,hj⟩:=f.fma a z
   obtain⟨ys,hy⟩:=f.pm j _ hj
   have e:=f.r.inj j i ys xs a hy hx (f.par j _ hj) h1
   have:=(R'.mp hj).1
   omega
  ·exact z
 have res:Res K true F.S F.H H xs.D (.ref a):=⟨xs,a,vs,rfl,rfl,hF,h3,h4.mono (C5 fun b z=>z.elim (f.sS b) fun z=>by rw[z];exact f.r.sub a h2)⟩
 refine res.imp (fun b hb=>?_) fr fun _=>rfl
 intro z
 obtain⟨o,e⟩:=f.fs b z
 rw[hb]at e;cases e
def EY(τ:DS):Option Out:=some (.rt .none τ)
def eN:B K np ZK false EY:=by
 intro F S M τ σ H D out hnp f ee q
 cases ee
 exact q S M σ H _ f rfl
def CV(e:DX)(τ:DS):Option Out:=(e τ).map fun p=>.nx p.2
def eV{fr fe:Bool}{te:TE}{e:DX}(he:E K te fe e):B K np (LF te) fr (CV e):=by
 intro F S M τ σ H D out hnp f ee q
 unfold CV at ee
 obtain⟨⟨x,t4⟩,e1,ee⟩:=oM ee
 cases ee
 refine he.run S M τ σ H _ x t4 f.r e1 fun v H1 r1 c1 i1=>?_
 exact q S M σ H1 (f.step r1 c1 (he.like _ _ _ e1)) (c1.keep f.r.sub)
def dMt(i:Nat)(G:List PyData->List PyData->Option (PyData×List PyData))(a:DA)(τ:DS):Option (PyData×DS):=(a τ).bind fun p=>(A1 p.1).bind fun ds=>match p.2[i]? with
 |some (some (.m xs))=>(G xs ds).map fun q=>(q.1,p.2.set i (some (.m q.2)))
 |_=>none
def MR(K:KW)(r:V->List V->Hp->VK->Prop)(G:List PyData->List PyData->Option (PyData×List PyData)):Prop:=∀(S:Addr->Prop) H a vs us xs ds d xs' (Q:VK),S a->H a=some (.lst vs)->IsL K (hid S H) xs vs->IsL K (hid S H) ds us->G xs ds=some (d,xs') ->
 (∀v vs',Is K (hid S H) d v->IsL K (hid S H) xs' vs'->Q v (upd H a (.lst vs')))->r (.ref a) us H Q
def Hg{S:Addr->Prop}{H:Hp}{a:Addr}{o:HO}(h:S a):hid S (upd H a o)=hid S H:=by
 funext b
 unfold hid
 by_cases z:S b
 ·rw[if_pos z,if_pos z]
 ·rw[if_neg z,if_neg z,Aq (fun e=>z (by rw[e];exact h))]
def Pq{i:Nat}{G:List PyData->List PyData->Option (PyData×List PyData)}{a:DA}{τ t5:DS}{d:PyData}(e:dMt i G a τ=some (d,t5)):∃rs t4 ds xs xs',a τ=some (rs,t4)/\A1 rs=some ds/\t4[i]?=some (some (.m xs))/\G xs ds=some (d,xs')/\t5=t4.set i (some (.m xs')):=by
 unfold dMt at e
 obtain⟨⟨x,t4⟩,e1,e⟩:=oB e
 obtain⟨ds,e2,e⟩:=oB e
 dsimp only at e
 split at e
 ·rename_i xs hx
  obtain⟨⟨z,zs⟩,e3,e⟩:=oM e
  cases e
  exact⟨x,t4,ds,xs,zs,e1,e2,hx,e3,rfl⟩
 ·cases e
def kF{i:Nat}{r:V->List V->Hp->VK->Prop}{G:List PyData->List PyData->Option (PyData×List PyData)}{t:TA}{a:DA}(h:MR K r G)(ha:A K t a):E K (tBM K "list" r (Dq i) t) false (dMt i G a):=by
 refine⟨fun τ d t5 e=>?_,?_⟩
 ·obtain⟨rs,t4,ds,xs,xs',e1,e2,e3,e4,rfl⟩:=Pq e
  exact(ha.like _ _ _ e1).trans (T6 e3)
 intro S M τ σ H Q d t5 rr e q
 obtain⟨rs,t4,ds,xs,xs',e1,e2,e3,e4,rfl⟩:=Pq e
 have lk:=ha.like _ _ _ e1
 obtain⟨zs,hz⟩:=lk.ml e3
 obtain⟨p,us,hp,hM,hl0,_⟩:=rr.ml i zs hz
 refine⟨.ref p,hp,.inl ⟨rfl,us,SqL.of hl0⟩,?_⟩
 refine ha.run S M τ σ H _ rs _ rr e1 fun vs H1 r1 c1 i1=>?_
 have l:=CJ i1 e2
 obtain⟨p',us',hp',hM',hl,ll⟩:=r1.ml i xs e3
 rw[hp]at hp';cases hp'
 have Sp:=r1.sub p hM'
 refine h S H1 p us' vs xs ds d xs' _ Sp hl ll l e4 fun v vs' iv il=>?_
 have c:Chg (fun b=>b=p) H1 (upd H1 p (.lst vs')):=fun b o hn e=>by rw[Aq hn];exact e
 refine q v _ (r1.setM e3 hp c Ah (by rw[Hg Sp];exact il)) (c1.trans fun b o hn e=>c b o (fun z=>hn (by subst z;exact hM')) e) ?_
 show Is K (hid S _) d v
 rw[Hg Sp];exact iv
def A8:List PyData->List PyData->Option (PyData×List PyData)
 |xs,[d]=>if xs.length<sizeLine then some (.none,xs++[d]) else none
 |_,_=>none
def Vy:MR K NX A8:=by
 intro S H a vs us xs ds d xs' Q Sa hl ll l e q
 unfold A8 at e
 split at e
 ·split at e
  ·rename_i d0 hz
   cases e
   obtain⟨v,us',rfl,iv,iu⟩:=l
   cases (show us'=[] from iu)
   exact⟨a,vs,v,rfl,rfl,hl,by rw[ll.length];exact hz,q _ _ rfl (Pe ll iv)⟩
  ·cases e
 ·cases e
def Dl:List PyData->List PyData->Option (PyData×List PyData)
 |xs,[.list ys]=>if xs.length+ys.length<=sizeLine then some (.none,xs++ys) else none
 |_,_=>none
def E3:List PyData->List PyData->Option (PyData×List PyData)
 |_,[]=>some (.none,[])
 |_,_=>none
def HG(i:Nat)(e k:DX)(τ:DS):Option Out:=(e τ).bind fun p=>(k p.2).bind fun q=>match q.2[i]?,q.1 with
 |some (some (.m xs)),.int n=>(ixN xs.length n).map fun j=>.nx (q.2.set i (some (.m (xs.set j p.1))))
 |_,_=>none
def Gl.trans{F:Frm}{fr:Bool}{S S1:Addr->Prop}{H H1:Hp}{D:Kw}{o:Out}(k:Keep S H S1 H1)(h:Gl K F fr S H D o):Gl K F fr S1 H1 D o:=by
 cases o with
 |nx τ=>exact fun S' M' σ' H' r k'=>h S' M' σ' H' r (k.trans k')
 |bk τ=>exact fun S' M' σ' H' r k'=>h S' M' σ' H' r (k.trans k')
 |ct τ=>exact fun S' M' σ' H' r k'=>h S' M' σ' H' r (k.trans k')
 |rt d τ=>exact fun S' M' σ' H' v r k'=>h S' M' σ' H' v r k'
def AQ(τ:DS):Option Out:=some (.nx τ)
def Zo{fr:Bool}:B K np ZN fr AQ:=by
 intro F S M τ σ H D out hnp f ee q
 cases ee
 exact q S M σ H f .refl
def AH(a b:DB)(τ:DS):Option Out:=(a τ).bind fun o=>match o with
 |.nx t5=>b t5
 |o=>some o
def ig{fr:Bool}{t u:TS}{a b:DB}(ha:B K np t fr a)(hb:B K np u fr b):B K np (Uw t u) fr (AH a b):=by
 intro F S M τ σ H D out hnp f ee q
 unfold AH at ee
 obtain⟨o,e1,ee⟩:=oB ee
 refine ha F S M τ σ H _ o hnp f e1 ?_
 cases o with
 |nx t4=>exact fun S' M' σ' H' r k=>hb F S' M' t4 σ' H' D out hnp r ee (q.trans k)
 |bk t4=>cases ee;exact q
 |ct t4=>cases ee;exact q
 |rt d t4=>cases ee;exact q
def AO(c:DT)(a b:DB)(τ:DS):Option Out:=(c τ).bind fun p=>if p.1=true then a p.2 else b p.2
def kQ{fr:Bool}{tc:TT}{t u:TS}{c:DT}{a b:DB}(hc:T K tc c)(ha:B K np t fr a)(hb:B K np u fr b):B K np (Z9 tc t u) fr (AO c a b):=by
 intro F S M τ σ H D out hnp f ee q
 unfold AO at ee
 obtain⟨⟨k,t4⟩,e1,ee⟩:=oB ee
 refine hc.run S M τ σ H _ k t4 f.r e1 fun H1 r1 c1=>?_
 have f1:=f.step r1 c1 (hc.like _ _ _ e1)
 cases k with
 |true=>exact ha F S M t4 σ H1 D out hnp f1 ee (q.trans (c1.keep f.r.sub))
 |false=>exact hb F S M t4 σ H1 D out hnp f1 ee (q.trans (c1.keep f.r.sub))
def MB(τ:DS):Option Out:=some (.bk τ)
def MA(τ:DS):Option Out:=some (.ct τ)
def EB:DB:=fun _=>none
def Y7{fr:Bool}:B K np Ux fr EB:=by
 intro F S M τ σ H D out hnp f ee q
 cases ee
def BC(g:DG)(b:DB):List PyData->DS->Option Out
 |[],τ=>some (.nx τ)
 |d::ds,τ=>(g d τ).bind fun t4=>(b t4).bind fun o=>match o with
  |.nx t7=>BC g b ds t7
  |.ct t7=>BC g b ds t7
  |.bk t7=>some (.nx t7)
  |.rt d t7=>some (.rt d t7)
def Ca(it:DI)(g:DG)(b:DB)(τ:DS):Option Out:=(it τ).bind fun p=>BC g b p.1 p.2
def ir{fr:Bool}{wi:TI}{tg:TG}{tb:TS}{it:DI}{g:DG}{b:DB}(hi:IT K wi it)(hg:TG1 K tg g)(hb:B K np tb fr b):B K np (XA wi tg tb) fr (Ca it g b):=by
 intro F S M τ σ H D out hnp f ee q
 unfold Ca at ee
 obtain⟨⟨ds,t4⟩,e1,ee⟩:=oB ee
 refine hi.run S M τ σ H _ ds t4 f.r e1 fun J H1 r1 c1 iJ=>?_
 have f1:=f.step r1 c1 (hi.like _ _ _ e1)
 have q1:=q.trans (c1.keep f.r.sub)
 refine⟨fun i m σ' H'=>m=ds.length-i/\i<=ds.length/\∃S' M' t5,RF K F S' M' t5 σ' H'/\Keep S H1 S' H'/\BC g b (ds.drop i) t5=some out,⟨ds.length,by simp,lW _,S,M,t4,f1,.refl,by simpa using ee⟩,?_⟩
 rintro i m σ' H' ⟨rfl,hil,S',M',t5,f',k',hl⟩
 obtain⟨I1,I2⟩:=iJ _ _ k'
 by_cases hlt:i<ds.length
 ·right
  have ed:ds[i]?=some ds[i]:=km hlt
  obtain⟨go,yl⟩:=I1 i _ ed
  refine⟨go,fun σ2 H2=>∃S2 M2 t7,RF K F S2 M2 t7 σ2 H2/\Keep S H1 S2 H2/\BC g b (ds.drop (i+1)) t7=some out,fun σ2 H2 h=>⟨ds.length-(i+1),by omega,rfl,hlt,h⟩,fun x H2 y=>?_⟩
  obtain⟨rfl,ix⟩:=yl x H2 y
  rw[lZ hlt,BC]at hl
  obtain⟨t7,e2,hl⟩:=oB hl
  obtain⟨o,e3,hl⟩:=oB hl
  refine hg.run S' M' t5 σ' H2 x _ t7 _ f'.r ix e2 fun σ3 r3 k3=>?_
  have f3:=f'.stay r3 (hg.ms _ _ _ e2) k3
  refine hb F S' M' t7 σ3 H2 _ o hnp f3 e3 ?_
  cases o with
  |nx p6=>exact fun S4 M4 σ4 H4 f4 k4=>⟨S4,M4,p6,f4,k'.trans k4,hl⟩
  |ct p6=>exact fun S4 M4 σ4 H4 f4 k4=>⟨S4,M4,p6,f4,k'.trans k4,hl⟩
  |bk p6=>cases hl;exact fun S4 M4 σ4 H4 f4 k4=>q1 S4 M4 σ4 H4 f4 (k'.trans k4)
  |rt d p6=>cases hl;exact fun S4 M4 σ4 H4 v f4 k4=>q1 S4 M4 σ4 H4 v f4 k4
 ·left
  have e:i=ds.length:=by omega
  subst e
  rw[mL,BC]at hl
  cases hl
  exact⟨I2 _ (X' _),q1 S' M' σ' H' f' k'⟩
def dWh(c:DT)(b:DB):Nat->DS->Option Out
 |0,_=>none
 | n + 1, τ => (c τ).bind fun p => if p.1 = true then (b p.2).bind fun o => (match o with
   |.nx t7=>dWh c b n t7
   |.ct t7=>dWh c b n t7
   |.bk t7=>some (.nx t7)
   |.rt d t7=>some (.rt d t7)) else some (.nx p.2)
def FZ(n:DS->Nat)(c:DT)(b:DB)(τ:DS):Option Out:=dWh c b (n τ) τ
def Y6{fr:Bool}{n:DS->Nat}{tc:TT}{tb:TS}{c:DT}{b:DB}(hc:T K tc c)(hb:B K np tb fr b):B K np (Uv tc tb) fr (FZ n c b):=by
 intro F S M τ σ H D out hnp f ee q
 unfold FZ at ee
 refine⟨fun m σ' H'=>∃S' M' t5,RF K F S' M' t5 σ' H'/\Keep S H S' H'/\dWh c b m t5=some out,⟨n τ,S,M,τ,f,.refl,ee⟩,?_⟩
 rintro m σ' H' ⟨S',M',t5,f',k',hl⟩
 cases m with
 |zero=>cases hl
 |succ m =>
  rw[dWh]at hl
  obtain⟨⟨k,t4⟩,e1,hl⟩:=oB hl
  refine hc.run S' M' t5 σ' H' _ k t4 f'.r e1 fun H1 r1 c1=>?_
  have f1:=f'.step r1 c1 (hc.like _ _ _ e1)
  have k1:=k'.trans (c1.keep f'.r.sub)
  cases k with
  |false =>
   rw[if_neg kr]at hl ⊢
   cases hl
   exact q S' M' σ' H1 f1 k1
  |true =>
   rw[if_pos rfl]at hl ⊢
   obtain⟨o,e3,hl⟩:=oB hl
   refine⟨fun σ2 H2=>∃S2 M2 t7,RF K F S2 M2 t7 σ2 H2/\Keep S H S2 H2/\dWh c b m t7=some out,fun σ2 H2 h=>⟨m,nJ _,h⟩,?_⟩
   refine hb F S' M' t4 σ' H1 _ o hnp f1 e3 ?_
   cases o with
   |nx p6=>exact fun S4 M4 σ4 H4 f4 k4=>⟨S4,M4,p6,f4,k1.trans k4,hl⟩
   |ct p6=>exact fun S4 M4 σ4 H4 f4 k4=>⟨S4,M4,p6,f4,k1.trans k4,hl⟩
   |bk p6=>cases hl;exact fun S4 M4 σ4 H4 f4 k4=>q S4 M4 σ4 H4 f4 (k1.trans k4)
   |rt d p6=>cases hl;exact fun S4 M4 σ4 H4 v f4 k4=>q S4 M4 σ4 H4 v f4 k4
def fin:List L->DS->Option (List L)
 |[],_=>some []
 |.d x::ls,_::τ=>(fin ls τ).map (.d x::·)
 |.c x::ls,_::τ=>(fin ls τ).map (.c x::·)
 |.m _::ls,some (.m xs)::τ=>(fin ls τ).map (.m xs::·)
 |.k _::ls,some (.k xs)::τ=>(fin ls τ).map (.k xs::·)
 |_,_=>none
def Ba(fr:Bool)(np nl:Nat)(b:DB)(ls:List L):Option (PyData×List L):=if ls.length=np then (b (ls.map some++List.replicate nl none)).bind fun o=>match o with
  |.nx τ=>if fr=true then none else (fin ls τ).map fun ls'=>(.none,ls')
  |.rt d τ=>(fin ls τ).map fun ls'=>(d,ls')
  |_=>none
 else none
def Ea:∀{ls:List L} {τ:DS} {ls':List L} {i:Nat} {l:L},fin ls τ=some ls'->ls'[i]?=some l->match l with
  |.d x=>ls[i]?=some (.d x)
  |.c x=>ls[i]?=some (.c x)
  |.m xs=>(∃ys,ls[i]?=some (.m ys))/\τ[i]?=some (some (.m xs))
  |.k xs=>(∃ys,ls[i]?=some (.k ys))/\τ[i]?=some (some (.k xs))
  |.g _=>False
 |[],_,_,_,_,h,e=>by cases h;simp at e
 |.d x::ls,o::τ,_,i,l,h,e=>by
  obtain⟨zs,h1,h⟩:=oM h
  subst h
  cases i with
  |zero=>cases e;rfl
  |succ i =>
   have:=Ea (i:=i) (l:=l) h1 (by simpa using e)
   cases l<;>simpa using this
 |.c x::ls,o::τ,_,i,l,h,e=>by
  obtain⟨zs,h1,h⟩:=oM h
  subst h
  cases i with
  |zero=>cases e;rfl
  |succ i =>
   have:=Ea (i:=i) (l:=l) h1 (by simpa using e)
   cases l<;>simpa using this
 |.m x::ls,some (.m xs)::τ,_,i,l,h,e=>by
  obtain⟨zs,h1,h⟩:=oM h
  subst h
  cases i with
  |zero=>cases e;exact⟨⟨_,rfl⟩,rfl⟩
  |succ i =>
   have:=Ea (i:=i) (l:=l) h1 (by simpa using e)
   cases l<;>simpa using this
 |.k x::ls,some (.k xs)::τ,_,i,l,h,e=>by
  obtain⟨zs,h1,h⟩:=oM h
  subst h
  cases i with
  |zero=>cases e;exact⟨⟨_,rfl⟩,rfl⟩
  |succ i =>
   have:=Ea (i:=i) (l:=l) h1 (by simpa using e)
   cases l<;>simpa using this
def JK:∀{ls:List L} {τ:DS} {ls':List L},fin ls τ=some ls'->ls'.length=ls.length
 |[],_,_,h=>by cases h;rfl
 |.d x::ls,o::τ,_,h=>by
  obtain⟨zs,h1,h⟩:=oM h
  subst h
  rw[kX,kX,JK h1]
 |.c x::ls,o::τ,_,h=>by
  obtain⟨zs,h1,h⟩:=oM h
  subst h
  rw[kX,kX,JK h1]
 |.m x::ls,some (.m xs)::τ,_,h=>by
  obtain⟨zs,h1,h⟩:=oM h
  subst h
  rw[kX,kX,JK h1]
 |.k x::ls,some (.k xs)::τ,_,h=>by
  obtain⟨zs,h1,h⟩:=oM h
  subst h
  rw[kX,kX,JK h1]
def M9:∀{ls:List L} {τ:DS} {ls':List L},fin ls τ=some ls'->∀(i:Nat) (d:PyData),ls[i]?≠some (.g d)
 |[],_,_,_,i,d=>by simp
 |.d x::ls,o::τ,_,h,i,d=>by
  obtain⟨zs,h1,h⟩:=oM h
  cases i with
  |zero=>simp
  |succ i=>simpa using M9 h1 i d
 |.c x::ls,o::τ,_,h,i,d=>by
  obtain⟨zs,h1,h⟩:=oM h
  cases i with
  |zero=>simp
  |succ i=>simpa using M9 h1 i d
 |.m x::ls,some (.m xs)::τ,_,h,i,d=>by
  obtain⟨zs,h1,h⟩:=oM h
  cases i with
  |zero=>simp
  |succ i=>simpa using M9 h1 i d
 |.k x::ls,some (.k xs)::τ,_,h,i,d=>by
  obtain⟨zs,h1,h⟩:=oM h
  cases i with
  |zero=>simp
  |succ i=>simpa using M9 h1 i d
def OH{ls:List L}{τ:DS}{ls':List L}{i:Nat}{x:Ow}(h:fin ls τ=some ls')(e:ls'[i]?=some x.L):(∃ys:Ow,ls[i]?=some ys.L)/\τ[i]?=some (some x.L):=by
 cases x with
 |l xs=>obtain⟨⟨ys,h1⟩,h2⟩:=Ea h e;exact⟨⟨.l ys,h1⟩,h2⟩
 |t xs=>obtain⟨⟨ys,h1⟩,h2⟩:=Ea h e;exact⟨⟨.t ys,h1⟩,h2⟩
def Bq{α β:Type}{f:α->β}{xs:List α}{i:Nat}{y:β}(h:(xs.map f)[i]?=some y):∃x,xs[i]?=some x/\f x=y:=by
 rw[O']at h
 cases e:xs[i]? with
 |none=>rw[e]at h;cases h
 |some x=>rw[e]at h;exact⟨x,rfl,J' h⟩
def bY{G:List L->Option (PyData×List L)}{fr:Bool}{vs:List V}{H:Hp}{Q:VK}{X:XK}{np:Nat}(hG:∀ls r,G ls=some r->ls.length=np)(h:spD K G fr vs H Q X):vs.length=np:=by
 obtain⟨S,M,ls,r,ls',hR,e,_⟩:=h
 have:=hR.len
 rw[B',B']at this
 rw[this,hG _ _ e]
def Pr{fr:Bool}{np nl:Nat}{b:DB}:∀ls r,Ba fr np nl b ls=some r->ls.length=np:=fun ls r h=>by
 unfold Ba at h
 split at h
 ·assumption
 ·cases h
def bW{np nl:Nat}{t:TS}{fr:Bool}{b:DB}{N:List Str}{vs:List V}{H:Hp}{Q:VK}{X:XK}(hb:B K np t fr b)(hN:N.length=np+nl)(h:spD K (Ba fr np nl b) fr vs H Q X):t { nx:=fun _ H'=>Q .non H',rt:=Q } (L2.start N vs) H:=by
 obtain⟨S,M,ls,r,ls',hR,e,q⟩:=h
 have hlen:=Pr _ _ e
 have hvl:vs.length=ls.length:=by have:=hR.len;rw[B',B']at this;exact this
 unfold Ba at e
 rw[if_pos hlen]at e
 obtain⟨o,e1,e⟩:=oB e
 have est:L2.start N vs=vs.map some++List.replicate nl none:=by
  unfold L2.start
  rw[hN,hvl,hlen,mR]
 rw[est]
 -- the entry
 have lsm:∀(i:Nat) (l:L),(ls.map some++List.replicate nl none:DS)[i]?=some (some l)->ls[i]?=some l:=fun i l h=>by
  by_cases hi:i<ls.length
  ·rw[ke (by rw[B'];exact hi)]at h
   obtain⟨x,h1,h2⟩:=Bq h
   cases h2;exact h1
  ·rw[kx (by rw[B'];omega),lG]at h
   split at h<;>cases h
 have vsm:∀(i:Nat) (v:V),(vs.map some)[i]?=some (some v)->(vs.map some++List.replicate nl none:St)[i]?=some (some v):=fun i v h=>by
  rw[ke (R'.mp h).1];exact h
 have vsb:∀(i:Nat) (v:V),(vs.map some++List.replicate nl none:St)[i]?=some (some v)->(vs.map some)[i]?=some (some v):=fun i v h=>by
  by_cases hi:i<(vs.map some).length
  ·rw[ke hi]at h;exact h
  ·rw[kx (by omega),lG]at h
   split at h<;>cases h
 have lm:∀(i:Nat) (l:L),ls[i]?=some l->(ls.map some)[i]?=some (some l):=fun i l h=>by rw[O',h];rfl
 let Mx:Addr->Prop:=fun a=>∃(i:Nat) (xs:Ow),ls[i]?=some xs.L/\vs[i]?=some (.ref a)
 let ar:List (Option V):=(ls.zip vs).map fun p=>match p.1 with
  |.m _=>some p.2
  |.k _=>some p.2
  |_=>none
 have arg:∀(i:Nat) (v:V),ar[i]?=some (some v)->∃xs:Ow,ls[i]?=some xs.L/\vs[i]?=some v:=fun i v h=>by
  obtain⟨⟨l,u⟩,h1,h2⟩:=Bq h
  rw[List.getElem?_zip_eq_some]at h1
  cases l with
  |d x=>cases h2
  |c x=>cases h2
  |m xs=>cases h2;exact⟨.l xs,h1.1,h1.2⟩
  |k xs=>cases h2;exact⟨.t xs,h1.1,h1.2⟩
  |g x=>cases h2
 have gar:∀(i:Nat) (xs:Ow) (v:V),ls[i]?=some xs.L->vs[i]?=some v->ar[i]?=some (some v):=fun i xs v h1 h2=>by
  show((ls.zip vs).map _)[i]?=_
  rw[O',(List.getElem?_zip_eq_some (z:=(xs.L,v))).mpr ⟨h1,h2⟩]
  cases xs<;>rfl
 have Msub:∀a,Mx a->M a:=fun a ⟨i,xs,h1,h2⟩=>by
  obtain⟨b',us,h3,h4,_⟩:=hR.mt i xs (lm i _ h1)
  rw[O',h2]at h3
  cases h3;exact h4
 have hng:∀(i:Nat) (d:PyData),ls[i]?≠some (.g d):=by
  cases o with
  |nx t5 =>
   cases fr with
   |false=>obtain⟨ls1,e2,_⟩:=oM e;exact M9 e2
   |true=>cases e
  |bk t5=>cases e
  |ct t5=>cases e
  |rt d t5=>obtain⟨ls1,e2,_⟩:=oM e;exact M9 e2
 have f0:RF K ⟨S,Mx,H,ar⟩ S Mx (ls.map some++List.replicate nl none) (vs.map some++List.replicate nl none) H:=by
  refine ⟨⟨by simp [hvl], fun i x h => ?_, fun i x h => ?_, fun i x h => ?_, fun i j xs ys a h1 h2 h3 h4 => hR.inj i j xs ys a (lm _ _ (lsm _ _ h1)) (lm _ _ (lsm _ _ h2)) (vsb _ _ h3) (vsb _ _ h4), fun a h => hR.sub a (Msub a h), hR.ex, GR.nil fun i d h => hng i d (lsm i _ h)⟩,
   fun a h=>h,fun b o h _=>h,fun a h=>.inl h,fun a h=>h,hR.ex,fun a h=>hR.sub a (Msub a h),fun a h=>.inl h,fun i v h=>?_,fun i v h=>?_,fun a ⟨i,xs,h1,h2⟩=>⟨i,gar i xs _ h1 h2⟩⟩
  ·obtain⟨v,h1,h2⟩:=hR.dat i x (lm _ _ (lsm _ _ h))
   exact⟨v,vsm _ _ h1,h2⟩
  ·obtain⟨a,us,h1,h2,h3,h4⟩:=hR.mt i x (lm _ _ (lsm _ _ h))
   refine⟨a,us,vsm _ _ h1,⟨i,x,lsm _ _ h,?_⟩,h3,h4⟩
   obtain⟨v,h5,h6⟩:=Bq h1
   cases h6;exact h5
  ·obtain⟨a,us,h1,h2⟩:=hR.cst i x (lm _ _ (lsm _ _ h))
   exact⟨a,us,vsm _ _ h1,h2⟩
  ·obtain⟨xs,h1,h2⟩:=arg i v h
   exact vsm _ _ (by rw[O',h2];rfl)
  ·obtain⟨xs,h1,h2⟩:=arg i v h
   refine⟨xs,?_⟩
   rw[ke (by rw[B'];exact(R'.mp h1).1)]
   exact lm _ _ h1
 have hnp:ar.length<=np:=by
  show((ls.zip vs).map _).length<=np
  rw[B',List.length_zip]
  omega
 -- the end
 have done:∀{S' M' t5 σ' H' d v} {ls1:List L},RF K ⟨S,Mx,H,ar⟩ S' M' t5 σ' H'->fin ls t5=some ls1->(r,ls')=(d,ls1)->Res K fr S H H' d v->Q v H':=fun {S' M' t5 σ' H' d v ls1} f hf er res=>by
  cases er
  have k:Keep S H S H':=fun b o hn e=>⟨hn,f.old b o e fun z=>hn (hR.sub b (Msub b z))⟩
  refine q v H' ⟨?_,fun i x h=>?_,fun i x h=>?_,fun i x h=>?_,fun i j xs ys a h1 h2 h3 h4=>?_,hR.sub,fun a h=>f.r.ex a (f.sS a h),GR.nil fun i d h=>?_⟩ (fun b o hn e=>f.old b o e fun z=>hn (Msub b z)) res
  ·rw[B',B',JK hf,hvl]
  ·obtain⟨l,h1,h2⟩:=Bq h
   cases h2
   have:=Ea hf h1
   obtain⟨v,h3,h4⟩:=hR.dat i x (lm _ _ this)
   exact⟨v,h3,h4.mono k.same⟩
  ·obtain⟨l,h1,h2⟩:=Bq h
   cases h2
   obtain⟨⟨ys,h3⟩,h4⟩:=OH hf h1
   obtain⟨a,us,h5,h6,h7,h8⟩:=f.r.mt i x h4
   obtain⟨b,ws,g1,g2,_⟩:=hR.mt i ys (lm _ _ h3)
   obtain⟨u,g3,g4⟩:=Bq g1
   cases g4
   have:=f.par i _ (gar i ys _ h3 g3)
   rw[h5]at this;cases this
   exact⟨a,us,g1,g2,h7,h8.mono (C5 f.sS)⟩
  ·obtain⟨l,h1,h2⟩:=Bq h
   cases h2
   have:=Ea hf h1
   obtain⟨a,us,h3,h4,h5⟩:=hR.cst i x (lm _ _ this)
   exact⟨a,us,h3,k.same.seq h4,h5.mono k.same⟩
  ·obtain⟨l1,g1,g2⟩:=Bq h1
   obtain⟨l2,g3,g4⟩:=Bq h2
   cases g2;cases g4
   obtain⟨⟨zs,h5⟩,_⟩:=OH hf g1
   obtain⟨⟨ws,h6⟩,_⟩:=OH hf g3
   exact hR.inj i j zs ws a (lm _ _ h5) (lm _ _ h6) h3 h4
  ·obtain⟨l,h1,h2⟩:=Bq h
   cases h2
   exact Ea hf h1
 refine hb ⟨S,Mx,H,ar⟩ S Mx _ _ H _ o hnp f0 e1 ?_
 cases o with
 |nx t5 =>
  cases fr with
  |false =>
   obtain⟨ls1,e2,e⟩:=oM e
   intro S' M' σ' H' f k
   exact done f e2 e.symm rfl
  |true=>cases e
 |bk t5=>cases e
 |ct t5=>cases e
 |rt d t5 =>
  obtain⟨ls1,e2,e⟩:=oM e
  intro S' M' σ' H' v f res
  exact done f e2 e.symm res
end DL
end
section
namespace DL
open PySem L2 PyProof.Rows
variable {K:KW}
def Bp:List PyData->Option PyData
 |[.list xs]=>some (.int xs.length)
 |[.tuple xs]=>some (.int xs.length)
 |[.str x]=>if x.length<=sizeLine then some (.int x.length) else none
 |_=>none
def Zl:BR K false (fun xs H Q=>∃x n,xs=[x]/\UY K x H n/\Q (.int n) H) Bp:=by
 intro S H vs ds d Q _ l e q
 unfold Bp at e
 split at e
 ·cases e
  obtain⟨v,us,rfl,⟨a,ws,rfl,h,lw⟩,iu⟩:=l
  cases (show us=[] from iu)
  exact⟨_,ws.length,rfl,.inl ⟨ws,SqL.of (hid_iff.mp h).2,rfl⟩,q _ H (fun _ _ e=>e) (by rw[lw.length];rfl)⟩
 ·cases e
  obtain⟨v,us,rfl,⟨a,ws,rfl,h,lw⟩,iu⟩:=l
  cases (show us=[] from iu)
  exact⟨_,ws.length,rfl,.inr ⟨ws,Same.tup same_hid h,rfl⟩,q _ H (fun _ _ e=>e) (by rw[lw.length];rfl)⟩
 ·split at e
  ·rename_i hz
   cases e
   obtain⟨v,us,rfl,iv,iu⟩:=l
   cases (show us=[] from iu)
   cases (show v = .str _ from iv)
   exact⟨_,_,rfl,⟨hz,rfl⟩,q _ H (fun _ _ e=>e) rfl⟩
  ·cases e
 ·cases e
def f1(g:Int->Int):List PyData->Option PyData
 |[.int i]=>some (.int (g i))
 |_=>none
def f2(g:Int->Int->Int):List PyData->Option PyData
 |[.int i,.int j]=>some (.int (g i j))
 |_=>none
def c_1{g:Int->Int}:BR K false (fun xs H Q=>∃i,xs=[.int i]/\Q (.int (g i)) H) (f1 g):=by
 intro S H vs ds d Q _ l e q
 unfold f1 at e
 split at e
 ·cases e
  obtain⟨v,us,rfl,iv,iu⟩:=l
  cases (show us=[] from iu)
  cases (show v = .int _ from iv)
  exact⟨_,rfl,q _ H (fun _ _ e=>e) rfl⟩
 ·cases e
def c_2{g:Int->Int->Int}:BR K false (fun xs H Q=>∃i j,xs=[.int i,.int j]/\Q (.int (g i j)) H) (f2 g):=by
 intro S H vs ds d Q _ l e q
 unfold f2 at e
 split at e
 ·cases e
  obtain⟨v,us,rfl,iv,w,us',rfl,iw,iu⟩:=l
  cases (show us'=[] from iu)
  cases (show v = .int _ from iv)
  cases (show w = .int _ from iw)
  exact⟨_,_,rfl,q _ H (fun _ _ e=>e) rfl⟩
 ·cases e
def Hs:=f1 fun i=>if i<0 then -i else i
def FR:=f2 fun i j=>if j>i then j else i
def FQ:=f2 fun i j=>if j<i then j else i
def ic:BR K false (fun xs H Q=>∃i,xs=[.int i]/\Q (.int (if i<0 then -i else i)) H) Hs:=c_1
def dz:BR K false (fun xs H Q=>∃i j,xs=[.int i,.int j]/\Q (.int (if j>i then j else i)) H) FR:=c_2
def dw:BR K false (fun xs H Q=>∃i j,xs=[.int i,.int j]/\Q (.int (if j<i then j else i)) H) FQ:=c_2
def Ds:List PyData->Option PyData
 |[.int i]=>some (.int i)
 |[.bool b]=>some (.int (if b then 1 else 0))
 |_=>none
def eB:BR K false (fun xs H Q=>(∃i,xs=[.int i]/\Q (.int i) H)\/∃k,xs=[.bl k]/\Q (.int (if k then 1 else 0)) H) Ds:=by
 intro S H vs ds d Q _ l e q
 unfold Ds at e
 split at e
 ·cases e
  obtain⟨v,us,rfl,iv,iu⟩:=l
  cases (show us=[] from iu)
  cases (show v = .int _ from iv)
  exact .inl ⟨_,rfl,q _ H (fun _ _ e=>e) rfl⟩
 ·cases e
  obtain⟨v,us,rfl,iv,iu⟩:=l
  cases (show us=[] from iu)
  cases (show v = .bl _ from iv)
  exact .inr ⟨_,rfl,q _ H (fun _ _ e=>e) rfl⟩
 ·cases e
def Bj:List PyData->Option PyData
 |[.list xs]=>some (.list xs)
 |[.tuple xs]=>some (.list xs)
 |_=>none
def eA:BR K true (fun xs H Q=>∃p ys,xs=[.ref p]/\(SqL K H p ys\/SqT K H p ys)/\∀l,H l=none->Q (.ref l) (upd H l (.lst ys))) Bj:=by
 intro S H vs ds d Q _ l e q
 unfold Bj at e
 split at e
 ·cases e
  obtain⟨v,us,rfl,⟨a,ws,rfl,h,lw⟩,iu⟩:=l
  cases (show us=[] from iu)
  exact⟨a,ws,rfl,.inl (SqL.of (hid_iff.mp h).2),fun p hp=>q _ _ (Ax hp _) (Ip hp lw)⟩
 ·cases e
  obtain⟨v,us,rfl,⟨a,ws,rfl,h,lw⟩,iu⟩:=l
  cases (show us=[] from iu)
  exact⟨a,ws,rfl,.inr (Same.tup same_hid h),fun p hp=>q _ _ (Ax hp _) (Ip hp lw)⟩
 ·cases e
def tyN:PyData->String
 |.none=>"NoneType"
 |.bool _=>"bool"
 |.int _=>"int"
 |.str _=>"str"
 |.list _=>"list"
 |.tuple _=>"tuple"
 |.dict _=>"dict"
def aI(K:KW):List V->Hp->VK->Prop:=fun xs H Q=>∃x T d b,xs=[x,.ty T]/\Is K H d x/\PySem.W.kitOne K (.type (tyN d)) (.type T)=some b/\Q (.bl b) H
def UQ{X:Cx}:Cp X (.builtin "isinstance") (aI (Gi X)):=by
 intro pins s σ H xs us Q I r h
 obtain⟨x,T,d,b,rfl,ix,k,q⟩:=h
 obtain⟨u,w',rfl,rx,rT⟩:=Um r
 cases (show w'=Value.type T from rT)
 have fin:∀tk,EP X pins σ Q (.bool b) { s with toks:=tk }:=fun tk=>⟨.bl b,H,I.tok _,rfl,q⟩
 cases d with
 |none=>cases (show x = .non from ix);exact Fv I rx .non k fin
 |bool y=>cases (show x = .bl y from ix);exact Fv I rx (.bl y) k fin
 |int y=>cases (show x = .int y from ix);exact Fv I rx (.int y) k fin
 |str y=>cases (show x = .str y from ix);exact Fv I rx (.str y) k fin
 |list y=>obtain⟨a,vs,rfl,h,_⟩:=ix;exact Fv I rx (.lst h) k fin
 |tuple y =>
  obtain⟨a,vs,rfl,h,_⟩:=ix
  cases (show u=Value.ref a from rx)
  obtain⟨its,_,⟨o,h1,h2,_⟩,_⟩:=I.tuple h
  exact lC PySem.W.kitx_tuple I.kIn ⟨o,h1,h2⟩ k (fun z=>nomatch z) fin
 |dict y =>
  obtain⟨a,ts,rfl,⟨ep,h⟩,_⟩:=ix
  cases (show u=Value.ref a from rx)
  obtain⟨⟨_,_,_,xs,pr,o,es,ho,he,hd,hes⟩,_,_⟩:=(show ObjOk X.prog X.w H s.heap a (.ext (Xd a ts ep)) from I.hok a _ h)
  exact lC nE I.kIn ⟨o,ho,he.1⟩ k (fun z=>nomatch z) fin
def gS(T t:String):Bool:=t==T||(T=="int"&&t=="bool")
def X7(T:String)(d:PyData):Bool:=gS T (tyN d)
def Z5(T:String):Bool:=["int","bool","str","list","tuple"].contains T
def T8{T t:String}(hT:T∈["int","bool","str","list","tuple"])(ht:t∈["NoneType","bool","int","str","list","tuple","dict"]):PySem.W.kitOne K (.type t) (.type T)=some (gS T t):=by
 simp only[List.mem_cons,List.not_mem_nil,or_false]at hT ht
 rcases hT with rfl|rfl|rfl|rfl|rfl<;>rcases ht with rfl|rfl|rfl|rfl|rfl|rfl|rfl<;>first
  |exact V2 _
  |exact bC (by decide +kernel) (by decide +kernel) (by decide +kernel)
def X3{T:String}{d:PyData}(h:Z5 T=true):PySem.W.kitOne K (.type (tyN d)) (.type T)=some (X7 T d) :=
 T8 (by simpa[Z5] using h) (by cases d<;>simp[tyN])
def Dm(T:String)(a:DX)(τ:DS):Option (PyData×DS):=(a τ).bind fun p=>if Z5 T then some (.bool (X7 T p.1),p.2) else none
def gy{T:String}{fr:Bool}{t:TE}{a:DX}(ha:E K t fr a):E K (tCB (aI K) (Bs t (Bs (tC (.ty T)) Em))) false (Dm T a):=by
 refine⟨fun τ d t5 e=>?_,?_⟩
 ·unfold Dm at e
  obtain⟨⟨x,t4⟩,e1,e⟩:=oB e
  split at e
  ·cases e;exact ha.like _ _ _ e1
  ·cases e
 intro S M τ σ H Q d t5 r e q
 unfold Dm at e
 obtain⟨⟨x,t4⟩,e1,e⟩:=oB e
 split at e
 ·rename_i hT
  cases e
  refine ha.weak.run S M τ σ H _ x _ r e1 fun v H1 r1 c1 i1=>?_
  exact⟨v,T,x,_,rfl,Is.mono same_hid i1,X3 hT,q _ H1 r1 c1 rfl⟩
 ·cases e
def Bb(i j:Nat)(a:DA)(τ:DS):Option Out:=(a τ).bind fun p=>(A1 p.1).bind fun ds=>match ds with
 |[x,y]=>(dN i x p.2).bind fun t4=>(dN j y t4).map .nx
 |_=>none
def ik{np:Nat}{fr:Bool}{i j:Nat}{ta:TA}{a:DA}(ha:A K ta a):B K np (fQ i j ta) fr (Bb i j a):=by
 intro F S M τ σ H D out hnp f ee q
 unfold Bb at ee
 obtain⟨⟨x,t4⟩,e1,ee⟩:=oB ee
 obtain⟨ds,e2,ee⟩:=oB ee
 split at ee
 ·rename_i x y
  obtain⟨t7,e3,ee⟩:=oB ee
  obtain⟨n9,e4,ee⟩:=oM ee
  cases ee
  refine ha.run S M τ σ H _ _ t4 f.r e1 fun vs H1 r1 c1 i1=>?_
  obtain⟨v,us,rfl,iv,w,us',rfl,iw,iu⟩:=CJ i1 e2
  cases (show us'=[] from iu)
  refine⟨v,w,rfl,?_⟩
  have f1:=f.step r1 c1 (ha.like _ _ _ e1)
  refine(E2 (K:=K) (i:=i)).run S M t4 σ H1 v x t7 (fun σ' H'=>D.nx (σ'.set j (some w)) H') r1 iv e3 fun σ2 r2 k2=>?_
  have f2:=f1.stay r2 ((E2 (K:=K) (i:=i)).ms _ _ _ e3) k2
  refine(E2 (K:=K) (i:=j)).run S M t7 σ2 H1 w y n9 (fun σ' H'=>D.nx σ' H') r2 iw e4 fun σ3 r3 k3=>?_
  exact q S M σ3 H1 (f2.stay r3 ((E2 (K:=K) (i:=j)).ms _ _ _ e4) k3) (c1.keep f.r.sub)
 ·cases ee
end DL
end
section
namespace DL
open PySem L2
variable {K:KW}
def C6(i:Nat)(f:DT)(τ:DS):Option (Bool×DS):=match τ[i]? with
 |some (some (.m xs))=>(f (τ.set i (some (.d (.list xs))))).bind fun q=>if q.2.all okM then some (q.1,q.2.set i (some (.m xs))) else none
 |some (some (.k xs))=>(f (τ.set i (some (.d (.dict (Mh xs)))))).bind fun q=>if q.2.all okM then some (q.1,q.2.set i (some (.k xs))) else none
 |_=>none
def Ly{i:Nat}{f:DT}{τ:DS}{d:Bool}{t5:DS}(e:C6 i f τ=some (d,t5)):∃w t4,τ[i]?=some (some (Ow.L w))/\f (τ.set i (some (.d w.D)))=some (d,t4)/\t4.all okM=true/\t5=t4.set i (some w.L):=by
 unfold C6 at e
 split at e
 ·rename_i xs hx
  obtain⟨⟨z,t4⟩,e1,e⟩:=oB e
  dsimp only at e
  split at e
  ·rename_i h
   cases e
   exact⟨.l xs,t4,hx,e1,h,rfl⟩
  ·cases e
 ·rename_i xs hx
  obtain⟨⟨z,t4⟩,e1,e⟩:=oB e
  dsimp only at e
  split at e
  ·rename_i h
   cases e
   exact⟨.t xs,t4,hx,e1,h,rfl⟩
  ·cases e
 ·cases e
def fN{i:Nat}{t:TT}{f:DT}(h:T K t f):T K t (C6 i f):=by
 refine⟨fun τ d t5 e=>?_,?_⟩
 ·obtain⟨xs,t4,e1,e2,_,rfl⟩:=Ly e
  exact PY e1 (h.like _ _ _ e2)
 intro S M τ σ H Q d t5 r e q
 obtain⟨xs,t4,e1,e2,ok,rfl⟩:=Ly e
 obtain⟨p,us,hp,hM,hl,ll⟩:=r.mt i xs e1
 refine h.run _ _ _ σ H _ d t4 (frz r e1 hp) e2 fun H' r' c=>?_
 exact q H' (ZH r e1 hp r' (h.like _ _ _ e2) c ok) (fun b o hn e=>c b o (fun z=>hn z.1) e)
def B0(τ:DS):Option (Bool×DS):=some (true,τ)
def fL:T K fP B0:=by
 refine⟨fun τ d t5 e=>?_,?_⟩
 ·cases e;exact .refl
 intro S M τ σ H Q d t5 r e q
 cases e
 exact q H r .refl
def V0(N':List Str)(own:Nat)(fr:List Nat)(scope:Scope)(N:List Str)(sc:Scope):Bool :=
 (scope.kind==.function)&&decide (N'.length=own+fr.length)&&(scope.names.all fun y=>y.2 != .cell)&&(scope.names.all fun y=>y.2 != .local||scope.names.lookup y.1==some .local) &&
 (scope.names.all fun y=>y.2 != .free||sc.names.lookup y.1==some .cell||sc.names.lookup y.1==some .free) &&
 (fr.zipIdx.all fun p=>match N'[own+p.2]?,N[p.1]? with|some x,some y=>decide (x=y)&&scope.names.lookup x==some .free|_,_=>false)
def ZZ{X:Cx}{N':List Str}{own:Nat}{fr:List Nat}{scope:Scope}{N:List Str}{sc:Scope}(hN:X.N=N)(hs:X.env.scope=sc)(h:V0 N' own fr scope N sc=true):R5 X N' own fr scope:=by
 unfold V0 at h
 simp only[Bool.and_eq_true]at h
 obtain⟨⟨⟨⟨⟨h1,h2⟩,h3⟩,h4⟩,h5⟩,h6⟩:=h
 subst hN hs
 refine⟨eq_of_beq h1,of_decide_eq_true h2,fun y hy=>?_,fun y hy e=>?_,fun x hx=>?_,fun k j e=>?_⟩
 ·have:=lF.mp h3 y hy
  intro z
  rw[z]at this
  simp at this
 ·have:=lF.mp h4 y hy
  rw[e]at this
  simpa using this
 ·have:=lF.mp h5 _ hx
  simpa using this
 ·have hm:(j,k)∈fr.zipIdx:=by
   rw[List.mem_zipIdx_iff_getElem?]
   exact e
  have:=lF.mp h6 _ hm
  dsimp only at this
  split at this
  ·rename_i x y hx hy
   rw[Y']at this
   have e1:x=y:=of_decide_eq_true this.1
   subst e1
   exact⟨x,hx,hy,eq_of_beq this.2⟩
  ·cases this
def Ai{τ:DS}:fin [] τ=some []:=by cases τ<;>rfl
def BF{x:PyData}{ls:List L}{o:Option L}{τ:DS}:fin (.d x::ls) (o::τ)=(fin ls τ).map (.d x::·):=rfl
def BH{x:List PyData}{ls:List L}{o:Option L}{τ:DS}:fin (.c x::ls) (o::τ)=(fin ls τ).map (.c x::·):=rfl
def BE{x xs:List PyData}{ls:List L}{τ:DS}:fin (.m x::ls) (some (.m xs)::τ)=(fin ls τ).map (.m xs::·):=rfl
def AL{fr:Bool}{np nl:Nat}{b:DB}{ls ls':List L}{d:PyData}{τ:DS}(h:b (ls.map some++List.replicate nl none)=some (.rt d τ))(hl:ls.length=np)(hf:fin ls τ=some ls'):Ba fr np nl b ls=some (d,ls'):=by
 unfold Ba
 rw[if_pos hl,h]
 show(fin ls τ).map _=_
 rw[hf]
 rfl
def AE{a b:DB}{τ t4:DS}(h:a τ=some (.nx t4)):AH a b τ=b t4:=by
 unfold AH
 rw[h]
 rfl
def As{a b:DB}{τ t4:DS}{d:PyData}(h:a τ=some (.rt d t4)):AH a b τ=some (.rt d t4):=by
 unfold AH
 rw[h]
 rfl
def AU{e:DX}{g:DG}{τ t4 t7:DS}{d:PyData}(h:e τ=some (d,t4))(k:g d t4=some t7):AI e g τ=some (.nx t7):=by
 unfold AI
 rw[h]
 show(g d t4).map _=_
 rw[k]
 rfl
def AX{e:DX}{τ t4:DS}{d:PyData}(h:e τ=some (d,t4)):AM e τ=some (.rt d t4):=by
 unfold AM
 rw[h]
 rfl
def A3{c:DT}{a b:DB}{τ t4:DS}(h:c τ=some (true,t4)):AO c a b τ=a t4:=by
 unfold AO
 rw[h]
 rfl
def Ae{c:DT}{a b:DB}{τ t4:DS}(h:c τ=some (false,t4)):AO c a b τ=b t4:=by
 unfold AO
 rw[h]
 rfl
def AW{G:List L->Option (PyData×List L)}{a:DA}{τ t4:DS}{rs:List Ar}{ds:List PyData}{r:PyData}{ls:List L}(h:a τ=some (rs,t4))(k:A1 rs=some ds)(g:G (ds.map L.d)=some (r,ls)):AB G a τ=some (r,t4):=by
 unfold AB
 rw[h]
 show(A1 rs).bind _=_
 rw[k]
 show(G (ds.map L.d)).map _=_
 rw[g]
 rfl
def E7{i:Nat}{G:List L->Option (PyData×List L)}{a:DA}{τ t4:DS}{rs:List Ar}{ds:List PyData}{r:PyData}{ls:List L}{xs:List PyData}(h:a τ=some (rs,t4))(k:A1 rs=some ds)(m:t4[i]?=some (some (.c xs)))(g:G (.c xs::ds.map L.d)=some (r,ls)):AZ i G a τ=some (r,t4):=by
 unfold AZ
 rw[h]
 show(A1 rs).bind _=_
 rw[k]
 show(match t4[i]? with|some (some (.c xs))=>_|_=>_)=_
 rw[m]
 show(G (.c xs::ds.map L.d)).map _=_
 rw[g]
 rfl
def Cw{it:DI}{g:DG}{b:DB}{τ t4:DS}{ds:List PyData}(h:it τ=some (ds,t4)):Ca it g b τ=BC g b ds t4:=by
 unfold Ca
 rw[h]
 rfl
def M5{α:Type}{enc:α->PyData}{g:DG}{b:DB}(J:List α->DS->Prop):∀{xs pre:List α} {τ:DS},J pre τ->(∀x pre τ,x∈xs->J pre τ->∃t4 t7,g (enc x) τ=some t4/\b t4=some (.nx t7)/\J (pre++[x]) t7)->∃t5,BC g b (xs.map enc) τ=some (.nx t5)/\J (pre++xs) t5
 |[],pre,τ,h0,_=>⟨τ,rfl,by rw[ku];exact h0⟩
 |x::xs,pre,τ,h0,h=>by
  obtain⟨t4,t7,e1,e2,h1⟩:=h x pre τ L' h0
  obtain⟨t5,e3,h3⟩:=M5 J (xs:=xs) (pre:=pre++[x]) (τ:=t7) h1 (fun y p t hy hj=>h y p t (V' _ hy) hj)
  refine⟨t5,?_,by rw[lK]at h3;exact h3⟩
  rw[kg,BC,e1]
  show(b t4).bind _=_
  rw[e2]
  exact e3
def N6{α:Type}{enc:α->PyData}{g:DG}{c:DT}{e:DX}(J:DS->Prop)(p:α->Bool)(f:α->PyData):∀{xs:List α} {acc:List PyData} {τ:DS},J τ ->
  (∀x τ,x∈xs->J τ->∃t4 t7,g (enc x) τ=some t4/\c t4=some (p x,t7)/\(p x=false->J t7)/\(p x=true->∃n9,e t7=some (f x,n9)/\J n9))->∃t5,D0 g c e (xs.map enc) acc τ=some (acc++(xs.filter p).map f,t5)
 |[],acc,τ,h0,_=>⟨τ,by simp[D0]⟩
 |x::xs,acc,τ,h0,h=>by
  obtain⟨t4,t7,e1,e2,hf,ht⟩:=h x τ L' h0
  have hr:∀y t,y∈xs->J t->_:=fun y t hy hj=>h y t (V' _ hy) hj
  cases hp:p x with
  |false =>
   obtain⟨t5,e3⟩:=N6 J p f (xs:=xs) (acc:=acc) (τ:=t7) (hf hp) hr
   refine⟨t5,?_⟩
   rw[kg,D0,e1]
   show(c t4).bind _=_
   rw[e2,hp]
   show D0 g c e (xs.map enc) acc t7=_
   rw[e3,lO,hp]
   rfl
  |true =>
   obtain⟨n9,e4,h4⟩:=ht hp
   obtain⟨t5,e3⟩:=N6 J p f (xs:=xs) (acc:=acc++[f x]) (τ:=n9) h4 hr
   refine⟨t5,?_⟩
   rw[kg,D0,e1]
   show(c t4).bind _=_
   rw[e2,hp]
   show(e t7).bind _=_
   rw[e4]
   show D0 g c e (xs.map enc) (acc++[f x]) n9=_
   rw[e3,lO,hp,lK]
   rfl
def bg{own:Nat}{fr:List Nat}{it:DI}{g:DG}{c:DT}{e:DX}{τ t4 b7:DS}{ds acc:List PyData}(h:it τ=some (ds,t4))(hz:ds.length<=sizeLine)(hm:(fr.all fun j=>!isM t4 j)=true)(hl:D0 g c e ds [] (OU own fr t4)=some (acc,b7)):dLC own fr it g c e τ=some (.list acc,t4):=by
 unfold dLC
 rw[h]
 show(if ds.length<=sizeLine/\(fr.all fun j=>!isM t4 j)=true then _ else _)=_
 rw[if_pos ⟨hz,hm⟩,hl]
 rfl
def sz{n:Nat}(h:n<=1000):n<=sizeLine:=lA h (by decide)
def sz'{n:Nat}(h:n<=1000):(n<=sizeLine)=True:=eq_true (sz h)
def Wl{m:Int}(h0:0<m)(h1:m<10 ^ 70):Bd 8000 m:=by
 have:Bd 240 m:=Bd.of (m:=10 ^ 70) (by omega) (by omega) (by decide)
 exact this.mono (by decide)
def WY{K:KW}{H:Hp}{a:Addr}{xs:List V}(h:SqL K H a xs):SqL K (hid (fun _=>False) H) a xs:=Same.seq (fun b o e=>hid_iff.mpr ⟨fun z=>z,e⟩) h
def Pf{K:KW}{H:Hp}:∀ns:List Int,IsL K H (ns.map PyData.int) (ns.map V.int)
 |[]=>rfl
 |_::ns=>⟨_,_,rfl,rfl,Pf ns⟩
structure Enc{α:Type}[DecidableEq α](enc:α->PyData):Prop where
 eqv:∀a b,PyData.eqv (enc a) (enc b)=decide (a=b)
 can:∀a,(enc a).canLay0=true
 dep:∀a,(enc a).depth<=20
 fix:∀a,Cs (enc a)=true
section
variable {α:Type} [DecidableEq α] {enc:α->PyData}
def Enc.ok(h:Enc enc)(a:α):okD (enc a)=true:=by
 unfold okD SeqAt.shaped
 rw[Y']
 exact⟨h.can a,decide_eq_true (lA (h.dep a) (by decide))⟩
def Enc.canL(h:Enc enc):∀xs:List α,PyData.canLayAll0 (xs.map enc)=true
 |[]=>rfl
 |x::xs=>by
  rw[kg,PyData.canLayAll0,h.can,Enc.canL h xs];rfl
def Enc.depL(h:Enc enc):∀xs:List α,PyData.depthAll (xs.map enc)<=20
 |[]=>lW _
 |x::xs=>by
  rw[kg,PyData.depthAll]
  have:=h.dep x
  have:=Enc.depL h xs
  omega
def Enc.okL(h:Enc enc)(xs:List α):okD (.list (xs.map enc))=true:=by
 unfold okD SeqAt.shaped
 rw[Y',PyData.canLay0,PyData.depth]
 exact⟨h.canL xs,decide_eq_true (by have:=h.depL xs;omega)⟩
def Enc.eqvL(h:Enc enc):∀xs ys:List α,PyData.eqvAll (xs.map enc) (ys.map enc)=decide (xs=ys)
 |[],[]=>rfl
 |[],_::_=>rfl
 |_::_,[]=>rfl
 |x::xs,y::ys=>by
  rw[kg,kg,PyData.eqvAll,h.eqv,Enc.eqvL h xs ys]
  by_cases e:x=y
  ·subst e
   by_cases e':xs=ys
   ·subst e';simp
   ·simp[e']
  ·simp[e]
def Enc.eqL(h:Enc enc)(xs ys:List α):PyData.eqv (.list (xs.map enc)) (.list (ys.map enc))=decide (xs=ys):=by
 rw[PyData.eqv];exact h.eqvL xs ys
def Enc.any(h:Enc enc)(x:α):∀xs:List α,((xs.map enc).any fun y=>PyData.eqv y (enc x))=decide (x∈xs)
 |[]=>by simp
 |y::ys=>by
  rw[kg,nI,h.eqv,Enc.any h x ys]
  by_cases e:y=x
  ·subst e;simp
  ·have:¬x=y:=fun z=>e z.symm
   simp[e,this]
def Enc.fixL(h:Enc enc):∀xs:List α,fixDs (xs.map enc)=true
 |[]=>rfl
 |x::xs=>by rw[kg,fixDs,h.fix,Enc.fixL h xs];rfl
def Enc.fEq(h:Enc enc)(a b:α):DL.fEq (enc a) (enc b)=some (.bool (decide (a=b))):=by
 unfold DL.fEq;rw[h.ok,h.ok,h.eqv];rfl
def Enc.fNe(h:Enc enc)(a b:α):DL.fNe (enc a) (enc b)=some (.bool (!decide (a=b))):=by
 unfold DL.fNe;rw[h.ok,h.ok,h.eqv];rfl
def Enc.fEqL(h:Enc enc)(a b:List α):DL.fEq (.list (a.map enc)) (.list (b.map enc))=some (.bool (decide (a=b))):=by
 unfold DL.fEq;rw[h.okL,h.okL,h.eqL];rfl
def Enc.fNeL(h:Enc enc)(a b:List α):DL.fNe (.list (a.map enc)) (.list (b.map enc))=some (.bool (!decide (a=b))):=by
 unfold DL.fNe;rw[h.okL,h.okL,h.eqL];rfl
def Enc.fIn(h:Enc enc)(a:α)(xs:List α):DL.fIn false (enc a) (.list (xs.map enc))=some (.bool (decide (a∈xs))):=by
 simp only[DL.fIn,h.ok,h.okL,h.any,Bool.and_self,if_true,Bool.false_eq_true,if_false]
def Enc.fNotIn(h:Enc enc)(a:α)(xs:List α):DL.fIn true (enc a) (.list (xs.map enc))=some (.bool (!decide (a∈xs))):=by
 simp only[DL.fIn,h.ok,h.okL,h.any,Bool.and_self,if_true]
end
def encI:Enc (α:=Int) PyData.int:=⟨fun a b=>by rw[PyData.eqv];by_cases h:a=b<;>simp[h],fun _=>rfl,fun _=>by rw[PyData.depth];decide,fun _=>rfl⟩
def ec(p:Int×Int):PyData:=.tuple [.int p.1,.int p.2]
def encC:Enc ec:=by
 refine⟨fun a b=>?_,fun _=>rfl,fun a=>?_,fun _=>rfl⟩
 ·unfold ec
  simp only[PyData.eqv,PyData.eqvAll,Bool.and_true]
  obtain⟨a1,a2⟩:=a
  obtain⟨b1,b2⟩:=b
  by_cases h1:a1=b1
  ·by_cases h2:a2=b2<;>simp[h1,h2]
  ·simp[h1]
 ·unfold ec;simp[PyData.depth,PyData.depthAll]
structure Bx where
 x:Int
 y:Int
 w:Int
 h:Int
 deriving DecidableEq
def eb(b:Bx):PyData:=.tuple [.int b.x,.int b.y,.int b.w,.int b.h]
def rng(lo:Int)(n:Nat):List Int:=(List.range n).map fun(k:Nat)=>lo+(k:Int)
def M1(lo:Int)(n:Nat):Gw lo n=(rng lo n).map PyData.int:=by
 unfold Gw rng
 rw[lx]
 rfl
def mem_rng{lo v n:Int}:v∈rng lo n.toNat↔lo<=v/\v<lo+n:=by
 unfold rng
 rw[ly]
 constructor
 ·rintro⟨k,hk,rfl⟩
  rw[mS]at hk
  omega
 ·rintro⟨h1,h2⟩
  exact⟨(v-lo).toNat,by rw[mS];omega,by omega⟩
abbrev Cl:=Int×Int
def ji(x v:Int)(w:Nat):List Cl:=(rng x w).map fun u=>(u,v)
def cells(b:Bx):List Cl:=(rng b.y b.h.toNat).flatMap fun v=>ji b.x v b.w.toNat
def inB(b:Bx)(p:Cl):Prop:=b.x<=p.1/\p.1<b.x+b.w/\b.y<=p.2/\p.2<b.y+b.h
instance {b:Bx} {p:Cl}:Decidable (inB b p):=by unfold inB;infer_instance
def nM(o:Option L):Prop:=(∀xs,o≠some (.m xs))/\∀xs,o≠some (.k xs)
def BI:nM none:=⟨fun xs z=>(nomatch z),fun xs z=>(nomatch z)⟩
def DQ{x:PyData}:nM (some (.d x)):=⟨fun xs z=>(nomatch z),fun xs z=>(nomatch z)⟩
def Cv{i:Nat}{d:PyData}{τ:DS}{o:Option L}(h:τ[i]?=some o)(hn:nM o):dN i d τ=some (τ.set i (some (.d d))):=by
 unfold dN
 rw[h]
 cases o with
 |none=>rfl
 |some l=>cases l with
  |m xs=>exact absurd rfl (hn.1 xs)
  |k xs=>exact absurd rfl (hn.2 xs)
  |d x=>rfl
  |c x=>rfl
  |g x=>rfl
variable {K:KW}
def isC(τ:DS)(j:Nat):Bool:=match τ[j]? with
 |some (some (.c _))=>true
 |_=>false
def dAS(i:Nat)(r:DA)(τ:DS):Option (List Ar×DS):=if (isM τ i||isC τ i)=true then (r τ).map fun q=>(.s i::q.1,q.2) else none
def mkL(τ:DS):List Ar->Option (List L)
 |[]=>some []
 |.d x::r=>(mkL τ r).map (.d x::·)
 |.s i::r=>match τ[i]? with
  |some (some (.m xs))=>(mkL τ r).map (.m xs::·)
  |some (some (.c xs))=>(mkL τ r).map (.c xs::·)
  |_=>none
def nMb:L->Bool
 |.m _=>false
 |.k _=>false
 |_=>true
def E5(k i:Nat)(G:List L->Option (PyData×List L))(a:DA)(τ:DS):Option (PyData×DS):=(a τ).bind fun p=>(mkL p.2 p.1).bind fun ls=>match p.1[k]?,ls[k]? with
 |some (.s j),some (.m _)=>if j=i/\(ls.set k (.d .none)).all nMb=true then (G ls).bind fun q=>match q.2[k]? with
   |some (.m xs)=>some (q.1,p.2.set i (some (.m xs)))
   |_=>none
  else none
 |_,_=>none
def Kc{α:Type}{enc:α->PyData}{g:DG}{b:DB}{all:List α}(J:List α->DS->Prop)(h:∀pre x post τ,all=pre++x::post->J pre τ->∃t4 t7,g (enc x) τ=some t4/\b t4=some (.nx t7)/\J (pre++[x]) t7) :
  ∀{xs pre:List α} {τ:DS},all=pre++xs->J pre τ->∃t5,BC g b (xs.map enc) τ=some (.nx t5)/\J all t5
 |[],pre,τ,e,h0=>⟨τ,rfl,by rw[e,ku];exact h0⟩
 |x::xs,pre,τ,e,h0=>by
  obtain⟨t4,t7,e1,e2,h1⟩:=h pre x xs τ e h0
  obtain⟨t5,e3,h3⟩:=Kc J h (xs:=xs) (pre:=pre++[x]) (τ:=t7) (by rw[e,lK];rfl) h1
  refine⟨t5,?_,h3⟩
  rw[kg,BC,e1]
  show(b t4).bind _=_
  rw[e2]
  exact e3
def C4{α:Type}{enc:α->PyData}{g:DG}{b:DB}{xs:List α}{τ:DS}(J:List α->DS->Prop)(h0:J [] τ)(h:∀pre x post τ,xs=pre++x::post->J pre τ->∃t4 t7,g (enc x) τ=some t4/\b t4=some (.nx t7)/\J (pre++[x]) t7) :
  ∃t5,BC g b (xs.map enc) τ=some (.nx t5)/\J xs t5:=Kc J h (pre:=[]) rfl h0
def KZ{n:Int}{τ t4:DS}{a:DA}(h:a τ=some ([.d (.int n)],t4))(h0:-100000<=n)(h1:n<=100000):dR1 a τ=some ((rng 0 n.toNat).map PyData.int,t4):=by
 unfold dR1
 rw[h]
 show(if -(2 ^ 62)<=n/\n<2 ^ 62 then some (Gw 0 n.toNat,t4) else none)=_
 rw[if_pos (by omega),M1]
def Eg{α:Type}{xs pre post:List α}{x:α}(e:xs=pre++x::post):pre.length<xs.length:=by rw[e,T',kX];omega
def HY{α:Type}{xs pre post:List α}{x:α}(e:xs=pre++x::post):x∈xs:=by rw[e];exact P' _ L'
end DL
end
section
namespace DL
open PySem PySem.Spec L2 PyProof.Rows
section
variable {prog:Program} {w:World} {A:Around} {s:Shared} {R:Result->Shared->Prop}
variable {I:Addr} {fp wr:List Addr} {G:Array GenState->Array GenState->Prop} {n:Nat} {P:Nat->Value->Prop} {St:Nat->Shared->Prop}
end
section
variable {prog:Program} {w:World} {A:Around} {E:Value->Shared->Prop} {s:Shared}
variable {I:Addr} {fp wr:List Addr} {G:Array GenState->Array GenState->Prop} {n:Nat} {P:Nat->Value->Prop} {St:Nat->Shared->Prop}
end
variable {K:KW}
def Lz(f:DX)(τ:DS):Option (PyData×DS):=(f τ).bind fun p=>match p.1 with
 |.list xs=>some (.list xs.reverse,p.2)
 |_=>none
def Ce:okM none=true:=rfl
def Gz{x:PyData}:okM (some (.d x))=true:=rfl
def G4{x:List PyData}:okM (some (.c x))=true:=rfl
def Gy{x:List PyData}:okM (some (.m x))=fixDs x:=rfl
def Ll{o:Option L}(h:nM o):okM o=true:=by
 cases o with
 |none=>rfl
 |some l=>cases l with
  |m xs=>exact absurd rfl (h.1 xs)
  |k xs=>exact absurd rfl (h.2 xs)
  |d x=>rfl
  |c x=>rfl
  |g x=>rfl
end DL
end
section
namespace Srt
open PySem PySem.W PyProof.Rows
variable {n:Nat} {r:Nat->Nat->Bool}
end Srt
end
section
namespace Srt
open PySem PySem.W PyProof.Rows HT
section
variable {prog:Program} {w:World} {A:Around} {E:Value->Shared->Prop} {s:Shared}
end
end Srt
end
section
namespace DL
open PySem L2 PyProof.Rows
variable {K:KW}
end DL
end
section
namespace DL
open PySem L2
variable {K:KW}
abbrev DO:=DS->Option (Option Int×DS)
structure OO(K:KW)(t:TO)(f:DO):Prop where
 like:∀τ b t5,f τ=some (b,t5)->Like τ t5
 run:∀S M τ σ H (Q:Option Int->Hp->Prop) b t5,R K S M τ σ H->f τ=some (b,t5)->(∀H',R K S M t5 σ H'->Chg M H H'->Q b H')->t σ H Q
def Bl:DO:=fun τ=>some (none,τ)
def dPt(f:DX):DO:=fun τ=>(f τ).bind fun p=>match p.1 with
 |.int i=>some (some i,p.2)
 |_=>none
def gA:OO K SK Bl:=⟨fun τ b t5 e=>by cases e;exact Like.refl,fun S M τ σ H Q b t5 r e q=>by cases e;exact q H r Chg.refl⟩
def jl{fr:Bool}{t:TE}{f:DX}(h:E K t fr f):OO K (ZL t) (dPt f):=by
 refine⟨fun τ b t5 e=>?_,?_⟩
 ·unfold dPt at e
  obtain⟨⟨x,t4⟩,e1,e⟩:=oB e
  dsimp only at e
  split at e
  ·cases e;exact h.like _ _ _ e1
  ·cases e
 intro S M τ σ H Q b t5 r e q
 unfold dPt at e
 obtain⟨⟨x,t4⟩,e1,e⟩:=oB e
 dsimp only at e
 split at e
 ·rename_i i
  cases e
  refine h.run S M τ σ H _ _ _ r e1 fun v H' r' c iv=>?_
  exact⟨i,(show v = .int i from r.isr iv),q H' r' c⟩
 ·cases e
def Jg(xs:List PyData)(lo hi:Option Int):List PyData:=(xs.drop (HT.sIx xs.length 0 lo)).take (HT.sIx xs.length xs.length hi-HT.sIx xs.length 0 lo)
def Pg{H:Hp}:∀{xs:List PyData} {vs:List V} (n:Nat),IsL K H xs vs->IsL K H (xs.drop n) (vs.drop n)
 |_,_,0,h=>h
 |[],_,n+1,h=>by rw[show _=[] from h];rfl
 |x::xs,_,n+1,⟨v,us,e,_,l⟩=>by subst e;exact Pg n l
def Pd{H:Hp}:∀{xs:List PyData} {vs:List V} (n:Nat),IsL K H xs vs->IsL K H (xs.take n) (vs.take n)
 |_,_,0,h=>rfl
 |[],_,n+1,h=>by rw[show _=[] from h];rfl
 |x::xs,_,n+1,⟨v,us,e,i,l⟩=>by subst e;exact⟨v,_,rfl,i,Pd n l⟩
def Su{H:Hp}{xs:List PyData}{vs:List V}{lo hi:Option Int}(h:IsL K H xs vs):IsL K H (Jg xs lo hi) (Mj vs lo hi):=by
 unfold Jg Mj
 rw[h.length]
 exact Pd _ (Pg _ h)
def dSl(f:DX)(lo hi:DO)(τ:DS):Option (PyData×DS):=(f τ).bind fun p=>(lo p.2).bind fun l=>(hi l.2).bind fun u=>match p.1 with
 |.list xs=>some (.list (Jg xs l.1 u.1),u.2)
 |_=>none
def kE{fr:Bool}{te:TE}{tl th:TO}{f:DX}{lo hi:DO}(h:E K te fr f)(hl:OO K tl lo)(hh:OO K th hi):E K (tSl (aH K) te tl th) true (dSl f lo hi):=by
 refine⟨fun τ d t5 e=>?_,?_⟩
 ·unfold dSl at e
  obtain⟨⟨x,t4⟩,e1,e⟩:=oB e
  obtain⟨⟨l,t7⟩,e2,e⟩:=oB e
  obtain⟨⟨u,n9⟩,e3,e⟩:=oB e
  dsimp only at e
  split at e
  ·cases e;exact((h.like _ _ _ e1).trans (hl.like _ _ _ e2)).trans (hh.like _ _ _ e3)
  ·cases e
 intro S M τ σ H Q d t5 r e q
 unfold dSl at e
 obtain⟨⟨x,t4⟩,e1,e⟩:=oB e
 obtain⟨⟨l,t7⟩,e2,e⟩:=oB e
 obtain⟨⟨u,n9⟩,e3,e⟩:=oB e
 dsimp only at e e2 e3
 cases x with
 |list xs =>
  cases e
  refine h.run S M τ σ H _ _ _ r e1 fun v1 H1 r1 c1 i1=>?_
  refine hl.run S M t4 σ H1 _ _ _ r1 e2 fun H2 r2 c2=>?_
  refine hh.run S M t7 σ H2 _ _ _ r2 e3 fun H3 r3 c3=>?_
  have i1':Is K (hid S H3) (.list xs) v1:=((r.isr i1).mono (c2.keep r1.sub).same).mono (c3.keep r2.sub).same
  obtain⟨a,vs,rfl,ha,la⟩:=i1'
  refine⟨a,vs,rfl,SqL.of (hid_iff.mp ha).2,fun p hp=>?_⟩
  have s:=Ax hp (HO.lst (Mj vs l u))
  exact q _ _ (r3.same s) (((c1.trans c2).trans c3).trans (.of s)) ((Ip hp (Su la)).back r3 ((c1.trans c2).trans c3))
 |_=>cases e
end DL
end
section
namespace L2
open PySem PySem.Spec PyProof.Rows
section
variable {X:Cx} {pins:List (Addr×Obj)} {σ:L2.St} {H:Hp} {s:Shared}
def Inv.turned2{t':Nat}{i1 i2:Addr}{h':Heap}(I:Inv X pins σ H s)(k:∀b o,b≠i1->b≠i2->s.heap.get? b=some o->h'.get? b=some o)(f1:IY X pins H i1)(f2:IY X pins H i2):Inv X pins σ H { s with heap:=h',toks:=t' }:=by
 obtain⟨a0,a1,a2,a3,a4,a5⟩:=f1
 obtain⟨b0,b1,b2,b3,b4,b5⟩:=f2
 have n1:∀b u,H b=some u->b≠i1:=fun b u e z=>by rw[z,a0]at e;cases e
 have n2:∀b u,H b=some u->b≠i2:=fun b u e z=>by rw[z,b0]at e;cases e
 refine I.step (g':=s.gens) (d':=s.drawn) (ch:=[i1,i2]) (fun b hb=>?_) (fun b o _ _ hc e _=>k b o (fun z=>hc (by simp[z])) (fun z=>hc (by simp[z])) e) (fun b o _ _ hc e _=>⟨o.slots,k b o (fun z=>hc (by simp[z])) (fun z=>hc (by simp[z])) e⟩) (fun _ _ _ _ n=>n)
  (fun b o hc e=>⟨o,k b o (fun z=>hc (by simp[z])) (fun z=>hc (by simp[z])) e⟩) (fun _ _ e=>e) (fun _ _ _ e=>e) (fun b ps e=>⟨#[],by rw[e];simp⟩) (fun m hm=>?_) (fun b u e=>?_) I.bare
 ·have e:b=i1\/b=i2:=by simpa using hb
  rcases e with e|e
  ·subst e;exact⟨a3,a1,a4,a5⟩
  ·subst e;exact⟨b3,b1,b4,b5⟩
 ·obtain⟨o,es,ep,ho,r⟩:=hm
  exact⟨o,es,ep,k _ o (Ne.symm a1) (Ne.symm b1) ho,r⟩
 ·refine(I.hok b u e).stay (fun c v hc q=>k c v ?_ ?_ q) (fun _ q=>q) fun _ _ q=>q
  ·rcases hc with z|z
   ·rw[z];exact n1 b u e
   ·exact n1 c _ z
  ·rcases hc with z|z
   ·rw[z];exact n2 b u e
   ·exact n2 c _ z
end
def Ite(K:PySem.W.Frag)(a:Addr):It :=
 ⟨fun i H=>∃xs x,SqL K H a xs/\xs[i]?=some x,fun i H x H'=>∃(p:Addr) (v:V),H p=none/\x = .ref p/\(∀xs,SqL K H a xs->xs[i]?=some v)/\H'=upd H p (.tup [.int i,v]),fun i H=>∃xs,SqL K H a xs/\xs.length<=i⟩
def TX{P:Program}{w:World}{K:PySem.W.Frag}{elts:List Expr}{c1}{pos:Pos}(a e it:Addr)(hei:e≠it):Turn P w K (.Tuple elts c1 pos) (Ite K a) [e,it] e (fun i h=>(∃old,IsEnum h e it i old)/\h.IsListIter it a i) where
 mem:=by simp
 obj:=fun i h st b hb=>by
  have q:b=e\/b=it:=by simpa using hb
  obtain⟨⟨old,he⟩,o,ho,c,d⟩:=st
  rcases q with rfl|rfl
  ·exact⟨_,he,fun v z=>by cases z⟩
  ·exact⟨o,ho,fun v z=>by rw[d]at z;cases z⟩
 keep:=fun i h h' st k=>⟨let ⟨old,he⟩:=st.1;⟨old,k e (by simp) _ he⟩,st.2.at fun o q=>k it (by simp) o q⟩
 item:=by
  intro X hP hw hK hc i pins s σ H E I hf st hg
  subst hP hw hK
  obtain⟨xs,x,hq,hx⟩:=hg
  obtain⟨its,rv,p,hz⟩:=I.list hq
  obtain⟨u,hu,ru⟩:=rv.get hx
  obtain⟨⟨old,he⟩,hit⟩:=st
  refine wpAny_pyNext_enum_item he hit p.isList (x:=u) (by simpa using hu) hei fun h1 ho hit1 ht hs1 k1=>?_
  refine⟨_,rfl,wpAny_letOwnedTupleGo_enum (s:={ s with heap:=h1,toks:=s.toks+1 }) ho fun h2 he2 sb=>?_⟩
  have fr:H s.heap.objs.size=none:=I.hok.fresh (X' _)
  have hlt1:e<s.heap.objs.size:=i' he
  have hlt2:it<s.heap.objs.size:=by obtain⟨o,q,_⟩:=hit;exact i' q
  have I1:=I.laid (t':=s.toks+1) (a:=s.heap.objs.size) (o:=.tup [.int i,x]) (h':=s.heap.push { cls:=.type "tuple",data:=.seq #[.int i s.toks,u] }) (fun b o q=>U' _ q) (X' _)
   ⟨by show 2<=sizeLine;decide,[.int i s.toks,u],.cons ⟨_,rfl⟩ (.cons ru .nil),_,kb _ rfl,rfl,_,rfl⟩
  have fp:∀b∈[e,it],IY X pins (upd H s.heap.objs.size (.tup [.int i,x])) b:=fun b hb=>by
   obtain⟨q0,q⟩:=hf b hb
   refine⟨?_,q⟩
   rw[Aq (fun z=>?_)]
   ·exact q0
   ·have q:b=e\/b=it:=by simpa using hb
    rcases q with rfl|rfl
    ·exact absurd hlt1 (by rw[z];exact lM _)
    ·exact absurd hlt2 (by rw[z];exact lM _)
  have I2 := I1.turned2 (t' := s.toks + 1) (h' := h2) (i1 := e) (i2 := it) (fun b o ne ni q => by
   have e2:h2.get? b=h1.get? b:=sb.2 b ne
   rw[e2]
   by_cases hb:b=s.heap.objs.size
   ·subst hb
    have q':some ({ cls:=.type "tuple",data:=.seq #[.int i s.toks,u] }:Obj)=some o:=(kb s.heap (o:={ cls:=.type "tuple",data:=.seq #[.int i s.toks,u] }) rfl).symm.trans q
    rw[ht];exact q'
   ·have q':(s.heap.push { cls:=.type "tuple",data:=.seq #[.int i s.toks,u] }).get? b=some o:=q
    rw[Heap.get?_push_ne _ _ _ hb]at q'
    exact k1 b o ne ni q') (fp e (by simp)) (fp it (by simp))
  refine⟨.ref s.heap.objs.size,_,I2,rfl,⟨s.heap.objs.size,x,fr,rfl,fun ys hy=>by rw[I.list_inj hy hq];exact hx,rfl⟩,⟨⟨u,?_⟩,?_⟩,fun b hb=>(fp b hb).1⟩
  ·have:((i+1:Nat):Int)=(i:Int)+1:=by omega
   rw[this];exact he2
  ·exact hit1.at fun o q=>by
    have e2:h2.get? it=h1.get? it:=sb.2 it (Ne.symm hei)
    rw[e2];exact q
 done:=by
  intro X hP hw hK hc i pins s σ H E I hf st hg
  subst hP hw hK
  obtain⟨xs,hq,hx⟩:=hg
  obtain⟨its,rv,p,hz⟩:=I.list hq
  obtain⟨⟨old,he⟩,hit⟩:=st
  obtain⟨f0,f1,f2,f3,f4,f5⟩:=hf it (by simp)
  have hl:=rv.length
  exact wpAny_pyNext_enum_end (I.ok.hd hc) he hit p.isList (by simp;omega) fun h' eb=>⟨rfl,I.turned (t':=s.toks) (fun b o hb e=>eb b o hb e) f0 f1 f3 f4 f5⟩
 self:=fun _ _ _ _ _ st h=>let ⟨old,he⟩:=st.1;wpAny_pyIter_enum he h
section
variable {X:Cx} {elts:List Expr} {tp:Pos}
def Sw(K:PySem.W.Frag)(ta:TA):TI:=fun σ H R=>ta σ H fun vs H1=>∃a,vs=[.ref a]/\(∃xs,SqL K H1 a xs)/\R (Ite K a) H1
def Xc{a:Expr}{ta:TA}{p pos:Pos}{c1}(hg:Gl X "enumerate")(hm:X.mg "enumerate"=none)(ha:PA X [a] ta)(hn:("enumerate":Str)≠"__name__")(hdb:(("enumerate":Str)==("__debug__":Str))=false)(hs:starEach [a] X.env=[(false,eval a X.env)]:=by rfl) :
  PI X (.Tuple elts c1 tp) (.Call (.Name "enumerate" p) [a] [] pos) (Sw X.K ta):=by
 intro pins s σ H R I h
 refine Call_ (Lo I hg hm boot_enumerate (mI (thn (ha pos pins s σ H _ I h) fun us s1 ⟨vs,H1,I1,r1,q1⟩=>?_) hs rfl) hn hdb)
 obtain⟨l,e,⟨xs,hq⟩,q⟩:=q1
 subst e
 obtain⟨u,rfl,ru⟩:=Hw r1
 cases ru
 obtain⟨its,rv,pl,hz⟩:=I1.list hq
 refine call_enumerate_list pl.isList fun h' he hit hsz hk=>?_
 refine wpAny_pyIter_enum (s:={ s1 with heap:=h' }) he ?_
 have I2:Inv X pins σ H1 { s1 with heap:=h' }:=I1.kept (t':=s1.toks) hk
 refine⟨s1.heap.objs.size+1,[s1.heap.objs.size+1,s1.heap.objs.size],_,_,H1,rfl,I2,TX l (s1.heap.objs.size+1) s1.heap.objs.size (Nat.succ_ne_self _),⟨⟨_,he⟩,hit⟩,fun b hb=>?_,q⟩
 have e:b=s1.heap.objs.size+1\/b=s1.heap.objs.size:=by simpa using hb
 rcases e with rfl|rfl
 ·exact I1.fpOk (Nat.le_succ _) (I1.hok.fresh (Nat.le_succ _))
 ·exact I1.fpOk (X' _) (I1.hok.fresh (X' _))
end
end L2
end
section
namespace DL
open PySem L2
variable {K:KW}
def ja(K:KW)(S:Addr->Prop)(J:It)(H:Hp)(ds:List PyData):Prop:=∀(S2:Addr->Prop) (H2:Hp),Keep S H S2 H2->(∀a,H2 a=none->¬S2 a)->(∀(i:Nat) (d:PyData),ds[i]?=some d->J.go i H2/\∀x H3,J.yld i H2 x H3->Same H2 H3/\Is K (hid S2 H3) d x)/\∀i,ds.length<=i->J.stop i H2
structure IT2(K:KW)(wi:TI)(f:DI):Prop where
 like:∀τ ds t5,f τ=some (ds,t5)->Like τ t5
 run:∀S M τ σ H (Q:It->Hp->Prop) ds t5,R K S M τ σ H->f τ=some (ds,t5)->(∀J H',R K S M t5 σ H'->Chg M H H'->ja K S J H' ds->Q J H')->wi σ H Q
def HF(k:Nat):List PyData->List PyData
 |[]=>[]
 |d::r=>.tuple [.int k,d]::HF (k+1) r
def NC:∀(k:Nat) (ds:List PyData),(HF k ds).length=ds.length
 |_,[]=>rfl
 |k,_::r=>by rw[HF,kX,kX,NC]
def ND:∀{k:Nat} {ds:List PyData} {i:Nat} {x:PyData},(HF k ds)[i]?=some x->∃d,ds[i]?=some d/\x = .tuple [.int ((k+i:Nat):Int),d]
 |_,[],i,_,e=>by simp[HF]at e
 |k,d::r,0,x,e=>by simp[HF]at e;exact⟨d,rfl,e.symm⟩
 |k,d::r,i+1,x,e=>by
  rw[HF,mQ]at e
  obtain⟨d',h1,h2⟩:=ND e
  exact⟨d',by rw[mQ];exact h1,by rw[h2,show k+1+i=k+(i+1) by omega]⟩
def dIE(f:DX)(τ:DS):Option (List PyData×DS):=(f τ).bind fun p=>match p.1 with
 |.list ds=>some (HF 0 ds,p.2)
 |_=>none
def X6{fr:Bool}{t:TE}{f:DX}(h:E K t fr f):IT2 K (Sw K (Bs t Em)) (dIE f):=by
 refine⟨fun τ d t5 e=>?_,?_⟩
 ·unfold dIE at e
  obtain⟨⟨x,t4⟩,e1,e⟩:=oB e
  dsimp only at e
  split at e
  ·cases e;exact h.like _ _ _ e1
  ·cases e
 intro S M τ σ H Q ds t5 r e q
 unfold dIE at e
 obtain⟨⟨x,t4⟩,e1,e⟩:=oB e
 cases x with
 |list ds =>
  cases e
  refine h.weak.run S M τ σ H _ _ _ r e1 fun v H1 r1 c1 i1=>?_
  have i1':Is K (hid S H1) (.list ds) v:=i1
  obtain⟨a,vs,rfl,hl,ll⟩:=i1'
  refine⟨a,rfl,⟨vs,SqL.of (hid_iff.mp hl).2⟩,q _ H1 r1 c1 fun S2 H2 k nS=>?_⟩
  have hl2:=k.same _ _ hl
  have ll2:=ll.mono k.same
  refine⟨fun i d e=>?_,fun i hi=>⟨vs,SqL.of (hid_iff.mp hl2).2,by rw[ll.length];rw[NC]at hi;exact hi⟩⟩
  obtain⟨d',e',rfl⟩:=ND e
  obtain⟨u,h1,h2⟩:=ll2.get e'
  refine⟨⟨vs,u,SqL.of (hid_iff.mp hl2).2,h1⟩,?_⟩
  rintro x H3 ⟨p,v,hp,rfl,y,rfl⟩
  have:=y vs (SqL.of (hid_iff.mp hl2).2)
  rw[h1]at this;cases this
  have s:=Ax hp (HO.tup [.int i,u])
  refine⟨s,⟨p,[.int i,u],rfl,.inl (.inl (hid_iff.mpr ⟨nS p hp,Ah⟩)),?_⟩⟩
  rw[Nat.zero_add]
  exact⟨_,_,rfl,rfl,_,_,rfl,h2.mono (Same.keep s).same,rfl⟩
 |_=>cases e
def eU{np:Nat}{fr:Bool}{wi:TI}{tg:TG}{tb:TS}{it:DI}{g:DG}{b:DB}(hi:IT2 K wi it)(hg:TG1 K tg g)(hb:B K np tb fr b):B K np (XA wi tg tb) fr (Ca it g b):=by
 intro F S M τ σ H D out hnp f ee q
 unfold Ca at ee
 obtain⟨⟨ds,t4⟩,e1,ee⟩:=oB ee
 refine hi.run S M τ σ H _ ds t4 f.r e1 fun J H1 r1 c1 iJ=>?_
 have f1:=f.step r1 c1 (hi.like _ _ _ e1)
 have q1:=q.trans (c1.keep f.r.sub)
 refine⟨fun i m σ' H'=>m=ds.length-i/\i<=ds.length/\∃S' M' t5,RF K F S' M' t5 σ' H'/\Keep S H1 S' H'/\BC g b (ds.drop i) t5=some out,⟨ds.length,by simp,lW _,S,M,t4,f1,.refl,by simpa using ee⟩,?_⟩
 rintro i m σ' H' ⟨rfl,hil,S',M',t5,f',k',hl⟩
 obtain⟨I1,I2⟩:=iJ _ _ k' (fun _=>f'.r.fresh)
 by_cases hlt:i<ds.length
 ·right
  have ed:ds[i]?=some ds[i]:=km hlt
  obtain⟨go,yl⟩:=I1 i _ ed
  refine⟨go,fun σ2 H2=>∃S2 M2 t7,RF K F S2 M2 t7 σ2 H2/\Keep S H1 S2 H2/\BC g b (ds.drop (i+1)) t7=some out,fun σ2 H2 h=>⟨ds.length-(i+1),by omega,rfl,hlt,h⟩,fun x H2 y=>?_⟩
  obtain⟨sm,ix⟩:=yl x H2 y
  have f':=f'.step (f'.r.same sm) (.of sm) .refl
  have k':=k'.trans (Same.keep sm)
  rw[lZ hlt,BC]at hl
  obtain⟨t7,e2,hl⟩:=oB hl
  obtain⟨o,e3,hl⟩:=oB hl
  refine hg.run S' M' t5 σ' H2 x _ t7 _ f'.r ix e2 fun σ3 r3 k3=>?_
  have f3:=f'.stay r3 (hg.ms _ _ _ e2) k3
  refine hb F S' M' t7 σ3 H2 _ o hnp f3 e3 ?_
  cases o with
  |nx p6=>exact fun S4 M4 σ4 H4 f4 k4=>⟨S4,M4,p6,f4,k'.trans k4,hl⟩
  |ct p6=>exact fun S4 M4 σ4 H4 f4 k4=>⟨S4,M4,p6,f4,k'.trans k4,hl⟩
  |bk p6=>cases hl;exact fun S4 M4 σ4 H4 f4 k4=>q1 S4 M4 σ4 H4 f4 (k'.trans k4)
  |rt d p6=>cases hl;exact fun S4 M4 σ4 H4 v f4 k4=>q1 S4 M4 σ4 H4 v f4 k4
 ·left
  have e:i=ds.length:=by omega
  subst e
  rw[mL,BC]at hl
  cases hl
  exact⟨I2 _ (X' _),q1 S' M' σ' H' f' k'⟩
end DL
end
section
namespace DL
open PySem L2 PyProof.Rows
variable {K:KW}
end DL
end
section
namespace DL
open PySem L2
variable {K:KW}
end DL
end
section
namespace Stb
open PySem
end Stb
end
section
namespace Stb
open PySem SetTable
end Stb
end
section
namespace Stb
open PySem PyProof.Rows SetTable
section
variable {prog:Program} {w:World} {A:Around} {E:Value->Shared->Prop} {s:Shared}
end
section
variable {prog:Program} {w:World} {A:Around} {E:Value->Shared->Prop} {s:Shared}
end
section
variable {prog:Program} {w:World} {A:Around} {E:Value->Shared->Prop} {s:Shared}
end
section
variable {prog:Program} {w:World} {A:Around} {R:Result->Shared->Prop} {I:Addr} {fp wr:List Addr} {G:Array GenState->Array GenState->Prop} {n:Nat} {P:Nat->Value->Prop} {St:Nat->Shared->Prop}
end
section
variable {prog:Program} {w:World} {A:Around} {E:Value->Shared->Prop} {s:Shared}
end
section
variable {prog:Program} {w:World} {A:Around} {E:Value->Shared->Prop} {s:Shared}
end
section
variable {prog:Program} {w:World} {A:Around} {E:Value->Shared->Prop} {s:Shared}
end
section
variable {prog:Program} {w:World} {A:Around} {E:Value->Shared->Prop} {s:Shared}
end
section
variable {prog:Program} {w:World} {A:Around} {E:Value->Shared->Prop} {s:Shared}
end
end Stb
end
section
namespace DL
open PySem L2 PyProof.Rows
variable {K:PySem.W.Frag}
variable {K:KW}
end DL
end
section
namespace DL
open PySem L2
def Zf(i:Nat)(τ:DS):Nat:=match τ[i]? with
 |some (some (.d (.int s)))=>s.toNat+1
 |_=>0
end DL
end
section
namespace Dwk
open PySem
variable {prog:Program} {w:World} {A:Around} {E:Value->Shared->Prop} {s:Shared}
end Dwk
end
section
namespace DL
open PySem L2 PyProof.Rows
variable {K:PySem.W.Frag}
section
variable {X:Cx} {pins:List (Addr×Obj)} {σ:L2.St} {H:Hp} {s:Shared}
end
variable {K:KW}
def Cd:PyData->PyData->Option PyData
 |.tuple (x::xs),.tuple (y::ys)=>if xs.length+ys.length+2<=sizeLine then some (.tuple (x::xs++y::ys)) else none
 |_,_=>none
def ax:OR K false (SW K) Cd:=by
 intro S H x y dx dy d Q hS ix iy e q
 unfold Cd at e
 split at e
 ·rename_i x1 xs y1 ys
  split at e
  ·rename_i hz
   cases e
   obtain⟨a,vs,rfl,ha,la⟩:=ix
   obtain⟨b,us,rfl,hb,lb⟩:=iy
   have l1:=la.length
   have l2:=lb.length
   rw[kX]at l1 l2
   refine⟨a,b,vs,us,rfl,rfl,Same.tup same_hid ha,Same.tup same_hid hb,fun z=>(by subst z;cases l1),by omega,fun z=>(by subst z;cases l2),fun _ p hp=>?_⟩
   have s:=Ax hp (HO.tup (vs++us))
   refine q _ _ s ⟨p,vs++us,rfl,.inl (.inl (hid_iff.mpr ⟨hS p hp,Ah⟩)),?_⟩
   exact(E1 la lb).mono (Same.keep s).same
  ·cases e
 ·cases e
end DL
end
section
namespace DL
open PySem L2
variable {K:KW}
end DL
end
section
namespace L2
open PySem
end L2
namespace DL
open PySem L2
variable {K:KW}
end DL
end
section
namespace EnG
open PySem PyProof.Rows
section
variable {prog:Program} {w:World} {A:Around} {E:Value->Shared->Prop} {s:Shared}
end
end EnG
namespace EnG
open PySem PyProof.Rows
open Sem (wp)
open AutoSeq1 (wpAny_loadPart')
section
variable {prog:Program} {w:World} {A:Around} {E:Value->Shared->Prop} {s:Shared}
end
end EnG
namespace L2
open PySem PySem.Spec PyProof.Rows EnG
section
variable {X:Cx} {elts:List Expr} {tp:Pos}
end
end L2
end
section
namespace DL
open PySem L2 PyProof.Rows
variable {K:KW}
def JM:PyData->PyData->Option PyData
 |.str x,.str y=>if x.length+y.length<=sizeLine then some (.str (x++y)) else none
 |_,_=>none
def ay:OR K false (fun x y H Q=>∃i j,x = .str i/\y = .str j/\i.length+j.length<=sizeLine/\Q (.str (i++j)) H) JM:=by
 intro S H x y dx dy d Q _ ix iy e q
 unfold JM at e
 split at e
 ·split at e
  ·rename_i hz
   cases e
   cases (show x = .str _ from ix)
   cases (show y = .str _ from iy)
   exact⟨_,_,rfl,rfl,hz,q _ H (fun _ _ e=>e) rfl⟩
  ·cases e
 ·cases e
def OI:PyData->PyData->Option PyData
 |.str z,.int i=>if z.length<=sizeLine then (atI z.cps.toList i).map fun c=>.str ⟨#[c]⟩ else none
 |_,_=>none
def gE:OR K false fY OI:=by
 intro S H x y dx dy d Q _ ix iy e q
 unfold OI at e
 split at e
 ·split at e
  ·rename_i hz
   obtain⟨c,e1,rfl⟩:=oM e
   cases (show x = .str _ from ix)
   cases (show y = .int _ from iy)
   exact⟨_,_,c,rfl,rfl,hz,e1,q _ H (fun _ _ e=>e) rfl⟩
  ·cases e
 ·cases e
def Lv:List PyData->Option PyData
 |[.list xs]=>some (.tuple xs)
 |[.tuple xs]=>some (.tuple xs)
 |_=>none
def Y3:BR K false (fun xs H Q=>∃p ys,xs=[.ref p]/\((SqL K H p ys/\∀l,H l=none->Q (.ref l) (upd H l (.tup ys)))\/(SqT K H p ys/\Q (.ref p) H))) Lv:=by
 intro S H vs ds d Q hS l e q
 unfold Lv at e
 split at e
 ·cases e
  obtain⟨v,us,rfl,⟨a,ws,rfl,h,lw⟩,iu⟩:=l
  cases (show us=[] from iu)
  refine⟨a,ws,rfl,.inl ⟨SqL.of (hid_iff.mp h).2,fun p hp=>?_⟩⟩
  have s:=Ax hp (HO.tup ws)
  exact q _ _ s ⟨p,ws,rfl,.inl (.inl (hid_iff.mpr ⟨hS p hp,Ah⟩)),lw.mono (Same.keep s).same⟩
 ·cases e
  obtain⟨v,us,rfl,⟨a,ws,rfl,h,lw⟩,iu⟩:=l
  cases (show us=[] from iu)
  exact⟨a,ws,rfl,.inr ⟨Same.tup same_hid h,q _ H (fun _ _ e=>e) ⟨a,ws,rfl,h,lw⟩⟩⟩
 ·cases e
end DL
end
section
namespace L2
open PySem PySem.Spec PyProof.Rows
section
variable {X:Cx} {pos:Pos}
end
end L2
namespace DL
open PySem L2
variable {K:KW}
variable {K:KW}
end DL
end
section
namespace L2
open PySem PySem.Spec PyProof.Rows
section
variable {X:Cx}
end
end L2
namespace DL
open PySem L2 PyProof.Rows
variable {K:KW}
end DL
end
section
namespace L2
open PySem PySem.Spec PyProof.Rows
structure Pt(N:Addr->Prop)(fs:List Addr)(h h':Heap):Prop where
 same:∀b o,h.get? b=some o->¬N b->b∉fs->h'.get? b=some o
 slot:∀b o,h.get? b=some o->¬N b->∃sl,h'.get? b=some { o with slots:=sl }
 size:h.objs.size<=h'.objs.size
def Pt.trans{N:Addr->Prop}{fs:List Addr}{h h1 h2:Heap}(a:Pt N fs h h1)(b:Pt N fs h1 h2):Pt N fs h h2 :=
 ⟨fun c o e n f=>b.same c o (a.same c o e n f) n f,fun c o e n=>let ⟨_,e1⟩:=a.slot c o e n;let ⟨sl,e2⟩:=b.slot c _ e1 n;⟨sl,e2⟩,lA a.size b.size⟩
def S0{N:Addr->Prop}{fs:List Addr}{h h' base:Heap}(p:Pt N fs h h'):∀{l:List Env},(∀b∈frs l,¬N b)->h.FunFrames base l->h'.FunFrames base l
 |[],_,_=>trivial
 |env::r,hn,⟨hk,⟨L,o,hf,hb,ho,hd⟩,hr⟩=>by
  have hL:L∈frs (env::r):=by unfold frs;rw[lV,hf];exact L'
  obtain⟨sl,e⟩:=p.slot L o ho (hn L hL)
  exact⟨hk,⟨L,_,hf,hb,e,hd⟩,S0 p (fun b hb=>hn b (by unfold frs;rw[lV,hf];exact V' _ hb)) hr⟩
def NoCtx(o:Obj):Prop:=∃vs,o.data = .fields vs/\vs[2]?=some Value.none
def NoCtx.set{o:Obj}{v:Value}(h:NoCtx o):NoCtx (o.mapFields (·.setIfInBounds 1 v)):=by
 obtain⟨vs,d,e⟩:=h
 exact⟨_,mP d _,by rw[Array.getElem?_setIfInBounds_ne (by decide)];exact e⟩
def XAt(N:Addr->Prop)(h:Heap)(e:Addr)(C:Addr)(fl:Value):Prop :=
 ∃oe vs T oT ts,h.get? e=some oe/\(oe.cls = .ref C/\oe.dict=none/\NoCtx oe)/\oe.data = .fields vs/\vs[1]?=some (.ref T)/\N T/\T≠e/\h.get? T=some oT/\oT.data = .fields ts/\ts[3]?=some fl
def Vu(o:Obj)(f:Array Value->Array Value):(o.mapFields f).cls=o.cls/\(o.mapFields f).dict=o.dict:=by
 obtain⟨c,d,dt,sl⟩:=o
 cases dt<;>exact⟨rfl,rfl⟩
section
variable {M:Model} {A:Around} {E:Value->Shared->Prop} {s:Shared} {N:Addr->Prop} {base:Heap} {env:Env} {outer:List Env} {L e C:Addr} {Q:Unit->Shared->Prop}
def Od{oe:Obj}{vs:Array Value}{head:Value}{hadNext:Bool}(hfr:A.frames=some (env::outer))(hl:s.heap.FunFrames base (env::outer))(hf:env.frame=some L)
  (hNf:∀b∈frs (env::outer),¬N b) (hNn:∀b,s.heap.objs.size<=b->N b) (hNe:N e) (he:s.heap.get? e=some oe) (hc:oe.cls = .ref C/\oe.dict=none/\NoCtx oe) (hd:oe.data = .fields vs) (hsz:1<vs.size)
  (h:∀h',Pt N (frs (env::outer)) s.heap h'->XAt N h' e C (rawInt L)->Q () { s with heap:=h' }) :
  wpAny M A (do let a <- frameOf env;let pl <- entryPlaceOf L hadNext;let b <- EntryCells.newEntry head a .none (rawInt L) .none pl;setField (.ref e) 1 b) Q E s:=by
 have hef:e∉frs (env::outer):=fun z=>hNf e z hNe
 refine wpAny_bind (wpAny_frameOf_fun hfr hl hf fun h1 hs1=>?_)
 refine wpAny_bind (wpAny_entryPlaceOf fun pl hpl=>?_)
 unfold EntryCells.newEntry newFields
 refine wpAny_bind (wpAny_newObj_type ?_ (hpl.sizeOk5 _ _ _ _ _))
 have he1:h1.get? e=some oe:=(hs1.2.1 e hef).trans he
 have hz1:h1.objs.size=s.heap.objs.size:=hs1.1
 generalize hot:({ cls:=.type "traceback",dict:=none,data:=.fields ([head,.ref L,.none,rawInt L,.none]++(if pl.isEmpty then List.replicate 6 Value.none else pl)).toArray }:Obj)=ot
 have hotd:ot.data = .fields ([head,.ref L,.none,rawInt L,.none]++(if pl.isEmpty then List.replicate 6 Value.none else pl)).toArray:=by rw[<- hot]
 have he2:=U' (h:=h1) ot he1
 refine wpAny_setField he2 hd hsz (h _ ?_ ?_)
 ·have hTe:h1.objs.size≠e:=mK (i' he1)
  refine⟨fun b o eb nb fb=>?_,fun b o eb nb=>?_,?_⟩
  ·have hb:b≠e:=fun z=>nb (z▸hNe)
   rw[lI _ _ (Ne.symm hb)]
   exact U' _ ((hs1.2.1 b fb).trans eb)
  ·have hb:b≠e:=fun z=>nb (z▸hNe)
   obtain⟨sl,q⟩:=hs1.2.2 b o eb
   exact⟨sl,by rw[lI _ _ (Ne.symm hb)];exact U' _ q⟩
  ·rw[mV,Heap.size_push,hz1];exact Nat.le_succ _
 ·have hTe:h1.objs.size≠e:=mK (i' he1)
  have hd3:=mP hd (·.setIfInBounds 1 (Value.ref h1.objs.size))
  have he3:=mX (Obj.mapFields (·.setIfInBounds 1 (Value.ref h1.objs.size))) he2 (mY hd3)
  have hT3:=(lI (h1.push ot) (Obj.mapFields (·.setIfInBounds 1 (Value.ref h1.objs.size))) (Ne.symm hTe)).trans (kb h1 (mY hotd))
  refine⟨_,_,h1.objs.size,_,_,he3,⟨(Vu _ _).1.trans hc.1,(Vu _ _).2.trans hc.2.1,hc.2.2.set⟩,hd3,by simp[hsz],hNn _ (by rw[hz1];exact X' _),hTe,hT3,hotd,?_⟩
  first|(simp;done)|(rcases hpl with rfl|⟨_,_,_,_,_,_,_,rfl⟩<;>simp)
def Ua{oe:Obj}{vs:Array Value}(hfr:A.frames=some (env::outer))(hl:s.heap.FunFrames base (env::outer))(hf:env.frame=some L)
  (hNf:∀b∈frs (env::outer),¬N b) (hNn:∀b,s.heap.objs.size<=b->N b) (hNe:N e) (he:s.heap.get? e=some oe) (hc:oe.cls = .ref C/\oe.dict=none/\NoCtx oe) (hd:oe.data = .fields vs) (h1:vs[1]?=some .none)
  (h:∀h',Pt N (frs (env::outer)) s.heap h'->XAt N h' e C (rawInt L)->Q () { s with heap:=h' }):wpAny M A (noteFrame (.ref e) env) Q E s:=by
 unfold noteFrame
 simp only[hf]
 refine wpAny_bind (wpAny_field he hd h1 ?_)
 rw[if_neg (by decide)]
 exact Od hfr hl hf hNf hNn hNe he hc hd (lP.mp h1).1 h
def Wz(hfr:A.frames=some (env::outer))(hl:s.heap.FunFrames base (env::outer))(hf:env.frame=some L)
  (hNf:∀b∈frs (env::outer),¬N b) (hNn:∀b,s.heap.objs.size<=b->N b) (hNe:N e) (x:XAt N s.heap e C .none)
  (h:∀h',Pt N (frs (env::outer)) s.heap h'->XAt N h' e C (rawInt L)->Q () { s with heap:=h' }):wpAny M A (noteFrame (.ref e) env) Q E s:=by
 obtain⟨oe,vs,T,oT,ts,he,hc,hd,h1,hNT,hTe,hT,hdT,h3⟩:=x
 unfold noteFrame
 simp only[hf]
 refine wpAny_bind (wpAny_field he hd h1 ?_)
 rw[if_pos (show(Value.ref T != Value.none)=true from by simp)]
 refine wpAny_bind (wpAny_field hT hdT h3 ?_)
 rw[if_neg (show ¬((Value.none==rawInt L)=true) from by simp[rawInt])]
 refine wpAny_bind (wpAny_setField hT hdT (lP.mp h3).1 ?_)
 have other:∀b,b≠T->(s.heap.update T (Obj.mapFields (·.setIfInBounds 3 Value.none))).get? b=s.heap.get? b:=fun b hb=>lI _ _ (Ne.symm hb)
 have hsz:(s.heap.update T (Obj.mapFields (·.setIfInBounds 3 Value.none))).objs.size=s.heap.objs.size:=mV ..
 have p1:Pt N (frs (env::outer)) s.heap (s.heap.update T (Obj.mapFields (·.setIfInBounds 3 Value.none))) :=
  ⟨fun b o eb nb _=>(other b fun z=>nb (z▸hNT)).trans eb,fun b o eb nb=>⟨o.slots,(other b fun z=>nb (z▸hNT)).trans eb⟩,mx hsz.symm⟩
 refine Od (s:={ s with heap:=s.heap.update T (Obj.mapFields (·.setIfInBounds 3 Value.none)) }) (base:=base) hfr (S0 p1 hNf hl) hf hNf (fun b hb=>hNn b (by rw[<- hsz];exact hb)) hNe ((other e (Ne.symm hTe)).trans he) hc hd (lP.mp h1).1 fun h' p2 x2=>?_
 exact h h' (p1.trans p2) x2
def NO{fl:Value}{fs:List Addr}(x:XAt N s.heap e C fl)(hNe:N e)(h:∀h',Pt N fs s.heap h'->XAt N h' e C .none->Q () { s with heap:=h' }):wpAny M A (setFlight (.ref e) none) Q E s:=by
 obtain⟨oe,vs,T,oT,ts,he,hc,hd,h1,hNT,hTe,hT,hdT,h3⟩:=x
 have hsz3:3<ts.size:=(lP.mp h3).1
 have other:∀b,b≠T->(s.heap.update T (Obj.mapFields (·.setIfInBounds 3 ((none:Option Addr).elim Value.none fun f=>rawInt f)))).get? b=s.heap.get? b :=
  fun b hb=>lI _ _ (Ne.symm hb)
 unfold setFlight
 refine wpAny_bind (wpAny_field he hd h1 ?_)
 rw[if_pos (show(Value.ref T != Value.none)=true from by simp)]
 refine wpAny_setField hT hdT hsz3 (h _ ⟨fun b o eb nb _=>(other b fun z=>nb (z▸hNT)).trans eb,fun b o eb nb=>⟨o.slots,(other b fun z=>nb (z▸hNT)).trans eb⟩,mx (mV ..).symm⟩ ?_)
 exact⟨oe,vs,T,_,_,(other e (Ne.symm hTe)).trans he,hc,hd,h1,hNT,hTe,mX _ hT (mY (mP hdT _)),mP hdT _,by simp[hsz3]⟩
end
def ObjOk.some{P:Program}{w:World}{H:Hp}{h:Heap}{a:Addr}{o:HO}(x:ObjOk P w H h a o):∃u,h.get? a=Option.some u:=by
 cases o with
 |lst xs=>obtain⟨_,_,_,_,e⟩:=x;exact⟨_,e⟩
 |tup xs=>obtain⟨_,_,_,o,e,_⟩:=x;exact⟨_,e⟩
 |dK kvs=>obtain⟨_,_,_,_,o,_,_,e,_⟩:=x;exact⟨_,e⟩
 |dT kvs=>obtain⟨_,_,_,_,o,_,_,e,_⟩:=x;exact⟨_,e⟩
 |set S n=>obtain⟨o,_,_,_,e,_⟩:=x;exact⟨_,e⟩
 |ins C dx fs=>obtain⟨_,_,_,e,_⟩:=x;exact⟨_,e⟩
 |own y=>obtain⟨_,e⟩:=x;exact⟨_,e⟩
 |xd fs=>obtain⟨_,⟨_,_,_,e,_⟩,_⟩:=x;exact⟨_,e⟩
 |rng lo hi=>obtain⟨_,_,_,e⟩:=x;exact⟨_,e⟩
 |frz ob u=>obtain⟨e,_⟩:=x;exact⟨_,e⟩
 |tbl ps=>exact⟨_,(show h.get? a=Option.some _ from x)⟩
 |met f y=>exact⟨_,(show h.get? a=Option.some _ from x)⟩
 |ext φ=>obtain⟨_,⟨_,e⟩,_⟩:=x;exact⟨_,e⟩
def Nw(h:Heap)(H:Hp):Addr->Prop:=fun b=>h.get? b=none/\H b=none
def XAt.mono{N N':Addr->Prop}{h:Heap}{e C:Addr}{fl:Value}(x:XAt N h e C fl)(k:∀b,N b->N' b):XAt N' h e C fl:=by
 obtain⟨oe,vs,T,oT,ts,he,hc,hd,h1,hNT,r⟩:=x
 exact⟨oe,vs,T,oT,ts,he,hc,hd,h1,k T hNT,r⟩
def Nw.fresh{P:Program}{w:World}{h h':Heap}{H:Hp}(hok:HOk P w H h')(k:∀b o,h.get? b=some o->∃o',h'.get? b=some o'){b:Addr}(hb:h'.objs.size<=b):Nw h H b:=by
 refine⟨?_,hok.fresh hb⟩
 cases q:h.get? b with
 |none=>rfl
 |some o =>
  obtain⟨o',e⟩:=k b o q
  exact absurd (kZ (i' e) hb) (lM _)
def CXr(P:Program)(w:World):CXT:=fun outer H s E e s'=>∃(ea C:Addr) (H':Hp),e = .ref ea/\s'.os=s.os/\AllBare s'.gens/\Un (frs outer) [] H H' s.heap s'.heap/\HOk P w H' s'.heap/\Nw s.heap H' ea/\XAt (Nw s.heap H') s'.heap ea C .none/\E (.ref C) none H'
def MK(X:Cx)(C:Addr)(E:XK):Prop:=∀(pins:List (Addr×Obj)) (σ:St) (H:Hp) (s:Shared) (h':Heap) (e:Addr) (vs:List Value),Inv X pins σ H s->Heap.MadeExcOf s.heap h' e (.ref C) vs->E (.ref C) none H->X.xe (.ref e) { s with heap:=h' }
def ZI{N:Addr->Prop}{fs gs:List Addr}{H H1:Hp}{h h1 h2:Heap}(u:Un fs [] H H1 h h1)(p:Pt N gs h1 h2)(hN:∀b o,h.get? b=some o->¬N b)(hg:∀b o,h.get? b=some o->b∈gs->b∈fs):Un fs [] H H1 h h2 where
 keep:=fun b o q n hb hx=>p.same b o (u.keep b o q n hb hx) (hN b o q) fun z=>hb (hg b o q z)
 slot:=fun b o q n hb hx=>by
  obtain⟨sl,e⟩:=u.slot b o q n hb hx
  obtain⟨sl',e'⟩:=p.slot b _ e (hN b o q)
  exact⟨sl',e'⟩
 free:=u.free
 there:=fun b o q hx=>by
  obtain⟨o',e⟩:=u.there b o q hx
  obtain⟨sl',e'⟩:=p.slot b _ e (hN b o q)
  exact⟨_,e'⟩
 tups:=u.tups
 frzs:=u.frzs
 tbls:=u.tbls
def WA{P:Program}{w:World}{N:Addr->Prop}{gs:List Addr}{H:Hp}{h h':Heap}(hok:HOk P w H h)(p:Pt N gs h h')(hN:∀b,N b->H b=none)(hg:∀b∈gs,H b=none):HOk P w H h':=fun a o e=>by
 have tr:∀b x u,H b=some x->h.get? b=some u->h'.get? b=some u:=fun b x u q e1=>p.same b u e1 (fun z=>by rw[hN b z]at q;cases q) fun z=>by rw[hg b z]at q;cases q
 refine(hok a o e).stay (fun b u hb q=>?_) (fun _ q=>q) fun _ _ q=>q
 rcases hb with rfl|hb
 ·exact tr b o u e q
 ·exact tr b _ u hb q
def KY{P:Program}{w:World}{K:PySem.W.Frag}{mg:Str->Option Value}{base:Heap}{N:List Str}{qual:Str}{scope:Scope}{f:Addr}{cd:Value}{A:Around}{outer:List Env}{s:Shared}{H:Hp}{E:XK}{C:Addr} :
  MK (JP (CXr P w) P w K mg base N qual scope f cd A outer s H E) C E:=by
 intro pins σ H1 s1 h' e vs I hx hE
 have hst:=I.stack
 have hfree:=I.stkFree
 have hfr:=I.ok.frames
 have hun:Un (frs outer) [] H H1 s.heap s1.heap:=I.base
 have hok:HOk P w H1 s1.heap:=I.hok
 have hlt:s.heap.objs.size<=s1.heap.objs.size:=I.sz
 change s1.heap.FunFrames base (envOfC qual scope s.heap.objs.size f cd::outer)at hst
 change ∀b∈frs (envOfC qual scope s.heap.objs.size f cd::outer),H1 b=none at hfree
 change (A.deeper (envOfC qual scope s.heap.objs.size f cd)).frames=some (envOfC qual scope s.heap.objs.size f cd::outer)at hfr
 generalize henv:envOfC qual scope s.heap.objs.size f cd=env at hst hfree hfr
 show wpAny (model P w) (A.deeper (envOfC qual scope s.heap.objs.size f cd)) (leaving (envOfC qual scope s.heap.objs.size f cd) (.ref e)) (fun _ s''=>CXr P w outer H s E (.ref e) s'') (fun e' s''=>CXr P w outer H s E e' s'') { s1 with heap:=h' }
 have hf:env.frame=some s.heap.objs.size:=by rw[<- henv];rfl
 rw[henv]
 obtain⟨t,he,_,_⟩:=hx.there
 have hNf:∀b∈frs (env::outer),¬Nw s1.heap H1 b:=fun b hb z=>by
  obtain⟨_,o,ho,_⟩:=hst.mem hb
  rw[z.1]at ho;cases ho
 have hok':HOk P w H1 h':=hok.kept hx.keeps
 have hNn:∀b,h'.objs.size<=b->Nw s1.heap H1 b:=fun b hb=>Nw.fresh hok' (fun c o q=>⟨o,hx.keeps c o q⟩) hb
 have hNe:Nw s1.heap H1 e:=by
  refine⟨hx.new,?_⟩
  cases q:H1 e with
  |none=>rfl
  |some u =>
   obtain⟨v,r⟩:=ObjOk.some (hok e u q)
   rw[hx.new]at r;cases r
 have hun':Un (frs outer) [] H H1 s.heap h':=hun.trans (Un.kept hx.keeps)
 have hold:∀b o,s.heap.get? b=some o->¬Nw s1.heap H1 b:=fun b o q z=>by
  obtain⟨o',r⟩:=hun.there b o q (by simp)
  rw[z.1]at r;cases r
 have hmono : ∀ b, Nw s1.heap H1 b -> Nw s.heap H1 b := fun b z => ⟨by
  cases q:s.heap.get? b with
  |none=>rfl
  |some o=>exact absurd z (hold b o q),z.2⟩
 have hl':h'.FunFrames base (env::outer):=hst.of_keeps fun b o q _=>⟨o,hx.keeps b o q,rfl⟩
 unfold leaving
 refine wpAny_bind (Ua (s:={ s1 with heap:=h' }) (base:=base) (N:=Nw s1.heap H1) (C:=C) hfr hl' hf hNf hNn hNe he ⟨rfl,rfl,_,rfl,rfl⟩ rfl rfl fun h2 p1 x1=>?_)
 refine NO (fs:=frs (env::outer)) x1 hNe fun h3 p2 x2=>?_
 have p:=p1.trans p2
 refine⟨e,C,H1,rfl,I.os,I.bare,ZI hun' p hold (fun b o q z=>?_),WA hok' p (fun b z=>z.2) hfree,hmono e hNe,x2.mono hmono,hE⟩
 unfold frs at z
 rw[lV,hf]at z
 rcases kY.mp z with z|z
 ·exact absurd (i' q) (by rw[z];exact lM _)
 ·exact z
def UG{K:PySem.W.Frag}{h:Heap}{C:Addr}{bmB:List Value}{newId:String}(X:K.In h)(q:PySem.W.excIn K C bmB newId=true) :
  ∃bm N nm q bs hdct sn sub ab col dd k0 k1 k2 k3 k5 mN,h.get? C=some (excClassObj nm q C N bs bm hdct sn sub ab col dd k0 k1 k2 k3 k5 newId)/\h.Ns N mN/\mN "__init__"=none/\OwnTail h bmB bm:=by
 unfold PySem.W.excIn at q
 split at q
 ·rename_i dd cd sl ho
  split at q
  ·rename_i C' bm k0 k1 k2 k3 n k5 hm hs
   simp only[Bool.and_eq_true,beq_iff_eq,Bool.not_eq_true']at q
   obtain⟨⟨⟨⟨⟨rfl,rfl⟩,hdel⟩,ht⟩,hok⟩,hni⟩:=q
   obtain⟨nm,bs,mro,ns,qn,hd,sn,sub,ab,col,del⟩:=cd
   dsimp only at hm hdel hok hni
   subst hm hdel
   have hsl:sl=#[k0,k1,k2,k3,some (.builtin n),k5]:=by
    obtain⟨l⟩:=sl
    simp only at hs
    rw[hs]
   subst hsl
   exact⟨bm,ns,nm,qn,bs,hd,sn,sub,ab,col,dd,k0,k1,k2,k3,k5,_,X _ _ ho,.of_isNs (PySem.W.isNs_of_in X hok),PySem.W.nsMap_none_of_in X hok hni,PySem.W.tail_of_in X ht⟩
  ·cases q
 ·cases q
def RC(C:Addr)(E:XK)(ta:TA):TS:=fun _ σ H=>ta σ H fun vs H1=>vs.length<=sizeLine/\E (.ref C) none H1
def VO{X:Cx}{C:Addr}{E:XK}{x:Str}{np cpos pos:Pos}{e₀:Expr}{Aw:List Expr}{ta:TA}{B newId initId:String}{bm:List Value}(ha:PA X (e₀::Aw) ta)(hR:MK X C E)
  (hg:Gl X x) (hm:X.mg x=some (.ref C)) (hq:PySem.W.excIn X.K C bm newId=true) (FB:ExcBaseFacts B newId initId bm) (hh:X.A.handled=none)
  (hplain:(backTo cpos (starEach Aw X.env)).any (·.1)=false:=by rfl) (hd:(x==("__debug__":Str))=false:=by decide)
  (he:starEach (e₀::Aw) X.env=(false,eval e₀ X.env)::starEach Aw X.env:=by rfl):PS X (.Raise (some (.Call (.Name x np) (e₀::Aw) [] cpos)) none pos) (RC C E ta):=by
 intro pins s σ H D I h
 obtain⟨tl,N,nm,q,bs,hdct,sn,sub,ab,col,dd,k0,k1,k2,k3,k5,mN,hC,hN,hni,T⟩:=UG I.ok.mod.kin hq
 refine wpAny_Raise_call_subT (C:=C) (nm:=nm) (q:=q) (N:=N) (bs:=bs) (bm:=tl) (hdct:=hdct) (sn:=sn) (sub:=sub) (ab:=ab) (col:=col) (dd:=dd) (k0:=k0) (k1:=k1) (k2:=k2) (k3:=k3) (k5:=k5)
  FB (mN:=mN) (T.hasType FB.hasBase) hh (by rw[he];show(false||(backTo cpos (starEach Aw X.env)).any (·.1))=false;rw[hplain];rfl) hni (GG I hg hm ⟨rfl,?_⟩ hd)
 have hz:=ha cpos pins s σ H _ I h
 rw[he]at hz ⊢
 refine Calls.evalArgs_plain (wpAny_mono hz (fun us s2 ⟨vs,H2,I2,r,z,hE⟩=>⟨rfl,by rw[<- r.length];exact z,I2.bk _ _ hC,hN.keeps I2.bk,T.keeps I2.bk,fun h' e hx=>hR pins σ H2 s2 h' e us I2 hx hE⟩) fun _ _ y=>y)
def UH{M:Model}{A:Around}{E:Value->Shared->Prop}{s:Shared}{K:PySem.W.Frag}{e C D:Addr}{oe:Obj}{Q:Bool->Shared->Prop}(X:K.In s.heap)(he:s.heap.get? e=some oe)(hc:oe.cls = .ref C)
  (h1:PySem.W.typeIn K (.ref D)=some (.type "type")) (h2:(PySem.W.clsIn K D).isSome=true) (h3:PySem.W.subIn K (.ref C) (.ref D)=some true) (h4:PySem.W.subIn K (.ref D) (.type "BaseException")=some true)
  (h:Q true s):wpAny M A (excMatches (.ref e) (.ref D)) Q E s:=by
 have L1:=PySem.W.looks_typeIn (M:=M) X h1
 have L2:PySem.W.Looks M s.heap (isSubtype (.type "type") (.type "tuple")) false:=PySem.W.Looks.of_pure PySem.tc_notTuple
 have L3:=PySem.W.looks_subIn (M:=M) X h3
 have L4:=PySem.W.looks_subIn (M:=M) X h4
 have L5:PySem.W.Looks M s.heap (isType (.ref D)) true:=by
  unfold PySem.W.clsIn at h2
  split at h2
  ·rename_i c' d' cd' sl' ho
   intro A' Q' E' s' k q
   unfold isType loadHead
   exact wpAny_bind (wpAny_loadPart (k _ _ (X _ _ ho)) (wpAny_pure q))
  ·cases h2
 have L6:PySem.W.Looks M s.heap (typeOf (.ref e)) (.ref C):=hc▸(PySem.W.Looks.ld he).andThen .now
 unfold excMatches isInstance isExcClass
 refine wpAny_bind (wpAny_bind (L1.at (L2.at ?_)))
 simp only[Bool.false_eq_true,if_false]
 refine wpAny_bind (wpAny_pure ?_)
 simp only[List.forIn_cons,List.forIn_nil]
 refine wpAny_bind (wpAny_bind (wpAny_bind (wpAny_bind (L5.at ?_))))
 simp only[if_true]
 refine L4.at ?_
 simp only[Bool.not_true,Bool.false_eq_true,if_false]
 refine wpAny_pure (wpAny_pure ?_)
 refine wpAny_bind (L6.at (wpAny_bind (wpAny_bind (wpAny_bind (L3.at ?_)))))
 simp only[if_true]
 exact wpAny_pure (wpAny_pure (wpAny_pure h))
abbrev Cx.within(X:Cx)(ea:Addr)(oe:Obj):Cx:={ X with A:=X.A.mark (some (.ref ea)),calm:=false,pn:=X.pn++[(ea,oe)],xe:=fun _ _=>False }
def Inv.within{X:Cx}{pins:List (Addr×Obj)}{σ:St}{H:Hp}{s:Shared}{ea:Addr}{oe:Obj}(I:Inv X pins σ H s)(h:s.heap.get? ea=some oe/\H ea=none/\ea≠X.env.locals/\ea∉X.fs/\∀v,oe.data≠.cell v) :
  Inv (X.within ea oe) pins σ H s:=by
 have ok:=I.ok
 refine⟨⟨ok.mod,ok.kind,ok.glob,ok.blt,ok.above,ok.inj,ok.has,ok.cab,(fun z=>nomatch z),ok.frames,ok.stk,ok.exf,ok.bs,ok.bsz,ok.noex,ok.exfs,ok.funs,ok.frf⟩,I.os,I.bare,I.base,I.loc,I.cell,I.free,I.freeC,fun p hp=>?_,I.hok,I.len⟩
 rcases kc.mp hp with hp|hp
 ·rcases kc.mp hp with hp|hp
  ·exact I.pin p (kW _ hp)
  ·obtain rfl:=ki.mp hp
   exact h
 ·exact I.pin p (P' _ hp)
structure Got1(X:Cx)(pins:List (Addr×Obj))(σ:St)(H H':Hp)(s:Shared)(ea C:Addr)(fl:Value)(s3:Shared):Prop where
 os:s3.os=s.os
 bare:AllBare s3.gens
 un:Un (frs X.stack) [] H H' s.heap s3.heap
 hok:HOk X.prog X.w H' s3.heap
 new:Nw s.heap H' ea
 xat:XAt (Nw s.heap H') s3.heap ea C fl
section
variable {X:Cx} {pins:List (Addr×Obj)} {σ:St} {H H':Hp} {s s3:Shared} {ea C:Addr} {fl:Value}
def Got1.inv(g:Got1 X pins σ H H' s ea C fl s3)(I:Inv X pins σ H s):Inv X pins σ H' s3:=I.call' g.os g.un g.hok g.bare fun _ z=>nomatch z
def Got1.old{b:Addr}{o:Obj}(e:s.heap.get? b=some o):¬Nw s.heap H' b:=fun z=>by rw[z.1]at e;cases e
def Got1.fresh(g:Got1 X pins σ H H' s ea C fl s3):∀b,s3.heap.objs.size<=b->Nw s.heap H' b:=fun b hb=>Nw.fresh g.hok (fun c o q=>g.un.there c o q (by simp)) hb
def Got1.step{fl':Value}{h4:Heap}(g:Got1 X pins σ H H' s ea C fl s3)(I:Inv X pins σ H s)(p:Pt (Nw s.heap H') (frs X.stack) s3.heap h4)(x:XAt (Nw s.heap H') h4 ea C fl'):Got1 X pins σ H H' s ea C fl' { s3 with heap:=h4 } :=
 ⟨g.os,g.bare,ZI g.un p (fun b o e=>Got1.old e) fun _ _ _ z=>z,WA g.hok p (fun b z=>z.2) (g.inv I).stkFree,g.new,x⟩
def Got1.pin2(g:Got1 X pins σ H H' s ea C fl s3)(I:Inv X pins σ H s):∃oe,(s3.heap.get? ea=some oe/\H' ea=none/\ea≠X.env.locals/\ea∉X.fs/\∀v,oe.data≠.cell v)/\oe.cls = .ref C/\oe.dict=none/\PySem.W.notCls oe=true/\NoCtx oe:=by
 obtain⟨oe,vs,T,oT,ts,he,hc,hd,_⟩:=g.xat
 refine⟨oe,⟨he,g.new.2,fun z=>?_,fun z=>?_,fun v=>by rw[hd];intro q;cases q⟩,hc.1,hc.2.1,?_,hc.2.2⟩
 ·obtain⟨m,⟨o,_,_,ho,_⟩,_⟩:=I.loc
  have:=g.new.1
  rw[z,ho]at this;cases this
 ·obtain⟨_,o,ho,_⟩:=I.funs.mem z
  have:=g.new.1
  rw[ho]at this;cases this
 ·obtain⟨c,d,dt,sl⟩:=oe
  cases hd
  rfl
def Got1.pin(g:Got1 X pins σ H H' s ea C fl s3)(I:Inv X pins σ H s):∃oe,(s3.heap.get? ea=some oe/\H' ea=none/\ea≠X.env.locals/\ea∉X.fs/\∀v,oe.data≠.cell v)/\oe.cls = .ref C/\oe.dict=none/\PySem.W.notCls oe=true:=by
 obtain⟨oe,a,b,c,d,_⟩:=g.pin2 I
 exact⟨oe,a,b,c,d⟩
def Got1.lands{M:Model}{A:Around}{E0:Value->Shared->Prop}{R:Shared->Prop}(g:Got1 X pins σ H H' s ea C .none s3)(I:Inv X pins σ H s)(hst:X.stack=X.env::X.outer/\X.env.frame=some X.env.locals)(hA:A.frames=some X.stack)
  (h:∀s4,Got1 X pins σ H H' s ea C .none s4->R s4) :
  wpAny M A (noteFrame (.ref ea) X.env) (fun _ s₂=>wpAny M A (setFlight (.ref ea) none) (fun _ s₃=>R s₃) E0 s₂) E0 s3:=by
 have J:=g.inv I
 have hl:=J.stack
 have hNf:∀b∈frs X.stack,¬Nw s.heap H' b:=fun b hb=>by
  obtain⟨_,o,ho,_⟩:=I.stack.mem hb
  exact Got1.old ho
 rw[hst.1]at hA hl
 refine Wz (base:=X.base) (N:=Nw s.heap H') (C:=C) hA hl hst.2 (by rw[<- hst.1];exact hNf) g.fresh g.new g.xat fun h4 p x=>?_
 rw[<- hst.1]at p
 have g4:=g.step I p x
 refine NO (fs:=frs X.stack) x g.new fun h5 p5 x5=>?_
 exact h _ (g4.step I p5 x5)
def Got1.again{M:Model}{A:Around}{E0:Value->Shared->Prop}{R:Shared->Prop}(g:Got1 X pins σ H H' s ea C .none s3)(I:Inv X pins σ H s)
  (h:∀s4,Got1 X pins σ H H' s ea C .none s4->R s4):wpAny M A (setFlight (.ref ea) none) (fun _ s₃=>R s₃) E0 s3 :=
 NO (fs:=frs X.stack) g.xat g.new fun h5 p5 x5=>h _ (g.step I p5 x5)
end
structure Oc(K:PySem.W.Frag)(C D:Addr):Prop where
 ty:PySem.W.typeIn K (.ref D)=some (.type "type")
 cl:(PySem.W.clsIn K D).isSome=true
 sub:PySem.W.subIn K (.ref C) (.ref D)=some true
 exc:PySem.W.subIn K (.ref D) (.type "BaseException")=some true
section
variable {X:Cx} {k:Nat} {f C D':Addr} {fd:FuncData} {ps:List Str} {sp:Sp} {x cn:Str} {p pos p1 np hp p2:Pos} {e:Expr} {es:List Expr} {t:TA} {b₀:Stmt} {suite:List Stmt} {ts:Addr->TS}
end
end L2
end
section
namespace L2
open PySem PySem.Spec PyProof.Rows PySem.W
section
variable {prog:Program} {w:World} {A:Around} {E:Value->Shared->Prop} {s:Shared} {K:Frag} {x C:Addr} {ox:Obj}
structure XCls(K:Frag)(C:Addr):Prop where
 ga:findIn K (.ref C) "__getattribute__"=some (some (.builtin "BaseException.__getattribute__"))
 gt:findIn K (.ref C) "__getattr__"=some none
 cl:(clsIn K C).isSome=true
 ha:findIn K (.ref C) "__class__"=some (some (.builtin "object.__class__"))
 hn:specialIn K (.builtin "object.__class__") "__get__"=some (some (.builtin "getset_descriptor.__get__"))
 ht:takesIn K (.builtin "object.__class__")=some true
 ob:mroIn K C (.type "object")=some true
 be:mroIn K C (.type "BaseException")=some true
def XCls.cf(c:XCls K C):findObj K C none "__class__"=some (.bind (.builtin "getset_descriptor.__get__") (.builtin "object.__class__")):=by
 obtain⟨cd,hc⟩:=Option.isSome_iff_exists.mp c.cl
 unfold findObj
 rw[hc,k6,c.ha,k6]
 simp[c.hn,c.ht]
def Ud{tk:Tok}{Q:Fin->Shared->Prop}(c:XCls K C)(X:K.In s.heap)(I:InstAt s.heap x ox C none)(h:Q (.done (.ret (.ref C))) s) :
  wpAny (model prog w) A (Builtin.«object.__getattribute__» ⟨[.ref x,.str "__class__" tk],[]⟩) Q E s:=by
 obtain⟨hh,g,d,t,os⟩:=s
 have L0:=I.type (M:=model prog w)
 have L1:=looks_find (M:=model prog w) X I c.cf
 unfold Builtin.«object.__getattribute__»
 refine wpAny_bind (wpAny_pure ?_)
 refine wpAny_bind (wpAny_pure ?_)
 refine wpAny_bind (L0.at (wpAny_bind (L1.at ?_)))
 show wpAny _ _ (Builtin.ObjectAttr.bindTo (.builtin "getset_descriptor.__get__") (.builtin "object.__class__") (.ref x) (.ref C)) _ _ _
 unfold Builtin.ObjectAttr.bindTo
 refine wpAny_bind (wpAny_holding (wpAny_call (class_get X I c.ob ?_)))
 exact wpAny_pure h
def Ug{M:Model}{nv:Value}{Q:Unit->Shared->Prop}(c:XCls K C)(X:K.In s.heap)(I:InstAt s.heap x ox C none)(h:Q () s) :
  wpAny M A (checkBuiltinCall "BaseException.__getattribute__" ⟨[.ref x,nv],[]⟩) Q E s:=by
 obtain⟨hh,g,d,t,os⟩:=s
 have L0:=I.type (M:=M)
 have L1:=looks_mroIn (M:=M) X c.be
 have hk:builtinKind "BaseException.__getattribute__"=some .slot:=by decide +kernel
 have hsplit:splitId "BaseException.__getattribute__"=some ("BaseException","__getattribute__"):=by decide +kernel
 have ha:=F.args_bexc_ga (.ref x) nv
 simp only[checkBuiltinCall,hk,hsplit]
 refine wpAny_bind ?_
 unfold isInstance
 refine wpAny_bind (L0.at (L1.at ?_))
 repeat (first|assumption|wp_step)
def Ue{Q:Option Value->Shared->Prop}(c:XCls K C)(X:K.In s.heap)(I:InstAt s.heap x ox C none)(h:Q (some (.ref C)) { s with toks:=s.toks+1 }) :
  wpAny (model prog w) A (getAttr? (.ref x) "__class__") Q E s:=by
 obtain⟨hh,g,d,t,os⟩:=s
 have L0:=I.type (M:=model prog w)
 have L1:=looks_findIn (M:=model prog w) X c.ga
 have L2:=looks_findIn (M:=model prog w) X c.gt
 have fb:=F.excAttr_ValueError.ga.bind (.ref x)
 unfold getAttr? getAttrBy? getAttrBy
 refine wpAny_bind (wpAny_mkText (wpAny_bind (wpAny_attempt (wpAny_holding (wpAny_bind (L0.at (wpAny_bind (L1.at ?_))))))))
 have hx2:(onTheHeap (Value.ref C)&&Value.builtin "BaseException.__getattribute__"==Value.builtin "object.__getattribute__")=false:=by
  rw[show(Value.builtin "BaseException.__getattribute__"==Value.builtin "object.__getattribute__")=false by decide +kernel,nC]
 simp only[hx2,Bool.false_eq_true,if_false]
 unfold getAttrByItsOwn hookBefore callGetattribute boundAndCalled
 rw[if_pos (show onTheHeap (Value.ref C)=true from rfl)]
 refine wpAny_bind (L2.at ?_)
 refine wpAny_bind (wpAny_attempt (wpAny_holding ?_))
 simp only[Bool.false_and,Bool.false_eq_true,if_false]
 rw[fb]
 refine wpAny_bind (wpAny_pure (wpAny_call (codeAny_call_builtin F.excAttr_ValueError.ga.plain F.entry_bexc_ga (Ug c X I (Ud c X I ?_)))))
 exact handed_on rfl (wpAny_pure h)
def Pb(c:XCls K C):KitX K (.ref x) (.ref C) (fun h=>InstAt h x ox C none) where
 ty:=fun _ _ _ I=>I.type
 it:=fun _ _ X _=>by
  have hcl:=c.cl
  unfold clsIn at hcl
  split at hcl
  ·rename_i c' d' cd' sl' ho
   intro A' Q' E' s' k q
   unfold isType loadHead
   exact wpAny_bind (wpAny_loadPart (k _ _ (X _ _ ho)) (wpAny_pure q))
  ·cases hcl
 ne:=fun h tp dd its n sl X htp=>by
  refine lL.mpr fun q=>?_
  have e:C=tp:=Value.ref.inj (beq_iff_eq.mp q)
  subst e
  have hcl:=c.cl
  unfold clsIn at hcl
  split at hcl
  ·rename_i c' d' cd' sl' ho
   have z:=(X _ _ ho).symm.trans htp
   cases z
  ·cases hcl
 ca:=fun X I k=>Ue c X I k
end
section
variable {X:Cx} {ea C:Addr} {oe:Obj}
end
end L2
end
section
namespace L2
open PySem PySem.Spec PyProof.Rows
def Inv.gone{X:Cx}{pins:List (Addr×Obj)}{σ:St}{H:Hp}{s:Shared}{h':Heap}{m':Str->Option Value}{t':Nat}(I:Inv X pins σ H s)(hn:h'.Ns X.env.locals m')(hs:Heap.SameBut X.env.locals s.heap h') :
  Inv X pins (σ.map fun _=>none) H { s with heap:=h',toks:=t' }:=by
 refine⟨I.ok,I.os,I.bare,⟨fun b o e n hb hx=>?_,fun b o e n hb hx=>?_,I.base.free,fun b o e hx=>?_,I.base.tups,I.base.frzs,I.base.tbls⟩,⟨_,hn,fun j y v' e1 e2 e3=>?_⟩,fun y c e=>?_,I.free,I.freeC,fun p hp=>?_,fun b ob e=>?_,by simpa using I.len⟩
 ·exact(hs.2 b (lE (kZ (i' e) I.ok.above))).trans (I.base.keep b o e n hb hx)
 ·obtain⟨sl,e1⟩:=I.base.slot b o e n hb hx
  exact⟨sl,(hs.2 b (lE (kZ (i' e) I.ok.above))).trans e1⟩
 ·obtain⟨o',e1⟩:=I.base.there b o e hx
  exact⟨o',(hs.2 b (lE (kZ (i' e) I.ok.above))).trans e1⟩
 ·rw[O']at e2
  cases q:σ[j]? with
  |none=>rw[q]at e2;cases e2
  |some z=>rw[q]at e2;cases e2
 ·obtain⟨w',z⟩:=I.cell y c e
  exact⟨w',z.sameBut hs (I.cne y c e)⟩
 ·obtain⟨e,n,ne,nf,d⟩:=I.pin p hp
  exact⟨(hs.2 p.1 ne).trans e,n,ne,nf,d⟩
 ·refine(I.hok b ob e).stay (fun c w' hc q=>(hs.2 c ?_).trans q) (fun _ q=>q) fun _ _ q=>q
  rintro rfl
  rcases hc with rfl|hc
  ·rw[I.free]at e;cases e
  ·rw[I.free]at hc;cases hc
section
variable {X:Cx} {k i:Nat} {f C D':Addr} {fd:FuncData} {ps:List Str} {sp:Sp} {x cn n:Str} {p pos p1 np hp p2:Pos} {e:Expr} {es:List Expr} {t:TA} {b₀:Stmt} {suite:List Stmt} {ts:Addr->TS}
end
def Fun.okX{P:Program}{w:World}{K:PySem.W.Frag}{mg:Str->Option Value}{base:Heap}{x qual:Str}{st:Stmt}{f:Addr}{fd:FuncData}{N ps:List Str}{k:Nat}{sp:Sp}(F:Fun K x qual st f fd)(S:Ee N ps (AV st))(len:∀vs H Q E,sp vs H Q E->vs.length=ps.length)
  (hbody : ∀ (cdv : Value) (A : Around) (outer : List Env) (s : Shared) (H : Hp) (vs : List V) (Q : VK) (E : XK), Room k (A.deeper (envOfC qual (AV st) s.heap.objs.size f cdv)) -> sp vs H Q E ->
   ∃t,PSs (JP (CXr P w) P w K mg base N qual (AV st) f cdv A outer s H E) (Bk st) t/\t { nx:=fun _ H'=>Q .non H',rt:=Q } (start N vs) H):FnOk P w K mg base (CXr P w) (k+1) f fd ps sp:=by
 obtain⟨oc,od,kV,doc,pm,an,cdv,ct,osl,rfl,lk,hcd⟩:=F.ex
 exact Zg lk hcd S len fun A outer s H vs Q E hr hsp=>hbody cdv A outer s H vs Q E hr hsp
end L2
namespace DL
open PySem L2
instance {i j:Int}:Decidable (Zq i j):=by unfold Zq Bd;infer_instance
end DL
end
section
namespace L2
open PySem PySem.Spec PyProof.Rows
def Its(x:Str):It:=⟨fun i _=>i<x.cps.size,fun i H v H'=>∃c,x.cps[i]?=some c/\H'=H/\v = .str ⟨#[c]⟩,fun i _=>x.cps.size<=i⟩
def Mn{P:Program}{w:World}{K:PySem.W.Frag}{tg:Expr}(x:Str)(t:Tok)(it:Addr)(n:String)
  (hn:["enumerate","zip","dict_itemiterator","dict_reverseitemiterator","odict_iterator","itertools.zip_longest","itertools.pairwise"].contains n=false)
  (nx : ∀ {A : Around} {E : Value -> Shared -> Prop} {s : Shared} {i c : Nat} {Q : Option Value -> Shared -> Prop}, s.heap.IsStrIter it n x t i -> x.cps[i]? = some c ->
   (∀h',h'.IsStrIter it n x t (i+1)->Heap.SameBut it s.heap h'->Q (some (.str ⟨#[c]⟩ s.toks)) { s with heap:=h',toks:=s.toks+1 })->wpAny (model P w) A (pyNext (.ref it)) Q E s)
  (en : ∀ {A : Around} {E : Value -> Shared -> Prop} {s : Shared} {i : Nat} {Q : Option Value -> Shared -> Prop}, A.handled = none -> s.heap.IsStrIter it n x t i -> x.cps[i]? = none ->
   (∀h',Heap.ExtBut it s.heap h'->Q none { s with heap:=h' })->wpAny (model P w) A (pyNext (.ref it)) Q E s)
  (sf:∀{A:Around} {E:Value->Shared->Prop} {s:Shared} {i:Nat} {Q:Value->Shared->Prop},s.heap.IsStrIter it n x t i->Q (.ref it) s->wpAny (model P w) A (pyIter (.ref it)) Q E s) :
  Turn P w K tg (Its x) [it] it (fun i h=>h.IsStrIter it n x t i) where
 mem:=by simp
 obj:=fun i h st b hb=>by
  have e:b=it:=by simpa using hb
  subst e
  obtain⟨o,e,c,d⟩:=st
  exact⟨o,e,fun v z=>by rw[d]at z;cases z⟩
 keep:=fun i h h' st k=>let ⟨o,e,r⟩:=st;⟨o,k it (by simp) o e,r⟩
 item:=by
  intro X hP hw hK hc i pins s σ H E I hf st hg
  subst hP hw hK
  have hlt:i<x.cps.size:=hg
  have hx:x.cps[i]?=some x.cps[i]:=Array.getElem?_eq_getElem hlt
  obtain⟨f0,f1,f2,f3,f4,f5⟩:=hf it (by simp)
  refine nx st hx fun h' st' sb=>?_
  have I1:Inv X pins σ H { s with heap:=h',toks:=s.toks+1 }:=I.turned (fun b o hb e=>(sb.2 b hb).trans e) f0 f1 f3 f4 f5
  obtain⟨o,e,c,d⟩:=id st'
  exact⟨_,rfl,Pk (s:={ s with heap:=h',toks:=s.toks+1 }) e c d hn ⟨.str ⟨#[x.cps[i]]⟩,H,I1,⟨_,rfl⟩,⟨_,hx,rfl,rfl⟩,st',fun b hb=>(hf b hb).1⟩⟩
 done:=by
  intro X hP hw hK hc i pins s σ H E I hf st hg
  subst hP hw hK
  obtain⟨f0,f1,f2,f3,f4,f5⟩:=hf it (by simp)
  exact en (I.ok.hd hc) st (Array.getElem?_eq_none hg) fun h' eb=>⟨rfl,I.turned (t':=s.toks) (fun b o hb e=>eb b o hb e) f0 f1 f3 f4 f5⟩
 self:=fun _ _ _ _ _ st h=>sf st h
def Us{P:Program}{w:World}{K:PySem.W.Frag}{tg:Expr}(x:Str)(t:Tok)(it:Addr):Turn P w K tg (Its x) [it] it (fun i h=>h.IsStrIter it (strIterType x) x t i):=by
 unfold strIterType
 split
 ·exact Mn x t it _ (by decide) (fun a b c=>wpAny_pyNext_ascii_item a b c) (fun a b c d=>wpAny_pyNext_ascii_end a b c d) (fun a b=>wpAny_pyIter_striter_ascii a b)
 ·exact Mn x t it _ (by decide) (fun a b c=>wpAny_pyNext_wide_item a b c) (fun a b c d=>wpAny_pyNext_wide_end a b c d) (fun a b=>wpAny_pyIter_striter_wide a b)
def gY(tl:TE):TI:=fun σ H R=>tl σ H fun v H1=>∃x,v = .str x/\R (Its x) H1
def aP{X:Cx}{tg l:Expr}{tl:TE}(hl:PE X l tl):PI X tg l (gY tl):=by
 intro pins s σ H R I h
 refine thn (hl pins s σ H _ I h) fun v s1 ⟨x,H1,I1,r1,q1⟩=>?_
 obtain⟨z,rfl,q⟩:=q1
 obtain⟨t,rfl⟩:=r1
 refine wpAny_pyIter_strU ?_
 refine⟨s1.heap.objs.size,[s1.heap.objs.size],_,_,H1,rfl,I1.kept (t':=s1.toks) fun b o e=>U' _ e,Us z t _,⟨_,kb _ rfl,rfl,rfl⟩,fun b hb=>?_,q⟩
 have e:b=s1.heap.objs.size:=by simpa using hb
 subst e
 exact I1.fpOk (X' _) (I1.hok.fresh (X' _))
end L2
namespace DL
open PySem L2 PyProof.Rows
variable {K:KW}
def chD(x:Str):List PyData:=x.cps.toList.map fun c=>.str ⟨#[c]⟩
def dIS(f:DX)(τ:DS):Option (List PyData×DS):=(f τ).bind fun p=>match p.1 with
 |.str x=>some (chD x,p.2)
 |_=>none
def bL{fr:Bool}{t:TE}{f:DX}(h:E K t fr f):IT K (gY t) (dIS f):=by
 refine⟨fun τ d t5 e=>?_,?_⟩
 ·unfold dIS at e
  obtain⟨⟨x,t4⟩,e1,e⟩:=oB e
  dsimp only at e
  split at e
  ·cases e;exact h.like _ _ _ e1
  ·cases e
 intro S M τ σ H Q ds t5 r e q
 unfold dIS at e
 obtain⟨⟨x,t4⟩,e1,e⟩:=oB e
 dsimp only at e
 split at e
 ·rename_i z
  cases e
  refine h.weak.run S M τ σ H _ _ _ r e1 fun v H1 r1 c1 i1=>?_
  cases (show v = .str z from i1)
  refine⟨z,rfl,q _ H1 r1 c1 fun S2 H2 k=>⟨fun i d e=>?_,fun i hi=>?_⟩⟩
  ·unfold chD at e
   rw[O',Array.getElem?_toList]at e
   obtain⟨c,hc,rfl⟩:=oM e
   refine⟨(lP.mp hc).1,fun x H3 ⟨c',hc',h1,h2⟩=>⟨h1,?_⟩⟩
   rw[hc]at hc';cases hc'
   exact h2
  ·show z.cps.size<=i
   unfold chD at hi
   simpa using hi
 ·cases e
def Po:PyData->PyData->Option PyData
 |.str i,.str j=>some (.bool (!(Builtin.Str.occurrences j i 0 j.length 1).isEmpty))
 |_,_=>none
def gG:OR K false (fun x y H Q=>∃i j,x = .str i/\y = .str j/\Q (.bl (!(Builtin.Str.occurrences j i 0 j.length 1).isEmpty)) H) Po:=by
 intro S H x y dx dy d Q _ ix iy e q
 unfold Po at e
 split at e
 ·rename_i i j
  cases e
  exact⟨i,j,ix,iy,q _ H (fun _ _ e=>e) rfl⟩
 ·cases e
mutual
def BK(K:KW):PyData->Value->Bool
 |.int i,.int j _=>decide (i=j)
 |.str x,.str y _=>decide (x=y)
 |.tuple ds,.ref a=>match K.fr.lookup a with
  |some ⟨.type "tuple",_,.seq its _,_⟩=>decide (its.size<=1000)&&constInL K ds its.toList
  |_=>false
 |_,_=>false
def constInL(K:KW):List PyData->List Value->Bool
 |[],[]=>true
 |d::ds,v::vs=>BK K d v&&constInL K ds vs
 |_,_=>false
end
mutual
theorem Py:∀{d:PyData} {u:Value},BK K d u=true->∃v,RelV v u/\∀H,Is K H d v
 |.int i,u,h=>by
  cases u<;>first|(unfold BK at h;cases h;done)|(unfold BK at h;cases of_decide_eq_true h;exact⟨.int i,⟨_,rfl⟩,fun _=>rfl⟩)
 |.str x,u,h=>by
  cases u<;>first|(unfold BK at h;cases h;done)|(unfold BK at h;cases of_decide_eq_true h;exact⟨.str x,⟨_,rfl⟩,fun _=>rfl⟩)
 |.tuple ds,.ref a,h=>by
  unfold BK at h
  split at h
  ·rename_i dd its n sl ho
   obtain⟨h1,h2⟩:=Bool.and_eq_true_iff.mp h
   obtain⟨vs,r,hl⟩:=constL_is h2
   exact⟨.ref a,rfl,fun H=>⟨a,vs,rfl,.inr ⟨_,its,n,ho,rfl,rfl,lA (of_decide_eq_true h1) (by decide),r⟩,hl H⟩⟩
  ·cases h
 |.tuple ds,.none,h=>by unfold BK at h;cases h
 |.tuple ds,.bool _,h=>by unfold BK at h;cases h
 |.tuple ds,.int _ _,h=>by unfold BK at h;cases h
 |.tuple ds,.str _ _,h=>by unfold BK at h;cases h
 |.none,u,h=>by cases u<;>(unfold BK at h;cases h)
 |.bool _,u,h=>by cases u<;>(unfold BK at h;cases h)
 |.list _,u,h=>by cases u<;>(unfold BK at h;cases h)
 |.dict _,u,h=>by cases u<;>(unfold BK at h;cases h)
theorem constL_is:∀{ds:List PyData} {us:List Value},constInL K ds us=true->∃vs,Vals vs us/\∀H,IsL K H ds vs
 |[],[],_=>⟨[],.nil,fun _=>rfl⟩
 |d::ds,u::us,h=>by
  unfold constInL at h
  obtain⟨h1,h2⟩:=Bool.and_eq_true_iff.mp h
  obtain⟨v,r,i⟩:=Py h1
  obtain⟨vs,rs,is⟩:=constL_is h2
  exact⟨v::vs,.cons r rs,fun H=>⟨v,vs,rfl,i H,is H⟩⟩
 |[],_::_,h=>by cases h
 |_::_,[],h=>by cases h
end
def KdL(K:KW)(w:World):List DictEntry->List (Str×PyData)->Prop
 |[],[]=>True
 |e::es,p::tb=>(∃t,e.key = .str p.1 t)/\e.hash=hashStr w p.1/\BK K p.2 e.val=true/\KdL K w es tb
 |_,_=>False
structure KD(K:KW)(w:World)(a:Addr)(tb:List (Str×PyData)):Prop where
 ex:∃es n,K.fr.lookup a=some ⟨.type "dict",none,.dict es n,#[]⟩/\KdL K w es.toList tb
def Jx:List (Str×PyData)->Str->Option PyData
 |[],_=>none
 |p::r,k=>if p.1=k then some p.2 else Jx r k
def Cm{k x:Str}{t:Tok}:Value.isStrOf k (.str x t)=decide (k=x):=by
 unfold Value.isStrOf
 by_cases h:k=x
 ·subst h
  rw[decide_eq_true rfl]
  first|exact beq_self_eq_true _|simp
 ·rw[decide_eq_false h]
  first|exact beq_eq_false_iff_ne.mpr (Ne.symm h)|(simp;exact Ne.symm h)
def Sr{w:World}:∀{es:List DictEntry} {tb:List (Str×PyData)},KdL K w es tb->∀e∈es,∃k,Value.isStrOf k e.key=true/\e.hash=hashStr w k
 |[],_,_,e,h=>nomatch h
 |x::es,[],h,_,_=>h.elim
 |x::es,p::tb,⟨⟨t,hk⟩,hh,_,r⟩,e,h=>by
  rcases kY.mp h with rfl|h
  ·exact⟨p.1,by rw[hk,Cm];exact decide_eq_true rfl,hh⟩
  ·exact Sr r e h
end DL
end
section
namespace DL
open PySem L2
variable {K:KW}
section
variable {S S':Addr->Prop} {H:Hp}
mutual
theorem Dp.is(k:TSm (hid S H) (hid S' H)):∀{d:PyData} {v:V} {F:List Addr},(∀a∈F,¬S' a)->Dp K S H d v F->Is K (hid S' H) d v
 |.none,_,_,_,h=>h.1
 |.bool _,_,_,_,h=>h.1
 |.int _,_,_,_,h=>h.1
 |.str _,_,_,_,h=>h.1
 |.tuple _,_,_,f,⟨a,vs,e,h,l⟩=>⟨a,vs,e,k.tup h,DpL.is k f l⟩
 |.list _,_,_,f,⟨a,vs,G,e,e2,h,l⟩=>⟨a,vs,e,hid_iff.mpr ⟨f a (by rw[e2];exact L' ..),h⟩,DpL.is k (fun b hb=>f b (by rw[e2];exact V' _ hb)) l⟩
theorem DpL.is(k:TSm (hid S H) (hid S' H)):∀{ds:List PyData} {vs:List V} {F:List Addr},(∀a∈F,¬S' a)->DpL K S H ds vs F->IsL K (hid S' H) ds vs
 |[],_,_,_,h=>h.1
 |_::_,_,_,f,⟨x,xs,F1,F2,e,e2,h,l⟩=>⟨x,xs,e,Dp.is k (fun b hb=>f b (by rw[e2];exact kW _ hb)) h,DpL.is k (fun b hb=>f b (by rw[e2];exact P' _ hb)) l⟩
end
mutual
theorem Dp.lst:∀{d:PyData} {v:V} {F:List Addr},Dp K S H d v F->∀a∈F,∃vs,H a=some (.lst vs)
 |.none,_,_,h,a,q=>by rw[h.2]at q;cases q
 |.bool _,_,_,h,a,q=>by rw[h.2]at q;cases q
 |.int _,_,_,h,a,q=>by rw[h.2]at q;cases q
 |.str _,_,_,h,a,q=>by rw[h.2]at q;cases q
 |.tuple _,_,_,⟨_,vs,e,h,l⟩,a,q=>DpL.lst l a q
 |.list _,_,_,⟨b,vs,G,e,e2,h,l⟩,a,q=>by
  rw[e2]at q
  rcases kY.mp q with rfl|q
  ·exact⟨vs,h⟩
  ·exact DpL.lst l a q
theorem DpL.lst:∀{ds:List PyData} {vs:List V} {F:List Addr},DpL K S H ds vs F->∀a∈F,∃vs,H a=some (.lst vs)
 |[],_,_,h,a,q=>by rw[h.2]at q;cases q
 |_::_,_,_,⟨x,xs,F1,F2,e,e2,h,l⟩,a,q=>by
  rw[e2]at q
  rcases kc.mp q with q|q
  ·exact Dp.lst h a q
  ·exact DpL.lst l a q
end
mutual
theorem Dp.fix:∀{d:PyData} {v:V},Cs d=true->Is K (hid S H) d v->Dp K S H d v []
 |.none,_,_,h=>⟨h,rfl⟩
 |.bool _,_,_,h=>⟨h,rfl⟩
 |.int _,_,_,h=>⟨h,rfl⟩
 |.str _,_,_,h=>⟨h,rfl⟩
 |.tuple _,_,f,⟨a,vs,e,h,l⟩=>⟨a,vs,e,h,DpL.fix f l⟩
 |.list _,_,f,_=>absurd f kr
 |.dict _,_,f,_=>absurd f kr
theorem DpL.fix:∀{ds:List PyData} {vs:List V},fixDs ds=true->IsL K (hid S H) ds vs->DpL K S H ds vs []
 |[],_,_,h=>⟨h,rfl⟩
 |_::_,_,f,⟨x,xs,e,h,l⟩=>⟨x,xs,[],[],e,rfl,Dp.fix (by rw[fixDs,Y']at f;exact f.1) h,DpL.fix (by rw[fixDs,Y']at f;exact f.2) l⟩
end
mutual
theorem Dp.unfix:∀{d:PyData} {v:V} {F:List Addr},Cs d=true->Dp K S H d v F->F=[]/\Is K (hid S H) d v
 |.none,_,_,_,h=>⟨h.2,h.1⟩
 |.bool _,_,_,_,h=>⟨h.2,h.1⟩
 |.int _,_,_,_,h=>⟨h.2,h.1⟩
 |.str _,_,_,_,h=>⟨h.2,h.1⟩
 |.tuple _,_,_,f,⟨a,vs,e,h,l⟩=>let ⟨z,y⟩:=DpL.unfix f l;⟨z,a,vs,e,h,y⟩
 |.list _,_,_,f,_=>absurd f kr
 |.dict _,_,_,f,_=>absurd f kr
theorem DpL.unfix:∀{ds:List PyData} {vs:List V} {F:List Addr},fixDs ds=true->DpL K S H ds vs F->F=[]/\IsL K (hid S H) ds vs
 |[],_,_,_,h=>⟨h.2,h.1⟩
 |_::_,_,_,f,⟨x,xs,F1,F2,e,e2,h,l⟩=>by
  rw[fixDs,Y']at f
  obtain⟨rfl,y1⟩:=Dp.unfix f.1 h
  obtain⟨rfl,y2⟩:=DpL.unfix f.2 l
  exact⟨e2,x,xs,e,y1,y2⟩
end
def DpL.length:∀{ds:List PyData} {vs:List V} {F:List Addr},DpL K S H ds vs F->vs.length=ds.length
 |[],_,_,h=>by rw[h.1];rfl
 |_::_,_,_,⟨x,xs,F1,F2,e,e2,h,l⟩=>by rw[e,kX,kX,DpL.length l]
def DpL.snoc:∀{ds:List PyData} {vs:List V} {F:List Addr} {d:PyData} {v:V} {G:List Addr},DpL K S H ds vs F->Dp K S H d v G->DpL K S H (ds++[d]) (vs++[v]) (F++G)
 |[],_,_,d,v,G,⟨rfl,rfl⟩,h=>⟨v,[],G,[],rfl,by simp,h,rfl,rfl⟩
 |_::_,_,_,d,v,G,⟨x,xs,F1,F2,e,e2,h,l⟩,h2=>⟨x,xs++[v],F1,F2++G,by rw[e];rfl,by rw[e2,lK],h,DpL.snoc l h2⟩
end
def mem(F:List Addr)(b:Addr):Prop:=b∈F
def nDc(d:PyData):Prop:=∀kvs,d≠.dict kvs
def DpT.to{S:Addr->Prop}{H:Hp}{d:PyData}{v:V}{F:List Addr}(hx:nDc d)(h:DpT K S H d v F):Dp K S H d v F:=by
 cases d with
 |dict kvs=>exact absurd rfl (hx kvs)
 |_=>exact h
def YH{S M:Addr->Prop}{τ:DS}{σ:St}{H:Hp}(r:R K S M τ σ H){i:Nat}{d:PyData}(hi:τ[i]?=some (some (.g d)))(hx:nDc d:=by intro _ z;cases z) :
  ∃v F,σ[i]?=some (some v)/\Dp K S H d v F/\F.Nodup/\(∀a∈F,M a)/\(∀(j:Nat) (o:Ow) (a:Addr),τ[j]?=some (some o.L)->σ[j]?=some (some (.ref a))->a∉F)/\R K (fun b=>S b/\b∉F) (fun b=>M b/\b∉F) (τ.set i (some (.d d))) σ H:=by
 obtain⟨φ,g⟩:=r.gr
 obtain⟨⟨v,g1,g2⟩,g3,g4,g5,g6⟩:=g i _ hi
 have g2:Dp K S H d v (φ i):=DpT.to hx g2
 refine⟨v,φ i,g1,g2,g3,g4,g5,?_⟩
 have hlt:i<τ.length:=(R'.mp hi).1
 have ne:∀j,j≠i->(τ.set i (some (.d d)))[j]?=τ[j]?:=fun j hj=>W' (Ne.symm hj)
 have se:(τ.set i (some (.d d)))[i]?=some (some (.d d)):=Z' hlt
 have k:Same (hid S H) (hid (fun b=>S b/\b∉φ i) H):=C5 fun a z=>z.1
 have mn:∀(j:Nat) (ys:Ow),(τ.set i (some (.d d)))[j]?=some (some ys.L)->j≠i/\τ[j]?=some (some ys.L):=fun j ys e=>by
  by_cases hj:j=i
  ·subst hj;rw[se]at e;exact absurd (J' (J' e)).symm Ow.not_d
  ·rw[ne j hj]at e;exact⟨hj,e⟩
 have cs:∀(j:Nat) (ys:List PyData),(τ.set i (some (.d d)))[j]?=some (some (.c ys))->τ[j]?=some (some (.c ys)):=fun j ys e=>by
  by_cases hj:j=i
  ·subst hj;rw[se]at e;cases e
  ·rw[ne j hj]at e;exact e
 refine⟨by rw[kj];exact r.len,fun j x e=>?_,fun j ys e=>?_,fun j ys e=>let ⟨a,vs,h1,h2,h3⟩:=r.cst j ys (cs j ys e);⟨a,vs,h1,k.seq h2,h3.mono k⟩,fun j1 j2 ys zs b e1 e2 f1 f2=>?_,fun a h=>⟨r.sub a h.1,h.2⟩,fun a h=>r.ex a h.1,?_⟩
 ·by_cases hj:j=i
  ·subst hj
   rw[se]at e
   cases e
   exact⟨v,g1,g2.is (tsS k) fun a ha z=>z.2 ha⟩
  ·rw[ne j hj]at e
   obtain⟨v,h1,h2⟩:=r.dat j x e
   exact⟨v,h1,h2.mono k⟩
 ·obtain⟨hj,e⟩:=mn j ys e
  obtain⟨b,us,h1,h2,h3,h4⟩:=r.mt j ys e
  exact⟨b,us,h1,⟨h2,g5 j ys b e h1⟩,h3,h4.mono k⟩
 ·exact r.inj j1 j2 ys zs b (mn _ _ e1).2 (mn _ _ e2).2 f1 f2
 ·refine⟨φ,fun j x e=>?_⟩
  by_cases hj:j=i
  ·subst hj;rw[se]at e;cases e
  ·rw[ne j hj]at e
   obtain⟨⟨v',q1,q2⟩,q3,q4,q5,q6⟩:=g j x e
   refine⟨⟨v',q1,q2.mono (tsS k) fun _ _=>rfl⟩,q3,fun a ha=>⟨q4 a ha,q6 i _ (Ne.symm hj) hi a ha⟩,fun j' o a z1 z2=>q5 j' o a (mn j' o z1).2 z2,fun j' x' hj' z=>?_⟩
   by_cases hj2:j'=i
   ·subst hj2;rw[se]at z;cases z
   ·rw[ne j' hj2]at z;exact q6 j' x' hj' z
def Z3{S M:Addr->Prop}{τ t4:DS}{σ:St}{H H3 H4:Hp}(r:R K S M τ σ H){i:Nat}{d d':PyData}{v:V}{F:List Addr}(hi:τ[i]?=some (some (.g d)))(hv:σ[i]?=some (some v))(hn:F.Nodup)(hM:∀a∈F,M a)
  (ho:∀(j:Nat) (o:Ow) (a:Addr),τ[j]?=some (some o.L)->σ[j]?=some (some (.ref a))->a∉F)
  (r1:R K (fun b=>S b/\b∉F) (fun b=>M b/\b∉F) t4 σ H3) (lk:Like (τ.set i (some (.d d))) t4) (c:Chg (fun b=>M b/\b∉F) H H3) (ok:t4.all okM=true)
  (hl3:∀a∈F,∃vs,H3 a=some (.lst vs)) (c4:∀b,b∉F->H4 b=H3 b) (hd:Dp K S H4 d' v F):R K S M (t4.set i (some (.g d'))) σ H4:=by
 have hlt:i<τ.length:=(R'.mp hi).1
 have hl1:t4.length=τ.length:=by have:=lk.1;rw[kj]at this;exact this
 have hlt1:i<t4.length:=by omega
 have ne:∀j,j≠i->(t4.set i (some (.g d')))[j]?=t4[j]?:=fun j hj=>W' (Ne.symm hj)
 have se:(t4.set i (some (.g d')))[i]?=some (some (.g d')):=Z' hlt1
 have ne0:∀j,j≠i->(τ.set i (some (.d d)))[j]?=τ[j]?:=fun j hj=>W' (Ne.symm hj)
 have k : Keep S H S H4 := fun b o h e => ⟨h, by
  have hb:b∉F:=fun z=>h (r.sub b (hM b z))
  rw[c4 b hb];exact c b o (fun z=>h (r.sub b z.1)) e⟩
 have ts:TSm (hid (fun b=>S b/\b∉F) H3) (hid S H4):=fun b o e nl ne=>by
  obtain⟨e1,e2⟩:=hid_iff.mp e
  have hb:b∉F:=fun z=>by
   obtain⟨vs,q⟩:=hl3 b z
   rw[e2]at q;cases q;exact nl _ rfl
  exact hid_iff.mpr ⟨fun z=>e1 ⟨z,hb⟩,by rw[c4 b hb];exact e2⟩
 have own:∀(j:Nat) (ys:Ow),(t4.set i (some (.g d')))[j]?=some (some ys.L)->j≠i/\t4[j]?=some (some ys.L):=fun j ys e=>by
  by_cases hj:j=i
  ·subst hj;rw[se]at e;exact absurd (J' (J' e)).symm Ow.not_g
  ·rw[ne j hj]at e;exact⟨hj,e⟩
 have mm:∀(j:Nat) (ys:Ow),j≠i->t4[j]?=some (some ys.L)->∃zs:Ow,τ[j]?=some (some zs.L):=fun j ys hj e=>by
  obtain⟨zs,q⟩:=(lk.own j).mp ⟨_,e⟩
  rw[ne0 j hj]at q
  exact⟨zs,q⟩
 have cs:∀(j:Nat) (ys:List PyData),(t4.set i (some (.g d')))[j]?=some (some (.c ys))->τ[j]?=some (some (.c ys)):=fun j ys e=>by
  by_cases hj:j=i
  ·subst hj;rw[se]at e;cases e
  ·rw[ne j hj]at e
   have:=((lk.2 j).1.2 ys).mp e
   rw[ne0 j hj]at this
   exact this
 refine⟨by rw[kj];exact r1.len,fun j x e=>?_,fun j ys e=>?_,fun j ys e=>let ⟨a,vs,h1,h2,h3⟩:=r.cst j ys (cs j ys e);⟨a,vs,h1,k.same.seq h2,h3.mono k.same⟩,fun j1 j2 ys zs b e1 e2 f1 f2=>?_,r.sub,fun a h=>?_,?_⟩
 ·by_cases hj:j=i
  ·subst hj;rw[se]at e;cases e
  ·rw[ne j hj]at e
   have:=((lk.2 j).1.1 x).mp e
   rw[ne0 j hj]at this
   obtain⟨v,h5,h6⟩:=r.dat j x this
   exact⟨v,h5,h6.mono k.same⟩
 ·obtain⟨hj,e⟩:=own j ys e
  obtain⟨b,ws,h5,h6,h7,h8⟩:=r1.mt j ys e
  have fx:okM (some ys.L)=true:=lF.mp ok (some ys.L) (ka e)
  exact⟨b,ws,h5,h6.1,by rw[c4 b h6.2];exact h7,h8.monoT ts fx⟩
 ·obtain⟨g1,e1⟩:=own _ _ e1
  obtain⟨g2,e2⟩:=own _ _ e2
  obtain⟨_,q1⟩:=mm j1 ys g1 e1
  obtain⟨_,q2⟩:=mm j2 zs g2 e2
  exact r.inj _ _ _ _ b q1 q2 f1 f2
 ·by_cases e:a∈F
  ·obtain⟨vs,q⟩:=hd.lst a e;exact⟨_,q⟩
  ·obtain⟨o,q⟩:=r1.ex a ⟨h,e⟩;exact⟨o,by rw[c4 a e];exact q⟩
 ·obtain⟨φ,g⟩:=r1.gr
  refine⟨fun j=>if j=i then F else φ j,fun j x e=>?_⟩
  have gs:∀(j:Nat) (x:PyData),j≠i->(t4.set i (some (.g d')))[j]?=some (some (.g x))->t4[j]?=some (some (.g x)):=fun j x hj e=>by rw[ne j hj]at e;exact e
  by_cases hj:j=i
  ·subst hj
   rw[se]at e;cases e
   simp only[if_true]
   refine⟨⟨v,hv,DpT.of hd⟩,hn,hM,fun j' o a z1 z2=>?_,fun j' x' hj' z a ha=>?_⟩
   ·obtain⟨q1,q2⟩:=own j' o z1
    obtain⟨zs,q3⟩:=mm j' o q1 q2
    exact ho j' zs a q3 z2
   ·rw[if_neg hj']
    intro hq
    obtain⟨_,_,q4,_,_⟩:=g j' x' (gs j' x' hj' z)
    exact(q4 a hq).2 ha
  ·dsimp only
   simp only[if_neg hj]
   obtain⟨⟨v',q1,q2⟩,q3,q4,q5,q6⟩:=g j x (gs j x hj e)
   refine⟨⟨v',q1,q2.mono ts fun a ha=>c4 a (q4 a ha).2⟩,q3,fun a ha=>(q4 a ha).1,fun j' o a z1 z2=>q5 j' o a (own j' o z1).2 z2,fun j' x' hj' z a ha=>?_⟩
   by_cases hj2:j'=i
   ·rw[if_pos hj2];exact(q4 a ha).2
   ·rw[if_neg hj2];exact q6 j' x' hj' (gs j' x' hj2 z) a ha
variable {K:KW}
def R.hideX{S M:Addr->Prop}{τ t4:DS}{σ:St}{H H':Hp}(r:R K S M τ σ H){X:List Addr}(r1:R K S M t4 σ H')(c:Chg M H H')(lk:Like τ t4)(ok:∀(j:Nat) (o:Ow),t4[j]?=some (some o.L)->okM (some o.L)=true)(hX:∀a∈X,H a=Option.none)(h':∀a∈X,∃vs,H' a=some (.lst vs)) :
  R K (fun b=>S b\/b∈X) M t4 σ H':=by
 have k:Keep S H (fun b=>S b\/b∈X) H':=fun b o hn e=>⟨fun z=>z.elim hn (fun z=>by rw[hX b z]at e;cases e),c b o (fun z=>hn (r.sub b z)) e⟩
 have ts:TSm (hid S H') (hid (fun b=>S b\/b∈X) H'):=Ef fun b z=>z.elim .inl fun z=>let ⟨vs,e⟩:=h' b z;.inr ⟨_,e,.inl ⟨vs,rfl⟩⟩
 refine⟨r1.len,fun j x e=>?_,fun j x e=>?_,fun j x e=>?_,r1.inj,fun b h=>.inl (r.sub b h),fun b h=>?_,r1.gr.to (fun i d e=>⟨e,rfl⟩) (fun j o a e q=>.inl ⟨o,e,q⟩) (fun a h _=>⟨h,rfl⟩) ts⟩
 ·obtain⟨v,h1,h2⟩:=r.dat j x (((lk.2 j).1.1 x).mp e)
  exact⟨v,h1,h2.mono k.same⟩
 ·obtain⟨b,vs,h1,h2,h3,h4⟩:=r1.mt j x e
  exact⟨b,vs,h1,h2,h3,h4.monoT ts (ok j x e)⟩
 ·obtain⟨b,vs,h1,h2,h3⟩:=r.cst j x (((lk.2 j).1.2 x).mp e)
  exact⟨b,vs,h1,k.same.seq h2,h3.mono k.same⟩
 ·rcases h with h|h
  ·exact r1.ex b h
  ·obtain⟨vs,e⟩:=h' b h
   exact⟨_,e⟩
def RF.hideG{F:Frm}{S M:Addr->Prop}{τ t4:DS}{σ:St}{H H':Hp}(f:RF K F S M τ σ H){X:List Addr}(r1:R K S M t4 σ H')(c:Chg M H H')(lk:Like τ t4)(ok:t4.all okM=true)(hX:∀a∈X,H a=none)(h':∀a∈X,∃vs,H' a=some (.lst vs)) :
  RF K F (fun b=>S b\/b∈X) M t4 σ H':=by
 have f1:=f.step r1 c lk
 exact⟨f.r.hideX r1 c lk (fun j o e=>lF.mp ok (some o.L) (ka e)) hX h',fun b h=>.inl (f.sS b h),f1.old,f.new,f.fm,f.fs,f.fsub,fun b h=>h.elim (f.snew b) fun z=>.inr (f.hnone (hX b z)),f.par,f1.pm,f.fma⟩
def RF.newG{F:Frm}{S M:Addr->Prop}{τ:DS}{σ:St}{H:Hp}(f:RF K F S M τ σ H){X:List Addr}{i:Nat}{d:PyData}{v:V}(hi:i<τ.length)(hnp:F.ar.length<=i)(hS:∀a∈X,S a)(hM:∀a∈X,¬M a)(hF:∀a∈X,F.H a=none)(hn:X.Nodup)
  (h:DpT K S H d v X):RF K F S (fun b=>M b\/b∈X) (τ.set i (some (.g d))) (σ.set i (some v)) H:=by
 have hs:i<σ.length:=by rw[f.r.len];exact hi
 have ne:∀j,j≠i->(τ.set i (some (.g d)))[j]?=τ[j]?:=fun j hj=>W' (Ne.symm hj)
 have ne':∀j,j≠i->(σ.set i (some v))[j]?=σ[j]?:=fun j hj=>W' (Ne.symm hj)
 have se:(τ.set i (some (.g d)))[i]?=some (some (.g d)):=Z' hi
 have se':(σ.set i (some v))[i]?=some (some v):=Z' hs
 have own:∀(j:Nat) (ys:Ow),(τ.set i (some (.g d)))[j]?=some (some ys.L)->j≠i/\τ[j]?=some (some ys.L):=fun j ys e=>by
  by_cases hj:j=i
  ·subst hj;rw[se]at e;exact absurd (J' (J' e)).symm Ow.not_g
  ·rw[ne j hj]at e;exact⟨hj,e⟩
 have jn:∀{j:Nat} {v:V},F.ar[j]?=some (some v)->j≠i:=fun {j v} e z=>by
  subst z
  have:=(R'.mp e).1
  omega
 refine⟨⟨by rw[kj,kj];exact f.r.len,fun j x e=>?_,fun j ys e=>?_,fun j ys e=>?_,fun j1 j2 ys zs b e1 e2 f1 f2=>?_,fun b h=>h.elim (f.r.sub b) (hS b),f.r.ex,?_⟩,f.sS,f.old,fun b h=>h.elim (f.new b) fun z=>.inr (hF b z),fun b h=>.inl (f.fm b h),f.fs,f.fsub,f.snew,fun j v e=>?_,fun j v e=>?_,f.fma⟩
 ·by_cases hj:j=i
  ·subst hj;rw[se]at e;cases e
  ·rw[ne j hj]at e
   rw[ne' j hj]
   exact f.r.dat j x e
 ·obtain⟨hj,e⟩:=own j ys e
  rw[ne' j hj]
  obtain⟨b,us,h1,h2,h3,h4⟩:=f.r.mt j ys e
  exact⟨b,us,h1,.inl h2,h3,h4⟩
 ·by_cases hj:j=i
  ·subst hj;rw[se]at e;cases e
  ·rw[ne j hj]at e
   rw[ne' j hj]
   exact f.r.cst j ys e
 ·obtain⟨h1,e1⟩:=own _ _ e1
  obtain⟨h2,e2⟩:=own _ _ e2
  rw[ne' j1 h1]at f1
  rw[ne' j2 h2]at f2
  exact f.r.inj _ _ _ _ b e1 e2 f1 f2
 ·obtain⟨φ,g⟩:=f.r.gr
  refine⟨fun j=>if j=i then X else φ j,fun j x e=>?_⟩
  by_cases hj:j=i
  ·subst hj
   rw[se]at e;cases e
   simp only[if_true]
   refine⟨⟨v,se',h⟩,hn,fun a ha=>.inr ha,fun j' o a z1 z2 ha=>?_,fun j' x' hj' z a ha=>?_⟩
   ·obtain⟨q1,q2⟩:=own j' o z1
    rw[ne' j' q1]at z2
    obtain⟨b,us,h1,h2,_⟩:=f.r.mt j' o q2
    rw[z2]at h1;cases h1
    exact hM a ha h2
   ·rw[if_neg hj']
    intro hq
    rw[ne j' hj']at z
    obtain⟨_,_,q4,_,_⟩:=g j' x' z
    exact hM a ha (q4 a hq)
  ·dsimp only
   simp only[if_neg hj]
   rw[ne j hj]at e
   obtain⟨⟨v',q1,q2⟩,q3,q4,q5,q6⟩:=g j x e
   refine⟨⟨v',by rw[ne' j hj];exact q1,q2⟩,q3,fun a ha=>.inl (q4 a ha),fun j' o a z1 z2=>?_,fun j' x' hj' z a ha=>?_⟩
   ·obtain⟨w1,w2⟩:=own j' o z1
    rw[ne' j' w1]at z2
    exact q5 j' o a w2 z2
   ·by_cases hj2:j'=i
    ·rw[if_pos hj2];exact fun hq=>hM a hq (q4 a ha)
    ·rw[if_neg hj2]
     rw[ne j' hj2]at z
     exact q6 j' x' hj' z a ha
 ·rw[ne' j (jn e)]
  exact f.par j v e
 ·rw[ne j (jn e)]
  exact f.pm j v e
structure EG(K:KW)(t:TE)(f:DX):Prop where
 like:∀τ d t5,f τ=some (d,t5)->Like τ t5
 isl:∀τ d t5,f τ=some (d,t5)->∃ds,d = .list ds
 run:∀S M τ σ H (Q:VK) d t5,R K S M τ σ H->f τ=some (d,t5)->(∀v H' F,R K S M t5 σ H'->Chg M H H'->F.Nodup->(∀a∈F,H a=none)->Dp K S H' d v F->Q v H')->t σ H Q
structure EH(K:KW)(t:TE)(f:DX):Prop where
 like:∀τ d t5,f τ=some (d,t5)->Like τ t5
 run:∀S M τ σ H (Q:VK) d t5,R K S M τ σ H->f τ=some (d,t5)->(∀v H' F,R K S M t5 σ H'->Chg M H H'->F.Nodup->(∀a∈F,H a=none)->Dp K S H' d v F->Q v H')->t σ H Q
def EG.h{t:TE}{f:DX}(h:EG K t f):EH K t f:=⟨h.like,h.run⟩
def aF{S:Addr->Prop}{H H':Hp}{ds:List PyData}{v:V}{F:List Addr}(hn:F.Nodup)(hF:∀a∈F,H a=none)(hS:∀a,H a=none->¬S a)(h:Dp K S H' (.list ds) v F):Res K true S H H' (.list ds) v:=by
 obtain⟨a,vs,G,rfl,rfl,ha,l⟩:=h
 obtain⟨na,nG⟩:=lg.mp hn
 refine⟨.l ds,a,.lst vs,rfl,rfl,hF a (L' ..),ha,vs,rfl,l.is (Ef fun b z=>?_) fun b hb z=>?_⟩
 ·rcases z with z|rfl
  ·exact .inl z
  ·exact .inr ⟨_,ha,.inl ⟨vs,rfl⟩⟩
 ·rcases z with z|rfl
  ·exact hS b (hF b (V' _ hb)) z
  ·exact na hb
def dFx(f:DX)(τ:DS):Option (PyData×DS):=(f τ).bind fun p=>match p.1 with
 |.list ds=>if fixDs ds=true then some p else none
 |_=>none
def L9{f:DX}{τ t5:DS}{d:PyData}(e:dFx f τ=some (d,t5)):∃ds,d = .list ds/\fixDs ds=true/\f τ=some (.list ds,t5):=by
 unfold dFx at e
 obtain⟨⟨x,t4⟩,e1,e⟩:=oB e
 cases x with
 |list ds =>
  have e:(if fixDs ds=true then some (PyData.list ds,t4) else none)=some (d,t5):=e
  split at e
  ·rename_i h
   cases e
   exact⟨ds,rfl,h,e1⟩
  ·cases e
 |_=>cases e
def gh{t:TE}{f:DX}(h:E K t true f):EG K t (dFx f):=by
 refine⟨fun τ d t5 e=>?_,fun τ d t5 e=>?_,?_⟩
 ·obtain⟨ds,rfl,_,e1⟩:=L9 e;exact h.like _ _ _ e1
 ·obtain⟨ds,rfl,_⟩:=L9 e;exact⟨ds,rfl⟩
 intro S M τ σ H Q d t5 r e q
 obtain⟨ds,rfl,fx,e1⟩:=L9 e
 refine h.run S M τ σ H Q _ t5 r e1 fun v H' r' c res=>?_
 obtain⟨o,a,ho,e2,rfl,h1,h2,h3⟩:=res
 obtain rfl:=Ow.D_list e2
 obtain⟨vs,rfl,l⟩:=h3
 exact q _ H' [a] r' c (by simp) (fun b hb=>by rw[ki.mp hb];exact h1) ⟨a,vs,[],rfl,rfl,h2,DpL.fix fx (l.mono (C5 fun b z=>.inl z))⟩
def F5(np i:Nat)(e:DX)(τ:DS):Option Out:=(e τ).bind fun p=>if np<=i/\i<p.2.length/\p.2.all okM=true then some (.nx (p.2.set i (some (.g p.1)))) else none
variable {np:Nat}
def Wm{fr:Bool}{i:Nat}{te:TE}{e:DX}(he:EH K te e):B K np (JU te (FO i)) fr (F5 np i e):=by
 intro F S M τ σ H D out hnp f ee q
 unfold F5 at ee
 obtain⟨⟨x,t4⟩,e1,ee⟩:=oB ee
 dsimp only at ee
 split at ee
 ·rename_i hi
  cases ee
  refine he.run S M τ σ H _ x t4 f.r e1 fun v H1 X r1 c1 hn hX hd=>?_
  have lk:=he.like _ _ _ e1
  have f1:=f.hideG r1 c1 lk hi.2.2 hX hd.lst
  have ts:TSm (hid S H1) (hid (fun b=>S b\/b∈X) H1):=Ef fun b z=>z.elim .inl fun z=>let ⟨vs,e⟩:=hd.lst b z;.inr ⟨_,e,.inl ⟨vs,rfl⟩⟩
  exact q _ _ _ _ (f1.newG hi.2.1 (lA hnp hi.1) (fun a ha=>.inr ha) (fun a ha z=>f.r.fresh (hX a ha) (f.r.sub a z)) (fun a ha=>f.hnone (hX a ha)) hn (DpT.of (hd.mono ts fun _ _=>rfl))) fun b o hn e=>⟨fun z=>z.elim hn (fun z=>by rw[hX b z]at e;cases e),c1 b o (fun z=>hn (f.r.sub b z)) e⟩
 ·cases ee
def eM{fr:Bool}{i:Nat}{te:TE}{e:DX}(he:EG K te e):B K np (JU te (FO i)) fr (F5 np i e):=Wm he.h
def S8(i:Nat)(τ:DS):Option Out:=match τ[i]? with
 |some (some (.g (.list ds)))=>some (.rt (.list ds) τ)
 |_=>none
def eP{fr:Bool}{i:Nat}:B K np (TY (Dq i)) fr (S8 i):=by
 intro F S M τ σ H D out hnp f ee q
 unfold S8 at ee
 split at ee
 ·rename_i ds hi
  cases ee
  obtain⟨v,X,hv,hd,hn,hM,ho,_⟩:=YH f.r hi
  have nf:∀a∈X,F.H a=none:=fun a ha=>by
   rcases f.new a (hM a ha)with z|z
   ·obtain⟨j,hj⟩:=f.fma a z
    obtain⟨o,e⟩:=f.pm j _ hj
    exact absurd ha (ho j o a e (f.par j _ hj))
   ·exact z
  have nS:∀a,F.H a=none->¬F.S a:=fun a e z=>by
   obtain⟨o,h⟩:=f.fs a z
   rw[e]at h;cases h
  refine⟨v,hv,q S M σ H v f ?_⟩
  have hd':Dp K F.S H (.list ds) v X:=hd.mono (tsS (C5 f.sS)) fun _ _=>rfl
  cases fr with
  |false=>exact hd'.is .refl fun a ha=>nS a (nf a ha)
  |true=>exact aF hn nf nS hd'
 ·cases ee
variable {K:KW}
def spG(K:KW)(G:List L->Option (PyData×List L)):Sp:=fun vs H Q _=>∃(S:Addr->Prop) (ds:List PyData) (r:PyData) (ls':List L),R K S (fun _=>False) ((ds.map L.d).map some) (vs.map some) H/\G (ds.map L.d)=some (r,ls') /\
 ∀v H' F,Same H H'->F.Nodup->(∀a∈F,H a=none)->Dp K S H' r v F->Q v H'
def YN{G:List L->Option (PyData×List L)}{t:TA}{a:DA}{X:XK}(ha:A K t a):EH K (En (spG K G) [] X t) (AB G a):=by
 refine⟨fun τ d t5 e=>?_,?_⟩
 ·unfold AB at e
  obtain⟨⟨x,t4⟩,e1,e⟩:=oB e
  obtain⟨ds,e2,e⟩:=oB e
  obtain⟨z,e3,e⟩:=oM e
  cases e;exact ha.like _ _ _ e1
 intro S M τ σ H Q d t5 rr e q
 unfold AB at e
 obtain⟨⟨x,t4⟩,e1,e⟩:=oB e
 obtain⟨ds,e2,e⟩:=oB e
 obtain⟨⟨z,ls'⟩,e3,e⟩:=oM e
 cases e
 refine ha.run S M τ σ H _ x _ rr e1 fun vs H1 r1 c1 i1=>?_
 have l:=CJ i1 e2
 show spG K G (vs++[]) H1 Q X
 rw[ku]
 refine⟨S,ds,_,ls',RI r1 l,e3,fun v H' F s hn hF hd=>?_⟩
 exact q v H' F (r1.same s) (c1.trans (.of s)) hn (fun a ha=>r1.none c1 (hF a ha)) hd
variable {K:KW}
variable {K:KW}
def Cn(f:DX)(lo hi:DO)(τ:DS):Option (PyData×DS):=(f τ).bind fun p=>(lo p.2).bind fun l=>(hi l.2).bind fun u=>match p.1 with
 |.tuple xs=>if HT.sIx xs.length 0 l.1=0/\HT.sIx xs.length xs.length u.1=xs.length then none else some (.tuple (Jg xs l.1 u.1),u.2)
 |_=>none
def gk{fr:Bool}{te:TE}{tl th:TO}{f:DX}{lo hi:DO}(h:E K te fr f)(hl:OO K tl lo)(hh:OO K th hi):E K (tSl (aG K) te tl th) false (Cn f lo hi):=by
 refine⟨fun τ d t5 e=>?_,?_⟩
 ·unfold Cn at e
  obtain⟨⟨x,t4⟩,e1,e⟩:=oB e
  obtain⟨⟨l,t7⟩,e2,e⟩:=oB e
  obtain⟨⟨u,n9⟩,e3,e⟩:=oB e
  dsimp only at e
  split at e
  ·split at e
   ·cases e
   ·cases e;exact((h.like _ _ _ e1).trans (hl.like _ _ _ e2)).trans (hh.like _ _ _ e3)
  ·cases e
 intro S M τ σ H Q d t5 r e q
 unfold Cn at e
 obtain⟨⟨x,t4⟩,e1,e⟩:=oB e
 obtain⟨⟨l,t7⟩,e2,e⟩:=oB e
 obtain⟨⟨u,n9⟩,e3,e⟩:=oB e
 dsimp only at e e2 e3
 cases x with
 |tuple xs =>
  dsimp only at e
  split at e
  ·cases e
  ·rename_i hw
   cases e
   refine h.run S M τ σ H _ _ _ r e1 fun v1 H1 r1 c1 i1=>?_
   refine hl.run S M t4 σ H1 _ _ _ r1 e2 fun H2 r2 c2=>?_
   refine hh.run S M t7 σ H2 _ _ _ r2 e3 fun H3 r3 c3=>?_
   have i1':Is K (hid S H3) (.tuple xs) v1:=((r.isr i1).mono (c2.keep r1.sub).same).mono (c3.keep r2.sub).same
   obtain⟨a,vs,rfl,ha,la⟩:=i1'
   refine⟨a,vs,rfl,Same.tup same_hid ha,by rw[la.length];exact hw,fun p hp=>?_⟩
   have s:=Ax hp (HO.tup (Mj vs l u))
   exact q _ _ (r3.same s) (((c1.trans c2).trans c3).trans (.of s)) ⟨p,_,rfl,SqT.of (hid_iff.mpr ⟨r3.fresh hp,Ah⟩),(Su la).mono (Same.keep s).same⟩
 |_=>cases e
def iz{np:Nat}{fr fe:Bool}{i:Nat}{te:TE}{e:DX}(he:E K te fe e):B K np (fS i te (ipI fun i j=>i+j)) fr (AI (dOp Ay (AJ i) e) (dN i)):=TM (tg:=FO i) (OJ ZX Lw he) E2
end DL
end
section
namespace DL
open PySem L2 PyProof.Rows
def Ks:List (Str×V)->Str->Option V
 |[],_=>none
 |t::r,k=>if t.1=k then some t.2 else Ks r k
def Lb(ts:List (Str×V))(k:Str)(v:V):List (Str×V):=if ts.any (fun t=>decide (t.1=k))=true then ts.map (fun t=>if t.1=k then (t.1,v) else t) else ts++[(k,v)]
def Lu{k:Str}:∀{ts:List (Str×V)} {vs:List (Key×Value)},KV (txK ts) vs->(match Ks ts k with
  |some v=>∃u,valueAt vs (Sum.inr k)=some u/\RelV v u
  |none=>valueAt vs (Sum.inr k)=none)
 |[],vs,h=>by cases (show Paired _ [] vs from h);rfl
 |t::ts,vs,h=>by
  cases (show Paired _ ((Sum.inr t.1,t.2)::txK ts) vs from h) with
  |@cons _ q _ qs h1 h2 =>
   obtain⟨e1,e2⟩:=h1
   have ih:=Lu (k:=k) (ts:=ts) h2
   unfold Ks
   by_cases e:t.1=k
   ·rw[if_pos e]
    have e':q.1=Sum.inr k:=by rw[<- e1,e]
    exact⟨q.2,by simp[valueAt,List.find?_cons,e'],e2⟩
   ·rw[if_neg e]
    have e':¬q.1=Sum.inr k:=fun z=>e (by have:=e1.trans z;exact nP this)
    have:valueAt (q::qs) (Sum.inr k)=valueAt qs (Sum.inr k):=by simp[valueAt,List.find?_cons,e']
    rw[this];exact ih
def X8{k:Str}{ts:List (Str×V)}{vs:List (Key×Value)}(h:KV (txK ts) vs):(valueAt vs (Sum.inr k)).isSome=(Ks ts k).isSome:=by
 have g:=Lu (k:=k) h
 cases e:Ks ts k with
 |none=>rw[e]at g;rw[show valueAt vs (Sum.inr k)=none from g];rfl
 |some v=>rw[e]at g;obtain⟨u,hu,_⟩:=g;rw[hu];rfl
def jT{k:Str}:∀{ts:List (Str×V)} {vs:List (Key×Value)},KV (txK ts) vs->(vs.any fun kv=>decide (kv.1=Sum.inr k))=ts.any fun t=>decide (t.1=k)
 |[],vs,h=>by cases (show Paired _ [] vs from h);rfl
 |t::ts,vs,h=>by
  cases (show Paired _ ((Sum.inr t.1,t.2)::txK ts) vs from h) with
  |@cons _ q _ qs h1 h2 =>
   rw[nI,nI,jT (k:=k) (ts:=ts) h2,<- h1.1]
   congr 1
   by_cases e:t.1=k
   ·rw[e];simp
   ·rw[decide_eq_false e,decide_eq_false (fun z=>e (nP z))]
def gM{k:Str}{v:V}{u:Value}(hv:RelV v u):∀{ts:List (Str×V)} {vs:List (Key×Value)},KV (txK ts) vs->KV (txK (ts.map fun t=>if t.1=k then (t.1,v) else t)) (vs.map fun kv=>if kv.1=Sum.inr k then (kv.1,u) else kv)
 |[],vs,h=>by cases (show Paired _ [] vs from h);exact .nil
 |t::ts,vs,h=>by
  cases (show Paired _ ((Sum.inr t.1,t.2)::txK ts) vs from h) with
  |@cons _ q _ qs h1 h2 =>
   refine .cons ?_ (gM hv (ts:=ts) h2)
   obtain⟨e1,e2⟩:=h1
   dsimp only at e1 e2 ⊢
   by_cases e:t.1=k
   ·rw[if_pos e,if_pos (by rw[<- e1,e])];exact⟨e1,hv⟩
   ·rw[if_neg e,if_neg (fun z=>e (nP (e1.trans z)))];exact⟨e1,e2⟩
def jQ{k:Str}{v:V}{u:Value}(hv:RelV v u):∀{ts:List (Str×V)} {vs:List (Key×Value)},KV (txK ts) vs->KV (txK (ts++[(k,v)])) (vs++[(Sum.inr k,u)])
 |[],vs,h=>by cases (show Paired _ [] vs from h);exact .cons ⟨rfl,hv⟩ .nil
 |t::ts,vs,h=>by
  cases (show Paired _ ((Sum.inr t.1,t.2)::txK ts) vs from h) with
  |@cons _ q _ qs h1 h2=>exact .cons h1 (jQ hv (ts:=ts) h2)
def VF{k:Str}{v:V}{u:Value}{ts:List (Str×V)}{vs:List (Key×Value)}(hv:RelV v u)(h:KV (txK ts) vs):KV (txK (Lb ts k v)) (stored vs (Sum.inr k) u):=by
 unfold Lb stored
 rw[jT h]
 split
 ·exact gM hv h
 ·exact jQ hv h
def ju{ts:List (Str×V)}{vs:List (Key×Value)}(h:KV (txK ts) vs):ts.length=vs.length:=by
 have:=Paired.length h
 unfold txK at this
 rw[B']at this
 exact this
def VG(ts:List (Str×V))(k:Str)(v:V):(Lb ts k v).length<=ts.length+1:=by
 unfold Lb
 split
 ·rw[B'];omega
 ·rw[T'];exact X' _
section
variable {X:Cx} {pins:List (Addr×Obj)} {σ:L2.St} {H:Hp} {s:Shared}
def WM(I:Inv X pins σ H s){a:Addr}{ts:List (Str×V)}(h:H a=some (.dK (txK ts))):ts.length<=sizeLine/\(a==sysModules)=false/\∃vs,KV (txK ts) vs/\s.heap.DictOf (JA X.prog X.w) a vs:=by
 obtain⟨h1,h2,vs,h3,h4⟩:=(show ObjOk X.prog X.w H s.heap a (.dK (txK ts)) from I.hok a _ h)
 refine⟨?_,h2,vs,h3,h4⟩
 unfold txK at h1
 rw[B']at h1
 exact h1
end
def N7{P:Program}{w:World}{k:Str}{u:Value}(h:RelV (.str k) u):(JA P w).is (Sum.inr k) u=true:=by
 obtain⟨t,rfl⟩:=h
 exact PU P w k t
def fX:R2:=fun x y H Q=>∃a ts k v,x = .ref a/\y = .str k/\H a=some (.dK (txK ts))/\Ks ts k=some v/\Q v H
def jw{X:Cx}:IxR X fX:=by
 intro value slice pins s σ H x y v u Q I rx ry h hs
 obtain⟨a,ts,k,z,rfl,rfl,hq,e,q⟩:=h
 cases rx
 obtain⟨h1,h2,vs,pr,dd⟩:=WM I hq
 have g:=Lu (k:=k) pr
 rw[e]at g
 obtain⟨p,hp,rp⟩:=g
 exact tail_any dd.mapOf.typeIs PySem.F.slot_dict_getitem.lookup (wpAny_getItem_of (N7 ry) dd.mapOf hp ⟨z,H,I.tok _,rp,q⟩) hs
def fZ(neg:Bool):R2:=fun y x H Q=>∃a ts k,x = .ref a/\y = .str k/\H a=some (.dK (txK ts))/\Q (.bl (neg != (Ks ts k).isSome)) H
def ag{X:Cx}:OpR X (compareOp .In) (fZ false):=by
 intro pins s σ H x y v u Q I rx ry h
 obtain⟨a,ts,k,rfl,rfl,hq,q⟩:=h
 cases ry
 obtain⟨h1,h2,vs,pr,dd⟩:=WM I hq
 refine wpAny_in_of (N7 rx) h2 dd.mapOf ?_
 rw[X8 pr]
 exact⟨.bl _,H,I.tok _,rfl,by simpa using q⟩
def ZT:V->V->V->Hp->(Hp->Prop)->Prop:=fun o i v H Q=>∃a ts k,o = .ref a/\i = .str k/\H a=some (.dK (txK ts))/\ts.length<sizeLine/\Q (upd H a (.dK (txK (Lb ts k v))))
def fV{X:Cx}:eo X ZT:=by
 intro pins s σ H o i v ov iv u Q I ro ri rv h
 obtain⟨a,ts,k,rfl,rfl,hq,hl,q⟩:=h
 cases ro
 obtain⟨h1,h2,vs,pr,dd⟩:=WM I hq
 have hz:vs.length<=sizeLine:=by rw[<- ju pr];exact h1
 refine wpAny_setItem_pairs (hsz:=hz) (N7 ri) dd fun h' dd' hs=>⟨_,?_,q⟩
 have he:∃q,h'.get? a=some q:=let ⟨q,_,_,hq,_⟩:=dd';⟨q,hq⟩
 refine I.write (x:=a) (e:=a) (by rw[hq];exact True.intro) (.inl rfl) (fun c z hc e=>(hs.2 c hc).trans e) he ?_
 have hl2:=VG ts k v
 exact⟨by unfold txK;rw[B'];omega,h2,_,VF rv pr,dd'⟩
def ZO:TE:=fun _ H Q=>∀p,H p=none->Q (.ref p) (upd H p (.dK (txK [])))
def Xf{X:Cx}{pos:Pos}:PE X (.Dict [] [] pos) ZO:=fun pins s σ H Q I h=>by
 have hb:sysModules<s.heap.objs.size:=Nat.lt_trans (by decide) (show mainGlobals<s.heap.objs.size from(I.mod.glob.keeps I.bk).lt)
 refine wpAny_Dict_empty ⟨.ref s.heap.objs.size,_,I.laid (a:=s.heap.objs.size) (o:=.dK (txK [])) (t':=s.toks) (fun _ _ q=>U' _ q) (X' _) ?_,rfl,h _ (I.hok.fresh (X' _))⟩
 exact⟨lW _,beq_eq_false_iff_ne.mpr (Ne.symm (lE hb)),[],.nil,Heap.DictOf.new s.heap⟩
end DL
end
section
namespace DL
open PySem L2
variable {K:KW}
def ML{S M:Addr->Prop}{τ:DS}{σ:St}{H:Hp}(r:R K S M τ σ H){i:Nat}{d:PyData}(hi:τ[i]?=some (some (.g d))) :
  ∃v F,σ[i]?=some (some v)/\DpT K S H d v F/\(∀a∈F,M a)/\∀(H':Hp) (d':PyData),Chg (fun b=>b∈F) H H'->(∀a∈F,∃o,H' a=some o)->DpT K S H' d' v F->R K S M (τ.set i (some (.g d'))) σ H':=by
 obtain⟨φ,g⟩:=r.gr
 obtain⟨⟨v,g1,g2⟩,g3,g4,g5,g6⟩:=g i d hi
 refine⟨v,φ i,g1,g2,g4,fun H' d' c ho hd=>?_⟩
 have hlt:i<τ.length:=(R'.mp hi).1
 have ne:∀j,j≠i->(τ.set i (some (.g d')))[j]?=τ[j]?:=fun j hj=>W' (Ne.symm hj)
 have se:(τ.set i (some (.g d')))[i]?=some (some (.g d')):=Z' hlt
 have k:Keep S H S H':=c.keep fun b hb=>r.sub b (g4 b hb)
 have own:∀(j:Nat) (ys:Ow),(τ.set i (some (.g d')))[j]?=some (some ys.L)->j≠i/\τ[j]?=some (some ys.L):=fun j ys e=>by
  by_cases hj:j=i
  ·subst hj;rw[se]at e;exact absurd (J' (J' e)).symm Ow.not_g
  ·rw[ne j hj]at e;exact⟨hj,e⟩
 refine⟨by rw[kj];exact r.len,fun j x e=>?_,fun j ys e=>?_,fun j ys e=>?_,fun j1 j2 ys zs b e1 e2 f1 f2=>r.inj _ _ _ _ b (own _ _ e1).2 (own _ _ e2).2 f1 f2,r.sub,fun a h=>?_,?_⟩
 ·by_cases hj:j=i
  ·subst hj;rw[se]at e;cases e
  ·rw[ne j hj]at e
   obtain⟨u,h1,h2⟩:=r.dat j x e
   exact⟨u,h1,h2.mono k.same⟩
 ·obtain⟨hj,e⟩:=own j ys e
  obtain⟨b,us,h1,h2,h3,h4⟩:=r.mt j ys e
  exact⟨b,us,h1,h2,c b _ (g5 j ys b e h1) h3,h4.mono k.same⟩
 ·by_cases hj:j=i
  ·subst hj;rw[se]at e;cases e
  ·rw[ne j hj]at e
   obtain⟨b,us,h1,h2,h3⟩:=r.cst j ys e
   exact⟨b,us,h1,k.same.seq h2,h3.mono k.same⟩
 ·by_cases hb:a∈φ i
  ·exact ho a hb
  ·obtain⟨o,e⟩:=r.ex a h
   exact⟨o,c a o hb e⟩
 ·refine⟨φ,fun j x e=>?_⟩
  by_cases hj:j=i
  ·subst hj
   rw[se]at e;cases e
   refine⟨⟨v,g1,hd⟩,g3,g4,fun j' o a z1 z2=>g5 j' o a (own j' o z1).2 z2,fun j' x' hj' z=>?_⟩
   rw[ne j' hj']at z
   exact g6 j' x' hj' z
  ·rw[ne j hj]at e
   obtain⟨⟨v',q1,q2⟩,q3,q4,q5,q6⟩:=g j x e
   have on:∀a∈φ j,H' a=H a:=fun a ha=>by
    obtain⟨o,e'⟩:=r.ex a (r.sub a (q4 a ha))
    rw[e'];exact c a o (fun z=>q6 i d (Ne.symm hj) hi a ha z) e'
   refine⟨⟨v',q1,q2.mono (tsS k.same) on⟩,q3,q4,fun j' o a z1 z2=>q5 j' o a (own j' o z1).2 z2,fun j' x' hj' z=>?_⟩
   by_cases hj2:j'=i
   ·subst hj2;exact q6 j' d hj' hi
   ·rw[ne j' hj2]at z;exact q6 j' x' hj' z
def S9(np i:Nat)(τ:DS):Option Out:=if np<=i/\i<τ.length then some (.nx (τ.set i (some (.g (.dict []))))) else none
def eS{np:Nat}{fr:Bool}{i:Nat}:B K np (JU ZO (FO i)) fr (S9 np i):=by
 intro F S M τ σ H D out hnp f ee q
 unfold S9 at ee
 split at ee
 ·rename_i hi
  cases ee
  intro a ha
  have s:=Ax ha (HO.dK (txK []))
  have f1:=f.hide s ha ⟨_,Ah⟩
  have hM:¬M a:=fun z=>f.r.fresh ha (f.r.sub a z)
  refine q _ _ _ _ (f1.newG (X:=[a]) hi.2 (lA hnp hi.1) (fun b hb=>.inr (ki.mp hb)) (fun b hb=>by rw[ki.mp hb];exact hM) (fun b hb=>by rw[ki.mp hb];exact f.hnone ha) (by simp) ⟨a,[],rfl,rfl,Ah,rfl⟩) fun b o hn e=>⟨fun z=>z.elim hn (A0 e ha),s b o e⟩
 ·cases ee
def IG:List (PyData×PyData)->Str->Option PyData
 |[],_=>none
 |(.str x,d)::r,k=>if x=k then some d else IG r k
 |_::r,k=>IG r k
def OE{H:Hp}{k:Str}:∀{kvs:List (PyData×PyData)} {ts:List (Str×V)},IsX K H kvs ts->(match IG kvs k with
  |some d=>∃v,Ks ts k=some v/\Is K H d v/\Cs d=true
  |none=>Ks ts k=none)
 |[],_,h=>by rw[show _=[] from h];rfl
 |(_,d)::r,_,⟨t,tr,e,ek,f,h,l⟩=>by
  subst e ek
  have ih:=OE (k:=k) l
  unfold IG Ks
  by_cases e:t.1=k
  ·rw[if_pos e,if_pos e];exact⟨t.2,rfl,h,f⟩
  ·rw[if_neg e,if_neg e];exact ih
def Ru(i:Nat)(f:DX)(τ:DS):Option (PyData×DS):=match τ[i]? with
 |some (some (.g (.dict _)))=>(f τ).bind fun p=>match p.1,p.2[i]? with
  |.str k,some (some (.g (.dict kvs)))=>(IG kvs k).map fun d=>(d,p.2)
  |_,_=>none
 |_=>none
def gw{i:Nat}{fr:Bool}{tb:TE}{f:DX}(h:E K tb fr f):E K (tOp fX (Dq i) tb) false (Ru i f):=by
 refine⟨fun τ d t5 e=>?_,?_⟩
 ·unfold Ru at e
  split at e
  ·obtain⟨⟨x,t4⟩,e1,e⟩:=oB e
   dsimp only at e
   split at e
   ·obtain⟨z,e3,e⟩:=oM e
    cases e;exact h.like _ _ _ e1
   ·cases e
  ·cases e
 intro S M τ σ H Q d t5 r e q
 unfold Ru at e
 split at e
 ·rename_i kv0 h0
  obtain⟨⟨x,t4⟩,e1,e⟩:=oB e
  dsimp only at e
  split at e
  ·rename_i k kvs hk
   obtain⟨z,e3,e⟩:=oM e
   cases e
   obtain⟨v0,F0,hv0,_⟩:=ML r h0
   refine⟨v0,hv0,h.weak.run S M τ σ H _ _ _ r e1 fun u H1 r1 c1 i1=>?_⟩
   obtain⟨v1,F1,hv1,⟨a,ts,ea,_,hH,l⟩,_⟩:=ML r1 hk
   rw[hv0]at hv1;cases hv1
   subst ea
   have g:=OE (k:=k) l
   rw[e3]at g
   obtain⟨v,gv,iv,_⟩:=g
   exact⟨a,ts,k,v,rfl,i1,hH,gv,q v H1 r1 c1 iv⟩
  ·cases e
 ·cases e
def Rv(neg:Bool)(f:DX)(i:Nat)(τ:DS):Option (PyData×DS):=(f τ).bind fun p=>match p.1,p.2[i]? with
 |.str k,some (some (.g (.dict kvs)))=>some (.bool (neg != (IG kvs k).isSome),p.2)
 |_,_=>none
def gz{neg:Bool}{i:Nat}{fr:Bool}{ta:TE}{f:DX}(h:E K ta fr f):E K (tOp (fZ neg) ta (Dq i)) false (Rv neg f i):=by
 refine⟨fun τ d t5 e=>?_,?_⟩
 ·unfold Rv at e
  obtain⟨⟨x,t4⟩,e1,e⟩:=oB e
  dsimp only at e
  split at e
  ·cases e;exact h.like _ _ _ e1
  ·cases e
 intro S M τ σ H Q d t5 r e q
 unfold Rv at e
 obtain⟨⟨x,t4⟩,e1,e⟩:=oB e
 dsimp only at e
 split at e
 ·rename_i k kvs hk
  cases e
  refine h.weak.run S M τ σ H _ _ _ r e1 fun u H1 r1 c1 i1=>?_
  obtain⟨v1,F1,hv1,⟨a,ts,ea,_,hH,l⟩,_⟩:=ML r1 hk
  subst ea
  have g:=OE (k:=k) l
  have eq:(Ks ts k).isSome=(IG kvs k).isSome:=by
   cases z:IG kvs k with
   |none=>rw[z]at g;rw[show Ks ts k=none from g];rfl
   |some y=>rw[z]at g;obtain⟨v,gv,_⟩:=g;rw[gv];rfl
  refine⟨.ref a,hv1,a,ts,k,rfl,i1,hH,?_⟩
  rw[eq]
  exact q _ H1 r1 c1 rfl
 ·cases e
def RK(kvs:List (PyData×PyData))(k:Str)(d:PyData):List (PyData×PyData):=if (IG kvs k).isSome=true then kvs.map (fun p=>match p with
  |(.str x,y)=>if x=k then (.str x,d) else (.str x,y)
  |p=>p) else kvs++[(.str k,d)]
def jU{H:Hp}{k:Str}:∀{kvs:List (PyData×PyData)} {ts:List (Str×V)},IsX K H kvs ts->(ts.any fun t=>decide (t.1=k))=(IG kvs k).isSome
 |[],_,h=>by rw[show _=[] from h];rfl
 |(_,d)::r,_,⟨t,tr,e,ek,f,h,l⟩=>by
  subst e ek
  unfold IG
  rw[nI,jU (k:=k) l]
  by_cases e:t.1=k
  ·rw[if_pos e,decide_eq_true e];rfl
  ·rw[if_neg e,decide_eq_false e,Bool.false_or]
def gN{H:Hp}{k:Str}{d:PyData}{v:V}(fd:Cs d=true)(hv:Is K H d v):∀{kvs:List (PyData×PyData)} {ts:List (Str×V)},IsX K H kvs ts->IsX K H (kvs.map fun p=>match p with
  |(.str x,y)=>if x=k then (.str x,d) else (.str x,y)
  |p=>p) (ts.map fun t=>if t.1=k then (t.1,v) else t)
 |[],_,h=>by rw[show _=[] from h];rfl
 |(_,y)::r,_,⟨t,tr,e,ek,f,h,l⟩=>by
  subst e ek
  have ih:=gN (k:=k) fd hv l
  rw[kg,kg]
  dsimp only
  by_cases e:t.1=k
  ·rw[if_pos e,if_pos e];exact⟨_,_,rfl,rfl,fd,hv,ih⟩
  ·rw[if_neg e,if_neg e];exact⟨_,_,rfl,rfl,f,h,ih⟩
def jR{H:Hp}{k:Str}{d:PyData}{v:V}(fd:Cs d=true)(hv:Is K H d v):∀{kvs:List (PyData×PyData)} {ts:List (Str×V)},IsX K H kvs ts->IsX K H (kvs++[(.str k,d)]) (ts++[(k,v)])
 |[],_,h=>by rw[show _=[] from h];exact⟨_,_,rfl,rfl,fd,hv,rfl⟩
 |(_,y)::r,_,⟨t,tr,e,ek,f,h,l⟩=>by
  subst e ek
  exact⟨_,_,rfl,rfl,f,h,jR fd hv l⟩
def XS{H:Hp}{k:Str}{d:PyData}{v:V}{kvs:List (PyData×PyData)}{ts:List (Str×V)}(fd:Cs d=true)(hv:Is K H d v)(h:IsX K H kvs ts):IsX K H (RK kvs k d) (Lb ts k v):=by
 unfold RK Lb
 rw[jU h]
 split
 ·exact gN fd hv h
 ·exact jR fd hv h
def Sj{H:Hp}:∀{kvs:List (PyData×PyData)} {ts:List (Str×V)},IsX K H kvs ts->ts.length=kvs.length
 |[],_,h=>by rw[show _=[] from h];rfl
 |(_,_)::_,_,⟨t,tr,e,_,_,_,l⟩=>by subst e;rw[kX,kX,Sj l]
def L7(i:Nat)(e k:DX)(τ:DS):Option Out:=(e τ).bind fun p=>match p.2[i]? with
 |some (some (.g (.dict _)))=>(k p.2).bind fun q=>match q.1,q.2[i]? with
  |.str x,some (some (.g (.dict kvs)))=>if Cs p.1=true/\kvs.length<sizeLine then some (.nx (q.2.set i (some (.g (.dict (RK kvs x p.1)))))) else none
  |_,_=>none
 |_=>none
def eQ{np:Nat}{fr f1 f2:Bool}{i:Nat}{te tk:TE}{e k:DX}(he:E K te f1 e)(hk:E K tk f2 k):B K np (JU te (bT (Dq i) tk ZT)) fr (L7 i e k):=by
 intro F S M τ σ H D out hnp f ee q
 unfold L7 at ee
 obtain⟨⟨x,t4⟩,e1,ee⟩:=oB ee
 dsimp only at ee
 split at ee
 ·rename_i kv0 h0
  obtain⟨⟨y,t7⟩,e2,ee⟩:=oB ee
  dsimp only at ee
  split at ee
  ·rename_i z kvs h2
   split at ee
   ·rename_i hc
    cases ee
    refine he.weak.run S M τ σ H _ x t4 f.r e1 fun v H1 r1 c1 i1=>?_
    obtain⟨v0,F0,hv0,_⟩:=ML r1 h0
    refine⟨v0,hv0,hk.weak.run S M t4 σ H1 _ _ t7 r1 e2 fun u H2 r2 c2 i2=>?_⟩
    obtain⟨v1,F1,hv1,⟨a,ts,ea,eF,hH,l⟩,hM,go⟩:=ML r2 h2
    rw[hv0]at hv1;cases hv1
    subst ea eF
    have Sa:S a:=r2.sub a (hM a (mG a))
    refine⟨a,ts,z,rfl,i2,hH,by rw[Sj l];exact hc.2,?_⟩
    have iv:Is K (hid S H2) x v:=Is.mono (c2.keep r1.sub).same i1
    have c3:Chg (fun b=>b∈[a]) H2 (upd H2 a (.dK (txK (Lb ts z v)))):=fun b o hn e=>by rw[Aq (fun w=>hn (by rw[w];exact mG a))];exact e
    have r3:=go (upd H2 a (.dK (txK (Lb ts z v)))) (.dict (RK kvs z x)) c3 (fun b hb=>by rw[ki.mp hb];exact⟨_,Ah⟩) ⟨a,Lb ts z v,rfl,rfl,Ah,by rw[Hg Sa];exact XS hc.1 iv l⟩
    have c4:Chg M H (upd H2 a (.dK (txK (Lb ts z v)))):=(c1.trans c2).trans fun b o hn e=>c3 b o (fun w=>hn (by rw[ki.mp w];exact hM a (mG a))) e
    have lk:=(he.like _ _ _ e1).trans (hk.like _ _ _ e2)
    refine q S M σ _ ⟨r3,f.sS,fun b o e n=>c4 b o (fun w=>(f.new b w).elim n fun y=>by rw[y]at e;cases e) (f.old b o e n),f.new,f.fm,f.fs,f.fsub,f.snew,f.par,fun j v' e=>?_,f.fma⟩ (c4.keep f.r.sub)
    obtain⟨o,ho'⟩:=f.pm j v' e
    obtain⟨o2,h2'⟩:=(lk.own j).mpr ⟨o,ho'⟩
    have hj:j≠i:=fun w=>by subst w;rw[h2]at h2';exact Ow.not_g (J' (J' h2')).symm
    exact⟨o2,by rw[W' (Ne.symm hj)];exact h2'⟩
   ·cases ee
  ·cases ee
 ·cases ee
end DL
namespace L2
open PySem
def Tj{X:Cx}{k:Nat}{ps:List Str}{sp:Sp}{x:Str}{p pos:Pos}(C:Cal X.prog X.w X.K X.mg X.base k x ps sp)(hr:Room k X.A)(hg:Gl X x)(hdb:(x==("__debug__":Str))=false:=by decide):PE X (.Call (.Name x p) [] [] pos) (En sp [] E0 Em):=by
 obtain⟨f,fd,F,b,kp,m⟩:=C.ex
 exact Vc F hr hg m kp b .nil Ve hdb
end L2
end
section
namespace DL
open PySem L2
variable {K:KW}
def T7{τ t4:DS}{i:Nat}{d:PyData}(hi:τ[i]?=some (some (.g d)))(lk:Like (τ.set i (some (.d d))) t4):Like τ (t4.set i (some (.g d))):=by
 have hlt:i<τ.length:=(R'.mp hi).1
 have hl1:t4.length=τ.length:=by have:=lk.1;rw[kj]at this;exact this
 refine⟨by rw[kj];exact hl1,fun j=>?_⟩
 by_cases hj:j=i
 ·subst hj
  rw[Z' (by omega),hi]
  exact⟨⟨fun x=>mC,fun x=>mC⟩,fun b=>mC⟩
 ·have:=lk.2 j
  rw[W' (Ne.symm hj)]at this ⊢
  exact this
def NN{S M:Addr->Prop}{τ t4:DS}{σ:St}{H H':Hp}{i:Nat}{d:PyData}{v:V}{F:List Addr}(r:R K S M τ σ H)(hi:τ[i]?=some (some (.g d)))(hv:σ[i]?=some (some v))(hd:Dp K S H d v F)(hn:F.Nodup)(hM:∀a∈F,M a)
  (ho:∀(j:Nat) (o:Ow) (a:Addr),τ[j]?=some (some o.L)->σ[j]?=some (some (.ref a))->a∉F) (r1:R K (fun b=>S b/\b∉F) (fun b=>M b/\b∉F) t4 σ H') (lk:Like (τ.set i (some (.d d))) t4) (c:Chg (fun b=>M b/\b∉F) H H') (ok:t4.all okM=true) :
  R K S M (t4.set i (some (.g d))) σ H'/\TSm (hid (fun b=>S b/\b∉F) H') (hid S H'):=by
 have on:∀a∈F,H' a=H a:=fun a ha=>by
  obtain⟨vs,z⟩:=hd.lst a ha
  rw[z];exact c a _ (fun z=>z.2 ha) z
 have kp:Keep S H S H':=fun b o h z=>⟨h,c b o (fun z=>h (r.sub b z.1)) z⟩
 have l3:∀a∈F,∃vs,H' a=some (.lst vs):=fun a ha=>by rw[on a ha];exact hd.lst a ha
 refine⟨Z3 (H4:=H') r hi hv hn hM ho r1 lk c ok l3 (fun _ _=>rfl) (hd.mono (tsS kp.same) on),fun b o e nl ne=>?_⟩
 obtain⟨e1,e2⟩:=hid_iff.mp e
 have hb:b∉F:=fun z=>by
  obtain⟨vs,q⟩:=l3 b z
  rw[e2]at q;cases q;exact nl _ rfl
 exact hid_iff.mpr ⟨fun z=>e1 ⟨z,hb⟩,e2⟩
variable {K:KW} {np:Nat}
variable {K:KW}
end DL
end
section
namespace DL
open PySem L2 PyProof.Rows
variable {K:KW}
def Fd:List PyData->Option (List Bool)
 |[]=>some []
 |.bool b::r=>(Fd r).map (b::·)
 |_::_=>none
def IM:∀{bs:List Bool} {us:List Value},Vals (bs.map V.bl) us->us=bs.map Value.bool
 |[],_,.nil=>rfl
 |b::bs,_,.cons z zs=>by rw[IM zs,show _=Value.bool b from z];rfl
def MF{H:Hp}:∀{ds:List PyData} {vs:List V} {bs:List Bool},IsL K H ds vs->Fd ds=some bs->vs=bs.map V.bl
 |[],_,_,h,e=>by cases e;exact h
 |.bool b::r,_,_,⟨v,us,e1,iv,l⟩,e=>by
  obtain⟨ms,e2,e⟩:=oM e
  subst e
  cases (show v = .bl b from iv)
  rw[e1,MF l e2]
  rfl
 |.none::_,_,_,_,e=>by cases e
 |.int _::_,_,_,_,e=>by cases e
 |.str _::_,_,_,_,e=>by cases e
 |.list _::_,_,_,_,e=>by cases e
 |.tuple _::_,_,_,_,e=>by cases e
 |.dict _::_,_,_,_,e=>by cases e
def U9:∀bs:List Bool,(List.range bs.length).map (fun i=>bs.getD i false)=bs:=fun bs=>by
 refine List.ext_getElem (by simp) fun i h1 h2=>?_
 simp[List.getElem_map,h2]
def Tb(bs:List Bool):(List.range bs.length).all (fun i=>bs.getD i false)=bs.all id:=by
 have h:=congrArg (fun l:List Bool=>l.all id) (U9 bs)
 rw[List.all_map]at h
 exact h
def Ta(bs:List Bool):(List.range bs.length).any (fun i=>bs.getD i false)=bs.any id:=by
 have h:=congrArg (fun l:List Bool=>l.any id) (U9 bs)
 rw[List.any_map]at h
 exact h
def Jw{P:Program}{w:World}{A:Around}(bs:List Bool):TruthOf P w A (fun i v=>(bs.map Value.bool).toArray[i]?=some v) (fun i=>bs.getD i false):=by
 intro i v s Q E hP hQ
 rw[List.getElem?_toArray,O']at hP
 obtain⟨b,hb,rfl⟩:=oM hP
 refine wpAny_truthy_bool ?_
 have e:bs.getD i false=b:=by rw[nD,hb];rfl
 dsimp only at hQ
 rwa [e]at hQ
def SY(K:KW):List V->Hp->VK->Prop:=fun xs H Q=>∃(a:Addr) (bs:List Bool),xs=[.ref a]/\SqL K H a (bs.map V.bl)/\Q (.bl (bs.all id)) H
def SX(K:KW):List V->Hp->VK->Prop:=fun xs H Q=>∃(a:Addr) (bs:List Bool),xs=[.ref a]/\SqL K H a (bs.map V.bl)/\Q (.bl (bs.any id)) H
def Lq{P:Program}{w:World}{A:Around}{E:Value->Shared->Prop}{s:Shared}{l:Addr}{items:Array Value}{Q:Value->Shared->Prop}(hl:s.heap.IsList l items)
  (h : ∀ s₂ : Shared, s₂ = { s with heap := s.heap.push { cls := .type "list_iterator", data := .fields #[.ref l, .int 0 0] } } ->
   (s₂.heap.IsListIter s.heap.objs.size l 0/\s₂.heap.IsList l items)->l≠s.heap.objs.size->Q (.ref s.heap.objs.size) s₂) :
  wpAny (model P w) A (pyIter (.ref l)) Q E s:=by
 have hlt:l<s.heap.objs.size:=by obtain⟨_,e,_⟩:=hl;exact i' e
 exact wpAny_pyIter_list hl (h _ rfl ⟨⟨_,kb _ rfl,rfl,rfl⟩,hl.push _⟩ (lE hlt))
def UW{X:Cx}(hc:X.calm=true):Cp X (.builtin "all") (SY (Gi X)):=by
 intro pins s σ H xs us Q I r h
 obtain⟨a,bs,rfl,hs,q⟩:=h
 obtain⟨u,rfl,ru⟩:=Hw r
 cases ru
 obtain⟨its,rv,p,hz⟩:=I.list hs
 cases IM rv
 have hl:=p.isList
 refine call_all_walk (Lq hl fun s₂ e st hlI=>?_)
 subst e
 refine⟨_,_,_,_,_,_,fun i=>bs.getD i false,rfl,Walks.list (A:=X.A.in1) (I.ok.hd hc) _ a hlI (bs.map Value.bool).toArray,st,Jw bs,fun h' tk hk=>?_⟩
 have hn:(bs.map Value.bool).toArray.size=bs.length:=by rw[k7,B']
 rw[hn,Tb]
 exact⟨.bl (bs.all id),H,I.kept (old_kept hk),rfl,q⟩
def UU{X:Cx}(hc:X.calm=true):Cp X (.builtin "any") (SX (Gi X)):=by
 intro pins s σ H xs us Q I r h
 obtain⟨a,bs,rfl,hs,q⟩:=h
 obtain⟨u,rfl,ru⟩:=Hw r
 cases ru
 obtain⟨its,rv,p,hz⟩:=I.list hs
 cases IM rv
 have hl:=p.isList
 refine call_any_walk (Lq hl fun s₂ e st hlI=>?_)
 subst e
 refine⟨_,_,_,_,_,_,fun i=>bs.getD i false,rfl,Walks.list (A:=X.A.in1) (I.ok.hd hc) _ a hlI (bs.map Value.bool).toArray,st,Jw bs,fun h' tk hk=>?_⟩
 have hn:(bs.map Value.bool).toArray.size=bs.length:=by rw[k7,B']
 rw[hn,Ta]
 exact⟨.bl (bs.any id),H,I.kept (old_kept hk),rfl,q⟩
def JN:List PyData->Option PyData
 |[.list ds]=>(Fd ds).map fun bs=>.bool (bs.all id)
 |_=>none
def NB:List PyData->Option PyData
 |[.list ds]=>(Fd ds).map fun bs=>.bool (bs.any id)
 |_=>none
def eH:BR K false (SY K) JN:=by
 intro S H vs ds d Q _ l e q
 unfold JN at e
 split at e
 ·obtain⟨bs,e1,e⟩:=oM e
  cases e
  obtain⟨v,us,rfl,⟨a,ws,rfl,h,lw⟩,iu⟩:=l
  cases (show us=[] from iu)
  rw[MF lw e1]at h
  exact⟨a,bs,rfl,SqL.of (hid_iff.mp h).2,q _ H (fun _ _ e=>e) rfl⟩
 ·cases e
def eE:BR K false (SX K) NB:=by
 intro S H vs ds d Q _ l e q
 unfold NB at e
 split at e
 ·obtain⟨bs,e1,e⟩:=oM e
  cases e
  obtain⟨v,us,rfl,⟨a,ws,rfl,h,lw⟩,iu⟩:=l
  cases (show us=[] from iu)
  rw[MF lw e1]at h
  exact⟨a,bs,rfl,SqL.of (hid_iff.mp h).2,q _ H (fun _ _ e=>e) rfl⟩
 ·cases e
end DL
end
section
namespace L2
open PySem PySem.Spec PyProof.Rows
section
variable {X:Cx} {a b:Expr} {p pos:Pos} {e:Expr} {es:List Expr} {te:TE} {t:TA}
def jc(X:Cx)(T:Addr->Sp->Prop):Prop:=∀f sp,T f sp->∃k fd ps,FnOk X.prog X.w X.K X.mg X.base CX0 k f fd ps sp/\Room k X.A/\PySem.W.keepIn X.K (.ref f)=true/\Binds X.K fd ps []
def Uz(T:Addr->Sp->Prop)(te:TE)(t:TA):TE:=fun σ H Q=>te σ H fun v H1=>∃f sp,v = .ref f/\T f sp/\En sp [] E0 t σ H1 Q
def VZ{T:Addr->Sp->Prop}(hT:jc X T)(hf:PE X (.Subscript a b p) te)(ha:PA X (e::es) t)
  (he:starEach (e::es) X.env=(false,eval e X.env)::starEach es X.env:=by rfl) (hpl:(backTo pos (starEach es X.env)).any (·.1)=false:=by rfl) :
  PE X (.Call (.Subscript a b p) (e::es) [] pos) (Uz T te t):=by
 intro pins s σ H Q I h
 have ev:eval (.Call (.Subscript a b p) (e::es) [] pos) X.env=(do callWith pos (<- eval (.Subscript a b p) X.env) [] (backTo pos (starEach (e::es) X.env)) (backToKw pos (keywordEach [] X.env))):=rfl
 rw[ev]
 refine wpAny_bind (thn (hf pins s σ H _ I h) fun u s1 ⟨x,H1,I1,rx,q⟩=>?_)
 obtain⟨f,sp,rfl,ht,q⟩:=q
 cases (show u=Value.ref f from rx)
 obtain⟨k,fd,ps,F,hr,hk,hb⟩:=hT f sp ht
 refine mM (h₀:=X.base) I1.ok.mod.kin hk (thn (ha pos pins s1 σ H1 _ I1 q) fun us s2 ⟨vs,H2,I2,r,q2⟩=>⟨I2.kIn,?_⟩) he hpl
 exact RH F hr hb .nil Ve I2 r q2
end
end L2
namespace DL
open PySem L2 PyProof.Rows
variable {K:KW}
def KfL(w:World):List DictEntry->List (Str×Addr)->Prop
 |[],[]=>True
 |e::es,p::tb=>(∃t,e.key = .str p.1 t)/\e.hash=hashStr w p.1/\e.val = .ref p.2/\KfL w es tb
 |_,_=>False
structure KF(K:KW)(w:World)(a:Addr)(tb:List (Str×Addr)):Prop where
 ex:∃es n,K.fr.lookup a=some ⟨.type "dict",none,.dict es n,#[]⟩/\KfL w es.toList tb
def Cz{α:Type}:List (Str×α)->Str->Option α
 |[],_=>none
 |p::r,k=>if p.1=k then some p.2 else Cz r k
def Sm{w:World}:∀{es:List DictEntry} {tb:List (Str×Addr)},KfL w es tb->∀e∈es,∃k,Value.isStrOf k e.key=true/\e.hash=hashStr w k
 |[],_,_,e,h=>nomatch h
 |x::es,[],h,_,_=>h.elim
 |x::es,p::tb,⟨⟨t,hk⟩,hh,_,r⟩,e,h=>by
  rcases kY.mp h with rfl|h
  ·exact⟨p.1,by rw[hk,Cm];exact decide_eq_true rfl,hh⟩
  ·exact Sm r e h
def Sn{w:World}{k:Str}:∀{es:List DictEntry} {tb:List (Str×Addr)},KfL w es tb->(es.find? fun e=>Value.isStrOf k e.key).map (·.val)=(Cz tb k).map Value.ref
 |[],[],_=>rfl
 |[],_::_,h=>h.elim
 |_::_,[],h=>h.elim
 |x::es,p::tb,⟨⟨t,hk⟩,hh,hc,r⟩=>by
  unfold Cz
  rw[lh,hk,Cm]
  by_cases e:p.1=k
  ·rw[if_pos e,decide_eq_true e.symm]
   show some x.val=_
   rw[hc];rfl
  ·rw[if_neg e,decide_eq_false (Ne.symm e)]
   exact Sn r
def Zb{X:Cx}{pins:List (Addr×Obj)}{σ:L2.St}{H:Hp}{s:Shared}{a:Addr}{tb:List (Str×Addr)}(kf:KF (Gi X) X.w a tb)(I:Inv X pins σ H s):∃es:Array DictEntry,s.heap.MapOf (strKind X.prog X.w) a (fun k=>findBy Value.isStrOf es k)/\∀k,findBy Value.isStrOf es k=(Cz tb k).map Value.ref:=by
 obtain⟨es,n,lk,hL⟩:=kf.ex
 have ho:=I.kIn _ _ lk
 refine⟨es,⟨_,es,n,ho,⟨rfl,rfl,rfl⟩,rfl,fun e he=>Sm hL e (lq.mpr he),fun _=>rfl⟩,fun k=>?_⟩
 unfold findBy
 rw[<- nA]
 exact Sn hL
def rKf(a:Addr)(tb:List (Str×Addr)):R2:=fun x y H Q=>x = .ref a/\∃k f,y = .str k/\Cz tb k=some f/\Q (.ref f) H
def gQ{X:Cx}{a:Addr}{tb:List (Str×Addr)}(kf:KF (Gi X) X.w a tb):IxR X (rKf a tb):=by
 intro value slice pins s σ H x y v u Q I rx ry h hs
 obtain⟨rfl,k,f,rfl,hg,q⟩:=h
 cases rx
 obtain⟨t,rfl⟩:=ry
 obtain⟨es,hm,hf⟩:=Zb kf I
 exact tail_any hm.typeIs PySem.F.slot_dict_getitem.lookup (wpAny_getItem_of (k:=k) (key:=.str k t) (by show Value.isStrOf k (.str k t)=true;rw[Cm];exact decide_eq_true rfl) hm (v:=.ref f) (by rw[hf,hg];rfl) ⟨.ref f,H,I.tok _,rfl,q⟩) hs
def VA(a:Addr)(tb:List (Str×Addr))(neg:Bool):R2:=fun y x H Q=>x = .ref a/\∃k,y = .str k/\Q (.bl (neg != (Cz tb k).isSome)) H
def Xm{X:Cx}{a:Addr}{tb:List (Str×Addr)}(kf:KF (Gi X) X.w a tb)(hs:(a==sysModules)=false):OpR X (compareOp .In) (VA a tb false):=by
 intro pins s σ H x y v u Q I rx ry h
 obtain⟨rfl,k,rfl,q⟩:=h
 cases ry
 obtain⟨t,rfl⟩:=rx
 obtain⟨es,hm,hf⟩:=Zb kf I
 refine wpAny_in_of (k:=k) (by show Value.isStrOf k (.str k t)=true;rw[Cm];exact decide_eq_true rfl) hs hm ?_
 rw[hf,nF]
 exact⟨.bl _,H,I.tok _,rfl,by simpa using q⟩
def Sq{w:World}{k:Str}:∀{es:List DictEntry} {tb:List (Str×PyData)},KdL K w es tb->(es.find? fun e=>Value.isStrOf k e.key).isSome=(Jx tb k).isSome
 |[],[],_=>rfl
 |[],_::_,h=>h.elim
 |_::_,[],h=>h.elim
 |x::es,p::tb,⟨⟨t,hk⟩,hh,hc,r⟩=>by
  unfold Jx
  rw[lh,hk,Cm]
  by_cases e:p.1=k
  ·rw[if_pos e,decide_eq_true e.symm];rfl
  ·rw[if_neg e,decide_eq_false (Ne.symm e)]
   exact Sq r
def VB(a:Addr)(tb:List (Str×PyData)):R2:=fun y x H Q=>x = .ref a/\∃k,y = .str k/\Q (.bl (Jx tb k).isSome) H
def Xn{X:Cx}{a:Addr}{tb:List (Str×PyData)}(kd:KD (Gi X) X.w a tb)(hs:(a==sysModules)=false):OpR X (compareOp .In) (VB a tb):=by
 intro pins s σ H x y v u Q I rx ry h
 obtain⟨rfl,k,rfl,q⟩:=h
 cases ry
 obtain⟨t,rfl⟩:=rx
 obtain⟨es,n,lk,hL⟩:=kd.ex
 have ho:=I.kIn _ _ lk
 have hm:s.heap.MapOf (strKind X.prog X.w) a (fun k=>findBy Value.isStrOf es k):=⟨_,es,n,ho,⟨rfl,rfl,rfl⟩,rfl,fun e he=>Sr hL e (lq.mpr he),fun _=>rfl⟩
 refine wpAny_in_of (k:=k) (by show Value.isStrOf k (.str k t)=true;rw[Cm];exact decide_eq_true rfl) hs hm ?_
 have e:(findBy Value.isStrOf es k).isSome=(Jx tb k).isSome:=by
  unfold findBy
  rw[<- nA,nF]
  exact Sq hL
 rw[e]
 exact⟨.bl _,H,I.tok _,rfl,q⟩
def WU(tb:List (Str×PyData))(f:DX)(τ:DS):Option (PyData×DS):=(f τ).bind fun p=>match p.1 with
 |.str k=>some (.bool (Jx tb k).isSome,p.2)
 |_=>none
def g7{fa:Bool}{a:Addr}{tb:List (Str×PyData)}{t:TE}{f:DX}(h:E K t fa f):E K (tOp (VB a tb) t (tC (.ref a))) false (WU tb f):=by
 refine⟨fun τ d t5 e=>?_,?_⟩
 ·unfold WU at e
  obtain⟨⟨x,t4⟩,e1,e⟩:=oB e
  dsimp only at e
  split at e
  ·cases e;exact h.like _ _ _ e1
  ·cases e
 intro S M τ σ H Q d t5 r e q
 unfold WU at e
 obtain⟨⟨x,t4⟩,e1,e⟩:=oB e
 dsimp only at e
 split at e
 ·rename_i k
  cases e
  refine h.weak.run S M τ σ H _ _ _ r e1 fun v H1 r1 c1 i1=>?_
  cases (show v = .str k from i1)
  exact⟨rfl,k,rfl,q _ H1 r1 c1 rfl⟩
 ·cases e
abbrev Mir:=List L->Option (PyData×List L)
inductive TMs (T:Addr->Mir->Prop):List (Str×Addr)->List (Str×Mir)->Prop
 |nil:TMs T [] []
 |cons {k:Str} {f:Addr} {G:Mir} {tb:List (Str×Addr)} {tm:List (Str×Mir)} (h:T f G) (r:TMs T tb tm):TMs T ((k,f)::tb) ((k,G)::tm)
def TMs.get{T:Addr->Mir->Prop}{k:Str}{G:Mir}:∀{tb:List (Str×Addr)} {tm:List (Str×Mir)},TMs T tb tm->Cz tm k=some G->∃f,Cz tb k=some f/\T f G
 |_,_,.nil,h=>by cases h
 |_,_,.cons (k:=k') (f:=f) h r,e=>by
  unfold Cz at e ⊢
  by_cases z:k'=k
  ·rw[if_pos z]at e ⊢
   cases e
   exact⟨f,rfl,h⟩
  ·rw[if_neg z]at e ⊢
   exact r.get e
def TMs.some{T:Addr->Mir->Prop}{k:Str}:∀{tb:List (Str×Addr)} {tm:List (Str×Mir)},TMs T tb tm->(Cz tb k).isSome=(Cz tm k).isSome
 |_,_,.nil=>rfl
 |_,_,.cons (k:=k') h r=>by
  unfold Cz
  by_cases z:k'=k
  ·rw[if_pos z,if_pos z];rfl
  ·rw[if_neg z,if_neg z];exact r.some
def fB(P:Program)(w:World)(K:PySem.W.Frag)(mg:Str->Option Value)(base:Heap)(k:Nat):Addr->Mir->Prop:=fun f G=>∃x ps,Cal P w K mg base k x ps (spD ⟨K,w⟩ G false)/\mg x=some (.ref f)
def YG{X:Cx}{k:Nat}(hr:Room k X.A):jc X (fun f sp=>∃G,fB X.prog X.w X.K X.mg X.base k f G/\sp=spD ⟨X.K,X.w⟩ G false):=by
 rintro f sp ⟨G,⟨x,ps,C,hm⟩,rfl⟩
 obtain⟨f',fd,F,b,kp,m⟩:=C.ex
 rw[m]at hm
 cases hm
 exact⟨k,fd,ps,F,hr,kp,b⟩
def Rw(tm:List (Str×Mir))(f:DX)(τ:DS):Option (PyData×DS):=(f τ).bind fun p=>match p.1 with
 |.str k=>some (.bool (Cz tm k).isSome,p.2)
 |_=>none
def g8{T:Addr->Mir->Prop}{fa:Bool}{a:Addr}{tb:List (Str×Addr)}{tm:List (Str×Mir)}{t:TE}{f:DX}(hT:TMs T tb tm)(h:E K t fa f):E K (tOp (VA a tb false) t (tC (.ref a))) false (Rw tm f):=by
 refine⟨fun τ d t5 e=>?_,?_⟩
 ·unfold Rw at e
  obtain⟨⟨x,t4⟩,e1,e⟩:=oB e
  dsimp only at e
  split at e
  ·cases e;exact h.like _ _ _ e1
  ·cases e
 intro S M τ σ H Q d t5 r e q
 unfold Rw at e
 obtain⟨⟨x,t4⟩,e1,e⟩:=oB e
 dsimp only at e
 split at e
 ·rename_i k
  cases e
  refine h.weak.run S M τ σ H _ _ _ r e1 fun v H1 r1 c1 i1=>?_
  cases (show v = .str k from i1)
  refine⟨rfl,k,rfl,q _ H1 r1 c1 ?_⟩
  show V.bl _=V.bl _
  rw[Bool.false_bne,hT.some]
 ·cases e
def IK(tm:List (Str×Mir))(f:DX)(a:DA)(τ:DS):Option (PyData×DS):=(f τ).bind fun p=>match p.1 with
 |.str k=>(Cz tm k).bind fun G=>AB G a p.2
 |_=>none
def YO{T:Addr->Mir->Prop}{fa:Bool}{ad:Addr}{tb:List (Str×Addr)}{tm:List (Str×Mir)}{t:TE}{f:DX}{ta:TA}{a:DA}(hT:TMs T tb tm)(h:E K t fa f)(ha:A K ta a) :
  E K (Uz (fun f sp=>∃G,T f G/\sp=spD K G false) (tOp (rKf ad tb) (tC (.ref ad)) t) ta) false (IK tm f a):=by
 refine⟨fun τ d t5 e=>?_,?_⟩
 ·unfold IK at e
  obtain⟨⟨x,t4⟩,e1,e⟩:=oB e
  dsimp only at e
  split at e
  ·obtain⟨G,e2,e⟩:=oB e
   exact(h.like _ _ _ e1).trans ((OK (fr:=false) (G:=G) (X:=E0) ha).like _ _ _ e)
  ·cases e
 intro S M τ σ H Q d t5 r e q
 unfold IK at e
 obtain⟨⟨x,t4⟩,e1,e⟩:=oB e
 dsimp only at e
 split at e
 ·rename_i k
  obtain⟨G,e2,e⟩:=oB e
  obtain⟨fn,hg,hT'⟩:=hT.get e2
  refine h.weak.run S M τ σ H _ _ _ r e1 fun v H1 r1 c1 i1=>?_
  cases (show v = .str k from i1)
  refine⟨rfl,k,fn,rfl,hg,fn,spD K G false,rfl,⟨G,hT',rfl⟩,?_⟩
  exact(OK (fr:=false) (G:=G) (X:=E0) ha).run S M t4 σ H1 Q d t5 r1 e fun v H' r' c' res=>q v H' r' (c1.trans c') (res.back r1 c1)
 ·cases e
def OA:List PyData->PyData->Option Nat
 |[],_=>none
 |y::ys,x=>if PyData.eqv y x=true then some 0 else (OA ys x).map (·+1)
def VC(K:KW):V->List V->Hp->VK->Prop:=fun x xs H Q=>∃y ds d k,xs=[y]/\Is K H (.list ds) x/\Is K H d y/\okD d=true/\okD (.list ds)=true/\OA ds d=some k/\Q (.int (k:Nat)) H
def NA:PyData->PyData->Option PyData
 |.list ds,d=>if okD d&&okD (.list ds) then (OA ds d).map fun k=>.int (k:Nat) else none
 |_,_=>none
def Pj{d:PyData}:∀{ds:List PyData} {k:Nat},OA ds d=some k->∃h:k<ds.length,PyData.eqv ds[k] d=true/\∀(m:Nat) (hm:m<ds.length),m<k->PyData.eqv ds[m] d=false
 |[],k,h=>by cases h
 |y::ys,k,h=>by
  unfold OA at h
  by_cases e:PyData.eqv y d=true
  ·rw[if_pos e]at h
   cases h
   exact⟨nL _,e,fun m _ hm=>absurd hm (nN _)⟩
  ·rw[if_neg e]at h
   obtain⟨j,hj,rfl⟩:=oM h
   obtain⟨h1,h2,h3⟩:=Pj hj
   refine⟨Nat.succ_lt_succ h1,h2,fun m hm hlt=>?_⟩
   cases m with
   |zero=>exact lL.mpr e
   |succ m=>exact h3 m (Nat.lt_of_succ_lt_succ hm) (Nat.lt_of_succ_lt_succ hlt)
def T2{X:Cx}(hu:X.A.units+65<cLine):MtR X "list.index" (VC (Gi X)):=by
 intro pins s σ H x xs v us Q I rx rs h
 obtain⟨y,ds,d,k,rfl,hx,hy,od,ol,hk,q⟩:=h
 obtain⟨u,rfl,ru⟩:=Hw rs
 obtain⟨as,ra⟩:=FH I hx rx
 obtain⟨bs,rb⟩:=FH I hy ru
 obtain⟨c1,c2⟩:=Gn ol
 have hm:X.A.units+1+min (PyData.depthAll ds) d.depth<cLine:=by omega
 obtain⟨a,vs,rfl,ha,hl⟩:=hx
 cases (show v=Value.ref a from rx)
 have hz:ds.length<=sizeLine:=by
  obtain⟨_,_,_,z⟩:=I.list (SqL.of ha)
  rw[<- hl.length];exact z
 obtain⟨k1,k2,k3⟩:=Pj hk
 cases ra with
 |@list _ o vs' n _ _ h1 h2 h3 h4 =>
  obtain⟨oc,od',odt,osl⟩:=o
  cases h2
  cases h3
  have em:=SeqAt.readsAll_map ds _ _ c1 h4
  have hlen:vs'.toList.length=ds.length:=by rw[<- em,B']
  have at':∀(m:Nat) (h:m<vs'.size) (h':m<ds.length),SeqAt.readOf s.heap vs'[m]=ds[m]:=fun m h h'=>by
   have:(vs'.toList.map (SeqAt.readOf s.heap))[m]?=ds[m]?:=by rw[em]
   rw[O',km h',Array.getElem?_toList,Array.getElem?_eq_getElem h]at this
   exact J' this
  have hsz:vs'.size=ds.length:=by rw[<- hlen,Array.length_toList]
  refine call_meets PySem.F.slot_list_index ⟨_,h1,rfl⟩ PySem.F.entry_list_index (PySem.F.args_list_index_2 _ _)
   (SeqAt.list_indexAt a vs' n od' osl u (fun y=>PyData.eqv (SeqAt.readOf s.heap y) d) k (by omega) ?_ ?_ ?_) ⟨h1,SeqAt.items_eqAt h4 rb c1 (Eo od) hm,?_⟩
  ·have:sizeLine=2 ^ 24:=rfl
   omega
  ·show PyData.eqv (SeqAt.readOf s.heap vs'[k]) d=true
   rw[at' k _ k1];exact k2
  ·intro m hm hlt
   show PyData.eqv (SeqAt.readOf s.heap vs'[m]) d=false
   rw[at' m hm (by omega)];exact k3 m _ hlt
  ·exact⟨.int k,H,I.tok _,⟨_,rfl⟩,q⟩
def Rm{x y d:PyData}(h:NA x y=some d):∃ds k,x = .list ds/\okD y=true/\okD (.list ds)=true/\OA ds y=some k/\d = .int (k:Nat):=by
 unfold NA at h
 split at h
 ·split at h
  ·rename_i hok
   obtain⟨k,e4,h⟩:=oM h
   rw[Y']at hok
   exact⟨_,k,rfl,hok.1,hok.2,e4,h.symm⟩
  ·cases h
 ·cases h
def ba{fa fb:Bool}{ta tb:TE}{a b:DX}(ha:E K ta fa a)(hb:E K tb fb b):E K (tBM K "list" (VC K) ta (Bs tb Em)) false (dOp NA a b):=by
 refine⟨fun τ d t5 e=>?_,?_⟩
 ·unfold dOp at e
  obtain⟨⟨x,t4⟩,e1,e⟩:=oB e
  obtain⟨⟨y,t7⟩,e2,e⟩:=oB e
  obtain⟨z,e3,e⟩:=oM e
  cases e
  exact(ha.like _ _ _ e1).trans (hb.like _ _ _ e2)
 intro S M τ σ H Q d t5 r e q
 unfold dOp at e
 obtain⟨⟨x,t4⟩,e1,e⟩:=oB e
 obtain⟨⟨y,t7⟩,e2,e⟩:=oB e
 obtain⟨z,e3,e⟩:=oM e
 cases e
 obtain⟨ds,k,rfl,h1,h2,e4,rfl⟩:=Rm e3
 refine ha.weak.run S M τ σ H _ _ _ r e1 fun v H1 r1 c1 i1=>?_
 obtain⟨p,vs,rfl,hp,hl⟩:=(show ∃p vs,v = .ref p/\hid S H1 p=some (.lst vs)/\IsL K (hid S H1) ds vs from i1)
 refine⟨Or.inl ⟨rfl,vs,SqL.of (hid_iff.mp hp).2⟩,hb.weak.run S M _ σ H1 _ _ _ r1 e2 fun v2 H2 r2 c2 i2=>?_⟩
 have k12:Keep S H1 S H2:=c2.keep r1.sub
 exact⟨v2,ds,y,k,rfl,(Is.mono k12.same (show Is K (hid S H1) (.list ds) (.ref p) from⟨p,vs,rfl,hp,hl⟩)).mono same_hid,(show Is K (hid S H2) y v2 from i2).mono same_hid,h1,h2,e4,q _ H2 r2 (c1.trans c2) rfl⟩
end DL
end
section
namespace DL
open PySem L2
variable {K:KW} {np:Nat}
variable {K:KW} {np:Nat}
variable {K:KW} {np:Nat}
def W7{S M:Addr->Prop}{τ t4:DS}{σ:St}{H H3 H4:Hp}(r:R K S M τ σ H){i:Nat}{d d':PyData}{v:V}{F F':List Addr}(hi:τ[i]?=some (some (.g d)))(hv:σ[i]?=some (some v))(hM:∀a∈F,M a)
  (ho:∀(j:Nat) (o:Ow) (a:Addr),τ[j]?=some (some o.L)->σ[j]?=some (some (.ref a))->a∉F)
  (r1:R K (fun b=>S b/\b∉F) (fun b=>M b/\b∉F) t4 σ H3) (lk:Like (τ.set i (some (.d d))) t4) (c:Chg (fun b=>M b/\b∉F) H H3) (ok:t4.all okM=true)
  (hl3:∀a∈F,∃vs,H3 a=some (.lst vs)) (c4:∀b,b∉F->H4 b=H3 b) (hl4:∀a∈F,∃vs,H4 a=some (.lst vs)) (hs:∀a∈F',a∈F) (hn:F'.Nodup) (hd:Dp K S H4 d' v F'):R K S M (t4.set i (some (.g d'))) σ H4:=by
 have hlt:i<τ.length:=(R'.mp hi).1
 have hl1:t4.length=τ.length:=by have:=lk.1;rw[kj]at this;exact this
 have hlt1:i<t4.length:=by omega
 have ne:∀j,j≠i->(t4.set i (some (.g d')))[j]?=t4[j]?:=fun j hj=>W' (Ne.symm hj)
 have se:(t4.set i (some (.g d')))[i]?=some (some (.g d')):=Z' hlt1
 have ne0:∀j,j≠i->(τ.set i (some (.d d)))[j]?=τ[j]?:=fun j hj=>W' (Ne.symm hj)
 have k : Keep S H S H4 := fun b o h e => ⟨h, by
  have hb:b∉F:=fun z=>h (r.sub b (hM b z))
  rw[c4 b hb];exact c b o (fun z=>h (r.sub b z.1)) e⟩
 have ts:TSm (hid (fun b=>S b/\b∉F) H3) (hid S H4):=fun b o e nl ne=>by
  obtain⟨e1,e2⟩:=hid_iff.mp e
  have hb:b∉F:=fun z=>by
   obtain⟨vs,q⟩:=hl3 b z
   rw[e2]at q;cases q;exact nl _ rfl
  exact hid_iff.mpr ⟨fun z=>e1 ⟨z,hb⟩,by rw[c4 b hb];exact e2⟩
 have own:∀(j:Nat) (ys:Ow),(t4.set i (some (.g d')))[j]?=some (some ys.L)->j≠i/\t4[j]?=some (some ys.L):=fun j ys e=>by
  by_cases hj:j=i
  ·subst hj;rw[se]at e;exact absurd (J' (J' e)).symm Ow.not_g
  ·rw[ne j hj]at e;exact⟨hj,e⟩
 have mm:∀(j:Nat) (ys:Ow),j≠i->t4[j]?=some (some ys.L)->∃zs:Ow,τ[j]?=some (some zs.L):=fun j ys hj e=>by
  obtain⟨zs,q⟩:=(lk.own j).mp ⟨_,e⟩
  rw[ne0 j hj]at q
  exact⟨zs,q⟩
 have cs:∀(j:Nat) (ys:List PyData),(t4.set i (some (.g d')))[j]?=some (some (.c ys))->τ[j]?=some (some (.c ys)):=fun j ys e=>by
  by_cases hj:j=i
  ·subst hj;rw[se]at e;cases e
  ·rw[ne j hj]at e
   have:=((lk.2 j).1.2 ys).mp e
   rw[ne0 j hj]at this
   exact this
 refine⟨by rw[kj];exact r1.len,fun j x e=>?_,fun j ys e=>?_,fun j ys e=>let ⟨a,vs,h1,h2,h3⟩:=r.cst j ys (cs j ys e);⟨a,vs,h1,k.same.seq h2,h3.mono k.same⟩,fun j1 j2 ys zs b e1 e2 f1 f2=>?_,r.sub,fun a h=>?_,?_⟩
 ·by_cases hj:j=i
  ·subst hj;rw[se]at e;cases e
  ·rw[ne j hj]at e
   have:=((lk.2 j).1.1 x).mp e
   rw[ne0 j hj]at this
   obtain⟨v,h5,h6⟩:=r.dat j x this
   exact⟨v,h5,h6.mono k.same⟩
 ·obtain⟨hj,e⟩:=own j ys e
  obtain⟨b,ws,h5,h6,h7,h8⟩:=r1.mt j ys e
  have fx:okM (some ys.L)=true:=lF.mp ok (some ys.L) (ka e)
  exact⟨b,ws,h5,h6.1,by rw[c4 b h6.2];exact h7,h8.monoT ts fx⟩
 ·obtain⟨g1,e1⟩:=own _ _ e1
  obtain⟨g2,e2⟩:=own _ _ e2
  obtain⟨_,q1⟩:=mm j1 ys g1 e1
  obtain⟨_,q2⟩:=mm j2 zs g2 e2
  exact r.inj _ _ _ _ b q1 q2 f1 f2
 ·by_cases e:a∈F
  ·obtain⟨vs,q⟩:=hl4 a e;exact⟨_,q⟩
  ·obtain⟨o,q⟩:=r1.ex a ⟨h,e⟩;exact⟨o,by rw[c4 a e];exact q⟩
 ·obtain⟨φ,g⟩:=r1.gr
  refine⟨fun j=>if j=i then F' else φ j,fun j x e=>?_⟩
  have gs:∀(j:Nat) (x:PyData),j≠i->(t4.set i (some (.g d')))[j]?=some (some (.g x))->t4[j]?=some (some (.g x)):=fun j x hj e=>by rw[ne j hj]at e;exact e
  by_cases hj:j=i
  ·subst hj
   rw[se]at e;cases e
   simp only[if_true]
   refine⟨⟨v,hv,DpT.of hd⟩,hn,fun a ha=>hM a (hs a ha),fun j' o a z1 z2 ha=>?_,fun j' x' hj' z a ha=>?_⟩
   ·obtain⟨q1,q2⟩:=own j' o z1
    obtain⟨zs,q3⟩:=mm j' o q1 q2
    exact ho j' zs a q3 z2 (hs a ha)
   ·rw[if_neg hj']
    intro hq
    obtain⟨_,_,q4,_,_⟩:=g j' x' (gs j' x' hj' z)
    exact(q4 a hq).2 (hs a ha)
  ·dsimp only
   simp only[if_neg hj]
   obtain⟨⟨v',q1,q2⟩,q3,q4,q5,q6⟩:=g j x (gs j x hj e)
   refine⟨⟨v',q1,q2.mono ts fun a ha=>c4 a (q4 a ha).2⟩,q3,fun a ha=>(q4 a ha).1,fun j' o a z1 z2=>q5 j' o a (own j' o z1).2 z2,fun j' x' hj' z a ha=>?_⟩
   by_cases hj2:j'=i
   ·rw[if_pos hj2];exact fun z=>(q4 a ha).2 (hs a z)
   ·rw[if_neg hj2];exact q6 j' x' hj' (gs j' x' hj2 z) a ha
def gtP:List Nat->PyData->Option PyData
 |[],d=>some d
 |k::π,.list ds=>(ds[k]?).bind (gtP π)
 |k::π,.tuple ds=>(ds[k]?).bind (gtP π)
 |_::_,_=>none
def stP(x:PyData):List Nat->PyData->PyData
 |[],_=>x
 |k::π,.list ds=>.list (ds.set k (stP x π (ds.getD k .none)))
 |k::π,.tuple ds=>.tuple (ds.set k (stP x π (ds.getD k .none)))
 |_::_,d=>d
def Jb:∀{π:List Nat} {d:PyData} {ds:List PyData} {n:Nat} {x:PyData},gtP π d=some (.tuple ds)->ds[n]?=some x->gtP (π++[n]) d=some x
 |[],_,_,n,x,h,e=>by cases h;show(_:Option PyData).bind _=_;rw[e];rfl
 |k::π,.list cs,ds,n,x,h,e=>by
  obtain⟨c,h1,h2⟩:=oB (show(cs[k]?).bind (gtP π)=_ from h)
  show(cs[k]?).bind (gtP (π++[n]))=_
  rw[h1];exact Jb (π:=π) h2 e
 |k::π,.tuple cs,ds,n,x,h,e=>by
  obtain⟨c,h1,h2⟩:=oB (show(cs[k]?).bind (gtP π)=_ from h)
  show(cs[k]?).bind (gtP (π++[n]))=_
  rw[h1];exact Jb (π:=π) h2 e
 |_::_,.none,_,_,_,h,_=>by cases h
 |_::_,.bool _,_,_,_,h,_=>by cases h
 |_::_,.int _,_,_,_,h,_=>by cases h
 |_::_,.str _,_,_,_,h,_=>by cases h
 |_::_,.dict _,_,_,_,h,_=>by cases h
def Sy{α:Type}{xs:List α}{k:Nat}{c z:α}(h:xs[k]?=some c):xs.getD k z=c:=by
 rw[nD,h];rfl
def LG{g:List PyData->PyData}{ds:List PyData}{n:Nat}{x:PyData}(hg:stP x [n] (g ds)=g (ds.set n x)):∀{π:List Nat} {d:PyData},gtP π d=some (g ds)->stP x (π++[n]) d=stP (g (ds.set n x)) π d
 |[],_,h=>by cases h;exact hg
 |k::π,.list cs,h=>by
  obtain⟨c,h1,h2⟩:=oB (show(cs[k]?).bind (gtP π)=_ from h)
  show PyData.list (cs.set k (stP x (π++[n]) (cs.getD k .none)))=PyData.list (cs.set k (stP (g (ds.set n x)) π (cs.getD k .none)))
  rw[Sy h1,LG hg h2]
 |k::π,.tuple cs,h=>by
  obtain⟨c,h1,h2⟩:=oB (show(cs[k]?).bind (gtP π)=_ from h)
  show PyData.tuple (cs.set k (stP x (π++[n]) (cs.getD k .none)))=PyData.tuple (cs.set k (stP (g (ds.set n x)) π (cs.getD k .none)))
  rw[Sy h1,LG hg h2]
 |_::_,.none,h=>by cases h
 |_::_,.bool _,h=>by cases h
 |_::_,.int _,h=>by cases h
 |_::_,.str _,h=>by cases h
 |_::_,.dict _,h=>by cases h
def DpL.at2{S:Addr->Prop}{H:Hp}:∀{ds:List PyData} {vs:List V} {F:List Addr} {y:Nat} {d:PyData},DpL K S H ds vs F->F.Nodup->ds[y]?=some d->∃x Fy,vs[y]?=some x/\(∀a∈Fy,a∈F)/\Fy.Nodup/\Dp K S H d x Fy /\
  ∀(H':Hp) (d':PyData) (F':List Addr),TSm (hid S H) (hid S H')->(∀a∈F,a∉Fy->H' a=H a)->Dp K S H' d' x F'->(∀a∈F',a∈Fy)->F'.Nodup->∃F3,(∀a∈F3,a∈F)/\F3.Nodup/\DpL K S H' (ds.set y d') vs F3
 |[],_,_,_,_,_,_,e=>by simp at e
 |d0::ds,_,_,0,d,⟨x,xs,F1,F2,e,e2,h,l⟩,hn,q=>by
  subst e e2
  simp at q
  subst q
  obtain⟨n1,n2,n3⟩:=lz.mp hn
  refine⟨x,F1,rfl,fun a ha=>kW _ ha,n1,h,fun H' d' F' ts hh hd hs hn'=>⟨F'++F2,fun a ha=>?_,lz.mpr ⟨hn',n2,fun a ha b hb=>n3 a (hs a ha) b hb⟩,x,xs,F',F2,rfl,rfl,hd,l.mono ts fun a ha=>hh a (P' _ ha) fun z=>n3 a z a ha rfl⟩⟩
  rcases kc.mp ha with ha|ha
  ·exact kW _ (hs a ha)
  ·exact P' _ ha
 |d0::ds,_,_,y+1,d,⟨x,xs,F1,F2,e,e2,h,l⟩,hn,q=>by
  subst e e2
  obtain⟨n1,n2,n3⟩:=lz.mp hn
  obtain⟨x',Fy,a1,a2,a3,a4,a5⟩:=DpL.at2 (y:=y) (d:=d) l n2 (by simpa using q)
  refine⟨x',Fy,by simpa using a1,fun a ha=>P' _ (a2 a ha),a3,a4,fun H' d' F' ts hh hd hs hn'=>?_⟩
  obtain⟨F3,b1,b2,b3⟩:=a5 H' d' F' ts (fun a ha=>hh a (P' _ ha)) hd hs hn'
  refine⟨F1++F3,fun a ha=>?_,lz.mpr ⟨n1,b2,fun a ha b hb=>n3 a ha b (b1 b hb)⟩,x,xs,F1,F3,rfl,rfl,h.mono ts fun a ha=>hh a (kW _ ha) fun z=>n3 a ha a (a2 a z) rfl,b3⟩
  rcases kc.mp ha with ha|ha
  ·exact kW _ ha
  ·exact P' _ (b1 a ha)
def Lens(K:KW)(S:Addr->Prop)(H:Hp)(F:List Addr)(d:PyData)(v:V)(π:List Nat)(d':PyData)(u:V):Prop:=∃Fy,Dp K S H d' u Fy/\(∀a∈Fy,a∈F)/\Fy.Nodup/\((π=[]->u=v/\d'=d)/\(π≠[]->∀ds,d = .list ds->∀a,v = .ref a->a∉Fy)) /\
 ∀(H':Hp) (x:PyData) (Fx:List Addr),TSm (hid S H) (hid S H')->(∀a∈F,a∉Fy->H' a=H a)->Dp K S H' x u Fx->(∀a∈Fx,a∈Fy)->Fx.Nodup->∃F3,(∀a∈F3,a∈F)/\F3.Nodup/\Dp K S H' (stP x π d) v F3
def Lens.nil{S:Addr->Prop}{H:Hp}{F:List Addr}{d:PyData}{v:V}(h:Dp K S H d v F)(hn:F.Nodup):Lens K S H F d v [] d v:=⟨F,h,fun _ h=>h,hn,⟨fun _=>⟨rfl,rfl⟩,fun h=>absurd rfl h⟩,fun H' x Fx _ _ hd hs hn'=>⟨Fx,hs,hn',hd⟩⟩
def Lens.mono{S:Addr->Prop}{H H2:Hp}{F:List Addr}{d d':PyData}{v u:V}{π:List Nat}(l:Lens K S H F d v π d' u)(ts:TSm (hid S H) (hid S H2))(on:∀a∈F,H2 a=H a):Lens K S H2 F d v π d' u:=by
 obtain⟨Fy,h1,h2,h3,h5,h4⟩:=l
 refine⟨Fy,h1.mono ts fun a ha=>on a (h2 a ha),h2,h3,h5,fun H' x Fx ts' on' hd hs hn=>h4 H' x Fx ?_ (fun a ha hn=>(on' a ha hn).trans (on a ha)) hd hs hn⟩
 exact fun b o e nl ne=>ts' b o (ts b o e nl ne) nl ne
def Lens.tuple{S:Addr->Prop}{H:Hp}{F:List Addr}{d:PyData}{v u:V}{π:List Nat}{ds:List PyData}{n:Nat}{x:PyData}(l:Lens K S H F d v π (.tuple ds) u)(g:gtP π d=some (.tuple ds))(e:ds[n]?=some x) :
  ∃a vs w,u = .ref a/\SqT K (hid S H) a vs/\vs.length=ds.length/\vs[n]?=some w/\Lens K S H F d v (π++[n]) x w:=by
 obtain⟨Fy,⟨a,vs,rfl,ha,lv⟩,h2,h3,h5,h4⟩:=l
 obtain⟨w,Fw,w1,w2,w3,w4,w5⟩:=lv.at2 h3 e
 refine⟨a,vs,w,rfl,ha,lv.length,w1,Fw,w4,fun b hb=>h2 b (w2 b hb),w3,⟨fun z=>by simp at z,fun _ cs hc b hb z=>?_⟩,fun H' y Fx ts on hd hs hn=>?_⟩
 ·by_cases hp:π=[]
  ·obtain⟨_,e1⟩:=h5.1 hp
   rw[hc]at e1;cases e1
  ·exact h5.2 hp cs hc b hb (w2 b z)
 obtain⟨F3,b1,b2,b3⟩:=w5 H' y Fx ts (fun b hb hb'=>on b (h2 b hb) hb') hd hs hn
 rw[LG (g:=.tuple) (by rfl) g]
 exact h4 H' (.tuple (ds.set n y)) F3 ts (fun b hb hb'=>on b hb fun z=>hb' (w2 b z)) ⟨a,vs,rfl,ts.tup ha,b3⟩ b1 b2
abbrev DP:=PyData->DS->Option (List Nat×PyData×DS)
structure PT(K:KW)(r:Nat)(t:TE)(g:DP):Prop where
 like:∀d τ π d' t5,g d τ=some (π,d',t5)->Like τ t5
 gp:∀d τ π d' t5,g d τ=some (π,d',t5)->∀π0 dr,gtP π0 dr=some d->gtP (π0++π) dr=some d'
 run:∀(S M:Addr->Prop) τ σ H (Q:VK) dr v F π0 d0 u0 π d' t5,R K (fun b=>S b/\b∉F) (fun b=>M b/\b∉F) τ σ H->σ[r]?=some (some u0)->(∀a∈F,∃vs,H a=some (.lst vs))->(∀a,M a->S a)->gtP π0 dr=some d0->Lens K S H F dr v π0 d0 u0->g d0 τ=some (π,d',t5) ->
  (∀u H',R K (fun b=>S b/\b∉F) (fun b=>M b/\b∉F) t5 σ H'->Chg (fun b=>M b/\b∉F) H H'->Lens K S H' F dr v (π0++π) d' u->Q u H')->t σ H Q
def dPV:DP:=fun d τ=>some ([],d,τ)
def VH{r:Nat}:PT K r (Dq r) dPV:=by
 refine⟨fun d τ π d' t5 e=>by cases e;exact .refl,fun d τ π d' t5 e π0 dr h=>by cases e;rw[ku];exact h,fun S M τ σ H Q dr v F π0 d0 u0 π d' t5 rr hu hl hs hg l e q=>?_⟩
 cases e
 exact⟨u0,hu,q u0 H rr .refl (by rw[ku];exact l)⟩
def dPT(g:DP)(e:DX):DP:=fun d τ=>(g d τ).bind fun p=>(e p.2.2).bind fun w=>match p.2.1,w.1 with
 |.tuple ds,.int k=>(ixN ds.length k).bind fun n=>(ds[n]?).map fun x=>(p.1++[n],x,w.2)
 |_,_=>none
def L8{g:DP}{e:DX}{d d':PyData}{τ t5:DS}{π:List Nat}(h:dPT g e d τ=some (π,d',t5)):∃π1 ds t4 k n,g d τ=some (π1,.tuple ds,t4)/\e t4=some (.int k,t5)/\ixN ds.length k=some n/\ds[n]?=some d'/\π=π1++[n]:=by
 unfold dPT at h
 obtain⟨⟨π1,x,t4⟩,e1,h⟩:=oB h
 obtain⟨⟨y,t7⟩,e2,h⟩:=oB h
 dsimp only at h
 split at h
 ·rename_i ds k _
  obtain⟨n,e3,h⟩:=oB h
  obtain⟨z,e4,h⟩:=oM h
  cases h
  exact⟨π1,ds,t4,k,n,e1,e2,e3,e4,rfl⟩
 ·cases h
def Lg{M:Addr->Prop}{F:List Addr}{H H':Hp}(hl:∀a∈F,∃vs,H a=some (.lst vs))(c:Chg (fun b=>M b/\b∉F) H H'):∀a∈F,H' a=H a:=fun a ha=>by
 obtain⟨vs,z⟩:=hl a ha
 rw[z];exact c a _ (fun z=>z.2 ha) z
def Ut{S M:Addr->Prop}{F:List Addr}{H H':Hp}(hs:∀a,M a->S a)(c:Chg (fun b=>M b/\b∉F) H H'):TSm (hid S H) (hid S H'):=tsS (Keep.same fun b o h z=>⟨h,c b o (fun z=>h (hs b z.1)) z⟩)
def VJ{r:Nat}{t ti:TE}{g:DP}{e:DX}{fi:Bool}(h:PT K r t g)(he:E K ti fi e):PT K r (tOp (NW K) t ti) (dPT g e):=by
 refine⟨fun d τ π d' t5 x=>?_,fun d τ π d' t5 x π0 dr hg=>?_,fun S M τ σ H Q dr v F π0 d0 u0 π d' t5 rr hu hl hs hg l x q=>?_⟩
 ·obtain⟨π1,ds,t4,k,n,e1,e2,e3,e4,rfl⟩:=L8 x
  exact(h.like _ _ _ _ _ e1).trans (he.like _ _ _ e2)
 ·obtain⟨π1,ds,t4,k,n,e1,e2,e3,e4,rfl⟩:=L8 x
  rw[<- lK]
  exact Jb (h.gp _ _ _ _ _ e1 π0 dr hg) e4
 obtain⟨π1,ds,t4,k,n,e1,e2,e3,e4,rfl⟩:=L8 x
 refine h.run S M τ σ H _ dr v F π0 d0 u0 π1 _ t4 rr hu hl hs hg l e1 fun u1 H1 r1 c1 l1=>?_
 refine he.weak.run _ _ t4 σ H1 _ _ t5 r1 e2 fun y H2 r2 c2 iy=>?_
 cases (show y = .int k from iy)
 have hl1:∀a∈F,∃vs,H1 a=some (.lst vs):=fun a ha=>by rw[Lg hl c1 a ha];exact hl a ha
 have l2:=l1.mono (Ut hs c2) (Lg hl1 c2)
 obtain⟨a,vs,w,rfl,ha,hv,hw,lw⟩:=l2.tuple (h.gp _ _ _ _ _ e1 π0 dr hg) e4
 refine⟨a,vs,k,w,rfl,rfl,(tsS same_hid).tup ha,by unfold atI;rw[hv,e3];exact hw,q w H2 r2 (c1.trans c2) ?_⟩
 rw[<- lK];exact lw
variable {K:KW} {np:Nat}
structure OpP(K:KW)(r:V->List V->Hp->VK->Prop)(go:List PyData->List PyData->Option (List PyData)):Prop where
 run:∀(S:Addr->Prop) (H:Hp) cs ds cs' p cvs vs G (Q:VK),go cs ds=some cs'->S p->p∉G->G.Nodup->H p=some (.lst cvs)->DpL K S H cs cvs G->IsL K (hid S H) ds vs->fixDs ds=true ->
  (∀cvs' G',(∀a∈G',a∈G)->G'.Nodup->DpL K S (upd H p (.lst cvs')) cs' cvs' G'->Q .non (upd H p (.lst cvs')))->r (.ref p) vs H Q
def S7{S:Addr->Prop}{H:Hp}{p:Addr}{o:HO}{cs:List PyData}{cvs:List V}{G:List Addr}(hp:S p)(hG:p∉G)(l:DpL K S H cs cvs G):DpL K S (upd H p o) cs cvs G:=l.mono (by rw[Hg hp];exact .refl) fun a ha=>Aq fun z=>hG (z▸ha)
def DpL.rev{S:Addr->Prop}{H:Hp}:∀{ds:List PyData} {vs:List V} {F:List Addr},DpL K S H ds vs F->F.Nodup->∃F',(∀a,a∈F'↔a∈F)/\F'.Nodup/\DpL K S H ds.reverse vs.reverse F'
 |[],_,_,⟨rfl,rfl⟩,_=>⟨[],fun a=>mC,List.nodup_nil,rfl,rfl⟩
 |d::ds,_,_,⟨x,xs,F1,F2,rfl,rfl,h,l⟩,hn=>by
  obtain⟨n1,n2,n3⟩:=lz.mp hn
  obtain⟨F',e,n,l'⟩:=DpL.rev l n2
  refine⟨F'++F1,fun a=>by rw[kc,kc,e,or_comm],lz.mpr ⟨n,n1,fun a ha b hb z=>n3 b hb a ((e a).mp ha) z.symm⟩,?_⟩
  rw[mU,mU]
  exact l'.snoc h
def Rb(cs ds:List PyData):Option (List PyData):=match ds with
 |[d]=>if cs.length<sizeLine then some (cs++[d]) else none
 |_=>none
def ak:OpP K NX Rb:=by
 refine⟨fun S H cs ds cs' p cvs vs G Q e hp hG hn hH l ia fx q=>?_⟩
 unfold Rb at e
 split at e
 ·rename_i d
  split at e
  ·rename_i hz
   cases e
   obtain⟨w,ws,rfl,iw,iws⟩:=ia
   cases (show ws=[] from iws)
   refine⟨p,cvs,w,rfl,rfl,hH,by rw[l.length];exact hz,q _ G (fun _ h=>h) hn ?_⟩
   have fd:Cs d=true:=by rw[fixDs,Y']at fx;exact fx.1
   have:=(S7 (o:=.lst (cvs++[w])) hp hG l).snoc (Dp.fix fd (by rw[Hg hp];exact iw))
   rw[ku]at this
   exact this
  ·cases e
 ·cases e
def Vq(cs ds:List PyData):Option (List PyData):=match ds with
 |[]=>some cs.reverse
 |_=>none
def aY:OpP K Oq Vq:=by
 refine⟨fun S H cs ds cs' p cvs vs G Q e hp hG hn hH l ia fx q=>?_⟩
 unfold Vq at e
 split at e
 ·cases e
  cases (show vs=[] from ia)
  obtain⟨G',eG,nG,l'⟩:=DpL.rev l hn
  exact⟨p,cvs,rfl,rfl,hH,q _ G' (fun a h=>(eG a).mp h) nG (S7 hp (fun z=>hG ((eG p).mp z)) l')⟩
 ·cases e
def bo(i:Nat)(g:DP)(a:DA)(go:List PyData->List PyData->Option (List PyData))(dr:PyData)(π0:List Nat)(d0:PyData)(τ:DS):Option DS:=(g d0 (τ.set i (some (.d dr)))).bind fun p=>match p.2.1 with
 |.list cs=>(a p.2.2).bind fun w=>(A1 w.1).bind fun ds=>if fixDs ds=true/\w.2.all okM=true then (go cs ds).map fun cs'=>w.2.set i (some (.g (stP (.list cs') (π0++p.1) dr))) else none
 |_=>none
def RF.back{F:Frm}{S M:Addr->Prop}{τ n9:DS}{σ:St}{H H4:Hp}{i:Nat}{d d' d2:PyData}(f:RF K F S M τ σ H)(hi:τ[i]?=some (some (.g d)))(lk:Like (τ.set i (some (.d d2))) n9)(r4:R K S M (n9.set i (some (.g d'))) σ H4)(c4:Chg M H H4):RF K F S M (n9.set i (some (.g d'))) σ H4:=by
 refine⟨r4,f.sS,fun b o e n=>c4 b o (fun z=>(f.new b z).elim n fun w=>by rw[w]at e;cases e) (f.old b o e n),f.new,f.fm,f.fs,f.fsub,f.snew,f.par,fun j v' e=>?_,f.fma⟩
 obtain⟨o,ho'⟩:=f.pm j v' e
 have hj:j≠i:=fun z=>by subst z;rw[hi]at ho';exact Ow.not_g (J' (J' ho')).symm
 obtain⟨o2,h2'⟩:=(lk.own j).mpr ⟨o,by rw[W' (Ne.symm hj)];exact ho'⟩
 exact⟨o2,by rw[W' (Ne.symm hj)];exact h2'⟩
def aq{F:Frm}{S M:Addr->Prop}{τ t5:DS}{σ:St}{H:Hp}{D:Kw}(f:RF K F S M τ σ H){i r:Nat}{dr:PyData}(hi:τ[i]?=some (some (.g dr)))(hx:nDc dr){π0:List Nat}{d0:PyData}{u0 a0:V}(hu:σ[r]?=some (some u0))(hg0:gtP π0 dr=some d0)
  (l0:∀v X,σ[i]?=some (some v)->Dp K S H dr v X->X.Nodup->Lens K S H X dr v π0 d0 u0) {t:TE} {ta:TA} {g:DP} {a:DA} {op:V->List V->Hp->VK->Prop} {go:List PyData->List PyData->Option (List PyData)} (hp:PT K r t g) (ha:A K ta a) (ho:OpP K op go)
  (ee:bo i g a go dr π0 d0 τ=some t5) (q:∀H',RF K F S M t5 σ H'->Keep S H S H'->(∀rows,dr = .list rows->π0≠[]->∀b vs,σ[i]?=some (some (.ref b))->H b=some (.lst vs)->H' b=some (.lst vs))->D.nx σ H'):LF (tBM K "list" op t ta) D σ H:=by
 unfold bo at ee
 obtain⟨⟨π,d1,t4⟩,e1,ee⟩:=oB ee
 dsimp only at ee
 split at ee
 ·rename_i cs
  obtain⟨⟨rs,t7⟩,e2,ee⟩:=oB ee
  obtain⟨ds,e3,ee⟩:=oB ee
  dsimp only at ee
  split at ee
  ·rename_i hc
   obtain⟨cs',e4,ee⟩:=oM ee
   subst ee
   obtain⟨v,X,hv,hd,hn,hM,hO,rz⟩:=YH f.r hi hx
   have hlX:=hd.lst
   have hS:∀a∈X,S a:=fun a ha=>f.r.sub a (hM a ha)
   refine hp.run S M _ σ H _ dr v X π0 d0 u0 π _ t4 rz hu hlX f.r.sub hg0 (l0 v X hv hd hn) e1 fun u H1 r1 c1 l1=>?_
   have hl1:∀a∈X,∃vs,H1 a=some (.lst vs):=fun a ha=>by rw[Lg hlX c1 a ha];exact hlX a ha
   have hty:tyV K "list" u H1:=by
    obtain⟨Fy,⟨p,cvs,G,rfl,_,hpp,_⟩,_⟩:=l1
    exact .inl ⟨rfl,cvs,SqL.of hpp⟩
   refine⟨hty,ha.run _ _ t4 σ H1 _ rs t7 r1 e2 fun us H2 r2 c2 iA=>?_⟩
   have on2:=Lg hl1 c2
   have l2:=l1.mono (Ut f.r.sub c2) on2
   have cH:Chg (fun b=>M b/\b∉X) H H2:=c1.trans c2
   have onH:=Lg hlX cH
   have hl2:∀a∈X,∃vs,H2 a=some (.lst vs):=fun a ha=>by rw[onH a ha];exact hlX a ha
   have iL:=CJ iA e3
   have ts2:TSm (hid (fun b=>S b/\b∉X) H2) (hid S H2):=fun b o z nl ne=>by
    obtain⟨z1,z2⟩:=hid_iff.mp z
    have hb:b∉X:=fun hb=>by
     obtain⟨us,zz⟩:=hl2 b hb
     rw[z2]at zz;cases zz;exact nl _ rfl
    exact hid_iff.mpr ⟨fun hs=>z1 ⟨hs,hb⟩,z2⟩
   have iL':IsL K (hid S H2) ds us:=IsL.monoT ts2 hc.1 iL
   obtain⟨Fy,⟨p,cvs,G,rfl,rfl,hpp,lc⟩,s2,n2,z2,up⟩:=l2
   obtain⟨np,nG⟩:=lg.mp n2
   have pX:p∈X:=s2 p (L' ..)
   refine ho.run S H2 cs ds cs' p cvs us G _ e4 (hS p pX) np nG hpp lc iL' hc.1 fun cvs' G' sG nG' l'=>?_
   have eh:hid S (upd H2 p (.lst cvs'))=hid S H2:=Hg (hS p pX)
   obtain⟨F3,b1,b2,b3⟩:=up (upd H2 p (.lst cvs')) (.list cs') (p::G') (by rw[eh];exact .refl) (fun b _ hb=>Aq fun z=>hb (z▸L' ..)) ⟨p,cvs',G',rfl,rfl,Ah,l'⟩
    (fun b hb=>(kY.mp hb).elim (fun z=>z▸L' ..) fun z=>V' _ (sG b z)) (lg.mpr ⟨fun z=>np (sG p z),nG'⟩)
   have lk:Like (τ.set i (some (.d dr))) t7:=(hp.like _ _ _ _ _ e1).trans (ha.like _ _ _ e2)
   have r4 := W7 (H4 := upd H2 p (.lst cvs')) f.r hi hv hM hO r2 lk cH hc.2 hl2 (fun b hb => Aq fun z => hb (z ▸ pX)) (fun b hb => by
    by_cases z:b=p
    ·subst z;exact⟨_,Ah⟩
    ·rw[Aq z];exact hl2 b hb) b1 b2 b3
   have c4:Chg M H (upd H2 p (.lst cvs')):=fun b o h z=>by
    have hb:b≠p:=fun w=>h (by rw[w];exact hM p pX)
    rw[Aq hb]
    exact cH b o (fun z=>h z.1) z
   refine q _ (f.back hi lk r4 c4) (c4.keep f.r.sub) fun rows ed h0 b vs hb hH=>?_
   subst ed
   rw[hv]at hb;cases hb
   have nb:b≠p:=fun z=>by
    refine z2.2 (fun w=>h0 (List.append_eq_nil_iff.mp w).1) rows rfl b rfl ?_
    rw[z];exact L' ..
   have bX:b∈X:=by
    obtain⟨_,_,_,e5,e6,_⟩:=(show Dp K S H (.list rows) (.ref b) X from hd)
    cases e5;rw[e6];exact L' ..
   rw[Aq nb,onH b bX];exact hH
  ·cases ee
 ·cases ee
end DL
end
section
namespace L2
open PySem DL
end L2
namespace DL
open PySem L2
variable {K:KW}
end DL
end
section
namespace Duh
open PySem
section
variable {K:Type} [DecidableEq K]
end
section
variable {prog:Program} {w:World} {K:Type} [DecidableEq K] {knd:HeapKind prog w K} {A:Around} {E:Value->Shared->Prop} {s:Shared}
end
end Duh
end
section
namespace DL
open PySem L2 PyProof.Rows
variable {K:KW}
instance (l:List Int):Decidable l.Nodup:=inferInstance
end DL
end
section
namespace DL
open PySem L2
variable {K:KW} {np:Nat}
variable {K:KW} {np:Nat}
def Wv{S:Addr->Prop}{τ:DS}{σ:St}{H:Hp}(hl:σ.length=τ.length)(hd:∀(i:Nat) (l:L),τ[i]?=some (some l)->∃x v,l = .d x/\σ[i]?=some (some v)/\Is K (hid S H) x v)(hs:∀a,S a->∃o,H a=some o):R K S (fun _=>False) τ σ H:=by
 have own:∀(i:Nat) (o:Ow),τ[i]?≠some (some o.L):=fun i o e=>by
  obtain⟨x,v,z,_⟩:=hd i _ e
  exact Ow.not_d z
 refine⟨hl,fun i z e=>?_,fun i o e=>absurd e (own i o),fun i z e=>?_,fun i j o p a e=>absurd e (own i o),fun _ h=>h.elim,hs,GR.nil fun i z e=>?_⟩
 ·obtain⟨x,v,y,h1,h2⟩:=hd i _ e
  cases y;exact⟨v,h1,h2⟩
 ·obtain⟨x,v,y,_⟩:=hd i _ e
  cases y
 ·obtain⟨x,v,y,_⟩:=hd i _ e
  cases y
end DL
end
section
namespace L2
open PySem PySem.Spec PyProof.Rows
def CRg(lo hi st:Int):Prop:=-1000000<=lo/\lo<=1000000/\-1000000<=hi/\hi<=1000000/\0<st/\st<=1000000
end L2
namespace DL
open PySem L2 PyProof.Rows
variable {K:KW}
instance {i j k:Int}:Decidable (CRg i j k):=by unfold CRg;infer_instance
abbrev TP:=L2.St->Hp->(List (Str×V)->Hp->Prop)->Prop
variable {K:KW}
end DL
end
section
namespace L2
open PySem PySem.Spec PyProof.Rows
end L2
namespace DL
open PySem L2 PyProof.Rows
variable {K:KW}
end DL
namespace DL
open PySem L2 PyProof.Rows
end DL
end
section
namespace L2
open PySem PySem.Spec PyProof.Rows
def Mf:entryFor table "proto.unchain"=some Builtin.«proto.unchain»:=entryFor_of_fast (by kernel_rfl)
section
variable {prog:Program} {w:World} {A:Around} {E:Value->Shared->Prop} {s:Shared}
def Lm{it l ea:Addr}{oe:Obj}{i:Nat}{items}{Q:Option Value->Shared->Prop}(hh:A.handled=some (.ref ea))(hea:s.heap.get? ea=some oe)(hnc:NoCtx oe)(hne:ea≠it)
  (hit:s.heap.IsListIter it l i) (hl:s.heap.IsList l items) (hx:items[i]?=none)
  (hQ:∀h',Heap.ExtBut it s.heap h'->Q none { s with heap:=h' }):wpAny (model prog w) A (pyNext (.ref it)) Q E s:=by
 obtain⟨o,ho,hc,hd⟩:=id hit
 obtain⟨ol,hol,_,nl,hdl⟩:=hl
 unfold pyNext
 refine wpAny_bind (wpAny_attempt (wpAny_callSpecial?_slot (name := Str.ofString "__next__") hit.typeIs slot_listiter_next
  (wpAny_call_entry slot_listiter_next hit.typeIs entry_listiter_next ?_ (args_listiter_next _))))
 show wpAny _ _ (field (.ref it) 0 >>= _) _ _ s
 refine wpAny_bind (wpAny_field ho hd (x:=.ref l) rfl ?_)
 show wpAny _ _ (if (Value.ref l==Value.none)=true then _ else _) _ _ s
 rw[if_neg (show ¬((Value.ref l==Value.none)=true) from kr)]
 show wpAny _ _ (field (.ref it) 1 >>= _) _ _ s
 refine wpAny_bind (wpAny_field ho hd (x:=.int i 0) rfl ?_)
 show wpAny _ _ (seqItems? (.ref l) >>= _) _ _ s
 refine wpAny_bind (wpAny_seqItems hol hdl ?_)
 simp only[Int.toNat_natCast,hx]
 refine wpAny_bind (wpAny_rule (wpAny_bind (wpAny_setField ho hd (by simp) ?_)))
 show wpAny _ _ (newExc (.type "StopIteration") [] >>= _) _ _ _
 refine wpAny_bind ?_
 simp only[newExc,newTuple]
 refine wpAny_bind (wpAny_newObj_type ?_ (by size_fits))
 refine wpAny_bind (m:=firstArgMember _ _) (wpAny_of_eq (a:=Value.none) (by first|rfl|(simp only[firstArgMember];rfl)) ?_)
 refine wpAny_newObj_type ?_ (by size_fits)
 have e1:=(Heap.SameBut.update s.heap it (Obj.mapFields (·.setIfInBounds 0 Value.none))).extBut.push { cls:=.type "tuple",data:=.seq ([]:List Value).toArray }
 generalize (s.heap.update it (Obj.mapFields (·.setIfInBounds 0 Value.none))).push { cls:=.type "tuple",data:=.seq ([]:List Value).toArray }=g1 at e1 ⊢
 dsimp only
 have hlt:ea≠g1.objs.size:=lE (i' (e1 ea oe hne hea))
 simp only[raiseNew]
 refine wpAny_bind (wpAny_handled ?_)
 rw[show A.in1.handled=some (.ref ea) from hh]
 dsimp only
 rw[if_pos (show(Value.ref ea != Value.ref g1.objs.size)=true from by simp[bne,hlt])]
 obtain⟨vs,d1,d2⟩:=hnc
 refine wpAny_bind (wpAny_holding (wpAny_runValue (codeAny_builtin Mf ?_)))
 unfold Builtin.«proto.unchain»
 dsimp only
 refine wpAny_bind (wpAny_field (U' _ (e1 ea oe hne hea)) d1 d2 ?_)
 rw[if_pos (show(Value.none==Value.none)=true from rfl)]
 refine wpAny_bind (wpAny_pure (wpAny_pure ?_))
 dsimp only
 refine wpAny_bind ?_
 unfold updateField
 refine wpAny_bind (wpAny_load (kb _ rfl) ?_)
 dsimp only
 rw[if_pos (by first|(simp;done)|(rw[Array.size_append];exact kZ (by decide:2<6) (Nat.le_add_right _ _)))]
 refine wpAny_update (kb _ rfl) (wpAny_throw ?_)
 refine wpAny_bind (wpAny_isInstance (T:="StopIteration") (b:=true) ⟨_,mX _ (kb _ rfl) rfl,rfl⟩ isSubtype_stop ?_)
 refine wpAny_pure (hQ _ fun b o hb e=>?_)
 have e2:=e1 b o hb e
 rw[lI _ _ (mK (i' e2))]
 exact U' _ e2
end
def Le{P:Program}{w:World}{K:PySem.W.Frag}{mg:Str->Option Value}{base:Heap}{N:List Str}{qual:Str}{scope:Scope}{f:Addr}{cd:Value}{A:Around}{outer:List Env}{s:Shared}{H:Hp}{E:XK} :
  Jt (CXr P w) (JP (CXr P w) P w K mg base N qual scope f cd A outer s H E) E:=by
 intro pins σ H1 s1 e s2 I hx
 obtain⟨ea,C,H2,rfl,h1,h2,h3,h4,h5,h6,h7⟩:=hx
 have g:Got1 (JP (CXr P w) P w K mg base N qual scope f cd A outer s H E) pins σ H1 H2 s1 ea C .none s2:=⟨h1,h2,h3,h4,h5,h6⟩
 have hm:∀b,Nw s1.heap H2 b->Nw s.heap H2 b:=fun b z=>by
  refine⟨?_,z.2⟩
  cases q:s.heap.get? b with
  |none=>rfl
  |some o =>
   obtain⟨o',r⟩:=I.base.there b o q (by intro y;cases y)
   rw[z.1]at r
   cases r
 show wpAny (model P w) (A.deeper (envOfC qual scope s.heap.objs.size f cd)) (leaving (envOfC qual scope s.heap.objs.size f cd) (.ref ea)) (fun _ s''=>CXr P w outer H s E (.ref ea) s'') (fun e' s''=>CXr P w outer H s E e' s'') s2
 unfold leaving
 refine wpAny_bind (g.lands I ⟨rfl,rfl⟩ I.ok.frames fun s4 g4=>?_)
 have J:=g4.inv I
 exact⟨ea,C,H2,rfl,J.os,J.bare,J.base,J.hok,hm ea g4.new,g4.xat.mono hm,h7⟩
def HQ(ea:Addr)(oe:Obj)(X:Cx):Prop:=X.A.handled=some (.ref ea)/\X.H₀ ea=some (.frz oe (.own ea))/\NoCtx oe
def RB{ea:Addr}{oe:Obj}{P:Program}{w:World}{K:PySem.W.Frag}{tg:Expr}(a it:Addr):Wu (HQ ea oe) P w K tg (Itl K a) [it] it (fun i h=>h.IsListIter it a i) where
 obj:=(JT (P:=P) (w:=w) (K:=K) (tg:=tg) a it).obj
 keep:=(JT (P:=P) (w:=w) (K:=K) (tg:=tg) a it).keep
 item:=by
  intro X hP hw hK hc i pins s σ H E I hf st hg
  subst hP hw hK
  obtain⟨xs,x,hq,hx⟩:=hg
  obtain⟨its,rv,p,hz⟩:=I.list hq
  obtain⟨u,hu,ru⟩:=rv.get hx
  obtain⟨f0,f1,f2,f3,f4,f5⟩:=hf it (by simp)
  refine wpAny_pyNext_list_item st p.isList (x:=u) (by simpa using hu) fun h' st' sb=>?_
  have I1:Inv X pins σ H { s with heap:=h' }:=I.turned (t':=s.toks) (fun b o hb e=>(sb.2 b hb).trans e) f0 f1 f3 f4 f5
  obtain⟨o,e,c,d⟩:=id st'
  exact⟨u,rfl,Pk (s:={ s with heap:=h' }) e c d (by decide) ⟨x,H,I1,ru,⟨rfl,fun ys hy=>by rw[I.list_inj hy hq];exact hx⟩,st',fun b hb=>(hf b hb).1⟩⟩
 done:=by
  intro X hP hw hK hc i pins s σ H E I hf st hg
  subst hP hw hK
  obtain⟨xs,hq,hx⟩:=hg
  obtain⟨its,rv,p,hz⟩:=I.list hq
  obtain⟨f0,f1,f2,f3,f4,f5⟩:=hf it (by simp)
  have hl:=rv.length
  have hea:=I.base.frzs _ _ _ hc.2.1
  exact Lm hc.1 (I.hok _ _ hea).1 hc.2.2 (A0 hea f0) st p.isList (by simp;omega) fun h' eb=>⟨rfl,I.turned (t':=s.toks) (fun b o hb e=>eb b o hb e) f0 f1 f3 f4 f5⟩
 self:=fun _ _ _ _ _ st h=>wpAny_pyIter_listiter st h
section
variable {X:Cx} {N':List Str} {own:Nat} {fr:List Nat} {scope:Scope} {elt tg iter:Expr} {ifs:List Expr} {pos:Pos}
def Tf{ea:Addr}{oe:Obj}{tl:TE}{g:TG}{tc:TT}{te:TE}{i:Nat}{y:Str}{py spos:Pos}(hq:HQ ea oe X)(hN:X.N.Nodup)(hiN:X.N[i]?=some y)(hy:X.env.scope.names.lookup y=some .local)(ok:R5 X N' own fr scope)(hl:PE X iter tl)
  (hg:∀cl fp s3 H3,PG (cxC X N' scope cl fp s3 H3) tg g) (ht:∀cl fp s3 H3,PTs (cxC X N' scope cl fp s3 H3) ifs tc) (he:∀cl fp s3 H3,PE (cxC X N' scope cl fp s3 H3) elt te)
  (hsw:swapsWith (.ListComp elt [⟨tg,iter,ifs,0⟩] scope pos) (some (.Name y py)) spos.line X.env=pure true)
  (hs:∀x,foldedSetIterable iter X.env x=pure x:=by intro _;rfl):PS X (.Assign [.Name y py] (.ListComp elt [⟨tg,iter,ifs,0⟩] scope pos) spos) (fun D σ H=>tLC own fr (M8 X.K tl) g tc te σ H fun v H'=>D.nx (σ.set i (some v)) H'):=by
 intro pins s σ H D I h
 obtain⟨cl,ecl,cl1,cl2⟩:=OQ (env:=X.env) (scope:=scope) fun x hx=>I.ok.has x (ok.free x hx)
 rw[exec_Assign_Name_used _ _ _ _ hsw]
 refine wpAny_bind (wpAny_standAt (wpAny_bind ?_))
 show wpAny _ _ (do let _ <- comprehension (.ListComp elt [⟨tg,iter,ifs,0⟩] scope pos) scope X.env _ (newList []) false (eval iter X.env) (some (assign (.Name y py) X.env))) _ _ s
 refine wpAny_bind (wpAny_mono (wpAny_comprehension_free (use := some (assign (.Name y py) X.env)) (Q := fun _ s' => SP X pins D .next s') rfl hs ecl ok.kind ok.names
  (thn (hl pins s σ H _ I h) fun v s1 h1=>?_)) (fun _ s' hq=>wpAny_pure (wpAny_pure hq)) fun _ _ e=>e)
 obtain⟨x,H1,I1,r1,a,e,⟨xs,hq1⟩,h2⟩:=h1
 subst e
 cases r1
 obtain⟨its,rv,p,hz⟩:=I1.list hq1
 refine wpAny_pyIter_list p.isList ?_
 have I2:Inv X pins σ H1 { s1 with heap:=s1.heap.push { cls:=.type "list_iterator",data:=.fields #[.ref a,.int 0 0] } }:=I1.kept (t':=s1.toks) fun b o e=>U' _ e
 refine MC (G:=HQ ea oe) (fp:=[s1.heap.objs.size]) (RR:=fun acc C=>compPost (model X.prog X.w) X.A X.xe (some (assign (.Name y py) X.env)) (fun _ s'=>SP X pins D .next s') acc C) (fun s3 H3 I3=>⟨hq.1,I3.base.frzs _ _ _ hq.2.1,hq.2.2⟩) ok I2 (RB a _) ⟨_,kb _ rfl,rfl,rfl⟩ (fun b hb=>?_) cl1 cl2 (hg cl) (ht cl) (he cl) h2 ?_
 ·have e:b=s1.heap.objs.size:=by simpa using hb
  subst e
  exact I1.fpOk (X' _) (I1.hok.fresh (X' _))
 intro D' C s' H' J1 O q
 show wpAny _ _ (assign (.Name y py) X.env (.ref D')) _ _ _
 refine wpAny_assign_Name (JV J1 hN hiN (.inl hy) (v:=.ref D') rfl (fun s'' J2 sb=>?_) (.inr hy))
 obtain⟨m,hn⟩:=O.ns
 obtain⟨a,sb,ha⟩:=sb
 have nea:C≠a:=by
  rcases ha with ha|ha
  ·rw[ha];exact O.ne
  ·exact fun z=>O.nc y a ha z.symm
 refine⟨m,hn.sameBut sb nea,fun h'' sb'=>?_⟩
 have O2:Own X pins C H' s'':=⟨⟨m,hn.sameBut sb nea⟩,O.hn,O.ne,O.ab,O.nc,O.np⟩
 exact⟨_,H',O2.go J2 sb',q⟩
end
abbrev Around.calmed(A:Around):Around:={ A with handled:=none }
abbrev cxH(P:Program)(w:World)(K:PySem.W.Frag)(mg:Str->Option Value)(base:Heap)(N:List Str)(qual:Str)(scope:Scope)(f:Addr)(cd:Value)(A:Around)(outer:List Env)(s:Shared)(H:Hp)(E:XK):Cx:={ JP CX0 P w K mg base N qual scope f cd A outer s H E with calm:=false,xe:=fun _ _=>False }
structure TU(P:Program)(w:World)(K:PySem.W.Frag)(mg:Str->Option Value)(base:Heap)(k:Nat)(f:Addr)(fd:FuncData)(ps:List Str)(sp:Addr->Obj->Sp):Prop where
 len:∀ea oe vs H Q E,sp ea oe vs H Q E->vs.length=ps.length
 run:∀(ea:Addr) (oe:Obj) (A:Around) (outer:List Env) (s:Shared) (H:Hp) (args:Args) (us:List Value) (vs:List V) (Q:VK) (E:XK),Room k (Around.calmed A)->A.handled=some (.ref ea)->H ea=some (.frz oe (.own ea))->NoCtx oe->Wx P w K mg base A outer s H->BindsTo s fd args (ps.zip us)->Vals vs us->sp ea oe vs H Q E ->
  codeAny (model P w) A (.call (.ref f) args) (CR CX0 outer P w H s Q E) s
def Fun.okH{P:Program}{w:World}{K:PySem.W.Frag}{mg:Str->Option Value}{base:Heap}{x qual:Str}{st:Stmt}{f:Addr}{fd:FuncData}{N ps:List Str}{k:Nat}{sp:Addr->Obj->Sp}(F:Fun K x qual st f fd)(S:Ee N ps (AV st))(len:∀ea oe vs H Q E,sp ea oe vs H Q E->vs.length=ps.length)
  (hbody : ∀ (ea : Addr) (oe : Obj) (cdv : Value) (A : Around) (outer : List Env) (s : Shared) (H : Hp) (vs : List V) (Q : VK) (E : XK), Room k (Around.calmed (A.deeper (envOfC qual (AV st) s.heap.objs.size f cdv))) -> HQ ea oe (cxH P w K mg base N qual (AV st) f cdv A outer s H E) -> sp ea oe vs H Q E ->
   ∃t,PSs (cxH P w K mg base N qual (AV st) f cdv A outer s H E) (Bk st) t/\t { nx:=fun _ H'=>Q .non H',rt:=Q } (start N vs) H):TU P w K mg base (k+1) f fd ps sp:=by
 obtain⟨oc,od,kV,doc,pm,an,cdv,ct,osl,rfl,lk,hcd⟩:=F.ex
 refine⟨len,fun ea oe A outer s H args us vs Q E hr hh hH hnc e0 hb r hsp=>?_⟩
 have hl:=len _ _ _ _ _ _ hsp
 have KX:K.In s.heap:=e0.mod.kin.keeps fun b o e=>(e0.bs b o e).1
 have lim:s.heap.NoLimit:=e0.mod.nolimit.keeps fun b o e=>(e0.bs b o e).1
 have hkind:∀y∈ps.zip us,(AV st).names.lookup y.1=some .local\/((AV st).names.lookup y.1=some .cell/\((cellsFrom (s.heap.objs.size+1) (AV st).names []).lookup y.1).isSome=true):=fun⟨n,v⟩ hy=>by
  rcases S.par n (mh hy).1 with q|q
  ·exact .inl q
  ·exact .inr ⟨q,mT _ _ _ (.inl q)⟩
 refine codeAny_call_function hr.depth (KX _ _ lk) rfl S.co S.gen rfl (PySem.W.codeRec_of KX hcd) (hb _ _ _ _ ?_)
 refine wpAny_newFunctionEnv_cells S.kind hkind fun env he s1 x=>?_
 subst he
 refine⟨lim.keeps x.toInCall.keep,codeAny_func ?_⟩
 obtain⟨t,ht,hq⟩:=hbody ea oe cdv A outer s H vs Q E (Room.deeper (A:=Around.calmed A) hr _) ⟨hh,hH,hnc⟩ hsp
 have I0:Inv (JP CX0 P w K mg base N qual (AV st) f cdv (Around.calmed A) outer s H E) [] (start N vs) H s1:=M7 S rfl ⟨e0.frames,e0.mod,e0.bs,e0.bsz,e0.funs,e0.frf,e0.hok,e0.bare⟩ hl r x
 have ok:=I0.ok
 have I:Inv (cxH P w K mg base N qual (AV st) f cdv A outer s H E) [] (start N vs) H s1:=⟨⟨ok.mod,ok.kind,ok.glob,ok.blt,ok.above,ok.inj,ok.has,ok.cab,(fun z=>nomatch z),ok.frames,ok.stk,ok.exf,ok.bs,ok.bsz,ok.noex,ok.exfs,ok.funs,ok.frf⟩,I0.os,I0.bare,I0.base,I0.loc,I0.cell,I0.free,I0.freeC,I0.pin,I0.hok,I0.len⟩
 refine wpAny_mono (ht [] s1 (start N vs) H _ I hq) (fun fl s' hs=>?_) fun e s' hs=>False.elim hs
 have fin:∀{σ':St} {H':Hp} {v:V} {u:Value},Inv (cxH P w K mg base N qual (AV st) f cdv A outer s H E) [] σ' H' s'->RelV v u->Q v H'->CE outer P w H s Q u s' :=
  fun {σ' H' v u} J rv q=>⟨v,H',J.os,J.bare,J.base,J.hok,rv,q⟩
 cases fl with
 |ret u =>
  obtain⟨v,σ',H',J,rv,q⟩:=hs
  exact fin J rv q
 |next =>
  obtain⟨σ',H',J,q⟩:=hs
  exact fin (v:=V.non) (u:=Value.none) J rfl q
 |brk =>
  obtain⟨_,_,_,q⟩:=hs
  exact False.elim q
 |cont =>
  obtain⟨_,_,_,q⟩:=hs
  exact False.elim q
section
variable {X:Cx} {k i j:Nat} {f ea C D':Addr} {oe:Obj} {fd:FuncData} {ps:List Str} {x cn n y:Str} {p pos p1 np hp p2 py:Pos} {e:Expr} {es:List Expr} {t:TA} {b₀:Stmt} {suite:List Stmt}
def Va{sp:Addr->Obj->Sp}(F:TU X.prog X.w X.K X.mg X.base k f fd ps sp)(hr:Room k (Around.calmed X.A))(hh:X.A.handled=some (.ref ea))(hnc:NoCtx oe)(hg:Gl X x)(hm:X.mg x=some (.ref f))(hk:PySem.W.keepIn X.K (.ref f)=true)(hb:Binds X.K fd ps [])
  (ha:PA X (e::es) t) (hdb:(x==("__debug__":Str))=false:=by decide) (he:starEach (e::es) X.env=(false,eval e X.env)::starEach es X.env:=by rfl) (hpl:(backTo pos (starEach es X.env)).any (·.1)=false:=by rfl) :
  PE X (.Call (.Name x p) (e::es) [] pos) (fun σ H Q=>t σ H fun vs H1=>H1 ea=some (.frz oe (.own ea))/\sp ea oe vs H1 Q E0):=by
 intro pins s σ H Q I h
 refine wpAny_Call_Name_kw (GG I hg hm ?_ hdb)
 refine mM (h₀:=X.base) I.ok.mod.kin hk (thn (ha pos pins s σ H _ I h) fun us s1 ⟨vs,H1,I1,r,hH,q⟩=>⟨I1.kIn,?_⟩) he hpl
 have hl:us.length=ps.length:=by rw[<- r.length];exact F.len _ _ _ _ _ _ q
 refine wpAny_call (codeAny_mono (F.run ea oe X.A X.stack s1 H1 ⟨us,[]⟩ us vs Q E0 hr hh hH hnc I1.env0 (by have:=hb s1 us I1.kIn (by simpa using hl);simpa using this) r q) fun r s' hq=>?_)
 cases r with
 |error e=>exact False.elim hq
 |ok fl =>
  cases fl with
  |ret u=>exact I1.after hq
  |next=>exact False.elim hq
  |brk=>exact False.elim hq
  |cont=>exact False.elim hq
abbrev Cx.withinH(X:Cx)(ea:Addr):Cx:={ X with A:=X.A.mark (some (.ref ea)),calm:=false,xe:=fun _ _=>False }
def Inv.frzE{pins:List (Addr×Obj)}{σ:St}{H:Hp}{s:Shared}(I:Inv X pins σ H s)(ho:s.heap.get? ea=some oe)(hn:H ea=none)(hl:ea≠X.env.locals)(hd:∀v,oe.data≠.cell v)(hp:∀p∈X.pn++pins,p.1≠ea)(h0:X.s₀.heap.get? ea=none) :
  Inv (X.withinH ea) pins σ (upd H ea (.frz oe (.own ea))) s:=by
 have ok:=I.ok
 have ne:∀{b o},H b=some o->upd H ea (.frz oe (.own ea)) b=some o:=fun q=>by rw[Aq (A0 q hn)];exact q
 refine⟨⟨ok.mod,ok.kind,ok.glob,ok.blt,ok.above,ok.inj,ok.has,ok.cab,(fun z=>nomatch z),ok.frames,ok.stk,ok.exf,ok.bs,ok.bsz,ok.noex,ok.exfs,ok.funs,ok.frf⟩,I.os,I.bare,⟨I.base.keep,I.base.slot,fun b o e q hx=>?_,I.base.there,fun b xs q=>ne (I.base.tups b xs q),fun b o u q=>ne (I.base.frzs b o u q),fun b ps q=>?_⟩,I.loc,I.cell,?_,fun y c q=>?_,fun p hp'=>?_,fun b o q=>?_,I.len⟩
 ·rw[Aq (fun z=>by rw[z,h0]at e;cases e)];exact I.base.free b o e q hx
 ·obtain⟨m,z⟩:=I.base.tbls b ps q
  exact⟨m,ne z⟩
 ·rw[Aq (Ne.symm hl)];exact I.free
 ·rw[Aq];exact I.freeC y c q
  intro z
  obtain⟨v,o,h1,h2⟩:=I.cell y c q
  rw[z,ho]at h1;cases h1
  exact hd _ h2
 ·obtain⟨z1,z2,z3⟩:=I.pin p hp'
  exact⟨z1,by rw[Aq (hp p hp')];exact z2,z3⟩
 ·by_cases z:b=ea
  ·subst z
   rw[Ah]at q
   cases q
   exact⟨ho,_,ho⟩
  ·rw[Aq z]at q
   exact(I.hok b o q).stay (fun _ _ _ r=>r) (fun _ r=>ne r) fun _ _ r=>ne r
def Inv.withoutH{pins:List (Addr×Obj)}{σ:St}{H:Hp}{s:Shared}(ok:X.Ok)(I:Inv (X.withinH ea) pins σ H s):Inv X pins σ H s:=⟨ok,I.os,I.bare,I.base,I.loc,I.cell,I.free,I.freeC,I.pin,I.hok,I.len⟩
end
section
variable {X:Cx} {ea C c1:Addr} {oe:Obj} {b:Bool}
def US{T:String}(hc:oe.cls = .ref C)(hd:oe.dict=none)(hn:PySem.W.notCls oe=true)(c:XCls X.K C)(hk:PySem.W.kitOne X.K (.ref C) (.type T)=some b) :
  Cp X (.builtin "isinstance") (fun xs H Q=>xs=[.ref ea,.ty T]/\H ea=some (.frz oe (.own ea))/\Q (.bl b) H):=by
 intro pins s σ H Q us vs I rv h
 obtain⟨rfl,hH,q⟩:=h
 cases rv with
 |cons r1 rv =>
  cases rv with
  |cons r2 rv =>
   cases rv
   cases (show _=Value.ref ea from r1)
   cases (show _=Value.type T from r2)
   exact lC (Pb c) I.kIn ⟨(I.hok _ _ hH).1,hc,hn,by rw[hd];trivial⟩ hk (fun z=>nomatch z) fun tk=>⟨.bl b,H,I.tok _,rfl,q⟩
def CH(hc:oe.cls = .ref C)(hd:oe.dict=none)(hn:PySem.W.notCls oe=true)(c:XCls X.K C)(hk:PySem.W.kitOne X.K (.ref C) (.ref c1)=some b) :
  Cp X (.builtin "isinstance") (fun xs H Q=>xs=[.ref ea,.ref c1]/\H ea=some (.frz oe (.own ea))/\Q (.bl b) H):=by
 intro pins s σ H Q us vs I rv h
 obtain⟨rfl,hH,q⟩:=h
 cases rv with
 |cons r1 rv =>
  cases rv with
  |cons r2 rv =>
   cases rv
   cases (show _=Value.ref ea from r1)
   cases (show _=Value.ref c1 from r2)
   exact lC (Pb c) I.kIn ⟨(I.hok _ _ hH).1,hc,hn,by rw[hd];trivial⟩ hk (fun z=>nomatch z) fun tk=>⟨.bl b,H,I.tok _,rfl,q⟩
end
end L2
end
section
namespace DL
open PySem L2
variable {K:KW} {np:Nat}
abbrev FG:=Out ⊕ Nat
abbrev DBX:=DS->Option FG
def GlX(K:KW)(Ex:Nat->Hp->Prop)(F:Frm)(fr:Bool)(S:Addr->Prop)(H:Hp)(D:Kw):FG->Prop
 |.inl o=>Gl K F fr S H D o
 |.inr n=>∀H',Same F.H H'->Ex n H'
def BX(K:KW)(np:Nat)(Ex:Nat->Hp->Prop)(t:TS)(fr:Bool)(f:DBX):Prop:=∀(F:Frm) S M τ σ H (D:Kw) out,F.ar.length<=np->(∀a,¬F.M a)->RF K F S M τ σ H->f τ=some out->GlX K Ex F fr S H D out->t D σ H
def GlX.trans{Ex:Nat->Hp->Prop}{F:Frm}{fr:Bool}{S S':Addr->Prop}{H H':Hp}{D:Kw}{o:FG}(q:GlX K Ex F fr S H D o)(k:Keep S H S' H'):GlX K Ex F fr S' H' D o:=by
 cases o with
 |inl o=>exact Gl.trans k q
 |inr n=>exact q
def RF.sm{F:Frm}{S M:Addr->Prop}{τ:DS}{σ:St}{H:Hp}(f:RF K F S M τ σ H)(hM:∀a,¬F.M a):Same F.H H:=fun b o e=>f.old b o e (hM b)
variable {Ex:Nat->Hp->Prop} {fr:Bool}
def xOf(b:DB)(τ:DS):Option FG:=(b τ).map .inl
def fE{t:TS}{b:DB}(h:B K np t fr b):BX K np Ex t fr (xOf b):=by
 intro F S M τ σ H D out hnp hM f ee q
 obtain⟨o,e,rfl⟩:=oM ee
 exact h F S M τ σ H D o hnp f e q
def CC(n:Nat)(_:DS):Option FG:=some (.inr n)
def W0{n:Nat}{C:Addr}{E:XK}{v:V}(h:∀H,Ex n H->E (.ref C) none H):BX K np Ex (RC C E (Bs (tC v) Em)) fr (CC n):=by
 intro F S M τ σ H D out hnp hM f ee q
 cases ee
 exact⟨(by decide:1<=sizeLine),h H (q H (f.sm hM))⟩
def A4(a b:DBX)(τ:DS):Option FG:=(a τ).bind fun o=>match o with
 |.inl (.nx t5)=>b t5
 |o=>some o
def fD{t u:TS}{a b:DBX}(ha:BX K np Ex t fr a)(hb:BX K np Ex u fr b):BX K np Ex (Uw t u) fr (A4 a b):=by
 intro F S M τ σ H D out hnp hM f ee q
 unfold A4 at ee
 obtain⟨o,e1,ee⟩:=oB ee
 refine ha F S M τ σ H _ o hnp hM f e1 ?_
 cases o with
 |inr n=>cases ee;exact q
 |inl o =>
  cases o with
  |nx t4=>exact fun S' M' σ' H' r k=>hb F S' M' t4 σ' H' D out hnp hM r ee (q.trans k)
  |bk t4=>cases ee;exact q
  |ct t4=>cases ee;exact q
  |rt d t4=>cases ee;exact q
def xIf(c:DT)(a b:DBX)(τ:DS):Option FG:=(c τ).bind fun p=>if p.1=true then a p.2 else b p.2
def jd{tc:TT}{t u:TS}{c:DT}{a b:DBX}(hc:T K tc c)(ha:BX K np Ex t fr a)(hb:BX K np Ex u fr b):BX K np Ex (Z9 tc t u) fr (xIf c a b):=by
 intro F S M τ σ H D out hnp hM f ee q
 unfold xIf at ee
 obtain⟨⟨k,t4⟩,e1,ee⟩:=oB ee
 refine hc.run S M τ σ H _ k t4 f.r e1 fun H1 r1 c1=>?_
 have f1:=f.step r1 c1 (hc.like _ _ _ e1)
 cases k with
 |true=>exact ha F S M t4 σ H1 D out hnp hM f1 ee (q.trans (c1.keep f.r.sub))
 |false=>exact hb F S M t4 σ H1 D out hnp hM f1 ee (q.trans (c1.keep f.r.sub))
def IZ(g:DG)(b:DBX):List PyData->DS->Option FG
 |[],τ=>some (.inl (.nx τ))
 |d::ds,τ=>(g d τ).bind fun t4=>(b t4).bind fun o=>match o with
  |.inl (.nx t7)=>IZ g b ds t7
  |.inl (.ct t7)=>IZ g b ds t7
  |.inl (.bk t7)=>some (.inl (.nx t7))
  |.inl (.rt d t7)=>some (.inl (.rt d t7))
  |.inr n=>some (.inr n)
def P4(it:DI)(g:DG)(b:DBX)(τ:DS):Option FG:=(it τ).bind fun p=>IZ g b p.1 p.2
def Zu{wi:TI}{tg:TG}{tb:TS}{it:DI}{g:DG}{b:DBX}(hi:IT2 K wi it)(hg:TG1 K tg g)(hb:BX K np Ex tb fr b):BX K np Ex (XA wi tg tb) fr (P4 it g b):=by
 intro F S M τ σ H D out hnp hM f ee q
 unfold P4 at ee
 obtain⟨⟨ds,t4⟩,e1,ee⟩:=oB ee
 refine hi.run S M τ σ H _ ds t4 f.r e1 fun J H1 r1 c1 iJ=>?_
 have f1:=f.step r1 c1 (hi.like _ _ _ e1)
 have q1:=q.trans (c1.keep f.r.sub)
 refine⟨fun i m σ' H'=>m=ds.length-i/\i<=ds.length/\∃S' M' t5,RF K F S' M' t5 σ' H'/\Keep S H1 S' H'/\IZ g b (ds.drop i) t5=some out,⟨ds.length,by simp,lW _,S,M,t4,f1,.refl,by simpa using ee⟩,?_⟩
 rintro i m σ' H' ⟨rfl,hil,S',M',t5,f',k',hl⟩
 obtain⟨I1,I2⟩:=iJ _ _ k' (fun _=>f'.r.fresh)
 by_cases hlt:i<ds.length
 ·right
  have ed:ds[i]?=some ds[i]:=km hlt
  obtain⟨go,yl⟩:=I1 i _ ed
  refine⟨go,fun σ2 H2=>∃S2 M2 t7,RF K F S2 M2 t7 σ2 H2/\Keep S H1 S2 H2/\IZ g b (ds.drop (i+1)) t7=some out,fun σ2 H2 h=>⟨ds.length-(i+1),by omega,rfl,hlt,h⟩,fun x H2 y=>?_⟩
  obtain⟨sm,ix⟩:=yl x H2 y
  have f':=f'.step (f'.r.same sm) (.of sm) .refl
  have k':=k'.trans (Same.keep sm)
  rw[lZ hlt,IZ]at hl
  obtain⟨t7,e2,hl⟩:=oB hl
  obtain⟨o,e3,hl⟩:=oB hl
  refine hg.run S' M' t5 σ' H2 x _ t7 _ f'.r ix e2 fun σ3 r3 k3=>?_
  have f3:=f'.stay r3 (hg.ms _ _ _ e2) k3
  refine hb F S' M' t7 σ3 H2 _ o hnp hM f3 e3 ?_
  cases o with
  |inr n=>cases hl;exact q1
  |inl o =>
   cases o with
   |nx p6=>exact fun S4 M4 σ4 H4 f4 k4=>⟨S4,M4,p6,f4,k'.trans k4,hl⟩
   |ct p6=>exact fun S4 M4 σ4 H4 f4 k4=>⟨S4,M4,p6,f4,k'.trans k4,hl⟩
   |bk p6=>cases hl;exact fun S4 M4 σ4 H4 f4 k4=>q1 S4 M4 σ4 H4 f4 (k'.trans k4)
   |rt d p6=>cases hl;exact fun S4 M4 σ4 H4 v f4 k4=>q1 S4 M4 σ4 H4 v f4 k4
 ·left
  have e:i=ds.length:=by omega
  subst e
  rw[mL,IZ]at hl
  cases hl
  exact⟨I2 _ (X' _),q1 S' M' σ' H' f' k'⟩
def C7(np nl:Nat)(f:DBX)(ds:List PyData):Option (PyData ⊕ Nat):=if ds.length=np then (f ((ds.map L.d).map some++List.replicate nl none)).bind fun o=>match o with
 |.inl (.nx _)=>some (.inl .none)
 |.inl (.rt d _)=>some (.inl d)
 |.inr n=>some (.inr n)
 |_=>none
 else none
def spO(K:KW)(G:List PyData->Option (PyData ⊕ Nat))(cls:Nat->Addr)(fr:Bool):Sp:=fun vs H Q E=>∃(S:Addr->Prop) (ds:List PyData) (r:PyData ⊕ Nat),IsL K (hid S H) ds vs/\(∀a,S a->∃o,H a=some o)/\G ds=some r /\
 match r with
 |.inl d=>∀v H',Same H H'->Res K fr S H H' d v->Q v H'
 |.inr n=>∀H',Same H H'->E (.ref (cls n)) none H'
def SM{nl:Nat}{f:DBX}{cls:Nat->Addr}{ps:List Str}{fr:Bool}(hn:ps.length=np)(vs:List V)(H:Hp)(Q:VK)(E:XK)(h:spO K (C7 np nl f) cls fr vs H Q E):vs.length=ps.length:=by
 obtain⟨S,ds,r,l,_,e,_⟩:=h
 unfold C7 at e
 split at e
 ·rename_i h1
  rw[l.length,h1,hn]
 ·cases e
def YI{nl:Nat}{t:TS}{f:DBX}{N:List Str}{cls:Nat->Addr}{vs:List V}{H:Hp}{Q:VK}{E:XK}(hb:BX K np (fun n H=>E (.ref (cls n)) none H) t false f)(hN:N.length=np+nl)(h:spO K (C7 np nl f) cls false vs H Q E):t { nx:=fun _ H'=>Q .non H',rt:=Q } (start N vs) H:=by
 obtain⟨S,ds,r,l,hS,e,q⟩:=h
 unfold C7 at e
 split at e
 ·rename_i h1
  obtain⟨o,e1,e⟩:=oB e
  have est:start N vs=vs.map some++List.replicate nl none:=by
   unfold L2.start
   rw[hN,l.length,h1,mR]
  rw[est]
  have r0:R K S (fun _=>False) ((ds.map L.d).map some++List.replicate nl none) (vs.map some++List.replicate nl none) H:=by
   refine Wv (by simp[l.length]) (fun i l' h=>?_) hS
   by_cases hi:i<ds.length
   ·rw[ke (by simpa using hi),O',O',km hi]at h
    cases h
    obtain⟨v,h2,h3⟩:=l.get (km hi)
    refine⟨_,v,rfl,?_,h3⟩
    rw[ke (by rw[B',l.length];exact hi),O',h2];rfl
   ·rw[kx (by simpa using hi),lG]at h
    split at h<;>cases h
  have f0:RF K ⟨S,fun _=>False,H,[]⟩ S (fun _=>False) ((ds.map L.d).map some++List.replicate nl none) (vs.map some++List.replicate nl none) H :=
   ⟨r0,fun _ h=>h,fun _ _ h _=>h,fun _ h=>h.elim,fun _ h=>h.elim,hS,fun _ h=>h.elim,fun _ h=>.inl h,fun _ _ h=>(by simp at h),fun _ _ h=>(by simp at h),fun _ h=>h.elim⟩
  refine hb _ S _ _ _ H _ o (lW _) (fun _ h=>h) f0 e1 ?_
  cases o with
  |inr n=>cases e;exact q
  |inl o =>
   cases o with
   |nx t5=>cases e;exact fun S' M' σ' H' f' k'=>q .non H' (f'.sm fun _ h=>h) rfl
   |bk t5=>cases e
   |ct t5=>cases e
   |rt d t5=>cases e;exact fun S' M' σ' H' v f' r'=>q v H' (f'.sm fun _ h=>h) r'
 ·cases e
def Fb(G:List PyData->Option (PyData ⊕ Nat))(a:DA)(τ:DS):Option FG:=(a τ).bind fun p=>(A1 p.1).bind fun ds=>(G ds).map fun r=>match r with
 |.inl _=>.inl (.nx p.2)
 |.inr n=>.inr n
def Zv{G:List PyData->Option (PyData ⊕ Nat)}{cls:Nat->Addr}{fc:Bool}{E:XK}{t:TA}{a:DA}(ha:A K t a):BX K np (fun n H=>E (.ref (cls n)) none H) (LF (En (spO K G cls fc) [] E t)) fr (Fb G a):=by
 intro F S M τ σ H D out hnp hM f ee q
 unfold Fb at ee
 obtain⟨⟨x,t4⟩,e1,ee⟩:=oB ee
 obtain⟨ds,e2,ee⟩:=oB ee
 obtain⟨r,e3,ee⟩:=oM ee
 refine ha.run S M τ σ H _ x _ f.r e1 fun vs H1 r1 c1 i1=>?_
 have l:=CJ i1 e2
 have f1:=f.step r1 c1 (ha.like _ _ _ e1)
 show spO K G cls fc (vs++[]) H1 _ E
 rw[ku]
 refine⟨S,ds,r,l,r1.ex,e3,?_⟩
 cases r with
 |inr n=>cases ee;exact fun H' s=>q H' fun b o e=>s b o (f1.sm hM b o e)
 |inl d =>
  cases ee
  exact fun v H' s _=>q S M σ H' (f1.step (r1.same s) (.of s) .refl) ((c1.trans (.of s)).keep f.r.sub)
end DL
namespace L2
open PySem PySem.Spec PyProof.Rows PySem.W DL
def Uc(K:Frag)(C:Addr):Bool :=
 (match findIn K (.ref C) "__getattribute__" with|some (some (.builtin n))=>n=="BaseException.__getattribute__" | _=>false)&&(match findIn K (.ref C) "__getattr__" with|some none=>true|_=>false)&&(clsIn K C).isSome &&
 (match findIn K (.ref C) "__class__" with|some (some (.builtin n))=>n=="object.__class__" | _=>false)&&(match specialIn K (.builtin "object.__class__") "__get__" with|some (some (.builtin n))=>n=="getset_descriptor.__get__" | _=>false) &&
 (match takesIn K (.builtin "object.__class__") with|some b=>b|_=>false)&&(match mroIn K C (.type "object") with|some b=>b|_=>false)&&(match mroIn K C (.type "BaseException") with|some b=>b|_=>false)
def Ub{K:Frag}{C:Addr}(h:Uc K C=true):XCls K C:=by
 unfold Uc at h
 simp only[Bool.and_eq_true]at h
 obtain⟨⟨⟨⟨⟨⟨⟨h1,h2⟩,h3⟩,h4⟩,h5⟩,h6⟩,h7⟩,h8⟩:=h
 refine⟨?_,?_,h3,?_,?_,?_,?_,?_⟩
 ·split at h1<;>first|cases h1|(rename_i e;rw[e,beq_iff_eq.mp h1])
 ·split at h2<;>first|assumption|cases h2
 ·split at h4<;>first|cases h4|(rename_i e;rw[e,beq_iff_eq.mp h4])
 ·split at h5<;>first|cases h5|(rename_i e;rw[e,beq_iff_eq.mp h5])
 ·split at h6<;>first|(rename_i e;rw[e];exact congrArg some h6)|cases h6
 ·split at h7<;>first|(rename_i e;rw[e];exact congrArg some h7)|cases h7
 ·split at h8<;>first|(rename_i e;rw[e];exact congrArg some h8)|cases h8
def Sk(K:Frag)(C:Addr)(v:Value)(b:Bool):Bool:=match kitOne K (.ref C) v with|some c=>c==b|none=>false
def Pc{K:Frag}{C:Addr}{v:Value}{b:Bool}(h:Sk K C v b=true):kitOne K (.ref C) v=some b:=by
 unfold Sk at h
 split at h
 ·rename_i c e
  rw[e,beq_iff_eq.mp h]
 ·cases h
def R3(K:Frag)(C D:Addr):Bool:=(match typeIn K (.ref D) with|some (.type n)=>n=="type" | _=>false)&&(clsIn K D).isSome&&(match subIn K (.ref C) (.ref D) with|some b=>b|_=>false)&&(match subIn K (.ref D) (.type "BaseException") with|some b=>b|_=>false)
def UN{K:Frag}{C D:Addr}(h:R3 K C D=true):Oc K C D:=by
 unfold R3 at h
 simp only[Bool.and_eq_true]at h
 obtain⟨⟨⟨h1,h2⟩,h3⟩,h4⟩:=h
 refine⟨?_,h2,?_,?_⟩
 ·split at h1<;>first|cases h1|(rename_i e;rw[e,beq_iff_eq.mp h1])
 ·split at h3<;>first|(rename_i e;rw[e];exact congrArg some h3)|cases h3
 ·split at h4<;>first|(rename_i e;rw[e];exact congrArg some h4)|cases h4
def excAll(K:Frag)(D:Addr)(cs:List Addr)(m:Nat):Bool:=(List.range m).all fun n=>Uc K (cs.getD n 0)&&R3 K (cs.getD n 0) D&&Sk K (cs.getD n 0) (.type "ValueError") true&&(List.range cs.length).all fun j=>Sk K (cs.getD n 0) (.ref (cs.getD j 0)) (n==j)
structure R6(K:Frag)(D:Addr)(cs:List Addr)(n:Nat):Prop where
 xc:XCls K (cs.getD n 0)
 ct:Oc K (cs.getD n 0) D
 ve:kitOne K (.ref (cs.getD n 0)) (.type "ValueError")=some true
 ks:∀j,j<cs.length->kitOne K (.ref (cs.getD n 0)) (.ref (cs.getD j 0))=some (n==j)
def excAll_ok{K:Frag}{D:Addr}{cs:List Addr}{m n:Nat}(h:excAll K D cs m=true)(hn:n<m):R6 K D cs n:=by
 unfold excAll at h
 have h1:=lF.mp h n (mS.mpr hn)
 simp only[Bool.and_eq_true]at h1
 obtain⟨⟨⟨a,b⟩,c⟩,d⟩:=h1
 exact⟨Ub a,UN b,Pc c,fun j hj=>Pc (lF.mp d j (mS.mpr hj))⟩
end L2
namespace DL
open PySem L2
abbrev jx(ea:Addr)(oe:Obj)(c:Addr)(b:Bool):List V->Hp->VK->Prop:=fun xs H Q=>xs=[.ref ea,.ref c]/\H ea=some (.frz oe (.own ea))/\Q (.bl b) H
abbrev tPr(ea:Addr)(oe:Obj)(s:Str)(c:Addr)(b:Bool):TE:=W9 (Bs (tC (.str s)) (Bs (tCB (jx ea oe c b) (Bs (Dq 0) (Bs (tC (.ref c)) Em))) Em))
abbrev prD(s:Str)(b:Bool):PyData:=.tuple [.str s,.bool b]
abbrev Zd:Addr->Prop:=fun _=>False
section
variable {K:KW} {ea c1 c2:Addr} {oe:Obj} {s1 s2:Str} {b1 b2:Bool} {σ:St} {H:Hp} {Q:VK}
def RN(h0:σ[0]?=some (some (.ref ea)))(hH:H ea=some (.frz oe (.own ea)))(q:∀p H',Same H H'->Is K (hid Zd H') (prD s1 b1) (.ref p)->Q (.ref p) H'):tPr ea oe s1 c1 b1 σ H Q :=
 ⟨.ref ea,h0,rfl,hH,(by decide:2<=sizeLine),fun p hp=>q p _ (Ax hp _) ⟨p,_,rfl,.inl (.inl (hid_iff.mpr ⟨fun z=>z,Ah⟩)),_,_,rfl,rfl,_,_,rfl,rfl,rfl⟩⟩
def Vz(h0:σ[0]?=some (some (.ref ea)))(hH:H ea=some (.frz oe (.own ea)))(q:∀p H',Same H H'->Is K (hid Zd H') (.list [prD s1 b1]) (.ref p)->Q (.ref p) H'):Uy (Bs (tPr ea oe s1 c1 b1) Em) σ H Q:=by
 show tPr ea oe s1 c1 b1 σ H (fun x H9=>([x]).length<=sizeLine/\∀p,H9 p=none->Q (.ref p) (upd H9 p (.lst ([x]))))
 exact RN (K:=K) h0 hH fun p1 H1 m1 i1=>⟨(by decide:1<=sizeLine),fun l hl=>q l _ (fun b o e=>Ax hl _ b o (m1 b o e)) ⟨l,_,rfl,hid_iff.mpr ⟨fun z=>z,Ah⟩,_,_,rfl,i1.mono (Same.keep (S:=Zd) (Ax hl _)).same,rfl⟩⟩
def JD(h0:σ[0]?=some (some (.ref ea)))(hH:H ea=some (.frz oe (.own ea)))(q:∀p H',Same H H'->Is K (hid Zd H') (.list [prD s1 b1,prD s2 b2]) (.ref p)->Q (.ref p) H'):Uy (Bs (tPr ea oe s1 c1 b1) (Bs (tPr ea oe s2 c2 b2) Em)) σ H Q:=by
 show tPr ea oe s1 c1 b1 σ H (fun x H1=>tPr ea oe s2 c2 b2 σ H1 fun y H9=>([x,y]).length<=sizeLine/\∀p,H9 p=none->Q (.ref p) (upd H9 p (.lst ([x,y]))))
 refine RN (K:=K) h0 hH fun p1 H1 m1 i1=>?_
 exact RN (K := K) h0 (m1 _ _ hH) fun p2 H2 m2 i2 => ⟨(by decide : 2 <= sizeLine), fun l hl => q l _ (fun b o e => Ax hl _ b o (m2 b o (m1 b o e)))
  ⟨l,_,rfl,hid_iff.mpr ⟨fun z=>z,Ah⟩,_,_,rfl,(i1.mono (Same.keep (S:=Zd) m2).same).mono (Same.keep (S:=Zd) (Ax hl _)).same,_,_,rfl,i2.mono (Same.keep (S:=Zd) (Ax hl _)).same,rfl⟩⟩
def K3{as bs:List PyData}{a b:Addr}(ha:Is K (hid Zd H) (.list as) (.ref a))(hb:Is K (hid Zd H) (.list bs) (.ref b))(hz:as.length+bs.length<=sizeLine)(q:∀p H',Same H H'->Is K (hid Zd H') (.list (as++bs)) (.ref p)->Q (.ref p) H'):aJ (.ref a) (.ref b) H Q:=by
 obtain⟨_,vs,e1,h1,l1⟩:=ha
 obtain⟨_,us,e2,h2,l2⟩:=hb
 cases e1
 cases e2
 refine⟨a,b,vs,us,rfl,rfl,(hid_iff.mp h1).2,(hid_iff.mp h2).2,by rw[l1.length,l2.length];exact hz,fun p hp=>q p _ (Ax hp _) ⟨p,_,rfl,hid_iff.mpr ⟨fun z=>z,Ah⟩,?_⟩⟩
 exact(E1 l1 l2).mono (Same.keep (S:=Zd) (Ax hp _)).same
end
end DL
end
section
namespace L2
open PySem PySem.Spec PyProof.Rows
def DF(K:PySem.W.Frag)(x:Str)(st:Stmt)(f:Addr)(fd:FuncData):Prop:=PySem.W.nsIn K mainGlobals x=some (some (.ref f))/\Fun K x x st f fd
section
variable {K:PySem.W.Frag} {x:Str} {st:Stmt} {f:Addr} {fd:FuncData} {h:Heap} {mg:Str->Option Value}
def DF.mk{oc:Value}{od an:Option Addr}{osl:Array (Option Value)}{kV doc pm cdv ct:Value}(a:PySem.W.nsIn K mainGlobals x=some (some (.ref f)))(l:K.lookup f=some ⟨oc,od,.func (PySem.W.fnOf x x (EL st) (Bk st) (AV st) .none kV doc pm an cdv ct),osl⟩)(c:PySem.W.codeIn K cdv x=true)(k:PySem.W.keepIn K (.ref f)=true):DF K x st f (PySem.W.fnOf x x (EL st) (Bk st) (AV st) .none kV doc pm an cdv ct):=⟨a,bV l c k⟩
def DF.m(d:DF K x st f fd)(X:K.In h)(G:h.Ns mainGlobals mg):mg x=some (.ref f):=kn X G d.1
def DF.b{ps:List Str}(d:DF K x st f fd)(h:∀(kV doc pm:Value) (an:Option Addr) (cdv ct:Value) (us:List Value),us.length=ps.length->bindArgs (PySem.W.fnOf x x (EL st) (Bk st) (AV st) .none kV doc pm an cdv ct) ⟨us,[]⟩=pure (ps.zip us)):Binds K fd ps []:=d.2.binds h
def DF.cal{P:Program}{w:World}{base:Heap}{k:Nat}{ps:List Str}{sp:Sp}(d:DF K x st f fd)(X:K.In h)(G:h.Ns mainGlobals mg)(o:FnOk P w K mg base CX0 k f fd ps sp)(b:∀(kV doc pm:Value) (an:Option Addr) (cdv ct:Value) (us:List Value),us.length=ps.length->bindArgs (PySem.W.fnOf x x (EL st) (Bk st) (AV st) .none kV doc pm an cdv ct) ⟨us,[]⟩=pure (ps.zip us)):Cal P w K mg base k x ps sp:=Cal.of d.2 o (d.b b) (d.m X G)
end
instance {sc:Scope} {x:Str}:Decidable (Loc sc x):=by unfold Loc;infer_instance
def viL{sc:Scope}{x:Str}(h:Loc sc x):Vis sc x:=h.elim Or.inl fun h=>Or.inr (Or.inl h)
def pvL{X:Cx}(i:Nat){x:Str}{pos:Pos}(hN:X.N[i]?=some x)(hl:Loc X.env.scope x)(hd:(x==("__debug__":Str))=false/\(x==("__classdict__":Str))=false):PE X (.Name x pos) (Dq i):=Na hN (viL hl) hd.1 hd.2
end L2
end
section
namespace DL
open PySem L2
structure Ct where
 P:Program
 K:KW
 mg:Str->Option Value
 base:Heap
 k:Nat
 own:Nat
 d:Bool
 N:List Str
 sc:Scope
structure At(Γ:Ct)(X:Cx):Prop where
 p:X.prog=Γ.P
 kw:Gi X=Γ.K
 m:X.mg=Γ.mg
 bs:X.base=Γ.base
 n:X.N=Γ.N
 nd:X.N.Nodup
 rm:Room Γ.k X.A
 ca:X.calm=true
 po:PassesOwn (model X.prog X.w) X.A X.env X.xe
 v:∀x∈X.N,Vis X.env.scope x
 l:∀(i:Nat) (x:Str),i<Γ.own->X.N[i]?=some x->Loc X.env.scope x/\(X.fn x=true\/X.env.scope.names.lookup x=some .local)
 ll:∀x:Str,Γ.sc.names.lookup x=some .local->X.env.scope.names.lookup x=some .local
 g:∀x,Γ.sc.names.lookup x=some .globalImplicit->L2.Gl X x
 bk:Γ.d=true->X.env.blockKind = .function
 c:∀x:Str,Γ.sc.names.lookup x=some .cell\/Γ.sc.names.lookup x=some .free->X.env.scope.names.lookup x=some .cell\/X.env.scope.names.lookup x=some .free
section
variable {Γ:Ct} {X:Cx}
def At.w(c:At Γ X){p:KW->Prop}(h:p (Gi X)):p Γ.K:=c.kw▸h
def At.u(c:At Γ X):X.A.units+64<cLine:=c.rm.units
def At.u5(c:At Γ X):X.A.units+65<cLine:=by have:=c.rm.un;omega
end
def CE(Γ:Ct)(e:Expr)(fr:Bool)(f:DX):Prop:=∃t,(∀X,At Γ X->PE X e t)/\E Γ.K t fr f
def CT(Γ:Ct)(e:Expr)(f:DT):Prop:=∃t,(∀X,At Γ X->L2.PT X e t)/\T Γ.K t f
def CW(Γ:Ct)(e:Expr)(f:DT):Prop:=∃t,(∀X,At Γ X->PW X e t)/\T Γ.K t f
def CA(Γ:Ct)(es:List Expr)(f:DA):Prop:=∃t,(∀X,At Γ X->PA X es t)/\A Γ.K t f
def CP(Γ:Ct)(e:Option Expr)(f:DO):Prop:=∃t,(∀X,At Γ X->PO X e t)/\OO Γ.K t f
def CI(Γ:Ct)(tg e:Expr)(f:DI):Prop:=∃t,(∀X,At Γ X->PI X tg e t)/\IT Γ.K t f
def CI2(Γ:Ct)(tg e:Expr)(f:DI):Prop:=∃t,(∀X,At Γ X->PI X tg e t)/\IT2 Γ.K t f
def CG(Γ:Ct)(e:Expr)(f:DG):Prop:=∃t,(∀X,At Γ X->PG X e t)/\TG1 Γ.K t f
def CGs(Γ:Ct)(es:List Expr)(f:List PyData->DS->Option DS):Prop:=∃t,(∀X,At Γ X->PGs X es t)/\TG2 Γ.K t f/\∀ds τ t5,f ds τ=some t5->ds.length=es.length
def CTs(Γ:Ct)(es:List Expr)(f:DT):Prop:=∃t,(∀X,At Γ X->PTs X es t)/\T Γ.K t f
def CS(Γ:Ct)(np:Nat)(s:Stmt)(fr:Bool)(f:DB):Prop:=∃t,(∀X,At Γ X->PS X s t)/\B Γ.K np t fr f
def CSs(Γ:Ct)(np:Nat)(s:List Stmt)(fr:Bool)(f:DB):Prop:=∃t,(∀X,At Γ X->PSs X s t)/\B Γ.K np t fr f
def CO(Γ:Ct)(op:Value->Value->Sem Value)(fr:Bool)(F:PyData->PyData->Option PyData):Prop:=∃r fr',(∀X,At Γ X->OpR X op r)/\OR Γ.K fr' r F/\(fr=true->fr'=true)
def CIx(Γ:Ct)(F:PyData->PyData->Option PyData):Prop:=∃r,(∀X,At Γ X->IxR X r)/\OR Γ.K false r F
abbrev isB(v:Value):Prop:=(∃i,v = .builtin i)\/∃i,v = .type i
def CBt(Γ:Ct)(x:Str)(fr:Bool)(F:List PyData->Option PyData):Prop:=∃v r fr',isB v/\bootBuiltins x=some v/\(∀X,At Γ X->Cp X v r)/\BR Γ.K fr' r F/\(fr=true->fr'=true)
def CM(Γ:Ct)(x:Str)(G:List PyData->List PyData->Option (PyData×List PyData)):Prop:=∃id r,Slot "list" x id/\typeOf (.builtin id)=pure (.type "method_descriptor")/\(∀X,At Γ X->MtR X id r)/\MR Γ.K r G
def E.to{K:KW}{t:TE}{f:DX}{fr fr':Bool}(h:E K t fr' f)(z:fr=true->fr'=true):E K t fr f:=by
 cases fr with
 |false=>exact h.weak
 |true=>rw[z rfl]at h;exact h
def E.an{K:KW}{t:TE}{f:DX}{fr:Bool}(h:E K t true f):E K t fr f:=h.to fun _=>rfl
def OR.wk{K:KW}{r:R2}{F:PyData->PyData->Option PyData}{fr:Bool}(h:OR K fr r F):OR K false r F:=fun S H x y dx dy d Q fr ix iy e q=>h S H x y dx dy d Q fr ix iy e fun v H' s res=>q v H' s (res.is fun a ha=>fr a ha)
section
variable {Γ:Ct} {np:Nat} {fr fa fb fc fe:Bool} {f f' f'':DX} {c c':DT} {g:DA} {a b d e:Expr} {es:List Expr} {pos p p1 p2:Pos}
abbrev dcQ(x:Str):Prop:=(x==("__debug__":Str))=false/\(x==("__classdict__":Str))=false
abbrev glQ(Γ:Ct)(x:Str):Prop:=Γ.sc.names.lookup x=some .globalImplicit/\(x==("__debug__":Str))=false
def dD{i:Nat}{x:Str}(h:Γ.N[i]?=some x:=by walk_at "q")(hd:dcQ x:=by walk_at "dk"):CE Γ (.Name x pos) false (AJ i) :=
 ⟨_,fun X c=>Na (by rw[c.n];exact h) (c.v x (by rw[c.n];exact ka h)) hd.1 hd.2,Lw⟩
def dS{i:Int}{j}:CE Γ (.Constant (.int i) j pos) false (dC (.int i)):=⟨_,fun _ _=>Ld,NF⟩
def dF{x:Str}{j}:CE Γ (.Constant (.str x) j pos) false (dC (.str x)):=⟨_,fun _ _=>EW,gj⟩
def dJ{j}:CE Γ (.Constant .none j pos) false (dC .none):=⟨_,fun _ _=>VW,gn⟩
def iZ{x:Bool}{j}:CE Γ (.Constant (.bool x) j pos) false (dC (.bool x)):=⟨_,fun _ _=>fo,kH⟩
def iX{x:Str}{i:Int}{t:Tok}(h:Γ.mg x=some (.int i t):=by assumption)(hg:glQ Γ x:=by walk_at "dk"):CE Γ (.Name x pos) false (dC (.int i)):=⟨_,fun X c=>Cb (v:=.int i) (c.g x hg.1) (by rw[c.m];exact h) ⟨_,rfl⟩ hg.2,NF⟩
def iY{x:Str}{u:Value}{y:PyData}(h:Γ.mg x=some u/\BK Γ.K y u=true:=by assumption)(hg:glQ Γ x:=by walk_at "dk"):CE Γ (.Name x pos) false (dC y):=by
 obtain⟨v,r,i⟩:=Py h.2
 exact⟨_,fun X c=>Cb (c.g x hg.1) (by rw[c.m];exact h.1) r hg.2,e_c i⟩
def iS{op:Operator}{F}(h:CO Γ (binaryOp op) fr F)(ha:CE Γ a false f)(hb:CE Γ b false f'):CE Γ (.BinOp a op b pos) fr (dOp F f f'):=let ⟨_,_,h1,h2,h3⟩:=h;let ⟨_,a1,a2⟩:=ha;let ⟨_,b1,b2⟩:=hb;⟨_,fun X c=>Ou (h1 X c) (a1 X c) (b1 X c),(OJ h2 a2 b2).to h3⟩
def dX{op:CmpOp}{F}(h:CO Γ (compareOp op) fr F)(ha:CE Γ a false f)(hb:CE Γ b false f')(hm:behindInMarks op b=false:=by walk_at "q"):CE Γ (.Compare a [op] [b] pos) fr (dOp F f f'):=let ⟨_,_,h1,h2,h3⟩:=h;let ⟨_,a1,a2⟩:=ha;let ⟨_,b1,b2⟩:=hb;⟨_,fun X c=>Nb (h1 X c) (a1 X c) (b1 X c) hm,(OJ h2 a2 b2).to h3⟩
def bz{op:CmpOp}{F}(h:CO Γ (compareOp op) false F)(ha:CE Γ a false f)(hb:CE Γ b false f')(hm:behindInMarks op b=false:=by walk_at "q"):CT Γ (.Compare a [op] [b] pos) (AD (dOp F f f')):=let ⟨_,_,h1,h2,_⟩:=h;let ⟨_,a1,a2⟩:=ha;let ⟨_,b1,b2⟩:=hb;⟨_,fun X c=>NY (h1 X c) (a1 X c) (b1 X c) hm,FY (OJ h2 a2 b2)⟩
def Wd{o o':CmpOp}{F G}(h:CO Γ (compareOp o) false F)(h':CO Γ (compareOp o') false G)(ha:CE Γ a false f)(hb:CE Γ b false f')(hc:CE Γ d false f'')(hm:lastMarks [o,o'] [b,d]=false:=by walk_at "q"):CE Γ (.Compare a [o,o'] [b,d] pos) false (BO F G f f' f'') :=
 let ⟨_,a0,h1,h2,h3⟩:=h;let ⟨_,b0,i1,i2,i3⟩:=h';let ⟨_,a1,a2⟩:=ha;let ⟨_,b1,b2⟩:=hb;let ⟨_,d1,d2⟩:=hc;⟨_,fun X c=>VY (h1 X c) (i1 X c) (a1 X c) (b1 X c) (d1 X c) hm,S5 h2.wk i2.wk a2 b2 d2⟩
def WX{o o':CmpOp}{F G}(h:CO Γ (compareOp o) false F)(h':CO Γ (compareOp o') false G)(ha:CE Γ a false f)(hb:CE Γ b false f')(hc:CE Γ d false f'')(hm:lastMarks [o,o'] [b,d]=false:=by walk_at "q"):CT Γ (.Compare a [o,o'] [b,d] pos) (AD (BO F G f f' f'')) :=
 let ⟨_,a0,h1,h2,h3⟩:=h;let ⟨_,b0,i1,i2,i3⟩:=h';let ⟨_,a1,a2⟩:=ha;let ⟨_,b1,b2⟩:=hb;let ⟨_,d1,d2⟩:=hc;⟨_,fun X c=>VL (h1 X c) (i1 X c) (a1 X c) (b1 X c) (d1 X c) hm,FY (S5 h2.wk i2.wk a2 b2 d2)⟩
def dM(ha:CE Γ a false f):CE Γ (.UnaryOp .USub a pos) false (dUn GJ f):=let ⟨_,a1,a2⟩:=ha;⟨_,fun X c=>fj Z4 (a1 X c),kD fJ a2⟩
def dI(ha:CE Γ a false f):CE Γ (.UnaryOp .Not a pos) false (Ht f):=let ⟨_,a1,a2⟩:=ha;⟨_,fun X c=>aU (a1 X c),gm a2⟩
def dH{op}(ha:CE Γ a fr f):CE Γ (.BoolOp op [a] pos) fr f:=let ⟨_,a1,a2⟩:=ha;⟨_,fun X c=>aT (a1 X c),a2⟩
def de(ha:CE Γ a false f)(hb:CE Γ (.BoolOp .And (b::es) pos) false f'):CE Γ (.BoolOp .And (a::b::es) pos) false (Bm f f'):=let ⟨_,a1,a2⟩:=ha;let ⟨_,b1,b2⟩:=hb;⟨_,fun X c=>aW (a1 X c) (b1 X c),hJ a2 b2⟩
def iW(hc:CT Γ d c)(ha:CE Γ a false f)(hb:CE Γ b false f'):CE Γ (.IfExp d a b pos) false (dIf c f f'):=let ⟨_,c1,c2⟩:=hc;let ⟨_,a1,a2⟩:=ha;let ⟨_,b1,b2⟩:=hb;⟨_,fun X c=>VX (c1 X c) (a1 X c) (b1 X c),kG c2 a2.weak b2.weak⟩
def dY{i:Nat}(h:CE Γ e false f):CE Γ e false (ET i f):=let ⟨_,a1,a2⟩:=h;⟨_,a1,g9 a2⟩
abbrev C3(e:Expr)(es:List Expr):Prop:=∀env,starEach (e::es) env=(false,eval e env)::starEach es env
def du:CA Γ [] AF:=⟨_,fun _ _=>Az,TR⟩
def Y2(ha:CE Γ e false f)(hb:CA Γ es g)(hs:C3 e es:=by walk_at "q"):CA Γ (e::es) (AA f g):=let ⟨_,a1,a2⟩:=ha;let ⟨_,b1,b2⟩:=hb;⟨_,fun X c=>AR (a1 X c) (b1 X c) (hs _),Ws a2 b2⟩
def dE{j}(h:CA Γ es g):CE Γ (.Tuple es j pos) false (AY g):=let ⟨_,a1,a2⟩:=h;⟨_,fun X c=>Es (a1 X c),gi a2⟩
def dO(h:CA Γ es g):CE Γ (.List es pos) fr (Cy g):=let ⟨_,a1,a2⟩:=h;⟨_,fun X c=>IE (a1 X c),(gq a2).an⟩
def iV{F}(h:CIx Γ F)(ha:CE Γ a false f)(hb:CE Γ b false f')(hs:Gf b:=by walk_at "q"):CE Γ (.Subscript a b pos) false (dOp F f f'):=let ⟨_,h1,h2⟩:=h;let ⟨_,a1,a2⟩:=ha;let ⟨_,b1,b2⟩:=hb;⟨_,fun X c=>Iu (h1 X c) (a1 X c) (b1 X c) hs,OJ h2 a2 b2⟩
abbrev vrQ(Γ:Ct)(i:Nat)(x:Str):Prop:=Γ.N[i]?=some x/\dcQ x
def At.var{X:Cx}(c:At Γ X){i:Nat}{x:Str}(h:vrQ Γ i x):PE X (.Name x pos) (Dq i):=Na (by rw[c.n];exact h.1) (c.v x (by rw[c.n];exact ka h.1)) h.2.1 h.2.2
def dQ{i:Nat}{x:Str}(hb:CE Γ b false f)(h:vrQ Γ i x:=by walk_at "dk")(hs:Gf b:=by walk_at "q"):CE Γ (.Subscript (.Name x p) b pos) false (Bz i f):=let ⟨_,b1,b2⟩:=hb;⟨_,fun X c=>Iu (c.w (p:=fun K=>IxR X (Td K)) N8) (c.var h) (b1 X c) hs,gx b2⟩
def dP{i:Nat}{x:Str}(hb:CE Γ b false f)(h:vrQ Γ i x:=by walk_at "dk")(hs:Gf b:=by walk_at "q"):CE Γ (.Subscript (.Name x p) b pos) false (Ru i f):=let ⟨_,b1,b2⟩:=hb;⟨_,fun X c=>Iu jw (c.var h) (b1 X c) hs,gw b2⟩
def bx{i:Nat}{x:Str}(ha:CE Γ a false f)(h:vrQ Γ i x:=by walk_at "dk")(hm:behindInMarks .In (.Name x p)=false:=by walk_at "q"):CT Γ (.Compare a [.In] [.Name x p] pos) (AD (Rv false f i)):=let ⟨_,a1,a2⟩:=ha;⟨_,fun X c=>NY ag (a1 X c) (c.var h) hm,FY (gz a2)⟩
abbrev kdQ(Γ:Ct)(x:Str)(tb:List (Str×PyData)):Prop:=∃ad,Γ.mg x=some (.ref ad)/\KD Γ.K Γ.K.w ad tb/\(ad==sysModules)=false
def Ym:CP Γ none Bl:=⟨_,fun _ _=>XY,gA⟩
def Yl(h:CE Γ e false f):CP Γ (some e) (dPt f):=let ⟨_,a1,a2⟩:=h;⟨_,fun X c=>XX (a1 X c),jl a2⟩
def iR{x y:Option Expr}{lo hi:DO}(h:CE Γ e false f)(hl:CP Γ x lo)(hh:CP Γ y hi):CE Γ (.Subscript e (.Slice x y none p) pos) fr (dSl f lo hi):=let ⟨_,a1,a2⟩:=h;let ⟨_,l1,l2⟩:=hl;let ⟨_,h1,h2⟩:=hh;⟨_,fun X c=>Ot (c.w (p:=fun K=>SlR X (aH K)) XH) (a1 X c) (l1 X c) (h1 X c),(kE a2 l2 h2).an⟩
def dG{x y:Option Expr}{lo hi:DO}(h:CE Γ e false f)(hl:CP Γ x lo)(hh:CP Γ y hi):CE Γ (.Subscript e (.Slice x y none p) pos) false (Cn f lo hi):=let ⟨_,a1,a2⟩:=h;let ⟨_,l1,l2⟩:=hl;let ⟨_,h1,h2⟩:=hh;⟨_,fun X c=>Ot (c.w (p:=fun K=>SlR X (aG K)) aC) (a1 X c) (l1 X c) (h1 X c),gk a2 l2 h2⟩
def At.cal{X:Cx}(c:At Γ X){k:Nat}{x:Str}{ps:List Str}{sp:Sp}(h:Cal Γ.P Γ.K.w Γ.K Γ.mg Γ.base k x ps sp)(hk:k<=Γ.k):Cal X.prog X.w X.K X.mg X.base Γ.k x ps sp:=by
 have:=c.kw;unfold Gi at this;rw[<- this,<- c.p,<- c.m,<- c.bs]at h;exact h.mono hk
abbrev cQ(Γ:Ct)(k:Nat)(x:Str)(ps:List Str)(sp:Sp):Prop:=Cal Γ.P Γ.K.w Γ.K Γ.mg Γ.base k x ps sp
abbrev Et(es:List Expr)(pos:Pos):Prop:=∀env,(backTo pos (starEach es env)).any (·.1)=false
section
variable {x:Str} {k:Nat} {ps:List Str} {G:Mir} {i:Nat}
def OV{sp:Sp}{t:TA}(C:cQ Γ k x ps sp)(hk:k<=Γ.k)(hg:glQ Γ x)(h:∀X,At Γ X->PA X (e::es) t)(hs:C3 e es)(hp:Et es pos):∀X,At Γ X->PE X (.Call (.Name x p) (e::es) [] pos) (En sp [] E0 t):=fun X c=>Vb (c.cal C hk) c.rm (c.g x hg.1) (h X c) hg.2 (hs _) (hp _)
def Yy(ha:CA Γ (e::es) g)(C:cQ Γ k x ps (spD Γ.K G fa):=by assumption)(hw:fr=true->fa=true:=by walk_at "fr")(hk:k<=Γ.k:=by walk_at "dk")(hg:glQ Γ x:=by walk_at "dk")(hs:C3 e es:=by walk_at "q")(hp:Et es pos:=by walk_at "q"):CE Γ (.Call (.Name x p) (e::es) [] pos) fr (AB G g):=let ⟨_,a1,a2⟩:=ha;⟨_,OV C hk hg a1 hs hp,(OK a2).to hw⟩
def Wg(C:cQ Γ k x ps (spD Γ.K G fa):=by assumption)(hw:fr=true->fa=true:=by walk_at "fr")(hk:k<=Γ.k:=by walk_at "dk")(hg:glQ Γ x:=by walk_at "dk"):CE Γ (.Call (.Name x p) [] [] pos) fr (AB G AF):=⟨_,fun X c=>Tj (c.cal C hk) c.rm (c.g x hg.1) hg.2,(OK TR).to hw⟩
def Wo{y:Str}{sp:Sp}{t:TA}(v:vrQ Γ i y)(C:cQ Γ k x ps sp)(hk:k<=Γ.k)(hg:glQ Γ x)(h:∀X,At Γ X->PA X es t)(hs:C3 (.Name y p1) es)(hp:Et es pos):∀X,At Γ X->PE X (.Call (.Name x p) (.Name y p1::es) [] pos) (En sp [] E0 (Bs (Dq i) t)):=OV C hk hg (fun X c=>AR (c.var v) (h X c) (hs _)) hs hp
def Wf{y:Str}(ha:CA Γ es g)(C:cQ Γ k x ps (spD Γ.K G fa):=by assumption)(hw:fr=true->fa=true:=by walk_at "fr")(v:vrQ Γ i y:=by walk_at "dk")(hk:k<=Γ.k:=by walk_at "dk")(hg:glQ Γ x:=by walk_at "dk")(hs:C3 (.Name y p1) es:=by walk_at "q")(hp:Et es pos:=by walk_at "q"):CE Γ (.Call (.Name x p) (.Name y p1::es) [] pos) fr (AZ i G g):=let ⟨_,a1,a2⟩:=ha;⟨_,Wo v C hk hg a1 hs hp,(YQ a2).to hw⟩
end
abbrev bQ(Γ:Ct)(x:Str)(v:Value):Prop:=Γ.mg x=none/\bootBuiltins x=some v
abbrev gnQ(Γ:Ct)(x:Str):Prop:=glQ Γ x/\x≠"__name__"
def Zp{x:Str}{v:Value}{r:List V->Hp->VK->Prop}{t:TA}(hv:(∃i,v = .builtin i)\/∃i,v = .type i)(hc:∀X,At Γ X->Cp X v r)(hb:bQ Γ x v)(hg:gnQ Γ x)(h:∀X,At Γ X->PA X (e::es) t)(hs:C3 e es)(hp:Et es pos):∀X,At Γ X->PE X (.Call (.Name x p) (e::es) [] pos) (tCB r t):=fun X c=>by
 rcases hv with ⟨i,rfl⟩|⟨i,rfl⟩
 ·exact Bu (hc X c) (c.g x hg.1.1) (by rw[c.m];exact hb.1) hb.2 (h X c) hg.2 hg.1.2 (hs _) (hp _)
 ·exact Ti (hc X c) (c.g x hg.1.1) (by rw[c.m];exact hb.1) hb.2 (h X c) hg.2 hg.1.2 (hs _) (hp _)
def dZ{x:Str}{F:List PyData->Option PyData}(hc:CBt Γ x fr F)(ha:CA Γ (e::es) g)(hz:Γ.mg x=none:=by assumption)(hg:gnQ Γ x:=by walk_at "dk")(hs:C3 e es:=by walk_at "q")(hp:Et es pos:=by walk_at "q"):CE Γ (.Call (.Name x p) (e::es) [] pos) fr (Ak F g):=let ⟨_,_,_,hv,hb,c1,c2,c3⟩:=hc;let ⟨_,a1,a2⟩:=ha;⟨_,Zp hv c1 ⟨hz,hb⟩ hg a1 hs hp,(Zi c2 a2).to c3⟩
def Yw{i:Nat}{y:Str}(hz:Γ.mg "len"=none:=by assumption)(v:vrQ Γ i y:=by walk_at "dk")(hg:gnQ Γ "len":=by walk_at "dk"):CE Γ (.Call (.Name "len" p) [.Name y p1] [] pos) false (A6 i) :=
 ⟨_,fun X c=>Bu (c.w (p:=fun K=>Cp X (.builtin "len") (fun xs H Q=>∃x n,xs=[x]/\UY K x H n/\Q (.int n) H)) ME) (c.g _ hg.1.1) (by rw[c.m];exact hz) nQ (AR (c.var v) Az) hg.2 hg.1.2,bZ⟩
def dR{y:Str}{T:String}(ha:CE Γ e false f)(hz:Γ.mg "isinstance"=none:=by assumption)(hy:Γ.mg y=none:=by assumption)(hb:bootBuiltins y=some (.type T):=by walk_at "q")(hg:gnQ Γ "isinstance":=by walk_at "dk")(hg2:gnQ Γ y:=by walk_at "dk")(hs:C3 e [.Name y p1]:=by walk_at "q"):CE Γ (.Call (.Name "isinstance" p) [e,.Name y p1] [] pos) false (Dm T f) :=
 let ⟨_,a1,a2⟩:=ha;⟨_,Zp (.inl ⟨_,rfl⟩) (fun X c=>c.w (p:=fun K=>Cp X (.builtin "isinstance") (aI K)) UQ) ⟨hz,ko⟩ hg (fun X c=>AR (a1 X c) (AR (ZV (c.g y hg2.1.1) (by rw[c.m];exact hy) hb hg2.2 hg2.1.2) Az) (hs _)) hs (fun _=>rfl),gy a2⟩
end
section
variable {Γ:Ct} {np:Nat} {fr fa fb fc fe:Bool} {f f' f'':DX} {c c':DT} {g:DA} {a b d e tg:Expr} {es:List Expr} {pos p p1 p2:Pos}
def br(h:CE Γ e false f)(he:∀env whole,isTrue e env whole=(do let v <- whole;standAt e.pos;holding [v] (truthy v)):=by walk_at "q"):CT Γ e (AD f):=let ⟨_,a1,a2⟩:=h;⟨_,fun X c=>RL (a1 X c) (he _),ZJ a2⟩
def bu(h:CT Γ a c):CT Γ (.UnaryOp .Not a pos) (Ao c):=let ⟨_,a1,a2⟩:=h;⟨_,fun X c=>VI (a1 X c),fM a2⟩
def kM(h:CW Γ e c):CT Γ e c:=let ⟨_,a1,a2⟩:=h;⟨_,fun X c=>(a1 X c).pt,a2⟩
def cw_and1(h:CT Γ a c):CW Γ (.BoolOp .And [a] pos) c:=let ⟨_,a1,a2⟩:=h;⟨_,fun X c=>XR (a1 X c),a2⟩
def cw_or1(h:CT Γ a c):CW Γ (.BoolOp .Or [a] pos) c:=let ⟨_,a1,a2⟩:=h;⟨_,fun X c=>VD (a1 X c),a2⟩
def cw_and(h:CT Γ a c)(h':CW Γ (.BoolOp .And (b::es) pos) c'):CW Γ (.BoolOp .And (a::b::es) pos) (An c c'):=let ⟨_,a1,a2⟩:=h;let ⟨_,b1,b2⟩:=h';⟨_,fun X c=>aK (a1 X c) (b1 X c),fO a2 b2⟩
def cw_or(h:CT Γ a c)(h':CW Γ (.BoolOp .Or (b::es) pos) c'):CW Γ (.BoolOp .Or (a::b::es) pos) (BQ c c'):=let ⟨_,a1,a2⟩:=h;let ⟨_,b1,b2⟩:=h';⟨_,fun X c=>ZU (a1 X c) (b1 X c),jh a2 b2⟩
def cE{i:Nat}(h:CT Γ a c):CT Γ a (C6 i c):=let ⟨_,a1,a2⟩:=h;⟨_,a1,fN a2⟩
def dU{x:Str}{tb:List (Str×PyData)}(ha:CE Γ a false f)(h:kdQ Γ x tb:=by assumption)(hg:glQ Γ x:=by walk_at "dk")(hm:behindInMarks .In (.Name x p)=false:=by walk_at "q"):CE Γ (.Compare a [.In] [.Name x p] pos) false (WU tb f):=by
 obtain⟨_,b1,b2⟩:=ha;obtain⟨ad,h1,h2,h3⟩:=h
 exact⟨_,fun X c=>Nb (r:=VB ad tb) (Xn (X:=X) (by rw[<- c.kw]at h2;exact h2) h3) (b1 X c) (Cb (v:=.ref ad) (c.g x hg.1) (by rw[c.m];exact h1) rfl hg.2) hm,g7 b2⟩
abbrev kfQ(Γ:Ct)(x:Str)(tm:List (Str×Mir)):Prop:=∃ad tb,Γ.mg x=some (.ref ad)/\KF Γ.K Γ.K.w ad tb/\(ad==sysModules)=false/\TMs (fB Γ.P Γ.K.w Γ.K Γ.mg Γ.base Γ.k) tb tm
def dW{x:Str}{tm:List (Str×Mir)}(ha:CE Γ a false f)(h:kfQ Γ x tm:=by walk_at "kf")(hg:glQ Γ x:=by walk_at "dk")(hm:behindInMarks .In (.Name x p)=false:=by walk_at "q"):CE Γ (.Compare a [.In] [.Name x p] pos) false (Rw tm f):=by
 obtain⟨_,b1,b2⟩:=ha;obtain⟨ad,tb,h1,h2,h3,h4⟩:=h
 exact⟨_,fun X c=>Nb (r:=VA ad tb false) (Xm (X:=X) (by rw[<- c.kw]at h2;exact h2) h3) (b1 X c) (Cb (v:=.ref ad) (c.g x hg.1) (by rw[c.m];exact h1) rfl hg.2) hm,g8 h4 b2⟩
def We{x:Str}{tm:List (Str×Mir)}(ha:CE Γ a false f)(hb:CA Γ (e::es) g)(h:kfQ Γ x tm:=by walk_at "kf")(hg:glQ Γ x:=by walk_at "dk")(hi:Gf a:=by walk_at "q")(hs:C3 e es:=by walk_at "q")(hp:Et es pos:=by walk_at "q"):CE Γ (.Call (.Subscript (.Name x p) a p1) (e::es) [] pos) false (IK tm f g):=by
 obtain⟨_,b1,b2⟩:=ha;obtain⟨_,g1,g2⟩:=hb;obtain⟨ad,tb,h1,h2,h3,h4⟩:=h
 refine⟨_,fun X c=>?_,YO (ad:=ad) h4 b2 g2⟩
 have ft:=YG c.rm
 rw[c.p,c.m,c.bs,show X.w=Γ.K.w from c.kw▸rfl,show X.K=Γ.K.fr from c.kw▸rfl]at ft
 exact VZ ft (Iu (gQ (X:=X) (by rw[<- c.kw]at h2;exact h2)) (Cb (v:=.ref ad) (c.g x hg.1) (by rw[c.m];exact h1) rfl hg.2) (b1 X c) hi) (g1 X c) (hs _) (hp _)
def Yv{i:Nat}{x:Str}(h:Γ.N[i]?=some x:=by walk_at "q")(hi:i<Γ.own:=by walk_at "dk"):CG Γ (.Name x p) (dN i):=⟨_,fun X c=>Sf c.nd (by rw[c.n];exact h) (c.l i x hi (by rw[c.n];exact h)).1 (c.l i x hi (by rw[c.n];exact h)).2,E2⟩
def Yu:CGs Γ [] DK:=⟨_,fun _ _=>Xe,bS,Si⟩
def Wc{h1:DG}{h2}(a:CG Γ e h1)(b:CGs Γ es h2)(hs:∀env,(assignEach (e::es) env).map (·.2)=assign e env::(assignEach es env).map (·.2):=by walk_at "q"):CGs Γ (e::es) (Ag h1 h2):=let ⟨_,a1,a2⟩:=a;let ⟨_,b1,b2,b3⟩:=b;⟨_,fun X c=>VV (a1 X c) (b1 X c) (hs _),YE a2 b2,PZ b3⟩
def dB{j}{h1}(a:CGs Γ es h1)(hn:∀env,(assignEach es env).length=es.length:=by walk_at "q")(hst:∀env,(assignEach es env).findIdx? (·.1)=none:=by walk_at "q"):CG Γ (.Tuple es j pos) (dGT h1):=let ⟨t,a1,a2,a3⟩:=a;⟨YF Γ.K es.length t,fun X c=>c.w (p:=fun K=>PG X _ (YF K es.length t)) (aQ c.ca (a1 X c) (hn _) (hst _)),gd a2 a3⟩
def Yt(h:CE Γ e false f):CI Γ tg e (dIL f):=let ⟨t,a1,a2⟩:=h;⟨M8 Γ.K t,fun X c=>c.w (p:=fun K=>PI X _ _ (M8 K t)) (Xb (a1 X c)),Ss a2⟩
def cy(h:CE Γ e false f):CI Γ tg e (dIT f):=let ⟨t,a1,a2⟩:=h;⟨YC Γ.K t,fun X c=>c.w (p:=fun K=>PI X _ _ (YC K t)) (aO (a1 X c)),bK a2⟩
def cz(h:CE Γ e false f):CI Γ tg e (dIS f):=let ⟨t,a1,a2⟩:=h;⟨_,fun X c=>aP (a1 X c),bL a2⟩
def iP(h:CA Γ [a] g)(hz:Γ.mg "range"=none:=by assumption)(hg:glQ Γ "range":=by walk_at "dk")(hs:C3 a []:=by walk_at "q"):CI Γ tg (.Call (.Name "range" p) [a] [] pos) (dR1 g):=let ⟨t,a1,a2⟩:=h;⟨_,fun X c=>Th (c.g _ hg.1) (by rw[c.m];exact hz) (a1 X c) (hs _),UA a2⟩
def iQ{x j}(h:CE Γ e false f)(hz:Γ.mg "enumerate"=none:=by assumption)(hg:gnQ Γ "enumerate":=by walk_at "dk")(hs:C3 e []:=by walk_at "q"):CI2 Γ (.Tuple x j p2) (.Call (.Name "enumerate" p) [e] [] pos) (dIE f):=let ⟨t,a1,a2⟩:=h;⟨Sw Γ.K (Bs t Em),fun X c=>c.w (p:=fun K=>PI X _ _ (Sw K (Bs t Em))) (Xc (c.g _ hg.1.1) (by rw[c.m];exact hz) (AR (a1 X c) Az (hs _)) hg.2 hg.1.2 (hs _)),X6 a2⟩
end
section
variable {Γ:Ct} {np:Nat} {fr fa fb fc fe:Bool} {f f' f'':DX} {c c':DT} {g:DA} {a b d e tg it elt:Expr} {es ifs:List Expr} {pos p p1 p2:Pos}
def tgN:Expr->List Str
 |.Name x _=>[x]
 |.Tuple es _ _=>es.filterMap fun e=>match e with|.Name x _=>some x|_=>none
 |_=>[]
abbrev Ct.blk(Γ:Ct)(own:Nat)(fr:List Nat)(tg:Expr)(sc:Scope):Ct:={ Γ with own:=own,d:=false,N:=tgN tg++fr.map fun j=>Γ.N.getD j "",sc:=sc }
def lcQ(Γ:Ct)(own:Nat)(fr:List Nat)(tg:Expr)(sc:Scope):Bool :=
 let Δ:=Γ.blk own fr tg sc
 V0 Δ.N own fr sc Γ.N Γ.sc&&decide Δ.N.Nodup&&((List.range own).all fun i=>match Δ.N[i]? with|some x=>sc.names.lookup x==some .local|none=>false)&&decide (Δ.N.length=own+fr.length)
def Wn{X:Cx}(c:At Γ X){own:Nat}{fv:List Nat}{sc:Scope}(h:lcQ Γ own fv tg sc=true):R5 X (Γ.blk own fv tg sc).N own fv sc:=by
 unfold lcQ at h
 simp only[Bool.and_eq_true]at h
 have o:=ZZ (X:={ X with env:={ X.env with scope:=Γ.sc } }) (N:=Γ.N) c.n rfl h.1.1.1
 exact⟨o.kind,o.len,o.cell,o.names,fun x hx=>c.c x (o.free x hx),o.slot⟩
def Ji{X:Cx}(c:At Γ X){own:Nat}{fv:List Nat}{sc:Scope}(h:lcQ Γ own fv tg sc=true)(cl:List (Str×Addr))(fp:List Addr)(s3:Shared)(H3:Hp):At (Γ.blk own fv tg sc) (cxC X (Γ.blk own fv tg sc).N sc cl fp s3 H3):=by
 have o:=Wn c h
 unfold lcQ at h
 simp only[Bool.and_eq_true,decide_eq_true_eq,List.all_eq_true,List.mem_range]at h
 obtain⟨⟨⟨_,nd⟩,ow⟩,ln⟩:=h
 have ow':∀(i:Nat) (x:Str),i<own->(Γ.blk own fv tg sc).N[i]?=some x->sc.names.lookup x=some .local:=fun i x hi e=>by
  have:=ow i hi;rw[e]at this;exact eq_of_beq this
 refine⟨c.p,c.kw,c.m,c.bs,rfl,nd,c.rm,c.ca,PassesOwn.never,fun x hx=>?_,fun i x hi e=>⟨M6 (ow' i x hi e),.inr (Gv (ow' i x hi e))⟩,fun x h=>Gv h,fun x h=>XM h,fun z=>(nomatch z),fun x h=>?_⟩
 ·obtain⟨i,hi⟩:=List.mem_iff_getElem?.mp hx
  by_cases hlt:i<own
  ·exact JS (ow' i x hlt hi)
  ·have hl:i<(Γ.blk own fv tg sc).N.length:=(R'.mp hi).1
   obtain⟨k,rfl⟩:∃k,i=own+k:=⟨i-own,by omega⟩
   have hk:k<fv.length:=by have e:(Γ.blk own fv tg sc).N.length=own+fv.length:=ln;omega
   obtain⟨y,h1,_,h3⟩:=o.slot k fv[k] (km hk)
   rw[show(cxC X (Γ.blk own fv tg sc).N sc cl fp s3 H3).N=(Γ.blk own fv tg sc).N from rfl]at hi
   rw[hi]at h1;cases h1
   exact Uj h3
 ·rcases h with h|h
  ·exact absurd rfl (o.cell _ (lQ h))
  ·exact NV h
def YX:CTs Γ [] B0:=⟨_,fun _ _=>XU,fL⟩
def YW(h:CT Γ e c):CTs Γ [e] c:=let ⟨_,a1,a2⟩:=h;⟨_,fun X c=>Sb (a1 X c),a2⟩
def CL(Γ:Ct)(elt tg it:Expr)(ifs:List Expr)(sc:Scope)(fr:Bool)(f:DX):Prop:=∃own fv wi g tc te,lcQ Γ own fv tg sc=true/\(∀X,At Γ X->PI X tg it wi)/\(∀X,At (Γ.blk own fv tg sc) X->PG X tg g)/\(∀X,At (Γ.blk own fv tg sc) X->PTs X ifs tc)/\(∀X,At (Γ.blk own fv tg sc) X->PE X elt te)/\E Γ.K (tLC own fv wi g tc te) fr f
abbrev M3(it:Expr):Prop:=∀env x,foldedSetIterable it env x=pure x
def iU{sc:Scope}(h:CL Γ elt tg it ifs sc fr f)(hs:M3 it:=by walk_at "q"):CE Γ (.ListComp elt [⟨tg,it,ifs,0⟩] sc pos) fr f:=let ⟨_,_,_,_,_,_,h0,h1,h2,h3,h4,h5⟩:=h;⟨_,fun X c=>fk c.ca (Wn c h0) (h1 X c) (fun _ _ _ _=>h2 _ (Ji c h0 _ _ _ _)) (fun _ _ _ _=>h3 _ (Ji c h0 _ _ _ _)) (fun _ _ _ _=>h4 _ (Ji c h0 _ _ _ _)) (hs _),h5⟩
section
variable {sc:Scope} {own j:Nat} {fv f1 f2:List Nat} {di:DI} {dg:DG}
def kN(hi:CI Γ tg it di)(hg:CG (Γ.blk own fv tg sc) tg dg)(ht:CTs (Γ.blk own fv tg sc) ifs c)(he:CE (Γ.blk own fv tg sc) elt false f)(h:lcQ Γ own fv tg sc=true:=by walk_at "dk"):CL Γ elt tg it ifs sc fr (dLC own fv di dg c f):=let ⟨_,i1,i2⟩:=hi;let ⟨_,g1,g2⟩:=hg;let ⟨_,t1,t2⟩:=ht;let ⟨_,e1,e2⟩:=he;⟨_,_,_,_,_,_,h,i1,g1,t1,e1,(gu i2 g2 t2 e2).an⟩
end
abbrev bsQ(o:Expr)(m:Str):Prop:=∀env,attributeBase o m env (eval o env)=eval o env
abbrev lnQ(a c:Pos):Prop:=(a.endLine==c.line)=true
abbrev fwQ(es:List Expr)(c:Pos):Prop:=∀env,((backTo c (starEach es env)).all (fun x=>!x.1)&&(backToKw c (keywordEach [] env)).all (fun x=>x.1.isSome)&&decide (es.length+([]:List Keyword).length+(if ([]:List Keyword).isEmpty then 0 else 1)<30))=true
def kA{e:Expr}{c:Pos}(hs:C3 e []):fwQ [e] c:=fun env=>by rw[hs];rfl
def iT{i:Nat}{x m:Str}{G}(hm:CM Γ m G)(ha:CA Γ (e::es) g)(v:vrQ Γ i x:=by walk_at "dk")(hb:bsQ (.Name x p) m:=by walk_at "q")(hl:lnQ p1 pos:=by walk_at "q")(hw:fwQ (e::es) pos:=by walk_at "q")(hs:C3 e es:=by walk_at "q")(hp:Et es pos:=by walk_at "q"):CE Γ (.Call (.Attribute (.Name x p) m p1) (e::es) [] pos) false (dMt i G g):=by
 obtain⟨id,r,m1,m2,m3,m4⟩:=hm;obtain⟨t,a1,a2⟩:=ha
 exact⟨_,fun X c=>c.w (p:=fun K=>PE X _ (tBM K "list" r (Dq i) t)) (Vd mH m1 m2 (m3 X c) (c.var v) (a1 X c) (hb _) (hw _) hl (hs _) (hp _)),kF m4 a2⟩
def cv:CM Γ "append" A8:=⟨_,_,PySem.F.slot_list_append,PySem.F.type_list_append,fun _ _=>JZ,Vy⟩
def Yx(ha:CE Γ a false f)(hb:CE Γ b false f')(h1:bsQ a "index":=by walk_at "q")(hl:lnQ p1 pos:=by walk_at "q")(hs:C3 b []:=by walk_at "q"):CE Γ (.Call (.Attribute a "index" p1) [b] [] pos) false (dOp NA f f'):=by
 obtain⟨t,a1,a2⟩:=ha;obtain⟨u,b1,b2⟩:=hb
 exact⟨_,fun X c=>c.w (p:=fun K=>PE X _ (tBM K "list" (VC K) t (Bs u Em))) (Vd mH PySem.F.slot_list_index PySem.F.type_list_index (T2 c.u5) (a1 X c) (AR (b1 X c) Az (hs _)) (h1 _) (kA hs _) hl (hs _) rfl),ba a2 b2⟩
def cu:CO Γ (binaryOp .Add) false Ay:=⟨_,_,fun _ _=>ao,ZX,id⟩
def cP:CO Γ (binaryOp .Sub) false BN:=⟨_,_,fun _ _=>aX,f7,id⟩
def cV:CO Γ (binaryOp .Mult) false II:=⟨_,_,fun _ _=>Xk,gC,id⟩
def cZ:CO Γ (binaryOp .FloorDiv) false A7:=⟨_,_,fun _ _=>Vh,gJ,id⟩
def cW:CO Γ (binaryOp .Mod) false Af:=⟨_,_,fun _ _=>ae,gD,id⟩
def cR:CO Γ (binaryOp .Pow) false Pn:=⟨_,_,fun _ _=>aZ,f9,id⟩
def cc:CO Γ (binaryOp .Add) fr Gj:=⟨_,_,fun _ _=>Lf,gK,fun _=>rfl⟩
def Ys:CO Γ (binaryOp .Add) false JM:=⟨_,_,fun _ _=>RP,ay,id⟩
def Yr:CO Γ (binaryOp .Add) false Cd:=⟨SW Γ.K,_,fun X c=>c.w (p:=fun K=>OpR X _ (SW K)) Xo,ax,id⟩
def iH:CO Γ (compareOp .Lt) false fLt:=⟨_,_,fun _ _=>fq,jm,id⟩
def iI:CO Γ (compareOp .LtE) false fLe:=⟨_,_,fun _ _=>fu,jo,id⟩
def iM:CO Γ (compareOp .Gt) false fGt:=⟨_,_,fun _ _=>fy,jq,id⟩
def iN:CO Γ (compareOp .GtE) false fGe:=⟨_,_,fun _ _=>fz,jr,id⟩
def iO:CO Γ (compareOp .Eq) false fEq:=⟨XQ Γ.K,_,fun X c=>c.w (p:=fun K=>OpR X _ (XQ K)) (aj c.u),js,id⟩
def iG:CO Γ (compareOp .NotEq) false fNe:=⟨XO Γ.K,_,fun X c=>c.w (p:=fun K=>OpR X _ (XO K)) (Vf c.u),gB,id⟩
def iK:CO Γ (compareOp .In) false (fIn false):=⟨RJ Γ.K false,_,fun X c=>c.w (p:=fun K=>OpR X _ (RJ K false)) (ai c.u5),gH,id⟩
def cU:CO Γ (compareOp .NotIn) false (fIn true):=⟨RJ Γ.K true,_,fun X c=>c.w (p:=fun K=>OpR X _ (RJ K true)) (Tq c.u5),gH,id⟩
def cY:CO Γ (compareOp .In) false Po:=⟨_,_,fun _ _=>Ts,gG,id⟩
def cX:CO Γ (compareOp .Is) false IJ:=⟨_,_,fun _ _=>af,gF,id⟩
def Yp:CO Γ (compareOp .IsNot) false B9:=⟨_,_,fun _ _=>Xi,av,id⟩
def kL:CIx Γ DR:=⟨Td Γ.K,fun X c=>c.w (p:=fun K=>IxR X (Td K)) N8,ZW⟩
def kJ:CIx Γ AN:=⟨NW Γ.K,fun X c=>c.w (p:=fun K=>IxR X (NW K)) Lp,Vp⟩
def kK:CIx Γ OI:=⟨_,fun _ _=>bI,gE⟩
def dh:CBt Γ "len" false Bp:=⟨_,fun xs H Q=>∃x n,xs=[x]/\UY Γ.K x H n/\Q (.int n) H,_,.inl ⟨_,rfl⟩,nQ,fun X c=>c.w (p:=fun K=>Cp X (.builtin "len") (fun xs H Q=>∃x n,xs=[x]/\UY K x H n/\Q (.int n) H)) ME,Zl,id⟩
def dq:CBt Γ "abs" false Hs:=⟨_,_,_,.inl ⟨_,rfl⟩,PyProof.Rows.boot_abs,fun _ _=>Wi,ic,id⟩
def Y0:CBt Γ "max" false FR:=⟨_,_,_,.inl ⟨_,rfl⟩,PyProof.Rows.boot_max,fun _ c=>UP c.ca,dz,id⟩
def Yz:CBt Γ "min" false FQ:=⟨_,_,_,.inl ⟨_,rfl⟩,PyProof.Rows.boot_min,fun _ c=>UO c.ca,dw,id⟩
def dj:CBt Γ "int" false Ds:=⟨_,_,_,.inr ⟨_,rfl⟩,PySem.Pv.boot_int,fun _ _=>UT,eB,id⟩
def Y1:CBt Γ "list" fr Bj:=⟨_,fun xs H Q=>∃p ys,xs=[.ref p]/\(SqL Γ.K H p ys\/SqT Γ.K H p ys)/\∀l,H l=none->Q (.ref l) (upd H l (.lst ys)),_,.inr ⟨_,rfl⟩,PySem.Pv.boot_list,fun X c=>c.w (p:=fun K=>Cp X _ (fun xs H Q=>∃p ys,xs=[.ref p]/\(SqL K H p ys\/SqT K H p ys)/\∀l,H l=none->Q (.ref l) (upd H l (.lst ys)))) OT,eA,fun _=>rfl⟩
def df:CBt Γ "tuple" false Lv:=⟨_,fun xs H Q=>∃p ys,xs=[.ref p]/\((SqL Γ.K H p ys/\∀l,H l=none->Q (.ref l) (upd H l (.tup ys)))\/(SqT Γ.K H p ys/\Q (.ref p) H)),_,.inr ⟨_,rfl⟩,PySem.Pv.boot_tuple,fun X c=>c.w (p:=fun K=>Cp X _ (fun xs H Q=>∃p ys,xs=[.ref p]/\((SqL K H p ys/\∀l,H l=none->Q (.ref l) (upd H l (.tup ys)))\/(SqT K H p ys/\Q (.ref p) H)))) Ml,Y3,id⟩
def dn:CBt Γ "all" false JN:=⟨_,SY Γ.K,_,.inl ⟨_,rfl⟩,PyProof.Rows.boot_all,fun X c=>c.w (p:=fun K=>Cp X _ (SY K)) (UW c.ca),eH,id⟩
def dm:CBt Γ "any" false NB:=⟨_,SX Γ.K,_,.inl ⟨_,rfl⟩,PyProof.Rows.boot_any,fun X c=>c.w (p:=fun K=>Cp X _ (SX K)) (UU c.ca),eE,id⟩
end
end DL
end
section
namespace DL
open PySem L2 PySem.Spec PyProof.Rows
section
variable {Γ:Ct} {np:Nat} {fr fa fb fc fe:Bool} {f f' f'':DX} {c c':DT} {g:DA} {a b d e tg it elt:Expr} {es ifs:List Expr} {pos p p1 p2:Pos} {s:Stmt} {ss ss':List Stmt} {B1 B2:DB} {i j k:Nat} {x y z:Str}
def YZ:CSs Γ np [] fr AQ:=⟨_,fun _ _=>NZ,Zo⟩
def TF(h:CS Γ np s fr B1):CSs Γ np [s] fr B1:=let ⟨_,a1,a2⟩:=h;⟨_,fun X c=>Iq (a1 X c),a2⟩
def Px(h:CS Γ np s fr B1)(h':CSs Γ np ss fr B2):CSs Γ np (s::ss) fr (AH B1 B2):=let ⟨_,a1,a2⟩:=h;let ⟨_,b1,b2⟩:=h';⟨_,fun X c=>DU (a1 X c) (b1 X c),ig a2 b2⟩
abbrev stQ(Γ:Ct)(i:Nat)(x:Str):Prop:=Γ.N[i]?=some x/\i<Γ.own
abbrev nSw(e:Expr)(t:Option Expr)(pos:Pos):Prop:=∀env,swapsWith e t pos.line env=pure false
def Jh{te:TE}(h:∀X,At Γ X->PE X e te)(v:stQ Γ i x)(hs:∀X,At Γ X->swapsWith e (some (.Name x p)) pos.line X.env=pure false):∀X,At Γ X->PS X (.Assign [.Name x p] e pos) (JU te (FO i)):=fun X c=>by
 have hi:X.N[i]?=some x:=by rw[c.n];exact v.1
 exact IC c.nd hi (c.l i x v.2 hi).1 (h X c) (hs X c) (c.l i x v.2 hi).2
def cF(h:CE Γ e false f)(v:stQ Γ i x:=by walk_at "dk")(hs:nSw e (some (.Name x p)) pos:=by walk_at "q"):CS Γ np (.Assign [.Name x p] e pos) fr (AI f (dN i)):=let ⟨_,a1,a2⟩:=h;⟨_,Jh a1 v fun _ _=>hs _,TM a2 E2⟩
def Ya(h:CE Γ e true f)(v:stQ Γ i x:=by walk_at "dk")(hs:nSw e (some (.Name x p)) pos:=by walk_at "q"):CS Γ np (.Assign [.Name x p] e pos) fr (E4 np i f):=let ⟨_,a1,a2⟩:=h;⟨_,Jh a1 v fun _ _=>hs _,eL a2⟩
def cK(v:stQ Γ i x:=by walk_at "dk"):CS Γ np (.Assign [.Name x p] (.List [] p1) pos) fr (GL np i):=⟨_,Jh (fun _ _=>IE Az) v fun _ _=>rfl,ip⟩
def Yi(v:stQ Γ i x:=by walk_at "dk"):CS Γ np (.Assign [.Name x p] (.Dict [] [] p1) pos) fr (S9 np i):=⟨_,Jh (fun _ _=>Xf) v fun _ _=>rfl,eS⟩
abbrev lsQ(Γ:Ct)(i:Nat)(x:Str)(p p1:Pos)(sc:Scope):Prop:=Γ.N[i]?=some x/\Γ.sc.names.lookup x=some .local/\Γ.d=true/\(p.line==p1.line&&!(sc.names.any fun(n,k)=>n==x&&(k==.local||k==.cell)))=true
def i0{sc:Scope}{own:Nat}{fv:List Nat}{wi:TI}{g:TG}{tc:TT}{te:TE}(v:lsQ Γ i x p p1 sc)(hf:M3 it)(h0:lcQ Γ own fv tg sc=true)(h1:∀X,At Γ X->PI X tg it wi)(h2:∀X,At (Γ.blk own fv tg sc) X->PG X tg g)(h3:∀X,At (Γ.blk own fv tg sc) X->PTs X ifs tc)(h4:∀X,At (Γ.blk own fv tg sc) X->PE X elt te) :
  ∀X,At Γ X->PS X (.Assign [.Name x p] (.ListComp elt [⟨tg,it,ifs,0⟩] sc p1) pos) (fun D σ H=>tLC own fv wi g tc te σ H fun v H'=>D.nx (σ.set i (some v)) H'):=fun X c=>by
 obtain⟨v1,v2,v3,v4⟩:=v
 have hl:=c.ll x v2
 refine VN c.nd (by rw[c.n];exact v1) hl c.ca (Wn c h0) (h1 X c) (fun _ _ _ _=>h2 _ (Ji c h0 _ _ _ _)) (fun _ _ _ _=>h3 _ (Ji c h0 _ _ _ _)) (fun _ _ _ _=>h4 _ (Ji c h0 _ _ _ _)) ?_ (hf _)
 show(pure (X.env.blockKind==.function&&X.env.kindOf x==some .local&&p.line==p1.line&&!(sc.names.any fun(n,k)=>n==x&&(k==.local||k==.cell))):Sem Bool)=pure true
 rw[c.bk v3,show X.env.kindOf x=some .local from hl]
 rw[Y']at v4
 rw[v4.1,v4.2];rfl
def iE{sc:Scope}(h:CL Γ elt tg it ifs sc false f)(v:lsQ Γ i x p p1 sc:=by walk_at "dk")(hf:M3 it:=by walk_at "q"):CS Γ np (.Assign [.Name x p] (.ListComp elt [⟨tg,it,ifs,0⟩] sc p1) pos) fr (AI f (dN i)):=let ⟨_,_,_,_,_,_,h0,h1,h2,h3,h4,h5⟩:=h;⟨_,i0 v hf h0 h1 h2 h3 h4,iq h5⟩
abbrev asQ(tg e:Expr)(pos:Pos):Prop:=∀env,swapsWithSole [tg] e pos.line env=pure false/\swappedStores [tg] e env=pure none/\(assignEach [tg] env).map (·.2)=[assign tg env]
def cO{gt:DG}(h:CE Γ e false f)(hg:CG Γ tg gt)(hs:asQ tg e pos:=by walk_at "as"):CS Γ np (.Assign [tg] e pos) fr (AI f gt):=let ⟨_,a1,a2⟩:=h;let ⟨_,b1,b2⟩:=hg;⟨_,fun X c=>VR (a1 X c) (b1 X c) (hs _).1 (hs _).2.1 (hs _).2.2,TM a2 b2⟩
abbrev sbQ(o i:Expr)(pos:Pos):Prop:=∀env v,assign (.Subscript o i pos) env v=(do
   let ov <- holding [v] (eval o env)
   let iv <- holding [v,ov] (eval i env)
   standAt pos
   holding [v,ov,iv] (setItem ov iv v)
   release [v,ov,iv] [])
def eW{o:Expr}{te to ti:TE}{t:ZD}(h:∀X,At Γ X->PE X e te)(ho:∀X,At Γ X->PE X o to)(hi:∀X,At Γ X->PE X d ti)(ht:∀X,At Γ X->eo X t)(h1:sbQ o d p)(hs:asQ (.Subscript o d p) e pos):∀X,At Γ X->PS X (.Assign [.Subscript o d p] e pos) (JU te (bT to ti t)):=fun X c=>VR (h X c) (aR (ho X c) (hi X c) (ht X c) (h1 _)) (hs _).1 (hs _).2.1 (hs _).2.2
def Yg(h:CE Γ e false f)(hk:CE Γ d false f')(v:vrQ Γ i x:=by walk_at "dk")(h1:sbQ (.Name x p1) d p:=by walk_at "q")(hs:asQ (.Subscript (.Name x p1) d p) e pos:=by walk_at "as"):CS Γ np (.Assign [.Subscript (.Name x p1) d p] e pos) fr (L7 i f f'):=let ⟨_,a1,a2⟩:=h;let ⟨_,b1,b2⟩:=hk;⟨_,eW a1 (fun _ c=>c.var v) b1 (fun _ _=>fV) h1 hs,eQ a2 b2⟩
abbrev lvQ(Γ:Ct)(i:Nat)(x:Str):Prop:=Γ.N[i]?=some x/\Γ.sc.names.lookup x=some .local
abbrev fdQ(vs:List Expr):Prop:=(vs.any fun|.Starred ..=>true|_=>false)=false/\vs.all (foldedForSure 8)=false/\vs.all (constantsAlone 8)=false
def cI{q1 q2 q3 q4:Pos}{k1 k2}(h:CA Γ [a,b] g)(v:lvQ Γ i x/\lvQ Γ j y/\i≠j/\x≠y/\Γ.d=true/\q2.line=q1.line:=by walk_at "dk")(hw:fdQ [a,b]:=by walk_at "fd"):CS Γ np (.Assign [.Tuple [.Name x q1,.Name y q2] k1 q3] (.Tuple [a,b] k2 q4) pos) fr (Bb i j g):=by
 obtain⟨t,a1,a2⟩:=h;obtain⟨⟨v1,v2⟩,⟨v3,v4⟩,v5,v6,v7,v8⟩:=v;obtain⟨w1,w2,w3⟩:=hw
 refine⟨_,fun X c=>aM c.ca c.nd (by rw[c.n];exact v1) (by rw[c.n];exact v3) v5 (c.ll x v2) (c.ll y v4) (a1 X c) ?_ rfl,ik a2⟩
 unfold swappedStores
 simp only[c.bk v7,List.length_cons,List.length_nil,w1,w2,w3,List.head?_cons,Option.map_some,Option.getD_some,Expr.pos,List.filterMap_cons,List.filterMap_nil,show X.env.kindOf x=some .local from c.ll x v2,show X.env.kindOf y=some .local from c.ll y v4,v8,beq_self_eq_true,Bool.and_true,Bool.and_self,if_true,List.eraseDups_cons]
 simp[List.eraseDups,List.eraseDupsBy,List.eraseDupsBy.loop,v6,Ne.symm v6]
 intro h
 simp only[List.any_cons,List.any_nil,Bool.or_false,Bool.or_eq_false_iff]at w1
 rcases h with h|h
 ·exact Bool.noConfusion (h.symm.trans w1.1)
 ·exact Bool.noConfusion (h.symm.trans w1.2)
def Yk(h:CE Γ e false f)(hs:nSw e none pos:=by walk_at "q"):CS Γ np (.Expr e pos) fr (CV f):=let ⟨_,a1,a2⟩:=h;⟨_,fun X c=>Ir (a1 X c) (hs _),eV a2⟩
def cG(h:CE Γ e fr f):CS Γ np (.Return (some e) pos) fr (AM f):=let ⟨_,a1,a2⟩:=h;⟨_,fun X c=>ID (a1 X c),ij a2 id⟩
def Yd:CS Γ np (.Return none pos) false EY:=⟨_,fun _ _=>XW,eN⟩
def Ye(v:vrQ Γ i x:=by walk_at "dk"):CS Γ np (.Return (some (.Name x p)) pos) fr (Dt np i):=⟨_,fun _ c=>ID (c.var v),eO⟩
def Yf(v:vrQ Γ i x:=by walk_at "dk"):CS Γ np (.Return (some (.Name x p)) pos) fr (S8 i):=⟨_,fun _ c=>ID (c.var v),eP⟩
def iF(h:CT Γ e c)(h1:CSs Γ np ss fr B1)(h2:CSs Γ np ss' fr B2):CS Γ np (.If e ss ss' pos) fr (AO c B1 B2):=let ⟨_,a1,a2⟩:=h;let ⟨_,b1,b2⟩:=h1;let ⟨_,d1,d2⟩:=h2;⟨_,fun X c=>VQ (a1 X c) (b1 X c) (d1 X c),kQ a2 b2 d2⟩
def WZ{n:DS->Nat}(h:CT Γ e c)(h1:CSs Γ np ss fr B1):CS Γ np (.While e ss [] pos) fr (FZ n c B1):=let ⟨_,a1,a2⟩:=h;let ⟨_,b1,b2⟩:=h1;⟨_,fun X c=>VM c.po (a1 X c) (b1 X c),Y6 a2 b2⟩
def cL{di:DI}{dg:DG}(h:CI Γ tg it di)(hg:CG Γ tg dg)(h1:CSs Γ np ss fr B1)(hs:M3 it:=by walk_at "q"):CS Γ np (.For tg it ss [] pos) fr (Ca di dg B1):=let ⟨_,a1,a2⟩:=h;let ⟨_,g1,g2⟩:=hg;let ⟨_,b1,b2⟩:=h1;⟨_,fun X c=>RM c.po c.ca (a1 X c) (g1 X c) (b1 X c) (hs _),ir a2 g2 b2⟩
def Yj{di:DI}{dg:DG}(h:CI2 Γ tg it di)(hg:CG Γ tg dg)(h1:CSs Γ np ss fr B1)(hs:M3 it:=by walk_at "q"):CS Γ np (.For tg it ss [] pos) fr (Ca di dg B1):=let ⟨_,a1,a2⟩:=h;let ⟨_,g1,g2⟩:=hg;let ⟨_,b1,b2⟩:=h1;⟨_,fun X c=>RM c.po c.ca (a1 X c) (g1 X c) (b1 X c) (hs _),eU a2 g2 b2⟩
def cM(h:CE Γ e false f)(v:stQ Γ i x:=by walk_at "dk"):CS Γ np (.AugAssign (.Name x p) .Add e pos) fr (AI (dOp Ay (AJ i) f) (dN i)):=by
 obtain⟨_,a1,a2⟩:=h
 refine⟨_,fun X c=>?_,iz a2⟩
 have hi:X.N[i]?=some x:=by rw[c.n];exact v.1
 exact aN c.nd hi (c.l i x v.2 hi).1 (a1 X c) bN (c.l i x v.2 hi).2
def Wa:CS Γ np s fr EB:=⟨_,fun _ _=>VP,Y7⟩
end
def scB(N ps:List Str)(sc:Scope):Bool:=decide (sc.kind = .function)&&decide (sc.isCoroutine=false)&&decide (sc.isGenerator=false)&&decide N.Nodup&&decide (N.take ps.length=ps)&&(N.all fun x=>decide (Loc sc x))&&(sc.names.all fun y=>decide (y.2≠.free))
def RG{N ps:List Str}{sc:Scope}(h:scB N ps sc=true):Ee N ps sc/\∀x∈N,Loc sc x:=by
 unfold scB at h
 simp only[Bool.and_eq_true,decide_eq_true_eq,List.all_eq_true]at h
 obtain⟨⟨⟨⟨⟨⟨h1,h2⟩,h3⟩,h4⟩,h5⟩,h6⟩,h7⟩:=h
 exact⟨⟨h1,h2,h3,h4,h5,fun x hx=>h6 x (me (by rw[h5];exact hx)),h7⟩,h6⟩
def eY{P:Program}{w:World}{K:PySem.W.Frag}{mg:Str->Option Value}{base:Heap}{N ps:List Str}{x:Str}{sc:Scope}{f:Addr}{cd:Value}{A:Around}{outer:List Env}{s:Shared}{H:Hp}{E:XK}{k:Nat}(S:Ee N ps sc)(l:∀x∈N,Loc sc x)(hr:Room k (A.deeper (envOfC x sc s.heap.objs.size f cd))):At ⟨P,⟨K,w⟩,mg,base,k,N.length,true,N,sc⟩ (JP CX0 P w K mg base N x sc f cd A outer s H E).nox where
 p:=rfl
 kw:=rfl
 m:=rfl
 bs:=rfl
 n:=rfl
 nd:=S.nd
 rm:=hr
 ca:=rfl
 po:=PassesOwn.never
 v:=fun x hx=>viL (l x hx)
 l:=fun i x _ e=>⟨l x (ka e),.inl rfl⟩
 ll:=fun _ h=>h
 g:=fun _ h=>h
 bk:=fun _=>by show Env.blockKind (envOfC x sc s.heap.objs.size f cd)=_;unfold Env.blockKind;rw[show(envOfC x sc s.heap.objs.size f cd).scope.kind = .function from S.kind];rfl
 c:=fun _ h=>h
def AS{P:Program}{w:World}{K:PySem.W.Frag}{mg:Str->Option Value}{base:Heap}{x:Str}{st:Stmt}{f:Addr}{fd:FuncData}{ps:List Str}{k np nl:Nat}{fr:Bool}{b:DB}(N:List Str)(F:Fun K x x st f fd)(hb:CSs ⟨P,⟨K,w⟩,mg,base,k,N.length,true,N,AV st⟩ np (Bk st) fr b)(hs:scB N ps (AV st)=true:=by walk_at "dk")(hn:N.length=np+nl/\np=ps.length:=by walk_at "dk"):FnOk P w K mg base CX0 (k+1) f fd ps (spD ⟨K,w⟩ (Ba fr np nl b) fr):=by
 obtain⟨S,l⟩:=RG hs;obtain⟨t,h1,h2⟩:=hb
 exact F.ok S (fun vs H Q E h=>(bY Pr h).trans hn.2) fun cdv A outer s H vs Q E hr h=>⟨t,h1 _ (eY S l hr),bW h2 hn.1 h⟩
section
variable {Γ:Ct} {np:Nat} {fr fa fb fc fe:Bool} {f f' f'':DX} {c c':DT} {g:DA} {a b d e tg it elt:Expr} {es ifs:List Expr} {pos p p1 p2:Pos} {s:Stmt} {ss ss':List Stmt} {i j k:Nat} {x y z:Str} {cls:Nat->Addr} {B1 B2:DBX}
structure AtR(Γ:Ct)(E:XK)(X:Cx):Prop where
 ra:∀C,MK X C E
 pa:Jt (CXr Γ.P Γ.K.w) X E
def CX(Γ:Ct)(cls:Nat->Addr)(np:Nat)(s:Stmt)(fr:Bool)(f:DBX):Prop:=∀E:XK,∃t,(∀X,At Γ X->AtR Γ E X->PS X s t)/\BX Γ.K np (fun n H=>E (.ref (cls n)) none H) t fr f
def CXs(Γ:Ct)(cls:Nat->Addr)(np:Nat)(s:List Stmt)(fr:Bool)(f:DBX):Prop:=∀E:XK,∃t,(∀X,At Γ X->AtR Γ E X->PSs X s t)/\BX Γ.K np (fun n H=>E (.ref (cls n)) none H) t fr f
def YT:CXs Γ cls np [] fr (xOf AQ):=fun _=>⟨_,fun _ _ _=>NZ,fE Zo⟩
def TC(h:CX Γ cls np s fr B1):CXs Γ cls np [s] fr B1:=fun E=>let ⟨_,a1,a2⟩:=h E;⟨_,fun X c r=>Iq (a1 X c r),a2⟩
def Pu(h:CX Γ cls np s fr B1)(h':CXs Γ cls np ss fr B2):CXs Γ cls np (s::ss) fr (A4 B1 B2):=fun E=>let ⟨_,a1,a2⟩:=h E;let ⟨_,b1,b2⟩:=h' E;⟨_,fun X c r=>DU (a1 X c r) (b1 X c r),fD a2 b2⟩
def iB{b:DB}(h:CS Γ np s fr b):CX Γ cls np s fr (xOf b):=fun E=>let ⟨_,a1,a2⟩:=h;⟨_,fun X c _=>a1 X c,fE a2⟩
def iD(h:CT Γ e c)(h1:CXs Γ cls np ss fr B1)(h2:CXs Γ cls np ss' fr B2):CX Γ cls np (.If e ss ss' pos) fr (xIf c B1 B2):=fun E=>let ⟨_,a1,a2⟩:=h;let ⟨_,b1,b2⟩:=h1 E;let ⟨_,d1,d2⟩:=h2 E;⟨_,fun X c r=>VQ (a1 X c) (b1 X c r) (d1 X c r),jd a2 b2 d2⟩
def YU{di:DI}{dg:DG}(h:CI2 Γ tg it di)(hg:CG Γ tg dg)(h1:CXs Γ cls np ss fr B1)(hs:M3 it:=by walk_at "q"):CX Γ cls np (.For tg it ss [] pos) fr (P4 di dg B1):=fun E=>let ⟨_,a1,a2⟩:=h;let ⟨_,g1,g2⟩:=hg;let ⟨_,b1,b2⟩:=h1 E;⟨_,fun X c r=>RM c.po c.ca (a1 X c) (g1 X c) (b1 X c r) (hs _),Zu a2 g2 b2⟩
abbrev clQ(Γ:Ct)(cls:Nat->Addr)(n:Nat)(x:Str):Prop:=Γ.mg x=some (.ref (cls n))/\PySem.W.excIn Γ.K (cls n) [.type "ValueError",.type "Exception",.type "BaseException",.type "object"] "ValueError.__new__"=true
def WV{n:Nat}{m:Str}{j'}(h:clQ Γ cls n x:=by assumption)(hg:glQ Γ x:=by walk_at "dk"):CX Γ cls np (.Raise (some (.Call (.Name x p) [.Constant (.str m) j' p1] [] p2)) none pos) fr (CC n):=fun E =>
 ⟨RC (cls n) E (Bs (tC (.str m)) Em),fun X c r=>VO (AR EW Az) (r.ra _) (c.g x hg.1) (by rw[c.m];exact h.1) (by rw[show X.K=Γ.K.fr from c.kw▸rfl];exact h.2) PySem.F.excBase_ValueError c.rm.hd rfl hg.2 rfl,W0 fun _ h=>h⟩
abbrev xQ(Γ:Ct)(cls:Nat->Addr)(k:Nat)(x:Str)(ps:List Str)(G:List PyData->Option (PyData ⊕ Nat))(fc:Bool):Prop:=∃f fd,FnOk Γ.P Γ.K.w Γ.K Γ.mg Γ.base (CXr Γ.P Γ.K.w) k f fd ps (spO Γ.K G cls fc)/\Γ.mg x=some (.ref f)/\PySem.W.keepIn Γ.K (.ref f)=true/\Binds Γ.K fd ps []
def JR{ps:List Str}{G:List PyData->Option (PyData ⊕ Nat)}{t:TA}{E:XK}(C:xQ Γ cls k x ps G fc)(hk:k<=Γ.k)(hg:glQ Γ x)(h:∀X,At Γ X->PA X (e::es) t)(hs:C3 e es)(hp:Et es pos):∀X,At Γ X->AtR Γ E X->PE X (.Call (.Name x p) (e::es) [] pos) (En (spO Γ.K G cls fc) [] E t):=fun X c r=>by
 obtain⟨f,fd,F,m,kp,b⟩:=C
 have e1:X.w=Γ.K.w:=c.kw▸rfl
 have e2:X.K=Γ.K.fr:=c.kw▸rfl
 rw[<- c.p,<- c.m,<- c.bs,<- e1,<- e2]at F
 rw[<- c.m]at m;rw[<- e2]at kp b
 have hp':=r.pa
 rw[<- c.p,<- e1]at hp'
 exact Sg (F.mono hk) c.rm (c.g x hg.1) m kp b .nil hp' (h X c) hg.2 (hs _) (hp _)
section
variable {ps:List Str} {G:List PyData->Option (PyData ⊕ Nat)}
def YV(ha:CA Γ (e::es) g)(C:xQ Γ cls k x ps G fc:=by assumption)(hk:k<=Γ.k:=by walk_at "dk")(hg:glQ Γ x:=by walk_at "dk")(hs:C3 e es:=by walk_at "q")(hp:Et es p2:=by walk_at "q"):CX Γ cls np (.Expr (.Call (.Name x p) (e::es) [] p2) pos) fr (Fb G g):=fun E=>let ⟨_,a1,a2⟩:=ha;⟨_,fun X c r=>Ir (JR C hk hg a1 hs hp X c r) rfl,Zv a2⟩
def Hv(G:List PyData->Option (PyData ⊕ Nat))(a:DA)(τ:DS):Option FG:=(a τ).bind fun p=>(A1 p.1).bind fun ds=>(G ds).map fun r=>match r with
 |.inl d=>.inl (.rt d p.2)
 |.inr n=>.inr n
def Zt{K:KW}{E:XK}{t:TA}{a:DA}(ha:A K t a)(hf:fr=true->fc=true):BX K np (fun n H=>E (.ref (cls n)) none H) (TY (En (spO K G cls fc) [] E t)) fr (Hv G a):=by
 intro F S M τ σ H D out hnp hM f ee q
 unfold Hv at ee
 obtain⟨⟨x,t4⟩,e1,ee⟩:=oB ee
 obtain⟨ds,e2,ee⟩:=oB ee
 obtain⟨r,e3,ee⟩:=oM ee
 refine ha.run S M τ σ H _ x _ f.r e1 fun vs H1 r1 c1 i1=>?_
 have l:=CJ i1 e2
 have f1:=f.step r1 c1 (ha.like _ _ _ e1)
 show spO K G cls fc (vs++[]) H1 _ E
 rw[ku]
 refine⟨S,ds,r,l,r1.ex,e3,?_⟩
 cases r with
 |inr n=>cases ee;exact fun H' s=>q H' fun b o e=>s b o (f1.sm hM b o e)
 |inl d =>
  cases ee
  exact fun v H' s iv=>q S M σ H' v (f1.step (r1.same s) (.of s) .refl) ((f1.res iv).imp (fun a z w=>by obtain⟨o,e⟩:=f.fs a w;rw[z]at e;cases e) fr hf)
def bp(ha:CA Γ (e::es) g)(C:xQ Γ cls k x ps G fc:=by assumption)(hf:fr=true->fc=true:=by decide)(hk:k<=Γ.k:=by walk_at "dk")(hg:glQ Γ x:=by walk_at "dk")(hs:C3 e es:=by walk_at "q")(hp:Et es p2:=by walk_at "q"):CX Γ cls np (.Return (some (.Call (.Name x p) (e::es) [] p2)) pos) fr (Hv G g):=fun E=>let ⟨_,a1,a2⟩:=ha;⟨_,fun X c r=>ID (JR C hk hg a1 hs hp X c r),Zt a2 hf⟩
def Jv(i:Nat)(G:List PyData->Option (PyData ⊕ Nat))(a:DA)(τ:DS):Option FG:=(a τ).bind fun p=>(A1 p.1).bind fun ds=>(G ds).bind fun r=>match r with
 |.inl d=>(dN i d p.2).map fun t5=>.inl (.nx t5)
 |.inr n=>some (.inr n)
def Zw{K:KW}{E:XK}{t:TA}{a:DA}(ha:A K t a):BX K np (fun n H=>E (.ref (cls n)) none H) (JU (En (spO K G cls fc) [] E t) (FO i)) fr (Jv i G a):=by
 intro F S M τ σ H D out hnp hM f ee q
 unfold Jv at ee
 obtain⟨⟨x,t4⟩,e1,ee⟩:=oB ee
 obtain⟨ds,e2,ee⟩:=oB ee
 obtain⟨r,e3,ee⟩:=oB ee
 refine ha.run S M τ σ H _ x _ f.r e1 fun vs H1 r1 c1 i1=>?_
 have l:=CJ i1 e2
 have f1:=f.step r1 c1 (ha.like _ _ _ e1)
 show spO K G cls fc (vs++[]) H1 _ E
 rw[ku]
 refine⟨S,ds,r,l,r1.ex,e3,?_⟩
 cases r with
 |inr n=>cases ee;exact fun H' s=>q H' fun b o e=>s b o (f1.sm hM b o e)
 |inl d =>
  obtain⟨t7,e4,ee⟩:=oM ee
  cases ee
  intro v H' s iv
  have f2:=f1.step (r1.same s) (.of s) .refl
  refine(E2 (K:=K)).run S M t4 σ H' v d t7 _ f2.r (r1.isr iv) e4 fun σ3 r3 k3=>?_
  exact q S M σ3 H' (f2.stay r3 ((E2 (K:=K)).ms _ _ _ e4) k3) ((c1.trans (.of s)).keep f.r.sub)
def bq(ha:CA Γ (e::es) g)(C:xQ Γ cls k x ps G fc:=by assumption)(v:stQ Γ i y:=by walk_at "dk")(hk:k<=Γ.k:=by walk_at "dk")(hg:glQ Γ x:=by walk_at "dk")(hs:C3 e es:=by walk_at "q")(hp:Et es p2:=by walk_at "q"):CX Γ cls np (.Assign [.Name y p1] (.Call (.Name x p) (e::es) [] p2) pos) fr (Jv i G g):=fun E=>by
 obtain⟨_,a1,a2⟩:=ha
 refine⟨_,fun X c r=>?_,Zw (fc:=fc) a2⟩
 have hi:X.N[i]?=some y:=by rw[c.n];exact v.1
 exact IC c.nd hi (c.l i y v.2 hi).1 (JR C hk hg a1 hs hp X c r) rfl (c.l i y v.2 hi).2
end
end
def Hd{P:Program}{w:World}{K:PySem.W.Frag}{mg:Str->Option Value}{base:Heap}{x:Str}{st:Stmt}{f:Addr}{fd:FuncData}{ps:List Str}{k np nl:Nat}{b:DBX}{cls:Nat->Addr}(N:List Str)(F:Fun K x x st f fd)(hb:CXs ⟨P,⟨K,w⟩,mg,base,k,N.length,true,N,AV st⟩ cls np (Bk st) false b)(hs:scB N ps (AV st)=true:=by walk_at "dk")(hn:N.length=np+nl/\ps.length=np:=by walk_at "dk"):FnOk P w K mg base (CXr P w) (k+1) f fd ps (spO ⟨K,w⟩ (C7 np nl b) cls false):=by
 obtain⟨S,l⟩:=RG hs
 refine F.okX S (SM hn.2) fun cdv A outer s H vs Q E hr h=>?_
 obtain⟨t,h1,h2⟩:=hb E
 refine⟨t,h1 _ ⟨rfl,rfl,rfl,rfl,rfl,S.nd,hr,rfl,PassesOwn.leaving,fun x hx=>viL (l x hx),fun i x _ e=>⟨l x (ka e),.inl rfl⟩,fun _ h=>h,fun _ h=>h,fun _=>?_,fun _ h=>h⟩ ⟨fun C=>KY,Le⟩,YI h2 hn.1 h⟩
 show Env.blockKind (envOfC x (AV st) s.heap.objs.size f cdv)=_;unfold Env.blockKind;rw[show(envOfC x (AV st) s.heap.objs.size f cdv).scope.kind = .function from S.kind];rfl
end DL
end
section
namespace L2
open PySem PySem.Spec PyProof.Rows
def DE(K:PySem.W.Frag)(x:Str)(st:Stmt):Prop:=∃f fd,DF K x st f fd
abbrev bnQ(x:Str)(st:Stmt)(ps:List Str):Prop:=∀(kV doc pm:Value) (an:Option Addr) (cdv ct:Value) (us:List Value),us.length=ps.length->bindArgs (PySem.W.fnOf x x (EL st) (Bk st) (AV st) .none kV doc pm an cdv ct) ⟨us,[]⟩=pure (ps.zip us)
section
variable {P:Program} {w:World} {K:PySem.W.Frag} {x:Str} {st:Stmt} {h base:Heap} {mg:Str->Option Value} {k:Nat} {ps:List Str} {sp:Sp}
def DE.cal(d:DE K x st)(X:K.In h)(G:h.Ns mainGlobals mg)(o:∀f fd,Fun K x x st f fd->FnOk P w K mg base CX0 k f fd ps sp)(b:bnQ x st ps:=by trivial):Cal P w K mg base k x ps sp:=let ⟨_,_,d⟩:=d;d.cal X G (o _ _ d.2) b
def DE.xc(d:DE K x st)(X:K.In h)(G:h.Ns mainGlobals mg)(o:∀f fd,Fun K x x st f fd->FnOk P w K mg base (CXr P w) k f fd ps sp)(b:bnQ x st ps:=by trivial):∃f fd,FnOk P w K mg base (CXr P w) k f fd ps sp/\mg x=some (.ref f)/\PySem.W.keepIn K (.ref f)=true/\Binds K fd ps []:=let ⟨_,_,d⟩:=d;⟨_,_,o _ _ d.2,d.m X G,d.2.kp,d.b b⟩
def DE.law{fa:Addr}{y:Str}(d:DE K x st)(X:K.In h)(G:h.Ns mainGlobals mg)(hf:mg x=some (.ref fa))(o:∀base f fd,Fun K x x st f fd->FnOk P w K mg base CX0 k f fd [y] sp)(b:∀(kV doc pm:Value) (an:Option Addr) (cdv ct v:Value),bindArgs (PySem.W.fnOf x x (EL st) (Bk st) (AV st) .none kV doc pm an cdv ct) ⟨[v],[]⟩=pure [(y,v)]:=by intros;rfl) :
  ∃fd:FuncData,(∀(s:Shared) (v:Value),BindsTo s fd ⟨[v],[]⟩ [(y,v)])/\∀base:Heap,K.In base->base.Ns mainGlobals mg->FnOk P w K mg base CX0 k fa fd [y] sp:=by
 obtain⟨f,fd,d⟩:=d
 have e:=hf.symm.trans (d.m X G)
 cases e
 obtain⟨_,⟨⟨oc,od,kV,doc,pm,an,cdv,ct,osl,rfl,lk,hcd⟩,kp⟩⟩:=id d
 exact⟨_,fun s v=>.of_eq (b _ _ _ _ _ _ _),fun base _ _=>o base _ _ d.2⟩
end
end L2
namespace DL
open PySem L2 PySem.Spec PyProof.Rows
structure Zz where
 P:Program
 w:World
 K:PySem.W.Frag
 mg:Str->Option Value
 base:Heap
abbrev Zz.kw(Z:Zz):KW:=⟨Z.K,Z.w⟩
abbrev Clz(Z:Zz)(k:Nat)(x:Str)(ps:List Str)(m:Mir)(fr:Bool):Prop:=Cal Z.P Z.w Z.K Z.mg Z.base k x ps (spD Z.kw m fr)
abbrev kU(Z:Zz)(k:Nat)(x:Str)(ps:List Str)(m:Mir):Prop:=Cal Z.P Z.w Z.K Z.mg Z.base k x ps (spG Z.kw m)
abbrev Xl(Z:Zz)(cls:Nat->Addr)(k:Nat)(x:Str)(ps:List Str)(m:List PyData->Option (PyData ⊕ Nat))(fr:Bool):Prop:=∃f fd,FnOk Z.P Z.w Z.K Z.mg Z.base (CXr Z.P Z.w) k f fd ps (spO Z.kw m cls fr)/\Z.mg x=some (.ref f)/\PySem.W.keepIn Z.K (.ref f)=true/\Binds Z.K fd ps []
abbrev zQ(Z:Zz)(x:Str):Prop:=Z.mg x=none
abbrev kiZ(Z:Zz)(x:Str)(i:Int)(t:Tok):Prop:=Z.mg x=some (.int i t)
abbrev kaZ(Z:Zz)(x:Str)(d:PyData)(u:Value):Prop:=Z.mg x=some u/\BK Z.kw d u=true
abbrev kdZ(Z:Zz)(x:Str)(tb:List (Str×PyData)):Prop:=∃ad,Z.mg x=some (.ref ad)/\KD Z.kw Z.w ad tb/\(ad==sysModules)=false
abbrev kfZ(Z:Zz)(k:Nat)(x:Str)(tm:List (Str×Mir)):Prop:=∃ad tb,Z.mg x=some (.ref ad)/\KF Z.kw Z.w ad tb/\(ad==sysModules)=false/\TMs (fB Z.P Z.w Z.K Z.mg Z.base k) tb tm
abbrev clZ(Z:Zz)(cls:Nat->Addr)(n:Nat)(x:Str):Prop:=Z.mg x=some (.ref (cls n))/\PySem.W.excIn Z.K (cls n) [.type "ValueError",.type "Exception",.type "BaseException",.type "object"] "ValueError.__new__"=true
def Dd(Z:Zz)(x:Str)(st:Stmt):Prop:=∃h,Z.K.In h/\h.Ns mainGlobals Z.mg/\DE Z.K x st
section
variable {Z:Zz} {x:Str} {st:Stmt} {k:Nat} {ps:List Str}
def Dd.cal{sp:Sp}(d:Dd Z x st)(o:∀f fd,Fun Z.K x x st f fd->FnOk Z.P Z.w Z.K Z.mg Z.base CX0 k f fd ps sp)(b:bnQ x st ps:=by trivial):Cal Z.P Z.w Z.K Z.mg Z.base k x ps sp:=let ⟨_,X,G,d⟩:=d;d.cal X G o b
def Dd.xc{cls:Nat->Addr}{m:List PyData->Option (PyData ⊕ Nat)}{fr:Bool}(d:Dd Z x st)(o:∀f fd,Fun Z.K x x st f fd->FnOk Z.P Z.w Z.K Z.mg Z.base (CXr Z.P Z.w) k f fd ps (spO Z.kw m cls fr))(b:bnQ x st ps:=by trivial):Xl Z cls k x ps m fr:=let ⟨_,X,G,d⟩:=d;d.xc X G o b
end
end DL
end
section
namespace L2
open PySem PySem.Spec PyProof.Rows PySem.W DL
section
variable {X:Cx} {k:Nat} {f:Addr} {fd:FuncData} {ps:List Str} {x n cn:Str} {e:Expr} {es:List Expr} {t:TA} {pos p p1 p2 py np hp p9 p0:Pos} {D' C:Addr} {i j:Nat} {b₀:Stmt} {suite:List Stmt}
def SI(sp:Sp)(w:Str)(ta:TA)(C:Addr)(i:Nat)(ts:Addr->Obj->TS):TS:=fun D σ H=>ta σ H fun vs H1=>sp vs H1 (fun v H2=>∀a,H2 a=none->D.rt (.ref a) (upd H2 a (.tup [.str w,v]))) (fun c _ H2=>c = .ref C/\∀ea oe,H2 ea=none->oe.cls = .ref C->oe.dict=none->PySem.W.notCls oe=true->NoCtx oe ->
 ts ea oe { nx:=fun _ _=>False,rt:=D.rt } (σ.set i (some (.ref ea))) (upd H2 ea (.frz oe (.own ea))))
def Te{sp:Sp}{ts:Addr->Obj->TS}{w:Str}{k0 k9}(F:FnOk X.prog X.w X.K X.mg X.base (CXr X.prog X.w) k f fd ps sp)(hr:Room k X.A)(hg:Gl X x)(hm:X.mg x=some (.ref f))(hk:PySem.W.keepIn X.K (.ref f)=true)
  (hb:Binds X.K fd ps []) (ha:PA X.nox (e::es) t) (hst:X.stack=X.env::X.outer/\X.env.frame=some X.env.locals) (hxe:X.ex=[]) (hgD:Gl X cn) (hmD:X.mg cn=some (.ref D')) (hC:Oc X.K C D')
  (hN:X.N.Nodup) (hi:X.N[i]?=some n) (hl:X.env.scope.names.lookup n=some .local)
  (hsu:∀ea oe,oe.cls = .ref C->oe.dict=none->PySem.W.notCls oe=true->NoCtx oe->PSs (X.withinH ea) (b₀::suite) (ts ea oe))
  (hdb:(x==("__debug__":Str))=false:=by decide) (hdc:(cn==("__debug__":Str))=false:=by decide) (he:starEach (e::es) X.env=(false,eval e X.env)::starEach es X.env:=by rfl) (hpl:(backTo pos (starEach es X.env)).any (·.1)=false:=by rfl) :
  PS X (.Try [.Return (some (.Tuple [.Constant (.str w) k0 p0,.Call (.Name x p) (e::es) [] pos] k9 p9)) p1] [.ExceptHandler (some (.Name cn np)) (some n) (b₀::suite) hp] [] [] p2) (SI sp w t C i ts):=by
 intro pins s0 σ H D I0 h
 refine wpAny_Try_except (wpAny_execs_cons (wpAny_Return_some (wpAny_Tuple_spliced ?_)))
 show wpAny _ _ (spliced ((false,eval (.Constant (.str w) k0 p0) X.env)::backTo p9 (starEach [.Call (.Name x p) (e::es) [] pos] X.env))) _ _ s0
 refine nB (Calls.Constant_str ?_)
 show wpAny _ _ (spliced ((false,eval (.Call (.Name x p) (e::es) [] pos) X.env)::[])) _ _ _
 refine nB ?_
 have I:=I0.tok (s0.toks+1)
 refine wpAny_Call_Name_kw (GG I hg hm ?_ hdb)
 refine mM (h₀:=X.base) I.ok.mod.kin hk (wpAny_mono (ha pos pins _ σ H _ (I.wish _) h) (fun us s1 ⟨vs,H1,I1,r,q⟩=>⟨I1.kIn,?_⟩) fun _ _ z=>False.elim z) he hpl
 have J:Inv X pins σ H1 s1:=I1.unwish
 have hlen:us.length=ps.length:=by rw[<- r.length];exact F.len _ _ _ _ q
 refine wpAny_call (codeAny_mono (F.run X.A X.stack s1 H1 ⟨us,[]⟩ us vs _ _ hr J.env0 (by have:=hb s1 us J.kIn (by simpa using hlen);simpa using this) r q) fun rr s3 hq=>?_)
 cases rr with
 |ok fl =>
  cases fl with
  |ret u =>
   obtain⟨v,H2,I2,rv,q2⟩:=J.after hq
   refine Calls.spliced_nil ⟨(by decide:2<=sizeLine),?_⟩
   have hf:H2 s3.heap.objs.size=none:=I2.hok.fresh (X' _)
   exact⟨.ref s3.heap.objs.size,σ,upd H2 s3.heap.objs.size (.tup [.str w,v]),I2.laid (t':=s3.toks) (fun b u e=>U' _ e) (X' _) ⟨(by decide:2<=sizeLine),[_,u],.cons ⟨_,rfl⟩ (.cons rv .nil),⟨_,kb _ rfl,rfl,_,rfl⟩⟩,rfl,q2 _ hf⟩
  |next=>exact False.elim hq
  |brk=>exact False.elim hq
  |cont=>exact False.elim hq
 |error ee =>
  obtain⟨ea,C',H2,rfl,h1,h2,h3,h4,h5,h6,hc,hts⟩:=hq
  cases hc
  have g:Got1 X pins σ H1 H2 s1 ea C .none s3:=⟨h1,h2,h3,h4,h5,h6⟩
  refine g.lands J hst J.ok.frames fun s4 g4=>?_
  obtain⟨oe,hpin,hcls,hdict,hnc⟩:=g4.pin J
  have W4:=(g4.inv J).within hpin
  refine wpAny_handleBy_cons (codeAny_handlers_test ?_) (by intro q;cases q)
  refine GG (X:=X.within ea oe) W4 hgD hmD ?_ hdc
  refine UH W4.kIn hpin.1 hcls hC.ty hC.cl hC.sub hC.exc ?_
  simp only[if_true]
  refine codeAny_handlers_suite_as (g4.again J fun s5 g5=>?_)
  obtain⟨oe5,hpin5,hcls5,hdict5,hnc5,hno5⟩:=g5.pin2 J
  have W5 : Inv (X.withinH ea) pins σ (upd H2 ea (.frz oe5 (.own ea))) s5 := (g5.inv J).frzE hpin5.1 hpin5.2.1 hpin5.2.2.1 hpin5.2.2.2.2 (fun p hp z => by
   have:=(J.pin p hp).1
   rw[z,g5.new.1]at this;cases this) (by
   cases q0:X.s₀.heap.get? ea with
   |none=>rfl
   |some o =>
    obtain⟨o',r0⟩:=J.base.there ea o q0 (by rw[hxe];intro z;cases z)
    rw[g5.new.1]at r0;cases r0)
  refine Fi (X:=X.withinH ea) (v:=.ref ea) W5 hN hi (.inl hl) rfl (fun s6 I6=>?_) (.inr hl)
  refine wpAny_mono (hsu ea oe5 hcls5 hdict5 hnc5 hno5 pins s6 (σ.set i (some (.ref ea))) _ _ I6 (hts ea oe5 hpin5.2.1 hcls5 hdict5 hnc5 hno5)) (fun fl s7 q=>?_) fun _ _ z=>False.elim z
  cases fl with
  |next=>obtain⟨_,_,_,z⟩:=q;exact z.elim
  |brk=>obtain⟨_,_,_,z⟩:=q;exact z.elim
  |cont=>obtain⟨_,_,_,z⟩:=q;exact z.elim
  |ret u =>
   obtain⟨v,σ',H',I7,rv,z⟩:=q
   have J7:=I7.withoutH J.ok
   obtain⟨m,hm7,_⟩:=id J7.loc
   refine wpAny_nameGoes hl hm7 (by rw[J.ok.kind];rfl) fun h' m' hn' hs'=>?_
   exact⟨v,_,H',J7.gone hn' hs',rv,z⟩
end
end L2
namespace DL
open PySem L2
def WJ:PyData->PyData->Option PyData
 |.bool b,.bool c=>some (.bool (!(b==c)))
 |_,_=>none
def aw{K:KW}:OR K false (fun x y H Q=>∃b c,x = .bl b/\y = .bl c/\Q (.bl (!(b==c))) H) WJ:=by
 intro S H x y dx dy d Q _ ix iy e q
 unfold WJ at e
 split at e
 ·cases e;exact⟨_,_,ix,iy,q _ H (fun _ _ e=>e) rfl⟩
 ·cases e
def Yq{Γ:Ct}:CO Γ (compareOp .IsNot) false WJ:=⟨_,_,fun _ _=>Xj,aw,id⟩
end DL
end
section
namespace DL
open PySem L2 PySem.Spec PyProof.Rows
def Mi(G:List PyData->Option (PyData ⊕ Nat))(ds:List PyData):Option (PyData ⊕ Nat):=match G ds with
 |some (.inl .none)=>none
 |r=>r
def NG{G:List PyData->Option (PyData ⊕ Nat)}{ds:List PyData}{r:PyData ⊕ Nat}(h:Mi G ds=some r):G ds=some r/\r≠.inl .none:=by
 unfold Mi at h
 split at h
 ·cases h
 ·rename_i hn;exact⟨h,fun z=>hn (by rw[h,z])⟩
def ON{G:List PyData->Option (PyData ⊕ Nat)}{ds:List PyData}{r:PyData ⊕ Nat}(h:G ds=some r)(hn:r≠.inl .none):Mi G ds=some r:=by
 unfold Mi
 rw[h]
 split
 ·rename_i e;exact absurd (J' e) hn
 ·rfl
def YJ{K:KW}{np nl:Nat}{t:TS}{f:DBX}{N:List Str}{cls:Nat->Addr}{vs:List V}{H:Hp}{Q:VK}{E:XK}(hb:BX K np (fun n H=>E (.ref (cls n)) none H) t true f)(hN:N.length=np+nl)(h:spO K (Mi (C7 np nl f)) cls true vs H Q E):t { nx:=fun _ H'=>Q .non H',rt:=Q } (start N vs) H:=by
 obtain⟨S,ds,r,l,hS,e,q⟩:=h
 obtain⟨e,hr⟩:=NG e
 unfold C7 at e
 split at e
 ·rename_i h1
  obtain⟨o,e1,e⟩:=oB e
  have est:start N vs=vs.map some++List.replicate nl none:=by
   unfold L2.start
   rw[hN,l.length,h1,mR]
  rw[est]
  have r0:R K S (fun _=>False) ((ds.map L.d).map some++List.replicate nl none) (vs.map some++List.replicate nl none) H:=by
   refine Wv (by simp[l.length]) (fun i l' h=>?_) hS
   by_cases hi:i<ds.length
   ·rw[ke (by simpa using hi),O',O',km hi]at h
    cases h
    obtain⟨v,h2,h3⟩:=l.get (km hi)
    refine⟨_,v,rfl,?_,h3⟩
    rw[ke (by rw[B',l.length];exact hi),O',h2];rfl
   ·rw[kx (by simpa using hi),lG]at h
    split at h<;>cases h
  have f0:RF K ⟨S,fun _=>False,H,[]⟩ S (fun _=>False) ((ds.map L.d).map some++List.replicate nl none) (vs.map some++List.replicate nl none) H :=
   ⟨r0,fun _ h=>h,fun _ _ h _=>h,fun _ h=>h.elim,fun _ h=>h.elim,hS,fun _ h=>h.elim,fun _ h=>.inl h,fun _ _ h=>(by simp at h),fun _ _ h=>(by simp at h),fun _ h=>h.elim⟩
  refine hb _ S _ _ _ H _ o (lW _) (fun _ h=>h) f0 e1 ?_
  cases o with
  |inr n=>cases e;exact q
  |inl o =>
   cases o with
   |nx t5=>cases e;exact absurd rfl hr
   |bk t5=>cases e
   |ct t5=>cases e
   |rt d t5=>cases e;exact fun S' M' σ' H' v f' r'=>q v H' (f'.sm fun _ h=>h) r'
 ·cases e
def XE{K:KW}{np nl:Nat}{f:DBX}{cls:Nat->Addr}{ps:List Str}{fr:Bool}(hn:ps.length=np)(vs:List V)(H:Hp)(Q:VK)(E:XK)(h:spO K (Mi (C7 np nl f)) cls fr vs H Q E):vs.length=ps.length:=by
 obtain⟨S,ds,r,l,hS,e,q⟩:=h
 exact SM hn vs H Q E ⟨S,ds,r,l,hS,(NG e).1,q⟩
def Nl{P:Program}{w:World}{K:PySem.W.Frag}{mg:Str->Option Value}{base:Heap}{x:Str}{st:Stmt}{f:Addr}{fd:FuncData}{ps:List Str}{k np nl:Nat}{b:DBX}{cls:Nat->Addr}(N:List Str)(F:Fun K x x st f fd)(hb:CXs ⟨P,⟨K,w⟩,mg,base,k,N.length,true,N,AV st⟩ cls np (Bk st) true b)(hs:scB N ps (AV st)=true:=by walk_at "dk")(hn:N.length=np+nl/\ps.length=np:=by walk_at "dk"):FnOk P w K mg base (CXr P w) (k+1) f fd ps (spO ⟨K,w⟩ (Mi (C7 np nl b)) cls true):=by
 obtain⟨S,l⟩:=RG hs
 refine F.okX S (XE hn.2) fun cdv A outer s H vs Q E hr h=>?_
 obtain⟨t,h1,h2⟩:=hb E
 refine⟨t,h1 _ ⟨rfl,rfl,rfl,rfl,rfl,S.nd,hr,rfl,PassesOwn.leaving,fun x hx=>viL (l x hx),fun i x _ e=>⟨l x (ka e),.inl rfl⟩,fun _ h=>h,fun _ h=>h,fun _=>?_,fun _ h=>h⟩ ⟨fun C=>KY,Le⟩,YJ h2 hn.1 h⟩
 show Env.blockKind (envOfC x (AV st) s.heap.objs.size f cdv)=_;unfold Env.blockKind;rw[show(envOfC x (AV st) s.heap.objs.size f cdv).scope.kind = .function from S.kind];rfl
def WR:List L->Option (List PyData)
 |[]=>some []
 |.d d::ls=>(WR ls).map (d::·)
 |_=>none
def WQ:∀{ls:List L} {ds:List PyData},WR ls=some ds->ls=ds.map .d:=by
 intro ls
 induction ls with
 |nil=>intro ds h;cases h;rfl
 |cons l ls ih =>
  intro ds h
  cases l with
  |d x =>
   obtain⟨r,h1,rfl⟩:=oM h
   rw[ih h1];rfl
  |_=>cases h
def mO(G:List PyData->Option (PyData ⊕ Nat))(ls:List L):Option (PyData×List L):=(WR ls).bind fun ds=>match G ds with
 |some (.inl d)=>some (d,ls)
 |_=>none
def X0{G:List PyData->Option (PyData ⊕ Nat)}{ls ls':List L}{r:PyData}(h:mO G ls=some (r,ls')):∃ds,ls=ds.map .d/\ls'=ls/\G ds=some (.inl r):=by
 unfold mO at h
 obtain⟨ds,h1,h⟩:=oB h
 refine⟨ds,WQ h1,?_⟩
 split at h
 ·rename_i e;cases h;exact⟨rfl,e⟩
 ·cases h
def YS(ds:List PyData):WR (ds.map .d)=some ds:=by
 induction ds with
 |nil=>rfl
 |cons d ds ih=>rw[kg,WR,ih];rfl
def ZY{G:List PyData->Option (PyData ⊕ Nat)}{ds:List PyData}{r:PyData}(h:G ds=some (.inl r)):mO G (ds.map .d)=some (r,ds.map .d):=by
 unfold mO
 rw[YS,k6,h]
def bM{K:KW}{S M:Addr->Prop}{H:Hp}{ds:List PyData}{vs:List V}(h:R K S M ((ds.map L.d).map some) (vs.map some) H):IsL K (hid S H) ds vs:=by
 have hl:vs.length=ds.length:=by have:=h.len;rw[B',B',B']at this;exact this
 have hd:∀i (d:PyData),ds[i]?=some d->∃v,vs[i]?=some v/\Is K (hid S H) d v:=fun i d e=>by
  obtain⟨v,h1,h2⟩:=h.dat i d (by rw[O',O',e];rfl)
  rw[O']at h1
  cases q:vs[i]? with
  |none=>rw[q]at h1;cases h1
  |some u=>rw[q]at h1;cases h1;exact⟨_,q,h2⟩
 clear h
 induction ds generalizing vs with
 |nil=>cases vs with
  |nil=>rfl
  |cons _ _=>cases hl
 |cons d ds ih=>cases vs with
  |nil=>cases hl
  |cons v vs =>
   obtain⟨u,h1,h2⟩:=hd 0 d rfl
   cases h1
   exact⟨v,vs,rfl,h2,ih (Nat.succ.inj hl) fun i d e=>hd (i+1) d e⟩
def Vk{P:Program}{w:World}{K:PySem.W.Frag}{mg:Str->Option Value}{base:Heap}{k:Nat}{f:Addr}{fd:FuncData}{ps:List Str}{G:List PyData->Option (PyData ⊕ Nat)}{cls:Nat->Addr}{fr:Bool}(F:FnOk P w K mg base (CXr P w) k f fd ps (spO ⟨K,w⟩ G cls fr)):FnOk P w K mg base CX0 k f fd ps (spD ⟨K,w⟩ (mO G) fr):=by
 have key:∀vs H Q E,spD ⟨K,w⟩ (mO G) fr vs H Q E->spO ⟨K,w⟩ G cls fr vs H Q fun _ _ _=>False:=fun vs H Q E h=>by
  obtain⟨S,M,ls,r,ls',hR,hG,hq⟩:=h
  obtain⟨ds,rfl,rfl,e⟩:=X0 hG
  exact⟨S,ds,_,bM hR,hR.ex,e,fun v H' s i=>hq v H' (hR.same s) (.of s) i⟩
 refine⟨fun vs H Q E h=>F.len _ _ _ _ (key vs H Q E h),fun A outer s H args us vs Q E hr he hb hv h=>?_⟩
 refine codeAny_mono (F.run A outer s H args us vs Q _ hr he hb hv (key vs H Q E h)) fun r s' q=>?_
 cases r with
 |ok fl=>cases fl<;>exact q
 |error e=>obtain⟨_,_,_,_,_,_,_,_,_,_,z⟩:=q;exact z.elim
section
variable {Z:Zz} {cls:Nat->Addr} {k:Nat} {x:Str} {ps:List Str} {m:List PyData->Option (PyData ⊕ Nat)} {fr:Bool}
def Xl.plain(h:Xl Z cls k x ps m fr):Clz Z k x ps (mO m) fr:=let ⟨f,fd,F,a,b,c⟩:=h;⟨f,fd,Vk F,c,b,a⟩
end
section
variable {K:KW} {np:Nat}
def GK(i:Nat)(f:DT)(τ:DS):Option (Bool×DS):=match τ[i]? with
 |some (some (.g (.tuple ds)))=>(f (τ.set i (some (.d (.tuple ds))))).bind fun q=>if q.2.all okM then some (q.1,q.2.set i (some (.g (.tuple ds)))) else none
 |_=>none
def Ke{i:Nat}{f:DT}{τ t5:DS}{d:Bool}(e:GK i f τ=some (d,t5)):∃ds t4,τ[i]?=some (some (.g (.tuple ds)))/\f (τ.set i (some (.d (.tuple ds))))=some (d,t4)/\t4.all okM=true/\t5=t4.set i (some (.g (.tuple ds))):=by
 unfold GK at e
 split at e
 ·rename_i ds hx
  obtain⟨⟨z,t4⟩,e1,e⟩:=oB e
  dsimp only at e
  split at e
  ·rename_i h
   cases e
   exact⟨ds,t4,hx,e1,h,rfl⟩
  ·cases e
 ·cases e
def Z8{i:Nat}{t:TT}{f:DT}(h:T K t f):T K t (GK i f):=by
 refine⟨fun τ d t5 e=>?_,?_⟩
 ·obtain⟨ds,t4,e1,e2,_,rfl⟩:=Ke e
  exact T7 e1 (h.like _ _ _ e2)
 intro S M τ σ H Q d t5 r e q
 obtain⟨ds,t4,e1,e2,ok,rfl⟩:=Ke e
 obtain⟨v,F,hv,hd,hn,hM,ho,rz⟩:=YH r e1
 refine h.run _ _ _ σ H _ d t4 rz e2 fun H' r' c=>?_
 obtain⟨r2,ts⟩:=NN r e1 hv hd hn hM ho r' (h.like _ _ _ e2) c ok
 exact q H' r2 (fun b o hb z=>c b o (fun w=>hb w.1) z)
def OM(i:Nat)(g:DP)(a:DA)(go:List PyData->List PyData->Option (List PyData))(τ:DS):Option Out:=match τ[i]? with
 |some (some (.g (.tuple ds)))=>(bo i g a go (.tuple ds) [] (.tuple ds) τ).map .nx
 |_=>none
def Zn{fr:Bool}{i:Nat}{t:TE}{ta:TA}{g:DP}{a:DA}{op:V->List V->Hp->VK->Prop}{go:List PyData->List PyData->Option (List PyData)}(hp:PT K i t g)(ha:A K ta a)(ho:OpP K op go):B K np (LF (tBM K "list" op t ta)) fr (OM i g a go):=by
 intro F S M τ σ H D out hnp f ee q
 unfold OM at ee
 split at ee
 ·rename_i ds hi
  obtain⟨t5,e1,ee⟩:=oM ee
  subst ee
  obtain⟨φ0,g0⟩:=f.r.gr
  obtain⟨⟨v,hv,h0⟩,_⟩:=g0 i _ hi
  exact aq f hi (by intro _ z;cases z) (a0:=v) hv rfl (fun v' X hv' hd hn=>by rw[hv]at hv';cases hv';exact .nil hd hn) hp ha ho e1 fun H' f' k' _=>q S M σ H' f' k'
 ·cases ee
def eR{fr:Bool}{i:Nat}{t:TE}{g:DP}{op:V->List V->Hp->VK->Prop}{go:List PyData->List PyData->Option (List PyData)}(hp:PT K i t g)(ho:OpP K op go):B K np (LF (aA K "list" op t)) fr (OM i g AF go):=Zn (ta:=Em) hp TR ho
def Hi(i:Nat)(G:List PyData->Option (PyData ⊕ Nat))(a:DA)(τ:DS):Option FG:=match τ[i]? with
 |some (some (.g (.list xs)))=>(a (τ.set i (some (.d (.list xs))))).bind fun p=>(A1 p.1).bind fun ds=>if p.2.all okM=true then (G ds).map fun r=>match r with
  |.inl _=>.inl (.nx (p.2.set i (some (.g (.list xs)))))
  |.inr n=>.inr n
  else none
 |_=>none
def W2{G:List PyData->Option (PyData ⊕ Nat)}{cls:Nat->Addr}{fc fr:Bool}{i:Nat}{E:XK}{t:TA}{a:DA}(ha:A K t a):BX K np (fun n H=>E (.ref (cls n)) none H) (LF (En (spO K G cls fc) [] E t)) fr (Hi i G a):=by
 intro F S M τ σ H D out hnp hM f ee q
 unfold Hi at ee
 split at ee
 ·rename_i xs hi
  obtain⟨⟨x,t4⟩,e1,ee⟩:=oB ee
  obtain⟨ds,e2,ee⟩:=oB ee
  split at ee
  ·rename_i ok
   obtain⟨r,e3,ee⟩:=oM ee
   obtain⟨v,X,hv,hd,hn,hX,ho,rz⟩:=YH f.r hi
   refine ha.run _ _ _ σ H _ x t4 rz e1 fun vs H1 r1 c1 i1=>?_
   have l:=CJ i1 e2
   show spO K G cls fc (vs++[]) H1 _ E
   rw[ku]
   refine⟨_,ds,r,l,r1.ex,e3,?_⟩
   cases r with
   |inr n=>cases ee;exact fun H' s=>q H' fun b o e=>s b o (c1 b o (fun z=>(f.new b z.1).elim (hM b) fun w=>by rw[w]at e;cases e) (f.sm hM b o e))
   |inl d =>
    cases ee
    intro v' H' s _
    have lk:=ha.like _ _ _ e1
    obtain⟨r2,_⟩:=NN f.r hi hv hd hn hX ho (r1.same s) lk (c1.trans (.of s)) ok
    have c4:Chg M H H':=fun b o h z=>s b o (c1 b o (fun w=>h w.1) z)
    exact q S M σ H' (f.back hi lk r2 c4) (c4.keep f.r.sub)
  ·cases ee
 ·cases ee
end
section
variable {Γ:Ct} {np:Nat} {fr:Bool} {f:DX} {c:DT} {g:DA} {a b e:Expr} {es:List Expr} {pos p p1 p2 p3:Pos} {i k:Nat} {x y m:Str}
def YY(h:CT Γ a c):CT Γ a (GK i c):=let ⟨_,a1,a2⟩:=h;⟨_,a1,Z8 a2⟩
def COp(Γ:Ct)(x:Str)(go:List PyData->List PyData->Option (List PyData)):Prop:=∃id r,Slot "list" x id/\typeOf (.builtin id)=pure (.type "method_descriptor")/\(∀X,At Γ X->MtR X id r)/\OpP Γ.K r go
def Yo:COp Γ "append" Rb:=⟨_,_,PySem.F.slot_list_append,PySem.F.type_list_append,fun _ _=>JZ,ak⟩
def Yn:COp Γ "reverse" Vq:=⟨_,_,PySem.F.slot_list_reverse,PySem.F.type_list_reverse,fun _ _=>Rf,aY⟩
variable {go:List PyData->List PyData->Option (List PyData)}
def cJ(hm:COp Γ m go)(hb:CE Γ b false f)(ha:CA Γ (e::es) g)(v:vrQ Γ i x:=by walk_at "dk")(hi:Gf b:=by walk_at "q")(h1:bsQ (.Subscript (.Name x p) b p3) m:=by walk_at "q")(hl:lnQ p1 p2:=by walk_at "q")(hw:fwQ (e::es) p2:=by walk_at "q")(hs:C3 e es:=by walk_at "q")(hp:Et es p2:=by walk_at "q")(hn:nSw (.Call (.Attribute (.Subscript (.Name x p) b p3) m p1) (e::es) [] p2) none pos:=by walk_at "q"):CS Γ np (.Expr (.Call (.Attribute (.Subscript (.Name x p) b p3) m p1) (e::es) [] p2) pos) fr (OM i (dPT dPV f) g go):=by
 obtain⟨id,r,m1,m2,m3,m4⟩:=hm;obtain⟨t,a1,a2⟩:=ha;obtain⟨u,b1,b2⟩:=hb
 exact⟨_,fun X c=>Ir (c.w (p:=fun K=>PE X _ (tBM K "list" r (tOp (NW K) (Dq i) u) t)) (Vd mH m1 m2 (m3 X c) (Iu Lp (c.var v) (b1 X c) hi) (a1 X c) (h1 _) (hw _) hl (hs _) (hp _))) (hn _),Zn (VJ VH b2) a2 m4⟩
def Yh(hm:COp Γ m go)(hb:CE Γ b false f)(v:vrQ Γ i x:=by walk_at "dk")(hi:Gf b:=by walk_at "q")(h1:bsQ (.Subscript (.Name x p) b p3) m:=by walk_at "q")(hl:lnQ p1 p2:=by walk_at "q")(hn:nSw (.Call (.Attribute (.Subscript (.Name x p) b p3) m p1) [] [] p2) none pos:=by walk_at "q"):CS Γ np (.Expr (.Call (.Attribute (.Subscript (.Name x p) b p3) m p1) [] [] p2) pos) fr (OM i (dPT dPV f) AF go):=by
 obtain⟨id,r,m1,m2,m3,m4⟩:=hm;obtain⟨u,b1,b2⟩:=hb
 exact⟨_,fun X c=>Ir (c.w (p:=fun K=>PE X _ (aA K "list" r (tOp (NW K) (Dq i) u))) (aV mH m1 m2 (m3 X c) (Iu Lp (c.var v) (b1 X c) hi) (h1 _) hl)) (hn _),eR (VJ VH b2) m4⟩
def Yb{ps:List Str}{G:Mir}(ha:CA Γ (e::es) g)(C:cQ Γ k x ps (spG Γ.K G):=by assumption)(v:stQ Γ i y:=by walk_at "dk")(hk:k<=Γ.k:=by walk_at "dk")(hg:glQ Γ x:=by walk_at "dk")(hs:C3 e es:=by walk_at "q")(hp:Et es p2:=by walk_at "q")(hn:nSw (.Call (.Name x p) (e::es) [] p2) (some (.Name y p1)) pos:=by walk_at "q"):CS Γ np (.Assign [.Name y p1] (.Call (.Name x p) (e::es) [] p2) pos) fr (F5 np i (AB G g)):=let ⟨_,a1,a2⟩:=ha;⟨_,Jh (OV C hk hg a1 hs hp) v fun _ _=>hn _,Wm (YN a2)⟩
def Yc(h:CE Γ e true f)(v:stQ Γ i x:=by walk_at "dk")(hs:nSw e (some (.Name x p)) pos:=by walk_at "q"):CS Γ np (.Assign [.Name x p] e pos) fr (F5 np i (dFx f)):=let ⟨_,a1,a2⟩:=h;⟨_,Jh a1 v fun _ _=>hs _,eM (gh a2)⟩
def WW{cls:Nat->Addr}{fc:Bool}{ps:List Str}{G:List PyData->Option (PyData ⊕ Nat)}(ha:CA Γ (e::es) g)(C:xQ Γ cls k x ps G fc:=by assumption)(hk:k<=Γ.k:=by walk_at "dk")(hg:glQ Γ x:=by walk_at "dk")(hs:C3 e es:=by walk_at "q")(hp:Et es p2:=by walk_at "q"):CX Γ cls np (.Expr (.Call (.Name x p) (e::es) [] p2) pos) fr (Hi i G g):=fun E=>let ⟨_,a1,a2⟩:=ha;⟨_,fun X c r=>Ir (JR C hk hg a1 hs hp X c r) rfl,W2 a2⟩
end
end DL
end
section
namespace L2
open PySem PySem.Spec PyProof.Rows
section
variable {X:Cx}
end
end L2
namespace DL
open PySem L2 PySem.Spec PyProof.Rows
section
variable {K:KW}
end
section
variable {Γ:Ct} {fr:Bool} {f f':DX} {a b:Expr} {pos p1:Pos} {m:Str} {F:PyData->PyData->Option PyData}
end
end DL
end
set_option maxHeartbeats 2000000
namespace My
open PySem L2 DL
local macro_rules|`(tactic| trivial)=>`(tactic| first|rfl|(intro _;rfl)|exact .inl rfl|exact .inr rfl|with_unfolding_all rfl|decide|assumption|(intro _ _ _ _ _ _ us hl;first|(match us,hl with|[_],_=>rfl)|(match us,hl with|[_,_],_=>rfl)|(match us,hl with|[_,_,_],_=>rfl)|(match us,hl with|[_,_,_,_],_=>rfl)|(match us,hl with|[],_=>rfl)))
local macro_rules|`(tactic| walk_at "dk")=>`(tactic| decide +kernel)
local macro_rules|`(⋯)=>`(by trivial)
local macro_rules|`(∅)=>`(by decide +kernel)
abbrev dbP(x:Str):Prop:=(x==("__debug__":Str))=false
abbrev clP(x:Str):Prop:=(x==("__classdict__":Str))=false
abbrev glP(s:Stmt)(x:Str):Prop:=(AV s).names.lookup x=some NameKind.globalImplicit
abbrev dcP(x:Str):Prop:=dbP x/\clP x
abbrev lcP(s:Stmt)(x:Str):Prop:=L2.Loc (AV s) x
def top(i:Nat):Stmt:=PySem.Challenge.pw_scenemend_k45_deeds_done.main.body.getD i (.Pass ⟨0,0,0,0⟩)
def UK:dcP "Nested":=∅
def Pp:dcP "NoHolder":=∅
def UJ:dcP "NoPart":=∅
def Rq:dcP "TooDeep":=∅
def Rp:dcP "TooMany":=∅
def WO:dcP "Twice":=∅
def FT:dcP "_law_deed_here":=∅
def H0:dcP "_law_names":=∅
def JO:dcP "_law_rows":=∅
def OL:dcP "deed_done":=∅
def A9:dcP "isinstance":=∅
def bj:dcP "len":=∅
def A5:("isinstance":Str)≠"__name__":=∅
def Xv:("len":Str)≠"__name__":=∅
abbrev KQ:Stmt:=top 89
abbrev KN:Stmt:=top 90
abbrev U4:Stmt:=top 97
abbrev SS:Stmt:=top 84
abbrev Ik:Stmt:=top 88
abbrev Im:Stmt:=top 93
abbrev Gu:Stmt:=top 92
abbrev KO:Stmt:=top 91
abbrev KJ:Stmt:=top 94
abbrev KS:Stmt:=top 95
abbrev Mz:Stmt:=top 96
abbrev LZ:Stmt:=top 98
abbrev KU:Stmt:=top 82
abbrev SU:Stmt:=top 83
abbrev Il:Stmt:=top 99
abbrev Ol:Stmt:=top 112
abbrev La:Stmt:=top 103
abbrev Ih:Stmt:=top 37
abbrev Ms:Stmt:=top 38
abbrev LP:Stmt:=top 32
abbrev LO:Stmt:=top 15
abbrev J8:Stmt:=top 33
abbrev Fm:Stmt:=top 16
abbrev LR:Stmt:=top 17
abbrev Ep:Stmt:=top 35
abbrev LW:Stmt:=top 36
abbrev LU:Stmt:=top 41
abbrev Mv:Stmt:=top 42
abbrev Mr:Stmt:=top 13
abbrev Gs:Stmt:=top 39
abbrev Mp:Stmt:=top 43
abbrev Er:Stmt:=top 40
abbrev Ii:Stmt:=top 44
abbrev LY:Stmt:=top 45
abbrev LX:Stmt:=top 46
abbrev LV:Stmt:=top 34
abbrev J9:Stmt:=top 47
abbrev Mq:Stmt:=top 48
abbrev KI:Stmt:=top 49
abbrev Mu:Stmt:=top 51
abbrev LJ:Stmt:=top 21
abbrev Ie:Stmt:=top 22
abbrev J4:Stmt:=top 25
abbrev LK:Stmt:=top 26
abbrev LM:Stmt:=top 27
abbrev SQ:Stmt:=top 23
abbrev SO:Stmt:=top 24
abbrev Oi:Stmt:=top 52
abbrev Oj:Stmt:=top 104
abbrev SR:Stmt:=top 106
abbrev J6:Stmt:=top 56
abbrev Ij:Stmt:=top 58
abbrev LN:Stmt:=top 59
abbrev KP:Stmt:=top 105
abbrev Om:Stmt:=top 107
abbrev Oh:Stmt:=top 57
abbrev Fj:Stmt:=top 29
abbrev Fl:Stmt:=top 28
abbrev Gg:Stmt:=top 30
abbrev Ic:Stmt:=top 72
abbrev J3:Stmt:=top 73
abbrev LL:Stmt:=top 74
abbrev Gq:Stmt:=top 75
abbrev KC:Stmt:=top 31
abbrev LQ:Stmt:=top 60
abbrev Mo:Stmt:=top 61
abbrev ZR:Stmt:=top 62
abbrev LI:Stmt:=top 76
abbrev Ig:Stmt:=top 64
abbrev Gp:Stmt:=top 66
abbrev Jz:Stmt:=top 65
abbrev Hx:Stmt:=top 67
abbrev Gr:Stmt:=top 68
abbrev J0:Stmt:=top 69
abbrev KG:Stmt:=top 77
abbrev Au:Stmt:=top 101
abbrev Bt:Stmt:=top 109
abbrev Hy:Stmt:=top 102
abbrev J5:Stmt:=top 78
abbrev Mt:Stmt:=top 79
abbrev Ib:Stmt:=top 80
abbrev KL:Stmt:=top 110
abbrev Mw:Stmt:=top 111
abbrev KR:Stmt:=top 108
abbrev ZS:Stmt:=top 113
def Fg:List (Str×PyData):=[("0",(.str "tolrks")),("1",(.str "rs")),("2",(.str "tmork")),("3",(.str "tmors")),("4",(.str "mlrs")),("5",(.str "tmols")),("6",(.str "tmolks")),("7",(.str "trs")),("8",(.str "tmolrks")),("9",(.str "tmolrs")),("a",(.str "tmlrks")),("b",(.str "molks")),("c",(.str "tolk")),("d",(.str "morks")),("e",(.str "tmolk")),("f",(.str "tmlk")),("-",(.str "m")),("_",(.str ""))]
abbrev qA:=AA (AJ 1) AF
abbrev qB:=AJ 0
abbrev qC:=AA qB (AA (dOp AN (AJ 1) (dC (.int 1))) AF)
abbrev qD:=dC (.int 0)
abbrev qE:=AJ 1
abbrev qF:=AA qB AF
abbrev qG:=AH (AO (An (AD (dOp fEq (dOp AN qE (dC (.int 5))) (dC (.str "tiles")))) (AD (dOp fNe (dLC 1 [4] (dIL qB) (dN 0) (An (AD (dOp (fIn false) (dOp AN qB qD) qE)) (AD (dOp fEq (dOp AN qB (dC (.int 5))) (dC (.str "tiles"))))) qB) (Cy AF)))) (AM (AY (AA (dC (.str "Nested")) (AA (dC .none) AF)))) AQ) (AH (AO (AD (dOp fGt (Ak Bp (AA (AJ 3) AF)) (dC (.int 24)))) (AM (AY (AA (dC (.str "TooMany")) (AA (dC .none) AF)))) AQ) (AM (AY (AA (dC (.str "")) (AA (AJ 3) AF)))))
abbrev qH:=dC (.int 1)
abbrev qI:=AJ 2
abbrev qJ:=AI (AY (AA (dC (.str "move")) (AA (dC (.str "hide")) (AA (dC (.str "show")) (AA (dC (.str "turn")) (AA (dC (.str "size")) (AA (dC (.str "change")) (AA (dC (.str "put")) (AA (dC (.str "take")) (AA (dC (.str "raise")) (AA (dC (.str "sink")) (AA (dC (.str "move")) (AA (dC (.str "change")) AF))))))))))))) (dN 2)
abbrev qK:=An (AD (dOp (fIn false) (dOp AN qB qD) qE)) (AD (dOp fEq (dOp AN qB (dC (.int 5))) (dC (.str "tiles"))))
abbrev qL:=BQ (AD (dOp fEq (dOp AN qB (dC (.int 5))) qE)) (An (AD (dOp fEq qE (dC (.str "size")))) (AD (dOp (fIn false) (dOp AN qB (dC (.int 5))) (AY (AA (dC (.str "plate")) (AA (dC (.str "window")) AF))))))
abbrev qM:=AI (AY (AA (dOp Ay qH (dOp Af qE (dC (.int 3)))) (AA (dOp Ay qH (dOp Af (dOp A7 qE (dC (.int 3))) (dC (.int 3)))) (AA (dOp BN (dOp Af (dOp A7 qE (dC (.int 9))) (dC (.int 41))) (dC (.int 20))) (AA (dOp BN (dOp Af (dOp A7 qE (dC (.int 369))) (dC (.int 41))) (dC (.int 20))) AF))))) (dN 2)
abbrev qN:=BQ (An (AD (dOp fEq (dOp AN qE qD) (dC (.str "turn")))) (AD (dOp fNe (dOp AN qI (dC (.int 5))) (dC (.str "turn"))))) (An (AD (dOp fEq (dOp AN qE qD) (dC (.str "size")))) (AD (dOp (fIn true) (dOp AN qI (dC (.int 5))) (AY (AA (dC (.str "plate")) (AA (dC (.str "window")) AF))))))
abbrev qO:=AA (dC (.str "take")) (AA (dC (.str "raise")) (AA (dC (.str "sink")) AF))
abbrev qP:=Ba false
abbrev qQ:=AY (AA (dOp BN (dOp Af qE (dC (.int 9))) (dC (.int 4))) (AA (dOp BN (dOp Af qE (dOp Pn (dC (.int 10)) (dC (.int 30)))) (dOp Pn (dC (.int 10)) (dC (.int 29)))) AF))
abbrev qR:=Ak Bp (AA (AJ 4) AF)
abbrev qS:=dOp AN qE qD
abbrev qT:=AJ 3
abbrev qU:=AM (dC (.bool false))
abbrev qV:=dC (.int 2)
abbrev qW:=AO (An (AD (dOp fNe (AJ 8) (Cy AF))) (AD (dOp fGt (dOp Af qE (dC (.int 4))) qD))) (AI (dOp AN (dOp DR (AJ 8) (dOp Af (dOp A7 qE (dC (.int 4))) (Ak Bp (AA (AJ 8) AF)))) qD) (dN 6)) AQ
abbrev qX:=AI (dOp Ay (dOp II (AJ 5) (dC (.int 7919))) (dOp Af (dOp Af (dOp II (AJ 7) (dOp AN qI (dOp Af (AJ 6) (dC (.int 8))))) (dOp AN qT (dOp Af (AJ 6) (dC (.int 8))))) (dC (.int 7919)))) (dN 5)
abbrev qY:=Ag (dN 1) DK
abbrev qZ:=AA qI AF
abbrev qa:=dC (.str "")
abbrev qb:=AA (dC .none) AF
abbrev qc:=dOp AN qB qD
abbrev qd:=An (AD (dOp B9 (AJ 4) (dC .none))) (AD (dOp fEq (dOp AN (AJ 4) (dC (.int 5))) (dC (.str "mask"))))
abbrev qe:=AA qB qA
abbrev qf:=AO (AD (dOp fEq (dOp Af (dOp A7 qB (dC (.int 4))) (dC (.int 16))) qH)) (AI (dOp Ay qH (dOp Af (dOp A7 qB (dC (.int 16))) (dC (.int 1000)))) (dN 1)) AQ
abbrev qg:=AA qT AF
abbrev qh:=AO (An (AD (dOp fLt (AJ 5) (dOp II (dC (.int 6)) qR))) (AD (dOp fGt qR qH))) (AI (dOp DR (AJ 4) (dOp Af (AJ 5) (dOp BN qR qH))) (dN 6)) AQ
abbrev qi:=AO (AD (dOp fEq (dOp Af (dOp A7 qB (dC (.int 4))) (dC (.int 4))) qD)) (AI (dOp Ay qH (dOp Af (dOp A7 qB (dC (.int 16))) (dC (.int 12)))) (dN 1)) AQ
abbrev qj:=AO (An (AD (dOp fEq (dOp AN (AJ 7) qD) (AJ 6))) (AD (dOp fGt (dOp Af qE (dC (.int 8))) qD))) (AI (dOp AN (AJ 7) (dC (.int 5))) (dN 11)) AQ
abbrev qk:=AA (dOp AN qB qV) (AA (dOp AN qB (dC (.int 3))) AF)
abbrev ql:=AO (An (AD (dOp fEq (AJ 8) (dC (.str "tiles")))) (AD (dOp fNe (dLC 1 [9] (dIL qB) (dN 0) qK qB) (Cy AF)))) (AI (dC (.str "group")) (dN 8)) AQ
abbrev qm:=AD (dOp IJ qI (dC .none))
abbrev qo:=AI (dOp Cd (dOp Cd (Cn (AJ 7) Bl (dPt (dC (.int 3)))) (AY (AA (dC (.int 61)) AF))) (Cn (AJ 7) (dPt (dC (.int 4))) Bl)) (dN 7)
abbrev qp:=AO (C6 3 (AD (dOp (fIn true) (dOp AN (AJ 5) qD) (dLC 1 [] (dIL qT) (dN 0) B0 qc)))) (CV (dMt 3 A8 (AA (AJ 5) AF))) AQ
abbrev qq:=GK 4 (BQ (AD (dOp fNe (dOp AN (AJ 4) qD) (dOp AN qT qD))) (AD (dOp fNe qI qB)))
abbrev qr:=AD (dOp (fIn false) qB (AY (AA (dC (.str "group")) (AA (dC (.str "mask")) AF))))
abbrev qt:=AD (dOp (fIn false) qT (AY (AA (dC (.str "hide")) (AA (dC (.str "show")) qO))))
abbrev qu:=dC (.int 8)
abbrev qv:=dC (.int 6)
abbrev qw:=AO (C6 3 (AD (dOp fEq (dOp Af (dOp A7 qE (Ak Bp qg)) qV) qD))) (AI (ET 3 (dOp DR qT (dUn GJ qH))) (dN 5)) AQ
abbrev qx:=AI (dOp Cd (dOp Cd (Cn (AJ 7) Bl (dPt qH)) (AY (AA (AJ 6) AF))) (Cn (AJ 7) (dPt qV) Bl)) (dN 7)
abbrev qy:=AD (dOp fEq qS (dC (.str "put")))
abbrev qz:=dC (.int 3)
abbrev Q0:=AO (AD (dOp fNe (Dm "bool" (dOp AN (dOp DR qB qI) qT)) (Dm "bool" (dOp AN (dOp DR qE qI) qT)))) qU AQ
abbrev Q1:=AI (dOp JM (AJ 5) (dOp OI (dC (.str "#.")) (dOp Af qB qV))) (dN 5)
abbrev Q2:=dOp BN (AJ 10) (dOp II (dOp A7 (dOp Af (dOp A7 qE (dC (.int 40))) (dC (.int 40))) (dC (.int 39))) qV)
abbrev Q3:=dOp A7 (dOp Af (dOp A7 qE (dC (.int 9))) (dC (.int 5))) (dC (.int 4))
abbrev Q4:=dC (.int 12)
abbrev Q5:=AD (dOp fNe (Ak Bp qF) (dC (.int 4)))
abbrev Q6:=AI (dOp Gj (dLC 1 [] (dIL qB) (dN 0) B0 qc) (Cy (AA (dC (.str "strange")) AF))) (dN 4)
abbrev Q7:=AD (dOp (fIn false) qS (dC (.tuple [(.str "put"),(.str "take"),(.str "raise"),(.str "sink")])))
abbrev Q8:=dLC 1 [1] (dIL qB) (dN 0) B0 (dOp DR (Cy qe) (Ak Ds (AA (dOp fEq qc qS) AF)))
abbrev Q9:=AA (dUn GJ (dC (.int 20))) (AA (dC (.int 20)) AF)
abbrev QA:=An qm (AD (dOp fNe (dOp AN qE qH) qa))
abbrev QB:=CV (dMt 3 A8 (AA (AJ 5) AF))
abbrev QC:=AM (AY (AA (dC (.str "NoPart")) qb))
abbrev QD:=AA (dOp AN (AJ 4) qD) AF
abbrev QE:=dOp AN qB qH
abbrev QF:=AA (dOp AN qB qV) AF
abbrev QG:=AI (dOp Cd (AY (AA (AJ 6) AF)) (Cn (AJ 7) (dPt qH) Bl)) (dN 7)
abbrev QH:=dN 2
abbrev QI:=AA qT (AA (dOp Af qI qT) AF)
abbrev QJ:=dC (.str "tiles")
abbrev QK:=AA qH (AA qz AF)
abbrev QL:=Ak Bp qF
abbrev QM:=xOf AQ
abbrev QN:=AA (AJ 7) (AA (AJ 8) AF)
abbrev QO:=dC (.int 5)
abbrev QP:=dOp Ay (AJ 9) (dOp A7 (dOp Af qE (dC (.int 40))) (dC (.int 39)))
abbrev QQ:=AH (CV (dMt 2 A8 qA)) (AI (dOp AN (Ru 3 qE) qH) (dN 1))
abbrev QR:=dC (.int 7)
abbrev QS:=AD (dOp (fIn false) qS (AY qO))
abbrev QT:=AM (AY (AA qI (AA (dOp A7 qE (dC (.int 60516))) AF)))
abbrev QU:=AY (AA (dC (.str "plate")) (AA (dC (.str "window")) AF))
abbrev QV:=AD (dOp fNe (dOp AN qT qD) qa)
abbrev QW:=AA qB (AA (dOp AN qE qV) (AA (dOp AN qE qz) AF))
abbrev QX:=dC (.int 4)
abbrev QY:=dN 0
abbrev QZ:=AM (AY (AA (dC (.str "Twice")) qb))
abbrev Qa:=dIL qB
abbrev Qb:=AI (ET 3 (dOp DR qT (dOp Af qE (Ak Bp qg)))) (dN 5)
abbrev Qc:=AI (ET 3 (dOp A7 (dOp A7 qE (Ak Bp qg)) qV)) (dN 1)
abbrev Qd:=AJ 4
abbrev Qe:=dC (.str "turn")
abbrev Qf:=dGT (Ag (dN 5) (Ag (dN 6) DK))
abbrev Qg:=AD (dOp B9 qI (dC .none))
abbrev Qh:=dOp Gj qB (Cy qA)
abbrev Qi:=AA (dOp Ay (dC (.int 14)) qI) AF
abbrev Qj:=AA (dOp Ay qE (dOp Af (AJ 6) (dC (.int 9)))) AF
abbrev Qk:=AA (AJ 8) (AA (dOp A7 qE (dC (.int 96))) AF)
abbrev Ql:=AO qm (AM (AY (AA (dC (.str "NoName")) qb))) AQ
abbrev Qm:=AA (dOp AN qT qH) AF
abbrev Qn:=dOp Pn (dC (.int 10)) (dC (.int 18))
abbrev Qo:=AI (dOp fGt (dOp Af (dOp A7 qE Q4) qu) qD) (dN 10)
abbrev Qp:=AI (dOp Af (dOp A7 qE Q4) (dOp II qu qR)) (dN 5)
abbrev Qq:=dOp Ay qH (dOp Af qB qu)
abbrev Qr:=An (AD (dOp fNe qE qa)) (AD (Rv false qE 3))
abbrev Qs:=AI (dOp A7 (dOp A7 qE (dC (.int 96))) qR) (dN 1)
abbrev Qt:=AA (dC (.int 16)) AF
abbrev Qu:=AA qB (AA qS AF)
abbrev Qv:=dN 3
abbrev Qw:=AI (dOp Ay qH (dOp Af (dOp A7 qB qu) qu)) QH
abbrev Qx:=dOp Af (dOp A7 qE (dC (.int 18))) (dC (.int 14))
abbrev Qy:=AY (AA (dOp fEq qS (dC (.str "show"))) AF)
abbrev Qz:=dC (.str "plate")
abbrev j0:=dC (.str "abcdefghijklmnopqrstuvwxyz0123456789")
abbrev j3:=AI (dOp DR Qd (dOp Af (AJ 5) qR)) (dN 6)
abbrev j4:=AA (AJ 11) (AA (dOp A7 qE qu) AF)
abbrev j5:=dOp AN qE qH
abbrev j6:=Ao (AD (Dm "tuple" qB))
abbrev j7:=AM (AY (AA (dC (.str "NoHolder")) qb))
abbrev j8:=AJ 6
abbrev j9:=AA (dOp A7 qB (dOp Ay qE qH)) AF
abbrev jA:=AA Q4 AF
abbrev jB:=dGT (Ag (dN 7) qY)
abbrev jC:=AA (dOp Ay qE Qd) AF
abbrev jD:=dC .none
abbrev jE:=AA (dOp AN qB qz) AF
abbrev jF:=AA (dOp AN qE qV) AF
abbrev jG:=AM (dC (.bool true))
abbrev jH:=Ba true 2
abbrev jI:=AD (dOp fGt qT qD)
abbrev jJ:=AA (dOp Af qB (dOp Ay qE qH)) qA
abbrev jK:=AA (dC (.int 60)) AF
abbrev jL:=AI (dOp A7 qE (dC (.int 64))) (dN 1)
abbrev jM:=AA qI qA
abbrev jN:=AI (dOp A7 qB (dC (.int 16000))) QY
abbrev jO:=AD (dOp fEq qB (dC (.str "window")))
abbrev jP:=AH (AO qd (AM qT) AQ) (AM qI)
def FN:Mir:=qP 1 3 (AH (AI qa (dN 1)) (AH (AI Qq QH) (AH (AI (dOp A7 qB qu) QY) (AH (Ca (dR1 qZ) Qv (AH (AI (dOp JM qE (dOp OI j0 (dOp Af qB (dC (.int 36))))) (dN 1)) (AI (dOp A7 qB (dC (.int 36))) QY))) (AM (AY (AA qE qF)))))))
def A2:Mir:=qP 1 0 (AH (AO (AD (dOp fEq (dOp Af qB qv) qD)) (AM (AY (AA (dOp BN (dOp Af (dOp A7 qB qv) (dC (.int 121))) (dC (.int 60))) (AA (dOp A7 qB (dC (.int 726))) AF)))) AQ) (AM (AY (AA (dOp BN (dOp Af (dOp A7 qB qv) Q4) qz) (AA (dOp A7 qB (dC (.int 72))) AF)))))
def Ez:Mir:=jH 3 (AH (GL 2 2) (AH (S9 2 3) (AH (Ca Qa (dN 4) (L7 3 Qd (dOp AN Qd qD))) (AH (FZ (fun _=>100) Qr QQ) (Dt 2 2)))))
def JC:Mir:=qP 2 2 (AH (Bb 2 3 (AA (Ak Hs qF) qA)) (AH (FZ (Zf 3) jI (Bb 2 3 QI)) (AM (AY (AA (dOp A7 qB qI) (AA (dOp A7 qE qI) AF))))))
def Di:Mir:=qP 1 1 (AH (AI (dOp AN (AY (AA qH (AA qH (AA qV (AA qz AF))))) (dOp Af qB QX)) (dN 1)) (AH qi (AH qf (AH jN (AM (AY (AA (AB JC jJ) j9)))))))
def Cr:Mir:=qP 1 2 (AH (AI (AB Di qF) (dGT (Ag (dN 1) (Ag QY DK)))) (AH (AO (AD (dOp fEq (dOp Af qB qz) qD)) (AM (AY (AA qE (AA (AY (AA qH (AA qH AF))) (AA (dOp A7 qB qz) AF))))) AQ) (AH (AI (AB Di (AA (dOp A7 qB qz) AF)) (dGT (Ag QH (Ag QY DK)))) (AM (AY (AA qE (AA qI qF)))))))
def Dh:Mir:=qP 1 6 (AH (AI Qq (dN 1)) (AH Qw (AH (AI (dOp A7 qB (dC (.int 64))) QY) (AH (GL 1 3) (AH (Ca (dR1 qZ) (dN 4) (AH (AI qa (dN 5)) (AH (Ca (dR1 qA) (dN 6) (AH Q1 (AI (dOp A7 qB qV) QY))) QB))) (AM (ET 3 (AY (AA (Ak Lv qg) qF)))))))))
def B8:Mir:=qP 2 0 (AH (AO (AD (dOp fEq (dOp Af qB qu) qD)) (AM (AY (AA (dOp Ay qH (dOp Af (dOp A7 qB qu) qE)) (AA (dOp A7 (dOp A7 qB qu) qE) AF)))) AQ) (AM (AY (AA (dOp Ay qH (dOp Af (dOp A7 qB qu) QO)) (AA (dOp A7 qB (dC (.int 40))) AF)))))
def FK:Mir:=qP 1 3 (AH (AI qa (dN 1)) (AH (AI (dOp Af qB QR) QH) (AH (AI (dOp A7 qB QR) QY) (AH (Ca (dR1 qZ) Qv (AH (AI (dOp JM qE (dOp OI (dC (.str "0123456789abcdef-_")) (dOp Af qB (dC (.int 18))))) (dN 1)) (AI (dOp A7 qB (dC (.int 18))) QY))) (AM (AY (AA qE qF)))))))
def Am:Mir:=qP 2 9 (AH (AO qr (AM (AY (AA (AY AF) qA))) AQ) (AH (AO (AD (dOp fEq qB Qe)) (AM (AY (AA (AY (AA (dOp Af qE QX) (AA (dOp fEq (dOp Af (dOp A7 qE QX) qV) qH) AF))) (AA (dOp A7 qE qu) AF)))) AQ) (AH (AO (AD (dOp fEq qB QJ)) (AH qM (AH (AO (AD (dOp fGt (dOp Af (dOp A7 qE (dC (.int 15129))) QX) qD)) (AI (dOp Cd (Cn qI Bl (dPt qV)) (AY (AA (dOp Af (dOp AN qI qV) QR) (AA (dOp Af (dOp AN qI qz) QR) AF)))) QH) AQ) QT)) AQ) (AH (AO jO (AH (AI (AB B8 (AA qE Qt)) (dGT (Ag Qv qY))) (AH (AI (AB B8 (AA qE Qt)) (dGT (Ag (dN 4) qY))) (AH (AI (AB A2 qA) (dGT (Ag (dN 5) qY))) (AH (AI (AB A2 qA) (dGT (Ag (dN 6) qY))) (AM (AY (AA (AY (AA qT (AA Qd (AA (AJ 5) (AA j8 AF))))) qA))))))) AQ) (AH (AI (AB Cr qA) (dGT (Ag (dN 7) (Ag (dN 8) qY)))) (AH (AO (AD (dOp fEq qB (dC (.str "glass")))) (AM (AY (AA (AY (AA (AJ 8) AF)) qA))) AQ) (AH (AO (AD (dOp fEq qB Qz)) (AH (AI (AB B8 (AA qE jA)) (dGT (Ag Qv qY))) (AH (AI (AB B8 (AA qE jA)) (dGT (Ag (dN 4) qY))) (AM (AY (AA (AY (AA qT (AA Qd QN))) qA))))) AQ) (AH (AO (AD (dOp fEq qB (dC (.str "band")))) (AM (AY (AA (AY (AA (dOp BN (dOp Af qE (dC (.int 25))) Q4) (AA (dOp BN (dOp Af (dOp A7 qE (dC (.int 25))) (dC (.int 25))) Q4) QN))) (AA (dOp A7 qE (dC (.int 625))) AF)))) AQ) (AH (AO (AD (dOp fEq qB (dC (.str "word")))) (AH (AI (AB FK qA) (dGT (Ag (dN 9) qY))) (AM (AY (AA (AY (AA (AJ 9) QN)) qA)))) AQ) (AH (AI (AB Dh qA) (dGT (Ag (dN 10) qY))) (AM (AY (AA (AY (AA (AJ 10) QN)) qA)))))))))))))
def By:Mir:=qP 0 1 (AH (AI (AY (AA Qz (AA (dC (.str "band")) (AA (dC (.str "word")) (AA (dC (.str "stencil")) (AA Qz (AA (dC (.str "stencil")) AF))))))) QY) (AM (dOp Cd qB (AY (AA (dC (.str "group")) (AA (dC (.str "glass")) (AA (dC (.str "window")) (AA Qe (AA QJ (AA (dC (.str "mask")) AF))))))))))
def Ck:Mir:=qP 2 10 (AH (AI (AB FN qA) (dGT (Ag QH qY))) (AH (E4 2 3 (Cy (AA qa AF))) (AH (Ca Qa (dN 4) (AO (An (AD (dOp (fIn false) (dOp AN Qd QO) (Cn (AB By AF) (dPt qv) Bl))) (AD (dOp fLt (Ak Bp (AA (AB Ez (AA qB QD)) AF)) QR))) (CV (dMt 3 A8 QD)) AQ)) (AH Qb (AH qw (AH Qc (AH (AI (AB A2 qA) (dGT (Ag (dN 6) qY))) (AH (AI (AB A2 qA) jB) (AH (AI (dOp AN (AB By AF) (dOp Af qE Q4)) (dN 8)) (AH (AI (AB Ez (AA qB (AA (AJ 5) AF))) (dN 9)) (AH ql (AH Qo (AH (AI (AB Am Qk) (dGT (Ag (dN 11) qY))) (AM (AY (AA (AY (AA qI (AA (AJ 5) (AA j8 (AA (AJ 7) (AA (AJ 10) (AA (AJ 8) (AA (AJ 11) AF)))))))) qA))))))))))))))))
def Bg:Mir:=qP 2 0 (AH (AO (AD (dOp fLt qE (A6 0))) (AM (Bz 0 qE)) AQ) (AM qD))
def Dk:Mir:=qP 2 6 (AH (AI (AY (AA (dC (.int 48271)) (AA (dC (.int 69621)) (AA (dC (.int 16807)) (AA (dC (.int 39373)) (AA (dC (.int 21401)) (AA (dC (.int 60493)) (AA (dC (.int 87721)) (AA (dC (.int 31337)) AF))))))))) QH) (AH (AI (AY (AA (dC (.int 99991)) (AA (dC (.int 99989)) (AA (dC (.int 99971)) (AA (dC (.int 99961)) (AA (dC (.int 99929)) (AA (dC (.int 99923)) (AA (dC (.int 99907)) (AA (dC (.int 99901)) AF))))))))) Qv) (AH (AI (AZ 0 Bg qA) (dN 4)) (AH (AO (AD (dOp fGe Qd Qn)) (AM Qd) AQ) (AH (AI qD (dN 5)) (AH (Ca (dR1 jK) (dN 6) (AH (AI (dOp Ay (dOp Ay (dOp Af (AZ 0 Bg Qj) Qn) qH) (dOp II j8 j8)) (dN 7)) qX)) (AM (AJ 5))))))))
def Dj:Mir:=Ba true 3 4 (AH (GL 3 3) (AH (Ca (dR1 qZ) (dN 4) (AH (AI (ET 3 (AB Ck (AA qT (AA (AZ 0 Dk jC) AF)))) Qf) qp)) (Dt 3 3)))
def JB:Mir:=qP 3 0 (AH (AO (AD (dOp fEq (dOp Af (dOp Af (AZ 0 Bg (AA qH AF)) (dC (.int 1000003))) qu) qz)) (AM qI) AQ) (AM qE))
def Aj:Mir:=qP 2 1 (AH (Ca Qa QH (AO (AD (dOp fEq (dOp AN qI qD) qE)) (AM qI) AQ)) (AM jD))
def Be:Mir:=qP 4 0 (AH (AO (BQ (Ao (AD (Dm "str" qB))) (Ao (AD (BO fLe fLe qI QL qT)))) qU AQ) (AM (Ak JN (AA (dLC 1 [1] (dIS qB) QY B0 (dOp Po qB qE)) AF))))
def Bv:Mir:=qP 1 0 (AM (AB Be (AA qB (AA j0 (AA qH (AA qu AF))))))
def IF:Mir:=qP 1 0 (AM (Dm "bool" qB))
def C9:Mir:=qP 1 0 (AM (Bm (Dm "int" qB) (Ht (Dm "bool" qB))))
def Aa:Mir:=qP 3 0 (AM (Bm (AB C9 qF) (BO fLe fLe qE qB qI)))
def Bw:Mir:=qP 2 3 (AH (AI (Ak Hs qF) QH) (AH (AI (Ak Hs qA) Qv) (AH (FZ (Zf 3) (AD (dOp fNe qT qD)) (AH (AI (dOp Af qI qT) (dN 4)) (AH (AI qT QH) (AI Qd Qv)))) (AM qI))))
def GD:Mir:=qP 1 2 (AH (AO (BQ j6 (AD (dOp fNe QL qV))) qU AQ) (AH (AI qc (dN 1)) (AH (AI QE QH) (AH (AO (BQ (Ao (AD (AB C9 qA))) (Ao (AD (AB C9 qZ)))) qU AQ) (AM (Bm (dOp fGe qI qH) (Bm (BO fLe fLe qD qE qI) (dOp fEq (AB Bw (AA qE qZ)) qH))))))))
def BD:Mir:=qP 1 0 (AM (Bm (AB GD qF) (dOp fLe QE (dC (.int 1000)))))
def Bn:Mir:=qP 2 0 (AM (Bm (AB BD qF) (AB BD qA)))
def DC:Mir:=qP 1 0 (AH (AO (BQ Q5 (Ao (AD (AB Bn qk)))) qU AQ) (AM (Bm (AB Aa (AA qc (AA qH jA))) (AB Aa (AA QE (AA qH jA))))))
def Ft:Mir:=qP 1 0 (AH (AO (BQ Q5 (Ao (AD (AB Bn qk)))) qU AQ) (AM (Bm (AB Aa (AA qc (AA (dUn GJ Q4) jA))) (AB Aa (AA QE (AA (dUn GJ Q4) jA))))))
def Ei:Mir:=qP 1 0 (AM (WU Fg qB))
def DZ:Mir:=qP 1 0 (AH (AO (BQ (Ao (AD (Dm "str" qB))) (AD (dOp fGt QL qv))) qU AQ) (AM (Ak JN (AA (dLC 1 [] (dIS qB) QY B0 (AB Ei qF)) AF))))
def Fp:Mir:=qP 1 0 (AM (Bm (dOp fEq QL qz) (Bm (AB DZ (AA qc AF)) (AB Bn (AA QE QF)))))
def CD:Mir:=qP 1 0 (AH (AO (BQ j6 (Ao (AD (BO fLe fLe qH QL qu)))) qU AQ) (AH (AO (Ao (AD (Ak JN (AA (dLC 1 [] (dIT qB) QY B0 (AB Be (AA qB (AA (dC (.str "#.")) (AA qH (AA qu AF)))))) AF)))) qU AQ) (AM (Ak JN (AA (dLC 1 [0] (dIT qB) QY B0 (dOp fEq QL (Ak Bp (AA qS AF)))) AF)))))
def Dc:Mir:=qP 1 0 (AM (Bm (dOp fEq QL qz) (Bm (AB CD (AA qc AF)) (AB Bn (AA QE QF)))))
def Ey:Mir:=qP 1 0 (AM (dOp fEq QL qD))
def Ew:Mir:=qP 1 0 (AM (Bm (dOp fEq QL qH) (AB BD (AA qc AF))))
def Ap:Mir:=qP 1 0 (AM (AB Aa (AA qB (AA (dUn GJ (dC (.int 60))) jK))))
def Bc:Mir:=qP 1 0 (AH (AO (BQ Q5 (BQ (Ao (AD (AB Ap QF))) (Ao (AD (AB Ap jE))))) qU AQ) (AM (Bm (AB Aa (AA qc (AA qH Qt))) (AB Aa (AA QE (AA qH Qt))))))
def Fq:Mir:=qP 1 0 (AM (Bm (dOp fEq QL qV) (Bm (AB Aa (AA qc (AA qD (AA qz AF)))) (AB IF (AA QE AF)))))
def Cj:Mir:=qP 1 0 (AH (AO (BQ Q5 (BQ (Ao (AD (AB Aa (AA qc QK)))) (Ao (AD (AB Aa (AA QE QK)))))) qU AQ) (AM (Bm (AB Aa (AA (dOp AN qB qV) Q9)) (AB Aa (AA (dOp AN qB qz) Q9)))))
def BW:List (Str×Mir):=[("plate",DC),("band",Ft),("word",Fp),("stencil",Dc),("group",Ey),("glass",Ew),("window",Bc),("turn",Fq),("tiles",Cj),("mask",Ey)]
def Ej:Mir:=qP 2 0 (AM (Bm (Dm "str" qB) (Bm (Rw BW qB) (Bm (Dm "tuple" qE) (IK BW qB qA)))))
def Ab:Mir:=qP 1 0 (AM qc)
def AK:Mir:=qP 1 0 (AM QE)
def Kb:Mir:=qP 1 0 (AM (dOp AN qB QX))
def BM:Mir:=qP 1 0 (AM (dOp AN qB QO))
def GC:Mir:=qP 1 0 (AM (dOp AN qB qv))
def K0:Mir:=qP 1 0 (AM (dOp AN qB qV))
def Kz:Mir:=qP 1 0 (AM (dOp AN qB qz))
def BB:Mir:=qP 1 0 (AH (AO (BQ j6 (AD (dOp fNe QL QR))) qU AQ) (AH (AO (Ao (AD (AB Bv (AA (AB Ab qF) AF)))) qU AQ) (AH (AO (An (AD (dOp fNe (AB AK qF) qa)) (Ao (AD (AB Bv (AA (AB AK qF) AF))))) qU AQ) (AH (AO (BQ (Ao (AD (AB Ap (AA (AB K0 qF) AF)))) (Ao (AD (AB Ap (AA (AB Kz qF) AF))))) qU AQ) (AM (Bm (AB IF (AA (AB Kb qF) AF)) (AB Ej (AA (AB BM qF) (AA (AB GC qF) AF)))))))))
def Df:Mir:=qP 2 0 (AH (AO (Ao (AD (AB BB qA))) QC AQ) (AM (AY (AA qa (AA Q8 AF)))))
def He:Mir:=qP 2 3 (AH (AO (Ao (AD (AB BB qA))) QC AQ) (AH (AO (AD (dOp B9 (AB Aj Qu) jD)) QZ AQ) (AH (AI (AB Aj qC) QH) (AH (AO (BQ QA (An Qg (AD (dOp (fIn true) (dOp AN qI QO) (Cn (AB By AF) (dPt qv) Bl))))) j7 AQ) (AH (AI Qh Qv) (AH (AI (AB Ez qC) (dN 4)) (AH (AO (AD (dOp fGt qR qv)) (AM (AY (AA (dC (.str "TooDeep")) qb))) AQ) qG)))))))
def Av:Mir:=qP 2 1 (AH (Ca Qa QH (AO (AD (dOp fEq (AB Ab qZ) qE)) (AM qI) AQ)) (AM jD))
def Bf:Mir:=jH 2 (AH (GL 2 2) (AH (AI (AB Av qe) Qv) (AH (FZ (fun _=>100) (An (AD (dOp B9 qT jD)) (AD (dOp fNe (AB AK qg) qa))) (AH (CV (dMt 2 A8 (AA (AB AK qg) AF))) (AI (AB Av (AA qB (AA (AB AK qg) AF))) Qv))) (Dt 2 2))))
def Dw:Mir:=jH 0 (AM (dLC 1 [1,0] Qa QY (AD (dOp (fIn false) qE (AB Bf (AA qI (AA (AB Ab qF) AF))))) (AB Ab qF)))
def FL:Mir:=qP 2 5 (AH (AI (dOp Gj (Cy (AA j5 AF)) (AB Dw qC)) QH) (AH (AI (dLC 1 [2] Qa QY (AD (dOp (fIn false) qc qE)) qB) Qv) (AH (AI (dLC 1 [2] Qa QY (AD (dOp (fIn true) qc qE)) qB) (dN 4)) (AH (AO (AD (dOp fEq qS (dC (.str "take")))) (AM Qd) AQ) (AH (AO (AD (dOp fEq qS (dC (.str "raise")))) (AM (dOp Gj Qd qT)) AQ) (AH (AI (dOp AN (AB Aj qC) qH) (dN 5)) (AH (AI qD (dN 6)) (AH (FZ (fun _=>100) (An (AD (dOp fNe (AJ 5) qa)) (AD (dOp fNe (dOp AN (dOp DR Qd j8) qD) (AJ 5)))) (AI (dOp Ay j8 qH) (dN 6))) (AH (AI (dOp Ay j8 (Ak Ds (AA (dOp fNe (AJ 5) qa) AF))) (dN 6)) (AM (dOp Gj (dOp Gj (dSl Qd Bl (dPt j8)) qT) (dSl Qd (dPt j8) Bl))))))))))))
def Fu:Mir:=qP 2 1 (AH (AO qy (AM (AB He qC)) AQ) (AH (AI (AB Aj qC) QH) (AH Ql (AH (AO QS (AM (AY (AA qa (AA (AB FL qe) AF)))) AQ) (AH (AO qN (AM (AY (AA (dC (.str "WrongKind")) qb))) AQ) (AH (AO (AD (dOp fEq qS (dC (.str "move")))) (AM (AB Df (AA qB (AA (dOp Cd (dOp Cd (Cn qI Bl (dPt qV)) (Cn qE (dPt qV) Bl)) (Cn qI (dPt QX) Bl)) AF)))) AQ) (AH (AO (AD (dOp fEq qS Qe)) (AM (AB Df (AA qB (AA (dOp Cd (Cn qI Bl (dPt qv)) (AY (AA (AY (AA (dOp Af (dOp Ay (dOp AN (dOp AN qI qv) qD) (dOp AN qE qV)) QX) (AA (dOp AN (dOp AN qI qv) qH) AF))) AF))) AF)))) AQ) (AH (AO (AD (dOp fEq qS (dC (.str "size")))) (AM (AB Df (AA qB (AA (dOp Cd (Cn qI Bl (dPt qv)) (AY (AA (dOp Cd (Cn qE (dPt qV) Bl) (Cn (dOp AN qI qv) (dPt qV) Bl)) AF))) AF)))) AQ) (AH (AO (AD (dOp fEq qS (dC (.str "change")))) (AM (AB Df (AA qB (AA (dOp Cd (Cn qI Bl (dPt qv)) (AY jF)) AF)))) AQ) (AM (AB Df (AA qB (AA (dOp Cd (dOp Cd (Cn qI Bl (dPt QX)) Qy) (Cn qI (dPt QO) Bl)) AF)))))))))))))
def Dy:List PyData->Option (PyData ⊕ Nat):=C7 2 1 (A4 (xOf (AI (AB Av qe) QH)) (A4 (xIf qm (CC 6) QM) (xOf (AM qI))))
def Cf:Mir:=mO Dy
def Dv:Mir:=qP 2 0 (AM (dOp Cd (dOp Cd (Cn qB Bl (dPt QX)) (AY qA)) (Cn qB (dPt QO) Bl)))
def Fo:Mir:=qP 3 0 (AM (dOp Cd (dOp Cd (Cn qB Bl (dPt qV)) (AY (AA qE qZ))) (Cn qB (dPt QX) Bl)))
def C8:Mir:=qP 2 0 (AM (dOp Cd (Cn qB Bl (dPt qv)) (AY qA)))
def EZ:List PyData->Option (PyData ⊕ Nat):=C7 2 1 (A4 (xIf (AD (dOp fNe (AB BM qF) Qe)) (CC 7) QM) (A4 (xOf (AI (AB GC qF) QH)) (xOf (AM (AB C8 (AA qB (AA (AY (AA (dOp Af (dOp Ay (dOp AN qI qD) qE) QX) (AA (dOp AN qI qH) AF))) AF)))))))
def FJ:List PyData->Option (PyData ⊕ Nat):=C7 3 0 (A4 (xIf (AD (dOp (fIn true) (AB BM qF) QU)) (CC 7) QM) (xOf (AM (AB C8 (AA qB (AA (dOp Cd (AY (AA qE qZ)) (Cn (AB GC qF) (dPt qV) Bl)) AF))))))
def GB:List PyData->Option (PyData ⊕ Nat):=C7 2 1 (A4 (xOf (AI qS QH)) (A4 (xOf (AO (AD (dOp fEq qI (dC (.str "move")))) (AM (AB Fo QW)) AQ)) (A4 (xIf (AD (dOp fEq qI Qe)) (Hv EZ (AA qB jF)) QM) (A4 (xIf (AD (dOp fEq qI (dC (.str "size")))) (Hv FJ QW) QM) (A4 (xOf (AO (AD (dOp fEq qI (dC (.str "change")))) (AM (AB C8 (AA qB jF))) AQ)) (xOf (AM (AB Dv (AA qB (AA (dOp fEq qI (dC (.str "show"))) AF))))))))))
def DW:List PyData->Option (PyData ⊕ Nat):=Mi (C7 2 1 (A4 (Jv 2 GB (AA (AB Cf qC) qA)) (A4 (xIf (Ao (AD (AB BB qZ))) (CC 0) QM) (xOf (AM (dLC 1 [2,1] Qa QY B0 (dIf (AD (dOp fEq (AB Ab qF) (dOp AN qI qH))) qE qB)))))))
def Ci:Mir:=qP 1 0 (AM (dOp (fIn false) (AB BM qF) (dC (.tuple [(.str "group"),(.str "glass"),(.str "window"),(.str "turn"),(.str "tiles"),(.str "mask")]))))
def Dx:Mir:=qP 2 0 (AM (dOp fEq (AB BM (AA (AB Cf qe) AF)) QJ))
def DD:List PyData->Option (PyData ⊕ Nat):=C7 2 2 (A4 (xIf (Ao (AD (AB BB qA))) (CC 0) QM) (A4 (xIf (AD (dOp B9 (AB Av (AA qB (AA (AB Ab qA) AF))) jD)) (CC 1) QM) (A4 (xOf (AO (AD (dOp fEq (AB AK qA) qa)) EY AQ)) (A4 (xOf (AI (AB Av (AA qB (AA (AB AK qA) AF))) QH)) (A4 (xIf (BQ qm (Ao (AD (AB Ci qZ)))) (CC 2) QM) (A4 (xOf (AI (dOp Gj (Cy (AA (AB AK qA) AF)) (AB Bf (AA qB (AA (AB AK qA) AF)))) Qv)) (A4 (xIf (AD (dOp fGt (Ak Bp qg) qv)) (CC 3) QM) (xIf (An (AD (dOp fEq (AB BM qA) QJ)) (AD (Ak NB (AA (dLC 1 [0] (dIL qT) QY B0 (AB Dx (AA qE qF))) AF)))) (CC 4) QM))))))))
def T3:Mir:=mO DD
def Ja:List PyData->Option (PyData ⊕ Nat):=C7 1 2 (A4 (P4 (dIE qB) (dGT (Ag (dN 1) (Ag QH DK))) (Fb DD (AA (dSl qB Bl (dPt qE)) qZ))) (A4 (xIf (AD (dOp fGt QL (dC (.int 24)))) (CC 5) QM) (xOf jG)))
def gO:Mir:=mO Ja
def Eu:List PyData->Option (PyData ⊕ Nat):=Mi (C7 2 1 (A4 (xOf (F5 2 2 (dFx Qh))) (A4 (Hi 2 Ja qZ) (xOf (S8 2)))))
def DY:Mir:=jH 0 (AM (dOp Gj (Cy qA) (AB Dw qe)))
def BY:Mir:=jH 1 (AH (AI (AB DY qe) QH) (AM (dLC 1 [2] Qa QY (AD (dOp (fIn true) (AB Ab qF) qE)) qB)))
def EN:Mir:=jH 1 (AH (AI (AB DY qe) QH) (AM (dLC 1 [2] Qa QY (AD (dOp (fIn false) (AB Ab qF) qE)) qB)))
def EK:Mir:=jH 0 (AM (dOp Gj (AB BY qe) (AB EN qe)))
def Cg:Mir:=qP 2 0 (AM (dIf (AD (dOp fEq qE qa)) qD (dOp Ay (dOp NA qB (AB Cf qe)) qH)))
def FI:Mir:=jH 2 (AH (AI (AB BY qe) QH) (AH (AI (AB Cg (AA qI (AA (AB AK (AA (AB Cf qe) AF)) AF))) Qv) (AM (dOp Gj (dOp Gj (dSl qI Bl (dPt qT)) (AB EN qe)) (dSl qI (dPt qT) Bl)))))
def BJ:List PyData->Option (PyData ⊕ Nat):=Mi (C7 2 1 (A4 (xOf (AI qS QH)) (A4 (xIf (AD (dOp fEq qI (dC (.str "put")))) (Hv Eu qC) QM) (A4 (Fb Dy qC) (A4 (xOf (AO (AD (dOp fEq qI (dC (.str "take")))) (AM (AB BY qC)) AQ)) (A4 (xOf (AO (AD (dOp fEq qI (dC (.str "raise")))) (AM (AB EK qC)) AQ)) (A4 (xOf (AO (AD (dOp fEq qI (dC (.str "sink")))) (AM (AB FI qC)) AQ)) (Hv DW qe))))))))
def G9:Mir:=mO BJ
def whS(n:Nat):Str:=["NoPart","Twice","NoHolder","TooDeep","Nested","TooMany","NoName","WrongKind"].getD n ""
def Dg:Mir
 |[.d x,.d y]=>match BJ [x,y] with
  |some (.inl (.list l))=>if fixDs l=true then some (.tuple [.str "",.list l],[.d x,.d y]) else none
  |some (.inr n)=>if n<8 then some (.tuple [.str (whS n),.none],[.d x,.d y]) else none
  |_=>none
 |_=>none
def Bo:Mir:=qP 2 2 (AH (AO (BQ (Ao (AD (Dm "list" qB))) (AD (dOp fNe qB qE))) qU AQ) (AH (Ca (dR1 (AA (Ak Bp qA) AF)) QH (Ca (dR1 (AA QR AF)) Qv Q0)) jG))
def EO:Mir:=qP 2 0 (AM (dIf qy j5 (AB Cf qC)))
def Fs:Mir:=qP 2 1 (AH (AI (AB Av qe) QH) (AM (Bm (dOp B9 qI jD) (dOp fEq (AB BM qZ) (dC (.str "mask"))))))
def DV:Mir:=qP 2 1 (AH (AI (AB EO qe) QH) (AH (AO (An Q7 (AD (AB Fs (AA qB (AA (AB AK qZ) AF))))) (AM (AB AK qZ)) AQ) (AM (AB Ab qZ))))
def ER:Mir:=qP 2 3 (AH (AI j5 QH) (AH (AI qa Qv) (AH (AO qy (AH (AI (dOp AN j5 qD) QH) (AI (dOp AN j5 qH) Qv)) (AO QS (AI (dOp AN (AB Aj (AA qB qZ)) qH) Qv) AQ)) (AH (AI (AB Aj (AA qB qg)) (dN 4)) jP))))
def Ek:Mir:=qP 2 3 (AH (AI (Ak Bj qF) QH) (AH (AI (AB Fu qe) Qv) (AH (F5 2 4 (AB Dg jM)) (AH (AO qq qU AQ) (AH (AO QV jG AQ) (AH (AO (GK 4 (BQ (Ao (AD (AB Bo (AA (dOp AN Qd qH) Qm)))) (AD (dOp fNe (AB DV jM) (AB ER qe))))) qU AQ) (AH (OM 4 (dPT dPV qH) qb Rb) (AH (OM 4 (dPT dPV qH) AF Vq) (AM (Bm (AB Bo (AA (AB G9 jM) Qm)) (dOp fEq qI qB)))))))))))
def ES:Mir:=qP 2 10 (AH qJ (AH (AI (dOp AN qI (dOp Af qE Q4)) Qv) (AH Q6 (AH Qp (AH j3 (AH qh (AH Qs (AH (AO (AD (dOp fEq qT (dC (.str "put")))) (AH (AI (AB Ck qe) jB) (AH (AO (AD (dOp fEq (dOp Af qE QO) qD)) QG AQ) (AH (AO (AD (dOp fEq (dOp Af qE QR) qD)) qx AQ) (AH (AO (AD (dOp fEq (dOp Af qE (dC (.int 11))) qD)) qo AQ) (AM (AY (AA qT (AA (AJ 7) AF)))))))) AQ) (AH (AO qt (AM (AY (AA qT (AA j8 AF)))) AQ) (AH (AI (dLC 1 [3] Qa QY qL qB) (dN 8)) (AH qW (AH jL (AH (AO (AD (dOp fEq qT Qe)) (AM (AY (AA qT (AA j8 (AA (dOp AN qQ Q3) AF))))) AQ) (AH (AO (AD (dOp fEq qT (dC (.str "size")))) (AM (AY (AA qT (AA j8 (AA (dOp Af qE (dC (.int 18))) (AA Qx AF)))))) AQ) (AH (AO (AD (dOp fEq qT (dC (.str "move")))) (AH (AI (AB A2 qA) (dGT (Ag (dN 9) qY))) (AH (AI (AB A2 qA) (dGT (Ag (dN 10) qY))) (AM (AY (AA qT (AA j8 (AA QP (AA Q2 AF)))))))) AQ) (AH (AI Qz (dN 11)) (AH (Ca Qa (dN 7) qj) (AM (AY (AA qT (AA j8 (AA (dOp AN (AB Am j4) qD) AF))))))))))))))))))))))
def Ln:Mir:=qP 1 2 (AH (AI (AZ 0 Dj (AA qH (AA (AZ 0 JB (AA (dOp Af (AZ 0 Dk (AA qD AF)) (dC (.int 13))) (AA (dC (.int 24)) AF))) AF))) (dN 1)) (AH (Ca (dR1 (AA (Ak FR (AA qv (AA (Ak FQ (AA Q4 (AA (dOp BN (A6 0) (dC (.int 14))) AF))) AF))) AF)) QH (AO (Ao (AD (AB Ek (AA qE (AA (AB ES (AA qE (AA (dOp Ay (AZ 0 Dk Qi) qI) AF))) AF))))) qU AQ)) jG))
def jy{k:Nat}{A:Around}(hr:Room k A):A.units+64<cLine:=hr.units
section
variable {P:Program} {w:World} {K:PySem.W.Frag} {mg:Str->Option Value} {base:Heap} {f:Addr} {fd:FuncData}
end
local macro_rules|`(tactic| walk_at "q")=>`(tactic| with_unfolding_all first|rfl|exact fun _=>rfl|exact fun _ _=>rfl)
local macro_rules|`(tactic| walk_at "dk")=>`(tactic| exact of_decide_eq_true (by kernel_rfl))
local macro_rules|`(tactic| walk_at "as")=>`(tactic| exact fun _=>⟨by with_unfolding_all rfl,by with_unfolding_all rfl,by with_unfolding_all rfl⟩)
local macro_rules|`(tactic| walk_at "fd")=>`(tactic| exact⟨by kernel_rfl,by kernel_rfl,by kernel_rfl⟩)
local macro_rules|`(tactic| walk_at "fr")=>`(tactic| first|exact fun h=>Bool.noConfusion h|exact fun _=>rfl)
local macro_rules|`(tactic| walk_at "ln")=>`(tactic| repeat first|exact Si|refine PZ ?_)
local macro_rules|`(tactic| walk_at "rr")=>`(tactic| exact⟨by with_unfolding_all rfl,by with_unfolding_all rfl⟩)
local macro_rules|`(tactic| walk_at "kf")=>`(tactic| assumption)
local macro_rules|`(tactic| walk_at "ce")=>`(tactic| first|(with_reducible exact dD)|(with_reducible exact dS)|(with_reducible refine iS ?_ ?_ ?_;walk_at "co";walk_at "ce";walk_at "ce")|(with_reducible refine iV ?_ ?_ ?_;walk_at "cx";walk_at "ce";walk_at "ce")|(with_reducible exact dF)|(with_reducible refine Yy ?_;walk_at "ca")|(with_reducible refine dX ?_ ?_ ?_;walk_at "co";walk_at "ce";walk_at "ce")|(with_reducible refine dE ?_;walk_at "ca")|(with_reducible refine dZ ?_ ?_;walk_at "cb";walk_at "ca")|(with_reducible exact iZ)|(with_reducible exact dJ)|(with_reducible refine dY ?_;walk_at "ce")|(with_reducible refine dO ?_;walk_at "ca")|(with_reducible refine iT ?_ ?_;walk_at "cm";walk_at "ca")|(with_reducible refine Wf ?_;walk_at "ca")|(with_reducible refine dR ?_;walk_at "ce")|(with_reducible refine iR ?_ ?_ ?_;walk_at "ce";walk_at "cp";walk_at "cp")|(with_reducible refine dG ?_ ?_ ?_;walk_at "ce";walk_at "cp";walk_at "cp")|(with_reducible refine iU ?_;walk_at "cl")|(with_reducible refine dH ?_;walk_at "ce")|(with_reducible refine de ?_ ?_;walk_at "ce";walk_at "ce")|(with_reducible refine dI ?_;walk_at "ce")|(with_reducible refine dM ?_;walk_at "ce")|(with_reducible refine iW ?_ ?_ ?_;walk_at "ct";walk_at "ce";walk_at "ce")|(with_reducible refine Wd ?_ ?_ ?_ ?_ ?_;walk_at "co";walk_at "co";walk_at "ce";walk_at "ce";walk_at "ce")|(with_reducible exact iX)|(with_reducible exact iY)|(with_reducible refine dQ ?_;walk_at "ce")|(with_reducible refine dP ?_;walk_at "ce")|(with_reducible refine dU ?_;walk_at "ce")|(with_reducible refine dW ?_;walk_at "ce")|(with_reducible refine We ?_ ?_;walk_at "ce";walk_at "ca")|(with_reducible exact Wg)|(with_reducible exact Yw)|(with_reducible refine Yx ?_ ?_;walk_at "ce";walk_at "ce"))
local macro_rules|`(tactic| walk_at "co")=>`(tactic| first|(with_reducible exact cu)|(with_reducible exact cP)|(with_reducible exact cW)|(with_reducible exact cZ)|(with_reducible exact cV)|(with_reducible exact iO)|(with_reducible exact iG)|(with_reducible exact iH)|(with_reducible exact iI)|(with_reducible exact iM)|(with_reducible exact iN)|(with_reducible exact iK)|(with_reducible exact cU)|(with_reducible exact cc)|(with_reducible exact Ys)|(with_reducible exact Yr)|(with_reducible exact cX)|(with_reducible exact Yp)|(with_reducible exact cR)|(with_reducible exact cY)|(with_reducible exact Yq))
local macro_rules|`(tactic| walk_at "cx")=>`(tactic| first|(with_reducible exact kJ)|(with_reducible exact kL)|(with_reducible exact kK))
local macro_rules|`(tactic| walk_at "cb")=>`(tactic| first|(with_reducible exact dh)|(with_reducible exact Y1)|(with_reducible exact dj)|(with_reducible exact dq)|(with_reducible exact Y0)|(with_reducible exact Yz)|(with_reducible exact df)|(with_reducible exact dn)|(with_reducible exact dm))
local macro_rules|`(tactic| walk_at "cop")=>`(tactic| first|(with_reducible exact Yo)|(with_reducible exact Yn))
local macro_rules|`(tactic| walk_at "cm")=>`(tactic| first|(with_reducible exact cv))
local macro_rules|`(tactic| walk_at "ca")=>`(tactic| first|(with_reducible exact du)|(with_reducible refine Y2 ?_ ?_;walk_at "ce";walk_at "ca"))
local macro_rules|`(tactic| walk_at "cp")=>`(tactic| first|(with_reducible exact Ym)|(with_reducible refine Yl ?_;walk_at "ce"))
local macro_rules|`(tactic| walk_at "ct")=>`(tactic| first|(with_reducible refine bz ?_ ?_ ?_;walk_at "co";walk_at "ce";walk_at "ce")|(with_reducible refine bu ?_;walk_at "ct")|(with_reducible refine kM ?_;walk_at "cw")|(with_reducible refine cE ?_;walk_at "ct")|(with_reducible refine WX ?_ ?_ ?_ ?_ ?_;walk_at "co";walk_at "co";walk_at "ce";walk_at "ce";walk_at "ce")|(with_reducible refine bx ?_;walk_at "ce")|(with_reducible refine br ?_;walk_at "ce")|(with_reducible refine YY ?_;walk_at "ct"))
local macro_rules|`(tactic| walk_at "cw")=>`(tactic| first|(with_reducible refine cw_and ?_ ?_;walk_at "ct";walk_at "cw")|(with_reducible refine cw_or ?_ ?_;walk_at "ct";walk_at "cw")|(with_reducible refine cw_and1 ?_;walk_at "ct")|(with_reducible refine cw_or1 ?_;walk_at "ct"))
local macro_rules|`(tactic| walk_at "cg")=>`(tactic| first|(with_reducible exact Yv)|(with_reducible refine dB ?_;walk_at "cgs"))
local macro_rules|`(tactic| walk_at "cgs")=>`(tactic| first|(with_reducible exact Yu)|(with_reducible refine Wc ?_ ?_;walk_at "cg";walk_at "cgs"))
local macro_rules|`(tactic| walk_at "ci")=>`(tactic| first|(with_reducible refine Yt ?_;walk_at "ce")|(with_reducible refine cy ?_;walk_at "ce")|(with_reducible refine iP ?_;walk_at "ca")|(with_reducible refine cz ?_;walk_at "ce"))
local macro_rules|`(tactic| walk_at "cj")=>`(tactic| first|(with_reducible refine iQ ?_;walk_at "ce"))
local macro_rules|`(tactic| walk_at "cts")=>`(tactic| first|(with_reducible exact YX)|(with_reducible refine YW ?_;walk_at "ct"))
local macro_rules|`(tactic| walk_at "cl")=>`(tactic| first|(with_reducible refine kN ?_ ?_ ?_ ?_;walk_at "ci";walk_at "cg";walk_at "cts";walk_at "ce"))
local macro_rules|`(tactic| walk_at "cxs")=>`(tactic| first|(with_reducible refine Pu ?_ ?_;walk_at "cxx";walk_at "cxs")|(with_reducible refine TC ?_;walk_at "cxx")|(with_reducible exact YT))
local macro_rules|`(tactic| walk_at "cxx")=>`(tactic| first|(with_reducible refine iD ?_ ?_ ?_;walk_at "ct";walk_at "cxs";walk_at "cxs")|(with_reducible exact WV)|(with_reducible refine YV ?_;walk_at "ca")|(with_reducible refine WW ?_;walk_at "ca")|(with_reducible refine bp ?_;walk_at "ca")|(with_reducible refine bq ?_;walk_at "ca")|(with_reducible refine iB ?_;walk_at "cs")|(with_reducible refine YU ?_ ?_ ?_;walk_at "cj";walk_at "cg";walk_at "cxs"))
local macro_rules|`(tactic| walk_at "css")=>`(tactic| first|(with_reducible refine Px ?_ ?_;walk_at "cs";walk_at "css")|(with_reducible exact YZ)|(with_reducible refine TF ?_;walk_at "cs"))
local macro_rules|`(tactic| walk_at "cs")=>`(tactic| first|(with_reducible refine cF ?_;walk_at "ce")|(with_reducible refine cG ?_;walk_at "ce")|(with_reducible refine iF ?_ ?_ ?_;walk_at "ct";walk_at "css";walk_at "css")|(with_reducible refine cL ?_ ?_ ?_;walk_at "ci";walk_at "cg";walk_at "css")|(with_reducible refine Yk ?_;walk_at "ce")|(with_reducible refine cO ?_ ?_;walk_at "ce";walk_at "cg")|(with_reducible refine iE ?_;walk_at "cl")|(with_reducible refine Ya ?_;walk_at "ce")|(with_reducible exact cK)|(with_reducible refine WZ ?_ ?_;walk_at "ct";walk_at "css")|(with_reducible refine Yj ?_ ?_ ?_;walk_at "cj";walk_at "cg";walk_at "css")|(with_reducible exact Ye)|(with_reducible exact Yd)|(with_reducible refine cI ?_;walk_at "ca")|(with_reducible refine cM ?_;walk_at "ce")|(with_reducible refine Yg ?_ ?_;walk_at "ce";walk_at "ce")|(with_reducible exact Yi)|(with_reducible exact Wa)|(with_reducible exact Yf)|(with_reducible refine Yb ?_;walk_at "ca")|(with_reducible refine Yc ?_;walk_at "ce")|(with_reducible refine cJ ?_ ?_ ?_;walk_at "cop";walk_at "ce";walk_at "ca")|(with_reducible refine Yh ?_ ?_;walk_at "cop";walk_at "ce"))
local macro_rules|`(tactic| walk_at "top")=>`(tactic| (try delta qA qB qC qD qE qF qG qH qI qJ qK qL qM qN qO qP qQ qR qS qT qU qV qW qX qY qZ qa qb qc qd qe qf qg qh qi qj qk ql qm qo qp qq qr qt qu qv qw qx qy qz Q0 Q1 Q2 Q3 Q4 Q5 Q6 Q7 Q8 Q9 QA QB QC QD QE QF QG QH QI QJ QK QL QM QN QO QP QQ QR QS QT QU QV QW QX QY QZ Qa Qb Qc Qd Qe Qf Qg Qh Qi Qj Qk Ql Qm Qn Qo Qp Qq Qr Qs Qt Qu Qv Qw Qx Qy Qz j0 j3 j4 j5 j6 j7 j8 j9 jA jB jC jD jE jF jG jH jI jJ jK jL jM jN jO jP);first|((with_reducible show CSs _ _ _ _ (AH _ _));refine Px ?_ ?_;walk_at "cs";walk_at "css")|(refine TF ?_;walk_at "cs"))
local macro_rules|`(tactic| walk_at "topX")=>`(tactic| (try delta qA qB qC qD qE qF qG qH qI qJ qK qL qM qN qO qP qQ qR qS qT qU qV qW qX qY qZ qa qb qc qd qe qf qg qh qi qj qk ql qm qo qp qq qr qt qu qv qw qx qy qz Q0 Q1 Q2 Q3 Q4 Q5 Q6 Q7 Q8 Q9 QA QB QC QD QE QF QG QH QI QJ QK QL QM QN QO QP QQ QR QS QT QU QV QW QX QY QZ Qa Qb Qc Qd Qe Qf Qg Qh Qi Qj Qk Ql Qm Qn Qo Qp Qq Qr Qs Qt Qu Qv Qw Qx Qy Qz j0 j3 j4 j5 j6 j7 j8 j9 jA jB jC jD jE jF jG jH jI jJ jK jL jM jN jO jP);first|((with_reducible show CXs _ _ _ _ _ (A4 _ _));refine Pu ?_ ?_;walk_at "cxx";walk_at "cxs")|(refine TC ?_;walk_at "cxx"))
local macro_rules|`(tactic|walk_at $s:str)=>match s.getString.splitOn "|" with
 |[k,e]=>do
  let l:=if k=="a" then "Ba,AH,AI,dN,GL,E4,AM,Dt,EY,CV,dMt,A8,Dl,E3,HG,AQ,AO,MB,MA,EB,Ca,Bb,AJ,dC,dOp,dUn,fI,Ay,BN,fLt,fLe,fGt,fGe,GJ,JE,IJ,B9,DR,AN,AD,An,BQ,Ao,dIf,Bm,dOr,Ht,BO,AF,AA,A1,AY,Cy,Ak,AB,E6,AZ,E5,dAS,mkL,nMb,isM,isC,ET,HH,C6,B0,dIL,dIT,dR1,dR2,DK,Ag,dGT,Ai,BF,BH,BE,Bp,f1,f2,Hs,FR,FQ,Ds,Bj,Lz,Dm,Bz,A6,atI,ixN,Ce,Gz,G4,Gy,Cs,fixDs,sz',Option.bind_some,Option.bind_none,Option.map_some,Option.map_none,List.map_cons,List.map_nil,List.cons_append,List.nil_append,List.length_cons,List.length_nil,List.getElem?_cons_zero,List.getElem?_cons_succ,List.set_cons_zero,List.set_cons_succ,List.replicate_succ,List.replicate_zero,List.all_cons,List.all_nil,Bool.and_self,Bool.and_true,Bool.true_and,Bool.false_and,Bool.and_false,Bool.or_true,Bool.true_or,Bool.false_or,Bool.or_false,Bool.not_true,Bool.not_false,if_true,if_false,reduceIte,Bool.false_eq_true,Nat.reduceAdd,Nat.reduceLT,Nat.reduceSub,Nat.reduceMul,Int.reduceEq,Int.reduceSub,Int.reduceMul,Int.reducePow,Int.reduceDiv,Int.reduceMod,Nat.reduceLeDiff,Nat.reduceEqDiff,and_self,and_true,true_and,Int.natCast_add,Int.reduceAdd,Int.reduceLT,Int.reduceLE,Int.reduceToNat,Int.reduceNeg,Int.toNat_zero,Int.toNat_one,Int.zero_lt_one,Int.le_refl,Int.reduceNegSucc,Int.cast_ofNat_Int,Nat.zero_add,Nat.add_zero" else "Ba,AH,AI,dN,AM,AQ,AO,Bb,AJ,dC,dOp,fI,Ay,BN,fLt,fLe,fGt,fGe,AN,AD,AF,AA,A1,AY,Ak,AB,AZ,Ai,BF,BH,BE,Bz,A6,atI,ixN,sz',Option.bind_some,Option.map_some,List.map_cons,List.map_nil,List.cons_append,List.nil_append,List.length_cons,List.length_nil,List.getElem?_cons_zero,List.getElem?_cons_succ,List.set_cons_zero,List.set_cons_succ,List.replicate_succ,List.replicate_zero,if_true,if_false,reduceIte,Bool.false_eq_true,Nat.reduceAdd,Nat.reduceLT,Int.reduceAdd,Int.reduceLT,Int.reduceLE,Int.reduceToNat,Nat.reduceLeDiff,and_self,Int.toNat_zero,Int.le_refl,Int.natCast_add,Int.cast_ofNat_Int,Nat.zero_add"
  let xs:=((if e.isEmpty then l else e++","++l).splitOn ",").map fun n=>Lean.mkIdent n.toName
  `(tactic|simp only[$[$(xs.toArray):ident],*])
 |_=>Lean.Macro.throwUnsupported
section
variable {Z:Zz}
abbrev HW(Z:Zz):Prop:=Clz Z 1 "_law_name_of" ["_law_big_here"] FN false
abbrev EV(Z:Zz):Prop:=Clz Z 1 "_law_step_of" ["_law_big_here"] A2 false
abbrev OZ(Z:Zz):Prop:=Clz Z 1 "_law_up" ["_law_rows","_law_name"] Ez true
abbrev Ob(Z:Zz):Prop:=Clz Z 1 "_law_low" ["_law_top","_law_bottom"] JC false
abbrev GW(Z:Zz):Prop:=Clz Z 2 "_law_share_of" ["_law_big_here"] Di false
abbrev GZ(Z:Zz):Prop:=Clz Z 3 "_law_paint_of" ["_law_big_here"] Cr false
abbrev FE(Z:Zz):Prop:=Clz Z 1 "_law_stencil_of" ["_law_big_here"] Dh false
abbrev HU(Z:Zz):Prop:=Clz Z 1 "_law_size_of" ["_law_big_here","_law_most"] B8 false
abbrev HR(Z:Zz):Prop:=Clz Z 1 "_law_word_of" ["_law_big_here"] FK false
abbrev FV(Z:Zz):Prop:=Clz Z 4 "_law_data_of" ["_law_kind","_law_big_here"] Am false
abbrev Hj(Z:Zz):Prop:=Clz Z 1 "_law_kinds" [] By false
abbrev GY(Z:Zz):Prop:=Clz Z 5 "_law_row_of" ["_law_rows","_law_big_here"] Ck false
abbrev FX(Z:Zz):Prop:=Clz Z 1 "_law_cell_at" ["_law_script","_law_k"] Bg false
abbrev K4(Z:Zz):Prop:=Clz Z 2 "_law_big" ["_law_script","_law_at"] Dk false
abbrev GX(Z:Zz):Prop:=Clz Z 6 "_law_scene_of" ["_law_script","_law_first","_law_many_here"] Dj true
abbrev MI(Z:Zz):Prop:=Clz Z 2 "_law_many" ["_law_script","_law_many_here","_law_most"] JB false
abbrev EI(Z:Zz):Prop:=Clz Z 1 "_law_row_at" ["_law_rows","_law_name"] Aj false
abbrev Ec(Z:Zz):Prop:=Clz Z 1 "is_text_of" ["thing","signs","low","high"] Be false
abbrev Jo(Z:Zz):Prop:=Clz Z 2 "is_name" ["thing"] Bv false
abbrev GS(Z:Zz):Prop:=Clz Z 1 "is_truth" ["thing"] IF false
abbrev GQ(Z:Zz):Prop:=Clz Z 1 "is_whole" ["thing"] C9 false
abbrev CB(Z:Zz):Prop:=Clz Z 2 "is_within" ["thing","low","high"] Aa false
abbrev EF(Z:Zz):Prop:=Clz Z 1 "common_divisor" ["one","other"] Bw false
abbrev IU(Z:Zz):Prop:=Clz Z 2 "is_share" ["thing"] GD false
abbrev CQ(Z:Zz):Prop:=Clz Z 3 "is_bounded_share" ["thing"] BD false
abbrev EE(Z:Zz):Prop:=Clz Z 4 "is_paint" ["shade","share"] Bn false
abbrev IV(Z:Zz):Prop:=Clz Z 5 "is_plate" ["data"] DC false
abbrev Jr(Z:Zz):Prop:=Clz Z 5 "is_band" ["data"] Ft false
abbrev Jn(Z:Zz):Prop:=Clz Z 1 "is_sign" ["sign"] Ei false
abbrev FD(Z:Zz):Prop:=Clz Z 2 "is_word_text" ["thing"] DZ false
abbrev Jl(Z:Zz):Prop:=Clz Z 5 "is_word" ["data"] Fp false
abbrev DJ(Z:Zz):Prop:=Clz Z 2 "are_stencil_rows" ["thing"] CD false
abbrev GU(Z:Zz):Prop:=Clz Z 5 "is_stencil" ["data"] Dc false
abbrev IX(Z:Zz):Prop:=Clz Z 1 "is_empty" ["data"] Ey false
abbrev IW(Z:Zz):Prop:=Clz Z 4 "is_glass" ["data"] Ew false
abbrev GV(Z:Zz):Prop:=Clz Z 3 "is_place" ["thing"] Ap false
abbrev HM(Z:Zz):Prop:=Clz Z 4 "is_window" ["data"] Bc false
abbrev Jm(Z:Zz):Prop:=Clz Z 3 "is_turn" ["data"] Fq false
abbrev HP(Z:Zz):Prop:=Clz Z 3 "are_tiles" ["data"] Cj false
abbrev Jq(Z:Zz):Prop:=Clz Z 6 "is_data" ["kind","data"] Ej false
abbrev Br(Z:Zz):Prop:=Clz Z 1 "row_name" ["row"] Ab false
abbrev CN(Z:Zz):Prop:=Clz Z 1 "row_holder" ["row"] AK false
abbrev HK(Z:Zz):Prop:=Clz Z 1 "row_shown" ["row"] Kb false
abbrev CK(Z:Zz):Prop:=Clz Z 1 "row_kind" ["row"] BM false
abbrev FA(Z:Zz):Prop:=Clz Z 1 "row_data" ["row"] GC false
abbrev OY(Z:Zz):Prop:=Clz Z 1 "row_x" ["row"] K0 false
abbrev OX(Z:Zz):Prop:=Clz Z 1 "row_y" ["row"] Kz false
abbrev F7(Z:Zz):Prop:=Clz Z 7 "is_row" ["thing"] BB false
abbrev MH(Z:Zz):Prop:=Clz Z 8 "_law_with" ["_law_rows","_law_row"] Df false
abbrev Oa(Z:Zz):Prop:=Clz Z 8 "_law_put" ["_law_rows","_law_row"] He false
abbrev DM(Z:Zz):Prop:=Clz Z 2 "row_found" ["rows","name"] Av false
abbrev Ed(Z:Zz):Prop:=Clz Z 3 "holders_of" ["rows","name"] Bf true
abbrev GP(Z:Zz):Prop:=Clz Z 4 "parts_in" ["rows","name"] Dw true
abbrev HV(Z:Zz):Prop:=Clz Z 5 "_law_ordered" ["_law_rows","_law_deed_here"] FL false
abbrev MJ(Z:Zz):Prop:=Clz Z 9 "_law_deed" ["_law_rows","_law_deed_here"] Fu false
abbrev MG(Z:Zz)(cls:Nat->Addr):Prop:=Xl Z cls 3 "row_of" ["rows","name"] Dy false
abbrev F6(Z:Zz):Prop:=Clz Z 3 "row_of" ["rows","name"] Cf false
abbrev EC(Z:Zz):Prop:=Clz Z 1 "row_with_shown" ["row","shown"] Dv false
abbrev ED(Z:Zz):Prop:=Clz Z 1 "row_with_place" ["row","x","y"] Fo false
abbrev CY(Z:Zz):Prop:=Clz Z 1 "row_with_data" ["row","data"] C8 false
abbrev GN(Z:Zz)(cls:Nat->Addr):Prop:=Xl Z cls 2 "row_turned" ["row","quarters"] EZ false
abbrev HI(Z:Zz)(cls:Nat->Addr):Prop:=Xl Z cls 2 "row_sized" ["row","w","h"] FJ false
abbrev IQ(Z:Zz)(cls:Nat->Addr):Prop:=Xl Z cls 3 "row_done" ["row","deed"] GB false
abbrev E9(Z:Zz)(cls:Nat->Addr):Prop:=Xl Z cls 8 "rows_changed" ["rows","deed"] DW true
abbrev HN(Z:Zz):Prop:=Clz Z 2 "is_holder" ["row"] Ci false
abbrev IS(Z:Zz):Prop:=Clz Z 4 "is_tiles" ["rows","name"] Dx false
abbrev Jk(Z:Zz)(cls:Nat->Addr):Prop:=Xl Z cls 8 "vet_row" ["ahead","row"] DD false
abbrev UX(Z:Zz):Prop:=Clz Z 8 "vet_row" ["ahead","row"] T3 false
abbrev Wt(Z:Zz)(cls:Nat->Addr):Prop:=Xl Z cls 9 "vet" ["rows"] Ja false
abbrev jX(Z:Zz):Prop:=Clz Z 9 "vet" ["rows"] gO false
abbrev IP(Z:Zz)(cls:Nat->Addr):Prop:=Xl Z cls 10 "rows_put" ["rows","row"] Eu true
abbrev Eb(Z:Zz):Prop:=Clz Z 5 "names_with" ["rows","name"] DY true
abbrev Co(Z:Zz):Prop:=Clz Z 6 "rows_without" ["rows","name"] BY true
abbrev FU(Z:Zz):Prop:=Clz Z 6 "rows_with" ["rows","name"] EN true
abbrev Fe(Z:Zz):Prop:=Clz Z 7 "rows_raised" ["rows","name"] EK true
abbrev FC(Z:Zz):Prop:=Clz Z 4 "place_behind" ["rows","holder"] Cg false
abbrev HJ(Z:Zz):Prop:=Clz Z 7 "rows_sunk" ["rows","name"] FI true
abbrev Kh(Z:Zz)(cls:Nat->Addr):Prop:=Xl Z cls 11 "deed_done" ["rows","deed"] BJ true
abbrev Ki(Z:Zz):Prop:=Clz Z 11 "deed_done" ["rows","deed"] G9 true
abbrev P0(Z:Zz):Prop:=kU Z 12 "_law_told" ["_law_rows","_law_deed_here"] Dg
abbrev Ff(Z:Zz):Prop:=Clz Z 1 "_law_same_rows" ["_law_found","_law_due"] Bo false
abbrev HL(Z:Zz):Prop:=Clz Z 4 "row_meant" ["rows","deed"] EO false
abbrev Jp(Z:Zz):Prop:=Clz Z 3 "is_mask" ["rows","name"] Fs false
abbrev GO(Z:Zz):Prop:=Clz Z 5 "touched_by" ["rows","deed"] DV false
abbrev HS(Z:Zz):Prop:=Clz Z 2 "_law_touched" ["_law_rows","_law_deed_here"] ER false
abbrev Js(Z:Zz):Prop:=Clz Z 13 "_law_right" ["_law_rows","_law_deed_here"] Ek false
abbrev HX(Z:Zz):Prop:=Clz Z 6 "_law_deed_of" ["_law_rows","_law_big_here"] ES false
def Nu(d:Dd Z "_law_name_of" KQ)(z_range:zQ Z "range"):HW Z:=d.cal fun _ _ F=>AS ["_law_big_here","_law_name","_law_size","_law_k"] F (by walk_at "top")
def Nq(d:Dd Z "_law_step_of" KN) :EV Z:=d.cal fun _ _ F=>AS ["_law_big_here"] F (by walk_at "top")
def Xq(d:Dd Z "_law_up" U4) :OZ Z:=d.cal fun _ _ F=>AS ["_law_rows","_law_name","_law_up_here","_law_by_name","_law_row"] F (by walk_at "top")
def Vm(d:Dd Z "_law_low" SS)(z_abs:zQ Z "abs"):Ob Z:=d.cal fun _ _ F=>AS ["_law_top","_law_bottom","_law_one","_law_other"] F (by walk_at "top")
def Kq(d:Dd Z "_law_stencil_of" Gu)(z_range:zQ Z "range")(z_tuple:zQ Z "tuple"):FE Z:=d.cal fun _ _ F=>AS ["_law_big_here","_law_wide","_law_high","_law_rows","_law_j","_law_row","_law_i"] F (by walk_at "top")
def Nr(d:Dd Z "_law_size_of" KO) :HU Z:=d.cal fun _ _ F=>AS ["_law_big_here","_law_most"] F (by walk_at "top")
def Nn(d:Dd Z "_law_word_of" KJ)(z_range:zQ Z "range"):HR Z:=d.cal fun _ _ F=>AS ["_law_big_here","_law_text","_law_size","_law_k"] F (by walk_at "top")
def RZ(d:Dd Z "_law_kinds" Mz) :Hj Z:=d.cal fun _ _ F=>AS ["_law_leaves"] F (by walk_at "top")
def Ny(d:Dd Z "_law_cell_at" KU)(z_len:zQ Z "len"):FX Z:=d.cal fun _ _ F=>AS ["_law_script","_law_k"] F (by walk_at "top")
def PJ(d:Dd Z "_law_row_at" La) :EI Z:=d.cal fun _ _ F=>AS ["_law_rows","_law_name","_law_row"] F (by walk_at "top")
def MV(d:Dd Z "is_text_of" Ih)(z_len:zQ Z "len")(z_str:zQ Z "str")(z_isinstance:zQ Z "isinstance")(z_all:zQ Z "all"):Ec Z:=d.cal fun _ _ F=>AS ["thing","signs","low","high"] F (by walk_at "top")
def O4(d:Dd Z "is_truth" LP)(z_bool:zQ Z "bool")(z_isinstance:zQ Z "isinstance"):GS Z:=d.cal fun _ _ F=>AS ["thing"] F (by walk_at "top")
def O3(d:Dd Z "is_whole" LO)(z_bool:zQ Z "bool")(z_isinstance:zQ Z "isinstance")(z_int:zQ Z "int"):GQ Z:=d.cal fun _ _ F=>AS ["thing"] F (by walk_at "top")
def Iz(d:Dd Z "common_divisor" Fm)(z_abs:zQ Z "abs"):EF Z:=d.cal fun _ _ F=>AS ["one","other","big","small","rest"] F (by walk_at "top")
def RT(d:Dd Z "is_sign" Mr)(kc_SIGNS:kdZ Z "SIGNS" Fg):Jn Z:=d.cal fun _ _ F=>AS ["sign"] F (by walk_at "top")
def PF(d:Dd Z "is_empty" LY)(z_len:zQ Z "len"):IX Z:=d.cal fun _ _ F=>AS ["data"] F (by walk_at "top")
def Oy(d:Dd Z "row_name" LJ) :Br Z:=d.cal fun _ _ F=>AS ["row"] F (by walk_at "top")
def MT(d:Dd Z "row_holder" Ie) :CN Z:=d.cal fun _ _ F=>AS ["row"] F (by walk_at "top")
def Nf(d:Dd Z "row_shown" J4) :HK Z:=d.cal fun _ _ F=>AS ["row"] F (by walk_at "top")
def Oz(d:Dd Z "row_kind" LK) :CK Z:=d.cal fun _ _ F=>AS ["row"] F (by walk_at "top")
def O0(d:Dd Z "row_data" LM) :FA Z:=d.cal fun _ _ F=>AS ["row"] F (by walk_at "top")
def Vj(d:Dd Z "row_x" SQ) :OY Z:=d.cal fun _ _ F=>AS ["row"] F (by walk_at "top")
def Vi(d:Dd Z "row_y" SO) :OX Z:=d.cal fun _ _ F=>AS ["row"] F (by walk_at "top")
def Iw(d:Dd Z "row_with_shown" Fj) :EC Z:=d.cal fun _ _ F=>AS ["row","shown"] F (by walk_at "top")
def Iy(d:Dd Z "row_with_place" Fl) :ED Z:=d.cal fun _ _ F=>AS ["row","x","y"] F (by walk_at "top")
def JX(d:Dd Z "row_with_data" Gg) :CY Z:=d.cal fun _ _ F=>AS ["row","data"] F (by walk_at "top")
def Lj(d:Dd Z "_law_same_rows" Hy)(z_list:zQ Z "list")(z_isinstance:zQ Z "isinstance")(z_len:zQ Z "len")(z_range:zQ Z "range")(z_bool:zQ Z "bool"):Ff Z:=d.cal fun _ _ F=>AS ["_law_found","_law_due","_law_k","_law_j"] F (by walk_at "top")
def MY(d:Dd Z "_law_share_of" Ik)(c72:Ob Z):GW Z:=d.cal fun _ _ F=>AS ["_law_big_here","_law_bottom"] F (by walk_at "top")
def Vn(d:Dd Z "_law_big" SU)(c17:FX Z)(z_range:zQ Z "range"):K4 Z:=d.cal fun _ _ F=>AS ["_law_script","_law_at","_law_by","_law_prime","_law_cell","_law_big_here","_law_k","_law_one"] F (by walk_at "top")
def Tw(d:Dd Z "_law_many" Ol)(c17:FX Z):MI Z:=d.cal fun _ _ F=>AS ["_law_script","_law_many_here","_law_most"] F (by walk_at "top")
def RU(d:Dd Z "is_name" Ms){uv_NAME_SIGNS:Value}(c14:Ec Z)(kc_NAME_SIGNS:kaZ Z "NAME_SIGNS" (.str "abcdefghijklmnopqrstuvwxyz0123456789") uv_NAME_SIGNS):Jo Z:=d.cal fun _ _ F=>AS ["thing"] F (by walk_at "top")
def Ni(d:Dd Z "is_within" J8)(c21:GQ Z):CB Z:=d.cal fun _ _ F=>AS ["thing","low","high"] F (by walk_at "top")
def O6(d:Dd Z "is_share" LR)(c21:GQ Z)(c27:EF Z)(z_len:zQ Z "len")(z_tuple:zQ Z "tuple")(z_isinstance:zQ Z "isinstance"):IU Z:=d.cal fun _ _ F=>AS ["thing","top","bottom"] F (by walk_at "top")
def Kp(d:Dd Z "is_word_text" Gs)(c63:Jn Z)(z_len:zQ Z "len")(z_str:zQ Z "str")(z_isinstance:zQ Z "isinstance")(z_all:zQ Z "all"):FD Z:=d.cal fun _ _ F=>AS ["thing"] F (by walk_at "top")
def Hq(d:Dd Z "are_stencil_rows" Er)(c14:Ec Z)(z_len:zQ Z "len")(z_tuple:zQ Z "tuple")(z_isinstance:zQ Z "isinstance")(z_all:zQ Z "all"):DJ Z:=d.cal fun _ _ F=>AS ["thing"] F (by walk_at "top")
def Nh(d:Dd Z "row_found" J6)(c00:Br Z):DM Z:=d.cal fun _ _ F=>AS ["rows","name","row"] F (by walk_at "top")
def Lk(d:Dd Z "row_turned" Ic){cls:Nat->Addr}(c01:CK Z)(c13:FA Z)(c04:CY Z)(hm_WrongKind:clZ Z cls 7 "WrongKind"):GN Z cls:=d.xc fun _ _ F=>Hd ["row","quarters","data"] F (by walk_at "topX")
def Mc(d:Dd Z "row_sized" J3){cls:Nat->Addr}(c01:CK Z)(c04:CY Z)(c13:FA Z)(hm_WrongKind:clZ Z cls 7 "WrongKind"):HI Z cls:=d.xc fun _ _ F=>Hd ["row","w","h"] F (by walk_at "topX")
def Nk(d:Dd Z "is_holder" KC){uv_HOLDERS:Value}(c01:CK Z)(kc_HOLDERS:kaZ Z "HOLDERS" (.tuple [(.str "group"),(.str "glass"),(.str "window"),(.str "turn"),(.str "tiles"),(.str "mask")]) uv_HOLDERS):HN Z:=d.cal fun _ _ F=>AS ["row"] F (by walk_at "top")
def Np(d:Dd Z "_law_touched" KL)(c07:EI Z):HS Z:=d.cal fun _ _ F=>AS ["_law_rows","_law_deed_here","_law_name","_law_holder","_law_row"] F (by walk_at "top")
def Mb(d:Dd Z "_law_paint_of" Im)(c41:GW Z):GZ Z:=d.cal fun _ _ F=>AS ["_law_big_here","_law_shade","_law_share"] F (by walk_at "top")
def Ho(d:Dd Z "is_bounded_share" Ep)(c60:IU Z):CQ Z:=d.cal fun _ _ F=>AS ["thing"] F (by walk_at "top")
def O8(d:Dd Z "is_place" LV)(c02:CB Z):GV Z:=d.cal fun _ _ F=>AS ["thing"] F (by walk_at "top")
def RS(d:Dd Z "is_turn" Mq)(c22:GS Z)(c02:CB Z)(z_len:zQ Z "len"):Jm Z:=d.cal fun _ _ F=>AS ["data"] F (by walk_at "top")
def Nm(d:Dd Z "are_tiles" KI)(c02:CB Z)(z_len:zQ Z "len"):HP Z:=d.cal fun _ _ F=>AS ["data"] F (by walk_at "top")
def MX(d:Dd Z "holders_of" Ij)(c05:DM Z)(c03:CN Z):Ed Z:=d.cal fun _ _ F=>AS ["rows","name","holders","row"] F (by walk_at "top")
def Ra(d:Dd Z "row_of" Oh){cls:Nat->Addr}(c05:DM Z)(hm_NoName:clZ Z cls 6 "NoName"):MG Z cls:=d.xc fun _ _ F=>Hd ["rows","name","row"] F (by walk_at "topX")
def N2(d:Dd Z "row_done" LL){cls:Nat->Addr}(c28:ED Z)(c04:CY Z)(c29:EC Z)(X_row_turned:GN Z cls)(X_row_sized:HI Z cls):IQ Z cls:=d.xc fun _ _ F=>Hd ["row","deed","what"] F (by walk_at "topX")
def RV(d:Dd Z "is_mask" Mt)(c05:DM Z)(c01:CK Z):Jp Z:=d.cal fun _ _ F=>AS ["rows","name","row"] F (by walk_at "top")
def Nx(d:Dd Z "_law_data_of" KS)(c49:HU Z)(c11:EV Z)(c42:GZ Z)(c50:HR Z)(c34:FE Z):FV Z:=d.cal fun _ _ F=>AS ["_law_kind","_law_big_here","_law_data","_law_w","_law_h","_law_sx","_law_sy","_law_shade","_law_share","_law_text","_law_rows"] F (by walk_at "top")
def O9(d:Dd Z "is_paint" LW)(c08:CQ Z):EE Z:=d.cal fun _ _ F=>AS ["shade","share"] F (by walk_at "top")
def PB(d:Dd Z "is_glass" LX)(c08:CQ Z)(z_len:zQ Z "len"):IW Z:=d.cal fun _ _ F=>AS ["data"] F (by walk_at "top")
def Nj(d:Dd Z "is_window" J9)(c23:GV Z)(c02:CB Z)(z_len:zQ Z "len"):HM Z:=d.cal fun _ _ F=>AS ["data"] F (by walk_at "top")
def O1(d:Dd Z "parts_in" LN)(c15:Ed Z)(c00:Br Z):GP Z:=d.cal fun _ _ F=>AS ["rows","name"] F (by walk_at "top")
def O5(d:Dd Z "is_tiles" LQ)(c01:CK Z)(c10:F6 Z):IS Z:=d.cal fun _ _ F=>AS ["rows","name"] F (by walk_at "top")
def Ko(d:Dd Z "place_behind" Gr)(c10:F6 Z):FC Z:=d.cal fun _ _ F=>AS ["rows","holder"] F (by walk_at "top")
def Ng(d:Dd Z "row_meant" J5)(c10:F6 Z):HL Z:=d.cal fun _ _ F=>AS ["rows","deed"] F (by walk_at "top")
def PH(d:Dd Z "_law_row_of" LZ)(c51:HW Z)(c61:OZ Z)(c31:Hj Z)(c11:EV Z)(c18:FV Z)(z_len:zQ Z "len"):GY Z:=d.cal fun _ _ F=>AS ["_law_rows","_law_big_here","_law_name","_law_holders","_law_row","_law_holder","_law_x","_law_y","_law_kind","_law_up_here","_law_shown","_law_data"] F (by walk_at "top")
def O7(d:Dd Z "is_plate" LU)(c09:EE Z)(c02:CB Z)(z_len:zQ Z "len"):IV Z:=d.cal fun _ _ F=>AS ["data"] F (by walk_at "top")
def RX(d:Dd Z "is_band" Mv)(c09:EE Z)(c02:CB Z)(z_len:zQ Z "len"):Jr Z:=d.cal fun _ _ F=>AS ["data"] F (by walk_at "top")
def RQ(d:Dd Z "is_word" Mp)(c09:EE Z)(c35:FD Z)(z_len:zQ Z "len"):Jl Z:=d.cal fun _ _ F=>AS ["data"] F (by walk_at "top")
def MW(d:Dd Z "is_stencil" Ii)(c09:EE Z)(c20:DJ Z)(z_len:zQ Z "len"):GU Z:=d.cal fun _ _ F=>AS ["data"] F (by walk_at "top")
def Nt(d:Dd Z "_law_ordered" KP)(c24:GP Z)(c07:EI Z)(z_int:zQ Z "int"):HV Z:=d.cal fun _ _ F=>AS ["_law_rows","_law_deed_here","_law_names","_law_own","_law_rest","_law_holder","_law_at"] F (by walk_at "top")
def MU(d:Dd Z "names_with" Ig)(c24:GP Z):Eb Z:=d.cal fun _ _ F=>AS ["rows","name"] F (by walk_at "top")
def MS(d:Dd Z "touched_by" Ib){uv_AMONG_OTHERS:Value}(c52:HL Z)(c64:Jp Z)(c03:CN Z)(c00:Br Z)(kc_AMONG_OTHERS:kaZ Z "AMONG_OTHERS" (.tuple [(.str "put"),(.str "take"),(.str "raise"),(.str "sink")]) uv_AMONG_OTHERS):GO Z:=d.cal fun _ _ F=>AS ["rows","deed","row"] F (by walk_at "top")
def MZ(d:Dd Z "_law_scene_of" Il)(c25:GY Z)(c48:K4 Z)(z_range:zQ Z "range"):GX Z:=d.cal fun _ _ F=>AS ["_law_script","_law_first","_law_many_here","_law_rows","_law_k","_law_row","_law_big_here"] F (by walk_at "top")
def RW(d:Dd Z "is_data" Mu)(c37:IV Z)(c43:Jr Z)(c44:Jl Z)(c30:GU Z)(c26:IX Z)(c38:IW Z)(c32:HM Z)(c45:Jm Z)(c33:HP Z)(z_tuple:zQ Z "tuple")(z_isinstance:zQ Z "isinstance")(z_str:zQ Z "str")(kc5_FORMS:kfZ Z 5 "FORMS" BW):Jq Z:=d.cal fun _ _ F=>AS ["kind","data"] F (by walk_at "top")
def Kn(d:Dd Z "rows_without" Gp)(c16:Eb Z)(c00:Br Z):Co Z:=d.cal fun _ _ F=>AS ["rows","name","names"] F (by walk_at "top")
def Nc(d:Dd Z "rows_with" Jz)(c16:Eb Z)(c00:Br Z):FU Z:=d.cal fun _ _ F=>AS ["rows","name","names"] F (by walk_at "top")
def Nv(d:Dd Z "_law_deed_of" KR)(c25:GY Z)(c11:EV Z)(c18:FV Z)(z_len:zQ Z "len"):HX Z:=d.cal fun _ _ F=>AS ["_law_rows","_law_big_here","_law_words","_law_word","_law_names","_law_spot","_law_name","_law_row","_law_kinds_here","_law_x","_law_y","_law_kind"] F (by walk_at "top")
def Tt(d:Dd Z "is_row" Oi)(c65:Jo Z)(c00:Br Z)(c03:CN Z)(c23:GV Z)(c73:OX Z)(c74:OY Z)(c66:Jq Z)(c13:FA Z)(c01:CK Z)(c22:GS Z)(c53:HK Z)(z_len:zQ Z "len")(z_tuple:zQ Z "tuple")(z_isinstance:zQ Z "isinstance"):F7 Z:=d.cal fun _ _ F=>AS ["thing"] F (by walk_at "top")
def Lh(d:Dd Z "rows_raised" Hx)(c06:Co Z)(c19:FU Z):Fe Z:=d.cal fun _ _ F=>AS ["rows","name"] F (by walk_at "top")
def Nd(d:Dd Z "rows_sunk" J0)(c06:Co Z)(c36:FC Z)(c03:CN Z)(c10:F6 Z)(c19:FU Z):HJ Z:=d.cal fun _ _ F=>AS ["rows","name","rest","place"] F (by walk_at "top")
def Tu(d:Dd Z "_law_with" Oj)(c12:F7 Z)(z_int:zQ Z "int"):MH Z:=d.cal fun _ _ F=>AS ["_law_rows","_law_row"] F (by walk_at "top")
def Vl(d:Dd Z "_law_put" SR)(c12:F7 Z)(c07:EI Z)(c31:Hj Z)(c61:OZ Z)(z_len:zQ Z "len"):Oa Z:=d.cal fun _ _ F=>AS ["_law_rows","_law_row","_law_holder","_law_made","_law_chain"] F (by walk_at "top")
def JY(d:Dd Z "rows_changed" Gq){cls:Nat->Addr}(c10:F6 Z)(c12:F7 Z)(c00:Br Z)(hm_NoPart:clZ Z cls 0 "NoPart")(X_row_done:IQ Z cls):E9 Z cls:=d.xc fun _ _ F=>Nl ["rows","deed","changed"] F (by walk_at "topX")
def PM(d:Dd Z "vet_row" Mo){cls:Nat->Addr}{tk_MOST_HOLDERS:Tok}(c12:F7 Z)(c05:DM Z)(c00:Br Z)(c03:CN Z)(c54:HN Z)(c15:Ed Z)(c62:IS Z)(c01:CK Z)(z_len:zQ Z "len")(z_any:zQ Z "any")(kc_MOST_HOLDERS:kiZ Z "MOST_HOLDERS" 6 tk_MOST_HOLDERS)(hm_NoPart:clZ Z cls 0 "NoPart")(hm_Twice:clZ Z cls 1 "Twice")(hm_NoHolder:clZ Z cls 2 "NoHolder")(hm_TooDeep:clZ Z cls 3 "TooDeep")(hm_Nested:clZ Z cls 4 "Nested"):Jk Z cls:=d.xc fun _ _ F=>Hd ["ahead","row","holder","holders"] F (by walk_at "topX")
def Tz(d:Dd Z "_law_deed" Om)(c75:Oa Z)(c07:EI Z)(c55:HV Z)(c68:MH Z):MJ Z:=d.cal fun _ _ F=>AS ["_law_rows","_law_deed_here","_law_row"] F (by walk_at "top")
def Xt(d:Dd Z "vet" ZR){cls:Nat->Addr}{tk_MOST_ROWS:Tok}(z_enumerate:zQ Z "enumerate")(z_len:zQ Z "len")(kc_MOST_ROWS:kiZ Z "MOST_ROWS" 24 tk_MOST_ROWS)(hm_TooMany:clZ Z cls 5 "TooMany")(X_vet_row:Jk Z cls):Wt Z cls:=d.xc fun _ _ F=>Hd ["rows","place","row"] F (by walk_at "topX")
def N1(d:Dd Z "rows_put" LI){cls:Nat->Addr}(X_vet:Wt Z cls):IP Z cls:=d.xc fun _ _ F=>Nl ["rows","row","behind"] F (by walk_at "topX")
def Md(d:Dd Z "deed_done" KG){cls:Nat->Addr}(c06:Co Z)(c39:Fe Z)(c56:HJ Z)(X_rows_put:IP Z cls)(X_row_of:MG Z cls)(X_rows_changed:E9 Z cls):Kh Z cls:=d.xc fun _ _ F=>Nl ["rows","deed","what"] F (by walk_at "topX")
end
section
variable {P:Program} {w:World} {K:PySem.W.Frag} {mg:Str->Option Value} {base:Heap} {f:Addr} {fd:FuncData}
def sc_L_which:Ee ["_law_e","_law_kinds_here","_law_names"] ["_law_e"] (AV Au):=⟨rfl,rfl,rfl,∅,rfl,∅,∅⟩
def BU:lcP Au "_law_e":=∅
def BS:lcP Au "_law_kinds_here":=∅
def Ka:lcP Au "_law_names":=∅
def Pa:(AV Au).names.lookup ("_law_names":Str)=some NameKind.local:=∅
def Kt:glP Au "Twice":=∅
def Ad:glP Au "isinstance":=∅
def Jd:glP Au "NoPart":=∅
def JI:glP Au "TooDeep":=∅
def IH:glP Au "NoHolder":=∅
def Jf:glP Au "Nested":=∅
def Je:glP Au "NoName":=∅
def JH:glP Au "TooMany":=∅
def Jc:glP Au "NoStep":=∅
def Hr:glP Au "WrongKind":=∅
def HE:glP Au "ValueError":=∅
def Me:glP Au "len":=∅
def PR:List.Nodup (["_law_pair"]:List Str):=∅
def P8:dcP "NoName":=∅
def P7:dcP "NoStep":=∅
def K9:dcP "SceneError":=∅
def K7:dcP "ValueError":=∅
def MN:dcP "WrongKind":=∅
def BL:dcP "_law_e":=∅
def BP:dcP "_law_kinds_here":=∅
def EJ:dcP "_law_pair":=∅
def K6:dcP "_law_which":=∅
def Kk:("ValueError":Str)≠"__name__":=∅
def spW(C:Addr)(n:Nat):Addr->Obj->Sp:=fun ea oe vs H Q _=>vs=[.ref ea]/\H ea=some (.frz oe (.own ea))/\(oe.cls = .ref C/\oe.dict=none/\PySem.W.notCls oe=true)/\∀H',Same H H'->Q (.str (whS n)) H'
def prs(n:Nat):List PyData:=[prD "NoPart" (n==0),prD "Twice" (n==1)]++[prD "NoHolder" (n==2),prD "TooDeep" (n==3)]++[prD "Nested" (n==4)]++[prD "TooMany" (n==5),prD "NoName" (n==6)]++[prD "WrongKind" (n==7),prD "NoStep" (n==8)]
def Zk:DX:=dLC 1 [] (dIL qE) QY (AD QE) qc
def WS{n:Nat}(hn:n<8):Zk [none,some (.d (.list (prs n))),none]=some (.list [.str (whS n)],[none,some (.d (.list (prs n))),none]):=by
 match n,hn with
 |0,_=>rfl
 |1,_=>rfl
 |2,_=>rfl
 |3,_=>rfl
 |4,_=>rfl
 |5,_=>rfl
 |6,_=>rfl
 |7,_=>rfl
def ie:bootBuiltins "ValueError"=some (.type "ValueError"):=by first|rfl|decide +kernel
def jY{K:KW}{i:Nat}{x:PyData}{τ:DS}{σ:St}{H:Hp}{v:V}(hl:σ.length=τ.length)(ht:∀j l,τ[j]?=some (some l)->j=i/\l = .d x)(hv:σ[i]?=some (some v))(hx:Is K (hid Zd H) x v):R K Zd Zd τ σ H :=
 Wv hl (fun j l e=>by obtain⟨rfl,rfl⟩:=ht j l e;exact⟨x,v,rfl,hv,hx⟩) fun _ h=>h.elim
def Li{cs:List Addr}{D:Addr}{n:Nat}(hl9:cs.length=9)(hn6:n<8)(F:Fun K "_law_which" "_law_which" Au f fd)(o:R6 K D cs n)(hm0:mg "NoPart"=some (.ref (cs.getD 0 0)))(hm1:mg "Twice"=some (.ref (cs.getD 1 0)))(hm2:mg "NoHolder"=some (.ref (cs.getD 2 0)))(hm3:mg "TooDeep"=some (.ref (cs.getD 3 0)))(hm4:mg "Nested"=some (.ref (cs.getD 4 0)))(hm5:mg "TooMany"=some (.ref (cs.getD 5 0)))(hm6:mg "NoName"=some (.ref (cs.getD 6 0)))(hm7:mg "WrongKind"=some (.ref (cs.getD 7 0)))(hm8:mg "NoStep"=some (.ref (cs.getD 8 0)))(zi:mg "isinstance"=none)(zv:mg "ValueError"=none)(zl:mg "len"=none) :
  TU P w K mg base 1 f fd ["_law_e"] (spW (cs.getD n 0) n):=by
 have nd:=sc_L_which.nd
 refine F.okH sc_L_which (fun ea oe vs H Q E h=>by obtain⟨rfl,_⟩:=h;rfl) (fun ea oe cdv A outer s H vs Q E hr hq h=>?_)
 obtain⟨rfl,hH,⟨hc,hd,hn⟩,q⟩:=h
 have hu:=jy hr
 have ks:=fun j (hj:j<9)=>o.ks j (by rw[hl9];exact hj)
 refine⟨_,(@DU _ _ _ _ _ (@IC _ _ 1 _ _ _ _ nd rfl BS (@IE _ _ _ _ (AR (Es (AR EW (AR (Bu (CH (ea:=ea) hc hd hn o.xc (ks 0 (by decide))) Ad zi ko (AR (pvL 0 rfl BU BL) (AR (Cb (v:=.ref (cs.getD 0 0)) Jd hm0 rfl UJ.1) Az ⋯) ⋯) A5 A9.1 ⋯ ⋯) Az ⋯) ⋯)) (AR (Es (AR EW (AR (Bu (CH (ea:=ea) hc hd hn o.xc (ks 1 (by decide))) Ad zi ko (AR (pvL 0 rfl BU BL) (AR (Cb (v:=.ref (cs.getD 1 0)) Kt hm1 rfl WO.1) Az ⋯) ⋯) A5 A9.1 ⋯ ⋯) Az ⋯) ⋯)) Az ⋯) ⋯)) ⋯ ⋯) (@DU _ _ _ _ _ (@IC _ _ 1 _ _ _ _ nd rfl BS (@Ou _ _ _ _ _ _ _ _ Lf (pvL 1 rfl BS BP) (@IE _ _ _ _ (AR (Es (AR EW (AR (Bu (CH (ea:=ea) hc hd hn o.xc (ks 2 (by decide))) Ad zi ko (AR (pvL 0 rfl BU BL) (AR (Cb (v:=.ref (cs.getD 2 0)) IH hm2 rfl Pp.1) Az ⋯) ⋯) A5 A9.1 ⋯ ⋯) Az ⋯) ⋯)) (AR (Es (AR EW (AR (Bu (CH (ea:=ea) hc hd hn o.xc (ks 3 (by decide))) Ad zi ko (AR (pvL 0 rfl BU BL) (AR (Cb (v:=.ref (cs.getD 3 0)) JI hm3 rfl Rq.1) Az ⋯) ⋯) A5 A9.1 ⋯ ⋯) Az ⋯) ⋯)) Az ⋯) ⋯))) ⋯ ⋯) (@DU _ _ _ _ _ (@IC _ _ 1 _ _ _ _ nd rfl BS (@Ou _ _ _ _ _ _ _ _ Lf (pvL 1 rfl BS BP) (@IE _ _ _ _ (AR (Es (AR EW (AR (Bu (CH (ea:=ea) hc hd hn o.xc (ks 4 (by decide))) Ad zi ko (AR (pvL 0 rfl BU BL) (AR (Cb (v:=.ref (cs.getD 4 0)) Jf hm4 rfl UK.1) Az ⋯) ⋯) A5 A9.1 ⋯ ⋯) Az ⋯) ⋯)) Az ⋯))) ⋯ ⋯) (@DU _ _ _ _ _ (@IC _ _ 1 _ _ _ _ nd rfl BS (@Ou _ _ _ _ _ _ _ _ Lf (pvL 1 rfl BS BP) (@IE _ _ _ _ (AR (Es (AR EW (AR (Bu (CH (ea:=ea) hc hd hn o.xc (ks 5 (by decide))) Ad zi ko (AR (pvL 0 rfl BU BL) (AR (Cb (v:=.ref (cs.getD 5 0)) JH hm5 rfl Rp.1) Az ⋯) ⋯) A5 A9.1 ⋯ ⋯) Az ⋯) ⋯)) (AR (Es (AR EW (AR (Bu (CH (ea:=ea) hc hd hn o.xc (ks 6 (by decide))) Ad zi ko (AR (pvL 0 rfl BU BL) (AR (Cb (v:=.ref (cs.getD 6 0)) Je hm6 rfl P8.1) Az ⋯) ⋯) A5 A9.1 ⋯ ⋯) Az ⋯) ⋯)) Az ⋯) ⋯))) ⋯ ⋯) (@DU _ _ _ _ _ (@IC _ _ 1 _ _ _ _ nd rfl BS (@Ou _ _ _ _ _ _ _ _ Lf (pvL 1 rfl BS BP) (@IE _ _ _ _ (AR (Es (AR EW (AR (Bu (CH (ea:=ea) hc hd hn o.xc (ks 7 (by decide))) Ad zi ko (AR (pvL 0 rfl BU BL) (AR (Cb (v:=.ref (cs.getD 7 0)) Hr hm7 rfl MN.1) Az ⋯) ⋯) A5 A9.1 ⋯ ⋯) Az ⋯) ⋯)) (AR (Es (AR EW (AR (Bu (CH (ea:=ea) hc hd hn o.xc (ks 8 (by decide))) Ad zi ko (AR (pvL 0 rfl BU BL) (AR (Cb (v:=.ref (cs.getD 8 0)) Jc hm8 rfl P7.1) Az ⋯) ⋯) A5 A9.1 ⋯ ⋯) Az ⋯) ⋯)) Az ⋯) ⋯))) ⋯ ⋯) (@DU _ _ _ _ _ (@Tf _ ["_law_pair"] 1 [] _ _ _ _ _ _ ea oe _ _ _ _ 2 _ _ _ hq nd rfl Pa (@ZZ _ ["_law_pair"] 1 [] _ ["_law_e","_law_kinds_here","_law_names"] (AV Au) rfl rfl ∅) (pvL 1 rfl BS BP) (fun cl fp s3 H3=>(@Sf _ _ 0 _ PR rfl (M6 ∅) (Or.inr (Gv ∅)))) (fun cl fp s3 H3=>(@Sb _ _ _ (RL (@Iu _ _ _ _ _ _ _ (show IxR _ (NW K) from Lp) (pv 0 rfl (JS ∅) EJ.1 EJ.2) Ld (fun _ _=>rfl)) ⋯))) (fun cl fp s3 H3=>(@Iu _ _ _ _ _ _ _ (show IxR _ (NW K) from Lp) (pv 0 rfl (JS ∅) EJ.1 EJ.2) Ld (fun _ _=>rfl))) ⋯ ⋯) (@DU _ _ _ _ _ (@VQ _ _ _ _ _ _ _ _ (PW.pt (ZU (@NY _ _ _ _ _ _ _ _ (@Vf _ hu) (Bu ME Me zl nQ (AR (pvL 2 rfl Ka H0) Az ⋯) Xv bj.1 ⋯ ⋯) Ld (az _)) (@VD _ _ _ _ (VI (RL (Bu (US (ea:=ea) hc hd hn o.xc o.ve) Ad zi ko (AR (pvL 0 rfl BU BL) (AR (ZV HE zv ie Kk K7.1) Az ⋯) ⋯) A5 A9.1 ⋯ ⋯) ⋯))))) (@Iq _ _ _ (@ID _ _ _ _ EW)) NZ) (@Iq _ _ _ (@ID _ _ _ _ (@Iu _ _ _ _ _ _ _ N8 (pvL 2 rfl Ka H0) Ld (fun _ _=>rfl))))))))))),?_⟩
 show Uw _ _ _ [some (V.ref ea),none,none] H
 dsimp only[Uw,JU,FO]
 refine JD (K:=⟨K,w⟩) rfl hH fun l1 H1 m1 i1=>?_
 have mk:∀{Ha Hb:Hp},Same Ha Hb->Same (hid Zd Ha) (hid Zd Hb):=fun m=>(Same.keep (S:=Zd) m).same
 refine⟨.ref l1,rfl,?_⟩
 refine JD (K:=⟨K,w⟩) rfl (m1 _ _ hH) fun l2 H2 m2 i2=>?_
 refine K3 (i1.mono (mk m2)) i2 (by decide:4<=sizeLine) fun l3 H3 m3 i3=>?_
 have h3:=m3 _ _ (m2 _ _ (m1 _ _ hH))
 refine⟨.ref l3,rfl,?_⟩
 refine Vz (K:=⟨K,w⟩) rfl h3 fun l4 H4 m4 i4=>?_
 refine K3 (i3.mono (mk m4)) i4 (by decide:5<=sizeLine) fun l5 H5 m5 i5=>?_
 have h5:=m5 _ _ (m4 _ _ h3)
 refine⟨.ref l5,rfl,?_⟩
 refine JD (K:=⟨K,w⟩) rfl h5 fun l6 H6 m6 i6=>?_
 refine K3 (i5.mono (mk m6)) i6 (by decide:7<=sizeLine) fun l7 H7 m7 i7=>?_
 have h7:=m7 _ _ (m6 _ _ h5)
 refine⟨.ref l7,rfl,?_⟩
 refine JD (K:=⟨K,w⟩) rfl h7 fun l8 H8 m8 i8=>?_
 refine K3 (i7.mono (mk m8)) i8 (by decide:9<=sizeLine) fun l9 H9 m9 i9=>?_
 have h9:=m9 _ _ (m8 _ _ h7)
 have m19:Same H H9:=fun b o e=>m9 _ _ (m8 _ _ (m7 _ _ (m6 _ _ (m5 _ _ (m4 _ _ (m3 _ _ (m2 _ _ (m1 _ _ e))))))))
 have hE:DL.E (⟨K,w⟩:KW) (tLC 1 [] (M8 K (Dq 1)) (FO 0) (tB (tOp _ (Dq 0) (tC (.int 1)))) (tOp _ (Dq 0) (tC (.int 0)))) true Zk:=gu (Ss Lw) E2 (ZJ (OJ Vp Lw NF)) (OJ Vp Lw NF)
 have r9 : R (⟨K, w⟩ : KW) Zd Zd [none, some (.d (.list (prs n))), none] [some (V.ref ea), some (V.ref l9), none] H9 := jY (i := 1) rfl (fun j l e => by
  match j,e with
  |0,e=>cases e
  |1,e=>cases e;exact⟨rfl,rfl⟩
  |2,e=>cases e
  |j+3,e=>cases e) rfl i9
 refine hE.weak.run Zd Zd _ [some (V.ref ea),some (V.ref l9),none] H9 _ _ _ r9 (WS hn6) fun vn HA rA cA iA=>?_
 have sA:Same H9 HA:=fun b o e=>cA b o (fun z=>z) e
 have hA:=sA _ _ h9
 have r2 : R (⟨K, w⟩ : KW) Zd Zd [none, none, some (.d (.list [.str (whS n)]))] [some (V.ref ea), some (V.ref l9), some vn] HA := jY (i := 2) rfl (fun j l e => by
  match j,e with
  |0,e=>cases e
  |1,e=>cases e
  |2,e=>cases e;exact⟨rfl,rfl⟩
  |j+3,e=>cases e) rfl iA
 have hT:T (⟨K,w⟩:KW) (SJ (tOp _ (tCB _ (Bs (Dq 2) Em)) (tC (.int 1)))) (AD (dOp fNe (Ak Bp qZ) qH)):=FY (OJ gB (Zi Zl (Ws Lw TR)) NF)
 refine hT.run Zd Zd _ [some (V.ref ea),some (V.ref l9),some vn] HA _ false _ r2 rfl fun HB rB cB=>?_
 have sB:Same HA HB:=fun b o e=>cB b o (fun z=>z) e
 rw[if_neg kr]
 refine⟨.ref ea,rfl,rfl,sB _ _ hA,true,rfl,?_⟩
 dsimp only
 rw[if_neg (show ¬((!true)=true) from kr)]
 have hR:DL.E (⟨K,w⟩:KW) (tOp _ (Dq 2) (tC (.int 0))) false (dOp DR qI qD):=OJ ZW Lw NF
 refine hR.run Zd Zd _ [some (V.ref ea),some (V.ref l9),some vn] HB _ (.str (whS n)) _ rB rfl fun v HC rC cC iC=>?_
 cases (show v = .str (whS n) from iC)
 exact q HC fun b o e=>cC b o (fun z=>z) (sB _ _ (sA _ _ (m19 _ _ e)))
def SE{ls ls':List L}{r:PyData}(h:Dg ls=some (r,ls')):∃x y:PyData,ls=[.d x,.d y]/\ls'=ls/\((∃l,BJ [x,y]=some (.inl (.list l))/\fixDs l=true/\r = .tuple [.str "",.list l])\/∃n,n<8/\BJ [x,y]=some (.inr n)/\r = .tuple [.str (whS n),.none]):=by
 unfold Dg at h
 split at h
 ·rename_i x y
  split at h
  ·rename_i l e
   split at h
   ·rename_i fx
    cases h
    exact⟨x,y,rfl,rfl,.inl ⟨l,e,fx,rfl⟩⟩
   ·cases h
  ·rename_i n e
   split at h
   ·rename_i hn
    cases h
    exact⟨x,y,rfl,rfl,.inr ⟨n,hn,e,rfl⟩⟩
   ·cases h
  ·cases h
 ·cases h
def sc_L_told:Ee ["_law_rows","_law_deed_here","_law_e"] ["_law_rows","_law_deed_here"] (AV Bt):=⟨rfl,rfl,rfl,∅,rfl,∅,∅⟩
def jg:Vis (AV Bt) "_law_rows":=by unfold Vis;decide +kernel
def jf:Vis (AV Bt) "_law_deed_here":=by unfold Vis;decide +kernel
def je:Vis (AV Bt) "_law_e":=by unfold Vis;decide +kernel
def jt:(AV Bt).names.lookup ("_law_e":Str)=some NameKind.local:=∅
def gb:glP Bt "deed_done":=∅
def gc:glP Bt "SceneError":=∅
def gZ:glP Bt "_law_which":=∅
def Sd{cs:List Addr}{D fv fw:Addr}{fdv fdw:FuncData}{n:Nat}(CF:FnOk P w K mg base (CXr P w) 11 fv fdv ["rows","deed"] (spO ⟨K,w⟩ BJ (fun n=>cs.getD n 0) true))(mf:mg "deed_done"=some (.ref fv))(kf:PySem.W.keepIn K (.ref fv)=true)(bf:Binds K fdv ["rows","deed"] [])
  (FW:TU P w K mg base 1 fw fdw ["_law_e"] (spW (cs.getD n 0) n)) (mw:mg "_law_which"=some (.ref fw)) (kw:PySem.W.keepIn K (.ref fw)=true) (bw:Binds K fdw ["_law_e"] []) (mD:mg "SceneError"=some (.ref D)) (o:R6 K D cs n)
  {cdv:Value} {A:Around} {outer:List Env} {s:Shared} {H:Hp} {E:XK} (hr:Room 11 (A.deeper (PyProof.Rows.envOfC "_law_told" (AV Bt) s.heap.objs.size f cdv))) :
  PSs (JP CX0 P w K mg base ["_law_rows","_law_deed_here","_law_e"] "_law_told" (AV Bt) f cdv A outer s H E).nox (Bk Bt)
   (SI (spO ⟨K,w⟩ BJ (fun n=>cs.getD n 0) true) "" (Bs (Dq 0) (Bs (Dq 1) Em)) (cs.getD n 0) 2 (fun ea oe=>TY (W9 (Bs (fun σ H Q=>Bs (Dq 2) Em σ H fun vs H1=>H1 ea=some (.frz oe (.own ea))/\spW (cs.getD n 0) n ea oe vs H1 Q E0) (Bs (tC .non) Em))))):=by
 have nd:=sc_L_told.nd
 have one:∀{X:Cx} {x:Stmt} {u:TS},PS X x u->PSs X [x] u:=fun h=>Iq h
 exact one (Te (C := cs.getD n 0) (i := 2) CF hr gb mf kf bf (AR (pv 0 rfl jg JO.1 JO.2) (AR (pv 1 rfl jf FT.1 FT.2) Az ⋯) ⋯) ⟨rfl, rfl⟩ rfl gc mD o.ct nd rfl jt
   (fun ea oe hc hd hn hno=>one (@ID _ _ _ _ (Es (AR (Va (ea:=ea) (oe:=oe) FW ⟨rfl,(hr.mono (by decide:1<=11)).dp,(hr.mono (by decide:1<=11)).un⟩ rfl hno gZ mw kw bw (AR (pv 2 rfl je BL.1 BL.2) Az ⋯) K6.1 ⋯ ⋯) (AR VW Az ⋯) ⋯))))
   OL.1 K9.1 ⋯ ⋯)
def Tv{cs:List Addr}{D fw:Addr}{fdw:FuncData}(F:Fun K "_law_told" "_law_told" Bt f fd)(hl9:cs.length=9)(XF:∃fv fdv,FnOk P w K mg base (CXr P w) 11 fv fdv ["rows","deed"] (spO ⟨K,w⟩ BJ (fun n=>cs.getD n 0) true)/\mg "deed_done"=some (.ref fv)/\PySem.W.keepIn K (.ref fv)=true/\Binds K fdv ["rows","deed"] [])
  (Fw:Fun K "_law_which" "_law_which" Au fw fdw) (mw:mg "_law_which"=some (.ref fw)) (kw:PySem.W.keepIn K (.ref fw)=true) (bw:Binds K fdw ["_law_e"] []) (mD:mg "SceneError"=some (.ref D)) (xa:L2.excAll K D cs 8=true) (hm0:mg "NoPart"=some (.ref (cs.getD 0 0))) (hm1:mg "Twice"=some (.ref (cs.getD 1 0))) (hm2:mg "NoHolder"=some (.ref (cs.getD 2 0))) (hm3:mg "TooDeep"=some (.ref (cs.getD 3 0))) (hm4:mg "Nested"=some (.ref (cs.getD 4 0))) (hm5:mg "TooMany"=some (.ref (cs.getD 5 0))) (hm6:mg "NoName"=some (.ref (cs.getD 6 0))) (hm7:mg "WrongKind"=some (.ref (cs.getD 7 0))) (hm8:mg "NoStep"=some (.ref (cs.getD 8 0))) (zi:mg "isinstance"=none) (zv:mg "ValueError"=none) (zl:mg "len"=none) :
  FnOk P w K mg base CX0 12 f fd ["_law_rows","_law_deed_here"] (spG ⟨K,w⟩ Dg):=by
 obtain⟨fv,fdv,CF,mf,kf,bf⟩:=XF
 refine F.ok sc_L_told (fun vs H Q E h=>?_) (fun cdv A outer s H vs Q E hr h=>?_)
 ·obtain⟨S,ds,r,ls',hR,hG,_⟩:=h
  obtain⟨x,y,e,_⟩:=SE hG
  have:=hR.len
  rw[e]at this
  simpa using this
 obtain⟨S,ds,r,ls',hR,hG,hq⟩:=h
 obtain⟨x,y,e,rfl,hx⟩:=SE hG
 rw[e]at hR
 obtain⟨v0,hv0,hi0⟩:=hR.dat 0 x rfl
 obtain⟨v1,hv1,hi1⟩:=hR.dat 1 y rfl
 have hvs:vs=[v0,v1]:=by
  match vs,hv0,hv1,hR.len with
  |[a,b],h0,h1,_=>cases h0;cases h1;rfl
  |[],h0,_,_=>cases h0
  |[_],_,h1,_=>cases h1
  |_::_::_::_,_,_,hl=>simp at hl
 subst hvs
 have il:IsL (⟨K,w⟩:KW) (hid S H) [x,y] [v0,v1]:=⟨_,_,rfl,hi0,_,_,rfl,hi1,rfl⟩
 rcases hx with ⟨l,hv,fx,rfl⟩|⟨n,hn,hv,rfl⟩
 ·have o:=L2.excAll_ok xa (by decide:0<8)
  refine⟨_,Sd CF mf kf bf (Li hl9 (by decide) Fw o hm0 hm1 hm2 hm3 hm4 hm5 hm6 hm7 hm8 zi zv zl) mw kw bw mD o hr,?_⟩
  refine⟨v0,rfl,v1,rfl,S,[x,y],_,il,hR.ex,hv,fun v H' sm res a ha=>?_⟩
  obtain⟨o',b,ho,e2,rfl,h1,h2,h3⟩:=(show Res (⟨K,w⟩:KW) true S H H' (.list l) v from res)
  obtain rfl:=Ow.D_list e2
  obtain⟨us,rfl,il'⟩:=h3
  have s2:=Ax ha (HO.tup [.str "",.ref b])
  have ab:b≠a:=fun z=>by rw[z]at h2;rw[ha]at h2;cases h2
  have aS:¬S a:=fun z=>by
   obtain⟨o',e⟩:=hR.ex a z
   rw[sm _ _ e]at ha;cases ha
  refine hq _ _ [b] (fun c o e=>s2 _ _ (sm _ _ e)) (by simp) (fun c hc=>by rw[ki.mp hc];exact h1) ⟨a,_,rfl,.inl (.inl (hid_iff.mpr ⟨aS,Ah⟩)),⟨_,_,[],[b],rfl,rfl,⟨rfl,rfl⟩,⟨_,_,[b],[],rfl,rfl,⟨b,us,[],rfl,rfl,by rw[Aq ab];exact h2,DpL.fix fx ?_⟩,⟨rfl,rfl⟩⟩⟩⟩
  exact(il'.mono (C5 fun c z=>.inl z)).mono (Same.keep s2).same
 ·have o:=L2.excAll_ok xa hn
  refine⟨_,Sd CF mf kf bf (Li hl9 hn Fw o hm0 hm1 hm2 hm3 hm4 hm5 hm6 hm7 hm8 zi zv zl) mw kw bw mD o hr,?_⟩
  refine⟨v0,rfl,v1,rfl,S,[x,y],_,il,hR.ex,hv,fun H1 s1=>⟨rfl,fun ea oe he hc hd hn' hno=>?_⟩⟩
  have s2:=Ax he (HO.frz oe (.own ea))
  refine⟨.ref ea,rfl,Ah,rfl,Ah,⟨hc,hd,hn'⟩,fun H2 s3=>⟨(by decide:2<=sizeLine),fun a ha=>?_⟩⟩
  have s4:=Ax ha (HO.tup [.str (whS n),.non])
  have aS:¬S a:=fun z=>by
   obtain⟨o',e⟩:=hR.ex a z
   rw[s3 _ _ (s2 _ _ (s1 _ _ e))]at ha;cases ha
  exact hq _ _ [] (fun b o e=>s4 _ _ (s3 _ _ (s2 _ _ (s1 _ _ e)))) List.nodup_nil (fun _ h=>by cases h) ⟨a,_,rfl,.inl (.inl (hid_iff.mpr ⟨aS,Ah⟩)),⟨_,_,[],[],rfl,rfl,⟨rfl,rfl⟩,⟨_,_,[],[],rfl,rfl,⟨rfl,rfl⟩,⟨rfl,rfl⟩⟩⟩⟩
end
section
variable {Z:Zz}
def RY(d:Dd Z "_law_right" Mw)(c69:MJ Z)(c70:P0 Z)(c46:GO Z)(c57:HS Z)(c40:Ff Z)(c58:Ki Z)(z_list:zQ Z "list"):Js Z:=d.cal fun _ _ F=>AS ["_law_rows","_law_deed_here","_law_handed","_law_due","_law_told_here"] F (by walk_at "top")
def au{f:Addr}{fd:FuncData}(F:Fun Z.K "law" "law" ZS f fd)(c47:GX Z)(c71:MI Z)(c48:K4 Z)(c67:Js Z)(c59:HX Z)(z_len:zQ Z "len")(z_min:zQ Z "min")(z_max:zQ Z "max")(z_range:zQ Z "range"):FnOk Z.P Z.w Z.K Z.mg Z.base CX0 14 f fd ["_law_script"] (spD Z.kw Ln false):=AS ["_law_script","_law_rows","_law_k"] F (by walk_at "top")
end
def BA{i j:Int}(h:0<j):Af (.int i) (.int j)=some (.int (i % j)):=if_pos h
def BZ{i j:Int}(h:0<j)(h1:j<10 ^ 70):A7 (.int i) (.int j)=some (.int (i / j)):=if_pos ⟨h,Wl h h1⟩
def Xw{i j:Int}(h:CMulB i j):II (.int i) (.int j)=some (.int (i*j)):=if_pos h
def VS:Pn (.int 10) (.int 18)=some (.int 1000000000000000000):=rfl
def Ju{ns:List Int}{k:Int}(h0:0<=k):∃v:Int,Bg [.c (ns.map .int),.d (.int k)]=some (.int v,[.c (ns.map .int),.d (.int k)]):=by
 by_cases h:k<(ns.length:Int)
 ·have hk:k.toNat<ns.length:=by omega
  have e:(ns.map PyData.int)[k.toNat]?=some (.int ns[k.toNat]):=by simp[hk]
  exact⟨ns[k.toNat],by walk_at "b|Bg,List.length_map,h0,h,decide_true,e"⟩
 ·exact⟨0,by walk_at "b|Bg,List.length_map,h0,h,decide_false"⟩
def Z7{xs:List Int}{k:Int}(h0:0<=k)(h:k<(xs.length:Int)):∃v:Int,atI (xs.map PyData.int) k=some (.int v)/\v∈xs:=by
 have hk:k.toNat<xs.length:=by omega
 refine⟨xs[k.toNat],?_,ma hk⟩
 unfold atI ixN
 rw[B',if_pos h0,if_pos h]
 simp[hk]
def by8:PyData:=.tuple ([48271,69621,16807,39373,21401,60493,87721,31337].map .int)
def pr8:PyData:=.tuple ([99991,99989,99971,99961,99929,99923,99907,99901].map .int)
def Ww{ns:List Int}{k:Int}(h0:0<=k):∃(v:Int) (ls:List L),Dk [.c (ns.map .int),.d (.int k)]=some (.int v,ls):=by
 obtain⟨cell,hc⟩:=Ju (ns:=ns) h0
 by_cases hb:(1000000000000000000:Int)<=cell
 ·exact⟨cell,_,by walk_at "b|Dk,hc,VS,hb,decide_true";rfl⟩
 ·have lp:∃t5,BC (dN 6) (AH (AI (dOp Ay (dOp Ay (dOp Af (AZ 0 Bg Qj) Qn) qH) (dOp II j8 j8)) (dN 7)) qX)
    ((rng 0 60).map PyData.int) [some (.c (ns.map .int)),some (.d (.int k)),some (.d by8),some (.d pr8),some (.d (.int cell)),some (.d (.int 0)),none,none]=some (.nx t5) /\
    ∃(b:Int) (o1 o2:Option L),nM o1/\nM o2/\t5=[some (.c (ns.map .int)),some (.d (.int k)),some (.d by8),some (.d pr8),some (.d (.int cell)),some (.d (.int b)),o1,o2]:=by
   refine M5 (enc:=PyData.int) (pre:=[]) (fun _ τ=>∃(b:Int) (o1 o2:Option L),nM o1/\nM o2/\τ=[some (.c (ns.map .int)),some (.d (.int k)),some (.d by8),some (.d pr8),some (.d (.int cell)),some (.d (.int b)),o1,o2]) ⟨0,none,none,BI,BI,rfl⟩ ?_
   rintro j _ τ hj ⟨b,o1,o2,n1,n2,rfl⟩
   have hj':=(mem_rng (n:=60)).mp hj
   have h9:0<=j % 9:=lN _ (by decide)
   obtain⟨c,hc⟩:=Ju (ns:=ns) (k:=k+j % 9) (by omega)
   obtain⟨u1,hu1,m1⟩:=Z7 (xs:=[48271,69621,16807,39373,21401,60493,87721,31337]) (k:=j % 8) (lN _ (by decide)) (lH _ (by decide))
   obtain⟨u2,hu2,m2⟩:=Z7 (xs:=[99991,99989,99971,99961,99929,99923,99907,99901]) (k:=j % 8) (lN _ (by decide)) (lH _ (by decide))
   have hu1':AN by8 (.int (j % 8))=some (.int u1):=hu1
   have hu2':AN pr8 (.int (j % 8))=some (.int u2):=hu2
   have m1':-(2 ^ 64)<u1/\u1<2 ^ 64:=by
    simp only[List.mem_cons,List.not_mem_nil,or_false]at m1
    omega
   have m2':0<u2:=by
    simp only[List.mem_cons,List.not_mem_nil,or_false]at m2
    omega
   have x1:II (.int j) (.int j)=some (.int (j*j)):=Xw (.inl (.inl ⟨by omega,by omega⟩))
   have x2:II (.int b) (.int 7919)=some (.int (b*7919)):=Xw (.inl (.inr ⟨by decide,by decide⟩))
   have x3:∀z:Int,II (.int z) (.int u1)=some (.int (z*u1)):=fun z=>Xw (.inl (.inr m1'))
   have x4:∀z:Int,Af (.int z) (.int u2)=some (.int (z % u2)):=fun z=>BA m2'
   have x5:∀z:Int,Af (.int z) (.int 7919)=some (.int (z % 7919)):=fun z=>BA (by decide)
   have x6:∀z:Int,Af (.int z) (.int 9)=some (.int (z % 9)):=fun z=>BA (by decide)
   have x7:∀z:Int,Af (.int z) (.int 8)=some (.int (z % 8)):=fun z=>BA (by decide)
   have x8:∀z:Int,Af (.int z) (.int 1000000000000000000)=some (.int (z % 1000000000000000000)):=fun z=>BA (by decide)
   refine⟨_,[some (.c (ns.map .int)),some (.d (.int k)),some (.d by8),some (.d pr8),some (.d (.int cell)),some (.d (.int (b*7919+(c % 1000000000000000000+1+j*j)*u1 % u2 % 7919))),some (.d (.int j)),some (.d (.int (c % 1000000000000000000+1+j*j)))],Cv rfl n1,?_,_,_,_,DQ,DQ,rfl⟩
   refine(AE (t4:=[some (.c (ns.map .int)),some (.d (.int k)),some (.d by8),some (.d pr8),some (.d (.int cell)),some (.d (.int b)),some (.d (.int j)),some (.d (.int (c % 1000000000000000000+1+j*j)))]) (AU (d:=.int (c % 1000000000000000000+1+j*j)) (t4:=[some (.c (ns.map .int)),some (.d (.int k)),some (.d by8),some (.d pr8),some (.d (.int cell)),some (.d (.int b)),some (.d (.int j)),o2]) ?_ (Cv rfl n2))).trans ?_
   ·simp only[dOp,AJ,dC,AZ,AA,AF,A1,Ay,fI,VS,hc,x1,x6,x8,List.getElem?_cons_zero,List.getElem?_cons_succ,List.set_cons_zero,List.set_cons_succ,Option.bind_some,Option.map_some,List.map_cons,List.map_nil]
   ·simp only[AI,dN,dOp,AJ,dC,Ay,fI,hu1',hu2',x2,x3,x4,x5,x7,List.getElem?_cons_zero,List.getElem?_cons_succ,List.set_cons_zero,List.set_cons_succ,Option.bind_some,Option.map_some]
  obtain⟨t5,e,b,o1,o2,n1,n2,rfl⟩:=lp
  refine⟨b,[.c (ns.map .int),.d (.int k)],?_⟩
  have hr:dR1 jK [some (.c (ns.map .int)),some (.d (.int k)),some (.d by8),some (.d pr8),some (.d (.int cell)),some (.d (.int 0)),none,none]=some ((rng 0 60).map PyData.int,[some (.c (ns.map .int)),some (.d (.int k)),some (.d by8),some (.d pr8),some (.d (.int cell)),some (.d (.int 0)),none,none]):=by
   rw[<- M1];rfl
  refine AL (τ:=[some (.c (ns.map .int)),some (.d (.int k)),some (.d by8),some (.d pr8),some (.d (.int cell)),some (.d (.int b)),o1,o2]) ?_ rfl rfl
  refine(AE rfl).trans ((AE rfl).trans ((AE (t4:=[some (.c (ns.map .int)),some (.d (.int k)),some (.d by8),some (.d pr8),some (.d (.int cell)),none,none,none]) (AU (E7 (xs:=ns.map .int) rfl rfl rfl hc) rfl)).trans ?_))
  refine(AE (t4:=[some (.c (ns.map .int)),some (.d (.int k)),some (.d by8),some (.d pr8),some (.d (.int cell)),none,none,none]) ?_).trans ((AE (t4:=[some (.c (ns.map .int)),some (.d (.int k)),some (.d by8),some (.d pr8),some (.d (.int cell)),some (.d (.int 0)),none,none]) rfl).trans ((AE ((Cw hr).trans e)).trans rfl))
  walk_at "b|VS,hb,decide_false"
def gI(a b:Int):Int:=(Int.gcd a b:Nat)
def WE{a b:Int}(ha:0<=a)(hb:0<b):gI b (a % b)=gI a b:=by
 unfold gI
 rw[mi,mi]
 have e:(a % b).natAbs=a.natAbs % b.natAbs:=by
  rw[Int.natAbs_emod_of_nonneg ha]
 rw[e,Nat.gcd_comm,<- Nat.gcd_rec,Nat.gcd_comm]
def Sz{a:Int}(ha:0<=a):gI a 0=a:=by
 unfold gI
 rw[Int.gcd_zero_right]
 omega
def WD{a b:Int}(hb:0<b):0<gI a b:=by
 unfold gI
 have:0<Int.gcd a b:=mj _ (by omega)
 omega
def gg{a b:Int}(hb:0<b):gI a b<=b:=by
 exact Int.gcd_le_right a hb
def frm(t b:Int):Cl:=(t / gI t b,b / gI t b)
def Jj(i:Int):Int:=if i<0 then -i else i
def Wr{i:Int}(h:0<=i):Jj i=i:=by unfold Jj;rw[if_neg (by omega)]
def TQ(i:Int):0<=Jj i:=by unfold Jj;split<;>omega
def WG(a b:Int):gI (Jj a) b=gI a b:=by
 unfold gI Jj
 split
 ·rw[Int.neg_gcd]
 ·rfl
def bA{i j:Int}(h1:-1000000000<i)(h2:i<1000000000):II (.int i) (.int j)=some (.int (i*j)):=Xw (.inl (.inl ⟨by omega,by omega⟩))
structure OkF(s:Cl):Prop where
 lo:0<=s.1
 hi:s.1<=s.2
 b1:1<=s.2
 b2:s.2<=1000
 zero:s.1=0->s=(0,1)
 red:∃t b:Int,0<b/\s=frm t b
def PX{d1 d2:PyData}:∀(n:Nat) (a b:Int),0<=a->0<=b->b.toNat<n ->
  dWh jI (Bb 2 3 QI) n [some (.d d1),some (.d d2),some (.d (.int a)),some (.d (.int b))]=some (.nx [some (.d d1),some (.d d2),some (.d (.int (gI a b))),some (.d (.int 0))])
 |0,a,b,_,_,h=>absurd h (nN _)
 |n+1,a,b,ha,hb,h=>by
  let st:Int->Int->DS:=fun x y=>[some (.d d1),some (.d d2),some (.d (.int x)),some (.d (.int y))]
  have t:jI (st a b)=some (decide (0<b),st a b):=rfl
  unfold dWh
  rw[show jI [some (.d d1),some (.d d2),some (.d (.int a)),some (.d (.int b))]=some (decide (0<b),st a b) from t]
  by_cases hz:b=0
  ·subst hz
   rw[Sz ha];rfl
  ·have hp:0<b:=by omega
   have md:=lH a hp
   have mn:=lN a (show b≠0 by omega)
   have e:=PX (d1:=d1) (d2:=d2) n b (a % b) hb mn (by omega)
   rw[decide_eq_true hp]
   have bd:Bb 2 3 QI (st a b)=some (.nx (st b (a % b))):=by
    have:QI (st a b)=some ([.d (.int b),.d (.int (a % b))],st a b):=by
     show(((((Af (.int a) (.int b)).map fun d=>(d,st a b)).bind fun p=>_).map _))=_
     rw[BA hp];rfl
    unfold Bb
    rw[this];rfl
   show((Bb _ _ _ (st a b)).bind _)=_
   rw[bd]
   show dWh _ _ n (st b (a % b))=_
   rw[<- WE ha hp]
   exact e
def bB{t b:Int}(hb:0<b)(hb2:b<10 ^ 70):JC [.d (.int t),.d (.int b)]=some (ec (frm t b),[.d (.int t),.d (.int b)]):=by
 have gp:=WD (a:=t) hb
 have gl:=gg (a:=t) hb
 have e:=PX (d1:=.int t) (d2:=.int b) (b.toNat+1) (Jj t) b (TQ t) (by omega) (nJ _)
 rw[WG]at e
 let st:Option L->Option L->DS:=fun o p=>[some (.d (.int t)),some (.d (.int b)),o,p]
 unfold JC
 refine AL (τ:=st (some (.d (.int (gI t b)))) (some (.d (.int 0)))) ?_ rfl rfl
 refine(AE (t4:=st (some (.d (.int (Jj t)))) (some (.d (.int b)))) rfl).trans ?_
 refine(AE e).trans ?_
 refine AX (t4:=st (some (.d (.int (gI t b)))) (some (.d (.int 0)))) ?_
 have d1:=BZ (i:=t) gp (by omega)
 have d2:=BZ (i:=b) gp (by omega)
 walk_at "b|st,d1,d2,ec,frm"
def WH{t b:Int}(h0:0<=t)(h1:t<=b)(h2:1<=b)(h3:b<=1000):OkF (frm t b):=by
 have gp:=WD (a:=t) (show 0<b by omega)
 have db:gI t b ∣ b:=by unfold gI;exact Int.gcd_dvd_right ..
 obtain⟨q,hq⟩:=db
 have eb:b / gI t b=q:=my (by omega) hq
 have q1:1<=q:=by
  rcases Int.lt_or_le q 1 with z|z
  ·have:gI t b*q<=0:=Int.mul_nonpos_of_nonneg_of_nonpos (by omega) (by omega)
   omega
  ·exact z
 have tl:t / gI t b<=b / gI t b:=Int.ediv_le_ediv gp h1
 have bl:b / gI t b<=b:=Int.ediv_le_self _ (by omega)
 refine⟨Int.ediv_nonneg h0 (by omega),tl,by show 1<=b / gI t b;omega,by show b / gI t b<=1000;omega,fun z=>?_,t,b,by omega,rfl⟩
 have z:t / gI t b=0:=z
 have dt:gI t b ∣ t:=by unfold gI;exact Int.gcd_dvd_left ..
 obtain⟨r,hr⟩:=dt
 have er:t / gI t b=r:=my (by omega) hr
 have r0:r=0:=by omega
 have t0:t=0:=by rw[hr,r0,Int.mul_zero]
 have g0:gI t b=b:=by
  rw[t0];unfold gI
  rw[Int.gcd_zero_left];omega
 unfold frm
 rw[g0,t0,Int.zero_ediv,Int.ediv_self (by omega)]
def Jy(v:Int):∃(s:Cl) (w:Int) (ls:List L),Di [.d (.int v)]=some (.tuple [ec s,.int w],ls)/\OkF s:=by
 obtain⟨b0,e0,hb0⟩:=Z7 (xs:=[1,1,2,3]) (k:=v % 4) (by omega) (by show v % 4<4;omega)
 have hb0:1<=b0/\b0<=1000:=by
  rcases kY.mp hb0 with rfl|hb0
  ·decide
  ·rcases kY.mp hb0 with rfl|hb0
   ·decide
   ·rcases kY.mp hb0 with rfl|hb0
    ·decide
    ·rw[ki.mp hb0];decide
 let st:Int->Option L->DS:=fun x o=>[some (.d (.int x)),o]
 have fin:∀b:Int,1<=b->b<=1000->∃(s:Cl) (w:Int),AH jN (AM (AY (AA (AB JC jJ) j9))) (st v (some (.d (.int b))))=some (.rt (.tuple [ec s,.int w]) (st (v / 16000) (some (.d (.int b)))))/\OkF s:=fun b h1 h2=>by
  have m0:=lN (v / 16000) (show b+1≠0 by omega)
  have m1:=lH (v / 16000) (show 0<b+1 by omega)
  refine⟨frm (v / 16000 % (b+1)) b,v / 16000 / (b+1),?_,WH m0 (by omega) h1 h2⟩
  have l:=bB (t:=v / 16000 % (b+1)) (b:=b) (by omega) (by omega)
  have d1:=BZ (i:=v) (j:=16000) (by decide) (by decide)
  have d2:=BA (i:=v / 16000) (j:=b+1) (by omega)
  have d3:=BZ (i:=v / 16000) (j:=b+1) (by omega) (by omega)
  walk_at "b|st,l,d1,d2,d3"
 have c2:∀b:Int,1<=b->b<=1000->∃b',1<=b'/\b'<=1000/\qf (st v (some (.d (.int b))))=some (.nx (st v (some (.d (.int b'))))):=fun b h1 h2=>by
  have d1:=BZ (i:=v) (j:=4) (by decide) (by decide)
  have d2:=BA (i:=v / 4) (j:=16) (by decide)
  have d3:=BZ (i:=v) (j:=16) (by decide) (by decide)
  have d4:=BA (i:=v / 16) (j:=1000) (by decide)
  by_cases h:v / 4 % 16=1
  ·refine⟨1+v / 16 % 1000,by omega,by omega,?_⟩
   have q:fEq (.int (v / 4 % 16)) (.int 1)=some (.bool true):=by rw[encI.fEq,decide_eq_true h]
   walk_at "b|st,d1,d2,q,d3,d4"
  ·refine⟨b,h1,h2,?_⟩
   have q:fEq (.int (v / 4 % 16)) (.int 1)=some (.bool false):=by rw[encI.fEq,decide_eq_false h]
   walk_at "b|st,d1,d2,q"
 have c1:∀b:Int,1<=b->b<=1000->∃b',1<=b'/\b'<=1000/\qi (st v (some (.d (.int b))))=some (.nx (st v (some (.d (.int b'))))):=fun b h1 h2=>by
  have d1:=BZ (i:=v) (j:=4) (by decide) (by decide)
  have d2:=BA (i:=v / 4) (j:=4) (by decide)
  have d3:=BZ (i:=v) (j:=16) (by decide) (by decide)
  have d4:=BA (i:=v / 16) (j:=12) (by decide)
  by_cases h:v / 4 % 4=0
  ·refine⟨1+v / 16 % 12,by omega,by omega,?_⟩
   have q:fEq (.int (v / 4 % 4)) (.int 0)=some (.bool true):=by rw[encI.fEq,decide_eq_true h]
   walk_at "b|st,d1,d2,q,d3,d4"
  ·refine⟨b,h1,h2,?_⟩
   have q:fEq (.int (v / 4 % 4)) (.int 0)=some (.bool false):=by rw[encI.fEq,decide_eq_false h]
   walk_at "b|st,d1,d2,q"
 obtain⟨b1,g1,g2,e1⟩:=c1 b0 hb0.1 hb0.2
 obtain⟨b2,g3,g4,e2⟩:=c2 b1 g1 g2
 obtain⟨s,w,e3,hs⟩:=fin b2 g3 g4
 refine⟨s,w,[.d (.int v)],?_,hs⟩
 unfold Di
 refine AL (τ:=st (v / 16000) (some (.d (.int b2)))) ?_ rfl rfl
 refine(AE (t4:=st v (some (.d (.int b0)))) (AU (d:=.int b0) (t4:=st v none) ?_ rfl)).trans ((AE e1).trans ((AE e2).trans e3))
 have m:=BA (i:=v) (j:=4) (by decide)
 show(((Af (.int v) (.int 4)).map fun d=>(d,st v none)).bind fun q=>(AN (.tuple ([1,1,2,3].map PyData.int)) q.1).map fun d=>(d,q.2))=_
 rw[m]
 show((atI ([1,1,2,3].map PyData.int) (v % 4)).map fun d=>(d,st v none))=_
 rw[e0];rfl
def acc{f:DX}{a:DA}{τ t4 t7:DS}{d:PyData}{rs:List Ar}(h:f τ=some (d,t4))(k:a t4=some (rs,t7)):AA f a τ=some (.d d::rs,t7):=by
 unfold AA
 rw[h]
 show((a t4).map _)=_
 rw[k];rfl
def tst{f:DX}{τ t4:DS}{b:Bool}(h:f τ=some (.bool b,t4)):AD f τ=some (b,t4):=by
 unfold AD
 rw[h];rfl
def DN{t:DT}{τ t4:DS}{b:Bool}(h:t τ=some (b,t4)):Ao t τ=some (!b,t4):=by
 unfold Ao
 rw[h];rfl
def op2{F:PyData->PyData->Option PyData}{f g:DX}{τ t4 t7:DS}{x y r:PyData}(h:f τ=some (x,t4))(k:g t4=some (y,t7))(e:F x y=some r):dOp F f g τ=some (r,t7):=by
 unfold dOp
 rw[h]
 show((g t4).bind _)=_
 rw[k]
 show((F x y).map _)=_
 rw[e];rfl
def oQ{F:PyData->PyData->Option PyData}{f g:DX}{τ t7:DS}{r:PyData}(x y:PyData)(t4:DS)(h:f τ=some (x,t4))(k:g t4=some (y,t7))(e:F x y=some r):dOp F f g τ=some (r,t7):=op2 h k e
def cQ{G:List L->Option (PyData × List L)}{a:DA}{τ:DS}{r:PyData}{ls:List L}(t4:DS)(ds:List PyData)(h:a τ=some (ds.map Ar.d,t4))(k:A1 (ds.map Ar.d)=some ds)(g:G (ds.map L.d)=some (r,ls)):AB G a τ=some (r,t4):=AW h k g
def SH{i:Nat}{f:DT}{τ t4:DS}{b:Bool}{xs:List PyData}(hi:τ[i]?=some (some (.m xs)))(hf:f (τ.set i (some (.d (.list xs))))=some (b,t4))(hx:t4.all okM=true):C6 i f τ=some (b,t4.set i (some (.m xs))):=by
 unfold C6
 rw[hi]
 dsimp only
 rw[hf]
 dsimp only[Option.bind]
 rw[if_pos hx]
def Hn{x y:DT}{τ t4 t7:DS}(h1:x τ=some (false,t4))(h2:y t4=some (false,t7)):BQ x y τ=some (false,t7):=by
 unfold BQ
 rw[h1];exact h2
def Fh{a b:DT}{τ:DS}{p q:Bool}(h1:a τ=some (p,τ))(h2:b τ=some (q,τ)):An a b τ=some (p&&q,τ):=by
 unfold An
 rw[h1]
 cases p with
 |true=>exact h2
 |false=>rfl
def EU{a b:DX}{τ t4:DS}(h:a τ=some (.bool true,t4)):Bm a b τ=b t4:=by
 unfold Bm
 rw[tst h];rfl
abbrev Tx:={ s:Str // PyData.strOk s=true }
def eT(t:Tx):PyData:=.str t.1
def encT:Enc eT:=by
 refine⟨fun a b=>?_,fun a=>?_,fun a=>?_,fun _=>rfl⟩
 ·unfold eT
  rw[PyData.eqv]
  by_cases h:a=b
  ·subst h;simp
  ·rw[decide_eq_false h]
   exact beq_eq_false_iff_ne.mpr fun z=>h (nR z)
 ·show PyData.canLay0 (.str a.1)=true
  rw[PyData.canLay0];exact a.2
 ·show PyData.depth (.str a.1)<=20
  rw[PyData.depth];decide
def t0:Tx:=⟨"",∅⟩
inductive Dz where
 |plate (w h:Int) (a b:Cl)
 |band (w h:Int) (a b:Cl)
 |word (t:Tx) (a b:Cl)
 |stencil (rs:List Tx) (a b:Cl)
 |group
 |glass (a:Cl)
 |window (w h x y:Int)
 |turn (q:Int) (f:Bool)
 |tiles (a b x y:Int)
 |mask
 deriving DecidableEq
def kz:Dz->Nat
 |.plate ..=>0
 |.band ..=>1
 |.word ..=>2
 |.stencil ..=>3
 |.group=>4
 |.glass _=>5
 |.window ..=>6
 |.turn ..=>7
 |.tiles ..=>8
 |.mask=>9
def kS:Nat->Tx
 |0=>⟨"plate",∅⟩
 |1=>⟨"band",∅⟩
 |2=>⟨"word",∅⟩
 |3=>⟨"stencil",∅⟩
 |4=>⟨"group",∅⟩
 |5=>⟨"glass",∅⟩
 |6=>⟨"window",∅⟩
 |7=>⟨"turn",∅⟩
 |8=>⟨"tiles",∅⟩
 |_=>⟨"mask",∅⟩
def bH:∀i j:Fin 10,kS i=kS j->i=j:=∅
def Cc(d:Dz):kz d<10:=by cases d<;>simp[kz]
def D1{i j:Nat}(hi:i<10)(hj:j<10)(h:kS i=kS j):i=j:=Fin.mk.inj (bH ⟨i,hi⟩ ⟨j,hj⟩ h)
def eD:Dz->PyData
 |.plate w h a b=>.tuple [.int w,.int h,ec a,ec b]
 |.band w h a b=>.tuple [.int w,.int h,ec a,ec b]
 |.word t a b=>.tuple [eT t,ec a,ec b]
 |.stencil rs a b=>.tuple [.tuple (rs.map eT),ec a,ec b]
 |.group=>.tuple []
 |.glass a=>.tuple [ec a]
 |.window w h x y=>.tuple [.int w,.int h,.int x,.int y]
 |.turn q f=>.tuple [.int q,.bool f]
 |.tiles a b x y=>.tuple [.int a,.int b,.int x,.int y]
 |.mask=>.tuple []
structure Rz where
 n:Tx
 h:Tx
 x:Int
 y:Int
 s:Bool
 d:Dz
 deriving DecidableEq
def eZ(r:Rz):PyData:=.tuple [eT r.n,eT r.h,.int r.x,.int r.y,.bool r.s,eT (kS (kz r.d)),eD r.d]
def ecq(a b:Cl):PyData.eqv (ec a) (ec b)=decide (a=b):=encC.eqv a b
def gT(a b:Int):PyData.eqv (.int a) (.int b)=decide (a=b):=encI.eqv a b
def Zm(a b:Bool):PyData.eqv (.bool a) (.bool b)=decide (a=b):=by rw[PyData.eqv];cases a<;>cases b<;>rfl
def kO(a b:Int):(a==b)=decide (a=b):=rfl
def kP(a b:Bool):(a==b)=decide (a=b):=by cases a<;>cases b<;>rfl
def eDq:∀a b:Dz,kz a=kz b->PyData.eqv (eD a) (eD b)=decide (a=b):=by
 intro a b h
 cases a<;>cases b<;>first
  |(exfalso;simp[kz]at h;done)
  |(simp only[eD,PyData.eqv,PyData.eqvAll,ecq,gT,Zm,kO,kP,encT.eqv,encT.eqvL,Bool.and_true,Dz.plate.injEq,Dz.band.injEq,Dz.word.injEq,Dz.stencil.injEq,Dz.glass.injEq,Dz.window.injEq,Dz.turn.injEq,Dz.tiles.injEq,Bool.decide_and,decide_true])
def Zj:∀rs:List Tx,PyData.depthAll (rs.map eT)<=1
 |[]=>by rw[List.map_nil,PyData.depthAll];decide
 |r::rs=>by
  have:=Zj rs
  rw[kg,PyData.depthAll]
  unfold eT at *
  simp only[PyData.depth]
  omega
def encZ:Enc eZ:=by
 refine⟨fun a b=>?_,fun a=>?_,fun a=>?_,fun a=>?_⟩
 ·unfold eZ
  simp only[PyData.eqv,PyData.eqvAll,gT,Zm,encT.eqv,Bool.and_true]
  obtain⟨a1,a2,a3,a4,a5,a6⟩:=a
  obtain⟨b1,b2,b3,b4,b5,b6⟩:=b
  simp only[Rz.mk.injEq,Bool.decide_and]
  by_cases h:kz a6=kz b6
  ·rw[eDq a6 b6 h,h,decide_eq_true rfl,mB]
   simp[Bool.beq_eq_decide_eq]
  ·have h1:kS (kz a6)≠kS (kz b6):=fun z=>h (D1 (Cc _) (Cc _) z)
   have h2:a6≠b6:=fun z=>h (by rw[z])
   rw[decide_eq_false h1,decide_eq_false h2]
   simp
 ·show PyData.canLay0 (.tuple _)=true
  simp only[PyData.canLay0,PyData.canLayAll0,encT.can,Bool.true_and,Bool.and_true]
  cases a.d<;>simp only[eD,PyData.canLay0,PyData.canLayAll0,encT.can,encC.can,encT.canL,Bool.true_and,Bool.and_true]
 ·have hc:=encC.dep
  have key:PyData.depth (eD a.d)<=10:=by
   cases a.d with
   |stencil rs x y =>
    have:=Zj rs
    simp only[eD,ec,PyData.depth,PyData.depthAll]
    omega
   |word t x y=>simp[eD,eT,ec,PyData.depth,PyData.depthAll]
   |_=>simp[eD,ec,PyData.depth,PyData.depthAll]
  show PyData.depth (.tuple _)<=20
  simp only[PyData.depth,PyData.depthAll,eT]
  omega
 ·show Cs (.tuple _)=true
  simp only[Cs,fixDs,encT.fix,Bool.true_and,Bool.and_true]
  cases a.d<;>simp only[eD,Cs,fixDs,encT.fix,encC.fix,encT.fixL,Bool.true_and,Bool.and_true]
def Io(n:Nat):(rng 0 n).map PyData.int=(List.range n).map fun(k:Nat)=>PyData.int (k:Int):=by
 unfold rng
 rw[lx]
 refine List.map_congr_left fun k _=>?_
 show PyData.int (0+(k:Int))=_
 rw[Int.zero_add]
def eI{i:Nat}{f:DX}{τ t4:DS}{d:PyData}{xs:List PyData}(hi:τ[i]?=some (some (.m xs)))(hf:f (τ.set i (some (.d (.list xs))))=some (d,t4))(hx:(Cs d&&t4.all okM)=true):ET i f τ=some (d,t4.set i (some (.m xs))):=by
 unfold ET
 rw[hi]
 show(f _).bind _=_
 rw[hf]
 show(if _ then _ else _)=_
 rw[if_pos hx]
def E8{F:List PyData->Option PyData}{f:DX}{τ t4:DS}{d r:PyData}(h:f τ=some (d,t4))(e:F [d]=some r):Ak F (AA f AF) τ=some (r,t4):=by
 unfold Ak
 rw[acc h rfl]
 show((F [d]).map _)=_
 rw[e];rfl
def Wq{i:Nat}{a:DA}{τ t4:DS}{d:PyData}{xs:List PyData}(h:a τ=some ([.d d],t4))(m:t4[i]?=some (some (.m xs)))(hz:xs.length<900):CV (dMt i A8 a) τ=some (.nx (t4.set i (some (.m (xs++[d]))))):=by
 have hs:xs.length<sizeLine:=kZ hz (by decide)
 unfold CV dMt
 rw[h]
 show((match t4[i]? with|some (some (.m xs))=>_|_=>_):Option (PyData×DS)).map _=_
 rw[m]
 show((if xs.length<sizeLine then some (PyData.none,xs++[d]) else none).map _).map _=_
 rw[if_pos hs]
 rfl
def Gm{a:DA}{τ t4:DS}{rs:List Ar}{ds:List PyData}(h:a τ=some (rs,t4))(k:A1 rs=some ds)(hz:ds.length<=1000):AY a τ=some (.tuple ds,t4):=by
 unfold AY
 rw[h]
 show(A1 rs).bind _=_
 rw[k]
 show(if ds.length<=sizeLine then _ else _)=_
 rw[if_pos (sz hz)]
def W6{c:DT}{b:DB}{n:Nat}{τ t4:DS}(h:c τ=some (false,t4)):dWh c b (n+1) τ=some (.nx t4):=by
 rw[dWh,h];rfl
def Zy{c:DT}{b:DB}{n:Nat}{τ t4 t7:DS}(h:c τ=some (true,t4))(k:b t4=some (.nx t7)):dWh c b (n+1) τ=dWh c b n t7:=by
 rw[dWh,h]
 show(b t4).bind _=_
 rw[k];rfl
def Y4{i:Nat}{f:DX}{τ:DS}{xs:List PyData}{d:PyData}(hi:τ[i]?=some (some (.m xs)))(hf:f (τ.set i (some (.d (.list xs))))=some (d,τ.set i (some (.d (.list xs)))))(hd:Cs d=true)(hok:(τ.set i (some (.d (.list xs)))).all okM=true):ET i f τ=some (d,τ):=by
 unfold ET
 rw[hi]
 dsimp only
 rw[hf]
 dsimp only[Option.bind]
 rw[hd,hok,Bool.and_self,if_pos rfl,List.set_set]
 congr 2
 obtain⟨hlt,he⟩:=R'.mp hi
 rw[<- he,List.set_getElem_self]
def FF(al s:Str):Prop:=∀c∈s.cps.toList,c∈al.cps.toList
def alN:Str:="abcdefghijklmnopqrstuvwxyz0123456789"
def alW:Str:="0123456789abcdef-_"
def alS:Str:="#."
def N9{al s:Str}(ha:PyData.strOk al=true)(h:FF al s):PyData.strOk s=true:=by
 unfold PyData.strOk at *
 rw[Array.all_eq_true_iff_forall_mem]at *
 exact fun c hc=>ha c (lq.mp (h c (lq.mpr hc)))
def ixA{al:Str}{m:Int}(h0:0<m)(hl:(al.length:Int)=m)(hz:m<=100)(v:Int):∃c,c∈al.cps.toList/\OI (.str al) (.int (v % m))=some (.str ⟨#[c]⟩):=by
 have hk0:=lN v (show m≠0 by omega)
 have hk1:=lH v h0
 have e:al.cps.toList.length=al.length:=rfl
 have hk:(v % m).toNat<al.cps.toList.length:=by omega
 refine⟨al.cps.toList[(v % m).toNat],ma hk,?_⟩
 show(if al.length<=sizeLine then _ else _)=_
 rw[if_pos (sz (by omega))]
 unfold atI ixN
 rw[if_pos hk0,if_pos (by omega)]
 show(al.cps.toList[(v % m).toNat]?).map _=_
 rw[km hk];rfl
def ib{s:Str}{c:Nat}(h:s.length<=100):JM (.str s) (.str ⟨#[c]⟩)=some (.str (s++(⟨#[c]⟩:Str))):=by
 show(if s.length+1<=sizeLine then _ else _)=_
 rw[if_pos (sz (by omega))]
def TJ(s:Str)(c:Nat):(s++(⟨#[c]⟩:Str)).length=s.length+1:=by
 show(s.cps++#[c]).size=_
 rw[Array.size_append];rfl
def Wh{al s:Str}{c:Nat}(h:FF al s)(hc:c∈al.cps.toList):FF al (s++(⟨#[c]⟩:Str)):=by
 intro x hx
 have:x∈(s.cps++#[c]).toList:=hx
 rw[Array.toList_append]at this
 rcases kc.mp this with z|z
 ·exact h x z
 ·rw[ki.mp z];exact hc
def V6(al:Str):FF al "":=by
 intro c hc
 have:(Str.cps "").toList=[]:=∅
 rw[this]at hc;cases hc
def sgB(al:Str)(m:Int):DB:=AH (AI (dOp JM qE (dOp OI (dC (.str al)) (dOp Af qB (dC (.int m))))) (dN 1)) (AI (dOp A7 qB (dC (.int m))) QY)
def SN{al:Str}{m:Int}(h0:0<m)(hl:(al.length:Int)=m)(hz:m<=100)(n:Int)(n0:0<=n)(n1:n<=50)(v:Int):∃(u:Int) (s:Str) (o:Option L),nM o/\(s.length:Int)=n/\FF al s /\
  BC Qv (sgB al m) ((rng 0 n.toNat).map PyData.int) [some (.d (.int v)),some (.d (.str "")),some (.d (.int n)),none]=some (.nx [some (.d (.int u)),some (.d (.str s)),some (.d (.int n)),o]):=by
 let st:Int->Str->Option L->DS:=fun u s o=>[some (.d (.int u)),some (.d (.str s)),some (.d (.int n)),o]
 have lp:∃t5,BC Qv (sgB al m) ((List.range n.toNat).map fun(k:Nat)=>PyData.int (k:Int)) (st v "" none)=some (.nx t5)/\∃u s o,nM o/\s.length=(List.range n.toNat).length/\FF al s/\t5=st u s o:=by
  refine C4 (fun(pre:List Nat) τ=>∃u s o,nM o/\s.length=pre.length/\FF al s/\τ=st u s o) ⟨v,"",none,BI,∅,V6 al,rfl⟩ ?_
  rintro pre k post τ hp ⟨u,s,o,ho,hr,hall,rfl⟩
  have hl':=Eg hp
  rw[lJ]at hl'
  let K:Option L:=some (.d (.int (k:Int)))
  obtain⟨c,hc,ej⟩:=ixA h0 hl hz u
  let s':=s++(⟨#[c]⟩:Str)
  have s1:AI (dOp JM qE (dOp OI (dC (.str al)) (dOp Af qB (dC (.int m))))) (dN 1) (st u s K)=some (.nx (st u s' K)) :=
   AU (d:=.str s') (t4:=st u s K) (oQ (.str s) (.str ⟨#[c]⟩) (st u s K) rfl (oQ (.str al) (.int (u % m)) (st u s K) rfl (oQ (.int u) (.int m) (st u s K) rfl rfl (BA h0)) ej) (ib (by omega))) rfl
  have s2:AI (dOp A7 qB (dC (.int m))) QY (st u s' K)=some (.nx (st (u / m) s' K)) :=
   AU (d:=.int (u / m)) (t4:=st u s' K) (oQ (.int u) (.int m) (st u s' K) rfl rfl (BZ h0 (by omega))) rfl
  exact⟨st u s K,_,Cv (o:=o) rfl ho,(AE s1).trans s2,u / m,s',K,DQ,by rw[TJ,T',hr];rfl,Wh hall hc,rfl⟩
 obtain⟨t5,e,u,s,o,ho,hl,hall,rfl⟩:=lp
 rw[<- Io]at e
 rw[lJ]at hl
 exact⟨u,s,o,ho,by omega,hall,e⟩
def Rc(v:Int):∃(t:Tx) (w:Int) (ls:List L),FN [.d (.int v)]=some (.tuple [eT t,.int w],ls)/\1<=t.1.length/\t.1.length<=8/\FF alN t.1:=by
 obtain⟨u,s,o,ho,hl,ha,e⟩:=SN (al:=alN) (m:=36) (by decide) ∅ (by decide) (1+v % 8) (by omega) (by omega) (v / 8)
 refine⟨⟨s,N9 ∅ ha⟩,u,[.d (.int v)],?_,by show 1<=s.length;omega,by show s.length<=8;omega,ha⟩
 unfold FN
 let I:Int->Option L:=fun i=>some (.d (.int i))
 let T:Option L:=some (.d (.str ""))
 refine AL (τ:=[I u,some (.d (.str s)),I (1+v % 8),o]) ?_ rfl rfl
 have z2:AI Qq QH [I v,T,none,none]=some (.nx [I v,T,I (1+v % 8),none]):=by
  have d:=BA (i:=v) (j:=8) (by decide)
  walk_at "b|I,T,d"
 have z3:AI (dOp A7 qB qu) QY [I v,T,I (1+v % 8),none]=some (.nx [I (v / 8),T,I (1+v % 8),none]):=by
  have d:=BZ (i:=v) (j:=8) (by decide) (by decide)
  walk_at "b|I,T,d"
 refine(AE rfl).trans ((AE z2).trans ((AE z3).trans ?_))
 exact(AE ((Cw (KZ (n:=1+v % 8) (t4:=[I (v / 8),T,I (1+v % 8),none]) rfl (by omega) (by omega))).trans e)).trans rfl
def P5(v:Int):∃(t:Tx) (w:Int) (ls:List L),FK [.d (.int v)]=some (.tuple [eT t,.int w],ls)/\t.1.length<=6/\FF alW t.1:=by
 obtain⟨u,s,o,ho,hl,ha,e⟩:=SN (al:=alW) (m:=18) (by decide) ∅ (by decide) (v % 7) (by omega) (by omega) (v / 7)
 refine⟨⟨s,N9 ∅ ha⟩,u,[.d (.int v)],?_,by show s.length<=6;omega,ha⟩
 unfold FK
 let I:Int->Option L:=fun i=>some (.d (.int i))
 let T:Option L:=some (.d (.str ""))
 refine AL (τ:=[I u,some (.d (.str s)),I (v % 7),o]) ?_ rfl rfl
 have z2:AI (dOp Af qB QR) QH [I v,T,none,none]=some (.nx [I v,T,I (v % 7),none]):=by
  have d:=BA (i:=v) (j:=7) (by decide)
  walk_at "b|I,T,d"
 have z3:AI (dOp A7 qB QR) QY [I v,T,I (v % 7),none]=some (.nx [I (v / 7),T,I (v % 7),none]):=by
  have d:=BZ (i:=v) (j:=7) (by decide) (by decide)
  walk_at "b|I,T,d"
 refine(AE rfl).trans ((AE z2).trans ((AE z3).trans ?_))
 exact(AE ((Cw (KZ (n:=v % 7) (t4:=[I (v / 7),T,I (v % 7),none]) rfl (by omega) (by omega))).trans e)).trans rfl
def Du(v:Int):∃(x w:Int) (ls:List L),A2 [.d (.int v)]=some (.tuple [.int x,.int w],ls)/\-60<=x/\x<=60:=by
 have d1:=BA (i:=v) (j:=6) (by decide)
 have d2:=BZ (i:=v) (j:=6) (by decide) (by decide)
 have d3:=BA (i:=v / 6) (j:=121) (by decide)
 have d4:=BA (i:=v / 6) (j:=12) (by decide)
 have d5:=BZ (i:=v) (j:=726) (by decide) (by decide)
 have d6:=BZ (i:=v) (j:=72) (by decide) (by decide)
 by_cases h:v % 6=0
 ·refine⟨v / 6 % 121-60,v / 726,[.d (.int v)],?_,by omega,by omega⟩
  have q:fEq (.int (v % 6)) (.int 0)=some (.bool true):=by rw[encI.fEq,decide_eq_true h]
  walk_at "b|A2,d1,d2,d3,d5,q"
 ·refine⟨v / 6 % 12-3,v / 72,[.d (.int v)],?_,by omega,by omega⟩
  have q:fEq (.int (v % 6)) (.int 0)=some (.bool false):=by rw[encI.fEq,decide_eq_false h]
  walk_at "b|A2,d1,d2,d4,d6,q"
def F8(v m:Int)(m0:5<=m)(m1:m<=100):∃(x w:Int) (ls:List L),B8 [.d (.int v),.d (.int m)]=some (.tuple [.int x,.int w],ls)/\1<=x/\x<=m:=by
 have d1:=BA (i:=v) (j:=8) (by decide)
 have d2:=BZ (i:=v) (j:=8) (by decide) (by decide)
 have d3:=BA (i:=v / 8) (j:=m) (by omega)
 have d4:=BZ (i:=v / 8) (j:=m) (by omega) (by omega)
 have d5:=BA (i:=v / 8) (j:=5) (by decide)
 have d6:=BZ (i:=v) (j:=40) (by decide) (by decide)
 have g0:=lN (v / 8) (show m≠0 by omega)
 have g1:=lH (v / 8) (show 0<m by omega)
 by_cases h:v % 8=0
 ·refine⟨1+v / 8 % m,v / 8 / m,[.d (.int v),.d (.int m)],?_,by omega,by omega⟩
  have q:fEq (.int (v % 8)) (.int 0)=some (.bool true):=by rw[encI.fEq,decide_eq_true h]
  walk_at "b|B8,d1,d2,d3,d4,q"
 ·refine⟨1+v / 8 % 5,v / 40,[.d (.int v),.d (.int m)],?_,by omega,by omega⟩
  have q:fEq (.int (v % 8)) (.int 0)=some (.bool false):=by rw[encI.fEq,decide_eq_false h]
  walk_at "b|B8,d1,d2,d5,d6,q"
def Ox(v:Int):∃(a b:Cl) (w:Int) (ls:List L),Cr [.d (.int v)]=some (.tuple [ec a,ec b,.int w],ls)/\OkF a/\OkF b:=by
 obtain⟨a,u,l1,e1,oa⟩:=Jy v
 obtain⟨b,w,l2,e2,ob⟩:=Jy (u / 3)
 have d1:=BA (i:=u) (j:=3) (by decide)
 have d2:=BZ (i:=u) (j:=3) (by decide) (by decide)
 by_cases h:u % 3=0
 ·refine⟨a,(1,1),u / 3,[.d (.int v)],?_,oa,?_⟩
  ·have q:fEq (.int (u % 3)) (.int 0)=some (.bool true):=by rw[encI.fEq,decide_eq_true h]
   walk_at "a|Cr,e1,q,d1,d2"
   rfl
  ·have:=WH (t:=1) (b:=1) (by decide) (by decide) (by decide) (by decide)
   rwa [show frm 1 1=(1,1) by decide]at this
 ·refine⟨a,b,w,[.d (.int v)],?_,oa,ob⟩
  have q:fEq (.int (u % 3)) (.int 0)=some (.bool false):=by rw[encI.fEq,decide_eq_false h]
  walk_at "a|Cr,e1,e2,q,d1,d2"
def jz:∀rs:List Tx,fixDs (rs.map eT)=true:=encT.fixL
def MP(v:Int):∃(R:List Tx) (w:Nat) (v':Int) (ls:List L),Dh [.d (.int v)]=some (.tuple [.tuple (R.map eT),.int v'],ls)/\1<=R.length/\R.length<=8/\1<=w/\w<=8/\∀r∈R,r.1.length=w/\FF alS r.1:=by
 generalize hw:(1+v % 8:Int)=W
 generalize hh:(1+v / 8 % 8:Int)=Hh
 have w1:1<=W:=by omega
 have w2:W<=8:=by omega
 have h1:1<=Hh:=by omega
 have h2:Hh<=8:=by omega
 let I:Int->Option L:=fun i=>some (.d (.int i))
 let st:Int->List Tx->Option L->Option L->Option L->DS:=fun u R o4 o5 o6=>[I u,I W,I Hh,some (.m (R.map eT)),o4,o5,o6]
 let S:Str->Option L:=fun r=>some (.d (.str r))
 let Bi:DB:=AH Q1 (AI (dOp A7 qB qV) QY)
 have inner:∀(u:Int) (R:List Tx) (o4 o6:Option L),nM o6->∃t5,BC (dN 6) Bi ((List.range W.toNat).map fun(k:Nat)=>PyData.int (k:Int)) (st u R o4 (S "") o6)=some (.nx t5)/\∃u' r o,nM o/\r.length=(List.range W.toNat).length/\FF alS r/\t5=st u' R o4 (S r) o:=by
  intro u R o4 o6 n6
  refine C4 (fun(pre:List Nat) τ=>∃u' r o,nM o/\r.length=pre.length/\FF alS r/\τ=st u' R o4 (S r) o) ⟨u,"",o6,n6,∅,V6 _,rfl⟩ ?_
  rintro pre k post τ hp ⟨u',r,o,ho,hr,hall,rfl⟩
  have hl:=Eg hp
  rw[lJ]at hl
  let K:Option L:=I (k:Int)
  let t4:=st u' R o4 (S r) K
  obtain⟨c,hc,ej⟩:=ixA (al:=alS) (m:=2) (by decide) ∅ (by decide) u'
  let r':=r++(⟨#[c]⟩:Str)
  have s1:Q1 t4=some (.nx (st u' R o4 (S r') K)) :=
   AU (d:=.str r') (t4:=t4) (oQ (.str r) (.str ⟨#[c]⟩) t4 rfl (oQ (.str "#.") (.int (u' % 2)) t4 rfl (oQ (.int u') (.int 2) t4 rfl rfl (BA (by decide))) ej) (ib (by omega))) rfl
  have s2:AI (dOp A7 qB qV) QY (st u' R o4 (S r') K)=some (.nx (st (u' / 2) R o4 (S r') K)) :=
   AU (d:=.int (u' / 2)) (t4:=st u' R o4 (S r') K) (oQ (.int u') (.int 2) (st u' R o4 (S r') K) rfl rfl (BZ (by decide) (by decide))) rfl
  exact⟨t4,_,Cv (o:=o) rfl ho,(AE s1).trans s2,u' / 2,r',K,DQ,by rw[TJ,T',hr];rfl,Wh hall hc,rfl⟩
 have outer:∃t5,BC (dN 4) (AH (AI qa (dN 5)) (AH (Ca (dR1 qA) (dN 6) Bi) QB)) ((List.range Hh.toNat).map fun(k:Nat)=>PyData.int (k:Int)) (st (v / 64) [] none none none)=some (.nx t5)/\∃u R o4 o5 o6,nM o4/\nM o5/\nM o6/\R.length=(List.range Hh.toNat).length/\(∀r∈R,r.1.length=W.toNat/\FF alS r.1)/\t5=st u R o4 o5 o6:=by
  refine C4 (fun(pre:List Nat) τ=>∃u R o4 o5 o6,nM o4/\nM o5/\nM o6/\R.length=pre.length/\(∀r∈R,r.1.length=W.toNat/\FF alS r.1)/\τ=st u R o4 o5 o6) ⟨v / 64,[],none,none,none,BI,BI,BI,rfl,(fun r hr=>by cases hr),rfl⟩ ?_
  rintro pre k post τ hp ⟨u,R,o4,o5,o6,n4,n5,n6,hR,hall,rfl⟩
  have hl:=Eg hp
  rw[lJ]at hl
  let K:Option L:=I (k:Int)
  have s1:AI qa (dN 5) (st u R K o5 o6)=some (.nx (st u R K (S "") o6)):=AU (d:=.str "") (t4:=st u R K o5 o6) rfl (Cv (o:=o5) rfl n5)
  obtain⟨t5,e,u',r,o,ho,hr,hal,rfl⟩:=inner u R K o6 n6
  rw[<- Io]at e
  let rt:Tx:=⟨r,N9 ∅ hal⟩
  have s2:Ca (dR1 qA) (dN 6) Bi (st u R K (S "") o6)=some (.nx (st u' R K (S r) o)):=(Cw (KZ (n:=W) (t4:=st u R K (S "") o6) rfl (by omega) (by omega))).trans e
  have s3:QB (st u' R K (S r) o)=some (.nx (st u' (R++[rt]) K (S r) o)):=by
   refine(Wq (i:=3) (d:=eT rt) (xs:=R.map eT) (t4:=st u' R K (S r) o) rfl rfl (by rw[B'];omega)).trans ?_
   show some (Out.nx [_,_,_,some (.m (R.map eT++[eT rt])),_,_,_])=_
   rw[show R.map eT++[eT rt]=(R++[rt]).map eT by rw[lD];rfl]
  refine⟨st u R K o5 o6,st u' (R++[rt]) K (S r) o,Cv (o:=o4) rfl n4,(AE s1).trans ((AE s2).trans s3),u',R++[rt],K,S r,o,DQ,DQ,ho,by rw[T',T',hR];rfl,fun x hx=>?_,rfl⟩
  rcases kc.mp hx with z|z
  ·exact hall x z
  ·rw[ki.mp z]
   rw[lJ]at hr
   exact⟨hr,hal⟩
 obtain⟨t5,e,u,R,o4,o5,o6,n4,n5,n6,hR,hall,rfl⟩:=outer
 rw[<- Io]at e
 rw[lJ]at hR
 unfold Dh
 let s0:DS:=[I v,none,none,none,none,none,none]
 let s1:DS:=[I v,I W,none,none,none,none,none]
 let s2:DS:=[I v,I W,I Hh,none,none,none,none]
 let s3:DS:=[I (v / 64),I W,I Hh,none,none,none,none]
 have z1:AI Qq (dN 1) s0=some (.nx s1) :=
  AU (d:=.int W) (t4:=s0) (oQ (.int 1) (.int (v % 8)) s0 rfl (oQ (.int v) (.int 8) s0 rfl rfl (BA (by decide))) (by rw[<- hw];rfl)) rfl
 have z2:Qw s1=some (.nx s2) :=
  AU (d:=.int Hh) (t4:=s1) (oQ (.int 1) (.int (v / 8 % 8)) s1 rfl (oQ (.int (v / 8)) (.int 8) s1 (oQ (.int v) (.int 8) s1 rfl rfl (BZ (by decide) (by decide))) rfl (BA (by decide))) (by rw[<- hh];rfl)) rfl
 have z3:AI (dOp A7 qB (dC (.int 64))) QY s2=some (.nx s3) :=
  AU (d:=.int (v / 64)) (t4:=s2) (oQ (.int v) (.int 64) s2 rfl rfl (BZ (by decide) (by decide))) rfl
 have z4:GL 1 3 s3=some (.nx (st (v / 64) [] none none none)):=rfl
 refine⟨R,W.toNat,u,_,AL (τ:=st u R o4 o5 o6) ?_ rfl rfl,by omega,by omega,by omega,by omega,hall⟩
 refine(AE z1).trans ((AE z2).trans ((AE z3).trans ((AE z4).trans ?_)))
 refine(AE ((Cw (KZ (n:=Hh) (t4:=st (v / 64) [] none none none) rfl (by omega) (by omega))).trans e)).trans (AX (t4:=st u R o4 o5 o6) ?_)
 let Ga:DS:=[I u,I W,I Hh,some (.d (.list (R.map eT))),o4,o5,o6]
 refine eI (i:=3) (xs:=R.map eT) (t4:=Ga) rfl ?_ ?_
 ·unfold AY
  show((AA (Ak Lv qg) qF Ga).bind _)=_
  rw[acc (E8 (d:=.list (R.map eT)) (r:=.tuple (R.map eT)) rfl rfl) (acc (t4:=Ga) (d:=.int u) rfl rfl)]
  rfl
 ·show((fixDs (R.map eT)&&(true&&true))&&(true&&(true&&(true&&(true&&(okM o4&&(okM o5&&(okM o6&&true))))))))=true
  rw[jz,Ll n4,Ll n5,Ll n6];rfl
def P1:Dz->Prop
 |.plate w h a b=>1<=w/\w<=12/\1<=h/\h<=12/\OkF a/\OkF b
 |.band w h a b=>-12<=w/\w<=12/\-12<=h/\h<=12/\OkF a/\OkF b
 |.word t a b=>t.1.length<=6/\FF alW t.1/\OkF a/\OkF b
 |.stencil R a b=>1<=R.length/\R.length<=8/\(∃w,1<=w/\w<=8/\∀r∈R,r.1.length=w/\FF alS r.1)/\OkF a/\OkF b
 |.group=>True
 |.glass a=>OkF a
 |.window w h x y=>1<=w/\w<=16/\1<=h/\h<=16/\-60<=x/\x<=60/\-60<=y/\y<=60
 |.turn q _=>0<=q/\q<=3
 |.tiles a b x y=>1<=a/\a<=3/\1<=b/\b<=3/\-20<=x/\x<=20/\-20<=y/\y<=20
 |.mask=>True
def inT(t:Tx)(ts:List Tx):fIn false (eT t) (.tuple (ts.map eT))=some (.bool (decide (t∈ts))):=by
 simp only[DL.fIn,encT.ok,encT.okL,encT.any,Bool.and_self,if_true,Bool.false_eq_true,if_false]
 exact congrArg (fun b=>some (PyData.bool b)) (decide_eq_decide.mpr mC)
def sk{i j:Nat}(hi:i<10)(hj:j<10)(h:i≠j){a:DB}{τ:DS}(e:τ[0]?=some (some (.d (eT (kS i))))):AO (AD (dOp fEq (AJ 0) (dC (eT (kS j))))) a AQ τ=some (.nx τ):=by
 refine(Ae (t4:=τ) (tst (oQ (eT (kS i)) (eT (kS j)) τ (by unfold AJ;rw[e]) rfl ?_))).trans rfl
 rw[encT.fEq,decide_eq_false fun z=>h (D1 hi hj z)]
def tk{i:Nat}{a:DB}{τ:DS}(e:τ[0]?=some (some (.d (eT (kS i))))):AO (AD (dOp fEq (AJ 0) (dC (eT (kS i))))) a AQ τ=a τ:=by
 refine A3 (t4:=τ) (tst (oQ (eT (kS i)) (eT (kS i)) τ (by unfold AJ;rw[e]) rfl ?_))
 rw[encT.fEq,decide_eq_true rfl]
def Lx{i:Nat}(hi:i<10)(v:Int):∃(d:Dz) (w:Int) (ls:List L),Am [.d (eT (kS i)),.d (.int v)]=some (.tuple [eD d,.int w],ls)/\kz d=i/\P1 d:=by
 let I:Int->Option L:=fun i=>some (.d (.int i))
 let K:Option L:=some (.d (eT (kS i)))
 let N:Option L:=none
 let LS:List L:=[.d (eT (kS i)),.d (.int v)]
 let t9:DS:=[K,I v,N,N,N,N,N,N,N,N,N]
 have g1:qr t9=some (decide (kS i∈[kS 4,kS 9]),t9) :=
  tst (oQ (eT (kS i)) (.tuple ([kS 4,kS 9].map eT)) t9 rfl rfl (inT _ _))
 have g0:i≠4->i≠9->∀a:DB,AO qr a AQ t9=some (.nx t9):=fun h4 h9 a=>by
  refine(Ae (t4:=t9) (g1.trans ?_)).trans rfl
  rw[decide_eq_false]
  intro z
  rcases kY.mp z with z|z
  ·exact h4 (D1 hi (by decide) z)
  ·exact h9 (D1 hi (by decide) (ki.mp z))
 have g2:i=4\/i=9->Am [.d (eT (kS i)),.d (.int v)]=some (.tuple [.tuple [],.int v],[.d (eT (kS i)),.d (.int v)]):=fun h=>by
  unfold Am
  refine AL (τ:=t9) ((As ((A3 (t4:=t9) (g1.trans ?_)).trans rfl))) rfl rfl
  rw[decide_eq_true]
  rcases h with rfl|rfl
  ·exact L'
  ·exact V' _ L'
 have q1:i=4->∃(d:Dz) (w:Int) (ls:List L),Am [.d (eT (kS i)),.d (.int v)]=some (.tuple [eD d,.int w],ls)/\kz d=i/\P1 d:=fun h=>⟨.group,v,_,g2 (.inl h),by rw[h];rfl,trivial⟩
 have q2:i=9->∃(d:Dz) (w:Int) (ls:List L),Am [.d (eT (kS i)),.d (.int v)]=some (.tuple [eD d,.int w],ls)/\kz d=i/\P1 d:=fun h=>⟨.mask,v,_,g2 (.inr h),by rw[h];rfl,trivial⟩
 by_cases h4:i=4
 ·exact q1 h4
 by_cases h9:i=9
 ·exact q2 h9
 have G0:=g0 h4 h9
 by_cases h7:i=7
 ·subst h7
  have d1:=BA (i:=v) (j:=4) (by decide)
  have d2:=BZ (i:=v) (j:=4) (by decide) (by decide)
  have d3:=BA (i:=v / 4) (j:=2) (by decide)
  have d4:=BZ (i:=v) (j:=8) (by decide) (by decide)
  have d5:fEq (.int (v / 4 % 2)) (.int 1)=some (.bool (decide (v / 4 % 2=1))):=encI.fEq _ _
  refine⟨.turn (v % 4) (decide (v / 4 % 2=1)),v / 8,LS,?_,rfl,by show 0<=v % 4;omega,by show v % 4<=3;omega⟩
  unfold Am
  refine AL (τ:=t9) ((AE (G0 _)).trans (As ((tk (i:=7) (τ:=t9) rfl).trans (AX (t4:=t9) ?_)))) rfl rfl
  walk_at "b|t9,K,I,N,d1,d2,d3,d4,d5,eD"
 have G1:∀a:DB,AO (AD (dOp fEq qB Qe)) a AQ t9=some (.nx t9):=fun a=>sk hi (j:=7) (by decide) h7 rfl
 by_cases h8:i=8
 ·subst h8
  have d1:=BA (i:=v) (j:=3) (by decide)
  have d2:=BZ (i:=v) (j:=3) (by decide) (by decide)
  have d3:=BA (i:=v / 3) (j:=3) (by decide)
  have d4:=BZ (i:=v) (j:=9) (by decide) (by decide)
  have d5:=BA (i:=v / 9) (j:=41) (by decide)
  have d6:=BZ (i:=v) (j:=369) (by decide) (by decide)
  have d7:=BA (i:=v / 369) (j:=41) (by decide)
  have d8:=BZ (i:=v) (j:=15129) (by decide) (by decide)
  have d9:=BA (i:=v / 15129) (j:=4) (by decide)
  have da:=BZ (i:=v) (j:=60516) (by decide) (by decide)
  generalize ha:1+v % 3=a
  generalize hb:1+v / 3 % 3=b
  generalize hx:v / 9 % 41-20=x
  generalize hy:v / 369 % 41-20=y
  have db:=BA (i:=x) (j:=7) (by decide)
  have dc:=BA (i:=y) (j:=7) (by decide)
  let T:Int->Int->Option L:=fun x y=>some (.d (.tuple [.int a,.int b,.int x,.int y]))
  let t4:Int->Int->DS:=fun x y=>[K,I v,T x y,N,N,N,N,N,N,N,N]
  have s1:qM t9=some (.nx (t4 x y)):=by
   walk_at "b|t9,t4,T,K,I,N,d1,d2,d3,d4,d5,d6,d7,ha,hb,hx,hy"
  have fin:∀x y:Int,QT (t4 x y)=some (.rt (.tuple [.tuple [.int a,.int b,.int x,.int y],.int (v / 60516)]) (t4 x y)):=fun x y=>by
   walk_at "b|t9,t4,T,K,I,N,da"
  by_cases hp:v / 15129 % 4>0
  ·refine⟨.tiles a b (x % 7) (y % 7),v / 60516,LS,?_,rfl,?_⟩
   ·unfold Am
    refine AL (τ:=t4 (x % 7) (y % 7)) ((AE (G0 _)).trans ((AE (G1 _)).trans (As ((tk (i:=8) (τ:=t9) rfl).trans ((AE s1).trans ((AE (t4:=t4 (x % 7) (y % 7)) ?_).trans (fin _ _))))))) rfl rfl
    refine(A3 (t4:=t4 x y) ?_).trans ?_
    ·walk_at "b|t4,T,K,I,N,d8,d9,hp,decide_true"
    ·have e1:Cn qI Bl (dPt qV) (t4 x y)=some (.tuple [.int a,.int b],t4 x y):=rfl
     refine AU (d:=.tuple [.int a,.int b,.int (x % 7),.int (y % 7)]) (t4:=t4 x y) (op2 e1 (y:=.tuple [.int (x % 7),.int (y % 7)]) (t7:=t4 x y) ?_ rfl) rfl
     walk_at "b|t4,T,K,I,N,db,dc"
   ·exact⟨by omega,by omega,by omega,by omega,by omega,by omega,by omega,by omega⟩
  ·refine⟨.tiles a b x y,v / 60516,LS,?_,rfl,?_⟩
   ·unfold Am
    refine AL (τ:=t4 x y) ((AE (G0 _)).trans ((AE (G1 _)).trans (As ((tk (i:=8) (τ:=t9) rfl).trans ((AE s1).trans ((AE (t4:=t4 x y) ?_).trans (fin _ _))))))) rfl rfl
    refine(Ae (t4:=t4 x y) ?_).trans rfl
    walk_at "b|t4,T,K,I,N,d8,d9,hp,decide_false"
   ·exact⟨by omega,by omega,by omega,by omega,by omega,by omega,by omega,by omega⟩
 have G2:∀a:DB,AO (AD (dOp fEq qB QJ)) a AQ t9=some (.nx t9):=fun a=>sk hi (j:=8) (by decide) h8 rfl
 by_cases h6:i=6
 ·subst h6
  obtain⟨w,v1,l1,e1,w0,w1⟩:=F8 v 16 (by decide) (by decide)
  obtain⟨h,v2,l2,e2,h0,h1⟩:=F8 v1 16 (by decide) (by decide)
  obtain⟨x,v3,l3,e3,x0,x1⟩:=Du v2
  obtain⟨y,v4,l4,e4,y0,y1⟩:=Du v3
  refine⟨.window w h x y,v4,LS,?_,rfl,w0,w1,h0,h1,x0,x1,y0,y1⟩
  unfold Am
  let st:Int->Option L->Option L->Option L->Option L->DS:=fun v a b c d=>[K,I v,N,a,b,c,d,N,N,N,N]
  refine AL (τ:=st v4 (I w) (I h) (I x) (I y)) ((AE (G0 _)).trans ((AE (G1 _)).trans ((AE (G2 _)).trans (As ((tk (i:=6) (τ:=t9) rfl).trans ?_))))) rfl rfl
  refine(AE (t4:=st v1 (I w) N N N) (AU (cQ t9 [.int v,.int 16] rfl rfl e1) rfl)).trans ?_
  refine(AE (t4:=st v2 (I w) (I h) N N) (AU (cQ (st v1 (I w) N N N) [.int v1,.int 16] rfl rfl e2) rfl)).trans ?_
  refine(AE (t4:=st v3 (I w) (I h) (I x) N) (AU (cQ (st v2 (I w) (I h) N N) [.int v2] rfl rfl e3) rfl)).trans ?_
  exact(AE (t4:=st v4 (I w) (I h) (I x) (I y)) (AU (cQ (st v3 (I w) (I h) (I x) N) [.int v3] rfl rfl e4) rfl)).trans rfl
 have G3:∀a:DB,AO jO a AQ t9=some (.nx t9):=fun a=>sk hi (j:=6) (by decide) h6 rfl
 obtain⟨p,q,v',lp,ep,op,oq⟩:=Ox v
 let A:Option L:=some (.d (ec p))
 let B:Option L:=some (.d (ec q))
 let st:Int->Option L->Option L->Option L->Option L->DS:=fun v a b c d=>[K,I v,N,a,b,N,N,A,B,c,d]
 let t4:=st v' N N N N
 have P:AI (AB Cr qA) (dGT (Ag (dN 7) (Ag (dN 8) qY))) t9=some (.nx t4):=AU (cQ t9 [.int v] rfl rfl ep) rfl
 by_cases h5:i=5
 ·subst h5
  refine⟨.glass q,v',LS,?_,rfl,oq⟩
  unfold Am
  exact AL (τ:=t4) ((AE (G0 _)).trans ((AE (G1 _)).trans ((AE (G2 _)).trans ((AE (G3 _)).trans ((AE P).trans (As ((tk (i:=5) (τ:=t4) rfl).trans rfl))))))) rfl rfl
 have G5:∀a:DB,AO (AD (dOp fEq qB (dC (.str "glass")))) a AQ t4=some (.nx t4):=fun a=>sk hi (j:=5) (by decide) h5 rfl
 by_cases hh:i=0
 ·subst hh
  obtain⟨w,v1,l1,e1,w0,w1⟩:=F8 v' 12 (by decide) (by decide)
  obtain⟨h,v2,l2,e2,h0,h1⟩:=F8 v1 12 (by decide) (by decide)
  refine⟨.plate w h p q,v2,LS,?_,rfl,w0,w1,h0,h1,op,oq⟩
  unfold Am
  refine AL (τ:=st v2 (I w) (I h) N N) ((AE (G0 _)).trans ((AE (G1 _)).trans ((AE (G2 _)).trans ((AE (G3 _)).trans ((AE P).trans ((AE (G5 _)).trans (As ((tk (i:=0) (τ:=t4) rfl).trans ?_)))))))) rfl rfl
  refine(AE (t4:=st v1 (I w) N N N) (AU (cQ t4 [.int v',.int 12] rfl rfl e1) rfl)).trans ?_
  exact(AE (t4:=st v2 (I w) (I h) N N) (AU (cQ (st v1 (I w) N N N) [.int v1,.int 12] rfl rfl e2) rfl)).trans rfl
 have G6:∀a:DB,AO (AD (dOp fEq qB Qz)) a AQ t4=some (.nx t4):=fun a=>sk hi (j:=0) (by decide) hh rfl
 by_cases h1:i=1
 ·subst h1
  have d1:=BA (i:=v') (j:=25) (by decide)
  have d2:=BZ (i:=v') (j:=25) (by decide) (by decide)
  have d3:=BA (i:=v' / 25) (j:=25) (by decide)
  have d4:=BZ (i:=v') (j:=625) (by decide) (by decide)
  refine⟨.band (v' % 25-12) (v' / 25 % 25-12) p q,v' / 625,LS,?_,rfl,by omega,by omega,by omega,by omega,op,oq⟩
  unfold Am
  refine AL (τ:=t4) ((AE (G0 _)).trans ((AE (G1 _)).trans ((AE (G2 _)).trans ((AE (G3 _)).trans ((AE P).trans ((AE (G5 _)).trans ((AE (G6 _)).trans (As ((tk (i:=1) (τ:=t4) rfl).trans (AX (t4:=t4) ?_)))))))))) rfl rfl
  walk_at "b|t4,st,K,I,N,A,B,d1,d2,d3,d4,eD"
 have G7:∀a:DB,AO (AD (dOp fEq qB (dC (.str "band")))) a AQ t4=some (.nx t4):=fun a=>sk hi (j:=1) (by decide) h1 rfl
 by_cases h2:i=2
 ·subst h2
  obtain⟨t,v1,l1,e1,t6,ta⟩:=P5 v'
  refine⟨.word t p q,v1,LS,?_,rfl,t6,ta,op,oq⟩
  unfold Am
  refine AL (τ:=st v1 N N (some (.d (eT t))) N) ((AE (G0 _)).trans ((AE (G1 _)).trans ((AE (G2 _)).trans ((AE (G3 _)).trans ((AE P).trans ((AE (G5 _)).trans ((AE (G6 _)).trans ((AE (G7 _)).trans (As ((tk (i:=2) (τ:=t4) rfl).trans ?_)))))))))) rfl rfl
  exact(AE (t4:=st v1 N N (some (.d (eT t))) N) (AU (cQ t4 [.int v'] rfl rfl e1) rfl)).trans rfl
 have G8:∀a:DB,AO (AD (dOp fEq qB (dC (.str "word")))) a AQ t4=some (.nx t4):=fun a=>sk hi (j:=2) (by decide) h2 rfl
 have h3:i=3:=by omega
 subst h3
 obtain⟨R,w,v1,l1,e1,r1,r2,w1,w2,hr⟩:=MP v'
 refine⟨.stencil R p q,v1,LS,?_,rfl,r1,r2,⟨w,w1,w2,hr⟩,op,oq⟩
 unfold Am
 refine AL (τ:=st v1 N N N (some (.d (.tuple (R.map eT))))) ((AE (G0 _)).trans ((AE (G1 _)).trans ((AE (G2 _)).trans ((AE (G3 _)).trans ((AE P).trans ((AE (G5 _)).trans ((AE (G6 _)).trans ((AE (G7 _)).trans ((AE (G8 _)).trans ?_))))))))) rfl rfl
 exact(AE (t4:=st v1 N N N (some (.d (.tuple (R.map eT))))) (AU (cQ t4 [.int v'] rfl rfl e1) rfl)).trans rfl
def lcg{α:Type}{enc:α->PyData}{rs:List α}{τ:DS}{fr:List Nat}{it:DI}{ex:DS}{c:DT}{e:DX}(p:α->Bool)(f:α->PyData)(h:it τ=some (rs.map enc,τ))(hz:rs.length<=1000)(hm:(fr.all fun j=>!isM τ j)=true)(hb:OU 1 fr τ=none::ex)
  (hc:∀r∈rs,c (some (.d (enc r))::ex)=some (p r,some (.d (enc r))::ex)) (he:∀r∈rs,p r=true->e (some (.d (enc r))::ex)=some (f r,some (.d (enc r))::ex)):dLC 1 fr it QY c e τ=some (.list ((rs.filter p).map f),τ):=by
 obtain ⟨b7, el⟩ := N6 (enc := enc) (g := QY) (c := c) (e := e) (fun τ => ∃ o1, nM o1 /\ τ = o1 :: ex) p f (xs := rs) (acc := []) (τ := none :: ex) ⟨none, BI, rfl⟩ (by
  rintro x τ hx ⟨o1,n1,rfl⟩
  exact⟨some (.d (enc x))::ex,some (.d (enc x))::ex,Cv (o:=o1) rfl n1,hc x hx,fun _=>⟨_,DQ,rfl⟩,fun hp=>⟨some (.d (enc x))::ex,he x hx hp,_,DQ,rfl⟩⟩)
 rw[lj]at el
 exact bg (ds:=rs.map enc) (t4:=τ) (b7:=b7) h (by rw[B'];exact sz hz) hm (by rw[hb];exact el)
def Cu{α:Type}(l:List α):l.filter (fun _=>true)=l:=List.filter_eq_self.mpr fun _ _=>rfl
structure OkRow(r:Rz):Prop where
 n1:1<=r.n.1.length
 n8:r.n.1.length<=8
 na:FF alN r.n.1
 x0:-60<=r.x
 x1:r.x<=60
 y0:-60<=r.y
 y1:r.y<=60
 d:P1 r.d
def OkR:List Rz->Prop
 |[]=>True
 |r::a=>OkR a/\OkRow r/\(∀q∈a,q.n≠r.n)/\(r.h=t0\/∃q∈a,q.n=r.h)
def hsR:List Rz->Tx->List Tx
 |[],_=>[]
 |r::a,n=>if r.n=n then n::hsR a r.h else hsR a n
def Ac(rs:List Rz)(t:Tx):Option Rz:=rs.find? fun r=>decide (r.n=t)
def OkRow.ne{r:Rz}(h:OkRow r):r.n≠t0:=fun z=>by
 have:=h.n1
 rw[z]at this
 exact absurd this ∅
def OkR.all{a:List Rz}(ok:OkR a):∀r∈a,OkRow r:=by
 induction a with
 |nil=>intro r hr;cases hr
 |cons q a ih =>
  intro r hr
  rcases kY.mp hr with h|h
  ·rw[h];exact ok.2.1
  ·exact ih ok.1 r h
def OkR.suf{p q:List Rz}(ok:OkR (p++q)):OkR q:=by
 induction p with
 |nil=>exact ok
 |cons x p ih=>exact ih ok.1
def OkR.inj{a:List Rz}(ok:OkR a):∀r∈a,∀q∈a,r.n=q.n->r=q:=by
 induction a with
 |nil=>intro r hr;cases hr
 |cons x a ih =>
  intro r hr q hq e
  rcases kY.mp hr with h1|h1<;>rcases kY.mp hq with h2|h2
  ·rw[h1,h2]
  ·rw[h1]at e;exact absurd e.symm (ok.2.2.1 q h2)
  ·rw[h2]at e;exact absurd e (ok.2.2.1 r h1)
  ·exact ih ok.1 r h1 q h2 e
def EX:∀{a:List Rz},OkR a->hsR a t0=[]
 |[],_=>rfl
 |r::a,⟨h,o,_⟩=>by
  unfold hsR
  rw[if_neg o.ne];exact EX h
def OB:∀{a:List Rz} {n:Tx},(∃q∈a,q.n=n)->∃l,hsR a n=n::l
 |[],_,⟨_,h,_⟩=>by cases h
 |r::a,n,⟨q,hq,e⟩=>by
  unfold hsR
  by_cases h:r.n=n
  ·rw[if_pos h];exact⟨_,rfl⟩
  ·rw[if_neg h]
   rcases kY.mp hq with rfl|hq
   ·exact absurd e h
   ·exact OB ⟨q,hq,e⟩
def K2:∀(a:List Rz) (n:Tx),(hsR a n).length<=a.length
 |[],_=>X' _
 |r::a,n=>by
  unfold hsR
  split
  ·have:=K2 a r.h
   simp only[List.length_cons];omega
  ·have:=K2 a n
   simp only[List.length_cons];omega
abbrev OkZ(rs:List Rz):Prop:=OkR rs.reverse
def CU{rs:List Rz}(ok:OkZ rs){r:Rz}(hr:r∈rs):Ac rs r.n=some r:=by
 unfold Ac
 cases e:rs.find? fun q=>decide (q.n=r.n) with
 |none=>exact absurd (List.find?_eq_none.mp e r hr) (by simp)
 |some q =>
  have h1:=List.find?_some e
  have h2:=List.mem_of_find?_eq_some e
  rw[OkR.inj ok q (K'.mpr h2) r (K'.mpr hr) (of_decide_eq_true h1)]
def JJ{rs:List Rz}{n:Tx}(h:∀q∈rs,q.n≠n):Ac rs n=none:=List.find?_eq_none.mpr fun q hq=>by simpa using h q hq
def OG{rs:List Rz}(ok:OkZ rs):Ac rs t0=none:=JJ fun q hq=>(OkR.all ok q (K'.mpr hq)).ne
def kvZ(rs:List Rz):List (PyData×PyData):=rs.map fun r=>(eT r.n,eZ r)
def OD(t:Tx):∀rs:List Rz,IG (kvZ rs) t.1=(Ac rs t).map eZ
 |[]=>rfl
 |r::rs=>by
  show(if r.n.1=t.1 then some (eZ r) else IG (kvZ rs) t.1)=_
  unfold Ac
  rw[lh]
  by_cases h:r.n=t
  ·rw[if_pos (by rw[h]),decide_eq_true h];rfl
  ·rw[if_neg (fun z=>h (nR z)),decide_eq_false h];exact OD t rs
def aL{rs:List Rz}{r:Rz}(h:∀q∈rs,q.n≠r.n):RK (kvZ rs) r.n.1 (eZ r)=kvZ (rs++[r]):=by
 unfold RK
 rw[OD,JJ h]
 show(if (none:Option PyData).isSome=true then _ else _)=_
 rw[if_neg (by decide)]
 unfold kvZ
 rw[lD];rfl
def U2{rs pre post:List Rz}{r:Rz}(ok:OkZ rs)(e:rs=pre++r::post):∀q∈pre,q.n≠r.n:=by
 have:OkR (post.reverse++(r::pre.reverse)):=by
  have:=ok
  unfold OkZ at this
  rw[e]at this
  simpa using this
 exact fun q hq=>this.suf.2.2.1 q (K'.mpr hq)
def Ku(a b:Tx):fNe (eT a) (eT b)=some (.bool (!decide (a=b))):=encT.fNe a b
def JL(a b:Tx):fEq (eT a) (eT b)=some (.bool (decide (a=b))):=encT.fEq a b
def XT{i:Nat}{e k:DX}{τ t4 t7:DS}{d:PyData}{x:Str}{kv0 kvs:List (PyData×PyData)}(he:e τ=some (d,t4))(h1:t4[i]?=some (some (.g (.dict kv0))))(hk:k t4=some (.str x,t7))(h2:t7[i]?=some (some (.g (.dict kvs))))(hf:Cs d=true)(hz:kvs.length<=1000) :
  L7 i e k τ=some (.nx (t7.set i (some (.g (.dict (RK kvs x d)))))):=by
 unfold L7
 rw[he]
 dsimp only[Option.bind]
 rw[h1]
 dsimp only
 rw[hk]
 dsimp only
 rw[h2]
 dsimp only
 rw[if_pos ⟨hf,Nat.lt_of_le_of_lt hz (by decide)⟩]
def bO{i:Nat}{f:DX}{τ t4:DS}{x:Str}{kvs:List (PyData×PyData)}(hf:f τ=some (.str x,t4))(h:t4[i]?=some (some (.g (.dict kvs)))):Rv false f i τ=some (.bool (IG kvs x).isSome,t4):=by
 unfold Rv
 rw[hf]
 dsimp only[Option.bind]
 rw[h]
 dsimp only
 rw[Bool.false_bne]
def bJ{i:Nat}{f:DX}{τ t4:DS}{x:Str}{kv0 kvs:List (PyData×PyData)}{d:PyData}(h0:τ[i]?=some (some (.g (.dict kv0))))(hf:f τ=some (.str x,t4))(h:t4[i]?=some (some (.g (.dict kvs))))(hd:IG kvs x=some d):Ru i f τ=some (d,t4):=by
 unfold Ru
 rw[h0]
 dsimp only
 rw[hf]
 dsimp only[Option.bind]
 rw[h]
 dsimp only
 rw[hd];rfl
def SD{c:DT}{b:DB}{n:Nat}{τ:DS}{o:Option Out}(h:dWh c b n τ=o):FZ (fun _=>n) c b τ=o:=h
def Uo{rs:List Rz}(ok:OkZ rs)(hl:rs.length<=40){a:Tx}(ha:a=t0\/∃q∈rs,q.n=a):∃ls,Ez [.d (.list (rs.map eZ)),.d (eT a)]=some (.list ((hsR rs.reverse a).map eT),ls):=by
 let R:Option L:=some (.d (.list (rs.map eZ)))
 let T:Tx->Option L:=fun a=>some (.d (eT a))
 let M:List Tx->Option L:=fun l=>some (.m (l.map eT))
 let G:List Rz->Option L:=fun l=>some (.g (.dict (kvZ l)))
 let st:List Rz->Option L->DS:=fun l o=>[R,T a,M [],G l,o]
 have lp:∃t5,BC (dN 4) (L7 3 Qd (dOp AN Qd qD)) (rs.map eZ) (st [] none)=some (.nx t5)/\∃o,nM o/\t5=st rs o:=by
  refine C4 (fun pre τ=>∃o,nM o/\τ=st pre o) ⟨none,BI,rfl⟩ ?_
  rintro pre r post τ e ⟨o,ho,rfl⟩
  have hz:=Eg e
  refine⟨st pre (some (.d (eZ r))),st (pre++[r]) (some (.d (eZ r))),Cv (o:=o) rfl ho,?_,_,DQ,rfl⟩
  refine(XT (d:=eZ r) (x:=r.n.1) (kv0:=kvZ pre) (kvs:=kvZ pre) (t4:=st pre (some (.d (eZ r)))) (t7:=st pre (some (.d (eZ r)))) rfl rfl (oQ (eZ r) (.int 0) (st pre (some (.d (eZ r)))) rfl rfl rfl) rfl (encZ.fix r) ?_).trans ?_
  ·rw[show(kvZ pre).length=pre.length from B' ..];omega
  ·rw[aL (U2 ok e)];rfl
 obtain⟨t5,e1,o,ho,rfl⟩:=lp
 let C:DT:=Qr
 let B:DB:=QQ
 let sw:Tx->List Tx->DS:=fun a l=>[R,T a,M l,G rs,o]
 have cT:∀b l,C (sw b l)=some (!decide (b=t0)&&(Ac rs b).isSome,sw b l):=fun b l=>by
  refine Fh (tst (oQ (eT b) (eT t0) (sw b l) rfl rfl (Ku b t0))) (tst ?_)
  rw[bO (x:=b.1) (kvs:=kvZ rs) (t4:=sw b l) rfl rfl,OD,nF]
 have wl:∀(ah post:List Rz) (b:Tx) (l:List Tx) (n:Nat),rs.reverse=post++ah->(b=t0\/∃q∈ah,q.n=b)->ah.length<n->l.length+ah.length<=60->∃b',dWh C B n (sw b l)=some (.nx (sw b' (l++hsR ah b))):=by
  have stop:∀(ah:List Rz) (l:List Tx) (n:Nat),OkR ah->0<n->∃b',dWh C B n (sw t0 l)=some (.nx (sw b' (l++hsR ah t0))):=fun ah l n oa hn=>by
   obtain⟨n,rfl⟩:∃m,n=m+1:=⟨n-1,by omega⟩
   refine⟨t0,?_⟩
   rw[EX oa,ku]
   refine W6 (t4:=sw t0 l) ?_
   rw[cT,decide_eq_true rfl];rfl
  intro ah
  induction ah with
  |nil =>
   intro post b l n e hb hn _
   rcases hb with rfl|⟨q,hq,_⟩
   ·exact stop [] l n trivial (by omega)
   ·cases hq
  |cons r ah ih =>
   intro post b l n e hb hn hz
   have okr:OkR (r::ah):=(show OkR (post++r::ah) from e▸ok).suf
   rcases hb with rfl|⟨q,hq,hqb⟩
   ·exact stop (r::ah) l n okr (by omega)
   simp only[List.length_cons]at hn hz
   by_cases h:r.n=b
   ·obtain⟨n,rfl⟩:∃m,n=m+1:=⟨n-1,by omega⟩
    have hr:r∈rs:=K'.mp (e▸P' _ L')
    have hf:Ac rs b=some r:=h▸CU ok hr
    obtain⟨b',e2⟩:=ih (post++[r]) r.h (l++[b]) n (by rw[e];simp) okr.2.2.2 (by omega) (by rw[T'];simp only[List.length_cons,List.length_nil];omega)
    refine⟨b',(Zy (t4:=sw b l) (t7:=sw r.h (l++[b])) ?_ ?_).trans (e2.trans ?_)⟩
    ·rw[cT,hf,decide_eq_false (h▸okr.2.1.ne)];rfl
    ·have s1:CV (dMt 2 A8 qA) (sw b l)=some (.nx (sw b (l++[b]))):=by
      refine(Wq (i:=2) (d:=eT b) (xs:=l.map eT) (t4:=sw b l) rfl rfl (by rw[B'];omega)).trans ?_
      show some (Out.nx [R,T b,some (.m (l.map eT++[eT b])),G rs,o])=_
      rw[show l.map eT++[eT b]=(l++[b]).map eT by rw[lD];rfl]
     refine(AE s1).trans (AU (d:=eT r.h) (t4:=sw b (l++[b])) (oQ (eZ r) (.int 1) (sw b (l++[b])) (bJ (x:=b.1) (kv0:=kvZ rs) (kvs:=kvZ rs) (t4:=sw b (l++[b])) rfl rfl rfl (by rw[OD,hf];rfl)) rfl rfl) rfl)
    ·rw[show hsR (r::ah) b=b::hsR ah r.h from by rw[hsR,if_pos h],lK]
     rfl
   ·have:∃q∈ah,q.n=b:=by
     rcases kY.mp hq with rfl|hq
     ·exact absurd hqb h
     ·exact⟨q,hq,hqb⟩
    obtain⟨b',e2⟩:=ih (post++[r]) b l n (by rw[e];simp) (.inr this) (by omega) (by omega)
    refine⟨b',e2.trans ?_⟩
    rw[show hsR (r::ah) b=hsR ah b from by rw[hsR,if_neg h]]
 obtain⟨b',e2⟩:=wl rs.reverse [] a [] 100 rfl (ha.imp id fun⟨q,hq,e⟩=>⟨q,K'.mpr hq,e⟩) (by rw[lR];omega) (by rw[lR,List.length_nil];omega)
 rw[lj]at e2
 refine⟨[.d (.list (rs.map eZ)),.d (eT a)],?_⟩
 unfold Ez
 refine AL (τ:=sw b' (hsR rs.reverse a)) ?_ rfl rfl
 exact(AE (t4:=[R,T a,M [],none,none]) rfl).trans ((AE (t4:=st [] none) rfl).trans ((AE ((Cw (ds:=rs.map eZ) (t4:=st [] none) rfl).trans e1)).trans ((AE (t4:=sw b' (hsR rs.reverse a)) (SD e2)).trans rfl)))
def oZ:Option Rz->PyData
 |none=>.none
 |some r=>eZ r
def EM(r:Rz):Ab [.d (eZ r)]=some (eT r.n,[.d (eZ r)]):=rfl
def C0(r:Rz):AK [.d (eZ r)]=some (eT r.h,[.d (eZ r)]):=rfl
def Cq(rs:List Rz)(a:Tx):∃ls,Av [.d (.list (rs.map eZ)),.d (eT a)]=some (oZ (Ac rs a),ls):=by
 let R:Option L:=some (.d (.list (rs.map eZ)))
 let A:Option L:=some (.d (eT a))
 let B:DB:=AO (AD (dOp fEq (AB Ab (AA (AJ 2) AF)) (AJ 1))) (AM (AJ 2)) AQ
 have tt:∀r:Rz,AD (dOp fEq (AB Ab (AA (AJ 2) AF)) (AJ 1)) [R,A,some (.d (eZ r))]=some (decide (r.n=a),[R,A,some (.d (eZ r))]):=fun r =>
  tst (oQ (eT r.n) (eT a) [R,A,some (.d (eZ r))] (AW (t4:=[R,A,some (.d (eZ r))]) (ds:=[eZ r]) rfl rfl (EM r)) rfl (JL _ _))
 have lp:∀(xs:List Rz) (o:Option L),nM o->(∀r,Ac xs a=some r->BC (dN 2) B (xs.map eZ) [R,A,o]=some (.rt (eZ r) [R,A,some (.d (eZ r))]))/\(Ac xs a=none->∃o',BC (dN 2) B (xs.map eZ) [R,A,o]=some (.nx [R,A,o'])):=by
  intro xs
  induction xs with
  |nil=>exact fun o ho=>⟨fun r h=>(by cases h),fun _=>⟨o,rfl⟩⟩
  |cons x xs ih =>
   intro o ho
   have e0:dN 2 (eZ x) [R,A,o]=some [R,A,some (.d (eZ x))]:=Cv (o:=o) rfl ho
   have un:BC (dN 2) B ((x::xs).map eZ) [R,A,o]=(B [R,A,some (.d (eZ x))]).bind fun o=>match o with
     |.nx t7=>BC (dN 2) B (xs.map eZ) t7
     |.ct t7=>BC (dN 2) B (xs.map eZ) t7
     |.bk t7=>some (.nx t7)
     |.rt d t7=>some (.rt d t7):=by
    rw[kg,BC,e0];rfl
   by_cases h:x.n=a
   ·have eb:B [R,A,some (.d (eZ x))]=some (.rt (eZ x) [R,A,some (.d (eZ x))]):=(A3 (t4:=[R,A,some (.d (eZ x))]) (by rw[tt,decide_eq_true h])).trans rfl
    have ef:Ac (x::xs) a=some x:=by unfold Ac;rw[lh,decide_eq_true h]
    refine⟨fun r hr=>?_,fun hn=>?_⟩
    ·rw[ef]at hr;cases hr
     rw[un,eb];rfl
    ·rw[ef]at hn;cases hn
   ·have eb:B [R,A,some (.d (eZ x))]=some (.nx [R,A,some (.d (eZ x))]):=(Ae (t4:=[R,A,some (.d (eZ x))]) (by rw[tt,decide_eq_false h])).trans rfl
    have ef:Ac (x::xs) a=Ac xs a:=by unfold Ac;rw[lh,decide_eq_false h]
    obtain⟨i1,i2⟩:=ih (some (.d (eZ x))) DQ
    rw[un,eb,ef]
    exact⟨i1,i2⟩
 obtain⟨l1,l2⟩:=lp rs none BI
 refine⟨[.d (.list (rs.map eZ)),.d (eT a)],?_⟩
 unfold Av
 cases h:Ac rs a with
 |some r=>exact AL (τ:=[R,A,some (.d (eZ r))]) (As ((Cw (ds:=rs.map eZ) (t4:=[R,A,none]) rfl).trans (l1 r h))) rfl rfl
 |none =>
  obtain⟨o',e⟩:=l2 h
  exact AL (τ:=[R,A,o']) ((AE ((Cw (ds:=rs.map eZ) (t4:=[R,A,none]) rfl).trans e)).trans rfl) rfl rfl
def MM{c:DT}{n:Nat}{b r:DBX}{τ t5:DS}(h:c τ=some (true,t5)):A4 (xIf c (CC n) b) r τ=some (.inr n):=by
 unfold A4 xIf
 rw[h];rfl
def Hk{c:DT}{a r:DBX}{τ t5:DS}(h:c τ=some (false,t5)):A4 (xIf c a QM) r τ=r t5:=by
 unfold A4 xIf
 rw[h];rfl
def Dr{b:DB}{r:DBX}{τ t5:DS}(h:b τ=some (.nx t5)):A4 (xOf b) r τ=r t5:=by
 unfold A4 xOf
 rw[h];rfl
def R9{b:DB}{r:DBX}{τ t5:DS}{d:PyData}(h:b τ=some (.rt d t5)):A4 (xOf b) r τ=some (.inl (.rt d t5)):=by
 unfold A4 xOf
 rw[h];rfl
def enX:FG->Option (PyData ⊕ Nat)
 |.inl (.nx _)=>some (.inl .none)
 |.inl (.rt d _)=>some (.inl d)
 |.inr n=>some (.inr n)
 |_=>none
def DH{np nl:Nat}{f:DBX}{ds:List PyData}{o:FG}{v:PyData ⊕ Nat}(h:f ((ds.map L.d).map some++List.replicate nl none)=some o)(hl:ds.length=np)(hv:enX o=some v):C7 np nl f ds=some v:=by
 unfold C7
 rw[if_pos hl,h,k6]
 cases o with
 |inr n=>exact hv
 |inl o=>cases o<;>exact hv
def Oo{rs:List Rz}(a:Tx):Dy [.list (rs.map eZ),eT a]=some (match Ac rs a with|some r=>.inl (eZ r)|none=>.inr 6):=by
 let D:PyData:=.list (rs.map eZ)
 obtain⟨l,e⟩:=Cq rs a
 let t9:DS:=[some (.d D),some (.d (eT a)),none]
 let τ:DS:=[some (.d D),some (.d (eT a)),some (.d (oZ (Ac rs a)))]
 unfold Dy
 have z:AI (AB Av qe) QH t9=some (.nx τ):=AU (t4:=t9) (cQ t9 [D,eT a] rfl rfl e) rfl
 cases hf:Ac rs a with
 |none=>exact DH ((Dr z).trans (MM (t5:=τ) (by show AD _ [_,_,some (.d (oZ (Ac rs a)))]=some (true,[_,_,some (.d (oZ (Ac rs a)))]);rw[hf];rfl))) rfl rfl
 |some r =>
  refine DH (o:=.inl (.rt (eZ r) τ)) ((Dr z).trans ((Hk (t5:=τ) ?_).trans ?_)) rfl rfl
  ·show AD _ [_,_,some (.d (oZ (Ac rs a)))]=some (false,[_,_,some (.d (oZ (Ac rs a)))]);rw[hf];rfl
  ·show xOf (AM qI) [_,_,some (.d (oZ (Ac rs a)))]=some (.inl (.rt (eZ r) [_,_,some (.d (oZ (Ac rs a)))]));rw[hf];rfl
def M0{rs:List Rz}{r:Rz}(h:Ac rs r.n=some r):∃ls,Cf [.d (.list (rs.map eZ)),.d (eT r.n)]=some (eZ r,ls):=by
 have e:=Oo (rs:=rs) r.n
 rw[h]at e
 exact⟨_,ZY (ds:=[.list (rs.map eZ),eT r.n]) e⟩
def HZ{rs:List Rz}(ok:OkZ rs){r:Rz}(hr:r∈rs):∃ls,Cf [.d (.list (rs.map eZ)),.d (eT r.n)]=some (eZ r,ls):=M0 (CU ok hr)
def Ls{rs:List Rz}(ok:OkZ rs)(hl:rs.length<=40){a:Tx}(ha:a=t0\/∃q∈rs,q.n=a):∃ls,Bf [.d (.list (rs.map eZ)),.d (eT a)]=some (.list ((hsR rs.reverse a).tail.map eT),ls):=by
 let R:Option L:=some (.d (.list (rs.map eZ)))
 let A:Option L:=some (.d (eT a))
 let M:List Tx->Option L:=fun l=>some (.m (l.map eT))
 let sw:Tx->List Tx->DS:=fun b l=>[R,A,M l,some (.d (oZ (Ac rs b)))]
 let C:DT:=An (AD (dOp B9 qT jD)) (AD (dOp fNe (AB AK qg) qa))
 let B:DB:=AH (CV (dMt 2 A8 (AA (AB AK qg) AF))) (AI (AB Av (AA qB (AA (AB AK qg) AF))) Qv)
 have cN:∀b l,Ac rs b=none->C (sw b l)=some (false,sw b l):=fun b l h=>by
  have e:sw b l=[R,A,M l,some (.d .none)]:=by show[R,A,M l,some (.d (oZ (Ac rs b)))]=_;rw[h];rfl
  rw[e];rfl
 have cS:∀b l r,Ac rs b=some r->C (sw b l)=some (!decide (r.h=t0),sw b l):=fun b l r h=>by
  have e:sw b l=[R,A,M l,some (.d (eZ r))]:=by show[R,A,M l,some (.d (oZ (Ac rs b)))]=_;rw[h];rfl
  rw[e]
  exact(Fh (p:=true) (τ:=[R,A,M l,some (.d (eZ r))]) rfl (tst (oQ (eT r.h) (eT t0) [R,A,M l,some (.d (eZ r))] (AW (t4:=[R,A,M l,some (.d (eZ r))]) (ds:=[eZ r]) rfl rfl (C0 r)) rfl (Ku _ _)))).trans (by rw[mB])
 have stop:∀(b:Tx) (l:List Tx) (n:Nat),0<n->(C (sw b l)=some (false,sw b l))->dWh C B n (sw b l)=some (.nx (sw b l)):=fun b l n hn h=>by
  obtain⟨n,rfl⟩:∃m,n=m+1:=⟨n-1,by omega⟩
  exact W6 h
 have wl:∀(ah post:List Rz) (b:Tx) (l:List Tx) (n:Nat),rs.reverse=post++ah->(b=t0\/∃q∈ah,q.n=b)->ah.length<n->l.length+ah.length<=60->∃b',dWh C B n (sw b l)=some (.nx (sw b' (l++(hsR ah b).tail))):=by
  intro ah
  induction ah with
  |nil =>
   intro post b l n e hb hn _
   rcases hb with rfl|⟨q,hq,_⟩
   ·exact⟨t0,by rw[show(hsR [] t0).tail=[] from rfl,ku];exact stop _ _ _ (by omega) (cN _ _ (OG ok))⟩
   ·cases hq
  |cons r ah ih =>
   intro post b l n e hb hn hz
   have okr:OkR (r::ah):=(show OkR (post++r::ah) from e▸ok).suf
   rcases hb with rfl|⟨q,hq,hqb⟩
   ·exact⟨t0,by rw[EX okr,List.tail_nil,ku];exact stop _ _ _ (by omega) (cN _ _ (OG ok))⟩
   simp only[List.length_cons]at hn hz
   by_cases h:r.n=b
   ·have hr:r∈rs:=K'.mp (e▸P' _ L')
    have hf:Ac rs b=some r:=h▸CU ok hr
    rw[show(hsR (r::ah) b).tail=hsR ah r.h from by rw[hsR,if_pos h,nT]]
    rcases okr.2.2.2 with hh|hh
    ·refine⟨b,?_⟩
     rw[hh,EX okr.1,ku]
     exact stop _ _ _ (by omega) (by rw[cS b l r hf,hh,decide_eq_true rfl];rfl)
    ·have hne:r.h≠t0:=fun z=>by
      obtain⟨q,hq,hz⟩:=hh
      exact(OkR.all okr.1 q hq).ne (hz.trans z)
     obtain⟨tl,htl⟩:=OB hh
     obtain⟨n,rfl⟩:∃m,n=m+1:=⟨n-1,by omega⟩
     obtain⟨b',e2⟩:=ih (post++[r]) r.h (l++[r.h]) n (by rw[e];simp) (.inr hh) (by omega) (by rw[T'];simp only[List.length_cons,List.length_nil];omega)
     refine⟨b',(Zy (t4:=sw b l) (t7:=sw r.h (l++[r.h])) ?_ ?_).trans (e2.trans ?_)⟩
     ·rw[cS b l r hf,decide_eq_false hne];rfl
     ·obtain⟨lf,ef⟩:=Cq rs r.h
      let s2:List Tx->DS:=fun l=>[R,A,M l,some (.d (eZ r))]
      have es:sw b l=s2 l:=by show[R,A,M l,some (.d (oZ (Ac rs b)))]=_;rw[hf];rfl
      rw[es]
      have hx:∀l,AB AK qg (s2 l)=some (eT r.h,s2 l):=fun l=>AW (t4:=s2 l) (ds:=[eZ r]) rfl rfl (C0 r)
      have s1:CV (dMt 2 A8 (AA (AB AK qg) AF)) (s2 l)=some (.nx (s2 (l++[r.h]))):=by
       refine(Wq (i:=2) (d:=eT r.h) (xs:=l.map eT) (t4:=s2 l) (acc (hx l) rfl) rfl (by rw[B'];omega)).trans ?_
       show some (Out.nx [R,A,some (.m (l.map eT++[eT r.h])),some (.d (eZ r))])=_
       rw[show l.map eT++[eT r.h]=(l++[r.h]).map eT by rw[lD];rfl]
      exact(AE s1).trans (AU (d:=oZ (Ac rs r.h)) (t4:=s2 (l++[r.h])) (cQ (s2 (l++[r.h])) [.list (rs.map eZ),eT r.h] (acc (t4:=s2 (l++[r.h])) rfl (acc (hx _) rfl)) rfl ef) rfl)
     ·rw[htl,nT,lK]
      rfl
   ·have:∃q∈ah,q.n=b:=by
     rcases kY.mp hq with rfl|hq
     ·exact absurd hqb h
     ·exact⟨q,hq,hqb⟩
    obtain⟨b',e2⟩:=ih (post++[r]) b l n (by rw[e];simp) (.inr this) (by omega) (by omega)
    refine⟨b',e2.trans ?_⟩
    rw[show hsR (r::ah) b=hsR ah b from by rw[hsR,if_neg h]]
 obtain⟨b',e2⟩:=wl rs.reverse [] a [] 100 rfl (ha.imp id fun⟨q,hq,e⟩=>⟨q,K'.mpr hq,e⟩) (by rw[lR];omega) (by rw[lR,List.length_nil];omega)
 rw[lj]at e2
 obtain⟨lf,ef⟩:=Cq rs a
 refine⟨[.d (.list (rs.map eZ)),.d (eT a)],?_⟩
 unfold Bf
 refine AL (τ:=sw b' (hsR rs.reverse a).tail) ?_ rfl rfl
 exact(AE (t4:=[R,A,M [],none]) rfl).trans ((AE (t4:=sw a []) (AU (cQ [R,A,M [],none] [.list (rs.map eZ),eT a] rfl rfl ef) rfl)).trans ((AE (t4:=sw b' (hsR rs.reverse a).tail) (SD e2)).trans rfl))
def Bq{α:Type}{enc:α->PyData}{xs:List α}{k:Int}(h0:0<=k)(h1:k<(xs.length:Int)):∃a,atI (xs.map enc) k=some (enc a)/\xs[k.toNat]?=some a:=by
 have hk:k.toNat<xs.length:=by omega
 refine⟨xs[k.toNat],?_,km hk⟩
 unfold atI ixN
 rw[B',if_pos h0,if_pos h1]
 simp[hk]
def Y8{α:Type}{enc:α->PyData}{xs:List α}(h:0<xs.length):∃a∈xs,atI (xs.map enc) (-1)=some (enc a):=by
 have hk:xs.length-1<xs.length:=by omega
 refine⟨xs[xs.length-1],ma hk,?_⟩
 unfold atI ixN
 rw[B',if_neg (by decide),if_pos (by omega)]
 show(xs.map enc)[((-1:Int)+(xs.length:Int)).toNat]?=_
 rw[show((-1:Int)+(xs.length:Int)).toNat=xs.length-1 by omega]
 simp[hk]
def KH:List Tx:=[kS 4,kS 5,kS 6,kS 7,kS 8,kS 9]
def KA:List Nat:=[0,1,2,3,0,3,4,5,6,7,8,9]
def X4{τ:DS}:Cn (AB By AF) (dPt qv) Bl τ=some (.tuple (KH.map eT),τ):=rfl
def Rg{i:Nat}(hi:i<10):kS i∈KH↔4<=i:=by
 have:∀i:Fin 10,decide (kS i∈KH)=decide (4<=i.1):=∅
 have:=this ⟨i,hi⟩
 rwa [decide_eq_decide]at this
def inL(t:Tx)(ts:List Tx):fIn false (eT t) (.list (ts.map eT))=some (.bool (decide (t∈ts))) :=
 (encT.fIn t ts).trans (congrArg (fun b=>some (PyData.bool b)) (decide_eq_decide.mpr mC))
def YB(t:Tx)(ts:List Tx):fIn true (eT t) (.list (ts.map eT))=some (.bool (!decide (t∈ts))) :=
 (encT.fNotIn t ts).trans (congrArg (fun b=>some (PyData.bool (!b))) (decide_eq_decide.mpr mC))
def Kj{rs:List Rz}(ok:OkZ rs)(hl:rs.length<=40)(v:Int):∃(r:Rz) (w:Int) (ls:List L),Ck [.d (.list (rs.map eZ)),.d (.int v)]=some (.tuple [eZ r,.int w],ls)/\OkRow r /\
  (r.h=t0\/∃q∈rs,q.n=r.h/\4<=kz q.d/\(hsR rs.reverse q.n).length<7)/\(kz r.d=8->∀q∈rs,q.n∈hsR rs.reverse r.h->kz q.d≠8):=by
 let D:PyData:=.list (rs.map eZ)
 let R:Option L:=some (.d D)
 let I:Int->Option L:=fun i=>some (.d (.int i))
 let T:Tx->Option L:=fun a=>some (.d (eT a))
 let M:List Tx->Option L:=fun l=>some (.m (l.map eT))
 obtain⟨nm,u,l1,e1,n1,n8,na⟩:=Rc v
 let p:Rz->Bool:=fun r=>decide (kS (kz r.d)∈KH)&&decide (((hsR rs.reverse r.n).length:Int)<7)
 let hsO:List Rz->List Tx:=fun l=>t0::(l.filter p).map (·.n)
 let ex:DS:=[none,none,none,none,none,none]
 let s3:List Tx->Option L->DS:=fun hs o4=>R::I u::T nm::M hs::o4::none::ex
 have lp:∃t5,BC (dN 4) (AO (An (AD (dOp (fIn false) (dOp AN Qd QO) (Cn (AB By AF) (dPt qv) Bl))) (AD (dOp fLt (Ak Bp (AA (AB Ez (AA qB QD)) AF)) QR))) (CV (dMt 3 A8 QD)) AQ) (rs.map eZ) (s3 (hsO []) none)=some (.nx t5)/\∃o,nM o/\t5=s3 (hsO rs) o:=by
  refine C4 (fun pre τ=>∃o,nM o/\τ=s3 (hsO pre) o) ⟨none,BI,rfl⟩ ?_
  rintro pre r post τ e ⟨o,ho,rfl⟩
  have hz:=Eg e
  have hr:r∈rs:=HY e
  let t4:=s3 (hsO pre) (some (.d (eZ r)))
  obtain⟨lu,eu⟩:=Uo ok hl (a:=r.n) (.inr ⟨r,hr,rfl⟩)
  have c1:AD (dOp (fIn false) (dOp AN Qd QO) (Cn (AB By AF) (dPt qv) Bl)) t4=some (decide (kS (kz r.d)∈KH),t4) :=
   tst (oQ (eT (kS (kz r.d))) (.tuple (KH.map eT)) t4 (oQ (eZ r) (.int 5) t4 rfl rfl rfl) X4 (inT _ _))
  have c2:AD (dOp fLt (Ak Bp (AA (AB Ez (AA qB QD)) AF)) QR) t4=some (decide (((hsR rs.reverse r.n).length:Int)<7),t4):=by
   refine tst (oQ (.int ((hsR rs.reverse r.n).length:Int)) (.int 7) t4 (E8 (d:=.list ((hsR rs.reverse r.n).map eT)) (cQ t4 [D,eT r.n] (acc (t4:=t4) rfl (acc (t4:=t4) (oQ (eZ r) (.int 0) t4 rfl rfl rfl) rfl)) rfl eu) ?_) rfl rfl)
   show some (PyData.int (((hsR rs.reverse r.n).map eT).length:Int))=_
   rw[B']
  have c:=Fh c1 c2
  refine⟨t4,s3 (hsO (pre++[r])) (some (.d (eZ r))),Cv (o:=o) rfl ho,?_,_,DQ,rfl⟩
  cases hp:p r with
  |true =>
   refine(A3 (t4:=t4) (c.trans (by rw[show(_&&_)=true from hp]))).trans ?_
   have hpl:(pre.filter p).length<=pre.length:=lU ..
   refine(Wq (i:=3) (d:=eT r.n) (xs:=(hsO pre).map eT) (t4:=t4) (acc (t4:=t4) (oQ (eZ r) (.int 0) t4 rfl rfl rfl) rfl) rfl ?_).trans ?_
   ·rw[B']
    show((pre.filter p).map (·.n)).length+1<900
    rw[B'];omega
   ·have:(hsO pre).map eT++[eT r.n]=(hsO (pre++[r])).map eT:=by
     show eT t0::((pre.filter p).map (·.n)).map eT++[eT r.n]=eT t0::(((pre++[r]).filter p).map (·.n)).map eT
     rw[List.filter_append,lO,hp]
     simp
    show some (Out.nx (R::I u::T nm::some (.m ((hsO pre).map eT++[eT r.n]))::some (.d (eZ r))::none::ex))=_
    rw[this]
  |false =>
   refine(Ae (t4:=t4) (c.trans (by rw[show(_&&_)=false from hp]))).trans ?_
   have:hsO (pre++[r])=hsO pre:=by
    show t0::((pre++[r]).filter p).map (·.n)=t0::(pre.filter p).map (·.n)
    rw[List.filter_append,lO,hp]
    simp
   rw[this];rfl
 obtain⟨t5,e3,o4,ho4,rfl⟩:=lp
 generalize hhs:hsO rs=hs at e3
 have hs0:0<hs.length:=by rw[<- hhs];exact nL _
 have hs1:hs.length<=41:=by
  rw[<- hhs]
  show((rs.filter p).map (·.n)).length+1<=41
  have hpl:(rs.filter p).length<=rs.length:=lU ..
  rw[B'];omega
 have hsm:∀h∈hs,h=t0\/∃q∈rs,q.n=h/\4<=kz q.d/\(hsR rs.reverse q.n).length<7:=fun h hh=>by
  rw[<- hhs]at hh
  rcases kY.mp hh with rfl|hh
  ·exact .inl rfl
  ·obtain⟨q,hq,rfl⟩:=ly.mp hh
   obtain⟨hq1,hq2⟩:=lB.mp hq
   have hq2:(decide (kS (kz q.d)∈KH)&&decide (((hsR rs.reverse q.n).length:Int)<7))=true:=hq2
   rw[Y',decide_eq_true_eq,decide_eq_true_eq,Rg (Cc _)]at hq2
   exact .inr ⟨q,hq1,rfl,hq2.1,by omega⟩
 have okm4:okM o4=true:=Ll ho4
 let s5:Int->Option L->DS:=fun u o5=>R::I u::T nm::M hs::o4::o5::ex
 let b5:Int->Option L->DS:=fun u o5=>R::I u::T nm::some (.d (.list (hs.map eT)))::o4::o5::ex
 have hok:∀u o5,okM o5=true->(b5 u o5).all okM=true:=fun u o5 h=>by
  show(true&&(true&&(true&&(true&&(okM o4&&(okM o5&&true))))))=true
  rw[okm4,h];rfl
 have ln:∀u o5,Ak Bp qg (b5 u o5)=some (.int (hs.length:Int),b5 u o5):=fun u o5=>by
  refine E8 (d:=.list (hs.map eT)) (t4:=b5 u o5) rfl ?_
  show some (PyData.int ((hs.map eT).length:Int))=_
  rw[B']
 have n0:(0:Int)<(hs.length:Int):=by omega
 have k0:=lN u (show(hs.length:Int)≠0 by omega)
 have k1:=lH u n0
 obtain⟨ha,ea,ha2⟩:=Bq (enc:=eT) (xs:=hs) k0 k1
 have ha3:ha∈hs:=ka ha2
 have z4:Qb (s5 u none)=some (.nx (s5 u (T ha))):=by
  refine AU (d:=eT ha) (t4:=s5 u none) (Y4 (i:=3) (xs:=hs.map eT) rfl ?_ rfl (hok u none rfl)) rfl
  exact oQ (.list (hs.map eT)) (.int (u % (hs.length:Int))) (b5 u none) rfl (oQ (.int u) (.int (hs.length:Int)) (b5 u none) rfl (ln u none) (BA n0)) ea
 have z5:∃h∈hs,qw (s5 u (T ha))=some (.nx (s5 u (T h))):=by
  have c:C6 3 (AD (dOp fEq (dOp Af (dOp A7 qE (Ak Bp qg)) qV) qD)) (s5 u (T ha))=some (decide (u / (hs.length:Int) % 2=0),s5 u (T ha)):=by
   refine SH (i:=3) (xs:=hs.map eT) (t4:=b5 u (T ha)) rfl (tst (oQ (.int (u / (hs.length:Int) % 2)) (.int 0) (b5 u (T ha)) (oQ (.int (u / (hs.length:Int))) (.int 2) (b5 u (T ha)) (oQ (.int u) (.int (hs.length:Int)) (b5 u (T ha)) rfl (ln u _) (BZ n0 (by omega))) rfl (BA (by decide))) rfl (encI.fEq _ _))) (hok u _ rfl)
  by_cases h:u / (hs.length:Int) % 2=0
  ·obtain⟨hb,hb1,eb⟩:=Y8 (enc:=eT) hs0
   refine⟨hb,hb1,(A3 (t4:=s5 u (T ha)) (by rw[c,decide_eq_true h])).trans ?_⟩
   refine AU (d:=eT hb) (t4:=s5 u (T ha)) (Y4 (i:=3) (xs:=hs.map eT) rfl ?_ rfl (hok u _ rfl)) rfl
   exact oQ (.list (hs.map eT)) (.int (-1)) (b5 u (T ha)) rfl rfl eb
  ·exact⟨ha,ha3,(Ae (t4:=s5 u (T ha)) (by rw[c,decide_eq_false h])).trans rfl⟩
 obtain⟨h,hh,z5⟩:=z5
 generalize hu2:u / (hs.length:Int) / 2=u2
 have z6:Qc (s5 u (T h))=some (.nx (s5 u2 (T h))):=by
  refine AU (d:=.int u2) (t4:=s5 u (T h)) (Y4 (i:=3) (xs:=hs.map eT) rfl ?_ rfl (hok u _ rfl)) rfl
  rw[<- hu2]
  exact oQ (.int (u / (hs.length:Int))) (.int 2) (b5 u (T h)) (oQ (.int u) (.int (hs.length:Int)) (b5 u (T h)) rfl (ln u _) (BZ n0 (by omega))) rfl (BZ (by decide) (by decide))
 obtain⟨x,u3,l3,ex3,x0,x1⟩:=Du u2
 obtain⟨y,u4,l4,ey4,y0,y1⟩:=Du u3
 let s9:Int->Option L->Option L->Option L->Option L->Option L->Option L->DS:=fun u o6 o7 o8 o9 o10 o11=>[R,I u,T nm,M hs,o4,T h,o6,o7,o8,o9,o10,o11]
 have z7:AI (AB A2 qA) (dGT (Ag (dN 6) qY)) (s9 u2 none none none none none none)=some (.nx (s9 u3 (I x) none none none none none)) :=
  AU (cQ (s9 u2 none none none none none none) [.int u2] rfl rfl ex3) rfl
 have z8:AI (AB A2 qA) jB (s9 u3 (I x) none none none none none)=some (.nx (s9 u4 (I x) (I y) none none none none)) :=
  AU (cQ (s9 u3 (I x) none none none none none) [.int u3] rfl rfl ey4) rfl
 have m12:Af (.int u4) (.int 12)=some (.int (u4 % 12)):=BA (by decide)
 obtain⟨j,ej,ej2⟩:=Bq (enc:=fun i=>eT (kS i)) (xs:=KA) (k:=u4 % 12) (by omega) (by show u4 % 12<12;omega)
 have hj:j<10:=by
  have:=ka ej2
  have q:∀i∈KA,i<10:=by decide
  exact q j this
 let t8:Nat->DS:=fun j=>s9 u4 (I x) (I y) (T (kS j)) none none none
 have z9:AI (dOp AN (AB By AF) (dOp Af qE Q4)) (dN 8) (s9 u4 (I x) (I y) none none none none)=some (.nx (t8 j)) :=
  AU (d:=eT (kS j)) (t4:=s9 u4 (I x) (I y) none none none none) (oQ (.tuple (KA.map fun i=>eT (kS i))) (.int (u4 % 12)) (s9 u4 (I x) (I y) none none none none) rfl (oQ (.int u4) (.int 12) (s9 u4 (I x) (I y) none none none none) rfl rfl m12) ej) rfl
 have hup:h=t0\/∃q∈rs,q.n=h:=(hsm h hh).imp id fun⟨q,a,b,_⟩=>⟨q,a,b⟩
 obtain⟨lu,eu⟩:=Uo ok hl hup
 let up:=hsR rs.reverse h
 let U:Option L:=some (.d (.list (up.map eT)))
 let ta:Nat->DS:=fun j=>s9 u4 (I x) (I y) (T (kS j)) U none none
 have za:AI (AB Ez (AA qB (AA (AJ 5) AF))) (dN 9) (t8 j)=some (.nx (ta j)) :=
  AU (cQ (t8 j) [D,eT h] rfl rfl eu) rfl
 let pt:Rz->Bool:=fun r=>decide (r.n∈up)&&decide (kS (kz r.d)=kS 8)
 have zb:∃j',j'<10/\(j'=8->rs.filter pt=[])/\ql (ta j)=some (.nx (ta j')):=by
  have c1:AD (dOp fEq (AJ 8) QJ) (ta j)=some (decide (kS j=kS 8),ta j):=tst (oQ (eT (kS j)) (eT (kS 8)) (ta j) rfl rfl (JL _ _))
  have lc:dLC 1 [9] Qa QY qK qB (ta j)=some (.list ((rs.filter pt).map eZ),ta j):=by
   refine lcg (enc:=eZ) (rs:=rs) (ex:=[U]) pt eZ rfl (by omega) rfl rfl (fun r hr=>?_) (fun r hr _=>rfl)
   let τ:DS:=[some (.d (eZ r)),U]
   exact Fh (τ:=τ) (tst (oQ (eT r.n) (.list (up.map eT)) τ (oQ (eZ r) (.int 0) τ rfl rfl rfl) rfl (inL _ _))) (tst (oQ (eT (kS (kz r.d))) (eT (kS 8)) τ (oQ (eZ r) (.int 5) τ rfl rfl rfl) rfl (JL _ _)))
  have c2:AD (dOp fNe (dLC 1 [9] Qa QY qK qB) (Cy AF)) (ta j)=some (!decide (rs.filter pt=[]),ta j) :=
   tst (oQ (.list ((rs.filter pt).map eZ)) (.list (([]:List Rz).map eZ)) (ta j) lc rfl (encZ.fNeL _ _))
  have c:=Fh c1 c2
  by_cases hc:(decide (kS j=kS 8)&&!decide (rs.filter pt=[]))=true
  ·exact⟨4,by decide,fun z=>absurd z (by decide),(A3 (t4:=ta j) (by rw[c,hc])).trans rfl⟩
  ·have hc:=lL.mpr hc
   refine⟨j,hj,fun z=>?_,(Ae (t4:=ta j) (by rw[c,hc])).trans rfl⟩
   rw[z,decide_eq_true rfl,mB,Bool.not_eq_false',decide_eq_true_eq]at hc
   exact hc
 obtain⟨k,hk,hk8,zb⟩:=zb
 generalize hsh:decide (u4 / 12 % 8>0)=sh
 let S:Option L:=some (.d (.bool sh))
 have zc:Qo (ta k)=some (.nx (s9 u4 (I x) (I y) (T (kS k)) U S none)):=by
  refine AU (d:=.bool sh) (t4:=ta k) (oQ (.int (u4 / 12 % 8)) (.int 0) (ta k) (oQ (.int (u4 / 12)) (.int 8) (ta k) (oQ (.int u4) (.int 12) (ta k) rfl rfl (BZ (by decide) (by decide))) rfl (BA (by decide))) rfl ?_) rfl
  rw[<- hsh];rfl
 obtain⟨d,w,ld,ed,kd,okd⟩:=Lx hk (u4 / 96)
 let tz:DS:=s9 w (I x) (I y) (T (kS k)) U S (some (.d (eD d)))
 have zd:AI (AB Am Qk) (dGT (Ag (dN 11) qY)) (s9 u4 (I x) (I y) (T (kS k)) U S none)=some (.nx tz) :=
  AU (cQ (s9 u4 (I x) (I y) (T (kS k)) U S none) [eT (kS k),.int (u4 / 96)] (acc (t4:=s9 u4 (I x) (I y) (T (kS k)) U S none) rfl (acc (oQ (.int u4) (.int 96) (s9 u4 (I x) (I y) (T (kS k)) U S none) rfl rfl (BZ (by decide) (by decide))) rfl)) rfl ed) rfl
 refine⟨⟨nm,h,x,y,sh,d⟩,w,[.d D,.d (.int v)],?_,⟨n1,n8,na,x0,x1,y0,y1,okd⟩,hsm h hh,fun hd8 q hq hqu z=>?_⟩
 ·unfold Ck
  refine AL (τ:=tz) ?_ rfl rfl
  refine(AE (t4:=R::I u::T nm::none::none::none::ex) (AU (cQ (R::I v::none::none::none::none::ex) [.int v] rfl rfl e1) rfl)).trans ?_
  refine(AE (t4:=s3 (hsO []) none) rfl).trans ((AE ((Cw (ds:=rs.map eZ) (t4:=s3 (hsO []) none) rfl).trans e3)).trans ?_)
  refine(AE z4).trans ((AE z5).trans ((AE z6).trans ((AE z7).trans ((AE z8).trans ((AE z9).trans ((AE za).trans ((AE zb).trans ((AE zc).trans ((AE zd).trans (AX ?_))))))))))
  have ez:eZ ⟨nm,h,x,y,sh,d⟩ = .tuple [eT nm,eT h,.int x,.int y,.bool sh,eT (kS k),eD d]:=by rw[<- kd];rfl
  rw[ez];rfl
 ·have f:=hk8 (kd▸hd8)
  have : q ∈ rs.filter pt := lB.mpr ⟨hq, by
   show(decide (q.n∈up)&&decide (kS (kz q.d)=kS 8))=true
   rw[decide_eq_true hqu,z,decide_eq_true rfl];rfl⟩
  rw[f]at this;cases this
def VtR:List Rz->Prop
 |[]=>True
 |r::a=>VtR a/\(r.h=t0\/∃q∈a,q.n=r.h/\4<=kz q.d/\(hsR a q.n).length<7)/\(kz r.d=8->∀q∈a,q.n∈hsR a r.h->kz q.d≠8)
def Og{ns:List Int}{f m:Int}(f0:0<=f)(m0:0<=m)(m1:m<=24):∃(rs:List Rz) (ls:List L),Dj [.c (ns.map .int),.d (.int f),.d (.int m)]=some (.list (rs.map eZ),ls)/\OkZ rs/\VtR rs.reverse/\(rs.length:Int)<=m/\(1<=m->1<=rs.length):=by
 let C:Option L:=some (.c (ns.map .int))
 let I:Int->Option L:=fun i=>some (.d (.int i))
 let st:List Rz->Option L->Option L->Option L->DS:=fun rs o4 o5 o6=>[C,I f,I m,some (.m (rs.map eZ)),o4,o5,o6]
 let bt:List Rz->Option L->Option L->Option L->DS:=fun rs o4 o5 o6=>[C,I f,I m,some (.d (.list (rs.map eZ))),o4,o5,o6]
 have hok:∀rs o4 o5 o6,nM o4->nM o5->nM o6->(bt rs o4 o5 o6).all okM=true:=fun rs o4 o5 o6 h4 h5 h6=>by
  show(true&&(true&&(true&&(true&&(okM o4&&(okM o5&&(okM o6&&true)))))))=true
  rw[Ll h4,Ll h5,Ll h6];rfl
 have lp:∃t5,BC (dN 4) (AH (AI (ET 3 (AB Ck (AA qT (AA (AZ 0 Dk jC) AF)))) Qf) qp) ((List.range m.toNat).map fun(k:Nat)=>PyData.int (k:Int)) (st [] none none none)=some (.nx t5)/\∃rs o4 o5 o6,nM o4/\nM o5/\nM o6/\OkZ rs/\VtR rs.reverse/\rs.length<=(List.range m.toNat).length/\(0<(List.range m.toNat).length->0<rs.length)/\t5=st rs o4 o5 o6:=by
  refine C4 (fun(pre:List Nat) τ=>∃rs o4 o5 o6,nM o4/\nM o5/\nM o6/\OkZ rs/\VtR rs.reverse/\rs.length<=pre.length/\(0<pre.length->0<rs.length)/\τ=st rs o4 o5 o6) ⟨[],none,none,none,BI,BI,BI,trivial,trivial,X' _,fun h=>h,rfl⟩ ?_
  rintro pre k post τ e ⟨rs,o4,o5,o6,n4,n5,n6,ok,vt,hle,hpos,rfl⟩
  have hz:=Eg e
  rw[lJ]at hz
  have hl:rs.length<=40:=by omega
  let K:Option L:=I (k:Int)
  obtain⟨v,l1,e1⟩:=Ww (ns:=ns) (k:=f+(k:Int)) (by omega)
  obtain⟨r,w,l2,e2,okr,hh,ht⟩:=Kj ok hl v
  let X:Option L:=some (.d (eZ r))
  have z1:AI (ET 3 (AB Ck (AA qT (AA (AZ 0 Dk jC) AF)))) Qf (st rs K o5 o6)=some (.nx (st rs K X (I w))):=by
   refine AU (d:=.tuple [eZ r,.int w]) (t4:=st rs K o5 o6) (Y4 (i:=3) (xs:=rs.map eZ) rfl ?_ ?_ (hok rs K o5 o6 DQ n5 n6)) ?_
   ·refine cQ (bt rs K o5 o6) [.list (rs.map eZ),.int v] (acc (t4:=bt rs K o5 o6) rfl (acc (t4:=bt rs K o5 o6) (E7 (xs:=ns.map .int) (t4:=bt rs K o5 o6) (rs:=[.d (.int (f+(k:Int)))]) (ds:=[.int (f+(k:Int))]) rfl rfl rfl e1) rfl)) rfl e2
   ·show(Cs (eZ r)&&(true&&true))=true
    rw[encZ.fix];rfl
   ·show(dN 5 (eZ r) (st rs K o5 o6)).bind _=_
    rw[Cv (o:=o5) rfl n5]
    show(dN 6 (.int w) (st rs K X o6)).bind _=_
    rw[Cv (o:=o6) rfl n6];rfl
  have z2:C6 3 (AD (dOp (fIn true) (dOp AN (AJ 5) qD) (dLC 1 [] (dIL qT) QY B0 qc))) (st rs K X (I w))=some (!decide (r.n∈rs.map (·.n)),st rs K X (I w)):=by
   let Ga:=bt rs K X (I w)
   have lc:dLC 1 [] (dIL qT) QY B0 qc Ga=some (.list ((rs.map (·.n)).map eT),Ga):=by
    have:=lcg (enc:=eZ) (rs:=rs) (τ:=Ga) (fr:=[]) (it:=dIL qT) (ex:=[]) (c:=B0) (e:=qc) (fun _=>true) (fun r=>eT r.n) rfl (by omega) rfl rfl (fun r _=>rfl) (fun r _ _=>rfl)
    rw[this,Cu,lx];rfl
   exact SH (i:=3) (xs:=rs.map eZ) (t4:=Ga) rfl (tst (oQ (eT r.n) (.list ((rs.map (·.n)).map eT)) Ga (oQ (eZ r) (.int 0) Ga rfl rfl rfl) lc (YB _ _))) (hok rs K X (I w) DQ DQ DQ)
  by_cases hn:r.n∈rs.map (·.n)
  ·refine⟨st rs K o5 o6,st rs K X (I w),Cv (o:=o4) rfl n4,(AE z1).trans ((Ae (t4:=st rs K X (I w)) (by rw[z2,decide_eq_true hn];rfl)).trans rfl),rs,K,X,I w,DQ,DQ,DQ,ok,vt,by rw[T'];omega,fun _=>by obtain⟨q,hq,_⟩:=ly.mp hn;exact List.length_pos_of_mem hq,rfl⟩
  ·have z3:QB (st rs K X (I w))=some (.nx (st (rs++[r]) K X (I w))):=by
    refine(Wq (i:=3) (d:=eZ r) (xs:=rs.map eZ) (t4:=st rs K X (I w)) rfl rfl (by rw[B'];omega)).trans ?_
    show some (Out.nx [C,I f,I m,some (.m (rs.map eZ++[eZ r])),K,X,I w])=_
    rw[show rs.map eZ++[eZ r]=(rs++[r]).map eZ by rw[lD];rfl]
   have er:(rs++[r]).reverse=r::rs.reverse:=by simp
   refine⟨st rs K o5 o6,st (rs++[r]) K X (I w),Cv (o:=o4) rfl n4,(AE z1).trans ((A3 (t4:=st rs K X (I w)) (by rw[z2,decide_eq_false hn];rfl)).trans z3),rs++[r],K,X,I w,DQ,DQ,DQ,?_,?_,by rw[T',T'];simp only[List.length_cons,List.length_nil];omega,fun _=>by rw[T'];exact nL _,rfl⟩
   ·show OkR (rs++[r]).reverse
    rw[er]
    exact⟨ok,okr,fun q hq z=>hn (ly.mpr ⟨q,K'.mp hq,z⟩),hh.imp id fun⟨q,hq,e,_⟩=>⟨q,K'.mpr hq,e⟩⟩
   ·rw[er]
    exact⟨vt,hh.imp id fun⟨q,hq,e,h4,h7⟩=>⟨q,K'.mpr hq,e,h4,h7⟩,fun h8 q hq=>ht h8 q (K'.mp hq)⟩
 obtain⟨t5,e,rs,o4,o5,o6,n4,n5,n6,ok,vt,hle,hpos,rfl⟩:=lp
 rw[<- Io]at e
 rw[lJ]at hle hpos
 refine⟨rs,[.c (ns.map .int),.d (.int f),.d (.int m)],?_,ok,vt,by omega,fun h=>hpos (by omega)⟩
 unfold Dj
 refine AL (τ:=st rs o4 o5 o6) ?_ rfl rfl
 exact(AE (t4:=st [] none none none) rfl).trans ((AE ((Cw (KZ (n:=m) (t4:=st [] none none none) rfl (by omega) (by omega))).trans e)).trans rfl)
def Pl{d1 d2:PyData}:∀(n:Nat) (a b:Int) (o:Option L),nM o->0<=a->0<=b->b.toNat<n->∃o',nM o' /\
  dWh (AD (dOp fNe (AJ 3) (dC (.int 0)))) (AH (AI (dOp Af (AJ 2) (AJ 3)) (dN 4)) (AH (AI (AJ 3) (dN 2)) (AI (AJ 4) (dN 3)))) n [some (.d d1),some (.d d2),some (.d (.int a)),some (.d (.int b)),o]=some (.nx [some (.d d1),some (.d d2),some (.d (.int (gI a b))),some (.d (.int 0)),o'])
 |0,a,b,o,_,_,_,h=>absurd h (nN _)
 |n+1,a,b,o,ho,ha,hb,h=>by
  let st:Int->Int->Option L->DS:=fun x y z=>[some (.d d1),some (.d d2),some (.d (.int x)),some (.d (.int y)),z]
  have t:AD (dOp fNe (AJ 3) (dC (.int 0))) (st a b o)=some (!decide (b=0),st a b o):=by
   show(((fNe (.int b) (.int 0)).map fun d=>(d,st a b o)).bind _)=_
   rw[encI.fNe];rfl
  unfold dWh
  rw[show AD (dOp fNe (AJ 3) (dC (.int 0))) [some (.d d1),some (.d d2),some (.d (.int a)),some (.d (.int b)),o]=some (!decide (b=0),st a b o) from t]
  by_cases hz:b=0
  ·subst hz
   exact⟨o,ho,by rw[Sz ha];rfl⟩
  ·have hp:0<b:=by omega
   have md:=lH a hp
   have mn:=lN a (show b≠0 by omega)
   obtain⟨o',ho',e⟩:=Pl (d1:=d1) (d2:=d2) n b (a % b) (some (.d (.int (a % b)))) DQ hb mn (by omega)
   refine⟨o',ho',?_⟩
   rw[decide_eq_false hz]
   have bd:AH (AI (dOp Af (AJ 2) (AJ 3)) (dN 4)) (AH (AI (AJ 3) (dN 2)) (AI (AJ 4) (dN 3))) (st a b o)=some (.nx (st b (a % b) (some (.d (.int (a % b)))))):=by
    refine(AE (t4:=st a b (some (.d (.int (a % b))))) (AU (d:=.int (a % b)) (t4:=st a b o) ?_ (Cv rfl ho))).trans rfl
    show((Af (.int a) (.int b)).map fun d=>(d,st a b o))=_
    rw[BA hp];rfl
   show((AH _ _ (st a b o)).bind _)=_
   rw[bd]
   show dWh _ _ n (st b (a % b) _)=_
   rw[<- WE ha hp]
   exact e
def Rn{t b:Int}(hb:0<b):Bw [.d (.int t),.d (.int b)]=some (.int (gI t b),[.d (.int t),.d (.int b)]):=by
 obtain⟨o,ho,e⟩:=Pl (d1:=.int t) (d2:=.int b) (b.toNat+1) (Jj t) b none BI (TQ t) (by omega) (nJ _)
 rw[WG]at e
 unfold Bw
 refine AL (τ:=[some (.d (.int t)),some (.d (.int b)),some (.d (.int (gI t b))),some (.d (.int 0)),o]) ?_ rfl rfl
 refine(AE (t4:=[some (.d (.int t)),some (.d (.int b)),some (.d (.int (Jj t))),none,none]) rfl).trans ?_
 refine(AE (t4:=[some (.d (.int t)),some (.d (.int b)),some (.d (.int (Jj t))),some (.d (.int b)),none]) ?_).trans ?_
 ·have:Jj b=b:=Wr (by omega)
  show some (Out.nx [_,_,_,some (.d (.int (Jj b))),_])=_
  rw[this]
 ·exact(AE e).trans rfl
def bU{s:Cl}(h:OkF s):gI s.1 s.2=1:=by
 obtain⟨t,b,hb,rfl⟩:=h.red
 have hg:0<Int.gcd t b:=mj _ (by omega)
 show((Int.gcd (t / (Int.gcd t b:Nat)) (b / (Int.gcd t b:Nat)):Nat):Int)=1
 rw[Int.gcd_ediv_gcd_ediv_gcd hg];rfl
def K5(x:Int):C9 [.d (.int x)]=some (.bool true,[.d (.int x)]):=rfl
def BV{x a b:Int}(h1:a<=x)(h2:x<=b):Aa [.d (.int x),.d (.int a),.d (.int b)]=some (.bool true,[.d (.int x),.d (.int a),.d (.int b)]):=by
 walk_at "a|Aa,K5,h1,h2,decide_true"
def Fn{x:Int}(h1:-60<=x)(h2:x<=60):Ap [.d (.int x)]=some (.bool true,[.d (.int x)]):=by
 have w:=BV h1 h2
 walk_at "a|Ap,w"
def U3{s:Cl}(h:OkF s):∃ls,GD [.d (ec s)]=some (.bool true,ls):=by
 have b1:=h.b1
 have lo:=h.lo
 have hi:=h.hi
 have dv:=Rn (t:=s.1) (b:=s.2) (by omega)
 rw[bU h]at dv
 let I:Int->Option L:=fun i=>some (.d (.int i))
 let τ:DS:=[some (.d (ec s)),I s.1,I s.2]
 refine⟨[.d (ec s)],?_⟩
 unfold GD
 refine AL (τ:=τ) ?_ rfl rfl
 refine(AE (t4:=[some (.d (ec s)),none,none]) rfl).trans ((AE (t4:=[some (.d (ec s)),I s.1,none]) rfl).trans ((AE (t4:=τ) rfl).trans ((AE (t4:=τ) rfl).trans (AX ?_))))
 have c1:dOp fGe qI qH τ=some (.bool true,τ):=oQ (.int s.2) (.int 1) τ rfl rfl (by show some (PyData.bool (decide (s.2≥1)))=_;rw[decide_eq_true (by omega)])
 have c2:BO fLe fLe qD qE qI τ=some (.bool true,τ):=by
  walk_at "a|τ,I,lo,hi,decide_true"
 have c3:dOp fEq (AB Bw (AA qE qZ)) qH τ=some (.bool true,τ):=oQ (.int 1) (.int 1) τ (cQ τ [.int s.1,.int s.2] rfl rfl dv) rfl (by rw[encI.fEq,decide_eq_true rfl])
 exact(EU c1).trans ((EU c2).trans c3)
def IL{s:Cl}(h:OkF s):∃ls,BD [.d (ec s)]=some (.bool true,ls):=by
 obtain⟨l1,e1⟩:=U3 h
 have b2:=h.b2
 let τ:DS:=[some (.d (ec s))]
 refine⟨[.d (ec s)],?_⟩
 unfold BD
 refine AL (τ:=τ) (AX ((EU (AW (t4:=τ) (ds:=[ec s]) rfl rfl e1)).trans (oQ (.int s.2) (.int 1000) τ rfl rfl ?_))) rfl rfl
 show some (PyData.bool (decide (s.2<=1000)))=_
 rw[decide_eq_true b2]
def Gx{a b:Cl}(ha:OkF a)(hb:OkF b):∃ls,Bn [.d (ec a),.d (ec b)]=some (.bool true,ls):=by
 obtain⟨l1,e1⟩:=IL ha
 obtain⟨l2,e2⟩:=IL hb
 let τ:DS:=[some (.d (ec a)),some (.d (ec b))]
 refine⟨[.d (ec a),.d (ec b)],?_⟩
 unfold Bn
 exact AL (τ:=τ) (AX ((EU (AW (t4:=τ) (ds:=[ec a]) rfl rfl e1)).trans (AW (t4:=τ) (ds:=[ec b]) rfl rfl e2))) rfl rfl
def inB(al:Str)(c:Nat):Bool:=match Po (.str ⟨#[c]⟩) (.str al) with
 |some (.bool b)=>b
 |_=>false
def bR{al:Str}{c:Nat}(h:inB al c=true):Po (.str ⟨#[c]⟩) (.str al)=some (.bool true):=by
 unfold inB at h
 split at h
 ·rename_i b e;rw[e,h]
 ·cases h
def gX:∀c∈alN.cps.toList,inB alN c=true:=∅
def gW:∀c∈alS.cps.toList,inB alS c=true:=∅
def fU:∀c∈alW.cps.toList,(Jx Fg ⟨#[c]⟩).isSome=true:=∅
def TL{α:Type}:∀l:List α,Fd (l.map fun _=>PyData.bool true)=some (l.map fun _=>true)
 |[]=>rfl
 |a::l=>by
  rw[kg,Fd,TL l];rfl
def TN{α:Type}(l:List α):JN [.list (l.map fun _=>PyData.bool true)]=some (.bool true):=by
 show(Fd (l.map fun _=>PyData.bool true)).map _=_
 rw[TL]
 show some (PyData.bool ((l.map fun _=>true).all id))=_
 rw[show((l.map fun _=>true).all id)=true by simp]
def eC(c:Nat):PyData:=.str ⟨#[c]⟩
def N5{t:Tx}(h:t.1.length<=100):Bp [eT t]=some (.int (t.1.length:Nat)):=by
 show(if t.1.length<=sizeLine then _ else _)=_
 rw[if_pos (sz (by omega))]
def LD{al:Str}{t:Tx}{lo hi:Int}(ha:FF al t.1)(hal:∀c∈al.cps.toList,inB al c=true)(h1:lo<=(t.1.length:Nat))(h2:((t.1.length:Nat):Int)<=hi)(hz:t.1.length<=100) :
  ∃ls,Be [.d (eT t),.d (.str al),.d (.int lo),.d (.int hi)]=some (.bool true,ls):=by
 let A:Option L:=some (.d (.str al))
 let τ:DS:=[some (.d (eT t)),A,some (.d (.int lo)),some (.d (.int hi))]
 refine⟨[.d (eT t),.d (.str al),.d (.int lo),.d (.int hi)],?_⟩
 unfold Be
 refine AL (τ:=τ) ?_ rfl rfl
 have ln:Ak Bp (AA (AJ 0) AF) τ=some (.int (t.1.length:Nat),τ):=E8 (d:=eT t) (t4:=τ) rfl (N5 hz)
 have c1:Ao (AD (BO fLe fLe (AJ 2) (Ak Bp (AA (AJ 0) AF)) (AJ 3))) τ=some (false,τ):=by
  refine DN (b:=true) (tst ?_)
  unfold BO
  show((Ak Bp (AA (AJ 0) AF) τ).bind _)=_
  rw[ln]
  walk_at "a|τ,A,h1,h2,decide_true"
 refine(AE (t4:=τ) ((Ae (t4:=τ) (Hn (t4:=τ) rfl c1)).trans rfl)).trans (AX ?_)
 have lc:dLC 1 [1] (dIS (AJ 0)) (dN 0) B0 (dOp Po (AJ 0) (AJ 1)) τ=some (.list (t.1.cps.toList.map fun _=>PyData.bool true),τ):=by
  have := lcg (enc := eC) (rs := t.1.cps.toList) (τ := τ) (fr := [1]) (it := dIS (AJ 0)) (ex := [A]) (c := B0) (e := dOp Po (AJ 0) (AJ 1)) (fun _ => true) (fun _ => .bool true) rfl (by show t.1.length <= 1000; omega) rfl rfl (fun r _ => rfl) (fun c hc _ =>
   oQ (eC c) (.str al) [some (.d (eC c)),A] rfl rfl (bR (hal c (ha c hc))))
  rw[this,Cu]
 exact E8 lc (TN _)
def GH{t:Tx}(ha:FF alN t.1)(h1:1<=t.1.length)(h2:t.1.length<=8):∃ls,Bv [.d (eT t)]=some (.bool true,ls):=by
 obtain⟨l1,e1⟩:=LD (lo:=1) (hi:=8) ha gX (by omega) (by omega) (by omega)
 refine⟨[.d (eT t)],?_⟩
 unfold Bv
 exact AL (τ:=[some (.d (eT t))]) (AX (cQ [some (.d (eT t))] [eT t,.str alN,.int 1,.int 8] rfl rfl e1)) rfl rfl
def NP{t:Tx}(ha:FF alW t.1)(h2:t.1.length<=6):∃ls,DZ [.d (eT t)]=some (.bool true,ls):=by
 let τ:DS:=[some (.d (eT t))]
 refine⟨[.d (eT t)],?_⟩
 unfold DZ
 refine AL (τ:=τ) ?_ rfl rfl
 have c1:AD (dOp fGt QL qv) τ=some (false,τ):=by
  refine tst (oQ (.int (t.1.length:Nat)) (.int 6) τ (E8 (d:=eT t) (t4:=τ) rfl (N5 (by omega))) rfl ?_)
  show some (PyData.bool (decide (((t.1.length:Nat):Int)>6)))=_
  rw[decide_eq_false (by omega)]
 refine(AE (t4:=τ) ((Ae (t4:=τ) (Hn (t4:=τ) rfl c1)).trans rfl)).trans (AX ?_)
 have sg:∀c∈t.1.cps.toList,Ei [.d (eC c)]=some (.bool true,[.d (eC c)]):=fun c hc=>by
  unfold Ei
  refine AL (τ:=[some (.d (eC c))]) (AX ?_) rfl rfl
  show some (PyData.bool (Jx Fg ⟨#[c]⟩).isSome,_)=_
  rw[fU c (ha c hc)];rfl
 have lc:dLC 1 [] (dIS qB) QY B0 (AB Ei qF) τ=some (.list (t.1.cps.toList.map fun _=>PyData.bool true),τ):=by
  have := lcg (enc := eC) (rs := t.1.cps.toList) (τ := τ) (fr := []) (it := dIS qB) (ex := []) (c := B0) (e := AB Ei qF) (fun _ => true) (fun _ => .bool true) rfl (by show t.1.length <= 1000; omega) rfl rfl (fun r _ => rfl) (fun c hc _ =>
   AW (t4:=[some (.d (eC c))]) (ds:=[eC c]) rfl rfl (sg c hc))
  rw[this,Cu]
 exact E8 lc (TN _)
def Kl{R:List Tx}{w:Nat}(r1:1<=R.length)(r8:R.length<=8)(w1:1<=w)(w8:w<=8)(h:∀r∈R,r.1.length=w/\FF alS r.1):∃ls,CD [.d (.tuple (R.map eT))]=some (.bool true,ls):=by
 let D:Option L:=some (.d (.tuple (R.map eT)))
 let τ:DS:=[D]
 refine⟨[.d (.tuple (R.map eT))],?_⟩
 unfold CD
 refine AL (τ:=τ) ?_ rfl rfl
 have hn:(1:Int)<=(R.length:Nat):=by omega
 have hn8:((R.length:Nat):Int)<=8:=by omega
 have ln:Ak Bp (AA (AJ 0) AF) τ=some (.int (R.length:Nat),τ):=E8 (d:=.tuple (R.map eT)) (t4:=τ) rfl (by show some (PyData.int ((R.map eT).length:Nat))=_;rw[B'])
 have c1:Ao (AD (BO fLe fLe (dC (.int 1)) (Ak Bp (AA (AJ 0) AF)) (dC (.int 8)))) τ=some (false,τ):=by
  refine DN (b:=true) (tst ?_)
  unfold BO
  rw[show dC (.int 1) τ=some (.int 1,τ) from rfl]
  dsimp only[Option.bind]
  rw[ln]
  walk_at "a|hn,hn8,decide_true"
 have lc:dLC 1 [] (dIT (AJ 0)) (dN 0) B0 (AB Be (AA (AJ 0) (AA (dC (.str "#.")) (AA (dC (.int 1)) (AA (dC (.int 8)) AF))))) τ=some (.list (R.map fun _=>PyData.bool true),τ):=by
  have := lcg (enc := eT) (rs := R) (τ := τ) (fr := []) (it := dIT (AJ 0)) (ex := []) (c := B0) (e := AB Be (AA (AJ 0) (AA (dC (.str "#.")) (AA (dC (.int 1)) (AA (dC (.int 8)) AF))))) (fun _ => true) (fun _ => .bool true) rfl (by omega) rfl rfl (fun r _ => rfl) (fun r hr _ => by
   obtain⟨h1,h2⟩:=h r hr
   obtain⟨l1,e1⟩:=LD (lo:=1) (hi:=8) h2 gW (by omega) (by omega) (by omega)
   exact cQ [some (.d (eT r))] [eT r,.str alS,.int 1,.int 8] rfl rfl e1)
  rw[this,Cu]
 have lc2:dLC 1 [0] (dIT (AJ 0)) (dN 0) B0 (dOp fEq (Ak Bp (AA (AJ 0) AF)) (Ak Bp (AA (dOp AN (AJ 1) (dC (.int 0))) AF))) τ=some (.list (R.map fun _=>PyData.bool true),τ):=by
  obtain⟨z,zs,rfl⟩:∃z zs,R=z::zs:=by
   cases R with
   |nil=>simp at r1
   |cons z zs=>exact⟨z,zs,rfl⟩
  have := lcg (enc := eT) (rs := z :: zs) (τ := τ) (fr := [0]) (it := dIT (AJ 0)) (ex := [D]) (c := B0) (e := dOp fEq (Ak Bp (AA (AJ 0) AF)) (Ak Bp (AA (dOp AN (AJ 1) (dC (.int 0))) AF))) (fun _ => true) (fun _ => .bool true) rfl (by omega) rfl rfl (fun r _ => rfl) (fun r hr _ => by
   have h1:=(h r hr).1
   have h2:=(h z L').1
   let t:DS:=[some (.d (eT r)),D]
   obtain⟨a,ea,ha2⟩:=Bq (enc:=eT) (xs:=z::zs) (k:=0) (by decide) (by simp only[List.length_cons];omega)
   cases (J' ha2)
   refine oQ (.int (r.1.length:Nat)) (.int (z.1.length:Nat)) t (E8 (d:=eT r) (t4:=t) rfl (N5 (by omega))) (E8 (d:=eT z) (t4:=t) (oQ (.tuple ((z::zs).map eT)) (.int 0) t rfl rfl ea) (N5 (by omega))) ?_
   rw[encI.fEq,h1,h2,decide_eq_true rfl])
  rw[this,Cu]
 have c2:Ao (AD (Ak JN (AA (dLC 1 [] (dIT (AJ 0)) (dN 0) B0 (AB Be (AA (AJ 0) (AA (dC (.str "#.")) (AA (dC (.int 1)) (AA (dC (.int 8)) AF)))))) AF))) τ=some (false,τ):=DN (b:=true) (tst (E8 lc (TN _)))
 exact(AE (t4:=τ) ((Ae (t4:=τ) (Hn (t4:=τ) rfl c1)).trans rfl)).trans ((AE (t4:=τ) ((Ae (t4:=τ) c2).trans rfl)).trans (AX (E8 lc2 (TN _))))
def GF:Nat->Mir
 |0=>DC
 |1=>Ft
 |2=>Fp
 |3=>Dc
 |4=>Ey
 |5=>Ew
 |6=>Bc
 |7=>Fq
 |8=>Cj
 |_=>Ey
def Uu{i:Nat}(hi:i<10):∀{l:List Nat},i∈l->(∀j∈l,j<10)->Cz (l.map fun j=>((kS j).1,GF j)) (kS i).1=some (GF i)
 |[],h,_=>by cases h
 |j::l,h,hl=>by
  rw[kg,Cz]
  by_cases e:j=i
  ·subst e;rw[if_pos rfl]
  ·rw[if_neg fun z=>e (D1 (hl j L') hi (nR z))]
   rcases kY.mp h with z|z
   ·exact absurd z.symm e
   ·exact Uu hi z fun k hk=>hl k (V' _ hk)
def ten{i:Nat}(hi:i<10):i∈[0,1,2,3,4,5,6,7,8,9]:=by
 have:∀i:Fin 10,i.1∈[0,1,2,3,4,5,6,7,8,9]:=by decide
 exact this ⟨i,hi⟩
def Ia{i:Nat}(hi:i<10):Cz BW (kS i).1=some (GF i):=Uu (l:=[0,1,2,3,4,5,6,7,8,9]) hi (ten hi) (by decide)
def OF(d:Dz)(ok:P1 d):∃ls,GF (kz d) [.d (eD d)]=some (.bool true,ls):=by
 cases d with
 |plate w h a b =>
  obtain⟨w0,w1,h0,h1,oa,ob⟩:=ok
  obtain⟨lp,ep⟩:=Gx oa ob
  have e1:=BV w0 w1
  have e2:=BV h0 h1
  let τ:DS:=[some (.d (eD (.plate w h a b)))]
  refine⟨[.d (eD (.plate w h a b))],?_⟩
  show DC _=_
  unfold DC
  refine AL (τ:=τ) ?_ rfl rfl
  have c:=DN (tst (AW (G:=Bn) (a:=qk) (τ:=τ) (t4:=τ) (rs:=[.d (ec a),.d (ec b)]) (ds:=[ec a,ec b]) rfl rfl ep))
  refine(AE (t4:=τ) ((Ae (t4:=τ) (Hn (t4:=τ) rfl c)).trans rfl)).trans (AX ?_)
  exact(EU (cQ τ [.int w,.int 1,.int 12] rfl rfl e1)).trans (cQ τ [.int h,.int 1,.int 12] rfl rfl e2)
 |band w h a b =>
  obtain⟨w0,w1,h0,h1,oa,ob⟩:=ok
  obtain⟨lp,ep⟩:=Gx oa ob
  have e1:=BV w0 w1
  have e2:=BV h0 h1
  let τ:DS:=[some (.d (eD (.band w h a b)))]
  refine⟨[.d (eD (.band w h a b))],?_⟩
  show Ft _=_
  unfold Ft
  refine AL (τ:=τ) ?_ rfl rfl
  have c:=DN (tst (AW (G:=Bn) (a:=qk) (τ:=τ) (t4:=τ) (rs:=[.d (ec a),.d (ec b)]) (ds:=[ec a,ec b]) rfl rfl ep))
  refine(AE (t4:=τ) ((Ae (t4:=τ) (Hn (t4:=τ) rfl c)).trans rfl)).trans (AX ?_)
  exact(EU (cQ τ [.int w,.int (-12),.int 12] rfl rfl e1)).trans (cQ τ [.int h,.int (-12),.int 12] rfl rfl e2)
 |word t a b =>
  obtain⟨h6,ha,oa,ob⟩:=ok
  obtain⟨lp,ep⟩:=Gx oa ob
  obtain⟨lt,et⟩:=NP ha h6
  let τ:DS:=[some (.d (eD (.word t a b)))]
  refine⟨[.d (eD (.word t a b))],?_⟩
  show Fp _=_
  unfold Fp
  refine AL (τ:=τ) (AX ?_) rfl rfl
  exact(EU (t4:=τ) rfl).trans ((EU (cQ τ [eT t] rfl rfl et)).trans (cQ τ [ec a,ec b] rfl rfl ep))
 |stencil R a b =>
  obtain⟨r1,r8,⟨w,w1,w8,hr⟩,oa,ob⟩:=ok
  obtain⟨lp,ep⟩:=Gx oa ob
  obtain⟨lt,et⟩:=Kl r1 r8 w1 w8 hr
  let τ:DS:=[some (.d (eD (.stencil R a b)))]
  refine⟨[.d (eD (.stencil R a b))],?_⟩
  show Dc _=_
  unfold Dc
  refine AL (τ:=τ) (AX ?_) rfl rfl
  exact(EU (t4:=τ) rfl).trans ((EU (cQ τ [.tuple (R.map eT)] rfl rfl et)).trans (cQ τ [ec a,ec b] rfl rfl ep))
 |group=>exact⟨_,rfl⟩
 |mask=>exact⟨_,rfl⟩
 |glass a =>
  obtain⟨lb,eb⟩:=IL (show OkF a from ok)
  let τ:DS:=[some (.d (eD (.glass a)))]
  refine⟨[.d (eD (.glass a))],?_⟩
  show Ew _=_
  unfold Ew
  exact AL (τ:=τ) (AX ((EU (t4:=τ) rfl).trans (cQ τ [ec a] rfl rfl eb))) rfl rfl
 |window w h x y =>
  obtain⟨w0,w1,h0,h1,x0,x1,y0,y1⟩:=ok
  have e1:=BV w0 w1
  have e2:=BV h0 h1
  have e3:=Fn x0 x1
  have e4:=Fn y0 y1
  let τ:DS:=[some (.d (eD (.window w h x y)))]
  refine⟨[.d (eD (.window w h x y))],?_⟩
  show Bc _=_
  unfold Bc
  refine AL (τ:=τ) ?_ rfl rfl
  have c1:=DN (tst (AW (G:=Ap) (a:=QF) (τ:=τ) (t4:=τ) (rs:=[.d (.int x)]) (ds:=[.int x]) rfl rfl e3))
  have c2:=DN (tst (AW (G:=Ap) (a:=jE) (τ:=τ) (t4:=τ) (rs:=[.d (.int y)]) (ds:=[.int y]) rfl rfl e4))
  refine(AE (t4:=τ) ((Ae (t4:=τ) (Hn (t4:=τ) rfl (Hn c1 c2))).trans rfl)).trans (AX ?_)
  exact(EU (cQ τ [.int w,.int 1,.int 16] rfl rfl e1)).trans (cQ τ [.int h,.int 1,.int 16] rfl rfl e2)
 |turn q f =>
  obtain⟨q0,q1⟩:=ok
  have e1:=BV q0 q1
  let τ:DS:=[some (.d (eD (.turn q f)))]
  refine⟨[.d (eD (.turn q f))],?_⟩
  show Fq _=_
  unfold Fq
  exact AL (τ:=τ) (AX ((EU (t4:=τ) rfl).trans ((EU (cQ τ [.int q,.int 0,.int 3] rfl rfl e1)).trans rfl))) rfl rfl
 |tiles a b x y =>
  obtain⟨a0,a1,b0,b1,x0,x1,y0,y1⟩:=ok
  have e1:=BV a0 a1
  have e2:=BV b0 b1
  have e3:=BV x0 x1
  have e4:=BV y0 y1
  let τ:DS:=[some (.d (eD (.tiles a b x y)))]
  refine⟨[.d (eD (.tiles a b x y))],?_⟩
  show Cj _=_
  unfold Cj
  refine AL (τ:=τ) ?_ rfl rfl
  have c1:=DN (tst (AW (G:=Aa) (a:=AA qc QK) (τ:=τ) (t4:=τ) (rs:=[.d (.int a),.d (.int 1),.d (.int 3)]) (ds:=[.int a,.int 1,.int 3]) rfl rfl e1))
  have c2:=DN (tst (AW (G:=Aa) (a:=AA QE QK) (τ:=τ) (t4:=τ) (rs:=[.d (.int b),.d (.int 1),.d (.int 3)]) (ds:=[.int b,.int 1,.int 3]) rfl rfl e2))
  refine(AE (t4:=τ) ((Ae (t4:=τ) (Hn (t4:=τ) rfl (Hn c1 c2))).trans rfl)).trans (AX ?_)
  exact(EU (cQ τ [.int x,.int (-20),.int 20] rfl rfl e3)).trans (cQ τ [.int y,.int (-20),.int 20] rfl rfl e4)
def Rk(d:Dz)(ok:P1 d):∃ls,Ej [.d (eT (kS (kz d))),.d (eD d)]=some (.bool true,ls):=by
 obtain⟨lf,ef⟩:=OF d ok
 let τ:DS:=[some (.d (eT (kS (kz d)))),some (.d (eD d))]
 refine⟨[.d (eT (kS (kz d))),.d (eD d)],?_⟩
 unfold Ej
 refine AL (τ:=τ) (AX ?_) rfl rfl
 have c2:Rw BW qB τ=some (.bool true,τ):=by
  show some (PyData.bool (Cz BW (kS (kz d)).1).isSome,τ)=_
  rw[Ia (Cc d)];rfl
 have c3:Dm "tuple" qE τ=some (.bool true,τ):=by cases d<;>rfl
 have c4:IK BW qB qA τ=some (.bool true,τ):=by
  show((Cz BW (kS (kz d)).1).bind fun G=>AB G qA τ)=_
  rw[Ia (Cc d)]
  exact AW (G:=GF (kz d)) (a:=qA) (τ:=τ) (t4:=τ) (rs:=[.d (eD d)]) (ds:=[eD d]) rfl rfl ef
 exact(EU (t4:=τ) rfl).trans ((EU c2).trans ((EU c3).trans c4))
structure OkN(t:Tx):Prop where
 n1:1<=t.1.length
 n8:t.1.length<=8
 na:FF alN t.1
def UC{r:Rz}(hh:r.h=t0\/OkN r.h):An (AD (dOp fNe (AB AK qF) qa)) (Ao (AD (AB Bv (AA (AB AK qF) AF)))) [some (.d (eZ r))]=some (false,[some (.d (eZ r))]):=by
 let τ:DS:=[some (.d (eZ r))]
 have t1:AD (dOp fNe (AB AK qF) qa) τ=some (!decide (r.h=t0),τ):=tst (oQ (eT r.h) (eT t0) τ rfl rfl (Ku _ _))
 by_cases h:r.h=t0
 ·rw[decide_eq_true h]at t1
  unfold An
  rw[t1];rfl
 ·have hn:=hh.resolve_left h
  obtain⟨l3,e5⟩:=GH hn.na hn.n1 hn.n8
  rw[decide_eq_false h]at t1
  exact(Fh t1 (DN (tst (AW (G:=Bv) (a:=AA (AB AK qF) AF) (τ:=τ) (t4:=τ) (rs:=[.d (eT r.h)]) (ds:=[eT r.h]) rfl rfl e5)))).trans rfl
def UB{r:Rz}(ok:OkRow r)(hh:r.h=t0\/OkN r.h):∃ls,BB [.d (eZ r)]=some (.bool true,ls):=by
 obtain⟨l1,e1⟩:=GH ok.na ok.n1 ok.n8
 obtain⟨l2,e2⟩:=Rk r.d ok.d
 have e3:=Fn ok.x0 ok.x1
 have e4:=Fn ok.y0 ok.y1
 let τ:DS:=[some (.d (eZ r))]
 refine⟨[.d (eZ r)],?_⟩
 unfold BB
 refine AL (τ:=τ) ?_ rfl rfl
 have c1:=DN (tst (AW (G:=Bv) (a:=AA (AB Ab qF) AF) (τ:=τ) (t4:=τ) (rs:=[.d (eT r.n)]) (ds:=[eT r.n]) rfl rfl e1))
 have c2:=UC hh
 have c3:=DN (tst (AW (G:=Ap) (a:=AA (AB K0 qF) AF) (τ:=τ) (t4:=τ) (rs:=[.d (.int r.x)]) (ds:=[.int r.x]) rfl rfl e3))
 have c4:=DN (tst (AW (G:=Ap) (a:=AA (AB Kz qF) AF) (τ:=τ) (t4:=τ) (rs:=[.d (.int r.y)]) (ds:=[.int r.y]) rfl rfl e4))
 refine(AE (t4:=τ) rfl).trans ((AE (t4:=τ) ((Ae (t4:=τ) c1).trans rfl)).trans ((AE (t4:=τ) ((Ae (t4:=τ) c2).trans rfl)).trans ((AE (t4:=τ) ((Ae (t4:=τ) (Hn c3 c4)).trans rfl)).trans (AX ?_))))
 exact(EU (t4:=τ) rfl).trans (cQ τ [eT (kS (kz r.d)),eD r.d] rfl rfl e2)
def U(rs:List Rz):Prop:=∀r∈rs,∀q∈rs,r.n=q.n->r=q
def OkZ.u{rs:List Rz}(ok:OkZ rs):U rs:=fun r hr q hq e=>OkR.inj ok r (K'.mpr hr) q (K'.mpr hq) e
def wS:Nat->Tx
 |0=>⟨"put",∅⟩
 |1=>⟨"take",∅⟩
 |2=>⟨"raise",∅⟩
 |3=>⟨"sink",∅⟩
 |4=>⟨"move",∅⟩
 |5=>⟨"turn",∅⟩
 |6=>⟨"size",∅⟩
 |7=>⟨"change",∅⟩
 |8=>⟨"hide",∅⟩
 |_=>⟨"show",∅⟩
def Z1:∀i j:Fin 10,wS i=wS j->i=j:=∅
def Gk{i j:Nat}(hi:i<10)(hj:j<10)(h:wS i=wS j):i=j:=Fin.mk.inj (Z1 ⟨i,hi⟩ ⟨j,hj⟩ h)
def skw{v i j:Nat}(hi:i<10)(hj:j<10)(h:i≠j){a:DB}{τ:DS}(e:τ[v]?=some (some (.d (eT (wS i))))):AO (AD (dOp fEq (AJ v) (dC (eT (wS j))))) a AQ τ=some (.nx τ):=by
 refine(Ae (t4:=τ) (tst (oQ (eT (wS i)) (eT (wS j)) τ (by unfold AJ;rw[e]) rfl ?_))).trans rfl
 rw[encT.fEq,decide_eq_false fun z=>h (Gk hi hj z)]
def tkw{v i:Nat}{a:DB}{τ:DS}(e:τ[v]?=some (some (.d (eT (wS i))))):AO (AD (dOp fEq (AJ v) (dC (eT (wS i))))) a AQ τ=a τ:=by
 refine A3 (t4:=τ) (tst (oQ (eT (wS i)) (eT (wS i)) τ (by unfold AJ;rw[e]) rfl ?_))
 rw[encT.fEq,decide_eq_true rfl]
def dd(i:Nat)(n:Tx)(Aw:List PyData):PyData:=.tuple (eT (wS i)::eT n::Aw)
def at0{x:PyData}{xs:List PyData}:atI (x::xs) 0=some x:=by
 unfold atI ixN
 rw[if_pos (by decide),if_pos (by simp only[List.length_cons];omega)];rfl
def at1{x y:PyData}{xs:List PyData}:atI (x::y::xs) 1=some y:=by
 unfold atI ixN
 rw[if_pos (by decide),if_pos (by simp only[List.length_cons];omega)];rfl
def dd0{i:Nat}{n:Tx}{Aw:List PyData}:AN (dd i n Aw) (.int 0)=some (eT (wS i)):=at0
def dd1{i:Nat}{n:Tx}{Aw:List PyData}:AN (dd i n Aw) (.int 1)=some (eT n):=at1
def Hl(rs:List Rz)(n:Tx)(c:Rz):List Rz:=rs.map fun q=>if q.n=n then c else q
def aE(r:Rz){j:Int}(h0:0<=j)(h1:j<7):∃d,AN (eZ r) (.int j)=some d:=by
 obtain⟨a,ea,_⟩:=Bq (enc:=fun x=>x) (xs:=[eT r.n,eT r.h,.int r.x,.int r.y,.bool r.s,eT (kS (kz r.d)),eD r.d]) (k:=j) h0 (by show j<7;exact h1)
 rw[List.map_id']at ea
 exact⟨a,ea⟩
def NU{rs:List Rz}(hl:rs.length<=900):∃ls,Bo [.d (.list (rs.map eZ)),.d (.list (rs.map eZ))]=some (.bool true,ls):=by
 let D:Option L:=some (.d (.list (rs.map eZ)))
 let I:Int->Option L:=fun i=>some (.d (.int i))
 let st:Option L->Option L->DS:=fun a b=>[D,D,a,b]
 refine⟨[.d (.list (rs.map eZ)),.d (.list (rs.map eZ))],?_⟩
 let Bi:DB:=Q0
 have inn:∀(k:Int) (o:Option L),0<=k->k<(rs.length:Int)->nM o->∃o',nM o'/\Ca (dR1 (AA QR AF)) Qv Bi (st (I k) o)=some (.nx (st (I k) o')):=by
  intro k o k0 k1 ho
  obtain⟨r,er,_⟩:=Bq (enc:=eZ) k0 k1
  have lp := C4 (enc := PyData.int) (xs := rng 0 7) (τ := st (I k) o) (g := Qv) (b := Bi) (fun (pre : List Int) τ => ∃ o', nM o' /\ τ = st (I k) o') ⟨o, ho, rfl⟩ (by
   rintro pre j post τ e ⟨o',ho',rfl⟩
   have hj:=(mem_rng (n:=7)).mp (HY e)
   obtain⟨d,ed⟩:=aE r (j:=j) (by omega) (by omega)
   let t:=st (I k) (I j)
   refine⟨t,t,Cv (o:=o') rfl ho',?_,_,DQ,rfl⟩
   have y1:∀v:Nat,t[v]?=some D->Dm "bool" (dOp AN (dOp DR (AJ v) qI) qT) t=some (.bool (X7 "bool" d),t):=fun v hv=>by
    unfold Dm
    rw[oQ (eZ r) (.int j) t (oQ (.list (rs.map eZ)) (.int k) t (by unfold AJ;rw[hv]) rfl er) rfl ed]
    rfl
   refine(Ae (t4:=t) (tst (op2 (y1 0 rfl) (y1 1 rfl) ?_))).trans rfl
   cases X7 "bool" d<;>rfl)
  obtain⟨t5,e,o',ho',rfl⟩:=lp
  exact⟨o',ho',(Cw (KZ (n:=7) (t4:=st (I k) o) rfl (by decide) (by decide))).trans e⟩
 have lp := C4 (enc := PyData.int) (xs := rng 0 (rs.length : Int).toNat) (τ := st none none) (g := QH) (b := Ca (dR1 (AA QR AF)) Qv Bi) (fun (pre : List Int) τ => ∃ a b, nM a /\ nM b /\ τ = st a b) ⟨none, none, BI, BI, rfl⟩ (by
  rintro pre k post τ e ⟨a,b,ha,hb,rfl⟩
  have hk:=mem_rng.mp (HY e)
  obtain⟨o',ho',ei⟩:=inn k b (by omega) (by omega) hb
  exact⟨_,_,Cv (o:=a) rfl ha,ei,_,_,DQ,ho',rfl⟩)
 obtain⟨t5,e,a,b,ha,hb,rfl⟩:=lp
 unfold Bo
 refine AL (τ:=st a b) ?_ rfl rfl
 have c1:AD (dOp fNe qB qE) (st none none)=some (false,st none none):=tst (oQ (.list (rs.map eZ)) (.list (rs.map eZ)) (st none none) rfl rfl (by rw[encZ.fNeL,decide_eq_true rfl];rfl))
 refine(AE (t4:=st none none) ((Ae (t4:=st none none) (Hn (t4:=st none none) rfl c1)).trans rfl)).trans ((AE (t4:=st a b) ((Cw (KZ (n:=(rs.length:Int)) (t4:=st none none) ?_ (by omega) (by omega))).trans ?_)).trans rfl)
 ·show some ([Ar.d (.int ((rs.map eZ).length:Int))],_)=_
  rw[B']
 ·exact e
def JF(rs:List Rz)(a:Tx):List Tx:=(rs.filter fun r=>decide (a∈(hsR rs.reverse r.n).tail)).map (·.n)
def Sv(rs:List Rz)(a:Tx):(JF rs a).length<=rs.length:=by
 unfold JF;rw[B'];exact lU ..
def Ov{rs:List Rz}(ok:OkZ rs)(hl:rs.length<=30)(a:Tx):∃ls,Dw [.d (.list (rs.map eZ)),.d (eT a)]=some (.list ((JF rs a).map eT),ls):=by
 let D:Option L:=some (.d (.list (rs.map eZ)))
 let τ:DS:=[D,some (.d (eT a))]
 refine⟨[.d (.list (rs.map eZ)),.d (eT a)],?_⟩
 unfold Dw
 refine AL (τ:=τ) (AX ?_) rfl rfl
 have := lcg (enc := eZ) (rs := rs) (τ := τ) (fr := [1, 0]) (it := Qa) (ex := [some (.d (eT a)), D]) (c := AD (dOp (fIn false) qE (AB Bf (AA qI (AA (AB Ab qF) AF))))) (e := AB Ab qF) (fun r => decide (a ∈ (hsR rs.reverse r.n).tail)) (fun r => eT r.n) rfl (by omega) rfl rfl (fun r hr => by
  obtain⟨l1,e1⟩:=Ls ok (by omega) (a:=r.n) (.inr ⟨r,hr,rfl⟩)
  let t:DS:=[some (.d (eZ r)),some (.d (eT a)),D]
  exact tst (oQ (eT a) (.list ((hsR rs.reverse r.n).tail.map eT)) t rfl (cQ t [.list (rs.map eZ),eT r.n] (acc (t4:=t) rfl (acc (t4:=t) (AW (t4:=t) (ds:=[eZ r]) rfl rfl (EM r)) rfl)) rfl e1) (inL _ _))) (fun r _ _=>rfl)
 refine this.trans ?_
 unfold JF
 rw[lx];rfl
def VtR.suf:∀{p q:List Rz},VtR (p++q)->VtR q
 |[],_,h=>h
 |_::p,_,h=>VtR.suf (p:=p) h.1
def EA{m:Tx}:∀{a:List Rz} {n:Tx},m∈hsR a n->∃q∈a,q.n=m
 |[],_,h=>by cases h
 |r::a,n,h=>by
  rw[hsR]at h
  by_cases e:r.n=n
  ·rw[if_pos e]at h
   rcases kY.mp h with z|z
   ·exact⟨r,L',e.trans z.symm⟩
   ·obtain⟨q,hq,hm⟩:=EA z
    exact⟨q,V' _ hq,hm⟩
  ·rw[if_neg e]at h
   obtain⟨q,hq,hm⟩:=EA h
   exact⟨q,V' _ hq,hm⟩
def OkRow.nm{r:Rz}(h:OkRow r):OkN r.n:=⟨h.n1,h.n8,h.na⟩
def OP(xs:List PyData)(k:Nat):Jg xs none (some (k:Int))=xs.take k:=by
 unfold Jg
 have e:HT.sIx xs.length xs.length (some (k:Int))=min k xs.length:=by
  show(if (k:Int)<0 then ((k:Int)+(xs.length:Int)).toNat else min (k:Int).toNat xs.length)=_
  rw[if_neg (by omega),nH]
 rw[e]
 show(xs.drop 0).take (min k xs.length-0)=_
 rw[List.drop_zero,Nat.sub_zero,List.take_eq_take_iff]
 omega
def Lr{m:Tx}:∀{p a:List Rz},(∀q∈p,q.n≠m)->hsR (p++a) m=hsR a m
 |[],_,_=>rfl
 |r::p,a,h=>by
  rw[List.cons_append,hsR,if_neg (h r L')]
  exact Lr fun q hq=>h q (V' _ hq)
def CZ{rs R1 R2:List Rz}{r:Rz}(ok:OkZ rs)(e:rs=R1++r::R2):OkZ R1/\OkRow r/\(∀q∈R1,q.n≠r.n)/\(r.h=t0\/∃q∈R1,q.n=r.h):=by
 have:OkR (R2.reverse++(r::R1.reverse)):=by
  have:=ok
  unfold OkZ at this
  rw[e]at this
  simpa using this
 obtain⟨h1,h2,h3,h4⟩:=this.suf
 exact⟨h1,h2,fun q hq=>h3 q (K'.mpr hq),h4.imp id fun⟨q,hq,e⟩=>⟨q,K'.mp hq,e⟩⟩
def Sh{A B:List Rz}(ok:OkZ (A++B)):OkZ A:=by
 have:OkR (B.reverse++A.reverse):=by
  have:=ok
  unfold OkZ at this
  rwa [lS]at this
 exact this.suf
def Ky:∀{B A:List Rz},OkZ A->(∀B1 r B2,B=B1++r::B2->OkRow r/\(∀q∈A++B1,q.n≠r.n)/\(r.h=t0\/∃q∈A++B1,q.n=r.h))->OkZ (A++B)
 |[],A,ok,_=>by rw[ku];exact ok
 |r::B,A,ok,h=>by
  obtain⟨h1,h2,h3⟩:=h [] r B rfl
  rw[ku]at h2 h3
  have ok1:OkZ (A++[r]):=by
   show OkR (A++[r]).reverse
   rw[lS]
   exact⟨ok,h1,fun q hq=>h2 q (K'.mp hq),h3.imp id fun⟨q,hq,e⟩=>⟨q,K'.mpr hq,e⟩⟩
  have:=Ky (B:=B) ok1 fun B1 x B2 e=>by
   have:=h (r::B1) x B2 (by rw[e];rfl)
   rw[show A++r::B1=A++[r]++B1 by simp]at this
   exact this
  rwa [show A++[r]++B=A++r::B by simp]at this
def GI{α:Type}{p:α->Bool}:∀{l B1 B2:List α} {r:α},l.filter p=B1++r::B2->∃R1 R2,l=R1++r::R2/\R1.filter p=B1/\p r=true
 |[],B1,B2,r,h=>by rw[List.filter_nil]at h;exact absurd h.symm (by simp)
 |x::l,B1,B2,r,h=>by
  rw[lO]at h
  by_cases hp:p x=true
  ·rw[if_pos hp]at h
   cases B1 with
   |nil =>
    obtain⟨e1,e2⟩:=List.cons.inj (show x::l.filter p=r::B2 from h)
    subst e1
    exact⟨[],l,rfl,rfl,hp⟩
   |cons b B1 =>
    obtain⟨e1,e2⟩:=List.cons.inj (show x::l.filter p=b::(B1++r::B2) from h)
    subst e1
    obtain⟨R1,R2,e3,e4,e5⟩:=GI e2
    exact⟨x::R1,R2,by rw[e3];rfl,by rw[lO,if_pos hp,e4],e5⟩
  ·rw[if_neg hp]at h
   obtain⟨R1,R2,e3,e4,e5⟩:=GI h
   exact⟨x::R1,R2,by rw[e3];rfl,by rw[lO,if_neg hp,e4],e5⟩
def Hf{rs:List Rz}(ok:OkZ rs){r:Rz}(hr:r∈rs):hsR rs.reverse r.n=r.n::hsR rs.reverse r.h:=by
 obtain⟨R1,R2,e⟩:=lY hr
 obtain⟨o1,o2,o3,o4⟩:=CZ ok e
 have er:rs.reverse=R2.reverse++(r::R1.reverse):=by rw[e];simp
 have u:=OkZ.u ok
 have h2:∀q∈R2.reverse,q.n≠r.n:=fun q hq z=>by
  have hq:=K'.mp hq
  obtain⟨S1,S2,e2⟩:=lY hq
  have:=(CZ ok (R1:=R1++r::S1) (r:=q) (R2:=S2) (by rw[e,e2];simp)).2.2.1 r (P' _ L')
  exact this z.symm
 rw[er,Lr h2,hsR,if_pos rfl]
 congr 1
 rcases o4 with hh|⟨q,hq,hqn⟩
 ·have ok':OkR (R2.reverse++(r::R1.reverse)):=er▸(show OkR rs.reverse from ok)
  rw[hh,EX o1,EX ok']
 ·have hq':q∈rs:=by rw[e];exact kW _ hq
  have h3:∀x∈R2.reverse++[r],x.n≠r.h:=fun x hx z=>by
   have hxq:x.n=q.n:=z.trans hqn.symm
   rcases kc.mp hx with hx|hx
   ·have hx:=K'.mp hx
    obtain⟨S1,S2,e2⟩:=lY hx
    exact(CZ ok (R1:=R1++r::S1) (r:=x) (R2:=S2) (by rw[e,e2];simp)).2.2.1 q (kW _ hq) hxq.symm
   ·rw[ki.mp hx]at hxq
    exact o3 q hq hxq.symm
  rw[show R2.reverse++r::R1.reverse=(R2.reverse++[r])++R1.reverse by simp,Lr h3]
def JG{rs xs:List Rz}(ok:OkZ rs)(ox:OkZ xs)(h:∀q∈rs,q∈xs):∀{m:Tx},(m=t0\/∃q∈rs,q.n=m)->hsR xs.reverse m=hsR rs.reverse m:=by
 have key:∀(ah post:List Rz),rs.reverse=post++ah->∀m,(m=t0\/∃q∈ah,q.n=m)->hsR xs.reverse m=hsR rs.reverse m:=by
  intro ah
  induction ah with
  |nil =>
   intro post e m hm
   rcases hm with rfl|⟨q,hq,_⟩
   ·rw[EX ok,EX ox]
   ·cases hq
  |cons r ah ih =>
   intro post e m hm
   rcases hm with rfl|⟨q,hq,hqm⟩
   ·rw[EX ok,EX ox]
   rcases kY.mp hq with rfl|hq
   ·have hr:q∈rs:=K'.mp (e▸P' _ L')
    have okr:OkR (q::ah):=(show OkR (post++q::ah) from e▸(show OkR rs.reverse from ok)).suf
    rw[<- hqm,Hf ok hr,Hf ox (h q hr),ih (post++[q]) (by rw[e];simp) q.h okr.2.2.2]
   ·exact ih (post++[r]) (by rw[e];simp) m (.inr ⟨q,hq,hqm⟩)
 exact fun {m} hm=>key rs.reverse [] rfl m (hm.imp id fun⟨q,hq,e⟩=>⟨q,K'.mpr hq,e⟩)
def inW(rs:List Rz)(n:Tx)(r:Rz):Bool:=decide (n∈hsR rs.reverse r.n)
def wiZ(rs:List Rz)(n:Tx):List Rz:=rs.filter (inW rs n)
def woZ(rs:List Rz)(n:Tx):List Rz:=rs.filter fun r=>!inW rs n r
def K1{rs:List Rz}(ok:OkZ rs){n:Tx}{r:Rz}(hr:r∈rs):decide (r.n∈n::JF rs n)=inW rs n r:=by
 unfold inW
 rw[decide_eq_decide,Hf ok hr]
 have tl:∀q∈rs,(hsR rs.reverse q.n).tail=hsR rs.reverse q.h:=fun q hq=>by rw[Hf ok hq,nT]
 constructor
 ·intro h
  rcases kY.mp h with h|h
  ·rw[h];exact L'
  ·unfold JF at h
   obtain⟨q,hq,e⟩:=ly.mp h
   obtain⟨hq1,hq2⟩:=lB.mp hq
   have:=OkZ.u ok q hq1 r hr e
   subst this
   rw[tl q hq1]at hq2
   exact V' _ (of_decide_eq_true hq2)
 ·intro h
  rcases kY.mp h with h|h
  ·rw[h];exact L'
  ·refine V' _ (ly.mpr ⟨r,lB.mpr ⟨hr,?_⟩,rfl⟩)
   rw[tl r hr];exact decide_eq_true h
def bP{rs:List Rz}(ok:OkZ rs){n:Tx}{r q:Rz}(hr:r∈rs)(hq:q∈rs)(e:q.n=r.h)(h:inW rs n q=true):inW rs n r=true:=by
 unfold inW at *
 rw[decide_eq_true_eq]at *
 rw[Hf ok hr,<- e]
 exact V' _ h
def V8{rs:List Rz}(ok:OkZ rs){n:Tx}{r q:Rz}(hr:r∈rs)(e:q.n=r.h)(hn:r.n≠n)(h:inW rs n r=true):inW rs n q=true:=by
 unfold inW at *
 rw[decide_eq_true_eq]at *
 rw[Hf ok hr]at h
 rcases kY.mp h with z|z
 ·exact absurd z.symm hn
 ·rw[e];exact z
def V7{rs:List Rz}(ok:OkZ rs){R1 R2:List Rz}{r q:Rz}(e:rs=R1++r::R2)(hq:q∈R1):inW rs r.n q=false:=by
 obtain⟨o1,_,o3,_⟩:=CZ ok e
 unfold inW
 rw[decide_eq_false]
 intro h
 have hR:∀x∈R1,x∈rs:=fun x hx=>by rw[e];exact kW _ hx
 rw[JG (rs:=R1) (xs:=rs) o1 ok hR (.inr ⟨q,hq,rfl⟩)]at h
 obtain⟨x,hx,hxn⟩:=EA h
 exact o3 x (K'.mp hx) hxn
def wo_mem{rs:List Rz}{n:Tx}{q:Rz}:q∈woZ rs n↔q∈rs/\inW rs n q=false:=by
 unfold woZ;rw[lB];simp
def wi_mem{rs:List Rz}{n:Tx}{q:Rz}:q∈wiZ rs n↔q∈rs/\inW rs n q=true:=by
 unfold wiZ;rw[lB]
def Nz{rs:List Rz}(ok:OkZ rs)(n:Tx):OkZ (woZ rs n):=by
 have:=Ky (A:=[]) (B:=woZ rs n) trivial fun B1 r B2 e=>by
  obtain⟨R1,R2,e1,e2,e3⟩:=GI e
  obtain⟨o1,o2,o3,o4⟩:=CZ ok e1
  have hr:r∈rs:=by rw[e1];exact P' _ L'
  refine⟨o2,fun q hq=>o3 q ?_,o4.imp id fun⟨q,hq,hqn⟩=>⟨q,?_,hqn⟩⟩
  ·rw[lj,<- e2]at hq
   exact(lB.mp hq).1
  ·rw[lj,<- e2,lB]
   refine⟨hq,?_⟩
   have hq':q∈rs:=by rw[e1];exact kW _ hq
   rw[Bool.not_eq_true',lL]
   intro z
   rw[bP ok hr hq' hqn z]at e3
   cases e3
 rwa [lj]at this
def Vo{rs A:List Rz}(ok:OkZ rs){r0:Rz}(h0:r0∈rs)(oA:OkZ A)(hA:∀q∈A,q∈woZ rs r0.n)(hh:r0.h=t0\/∃q∈A,q.n=r0.h):OkZ (A++wiZ rs r0.n):=by
 refine Ky oA fun B1 r B2 e=>?_
 obtain⟨R1,R2,e1,e2,e3⟩:=GI e
 obtain⟨o1,o2,o3,o4⟩:=CZ ok e1
 have hr:r∈rs:=by rw[e1];exact P' _ L'
 have u:=OkZ.u ok
 refine⟨o2,fun q hq z=>?_,?_⟩
 ·rcases kc.mp hq with hq|hq
  ·obtain⟨h1,h2⟩:=wo_mem.mp (hA q hq)
   rw[u q h1 r hr z]at h2
   rw[h2]at e3;cases e3
  ·rw[<- e2]at hq
   exact o3 q (lB.mp hq).1 z
 ·by_cases hn:r.n=r0.n
  ·have:=u r hr r0 h0 hn
   subst this
   exact hh.imp id fun⟨q,hq,e⟩=>⟨q,kW _ hq,e⟩
  ·refine o4.imp id fun⟨q,hq,hqn⟩=>⟨q,P' _ ?_,hqn⟩
   rw[<- e2,lB]
   exact⟨hq,V8 ok hr hqn hn e3⟩
def Fz{rs:List Rz}(ok:OkZ rs){r0:Rz}(h0:r0∈rs):r0.h=t0\/∃q∈woZ rs r0.n,q.n=r0.h:=by
 obtain⟨R1,R2,e⟩:=lY h0
 obtain⟨o1,o2,o3,o4⟩:=CZ ok e
 exact o4.imp id fun⟨q,hq,hqn⟩=>⟨q,wo_mem.mpr ⟨by rw[e];exact kW _ hq,V7 ok e hq⟩,hqn⟩
def Gh(rs:List Rz)(n:Tx):List Rz:=woZ rs n++wiZ rs n
def plc(ws:List Rz)(h:Tx):Nat:=if h=t0 then 0 else (ws.takeWhile fun q=>!decide (q.n=h)).length+1
def Hm(rs:List Rz)(n h:Tx):List Rz:=(woZ rs n).take (plc (woZ rs n) h)++wiZ rs n++(woZ rs n).drop (plc (woZ rs n) h)
def Hc{ws:List Rz}{h:Tx}(hn:h≠t0)(hq:∃q∈ws,q.n=h):∃P q S,ws=P++q::S/\q.n=h/\(∀x∈P,x.n≠h)/\plc ws h=P.length+1:=by
 induction ws with
 |nil=>obtain⟨q,hq,_⟩:=hq;cases hq
 |cons x ws ih =>
  by_cases hx:x.n=h
  ·refine⟨[],x,ws,rfl,hx,fun y hy=>(by cases hy),?_⟩
   unfold plc
   rw[if_neg hn,List.takeWhile_cons,decide_eq_true hx];rfl
  ·have hq':∃q∈ws,q.n=h:=by
    obtain⟨q,hq,e⟩:=hq
    rcases kY.mp hq with rfl|hq
    ·exact absurd e hx
    ·exact⟨q,hq,e⟩
   obtain⟨P,q,S,e1,e2,e3,e4⟩:=ih hq'
   refine⟨x::P,q,S,by rw[e1];rfl,e2,fun y hy=>?_,?_⟩
   ·rcases kY.mp hy with rfl|hy
    ·exact hx
    ·exact e3 y hy
   ·unfold plc at e4 ⊢
    rw[if_neg hn]at e4 ⊢
    rw[List.takeWhile_cons,decide_eq_false hx]
    show(x::ws.takeWhile _).length+1=_
    rw[kX,kX];omega
def Xs{rs:List Rz}(ok:OkZ rs){r0:Rz}(h0:r0∈rs):OkZ (Gh rs r0.n):=Vo ok h0 (Nz ok _) (fun q hq=>hq) (Fz ok h0)
def Xr{rs:List Rz}(ok:OkZ rs){r0:Rz}(h0:r0∈rs):OkZ (Hm rs r0.n r0.h):=by
 let wo:=woZ rs r0.n
 let k:=plc wo r0.h
 have owo:=Nz ok r0.n
 have oT:OkZ (wo.take k):=Sh (B:=wo.drop k) (by rw[mZ];exact owo)
 have hT:∀q∈wo.take k,q∈wo:=fun q hq=>me hq
 have hh:r0.h=t0\/∃q∈wo.take k,q.n=r0.h:=by
  by_cases hz:r0.h=t0
  ·exact .inl hz
  ·obtain⟨P,q,S,e1,e2,e3,e4⟩:=Hc hz ((Fz ok h0).resolve_left hz)
   refine .inr ⟨q,?_,e2⟩
   show q∈wo.take (plc wo r0.h)
   rw[show plc wo r0.h=P.length+1 from e4,show wo=P++q::S from e1,show P++q::S=(P++[q])++S by simp,List.take_left' (by simp)]
   simp
 have o2:=Vo ok h0 oT hT hh
 refine Ky o2 fun C1 r C2 e=>?_
 have ew:wo=(wo.take k++C1)++r::C2:=by
  conv=>lhs;rw[<- mZ k wo]
  rw[show wo.drop k=C1++r::C2 from e];simp
 obtain⟨p1,p2,p3,p4⟩:=CZ owo ew
 have u:=OkZ.u ok
 have hrw:r∈wo:=by rw[ew];simp
 refine⟨p2,fun q hq z=>?_,p4.imp id fun⟨q,hq,hqn⟩=>⟨q,?_,hqn⟩⟩
 ·rcases kc.mp hq with hq|hq
  ·rcases kc.mp hq with hq|hq
   ·exact p3 q (kW _ hq) z
   ·obtain⟨h1,h2⟩:=wi_mem.mp hq
    obtain⟨h3,h4⟩:=wo_mem.mp hrw
    rw[u q h1 r h3 z,h4]at h2;cases h2
  ·exact p3 q (P' _ hq) z
 ·rcases kc.mp hq with hq|hq
  ·exact kW _ (kW _ hq)
  ·exact P' _ hq
def mem_rai{rs:List Rz}{n:Tx}{q:Rz}:q∈Gh rs n↔q∈rs:=by
 unfold Gh
 rw[kc,wo_mem,wi_mem]
 cases inW rs n q<;>simp
def mem_snk{rs:List Rz}{n h:Tx}{q:Rz}:q∈Hm rs n h↔q∈rs:=by
 unfold Hm
 rw[kc,kc]
 rw[<- mem_rai (rs:=rs) (n:=n)]
 unfold Gh
 rw[kc]
 constructor
 ·rintro((z|z)|z)
  ·exact .inl (me z)
  ·exact .inr z
  ·exact .inl (List.mem_of_mem_drop z)
 ·rintro(z|z)
  ·rw[<- mZ (plc (woZ rs n) h) (woZ rs n)]at z
   rcases kc.mp z with z|z
   ·exact .inl (.inl z)
   ·exact .inr z
  ·exact .inl (.inr z)
def MD{xs ys:List PyData}(h:xs.length+ys.length<=1000):Gj (.list xs) (.list ys)=some (.list (xs++ys)):=by
 show(if xs.length+ys.length<=sizeLine then _ else _)=_
 rw[if_pos (sz h)]
def Hz{rs:List Rz}(ok:OkZ rs)(hl:rs.length<=30)(n:Tx):∃ls,DY [.d (.list (rs.map eZ)),.d (eT n)]=some (.list ((n::JF rs n).map eT),ls):=by
 obtain⟨l1,e1⟩:=Ov ok hl n
 have hi:=Sv rs n
 let τ:DS:=[some (.d (.list (rs.map eZ))),some (.d (eT n))]
 refine⟨[.d (.list (rs.map eZ)),.d (eT n)],?_⟩
 unfold DY
 exact AL (τ:=τ) (AX (oQ (.list [eT n]) (.list ((JF rs n).map eT)) τ rfl (cQ τ [.list (rs.map eZ),eT n] rfl rfl e1) (MD (by rw[B'];simp only[List.length_cons,List.length_nil];omega)))) rfl rfl
def IA{rs:List Rz}(ok:OkZ rs)(hl:rs.length<=30)(n:Tx):∃ls,BY [.d (.list (rs.map eZ)),.d (eT n)]=some (.list ((woZ rs n).map eZ),ls):=by
 obtain⟨l1,e1⟩:=Hz ok hl n
 let N:Option L:=some (.d (.list ((n::JF rs n).map eT)))
 let t9:DS:=[some (.d (.list (rs.map eZ))),some (.d (eT n)),none]
 let τ:DS:=[some (.d (.list (rs.map eZ))),some (.d (eT n)),N]
 refine⟨[.d (.list (rs.map eZ)),.d (eT n)],?_⟩
 unfold BY
 refine AL (τ:=τ) ((AE (t4:=τ) (AU (cQ t9 [.list (rs.map eZ),eT n] rfl rfl e1) rfl)).trans (AX ?_)) rfl rfl
 have := lcg (enc := eZ) (rs := rs) (τ := τ) (fr := [2]) (it := Qa) (ex := [N]) (c := AD (dOp (fIn true) (AB Ab qF) qE)) (e := qB) (fun r => !inW rs n r) eZ rfl (by omega) rfl rfl (fun r hr => by
  let t:DS:=[some (.d (eZ r)),N]
  refine tst (oQ (eT r.n) (.list ((n::JF rs n).map eT)) t (AW (t4:=t) (ds:=[eZ r]) rfl rfl (EM r)) rfl ?_)
  rw[YB,K1 ok hr]) (fun r _ _=>rfl)
 exact this
def SA{rs:List Rz}(ok:OkZ rs)(hl:rs.length<=30)(n:Tx):∃ls,EN [.d (.list (rs.map eZ)),.d (eT n)]=some (.list ((wiZ rs n).map eZ),ls):=by
 obtain⟨l1,e1⟩:=Hz ok hl n
 let N:Option L:=some (.d (.list ((n::JF rs n).map eT)))
 let t9:DS:=[some (.d (.list (rs.map eZ))),some (.d (eT n)),none]
 let τ:DS:=[some (.d (.list (rs.map eZ))),some (.d (eT n)),N]
 refine⟨[.d (.list (rs.map eZ)),.d (eT n)],?_⟩
 unfold EN
 refine AL (τ:=τ) ((AE (t4:=τ) (AU (cQ t9 [.list (rs.map eZ),eT n] rfl rfl e1) rfl)).trans (AX ?_)) rfl rfl
 have := lcg (enc := eZ) (rs := rs) (τ := τ) (fr := [2]) (it := Qa) (ex := [N]) (c := AD (dOp (fIn false) (AB Ab qF) qE)) (e := qB) (inW rs n) eZ rfl (by omega) rfl rfl (fun r hr => by
  let t:DS:=[some (.d (eZ r)),N]
  refine tst (oQ (eT r.n) (.list ((n::JF rs n).map eT)) t (AW (t4:=t) (ds:=[eZ r]) rfl rfl (EM r)) rfl ?_)
  rw[inL,K1 ok hr]) (fun r _ _=>rfl)
 exact this
def NQ(rs:List Rz)(n:Tx):(woZ rs n).length<=rs.length:=lU ..
def P6(rs:List Rz)(n:Tx):(wiZ rs n).length<=rs.length:=lU ..
def Pm{α:Type}(p:α->Bool):∀l:List α,(l.filter fun x=>!p x).length+(l.filter p).length=l.length
 |[]=>rfl
 |x::l=>by
  have ih:=Pm p l
  rw[lO,lO]
  cases h:p x
  ·rw[if_pos (by rfl),if_neg (by decide),kX,kX];omega
  ·rw[if_neg (by decide),if_pos rfl,kX,kX];omega
def SV(rs:List Rz)(n:Tx):(Gh rs n).length=rs.length:=by
 unfold Gh
 rw[T']
 exact Pm (inW rs n) rs
def XG(rs:List Rz)(n h:Tx):(Hm rs n h).length=rs.length:=by
 rw[<- SV rs n]
 unfold Hm Gh
 rw[T',T',T',mE,mF]
 omega
def Tc{rs:List Rz}(ok:OkZ rs)(hl:rs.length<=30)(n:Tx):∃ls,EK [.d (.list (rs.map eZ)),.d (eT n)]=some (.list ((Gh rs n).map eZ),ls):=by
 obtain⟨l1,e1⟩:=IA ok hl n
 obtain⟨l2,e2⟩:=SA ok hl n
 have h1:=NQ rs n
 have h2:=P6 rs n
 let τ:DS:=[some (.d (.list (rs.map eZ))),some (.d (eT n))]
 refine⟨[.d (.list (rs.map eZ)),.d (eT n)],?_⟩
 unfold EK
 refine AL (τ:=τ) (AX (oQ (.list ((woZ rs n).map eZ)) (.list ((wiZ rs n).map eZ)) τ (cQ τ [.list (rs.map eZ),eT n] rfl rfl e1) (cQ τ [.list (rs.map eZ),eT n] rfl rfl e2) ?_)) rfl rfl
 rw[MD (by rw[B',B'];omega)]
 unfold Gh
 rw[lD]
def V9{q:Rz}{S:List Rz}:∀{P:List Rz},(∀x∈P,x.n≠q.n)->OA ((P++q::S).map eZ) (eZ q)=some P.length
 |[],_=>by
  show(if PyData.eqv (eZ q) (eZ q)=true then some 0 else _)=_
  rw[encZ.eqv,decide_eq_true rfl,if_pos rfl];rfl
 |x::P,h=>by
  show(if PyData.eqv (eZ x) (eZ q)=true then some 0 else (OA ((P++q::S).map eZ) (eZ q)).map (·+1))=_
  have hx:=h x L'
  rw[encZ.eqv,decide_eq_false (fun z=>hx (by rw[z])),if_neg (by decide),V9 fun y hy=>h y (V' _ hy)]
  rfl
def Km{ws:List Rz}(ow:OkZ ws){h:Tx}(hh:h=t0\/∃q∈ws,q.n=h):∃ls,Cg [.d (.list (ws.map eZ)),.d (eT h)]=some (.int (plc ws h:Nat),ls):=by
 let τ:DS:=[some (.d (.list (ws.map eZ))),some (.d (eT h))]
 refine⟨[.d (.list (ws.map eZ)),.d (eT h)],?_⟩
 unfold Cg
 refine AL (τ:=τ) (AX ?_) rfl rfl
 have c:AD (dOp fEq (AJ 1) (dC (.str ""))) τ=some (decide (h=t0),τ):=tst (oQ (eT h) (eT t0) τ rfl rfl (JL _ _))
 show dIf _ _ _ τ=_
 unfold dIf
 rw[c]
 by_cases hz:h=t0
 ·rw[decide_eq_true hz]
  show some (PyData.int 0,τ)=_
  unfold plc
  rw[if_pos hz];rfl
 ·rw[decide_eq_false hz]
  obtain⟨P,q,S,e1,e2,e3,e4⟩:=Hc hz (hh.resolve_left hz)
  have hq:q∈ws:=by rw[e1];simp
  obtain⟨l1,er⟩:=HZ ow hq
  rw[e2]at er
  show dOp Ay (dOp NA (AJ 0) (AB Cf (AA (AJ 0) (AA (AJ 1) AF)))) (dC (.int 1)) τ=_
  refine(oQ (.int (P.length:Nat)) (.int 1) τ (oQ (.list (ws.map eZ)) (eZ q) τ rfl (cQ τ [.list (ws.map eZ),eT h] rfl rfl er) ?_) rfl (r:=.int ((plc ws h:Nat):Int)) ?_)
  ·show(if okD (eZ q)&&okD (.list (ws.map eZ)) then (OA (ws.map eZ) (eZ q)).map fun k=>PyData.int (k:Nat) else none)=_
   rw[encZ.ok,encZ.okL,e1,V9 fun x hx=>by rw[e2];exact e3 x hx];rfl
  ·rw[e4]
   show some (PyData.int ((P.length:Int)+1))=some (PyData.int ((P.length+1:Nat):Int))
   rw[nO];rfl
def Pw(xs:List PyData)(k:Nat):Jg xs (some (k:Int)) none=xs.drop k:=by
 unfold Jg
 have e:HT.sIx xs.length 0 (some (k:Int))=min k xs.length:=by
  show(if (k:Int)<0 then ((k:Int)+(xs.length:Int)).toNat else min (k:Int).toNat xs.length)=_
  rw[if_neg (by omega),nH]
 rw[e]
 show(xs.drop (min k xs.length)).take (xs.length-min k xs.length)=_
 rw[List.take_of_length_le (by rw[mF];omega)]
 by_cases h:k<=xs.length
 ·rw[Nat.min_eq_left h]
 ·rw[Nat.min_eq_right (by omega),mL,List.drop_of_length_le (by omega)]
def XB{rs:List Rz}(ok:OkZ rs)(hl:rs.length<=30){r0:Rz}(h0:r0∈rs):∃ls,FI [.d (.list (rs.map eZ)),.d (eT r0.n)]=some (.list ((Hm rs r0.n r0.h).map eZ),ls):=by
 obtain⟨l1,e1⟩:=IA ok hl r0.n
 obtain⟨l2,e2⟩:=SA ok hl r0.n
 obtain⟨l3,e3⟩:=HZ ok h0
 obtain⟨l4,e4⟩:=Km (Nz ok r0.n) (Fz ok h0)
 have h1:=NQ rs r0.n
 have h2:=P6 rs r0.n
 let D:PyData:=.list (rs.map eZ)
 let W:PyData:=.list ((woZ rs r0.n).map eZ)
 let k:=plc (woZ rs r0.n) r0.h
 let st:Option L->Option L->DS:=fun a b=>[some (.d D),some (.d (eT r0.n)),a,b]
 let t4:=st (some (.d W)) none
 let τ:=st (some (.d W)) (some (.d (.int (k:Nat))))
 refine⟨[.d D,.d (eT r0.n)],?_⟩
 unfold FI
 have z1:AI (AB BY qe) QH (st none none)=some (.nx t4):=AU (cQ (st none none) [D,eT r0.n] rfl rfl e1) rfl
 have z2:AI (AB Cg (AA qI (AA (AB AK (AA (AB Cf qe) AF)) AF))) Qv t4=some (.nx τ) :=
  AU (cQ t4 [W,eT r0.h] (acc (t4:=t4) rfl (acc (t4:=t4) (cQ t4 [eZ r0] (acc (t4:=t4) (cQ t4 [D,eT r0.n] rfl rfl e3) rfl) rfl (C0 r0)) rfl)) rfl e4) rfl
 refine AL (τ:=τ) ((AE z1).trans ((AE z2).trans (AX ?_))) rfl rfl
 have s1:dSl qI Bl (dPt qT) τ=some (.list (((woZ rs r0.n).take k).map eZ),τ):=by
  show some (PyData.list (Jg ((woZ rs r0.n).map eZ) none (some ((k:Nat):Int))),τ)=_
  rw[OP,List.map_take]
 have s2:dSl qI (dPt qT) Bl τ=some (.list (((woZ rs r0.n).drop k).map eZ),τ):=by
  show some (PyData.list (Jg ((woZ rs r0.n).map eZ) (some ((k:Nat):Int)) none),τ)=_
  rw[Pw,List.map_drop]
 have t1:((woZ rs r0.n).take k).length<=(woZ rs r0.n).length:=by rw[mE];omega
 have t2:((woZ rs r0.n).drop k).length<=(woZ rs r0.n).length:=by rw[mF];omega
 refine op2 (op2 s1 (cQ τ [D,eT r0.n] rfl rfl e2) (MD (by rw[B',B'];omega))) s2 ?_
 rw[MD (by rw[T',B',B',B'];omega)]
 unfold Hm
 rw[lD,lD]
section
variable {rs:List Rz} {r0:Rz}
end
def eX(n h:Tx)(x y:Int)(s:Bool)(k:Nat)(D:PyData):PyData:=.tuple [eT n,eT h,.int x,.int y,.bool s,eT (kS k),D]
def hU(r:Rz):eZ r=eX r.n r.h r.x r.y r.s (kz r.d) (eD r.d):=rfl
def El(x a b:Int):Aa [.d (.int x),.d (.int a),.d (.int b)]=some (.bool (decide (a<=x/\x<=b)),[.d (.int x),.d (.int a),.d (.int b)]):=by
 by_cases h1:a<=x
 ·by_cases h2:x<=b
  ·rw[decide_eq_true ⟨h1,h2⟩];exact BV h1 h2
  ·rw[decide_eq_false (fun z=>h2 z.2)]
   walk_at "a|Aa,K5,h1,h2,decide_true,decide_false"
 ·rw[decide_eq_false (fun z=>h1 z.1)]
  walk_at "a|Aa,K5,h1,decide_true,decide_false"
def Se(x:Int):Ap [.d (.int x)]=some (.bool (decide (-60<=x/\x<=60)),[.d (.int x)]):=by
 have w:=El x (-60) 60
 walk_at "a|Ap,w"
def UD{k:Nat}(hk:k<10){l:List PyData}{b:Bool}{lf:List L}(ef:GF k [.d (.tuple l)]=some (.bool b,lf)):∃ls,Ej [.d (eT (kS k)),.d (.tuple l)]=some (.bool b,ls):=by
 let τ:DS:=[some (.d (eT (kS k))),some (.d (.tuple l))]
 refine⟨[.d (eT (kS k)),.d (.tuple l)],?_⟩
 unfold Ej
 refine AL (τ:=τ) (AX ?_) rfl rfl
 have c2:Rw BW qB τ=some (.bool true,τ):=by
  show some (PyData.bool (Cz BW (kS k).1).isSome,τ)=_
  rw[Ia hk];rfl
 have c4:IK BW qB qA τ=some (.bool b,τ):=by
  show((Cz BW (kS k).1).bind fun G=>AB G qA τ)=_
  rw[Ia hk]
  exact AW (G:=GF k) (a:=qA) (τ:=τ) (t4:=τ) (rs:=[.d (.tuple l)]) (ds:=[.tuple l]) rfl rfl ef
 exact(EU (t4:=τ) rfl).trans ((EU c2).trans ((EU (t4:=τ) rfl).trans c4))
def Rj{n h:Tx}{x y:Int}{s:Bool}{k:Nat}{D:PyData}(hh:h=t0\/OkN h):An (AD (dOp fNe (AB AK qF) qa)) (Ao (AD (AB Bv (AA (AB AK qF) AF)))) [some (.d (eX n h x y s k D))]=some (false,[some (.d (eX n h x y s k D))]):=by
 let τ:DS:=[some (.d (eX n h x y s k D))]
 have t1:AD (dOp fNe (AB AK qF) qa) τ=some (!decide (h=t0),τ):=tst (oQ (eT h) (eT t0) τ rfl rfl (Ku _ _))
 by_cases hz:h=t0
 ·rw[decide_eq_true hz]at t1
  unfold An
  rw[t1];rfl
 ·have hn:=hh.resolve_left hz
  obtain⟨l3,e5⟩:=GH hn.na hn.n1 hn.n8
  rw[decide_eq_false hz]at t1
  exact(Fh t1 (DN (tst (AW (G:=Bv) (a:=AA (AB AK qF) AF) (τ:=τ) (t4:=τ) (rs:=[.d (eT h)]) (ds:=[eT h]) rfl rfl e5)))).trans rfl
def orB{x y:DT}{τ:DS}{p q:Bool}(h1:x τ=some (p,τ))(h2:y τ=some (q,τ)):BQ x y τ=some (p||q,τ):=by
 unfold BQ
 rw[h1]
 cases p
 ·exact h2
 ·rfl
def V4{n h:Tx}{x y:Int}{s:Bool}{k:Nat}{l:List PyData}{b:Bool}{lf:List L}(hn:OkN n)(hh:h=t0\/OkN h)(hk:k<10)(ef:GF k [.d (.tuple l)]=some (.bool b,lf)):∃ls,BB [.d (eX n h x y s k (.tuple l))]=some (.bool (decide (-60<=x/\x<=60)&&decide (-60<=y/\y<=60)&&b),ls):=by
 obtain⟨l1,e1⟩:=GH hn.na hn.n1 hn.n8
 obtain⟨l2,e2⟩:=UD hk ef
 have e3:=Se x
 have e4:=Se y
 let D:PyData:=eX n h x y s k (.tuple l)
 let τ:DS:=[some (.d D)]
 refine⟨[.d D],?_⟩
 unfold BB
 refine AL (τ:=τ) ?_ rfl rfl
 have c1:=DN (tst (AW (G:=Bv) (a:=AA (AB Ab qF) AF) (τ:=τ) (t4:=τ) (rs:=[.d (eT n)]) (ds:=[eT n]) rfl rfl e1))
 have c2:=Rj (n:=n) (x:=x) (y:=y) (s:=s) (k:=k) (D:=.tuple l) hh
 have c3:=DN (tst (AW (G:=Ap) (a:=AA (AB K0 qF) AF) (τ:=τ) (t4:=τ) (rs:=[.d (.int x)]) (ds:=[.int x]) rfl rfl e3))
 have c4:=DN (tst (AW (G:=Ap) (a:=AA (AB Kz qF) AF) (τ:=τ) (t4:=τ) (rs:=[.d (.int y)]) (ds:=[.int y]) rfl rfl e4))
 have c5:=orB c3 c4
 refine(AE (t4:=τ) rfl).trans ((AE (t4:=τ) ((Ae (t4:=τ) c1).trans rfl)).trans ((AE (t4:=τ) ((Ae (t4:=τ) c2).trans rfl)).trans ?_))
 by_cases hx:-60<=x/\x<=60
 ·by_cases hy:-60<=y/\y<=60
  ·rw[decide_eq_true hx,decide_eq_true hy]at c5 ⊢
   refine(AE (t4:=τ) ((Ae (t4:=τ) c5).trans rfl)).trans (AX ?_)
   exact(EU (t4:=τ) rfl).trans (cQ τ [eT (kS k),.tuple l] rfl rfl e2)
  ·rw[decide_eq_true hx,decide_eq_false hy]at c5 ⊢
   exact As ((A3 (t4:=τ) c5).trans rfl)
 ·rw[decide_eq_false hx]at c5 ⊢
  exact As ((A3 (t4:=τ) c5).trans rfl)
def Y9{a b:DX}{τ t4:DS}(h:a τ=some (.bool false,t4)):Bm a b τ=some (.bool false,t4):=by
 unfold Bm
 rw[tst h];rfl
def jj{x y:DT}{τ t4:DS}(h:x τ=some (true,t4)):BQ x y τ=some (true,t4):=by
 unfold BQ
 rw[h];rfl
def jk{x y:DT}{τ t4:DS}(h:x τ=some (false,t4)):BQ x y τ=y t4:=by
 unfold BQ
 rw[h];rfl
def jV{a b:DX}{τ:DS}{p q:Bool}(h:a τ=some (.bool p,τ))(k:b τ=some (.bool q,τ)):Bm a b τ=some (.bool (p&&q),τ):=by
 cases p with
 |true=>exact(EU h).trans (by rw[k];rfl)
 |false=>exact Y9 h
def XZ{w h:Int}{a b:Cl}(oa:OkF a)(ob:OkF b):∃ls,GF 0 [.d (eD (.plate w h a b))]=some (.bool (decide (1<=w/\w<=12)&&decide (1<=h/\h<=12)),ls):=by
 obtain⟨lp,ep⟩:=Gx oa ob
 have e1:=El w 1 12
 have e2:=El h 1 12
 let τ:DS:=[some (.d (eD (.plate w h a b)))]
 refine⟨[.d (eD (.plate w h a b))],?_⟩
 show DC _=_
 unfold DC
 refine AL (τ:=τ) ?_ rfl rfl
 have c:=DN (tst (AW (G:=Bn) (a:=qk) (τ:=τ) (t4:=τ) (rs:=[.d (ec a),.d (ec b)]) (ds:=[ec a,ec b]) rfl rfl ep))
 refine(AE (t4:=τ) ((Ae (t4:=τ) (Hn (t4:=τ) rfl c)).trans rfl)).trans (AX ?_)
 exact jV (cQ τ [.int w,.int 1,.int 12] rfl rfl e1) (cQ τ [.int h,.int 1,.int 12] rfl rfl e2)
def Uh{w h x y:Int}(x0:-60<=x)(x1:x<=60)(y0:-60<=y)(y1:y<=60):∃ls,GF 6 [.d (eD (.window w h x y))]=some (.bool (decide (1<=w/\w<=16)&&decide (1<=h/\h<=16)),ls):=by
 have e1:=El w 1 16
 have e2:=El h 1 16
 have e3:=Fn x0 x1
 have e4:=Fn y0 y1
 let τ:DS:=[some (.d (eD (.window w h x y)))]
 refine⟨[.d (eD (.window w h x y))],?_⟩
 show Bc _=_
 unfold Bc
 refine AL (τ:=τ) ?_ rfl rfl
 have c3:=DN (tst (AW (G:=Ap) (a:=QF) (τ:=τ) (t4:=τ) (rs:=[.d (.int x)]) (ds:=[.int x]) rfl rfl e3))
 have c4:=DN (tst (AW (G:=Ap) (a:=jE) (τ:=τ) (t4:=τ) (rs:=[.d (.int y)]) (ds:=[.int y]) rfl rfl e4))
 refine(AE (t4:=τ) ((Ae (t4:=τ) (Hn (t4:=τ) rfl (Hn (t4:=τ) c3 c4))).trans rfl)).trans (AX ?_)
 exact jV (cQ τ [.int w,.int 1,.int 16] rfl rfl e1) (cQ τ [.int h,.int 1,.int 16] rfl rfl e2)
def W3(a:Cl):C9 [.d (ec a)]=some (.bool false,[.d (ec a)]):=rfl
def Oe(a:Cl)(x y:Int):Aa [.d (ec a),.d (.int x),.d (.int y)]=some (.bool false,[.d (ec a),.d (.int x),.d (.int y)]):=by
 unfold Aa
 refine AL (τ:=[some (.d (ec a)),some (.d (.int x)),some (.d (.int y))]) (AX ?_) rfl rfl
 exact Y9 (AW (G:=C9) (a:=qF) (τ:=[some (.d (ec a)),some (.d (.int x)),some (.d (.int y))]) (t4:=[some (.d (ec a)),some (.d (.int x)),some (.d (.int y))]) (rs:=[.d (ec a)]) (ds:=[ec a]) rfl rfl (W3 a))
def Xa(a:Cl):Ap [.d (ec a)]=some (.bool false,[.d (ec a)]):=by
 have w:=Oe a (-60) 60
 walk_at "a|Ap,w"
def VT{k:Nat}(hk:k<10)(h0:k≠0)(h1:k≠1){w h:Int}{a b:Cl}(oa:OkF a)(ob:OkF b):∃ls,GF k [.d (eD (.plate w h a b))]=some (.bool false,ls):=by
 let D:PyData:=eD (.plate w h a b)
 let τ:DS:=[some (.d D)]
 refine⟨[.d D],?_⟩
 match k,hk with
 |0,_=>exact absurd rfl h0
 |1,_=>exact absurd rfl h1
 |2,_=>rfl
 |3,_=>rfl
 |4,_=>rfl
 |5,_=>rfl
 |6,_ =>
  show Bc _=_
  unfold Bc
  refine AL (τ:=τ) ?_ rfl rfl
  have c3:=DN (tst (AW (G:=Ap) (a:=QF) (τ:=τ) (t4:=τ) (rs:=[.d (ec a)]) (ds:=[ec a]) rfl rfl (Xa a)))
  exact As ((A3 (t4:=τ) ((jk (t4:=τ) rfl).trans (jj c3))).trans rfl)
 |7,_=>rfl
 |8,_ =>
  show Cj _=_
  unfold Cj
  refine AL (τ:=τ) ?_ rfl rfl
  have c1:=DN (tst (AW (G:=Aa) (a:=AA qc QK) (τ:=τ) (t4:=τ) (rs:=[.d (.int w),.d (.int 1),.d (.int 3)]) (ds:=[.int w,.int 1,.int 3]) rfl rfl (El w 1 3)))
  have c2:=DN (tst (AW (G:=Aa) (a:=AA QE QK) (τ:=τ) (t4:=τ) (rs:=[.d (.int h),.d (.int 1),.d (.int 3)]) (ds:=[.int h,.int 1,.int 3]) rfl rfl (El h 1 3)))
  have c:=orB (x:=Q5) (τ:=τ) (p:=false) rfl (orB c1 c2)
  cases e:(false||(!decide (1<=w/\w<=3)||!decide (1<=h/\h<=3))) with
  |true=>rw[e]at c;exact As ((A3 (t4:=τ) c).trans rfl)
  |false =>
   rw[e]at c
   refine(AE (t4:=τ) ((Ae (t4:=τ) c).trans rfl)).trans (AX ?_)
   exact Y9 (AW (G:=Aa) (a:=AA (dOp AN qB qV) Q9) (τ:=τ) (t4:=τ) (rs:=[.d (ec a),.d (.int (-20)),.d (.int 20)]) (ds:=[ec a,.int (-20),.int 20]) rfl rfl (Oe a (-20) 20))
 |9,_=>rfl
structure OkL(r:Rz):Prop where
 n:OkN r.n
 h:r.h=t0\/OkN r.h
 x0:-60<=r.x
 x1:r.x<=60
 y0:-60<=r.y
 d:P1 r.d
def OkL.row{r:Rz}(h:OkL r)(hy:r.y<=60):OkRow r:=⟨h.n.n1,h.n.n8,h.n.na,h.x0,h.x1,h.y0,hy,h.d⟩
def OkL.of{r:Rz}(h:OkRow r)(hh:r.h=t0\/OkN r.h):OkL r:=⟨h.nm,hh,h.x0,h.x1,h.y0,h.d⟩
def WL(d:Dz):∃l,eD d = .tuple l:=by cases d<;>exact⟨_,rfl⟩
def gR{r:Rz}(ok:OkL r):∃ls,BB [.d (eZ r)]=some (.bool (decide (r.y<=60)),ls):=by
 obtain⟨l,hl⟩:=WL r.d
 obtain⟨lf,ef⟩:=OF r.d ok.d
 rw[hl]at ef
 obtain⟨ls,e⟩:=V4 (x:=r.x) (y:=r.y) (s:=r.s) ok.n ok.h (Cc r.d) ef
 refine⟨ls,?_⟩
 rw[hU,hl,e,decide_eq_true ⟨ok.x0,ok.x1⟩]
 have:=ok.y0
 simp only[this,true_and,Bool.true_and,Bool.and_true]
def fK{a b:DT}{τ:DS}{p q:Bool}(h:a τ=some (p,τ))(k:p=true->b τ=some (q,τ)):An a b τ=some (p&&q,τ):=by
 unfold An
 rw[h]
 cases p
 ·rfl
 ·exact k rfl
def Wj{α:Type}(p:α->Bool):∀l:List α,Fd (l.map fun c=>PyData.bool (p c))=some (l.map p)
 |[]=>rfl
 |x::l=>by rw[kg,Fd,Wj p l];rfl
def fF{c:DT}{n:Nat}{p:Bool}{τ t5:DS}(h:c τ=some (p,t5)):xIf c (CC n) QM τ=some (if p=true then .inr n else .inl (.nx t5)):=by
 unfold xIf
 rw[h]
 cases p<;>rfl
def jS{α:Type}(p:α->Bool)(l:List α):NB [.list (l.map fun c=>PyData.bool (p c))]=some (.bool (l.any p)):=by
 show(Fd (l.map fun c=>PyData.bool (p c))).map _=_
 rw[Wj]
 show some (PyData.bool ((l.map p).any id))=_
 rw[List.any_map];rfl
def Ph(q:Rz):∃ls,Ci [.d (eZ q)]=some (.bool (decide (4<=kz q.d)),ls):=by
 let τ:DS:=[some (.d (eZ q))]
 refine⟨[.d (eZ q)],?_⟩
 unfold Ci
 refine AL (τ:=τ) (AX (oQ (eT (kS (kz q.d))) (.tuple (KH.map eT)) τ rfl rfl ?_)) rfl rfl
 rw[inT]
 exact congrArg (fun b=>some (PyData.bool b)) (decide_eq_decide.mpr (Rg (Cc _)))
def Ri{rs:List Rz}(ok:OkZ rs){q:Rz}(hq:q∈rs):∃ls,Dx [.d (.list (rs.map eZ)),.d (eT q.n)]=some (.bool (decide (kz q.d=8)),ls):=by
 obtain⟨l1,e1⟩:=HZ ok hq
 let τ:DS:=[some (.d (.list (rs.map eZ))),some (.d (eT q.n))]
 refine⟨[.d (.list (rs.map eZ)),.d (eT q.n)],?_⟩
 unfold Dx
 refine AL (τ:=τ) (AX (oQ (eT (kS (kz q.d))) (eT (kS 8)) τ (AW (t4:=τ) (rs:=[.d (eZ q)]) (ds:=[eZ q]) (ls:=[.d (eZ q)]) (acc (t4:=τ) (cQ τ [.list (rs.map eZ),eT q.n] rfl rfl e1) rfl) rfl rfl) rfl ?_)) rfl rfl
 rw[JL]
 exact congrArg (fun b=>some (PyData.bool b)) (decide_eq_decide.mpr ⟨D1 (Cc _) (by decide),fun z=>by rw[z]⟩)
def tls(met:List Rz)(h:Tx):Bool:=(hsR met.reverse h).any fun t=>match Ac met t with|some q=>decide (kz q.d=8)|none=>false
def stp(met:List Rz)(r:Rz):Option Nat :=
 if r.y<=60 then
  if (Ac met r.n).isSome=true then some 1
  else if r.h=t0 then none
  else match Ac met r.h with
   |none=>some 2
   |some q=>if 4<=kz q.d then if 6<(hsR met.reverse r.h).length then some 3 else if kz r.d=8/\tls met r.h=true then some 4 else none else some 2
 else some 0
def ouX:Option Nat->PyData ⊕ Nat
 |some n=>.inr n
 |none=>.inl .none
def FP{rs:List Rz}{t:Tx}{q:Rz}(h:Ac rs t=some q):q∈rs/\q.n=t:=⟨List.mem_of_find?_eq_some h,of_decide_eq_true (p:=q.n=t) (List.find?_some (p:=fun r:Rz=>decide (r.n=t)) h)⟩
abbrev vC1:DT:=Ao (AD (AB BB qA))
abbrev vC2:DT:=AD (dOp B9 (AB Av (AA qB (AA (AB Ab qA) AF))) jD)
abbrev vC3:DT:=AD (dOp fEq (AB AK qA) qa)
abbrev vA4:DB:=AI (AB Av (AA qB (AA (AB AK qA) AF))) QH
abbrev vC5:DT:=BQ qm (Ao (AD (AB Ci qZ)))
abbrev vA6:DB:=AI (dOp Gj (Cy (AA (AB AK qA) AF)) (AB Bf (AA qB (AA (AB AK qA) AF)))) Qv
def TV{met:List Rz}{r:Rz}(ok:OkZ met)(okl:OkL r)(hl:met.length<=40):DD [.list (met.map eZ),eZ r]=some (ouX (stp met r)):=by
 let D:PyData:=.list (met.map eZ)
 let st:Option L->Option L->DS:=fun a b=>[some (.d D),some (.d (eZ r)),a,b]
 let t9:=st none none
 obtain⟨lr,er⟩:=gR okl
 have c1:=DN (tst (AW (G:=BB) (a:=qA) (τ:=t9) (t4:=t9) (rs:=[.d (eZ r)]) (ds:=[eZ r]) rfl rfl er))
 unfold DD stp
 by_cases hx:r.y<=60
 case neg =>
  rw[decide_eq_false hx]at c1
  rw[if_neg hx]
  exact DH (MM (t5:=t9) c1) rfl rfl
 rw[decide_eq_true hx]at c1
 rw[if_pos hx]
 obtain⟨l2,e2⟩:=Cq met r.n
 have c2:AD (dOp B9 (AB Av (AA qB (AA (AB Ab qA) AF))) jD) t9=some ((Ac met r.n).isSome,t9) :=
  tst (oQ (oZ (Ac met r.n)) (.none) t9 (cQ t9 [D,eT r.n] rfl rfl e2) rfl (by cases Ac met r.n<;>rfl))
 by_cases h1:(Ac met r.n).isSome=true
 case pos =>
  rw[h1]at c2
  rw[if_pos h1]
  exact DH ((Hk (t5:=t9) c1).trans (MM (t5:=t9) c2)) rfl rfl
 rw[if_neg h1]
 rw[Bool.not_eq_true]at h1
 rw[h1]at c2
 have c3:AD (dOp fEq (AB AK qA) qa) t9=some (decide (r.h=t0),t9):=tst (oQ (eT r.h) (eT t0) t9 (AW (t4:=t9) (ds:=[eZ r]) rfl rfl (C0 r)) rfl (JL _ _))
 by_cases h:r.h=t0
 case pos =>
  rw[decide_eq_true h]at c3
  rw[if_pos h]
  exact DH ((Hk (t5:=t9) c1).trans ((Hk (t5:=t9) c2).trans (R9 (t5:=t9) (d:=.none) ((A3 (t4:=t9) c3).trans rfl)))) rfl rfl
 rw[decide_eq_false h]at c3
 rw[if_neg h]
 obtain⟨l3,e3⟩:=Cq met r.h
 let t4:=st (some (.d (oZ (Ac met r.h)))) none
 have hx:∀a b,AB AK qA (st a b)=some (eT r.h,st a b):=fun a b=>AW (t4:=st a b) (ds:=[eZ r]) rfl rfl (C0 r)
 have z4:AI (AB Av (AA qB (AA (AB AK qA) AF))) QH t9=some (.nx t4):=AU (d:=oZ (Ac met r.h)) (t4:=t9) (AW (t4:=t9) (rs:=[.d D,.d (eT r.h)]) (ds:=[D,eT r.h]) (ls:=l3) (acc (t4:=t9) rfl (acc (hx _ _) rfl)) rfl e3) rfl
 have pre:∀{Aw:DBX} {o:FG},Aw t4=some o->A4 (xIf vC1 (CC 0) QM) (A4 (xIf vC2 (CC 1) QM) (A4 (xOf (AO vC3 EY AQ)) (A4 (xOf vA4) Aw))) t9=some o:=fun {Aw o} k=>(Hk (t5:=t9) c1).trans ((Hk (t5:=t9) c2).trans ((Dr (t5:=t9) ((Ae (t4:=t9) c3).trans rfl)).trans ((Dr z4).trans k)))
 cases hq:Ac met r.h with
 |none =>
  refine DH (pre (MM (t5:=t4) ?_)) rfl rfl
  show BQ qm _ (st (some (.d (oZ (Ac met r.h)))) none)=some (true,st (some (.d (oZ (Ac met r.h)))) none)
  rw[hq];rfl
 |some q =>
  dsimp only
  obtain⟨hqm,hqn⟩:=FP hq
  have e1:t4=st (some (.d (eZ q))) none:=by show st (some (.d (oZ (Ac met r.h)))) none=_;rw[hq];rfl
  obtain⟨l4,e4⟩:=Ph q
  have c5:BQ qm (Ao (AD (AB Ci qZ))) t4=some (!decide (4<=kz q.d),t4):=by
   rw[e1]
   exact orB (p:=false) rfl (DN (tst (AW (G:=Ci) (a:=qZ) (t4:=st (some (.d (eZ q))) none) (rs:=[.d (eZ q)]) (ds:=[eZ q]) rfl rfl e4)))
  by_cases h4:4<=kz q.d
  case neg =>
   rw[decide_eq_false h4]at c5
   rw[if_neg h4]
   exact DH (pre (MM (t5:=t4) c5)) rfl rfl
  rw[decide_eq_true h4]at c5
  rw[if_pos h4]
  obtain⟨l5,e5⟩:=Ls ok hl (a:=r.h) (.inr ⟨q,hqm,hqn⟩)
  obtain⟨tl,htl⟩:=OB (a:=met.reverse) (n:=r.h) ⟨q,K'.mpr hqm,hqn⟩
  let H:PyData:=.list ((hsR met.reverse r.h).map eT)
  let t7:=st (some (.d (oZ (Ac met r.h)))) (some (.d H))
  have hlen:=K2 met.reverse r.h
  rw[lR]at hlen
  have z6:AI (dOp Gj (Cy (AA (AB AK qA) AF)) (AB Bf (AA qB (AA (AB AK qA) AF)))) Qv t4=some (.nx t7):=by
   refine AU (d:=H) (t4:=t4) (oQ (.list [eT r.h]) (.list ((hsR met.reverse r.h).tail.map eT)) t4 ?_ (cQ t4 [D,eT r.h] (acc (t4:=t4) rfl (acc (hx _ _) rfl)) rfl e5) ?_) rfl
   ·unfold Cy
    rw[acc (hx _ _) rfl];rfl
   ·show(if [eT r.h].length+((hsR met.reverse r.h).tail.map eT).length<=sizeLine then some (PyData.list ([eT r.h]++(hsR met.reverse r.h).tail.map eT)) else none)=_
    rw[if_pos (sz (by rw[B',List.length_tail];simp only[List.length_cons,List.length_nil];omega))]
    show some (PyData.list _)=some (PyData.list _)
    rw[htl];rfl
  have c7:AD (dOp fGt (Ak Bp qg) qv) t7=some (decide (6<(hsR met.reverse r.h).length),t7):=by
   refine tst (oQ (.int ((hsR met.reverse r.h).length:Nat)) (.int 6) t7 (E8 (d:=H) (t4:=t7) rfl (by show some (PyData.int (((hsR met.reverse r.h).map eT).length:Nat))=_;rw[B'])) rfl ?_)
   show some (PyData.bool (decide ((((hsR met.reverse r.h).length:Nat):Int)>6)))=_
   exact congrArg (fun b=>some (PyData.bool b)) (decide_eq_decide.mpr (by omega))
  have pre2:∀{Aw:DBX} {o:FG},Aw t7=some o->A4 (xIf vC1 (CC 0) QM) (A4 (xIf vC2 (CC 1) QM) (A4 (xOf (AO vC3 EY AQ)) (A4 (xOf vA4) (A4 (xIf vC5 (CC 2) QM) (A4 (xOf vA6) Aw))))) t9=some o:=fun {Aw o} k=>pre ((Hk (t5:=t4) c5).trans ((Dr z6).trans k))
  by_cases h6:6<(hsR met.reverse r.h).length
  case pos =>
   rw[decide_eq_true h6]at c7
   rw[if_pos h6]
   exact DH (pre2 (MM (t5:=t7) c7)) rfl rfl
  rw[decide_eq_false h6]at c7
  rw[if_neg h6]
  have t1:AD (dOp fEq (AB BM qA) QJ) t7=some (decide (kz r.d=8),t7):=tst (oQ (eT (kS (kz r.d))) (eT (kS 8)) t7 rfl rfl ((JL _ _).trans (congrArg (fun b=>some (PyData.bool b)) (decide_eq_decide.mpr ⟨D1 (Cc _) (by decide),fun z=>by rw[z]⟩))))
  have c8:An (AD (dOp fEq (AB BM qA) QJ)) (AD (Ak NB (AA (dLC 1 [0] (dIL qT) QY B0 (AB Dx (AA qE qF))) AF))) t7=some (decide (kz r.d=8)&&tls met r.h,t7):=by
   refine fK t1 fun _=>tst (E8 (d:=.list ((hsR met.reverse r.h).map fun t=>PyData.bool (match Ac met t with|some q=>decide (kz q.d=8)|none=>false))) (t4:=t7) ?_ (jS _ _))
   have := lcg (enc := eT) (rs := hsR met.reverse r.h) (τ := t7) (fr := [0]) (it := dIL qT) (ex := [some (.d D)]) (c := B0) (e := AB Dx (AA qE qF)) (fun _ => true) (fun t => PyData.bool (match Ac met t with | some q => decide (kz q.d = 8) | none => false)) rfl (by omega) rfl rfl (fun _ _ => rfl) (fun m hm _ => by
    obtain⟨p,hp,rfl⟩:=EA hm
    have hp':=K'.mp hp
    obtain⟨lt,et⟩:=Ri ok hp'
    rw[CU ok hp']
    exact cQ [some (.d (eT p.n)),some (.d D)] [D,eT p.n] rfl rfl et)
   rw[this,Cu]
  refine DH (pre2 ((Hk (t5:=t7) c7).trans (fF c8))) rfl ?_
  by_cases h8:kz r.d=8/\tls met r.h=true
  ·rw[if_pos h8,h8.2,decide_eq_true h8.1];rfl
  ·rw[if_neg h8]
   have:(decide (kz r.d=8)&&tls met r.h)=false:=by
    rw[lL]
    intro z
    rw[Y']at z
    exact h8 ⟨of_decide_eq_true z.1,z.2⟩
   rw[this];rfl
def goF(met:List Rz):List Rz->Option Nat
 |[]=>none
 |r::rs=>match stp met r with
  |some n=>some n
  |none=>goF (met++[r]) rs
def ZC(rs:List Rz):Option Nat:=match goF [] rs with
 |some n=>some n
 |none=>if 24<rs.length then some 5 else none
def U0{met:List Rz}{r:Rz}(ok:OkZ met)(okl:OkL r)(h:stp met r=none):OkZ (met++[r]):=by
 show OkR (met++[r]).reverse
 rw[lS]
 show OkR met.reverse/\OkRow r/\(∀q∈met.reverse,q.n≠r.n)/\(r.h=t0\/∃q∈met.reverse,q.n=r.h)
 unfold stp at h
 split at h
 ·rename_i hx
  refine⟨ok,okl.row hx,?_⟩
  split at h
  ·cases h
  ·rename_i h1
   refine⟨fun q hq e=>h1 ?_,?_⟩
   ·rw[<- e,CU ok (K'.mp hq)];rfl
   ·split at h
    ·rename_i h0;exact .inl h0
    ·split at h
     ·cases h
     ·rename_i q hq
      obtain⟨h2,h3⟩:=FP hq
      exact .inr ⟨q,K'.mpr h2,h3⟩
 ·cases h
def vG:DG:=dGT (Ag (dN 1) (Ag QH DK))
def vB:DBX:=Fb DD (AA (dSl qB Bl (dPt qE)) qZ)
def ouL(D:PyData)(a b:Option L):Option Nat->FG
 |some n=>.inr n
 |none=>.inl (.nx [some (.d D),a,b])
def Ul{rs:List Rz}(hl:rs.length<=40):∀(post pre:List Rz) (a b:Option L),nM a->nM b->rs=pre++post->OkZ pre->(∀r∈post,OkL r)->∃a' b',IZ vG vB (HF pre.length (post.map eZ)) [some (.d (.list (rs.map eZ))),a,b]=some (ouL (.list (rs.map eZ)) a' b' (goF pre post)):=by
 intro post
 induction post with
 |nil=>exact fun pre a b _ _ _ _ _=>⟨a,b,rfl⟩
 |cons r post ih =>
  intro pre a b ha hb e ok h
  have okl:=h r L'
  let D:PyData:=.list (rs.map eZ)
  let st:Option L->Option L->DS:=fun a b=>[some (.d D),a,b]
  let t:=st (some (.d (.int (pre.length:Nat)))) (some (.d (eZ r)))
  have g1:vG (.tuple [.int (pre.length:Nat),eZ r]) (st a b)=some t:=by
   show(dN 1 (.int (pre.length:Nat)) (st a b)).bind _=_
   rw[Cv (o:=a) rfl ha]
   show(dN 2 (eZ r) (st (some (.d (.int (pre.length:Nat)))) b)).bind _=_
   rw[Cv (o:=b) rfl hb];rfl
  have sl:dSl (AJ 0) Bl (dPt (AJ 1)) t=some (.list (pre.map eZ),t):=by
   show some (PyData.list (Jg (rs.map eZ) none (some ((pre.length:Nat):Int))),t)=_
   rw[OP,e,lD,List.take_left' (by rw[B'])]
  have pl:pre.length<=40:=by rw[e,T']at hl;omega
  have b1:vB t=some (match ouX (stp pre r) with|.inl _=>.inl (.nx t)|.inr n=>.inr n):=by
   unfold vB Fb
   rw[acc sl rfl]
   show Option.map _ (DD [PyData.list (pre.map eZ),eZ r])=_
   rw[TV ok okl pl];rfl
  rw[kg,HF,IZ]
  rw[g1,k6,b1,k6,goF]
  cases hs:stp pre r with
  |some n=>exact⟨none,none,rfl⟩
  |none =>
   dsimp only[ouX]
   have:=ih (pre++[r]) (some (.d (.int (pre.length:Nat)))) (some (.d (eZ r))) DQ DQ (by rw[e];simp) (U0 ok okl hs) fun q hq=>h q (V' _ hq)
   rw[T']at this
   exact this
def fH{rs:List Rz}(h:∀r∈rs,OkL r)(hl:rs.length<=40):Ja [.list (rs.map eZ)]=some (match ZC rs with|some n=>.inr n|none=>.inl (.bool true)):=by
 let D:PyData:=.list (rs.map eZ)
 obtain⟨a,b,e⟩:=Ul hl rs [] none none BI BI rfl trivial h
 have e1:P4 (dIE qB) vG vB [some (.d D),none,none]=some (ouL D a b (goF [] rs)):=by
  unfold P4
  rw[show dIE qB [some (.d D),none,none]=some (HF 0 (rs.map eZ),[some (.d D),none,none]) from rfl,k6]
  exact e
 have sq:∀{f:DBX},A4 (P4 (dIE qB) vG vB) f [some (.d D),none,none]=match goF [] rs with|some n=>some (.inr n)|none=>f [some (.d D),a,b]:=fun {f}=>by
  unfold A4
  rw[e1,k6]
  cases goF [] rs<;>rfl
 unfold Ja ZC
 cases hg:goF [] rs with
 |some n =>
  refine DH (o:=.inr n) ?_ rfl rfl
  refine sq.trans ?_
  rw[hg]
 |none =>
  have c:AD (dOp fGt QL (dC (.int 24))) [some (.d D),a,b]=some (decide (24<rs.length),[some (.d D),a,b]):=by
   refine tst (oQ (.int (rs.length:Nat)) (.int 24) [some (.d D),a,b] (E8 (d:=D) (t4:=[some (.d D),a,b]) rfl (by show some (PyData.int ((rs.map eZ).length:Nat))=_;rw[B'])) rfl ?_)
   show some (PyData.bool (decide (((rs.length:Nat):Int)>24)))=_
   exact congrArg (fun b=>some (PyData.bool b)) (decide_eq_decide.mpr (by omega))
  by_cases h24:24<rs.length
  ·rw[decide_eq_true h24]at c
   refine DH (o:=.inr 5) ?_ rfl (by dsimp only;rw[if_pos h24];rfl)
   refine sq.trans ?_
   rw[hg]
   exact MM c
  ·rw[decide_eq_false h24]at c
   refine DH (o:=.inl (.rt (.bool true) [some (.d D),a,b])) ?_ rfl (by dsimp only;rw[if_neg h24];rfl)
   refine sq.trans ?_
   rw[hg]
   exact(Hk c).trans rfl
def Vg(rs:List Rz):Prop:=∀r∈rs,(r.h=t0\/∃q∈rs,q.n=r.h/\4<=kz q.d/\(hsR rs.reverse r.h).length<7)/\(kz r.d=8->∀q∈rs,q.n∈hsR rs.reverse r.h->kz q.d≠8)
def PL{rs:List Rz}(ok:OkZ rs){r:Rz}(hr:r∈rs):r.h=t0\/∃q∈rs,q.n=r.h:=by
 obtain⟨A,B,rfl⟩:=lY hr
 obtain⟨_,_,_,h⟩:=CZ ok rfl
 exact h.imp id fun⟨q,hq,e⟩=>⟨q,kW _ hq,e⟩
def Uk{big small:List Rz}(okb:OkZ big)(oks:OkZ small)(h:∀q∈small,q∈big)(v:Vg big):Vg small:=by
 intro r hr
 obtain⟨v1,v2⟩:=v r (h r hr)
 have hh:=PL oks hr
 have e:hsR big.reverse r.h=hsR small.reverse r.h:=JG oks okb h hh
 refine⟨?_,fun z q hq hn=>v2 z q (h q hq) (by rw[e];exact hn)⟩
 rcases v1 with v1|⟨q,hq,e1,e2,e3⟩
 ·exact .inl v1
 ·rcases hh with hh|⟨p,hp,ep⟩
  ·exact .inl hh
  ·have:q=p:=okb.u q hq p (h p hp) (e1.trans ep.symm)
   subst this
   exact .inr ⟨q,hp,e1,e2,by rw[<- e];exact e3⟩
def fG{rs:List Rz}(ok:OkZ rs)(vt:VtR rs.reverse):Vg rs:=by
 intro r hr
 obtain⟨A,B,e⟩:=lY hr
 obtain⟨okA,_,_,hh⟩:=CZ ok e
 have hA:∀q∈A,q∈rs:=fun q hq=>by rw[e];exact kW _ hq
 have vr : VtR (r :: A.reverse) := VtR.suf (p := B.reverse) (by
  have:rs.reverse=B.reverse++r::A.reverse:=by rw[e];simp
  rw[<- this];exact vt)
 obtain⟨_,v1,v2⟩:=vr
 refine⟨?_,fun z q hq hn=>?_⟩
 ·rcases v1 with v1|⟨q,hq,e1,e2,e3⟩
  ·exact .inl v1
  ·have hq':=K'.mp hq
   refine .inr ⟨q,hA q hq',e1,e2,?_⟩
   rw[JG okA ok hA (.inr ⟨q,hq',e1⟩),<- e1];exact e3
 ·rw[JG okA ok hA hh]at hn
  obtain⟨p,hp,ep⟩:=EA hn
  have:q=p:=ok.u q hq p (hA p (K'.mp hp)) ep.symm
  subst this
  exact v2 z q hp hn
def ZG:∀{a:List Rz},OkR a->Vg a.reverse->VtR a
 |[],_,_=>trivial
 |r::a,ok,v=>by
  have okz:OkZ (r::a).reverse:=by show OkR (r::a).reverse.reverse;rw[mJ];exact ok
  have oka:OkZ a.reverse:=by show OkR a.reverse.reverse;rw[mJ];exact ok.1
  have hs:∀q∈a.reverse,q∈(r::a).reverse:=fun q hq=>by rw[K']at hq ⊢;exact V' _ hq
  have ih:=ZG ok.1 (Uk okz oka hs v)
  obtain⟨v1,v2⟩:=v r (K'.mpr L')
  have hh:r.h=t0\/∃q∈a.reverse,q.n=r.h:=ok.2.2.2.imp id fun⟨q,hq,e⟩=>⟨q,K'.mpr hq,e⟩
  have e:hsR (r::a).reverse.reverse r.h=hsR a.reverse.reverse r.h:=JG oka okz hs hh
  rw[mJ (as:=a)]at e
  refine⟨ih,?_,fun z q hq hn=>v2 z q (K'.mpr (V' _ hq)) (by rw[e];exact hn)⟩
  rcases v1 with v1|⟨q,hq,e1,e2,e3⟩
  ·exact .inl v1
  ·rcases hh with hh|⟨p,hp,ep⟩
   ·exact .inl hh
   ·have:q=p:=okz.u q hq p (hs p hp) (e1.trans ep.symm)
    subst this
    exact .inr ⟨q,K'.mp hp,e1,e2,by rw[e1,<- e];exact e3⟩
structure Iv(rs:List Rz):Prop where
 ok:OkZ rs
 vt:VtR rs.reverse
 ln:rs.length<=24
def Iv.sub{rs xs:List Rz}(I:Iv rs)(ox:OkZ xs)(h:∀q∈xs,q∈rs)(hl:xs.length<=rs.length):Iv xs :=
 ⟨ox,ZG ox (by rw[mJ];exact Uk I.ok ox h (fG I.ok I.vt)),lA hl I.ln⟩
def Iv.wo{rs:List Rz}(I:Iv rs)(n:Tx):Iv (woZ rs n):=I.sub (Nz I.ok n) (fun q hq=>(wo_mem.mp hq).1) (NQ rs n)
def Iv.rai{rs:List Rz}(I:Iv rs){r:Rz}(hr:r∈rs):Iv (Gh rs r.n):=I.sub (Xs I.ok hr) (fun q hq=>mem_rai.mp hq) (mx (SV rs r.n))
def Iv.snk{rs:List Rz}(I:Iv rs){r:Rz}(hr:r∈rs):Iv (Hm rs r.n r.h):=I.sub (Xr I.ok hr) (fun q hq=>mem_snk.mp hq) (mx (XG rs r.n r.h))
def N3{f:Rz->Rz}(hn:∀q,(f q).n=q.n)(hh:∀q,(f q).h=q.h):∀(a:List Rz) (m:Tx),hsR (a.map f) m=hsR a m
 |[],_=>rfl
 |r::a,m=>by rw[kg,hsR,hsR,hn,hh,N3 hn hh a,N3 hn hh a]
def Vx{f:Rz->Rz}(hn:∀q,(f q).n=q.n)(hh:∀q,(f q).h=q.h):∀{a:List Rz},(∀q∈a,OkRow (f q))->OkR a->OkR (a.map f)
 |[],_,_=>trivial
 |r::a,h,ok=>by
  refine⟨Vx hn hh (fun q hq=>h q (V' _ hq)) ok.1,h r L',fun q hq=>?_,?_⟩
  ·obtain⟨p,hp,rfl⟩:=ly.mp hq
   rw[hn,hn];exact ok.2.2.1 p hp
  ·rw[hh]
   exact ok.2.2.2.imp id fun⟨q,hq,e⟩=>⟨f q,mq hq,(hn q).trans e⟩
def Vw{f:Rz->Rz}(hn:∀q,(f q).n=q.n)(hh:∀q,(f q).h=q.h)(hk:∀q,kz (f q).d=kz q.d):∀{a:List Rz},VtR a->VtR (a.map f)
 |[],_=>trivial
 |r::a,⟨v0,v1,v2⟩=>by
  refine⟨Vw hn hh hk v0,?_,fun z q hq hm=>?_⟩
  ·rw[hh]
   exact v1.imp id fun⟨q,hq,e1,e2,e3⟩=>⟨f q,mq hq,(hn q).trans e1,by rw[hk];exact e2,by rw[hn,N3 hn hh];exact e3⟩
  ·obtain⟨p,hp,rfl⟩:=ly.mp hq
   rw[hn,hh,N3 hn hh]at hm
   rw[hk]at z ⊢
   exact v2 z p hp hm
def Iv.upd{rs:List Rz}(I:Iv rs){r c:Rz}(hr:r∈rs)(hn:c.n=r.n)(hh:c.h=r.h)(hk:kz c.d=kz r.d)(ok:OkRow c):Iv (Hl rs r.n c):=by
 have u:=I.ok.u
 let f:Rz->Rz:=fun q=>if q=r then c else q
 have e:Hl rs r.n c=rs.map f:=List.map_congr_left fun q hq=>by
  show(if q.n=r.n then c else q)=if q=r then c else q
  by_cases h:q.n=r.n
  ·rw[if_pos h,if_pos (u q hq r hr h)]
  ·rw[if_neg h,if_neg fun z=>h (by rw[z])]
 have h1:∀q,(f q).n=q.n:=fun q=>by show(if q=r then c else q).n=_;split<;>simp_all
 have h2:∀q,(f q).h=q.h:=fun q=>by show(if q=r then c else q).h=_;split<;>simp_all
 have h3:∀q,kz (f q).d=kz q.d:=fun q=>by show kz (if q=r then c else q).d=_;split<;>simp_all
 have h4:∀q∈rs.reverse,OkRow (f q):=fun q hq=>by
  show OkRow (if q=r then c else q)
  split
  ·exact ok
  ·exact OkR.all I.ok q hq
 rw[e]
 refine⟨?_,?_,by rw[B'];exact I.ln⟩
 ·show OkR (rs.map f).reverse
  rw[<- List.map_reverse];exact Vx h1 h2 h4 I.ok
 ·rw[<- List.map_reverse];exact Vw h1 h2 h3 I.vt
def U1{met:List Rz}{r:Rz}(ok:OkZ (met++[r]))(vt:VtR (met++[r]).reverse):stp met r=none:=by
 rw[lS]at vt
 replace vt:VtR (r::met.reverse):=vt
 have ok':OkR (r::met.reverse):=by have:=ok;unfold OkZ at this;rw[lS]at this;exact this
 obtain⟨om,okr,hn,_⟩:=ok'
 obtain⟨_,v1,v2⟩:=vt
 unfold stp
 rw[if_pos okr.y1,if_neg (by rw[JJ fun q hq=>hn q (K'.mpr hq)];exact kr)]
 by_cases h:r.h=t0
 ·rw[if_pos h]
 rw[if_neg h]
 obtain⟨q,hq,e1,e2,e3⟩:=v1.resolve_left h
 have hq':=K'.mp hq
 have om':OkZ met:=om
 rw[<- e1,CU om' hq']
 dsimp only
 rw[if_pos e2,if_neg (by omega),if_neg]
 rintro⟨z1,z2⟩
 obtain⟨t,ht,z3⟩:=nK.mp z2
 obtain⟨p,hp,rfl⟩:=EA ht
 rw[CU om' (K'.mp hp)]at z3
 exact v2 z1 p hp (by rw[<- e1];exact ht) (of_decide_eq_true z3)
def Sx:∀(a b met:List Rz),goF met (a++b)=match goF met a with|some n=>some n|none=>goF (met++a) b
 |[],b,met=>by rw[ku];rfl
 |r::a,b,met=>by
  rw[List.cons_append,goF,goF]
  cases stp met r with
  |some n=>rfl
  |none =>
   dsimp only
   rw[Sx a b (met++[r])]
   rw[lK];rfl
def WC{rs:List Rz}:∀(post pre:List Rz),rs=pre++post->OkZ rs->VtR rs.reverse->goF pre post=none
 |[],_,_,_,_=>rfl
 |r::post,pre,e,ok,vt=>by
  have e':rs=(pre++[r])++post:=by rw[e];simp
  rw[goF,U1 (Sh (B:=post) (e'▸ok)) (VtR.suf (p:=post.reverse) (by rw[<- lS,<- e'];exact vt))]
  exact WC post (pre++[r]) e' ok vt
def Iv.put{rs:List Rz}(I:Iv rs){r:Rz}(okl:OkL r)(h:stp rs r=none)(hl:rs.length<24):Iv (rs++[r]):=by
 have ok:=U0 I.ok okl h
 refine⟨ok,?_,by rw[T'];exact hl⟩
 rw[lS]
 show VtR (r::rs.reverse)
 refine⟨I.vt,?_,fun z q hq hm=>?_⟩
 ·unfold stp at h
  split at h
  case isFalse=>cases h
  split at h
  case isTrue=>cases h
  by_cases e:r.h=t0
  ·exact .inl e
  rw[if_neg e]at h
  cases hq:Ac rs r.h with
  |none=>rw[hq]at h;cases h
  |some q =>
   rw[hq]at h
   dsimp only at h
   obtain⟨hm,hn⟩:=FP hq
   by_cases h4:4<=kz q.d
   case neg=>rw[if_neg h4]at h;cases h
   rw[if_pos h4]at h
   by_cases h6:6<(hsR rs.reverse r.h).length
   case pos=>rw[if_pos h6]at h;cases h
   exact .inr ⟨q,K'.mpr hm,hn,h4,by rw[hn];omega⟩
 ·unfold stp at h
  split at h
  case isFalse=>cases h
  split at h
  case isTrue=>cases h
  by_cases e:r.h=t0
  ·rw[e,EX I.ok]at hm;cases hm
  rw[if_neg e]at h
  cases hp:Ac rs r.h with
  |none=>rw[hp]at h;cases h
  |some p =>
   rw[hp]at h
   dsimp only at h
   by_cases h4:4<=kz p.d
   case neg=>rw[if_neg h4]at h;cases h
   rw[if_pos h4]at h
   by_cases h6:6<(hsR rs.reverse r.h).length
   case pos=>rw[if_pos h6]at h;cases h
   rw[if_neg h6]at h
   by_cases h8:kz r.d=8/\tls rs r.h=true
   case pos=>rw[if_pos h8]at h;cases h
   intro z8
   refine h8 ⟨z,nK.mpr ⟨q.n,hm,?_⟩⟩
   rw[CU I.ok (K'.mp hq)]
   exact decide_eq_true z8
inductive De where
 |put (r:Rz)
 |nm (i:Nat) (n:Tx)
 |mv (n:Tx) (x y:Int)
 |tn (n:Tx) (q:Int)
 |sz (n:Tx) (w h:Int)
 |ch (n:Tx) (d:Dz)
def eDe:De->PyData
 |.put r=>.tuple [eT (wS 0),eZ r]
 |.nm i n=>dd i n []
 |.mv n x y=>dd 4 n [.int x,.int y]
 |.tn n q=>dd 5 n [.int q]
 |.sz n w h=>dd 6 n [.int w,.int h]
 |.ch n d=>dd 7 n [eD d]
def nmD:De->Tx
 |.put _=>t0
 |.nm _ n=>n
 |.mv n _ _=>n
 |.tn n _=>n
 |.sz n _ _=>n
 |.ch n _=>n
def wdD:De->Nat
 |.put _=>0
 |.nm i _=>i
 |.mv _ _ _=>4
 |.tn _ _=>5
 |.sz _ _ _=>6
 |.ch _ _=>7
def chX(r:Rz):De->Option (PyData×Option Rz)
 |.put _=>none
 |.nm i _=>some (eZ { r with s:=decide (i=9) },some { r with s:=decide (i=9) })
 |.mv _ x y=>some (eZ { r with x:=x,y:=y },if (-60<=x/\x<=60)/\(-60<=y/\y<=60) then some { r with x:=x,y:=y } else none)
 |.tn _ k=>match r.d with
  |.turn q f=>some (eZ { r with d:=.turn ((q+k) % 4) f },some { r with d:=.turn ((q+k) % 4) f })
  |_=>none
 |.sz _ w h=>match r.d with
  |.plate _ _ a b=>some (eZ { r with d:=.plate w h a b },if (1<=w/\w<=12)/\(1<=h/\h<=12) then some { r with d:=.plate w h a b } else none)
  |.window _ _ x y=>some (eZ { r with d:=.window w h x y },if (1<=w/\w<=16)/\(1<=h/\h<=16) then some { r with d:=.window w h x y } else none)
  |_=>none
 | .ch _ d => some (eX r.n r.h r.x r.y r.s (kz r.d) (eD d), if kz d = kz r.d then some { r with d := d } else match d with
  |.plate w h a b=>if kz r.d=1 then some { r with d:=.band w h a b } else none
  |_=>none)
def Hu(rs:List Rz):De->Prop
 |.put r=>OkL r
 |.nm i _=>i=1\/i=2\/i=3\/i=8\/i=9
 |.ch n d=>P1 d/\∀r∈rs,r.n=n->kz d=kz r.d\/kz d=0
 |_=>True
structure fA(r:Rz)(X:PyData)(v:Option Rz):Prop where
 row:∃ls,BB [.d X]=some (.bool v.isSome,ls)
 val:∀r',v=some r'->X=eZ r'/\OkRow r'/\r'.n=r.n/\r'.h=r.h/\kz r'.d=kz r.d
 nam:AN X (.int 0)=some (eT r.n)
def V3{r:Rz}(hn:OkN r.n)(hh:r.h=t0\/OkN r.h){b:Bool}{lf:List L}(ef:GF (kz r.d) [.d (eD r.d)]=some (.bool b,lf)):∃ls,BB [.d (eZ r)]=some (.bool (decide (-60<=r.x/\r.x<=60)&&decide (-60<=r.y/\r.y<=60)&&b),ls):=by
 obtain⟨l,hl⟩:=WL r.d
 rw[hl]at ef
 rw[hU,hl]
 exact V4 hn hh (Cc r.d) ef
def Ry{rs:List Rz}{r:Rz}(hr:r∈rs)(ok:OkRow r)(hh:r.h=t0\/OkN r.h){d:De}(hd:Hu rs d)(hn:nmD d=r.n){X:PyData}{v:Option Rz}(h:chX r d=some (X,v)):fA r X v:=by
 have tr:∀{r':Rz},OkRow r'->r'.n=r.n->r'.h=r.h->kz r'.d=kz r.d->fA r (eZ r') (some r'):=fun {r'} o e1 e2 e3 =>
  ⟨UB o (by rw[e2];exact hh),fun q z=>by cases z;exact⟨rfl,o,e1,e2,e3⟩,by rw[<- e1];rfl⟩
 have px:decide (-60<=r.x/\r.x<=60)=true:=decide_eq_true ⟨ok.x0,ok.x1⟩
 have py:decide (-60<=r.y/\r.y<=60)=true:=decide_eq_true ⟨ok.y0,ok.y1⟩
 cases d with
 |put q=>cases h
 |nm i n=>cases h;exact tr ⟨ok.n1,ok.n8,ok.na,ok.x0,ok.x1,ok.y0,ok.y1,ok.d⟩ rfl rfl rfl
 |mv n x y =>
  cases h
  by_cases hb:(-60<=x/\x<=60)/\(-60<=y/\y<=60)
  ·rw[if_pos hb];exact tr ⟨ok.n1,ok.n8,ok.na,hb.1.1,hb.1.2,hb.2.1,hb.2.2,ok.d⟩ rfl rfl rfl
  ·rw[if_neg hb]
   refine⟨?_,fun q z=>(nomatch z),rfl⟩
   obtain⟨lf,ef⟩:=OF r.d ok.d
   obtain⟨ls,e⟩:=V3 (r:={ r with x:=x,y:=y }) ok.nm hh ef
   refine⟨ls,e.trans ?_⟩
   have:(decide (-60<=x/\x<=60)&&decide (-60<=y/\y<=60)&&true)=false:=by
    rw[Bool.and_true,lL]
    intro z
    rw[Y']at z
    exact hb ⟨of_decide_eq_true z.1,of_decide_eq_true z.2⟩
   exact congrArg (fun b=>some (PyData.bool b,ls)) this
 |tn n k =>
  dsimp only[chX]at h
  split at h
  ·rename_i q f e
   cases h
   exact tr ⟨ok.n1,ok.n8,ok.na,ok.x0,ok.x1,ok.y0,ok.y1,by show 0<=(q+k) % 4/\(q+k) % 4<=3;omega⟩ rfl rfl (by rw[e];rfl)
  ·cases h
 |sz n w g =>
  dsimp only[chX]at h
  split at h
  ·rename_i w0 h0 a b e
   have od:=ok.d
   rw[e]at od
   obtain⟨_,_,_,_,oa,ob⟩:=od
   cases h
   by_cases hb:(1<=w/\w<=12)/\(1<=g/\g<=12)
   ·rw[if_pos hb];exact tr ⟨ok.n1,ok.n8,ok.na,ok.x0,ok.x1,ok.y0,ok.y1,⟨hb.1.1,hb.1.2,hb.2.1,hb.2.2,oa,ob⟩⟩ rfl rfl (by rw[e];rfl)
   ·rw[if_neg hb]
    refine⟨?_,fun q z=>(nomatch z),rfl⟩
    obtain⟨lf,ef⟩:=XZ (w:=w) (h:=g) oa ob
    obtain⟨ls,e⟩:=V3 (r:={ r with d:=.plate w g a b }) ok.nm hh ef
    refine⟨ls,e.trans ?_⟩
    have:(decide (1<=w/\w<=12)&&decide (1<=g/\g<=12))=false:=by
     rw[lL]
     intro z
     rw[Y']at z
     exact hb ⟨of_decide_eq_true z.1,of_decide_eq_true z.2⟩
    rw[this,nC];rfl
  ·rename_i w0 h0 x y e
   have od:=ok.d
   rw[e]at od
   obtain⟨_,_,_,_,x0,x1,y0,y1⟩:=od
   cases h
   by_cases hb:(1<=w/\w<=16)/\(1<=g/\g<=16)
   ·rw[if_pos hb];exact tr ⟨ok.n1,ok.n8,ok.na,ok.x0,ok.x1,ok.y0,ok.y1,⟨hb.1.1,hb.1.2,hb.2.1,hb.2.2,x0,x1,y0,y1⟩⟩ rfl rfl (by rw[e];rfl)
   ·rw[if_neg hb]
    refine⟨?_,fun q z=>(nomatch z),rfl⟩
    obtain⟨lf,ef⟩:=Uh (w:=w) (h:=g) x0 x1 y0 y1
    obtain⟨ls,e⟩:=V3 (r:={ r with d:=.window w g x y }) ok.nm hh ef
    refine⟨ls,e.trans ?_⟩
    have:(decide (1<=w/\w<=16)&&decide (1<=g/\g<=16))=false:=by
     rw[lL]
     intro z
     rw[Y']at z
     exact hb ⟨of_decide_eq_true z.1,of_decide_eq_true z.2⟩
    rw[this,nC];rfl
  ·cases h
 |ch n d =>
  obtain⟨od,hk⟩:=hd
  cases h
  by_cases e:kz d=kz r.d
  ·rw[if_pos e,<- e]
   exact tr (r':={ r with d:=d }) ⟨ok.n1,ok.n8,ok.na,ok.x0,ok.x1,ok.y0,ok.y1,od⟩ rfl rfl e
  ·rw[if_neg e]
   have e0:=(hk r hr hn.symm).resolve_left e
   cases d with
   |plate w g a b =>
    obtain⟨w0,w1,g0,g1,oa,ob⟩:=od
    dsimp only
    by_cases h1:kz r.d=1
    ·rw[if_pos h1,h1]
     exact tr (r':={ r with d:=.band w g a b }) ⟨ok.n1,ok.n8,ok.na,ok.x0,ok.x1,ok.y0,ok.y1,⟨by omega,w1,by omega,g1,oa,ob⟩⟩ rfl rfl h1.symm
    ·rw[if_neg h1]
     refine⟨?_,fun q z=>(nomatch z),rfl⟩
     obtain⟨lf,ef⟩:=VT (Cc r.d) (fun z=>e z.symm) h1 (w:=w) (h:=g) oa ob
     obtain⟨ls,e⟩:=V4 (x:=r.x) (y:=r.y) (s:=r.s) ok.nm hh (Cc r.d) ef
     exact⟨ls,e.trans (by rw[nC];rfl)⟩
   |_=>cases e0
def rX(τ:DS):PyData ⊕ Nat->FG
 |.inl d=>.inl (.rt d τ)
 |.inr n=>.inr n
def xrc{G:List PyData->Option (PyData ⊕ Nat)}{a:DA}{τ t4:DS}{rs:List Ar}{ds:List PyData}{v:PyData ⊕ Nat}(h:a τ=some (rs,t4))(k:A1 rs=some ds)(g:G ds=some v):Hv G a τ=some (rX t4 v):=by
 unfold Hv
 rw[h,k6]
 show((A1 rs).bind _)=_
 rw[k,k6,g]
 cases v<;>rfl
def Zr{i:Nat}{G:List PyData->Option (PyData ⊕ Nat)}{a:DA}{τ t4 t7:DS}{rs:List Ar}{ds:List PyData}{d:PyData}(h:a τ=some (rs,t4))(k:A1 rs=some ds)(g:G ds=some (.inl d))(e:dN i d t4=some t7):Jv i G a τ=some (.inl (.nx t7)):=by
 unfold Jv
 rw[h,k6]
 show((A1 rs).bind _)=_
 rw[k,k6,g,k6]
 show(dN i d t4).map _=_
 rw[e];rfl
def Zs{i:Nat}{G:List PyData->Option (PyData ⊕ Nat)}{a:DA}{τ t4:DS}{rs:List Ar}{ds:List PyData}{n:Nat}(h:a τ=some (rs,t4))(k:A1 rs=some ds)(g:G ds=some (.inr n)):Jv i G a τ=some (.inr n):=by
 unfold Jv
 rw[h,k6]
 show((A1 rs).bind _)=_
 rw[k,k6,g];rfl
def nX(τ:DS):PyData ⊕ Nat->FG
 |.inl _=>.inl (.nx τ)
 |.inr n=>.inr n
def dcx{G:List PyData->Option (PyData ⊕ Nat)}{a:DA}{τ t4:DS}{rs:List Ar}{ds:List PyData}{v:PyData ⊕ Nat}(h:a τ=some (rs,t4))(k:A1 rs=some ds)(g:G ds=some v):Fb G a τ=some (nX t4 v):=by
 unfold Fb
 rw[h,k6]
 show((A1 rs).bind _)=_
 rw[k,k6,g]
 cases v<;>rfl
def R7{a b:DBX}{τ t4:DS}(h:a τ=some (.inl (.nx t4))):A4 a b τ=b t4:=by
 unfold A4
 rw[h];rfl
def R8{a b:DBX}{τ:DS}{n:Nat}(h:a τ=some (.inr n)):A4 a b τ=some (.inr n):=by
 unfold A4
 rw[h];rfl
def UZ{a b:DBX}{τ t4:DS}{v:PyData ⊕ Nat}(h:a τ=some (rX t4 v)):A4 a b τ=some (rX t4 v):=by
 unfold A4
 rw[h]
 cases v<;>rfl
def ZF{c:DT}{a b:DBX}{τ t5:DS}(h:c τ=some (true,t5)):xIf c a b τ=a t5:=by
 unfold xIf
 rw[h];rfl
def YM{τ:DS}(v:PyData ⊕ Nat):enX (rX τ v)=some v:=by cases v<;>rfl
def kq{i j:Nat}(hi:i<10)(hj:j<10):fEq (eT (kS i)) (eT (kS j))=some (.bool (decide (i=j))):=by
 rw[JL];exact congrArg (fun b=>some (PyData.bool b)) (decide_eq_decide.mpr ⟨D1 hi hj,fun z=>by rw[z]⟩)
def knq{i j:Nat}(hi:i<10)(hj:j<10):fNe (eT (kS i)) (eT (kS j))=some (.bool (!decide (i=j))):=by
 rw[Ku];exact congrArg (fun b=>some (PyData.bool (!b))) (decide_eq_decide.mpr ⟨D1 hi hj,fun z=>by rw[z]⟩)
def wq{i j:Nat}(hi:i<10)(hj:j<10):fEq (eT (wS i)) (eT (wS j))=some (.bool (decide (i=j))):=by
 rw[JL];exact congrArg (fun b=>some (PyData.bool b)) (decide_eq_decide.mpr ⟨Gk hi hj,fun z=>by rw[z]⟩)
def LB(d:Dz):kz d=7↔∃q f,d = .turn q f:=by cases d<;>simp[kz]
def gU(t:Tx)(ts:List Tx):fIn true (eT t) (.tuple (ts.map eT))=some (.bool (!decide (t∈ts))):=YB t ts
def Za{i:Nat}(hi:i<10):fIn true (eT (kS i)) (.tuple [eT (kS 0),eT (kS 6)])=some (.bool (!decide (i=0\/i=6))):=by
 refine(gU (kS i) [kS 0,kS 6]).trans (congrArg (fun b=>some (PyData.bool (!b))) (decide_eq_decide.mpr ?_))
 rw[kY,ki]
 exact⟨fun z=>z.imp (D1 hi (by decide)) (D1 hi (by decide)),fun z=>z.imp (fun e=>by rw[e]) fun e=>by rw[e]⟩
def Ur(r:Rz)(k:Int):EZ [eZ r,.int k]=some (match r.d with|.turn q f=>.inl (eZ { r with d:=.turn ((q+k) % 4) f })|_=>.inr 7):=by
 let t9:DS:=[some (.d (eZ r)),some (.d (.int k)),none]
 have c:AD (dOp fNe (AB BM qF) Qe) t9=some (!decide (kz r.d=7),t9):=tst (oQ (eT (kS (kz r.d))) (eT (kS 7)) t9 rfl rfl (knq (Cc _) (by decide)))
 unfold EZ
 by_cases h:kz r.d=7
 ·obtain⟨q,f,e⟩:=(LB r.d).mp h
  rw[decide_eq_true h]at c
  obtain⟨n,hh,x,y,s,d⟩:=r
  dsimp only at e
  subst e
  exact DH (o:=.inl (.rt _ _)) ((Hk (t5:=t9) c).trans rfl) rfl rfl
 ·rw[decide_eq_false h]at c
  refine(DH (MM (t5:=t9) c) rfl rfl).trans ?_
  split
  ·rename_i q f e
   exact absurd ((LB r.d).mpr ⟨q,f,e⟩) h
  ·rfl
def XI(r:Rz)(w g:Int):FJ [eZ r,.int w,.int g]=some (match r.d with|.plate _ _ a b=>.inl (eZ { r with d:=.plate w g a b })|.window _ _ x y=>.inl (eZ { r with d:=.window w g x y })|_=>.inr 7):=by
 let t9:DS:=[some (.d (eZ r)),some (.d (.int w)),some (.d (.int g))]
 have c:AD (dOp (fIn true) (AB BM qF) QU) t9=some (!decide (kz r.d=0\/kz r.d=6),t9):=tst (oQ (eT (kS (kz r.d))) (.tuple [eT (kS 0),eT (kS 6)]) t9 rfl rfl (Za (Cc _)))
 obtain⟨n,hh,x,y,s,d⟩:=r
 unfold FJ
 cases d with
 |plate w0 h0 a b=>exact DH (o:=.inl (.rt _ _)) ((Hk (t5:=t9) c).trans rfl) rfl rfl
 |window w0 h0 a b=>exact DH (o:=.inl (.rt _ _)) ((Hk (t5:=t9) c).trans rfl) rfl rfl
 |_=>exact DH (MM (t5:=t9) c) rfl rfl
def ouC:Option (PyData×Option Rz)->PyData ⊕ Nat
 |some p=>.inl p.1
 |none=>.inr 7
def bc{rs:List Rz}(r:Rz){d:De}(hd:Hu rs d)(h4:4<=wdD d):GB [eZ r,eDe d]=some (ouC (chX r d)):=by
 have h9:wdD d<10:=by cases d with
  |nm i n=>show i<10;rcases hd with h|h|h|h|h<;>omega
  |put _=>show 0<10;decide
  |mv _ _ _=>show 4<10;decide
  |tn _ _=>show 5<10;decide
  |sz _ _ _=>show 6<10;decide
  |ch _ _=>show 7<10;decide
 let t9:DS:=[some (.d (eZ r)),some (.d (eDe d)),none]
 let τ:DS:=[some (.d (eZ r)),some (.d (eDe d)),some (.d (eT (wS (wdD d))))]
 have z0:AI qS QH t9=some (.nx τ):=by cases d<;>rfl
 have sk:∀j,j<10->wdD d≠j->∀(a:DB) (r:DBX),A4 (xOf (AO (AD (dOp fEq qI (dC (eT (wS j))))) a AQ)) r τ=r τ:=fun j hj hn a r=>Dr (skw (v:=2) h9 hj hn rfl)
 have sx:∀j,j<10->wdD d≠j->∀(a:DBX) (r:DBX),A4 (xIf (AD (dOp fEq qI (dC (eT (wS j))))) a QM) r τ=r τ:=fun j hj hn a r=>Hk (t5:=τ) (tst (oQ (eT (wS (wdD d))) (eT (wS j)) τ rfl rfl ((wq h9 hj).trans (by rw[decide_eq_false hn]))))
 have tx:∀j,wdD d=j->∀(a b:DBX),xIf (AD (dOp fEq qI (dC (eT (wS j))))) a b τ=a τ:=fun j e a b=>ZF (t5:=τ) (tst (oQ (eT (wS (wdD d))) (eT (wS j)) τ rfl rfl (by rw[<- e,wq h9 h9,decide_eq_true rfl])))
 unfold GB
 cases d with
 |put q=>exact absurd h4 (show ¬4<=0 by decide)
 |mv n x y=>exact DH (o:=.inl (.rt (eZ { r with x:=x,y:=y }) τ)) ((Dr z0).trans ((R9 (t5:=τ) ((tkw (v:=2) (i:=4) rfl).trans rfl)))) rfl rfl
 |tn n k =>
  refine(DH ((Dr z0).trans ((sk 4 (by decide) (show 5≠4 by decide) _ _).trans (UZ ((tx 5 rfl _ _).trans (xrc (t4:=τ) (rs:=[.d (eZ r),.d (.int k)]) (ds:=[eZ r,.int k]) rfl rfl (Ur r k)))))) rfl (YM _)).trans ?_
  dsimp only[chX]
  cases r.d<;>rfl
 |sz n w g =>
  refine(DH ((Dr z0).trans ((sk 4 (by decide) (show 6≠4 by decide) _ _).trans ((sx 5 (by decide) (show 6≠5 by decide) _ _).trans (UZ ((tx 6 rfl _ _).trans (xrc (t4:=τ) (rs:=[.d (eZ r),.d (.int w),.d (.int g)]) (ds:=[eZ r,.int w,.int g]) rfl rfl (XI r w g))))))) rfl (YM _)).trans ?_
  dsimp only[chX]
  cases r.d<;>rfl
 |ch n c=>exact DH (o:=.inl (.rt (eX r.n r.h r.x r.y r.s (kz r.d) (eD c)) τ)) ((Dr z0).trans ((sk 4 (by decide) (show 7≠4 by decide) _ _).trans ((sx 5 (by decide) (show 7≠5 by decide) _ _).trans ((sx 6 (by decide) (show 7≠6 by decide) _ _).trans (R9 (t5:=τ) ((tkw (v:=2) (i:=7) rfl).trans rfl)))))) rfl rfl
 |nm i n =>
  have hi:i=8\/i=9:=by have:4<=i:=h4;rcases hd with h|h|h|h|h<;>omega
  refine DH (o:=.inl (.rt (eZ { r with s:=decide (i=9) }) τ)) ((Dr z0).trans ((sk 4 (by decide) (by show i≠4;omega) _ _).trans ((sx 5 (by decide) (by show i≠5;omega) _ _).trans ((sx 6 (by decide) (by show i≠6;omega) _ _).trans ((sk 7 (by decide) (by show i≠7;omega) _ _).trans ?_))))) rfl rfl
  have cs:dOp fEq qI (dC (.str "show")) τ=some (.bool (decide (i=9)),τ):=oQ (eT (wS i)) (eT (wS 9)) τ rfl rfl (wq h9 (by decide))
  unfold xOf
  rw[AX (AW (G:=Dv) (t4:=τ) (rs:=[.d (eZ r),.d (.bool (decide (i=9)))]) (ds:=[eZ r,.bool (decide (i=9))]) (ls:=[.d (eZ r),.d (.bool (decide (i=9)))]) (r:=eZ { r with s:=decide (i=9) }) (acc (t4:=τ) rfl (acc cs rfl)) rfl rfl)];rfl
def res(rs:List Rz)(d:De):List Rz ⊕ Nat:=match d with
 |.put r=>match stp rs r with
  |some n=>.inr n
  |none=>if rs.length<24 then .inl (rs++[r]) else .inr 5
 |d=>match Ac rs (nmD d) with
  |none=>.inr 6
  |some r=>match wdD d with
   |1=>.inl (woZ rs (nmD d))
   |2=>.inl (Gh rs (nmD d))
   |3=>.inl (Hm rs (nmD d) r.h)
   |_=>match chX r d with
    |none=>.inr 7
    |some (_,none)=>.inr 0
    |some (_,some r')=>.inl (Hl rs (nmD d) r')
def bb:List Rz ⊕ Nat->PyData ⊕ Nat
 |.inl l=>.inl (.list (l.map eZ))
 |.inr n=>.inr n
def Z2{rs:List Rz}(hl:rs.length<=30){n:Tx}{X W:PyData}{c:Rz}(hX:X=eZ c)(hW:AN W (.int 1)=some (eT n)):dLC 1 [2,1] Qa QY B0 (dIf (AD (dOp fEq (AB Ab qF) (dOp AN qI qH))) qE qB) [some (.d (.list (rs.map eZ))),some (.d W),some (.d X)]=some (.list ((Hl rs n c).map eZ),[some (.d (.list (rs.map eZ))),some (.d W),some (.d X)]):=by
 subst hX
 let τ:DS:=[some (.d (.list (rs.map eZ))),some (.d W),some (.d (eZ c))]
 have := lcg (enc := eZ) (rs := rs) (τ := τ) (fr := [2, 1]) (it := Qa) (ex := [some (.d (eZ c)), some (.d W)]) (c := B0) (e := dIf (AD (dOp fEq (AB Ab qF) (dOp AN qI qH))) qE qB) (fun _ => true) (fun q => eZ (if q.n = n then c else q)) rfl (by omega) rfl rfl (fun _ _ => rfl) (fun q _ _ => by
  let t:DS:=[some (.d (eZ q)),some (.d (eZ c)),some (.d W)]
  have c:AD (dOp fEq (AB Ab qF) (dOp AN qI qH)) t=some (decide (q.n=n),t):=tst (oQ (eT q.n) (eT n) t (AW (t4:=t) (ds:=[eZ q]) rfl rfl (EM q)) (oQ W (.int 1) t rfl rfl hW) (JL _ _))
  show dIf _ qE qB t=_
  unfold dIf
  rw[c]
  by_cases h:q.n=n
  ·rw[decide_eq_true h,if_pos h];rfl
  ·rw[decide_eq_false h,if_neg h];rfl)
 refine this.trans ?_
 rw[Cu]
 unfold Hl
 rw[lx];rfl
def WK{d:De}(h:1<=wdD d):AN (eDe d) (.int 1)=some (eT (nmD d)):=by
 cases d with
 |put r=>exact absurd h (show ¬1<=0 by decide)
 |_=>exact dd1
def LA{rs:List Rz}{d:De}(hd:Hu rs d):wdD d<10:=by
 cases d with
 |nm i n=>show i<10;rcases hd with h|h|h|h|h<;>omega
 |put _=>show 0<10;decide
 |mv _ _ _=>show 4<10;decide
 |tn _ _=>show 5<10;decide
 |sz _ _ _=>show 6<10;decide
 |ch _ _=>show 7<10;decide
def UI{rs:List Rz}{d:De}(hd:Hu rs d):AN (eDe d) (.int 0)=some (eT (wS (wdD d))):=by
 cases d<;>first|exact dd0|rfl
def chR(rs:List Rz)(n:Tx):Option (PyData×Option Rz)->PyData ⊕ Nat
 |none=>.inr 7
 |some (_,none)=>.inr 0
 |some (_,some r')=>.inl (.list ((Hl rs n r').map eZ))
def dA(rs:List Rz)(n:Tx):∀o,chR rs n o≠.inl .none
 |none=>fun h=>by cases h
 |some (_,none)=>fun h=>by cases h
 |some (_,some _)=>fun h=>by cases h
def S6:∀o,bb o≠.inl .none
 |.inl _=>fun h=>by cases h
 |.inr _=>fun h=>by cases h
def Zh(l:List Rz):fixDs (l.map eZ)=true:=by
 induction l with
 |nil=>rfl
 |cons a l ih =>
  show(Cs (eZ a)&&fixDs (l.map eZ))=true
  rw[encZ.fix,ih];rfl
def oXG(i:Nat)(xs:List PyData)(t4:DS):PyData ⊕ Nat->FG
 |.inl _=>.inl (.nx (t4.set i (some (.g (.list xs)))))
 |.inr n=>.inr n
def kI{i:Nat}{G:List PyData->Option (PyData ⊕ Nat)}{a:DA}{τ t4:DS}{xs:List PyData}{rs:List Ar}{ds:List PyData}{v:PyData ⊕ Nat}(hi:τ[i]?=some (some (.g (.list xs))))(h:a (τ.set i (some (.d (.list xs))))=some (rs,t4))(k:A1 rs=some ds)(ok:t4.all okM=true)(g:G ds=some v):Hi i G a τ=some (oXG i xs t4 v):=by
 unfold Hi
 rw[hi]
 dsimp only
 rw[h]
 dsimp only[Option.bind_some]
 rw[k]
 dsimp only[Option.bind_some]
 rw[if_pos ok,g]
 cases v<;>rfl
def UM{rs:List Rz}(I:Iv rs){r:Rz}{d:De}(hr:r∈rs)(hn:nmD d=r.n)(hd:Hu rs d)(h4:4<=wdD d)(hh:r.h=t0\/OkN r.h):DW [.list (rs.map eZ),eDe d]=some (chR rs r.n (chX r d)):=by
 have okr:=OkR.all I.ok r (K'.mpr hr)
 let D:PyData:=.list (rs.map eZ)
 let W:=eDe d
 obtain⟨l1,e1⟩:=HZ I.ok hr
 have e2:=bc r hd h4
 have w1:AN W (.int 1)=some (eT r.n):=by rw[<- hn];exact WK (by omega)
 let t0':DS:=[some (.d D),some (.d W),none]
 have a1:j5 t0'=some (eT r.n,t0'):=oQ W (.int 1) t0' rfl rfl w1
 have aa:AA (AB Cf qC) qA t0'=some ([.d (eZ r),.d W],t0'):=acc (t4:=t0') (cQ t0' [D,eT r.n] (acc (t4:=t0') rfl (acc a1 rfl)) rfl e1) rfl
 unfold DW
 refine ON ?_ (dA _ _ _)
 cases hc:chX r d with
 |none =>
  rw[hc]at e2
  exact DH (R8 (Zs aa (ds:=[eZ r,W]) rfl e2)) rfl rfl
 |some p =>
  obtain⟨X,v⟩:=p
  have ck:=Ry hr okr hh hd hn hc
  rw[hc]at e2
  let τ:DS:=[some (.d D),some (.d W),some (.d X)]
  obtain⟨l3,e3⟩:=ck.row
  have c2:=DN (tst (AW (G:=BB) (a:=qZ) (τ:=τ) (t4:=τ) (rs:=[.d X]) (ds:=[X]) rfl rfl e3))
  have z1:=Zr (i:=2) (t7:=τ) aa (ds:=[eZ r,W]) rfl e2 rfl
  cases v with
  |none=>exact DH ((R7 z1).trans (MM (t5:=τ) c2)) rfl rfl
  |some r' =>
   obtain⟨hX,_⟩:=ck.val r' rfl
   refine DH (o:=.inl (.rt (.list ((Hl rs r.n r').map eZ)) τ)) ((R7 z1).trans ((Hk (t5:=τ) c2).trans ?_)) rfl rfl
   unfold xOf
   rw[AX (Z2 (by have:=I.ln;omega) hX w1)];rfl
def ff{rs:List Rz}(I:Iv rs){r:Rz}(okl:OkL r):Eu [.list (rs.map eZ),eZ r]=some (bb (res rs (.put r))):=by
 have hl:=I.ln
 let D:PyData:=.list (rs.map eZ)
 let B:PyData:=.list ((rs++[r]).map eZ)
 have hall:∀q∈rs++[r],OkL q:=fun q hq=>by
  rcases kc.mp hq with h|h
  ·refine OkL.of (OkR.all I.ok q (K'.mpr h)) ?_
   rcases PL I.ok h with z|⟨p,hp,z⟩
   ·exact .inl z
   ·exact .inr (by rw[<- z];exact(OkR.all I.ok p (K'.mpr hp)).nm)
  ·rw[ki.mp h];exact okl
 have ev:=fH hall (by rw[T'];show rs.length+1<=40;omega)
 have ga:ZC (rs++[r])=match stp rs r with|some n=>some n|none=>if rs.length<24 then none else some 5:=by
  unfold ZC
  rw[Sx,WC rs [] rfl I.ok I.vt]
  dsimp only
  rw[lj,goF]
  cases stp rs r with
  |some n=>rfl
  |none =>
   show(match (none:Option Nat) with|some n=>some n|none=>_)=_
   dsimp only
   rw[T']
   by_cases h:rs.length<24
   ·rw[if_pos h,if_neg (by show ¬24<rs.length+1;omega)]
   ·rw[if_neg h,if_pos (by show 24<rs.length+1;omega)]
 let t0':DS:=[some (.d D),some (.d (eZ r)),none]
 let τ:DS:=[some (.d D),some (.d (eZ r)),some (.g B)]
 have z1:F5 2 2 (dFx Qh) t0'=some (.nx τ):=by
  have e:Qh t0'=some (B,t0'):=oQ D (.list [eZ r]) t0' rfl rfl ((MD (by rw[B'];show rs.length+1<=1000;omega)).trans (by rw[<- List.map_singleton,<- lD]))
  unfold F5 dFx
  rw[e]
  show((if fixDs ((rs++[r]).map eZ)=true then some (B,t0') else none:Option (PyData×DS)).bind _)=_
  rw[if_pos (Zh _)];rfl
 have z2:=kI (i:=2) (G:=Ja) (a:=qZ) (τ:=τ) (t4:=[some (.d D),some (.d (eZ r)),some (.d B)]) (rs:=[.d B]) (ds:=[B]) rfl rfl rfl rfl ev
 unfold Eu
 refine ON ?_ (S6 _)
 unfold res
 dsimp only
 rw[ga]at z2
 cases hs:stp rs r with
 |some n =>
  rw[hs]at z2
  exact DH ((Dr z1).trans (R8 z2)) rfl rfl
 |none =>
  rw[hs]at z2
  dsimp only at z2 ⊢
  by_cases h:rs.length<24
  ·rw[if_pos h]at z2 ⊢
   exact DH (o:=.inl (.rt B τ)) ((Dr z1).trans ((R7 z2).trans rfl)) rfl rfl
  ·rw[if_neg h]at z2 ⊢
   exact DH ((Dr z1).trans (R8 z2)) rfl rfl
def WN{rs:List Rz}(I:Iv rs){d:De}(hd:Hu rs d):BJ [.list (rs.map eZ),eDe d]=some (bb (res rs d)):=by
 unfold BJ
 refine ON ?_ (S6 _)
 have hl:=I.ln
 have hlt:=LA hd
 let D:PyData:=.list (rs.map eZ)
 let W:=eDe d
 let t0':DS:=[some (.d D),some (.d W),none]
 let τ:DS:=[some (.d D),some (.d W),some (.d (eT (wS (wdD d))))]
 have z0:AI qS QH t0'=some (.nx τ):=AU (d:=eT (wS (wdD d))) (t4:=t0') (oQ W (.int 0) t0' rfl rfl (UI hd)) rfl
 have sk:∀j,j<10->wdD d≠j->∀(a:DB) (r:DBX),A4 (xOf (AO (AD (dOp fEq qI (dC (eT (wS j))))) a AQ)) r τ=r τ:=fun j hj hn a r=>Dr (skw (v:=2) hlt hj hn rfl)
 have tk:∀j,wdD d=j->∀{a:DB} {r:DBX} {X:PyData},a τ=some (.rt X τ)->A4 (xOf (AO (AD (dOp fEq qI (dC (eT (wS j))))) a AQ)) r τ=some (.inl (.rt X τ)):=fun j e {a r X} ha=>R9 ((tkw (v:=2) (i:=j) (by rw[<- e];rfl)).trans ha)
 have cq:∀j,j<10->AD (dOp fEq qI (dC (eT (wS j)))) τ=some (decide (wdD d=j),τ):=fun j hj=>tst (oQ (eT (wS (wdD d))) (eT (wS j)) τ rfl rfl (wq hlt hj))
 by_cases hp:wdD d=0
 ·cases d with
  |put r =>
   refine DH ((Dr z0).trans (UZ ((ZF (t5:=τ) (cq 0 (by decide))).trans (xrc (t4:=τ) (rs:=[.d D,.d (eZ r)]) (ds:=[D,eZ r]) rfl rfl (ff I hd))))) rfl (YM _)
  |nm i n=>rcases hd with h|h|h|h|h<;>(rw[show wdD (.nm i n)=i from rfl]at hp;omega)
  |mv _ _ _=>exact absurd hp (show 4≠0 by decide)
  |tn _ _=>exact absurd hp (show 5≠0 by decide)
  |sz _ _ _=>exact absurd hp (show 6≠0 by decide)
  |ch _ _=>exact absurd hp (show 7≠0 by decide)
 have w1:AN W (.int 1)=some (eT (nmD d)):=WK (by omega)
 have a1:qC τ=some ([.d D,.d (eT (nmD d))],τ):=acc (t4:=τ) rfl (acc (oQ W (.int 1) τ rfl rfl w1) rfl)
 have c0:=cq 0 (by decide)
 rw[decide_eq_false hp]at c0
 have z1:=dcx (G:=Dy) a1 (ds:=[D,eT (nmD d)]) rfl (Oo (rs:=rs) (nmD d))
 have hres:res rs d=match Ac rs (nmD d) with
  |none=>.inr 6
  |some r=>match wdD d with
   |1=>.inl (woZ rs (nmD d))
   |2=>.inl (Gh rs (nmD d))
   |3=>.inl (Hm rs (nmD d) r.h)
   |_=>match chX r d with
    |none=>.inr 7
    |some (_,none)=>.inr 0
    |some (_,some r')=>.inl (Hl rs (nmD d) r'):=by
  cases d with
  |put r=>exact absurd rfl hp
  |_=>rfl
 rw[hres]
 cases hf:Ac rs (nmD d) with
 |none =>
  rw[hf]at z1
  exact DH ((Dr z0).trans ((Hk (t5:=τ) c0).trans (R8 z1))) rfl rfl
 |some r =>
  rw[hf]at z1
  obtain⟨hr,hn⟩:=FP hf
  have pre:∀{Aw:DBX} {o:FG} {v:PyData ⊕ Nat},Aw τ=some o->enX o=some v->C7 2 1 (A4 (xOf (AI qS QH)) (A4 (xIf (AD (dOp fEq qI (dC (.str "put")))) (Hv Eu qC) QM) (A4 (Fb Dy qC) Aw))) [D,W]=some v:=fun {Aw o v} k kv=>DH ((Dr z0).trans ((Hk (t5:=τ) c0).trans ((R7 z1).trans k))) rfl kv
  have hl':rs.length<=30:=by omega
  have hh:r.h=t0\/OkN r.h:=(PL I.ok hr).imp id fun⟨p,hp,z⟩=>by rw[<- z];exact(OkR.all I.ok p (K'.mpr hp)).nm
  by_cases h1:wdD d=1
  ·rw[h1]
   obtain⟨l,e⟩:=IA I.ok hl' (nmD d)
   exact pre (tk 1 h1 (AX (AW a1 (ds:=[D,eT (nmD d)]) rfl e))) rfl
  by_cases h2:wdD d=2
  ·rw[h2]
   obtain⟨l,e⟩:=Tc I.ok hl' (nmD d)
   exact pre ((sk 1 (by decide) h1 _ _).trans (tk 2 h2 (AX (AW a1 (ds:=[D,eT (nmD d)]) rfl e)))) rfl
  by_cases h3:wdD d=3
  ·rw[h3]
   obtain⟨l,e⟩:=XB I.ok hl' hr
   rw[hn]at e
   exact pre ((sk 1 (by decide) h1 _ _).trans ((sk 2 (by decide) h2 _ _).trans (tk 3 h3 (AX (AW a1 (ds:=[D,eT (nmD d)]) rfl e))))) rfl
  have e:=UM I hr hn.symm hd (by omega) hh
  refine(pre ((sk 1 (by decide) h1 _ _).trans ((sk 2 (by decide) h2 _ _).trans ((sk 3 (by decide) h3 _ _).trans (xrc (t4:=τ) (rs:=[.d D,.d W]) (ds:=[D,W]) rfl rfl e)))) (YM _)).trans ?_
  have:∀(k:Nat) (A B C E:List Rz ⊕ Nat),k≠1->k≠2->k≠3->(match k with|1=>A|2=>B|3=>C|_=>E)=E:=fun k A B C E h1 h2 h3=>by
   match k,h1,h2,h3 with
   |0,_,_,_=>rfl
   |1,h,_,_=>exact absurd rfl h
   |2,_,h,_=>exact absurd rfl h
   |3,_,_,h=>exact absurd rfl h
   |k+4,_,_,_=>rfl
  dsimp only
  rw[this _ _ _ _ _ h1 h2 h3,hn]
  cases chX r d with
  |none=>rfl
  |some p=>obtain⟨X,v⟩:=p;cases v<;>rfl
def Mg:List Rz ⊕ Nat->PyData
 |.inl l=>.tuple [.str "",.list (l.map eZ)]
 |.inr n=>.tuple [.str (whS n),.none]
def Eh(rs:List Rz)(a:Tx):∃ls,Aj [.d (.list (rs.map eZ)),.d (eT a)]=some (oZ (Ac rs a),ls):=by
 let R:Option L:=some (.d (.list (rs.map eZ)))
 let A:Option L:=some (.d (eT a))
 let B:DB:=AO (AD (dOp fEq (dOp AN (AJ 2) (dC (.int 0))) (AJ 1))) (AM (AJ 2)) AQ
 have tt:∀r:Rz,AD (dOp fEq (dOp AN (AJ 2) (dC (.int 0))) (AJ 1)) [R,A,some (.d (eZ r))]=some (decide (r.n=a),[R,A,some (.d (eZ r))]):=fun r =>
  tst (oQ (eT r.n) (eT a) [R,A,some (.d (eZ r))] rfl rfl (JL _ _))
 have lp:∀(xs:List Rz) (o:Option L),nM o->(∀r,Ac xs a=some r->BC (dN 2) B (xs.map eZ) [R,A,o]=some (.rt (eZ r) [R,A,some (.d (eZ r))]))/\(Ac xs a=none->∃o',BC (dN 2) B (xs.map eZ) [R,A,o]=some (.nx [R,A,o'])):=by
  intro xs
  induction xs with
  |nil=>exact fun o ho=>⟨fun r h=>(by cases h),fun _=>⟨o,rfl⟩⟩
  |cons x xs ih =>
   intro o ho
   have e0:dN 2 (eZ x) [R,A,o]=some [R,A,some (.d (eZ x))]:=Cv (o:=o) rfl ho
   have un:BC (dN 2) B ((x::xs).map eZ) [R,A,o]=(B [R,A,some (.d (eZ x))]).bind fun o=>match o with
     |.nx t7=>BC (dN 2) B (xs.map eZ) t7
     |.ct t7=>BC (dN 2) B (xs.map eZ) t7
     |.bk t7=>some (.nx t7)
     |.rt d t7=>some (.rt d t7):=by
    rw[kg,BC,e0];rfl
   by_cases h:x.n=a
   ·have eb:B [R,A,some (.d (eZ x))]=some (.rt (eZ x) [R,A,some (.d (eZ x))]):=(A3 (t4:=[R,A,some (.d (eZ x))]) (by rw[tt,decide_eq_true h])).trans rfl
    have ef:Ac (x::xs) a=some x:=by unfold Ac;rw[lh,decide_eq_true h]
    refine⟨fun r hr=>?_,fun hn=>?_⟩
    ·rw[ef]at hr;cases hr
     rw[un,eb];rfl
    ·rw[ef]at hn;cases hn
   ·have eb:B [R,A,some (.d (eZ x))]=some (.nx [R,A,some (.d (eZ x))]):=(Ae (t4:=[R,A,some (.d (eZ x))]) (by rw[tt,decide_eq_false h])).trans rfl
    have ef:Ac (x::xs) a=Ac xs a:=by unfold Ac;rw[lh,decide_eq_false h]
    obtain⟨i1,i2⟩:=ih (some (.d (eZ x))) DQ
    rw[un,eb,ef]
    exact⟨i1,i2⟩
 obtain⟨l1,l2⟩:=lp rs none BI
 refine⟨[.d (.list (rs.map eZ)),.d (eT a)],?_⟩
 unfold Aj
 cases h:Ac rs a with
 |some r=>exact AL (τ:=[R,A,some (.d (eZ r))]) (As ((Cw (ds:=rs.map eZ) (t4:=[R,A,none]) rfl).trans (l1 r h))) rfl rfl
 |none =>
  obtain⟨o',e⟩:=l2 h
  exact AL (τ:=[R,A,o']) ((AE ((Cw (ds:=rs.map eZ) (t4:=[R,A,none]) rfl).trans e)).trans rfl) rfl rfl
def wX(rs:List Rz)(n:Tx):Option Rz->List Rz ⊕ Nat
 |some r'=>.inl (Hl rs n r')
 |none=>.inr 0
def Zx{rs:List Rz}(hl:rs.length<=30){r:Rz}{X:PyData}{v:Option Rz}(ck:fA r X v):∃ls,Df [.d (.list (rs.map eZ)),.d X]=some (Mg (wX rs r.n v),ls):=by
 obtain⟨l3,e3⟩:=ck.row
 let τ:DS:=[some (.d (.list (rs.map eZ))),some (.d X)]
 have c:=DN (tst (AW (G:=BB) (a:=qA) (τ:=τ) (t4:=τ) (rs:=[.d X]) (ds:=[X]) rfl rfl e3))
 refine⟨[.d (.list (rs.map eZ)),.d X],?_⟩
 unfold Df
 cases v with
 |none=>exact AL (τ:=τ) (As ((A3 (t4:=τ) c).trans rfl)) rfl rfl
 |some r' =>
  obtain⟨hX,_,hn,_⟩:=ck.val r' rfl
  refine AL (τ:=τ) ((AE (t4:=τ) ((Ae (t4:=τ) c).trans rfl)).trans (AX ?_)) rfl rfl
  have := lcg (enc := eZ) (rs := rs) (τ := τ) (fr := [1]) (it := Qa) (ex := [some (.d X)]) (c := B0) (e := dOp DR (Cy qe) (Ak Ds (AA (dOp fEq qc qS) AF))) (fun _ => true) (fun q => eZ (if q.n = r.n then r' else q)) rfl (by omega) rfl rfl (fun _ _ => rfl) (fun q _ _ => by
   let t:DS:=[some (.d (eZ q)),some (.d X)]
   have e1:dOp fEq qc qS t=some (.bool (decide (q.n=r.n)),t):=oQ (eT q.n) (eT r.n) t rfl (oQ X (.int 0) t rfl rfl ck.nam) (JL _ _)
   by_cases h:q.n=r.n
   ·rw[decide_eq_true h]at e1
    rw[if_pos h]
    exact oQ (.list [eZ q,X]) (.int 1) t rfl (E8 e1 rfl) (by rw[hX];rfl)
   ·rw[decide_eq_false h]at e1
    rw[if_neg h]
    exact oQ (.list [eZ q,X]) (.int 0) t rfl (E8 e1 rfl) rfl)
  have h2:Q8 τ=some (.list ((Hl rs r.n r').map eZ),τ):=by
   refine this.trans ?_
   rw[Cu]
   unfold Hl
   rw[lx];rfl
  exact Gm (rs:=[.d (.str ""),.d (.list ((Hl rs r.n r').map eZ))]) (acc (t4:=τ) rfl (acc h2 rfl)) rfl (show 2<=1000 by decide)
def W8{rs:List Rz}(ok:OkZ rs)(h:Tx):tls rs h=!(rs.filter fun q=>decide (q.n∈hsR rs.reverse h)&&decide (kz q.d=8)).isEmpty:=by
 rw[Bool.eq_iff_iff,Bool.not_eq_true',List.isEmpty_eq_false_iff_exists_mem]
 unfold tls
 rw[nK]
 constructor
 ·rintro⟨t,ht,z⟩
  obtain⟨p,hp,rfl⟩:=EA ht
  have hp':=K'.mp hp
  rw[CU ok hp']at z
  exact⟨p,lB.mpr ⟨hp',by rw[decide_eq_true ht];exact z⟩⟩
 ·rintro⟨q,hq⟩
  obtain⟨h1,h2⟩:=lB.mp hq
  rw[Y']at h2
  exact⟨q.n,of_decide_eq_true h2.1,by rw[CU ok h1];exact h2.2⟩
def Vr(l:List Rz):fNe (.list (l.map eZ)) (.list [])=some (.bool (!l.isEmpty)):=by
 cases l with
 |nil=>rfl
 |cons a l=>exact(encZ.fNeL (a::l) []).trans rfl
def fg{rs:List Rz}(I:Iv rs){r:Rz}(okl:OkL r):∃ls,He [.d (.list (rs.map eZ)),.d (eZ r)]=some (Mg (res rs (.put r)),ls):=by
 have hl:=I.ln
 let D:PyData:=.list (rs.map eZ)
 let B:PyData:=.list ((rs++[r]).map eZ)
 let st:Option L->Option L->Option L->DS:=fun a b c=>[some (.d D),some (.d (eZ r)),a,b,c]
 let t9:=st none none none
 obtain⟨lr,er⟩:=gR okl
 have c1:=DN (tst (AW (G:=BB) (a:=qA) (τ:=t9) (t4:=t9) (rs:=[.d (eZ r)]) (ds:=[eZ r]) rfl rfl er))
 refine⟨[.d D,.d (eZ r)],?_⟩
 unfold He res
 dsimp only
 unfold stp
 by_cases hy:r.y<=60
 case neg =>
  rw[decide_eq_false hy]at c1
  rw[if_neg hy]
  exact AL (τ:=t9) (As ((A3 (t4:=t9) c1).trans rfl)) rfl rfl
 rw[decide_eq_true hy]at c1
 rw[if_pos hy]
 obtain⟨l2,e2⟩:=Eh rs r.n
 have c2:AD (dOp B9 (AB Aj Qu) jD) t9=some ((Ac rs r.n).isSome,t9) :=
  tst (oQ (oZ (Ac rs r.n)) (.none) t9 (cQ t9 [D,eT r.n] rfl rfl e2) rfl (by cases Ac rs r.n<;>rfl))
 by_cases h1:(Ac rs r.n).isSome=true
 case pos =>
  rw[h1]at c2
  rw[if_pos h1]
  exact AL (τ:=t9) ((AE (t4:=t9) ((Ae (t4:=t9) c1).trans rfl)).trans (As ((A3 (t4:=t9) c2).trans rfl))) rfl rfl
 rw[if_neg h1]
 rw[Bool.not_eq_true]at h1
 rw[h1]at c2
 obtain⟨l3,e3⟩:=Eh rs r.h
 let t4:=st (some (.d (oZ (Ac rs r.h)))) none none
 have z3:AI (AB Aj qC) QH t9=some (.nx t4):=AU (d:=oZ (Ac rs r.h)) (t4:=t9) (cQ t9 [D,eT r.h] rfl rfl e3) rfl
 have c4:BQ QA (An Qg (AD (dOp (fIn true) (dOp AN qI QO) (Cn (AB By AF) (dPt qv) Bl)))) t4=some (match Ac rs r.h with|none=>!decide (r.h=t0)|some q=>!decide (4<=kz q.d),t4):=by
  show BQ _ _ (st (some (.d (oZ (Ac rs r.h)))) none none)=some (_,st (some (.d (oZ (Ac rs r.h)))) none none)
  cases Ac rs r.h with
  |none =>
   let t:=st (some (.d .none)) none none
   have a:QA t=some (true&&!decide (r.h=t0),t):=Fh rfl (tst (oQ (eT r.h) (eT t0) t rfl rfl (Ku _ _)))
   exact(orB a (q:=false) rfl).trans (by rw[mB,Bool.or_false];rfl)
  |some q =>
   let t:=st (some (.d (eZ q))) none none
   have a:An Qg (AD (dOp (fIn true) (dOp AN qI QO) (Cn (AB By AF) (dPt qv) Bl))) t=some (true&&!decide (4<=kz q.d),t):=Fh rfl (tst (oQ (eT (kS (kz q.d))) (.tuple (KH.map eT)) t rfl rfl ((gU _ _).trans (congrArg (fun b=>some (PyData.bool (!b))) (decide_eq_decide.mpr (Rg (Cc _)))))))
   exact(orB (p:=false) rfl a).trans (by rw[mB,Bool.false_or];rfl)
 have pre:∀{Aw:DB} {o:Out},Aw t4=some o->AH (AO (Ao (AD (AB BB qA))) QC AQ) (AH (AO (AD (dOp B9 (AB Aj Qu) jD)) QZ AQ) (AH (AI (AB Aj qC) QH) Aw)) t9=some o:=fun k=>(AE (t4:=t9) ((Ae (t4:=t9) c1).trans rfl)).trans ((AE (t4:=t9) ((Ae (t4:=t9) c2).trans rfl)).trans ((AE z3).trans k))
 have bad:∀{c:DT} {n:Nat} {Aw:DB} {τ:DS},c τ=some (true,τ)->AH (AO c (AM (AY (AA (dC (.str (whS n))) qb))) AQ) Aw τ=some (.rt (.tuple [.str (whS n),.none]) τ):=fun h=>As ((A3 h).trans rfl)
 have good:∀{c:DT} {a Aw:DB} {τ:DS},c τ=some (false,τ)->AH (AO c a AQ) Aw τ=Aw τ:=fun {c a Aw τ} h=>AE (t4:=τ) ((Ae (t4:=τ) h).trans rfl)
 by_cases hq:r.h=t0\/∃q∈rs,q.n=r.h
 case neg =>
  have hn:Ac rs r.h=none:=JJ fun q hq' e=>hq (.inr ⟨q,hq',e⟩)
  have h0:r.h≠t0:=fun z=>hq (.inl z)
  rw[hn]at c4
  dsimp only at c4
  rw[decide_eq_false h0]at c4
  rw[if_neg h0,hn]
  exact AL (τ:=t4) (pre (bad (n:=2) c4)) rfl rfl
 obtain⟨l6,e6⟩:=Uo I.ok (by omega) hq
 let t7:=st (some (.d (oZ (Ac rs r.h)))) (some (.d B)) none
 let n9:=st (some (.d (oZ (Ac rs r.h)))) (some (.d B)) (some (.d (.list ((hsR rs.reverse r.h).map eT))))
 have z5:AI Qh Qv t4=some (.nx t7):=AU (d:=B) (t4:=t4) (oQ D (.list [eZ r]) t4 rfl rfl ((MD (by rw[B'];show rs.length+1<=1000;omega)).trans (by rw[<- List.map_singleton,<- lD]))) rfl
 have z6:AI (AB Ez qC) (dN 4) t7=some (.nx n9):=AU (t4:=t7) (cQ t7 [D,eT r.h] rfl rfl e6) rfl
 have hlen:=K2 rs.reverse r.h
 rw[lR]at hlen
 have c7:AD (dOp fGt qR qv) n9=some (decide (6<(hsR rs.reverse r.h).length),n9):=by
  refine tst (oQ (.int ((hsR rs.reverse r.h).length:Nat)) (.int 6) n9 (E8 (d:=.list ((hsR rs.reverse r.h).map eT)) (t4:=n9) rfl (by show some (PyData.int (((hsR rs.reverse r.h).map eT).length:Nat))=_;rw[B'])) rfl ?_)
  show some (PyData.bool (decide ((((hsR rs.reverse r.h).length:Nat):Int)>6)))=_
  exact congrArg (fun b=>some (PyData.bool b)) (decide_eq_decide.mpr (by omega))
 have t8:AD (dOp fEq (dOp AN qE QO) QJ) n9=some (decide (kz r.d=8),n9):=tst (oQ (eT (kS (kz r.d))) (eT (kS 8)) n9 rfl rfl (kq (Cc _) (by decide)))
 have c8:An (AD (dOp fEq (dOp AN qE QO) QJ)) (AD (dOp fNe (dLC 1 [4] Qa QY qK qB) (Cy AF))) n9=some (decide (kz r.d=8)&&tls rs r.h,n9):=by
  refine Fh t8 (tst (oQ (.list ((rs.filter fun q=>decide (q.n∈hsR rs.reverse r.h)&&decide (kz q.d=8)).map eZ)) (.list []) n9 ?_ rfl ((Vr _).trans (by rw[W8 I.ok]))))
  exact lcg (enc := eZ) (rs := rs) (τ := n9) (fr := [4]) (it := Qa) (ex := [some (.d (.list ((hsR rs.reverse r.h).map eT)))]) (c := qK) (e := qB) (fun q => decide (q.n ∈ hsR rs.reverse r.h) && decide (kz q.d = 8)) eZ rfl (by omega) rfl rfl (fun q _ => by
   let t:DS:=[some (.d (eZ q)),some (.d (.list ((hsR rs.reverse r.h).map eT)))]
   exact Fh (tst (oQ (eT q.n) (.list ((hsR rs.reverse r.h).map eT)) t rfl rfl (inL _ _))) (tst (oQ (eT (kS (kz q.d))) (eT (kS 8)) t rfl rfl (kq (Cc _) (by decide))))) (fun q _ _=>rfl)
 have c9:AD (dOp fGt (Ak Bp qg) (dC (.int 24))) n9=some (!decide (rs.length<24),n9):=by
  refine tst (oQ (.int ((rs.length+1:Nat):Int)) (.int 24) n9 (E8 (d:=B) (t4:=n9) rfl (by show some (PyData.int (((rs++[r]).map eZ).length:Nat))=_;rw[B',T'];rfl)) rfl ?_)
  show some (PyData.bool (decide (((rs.length+1:Nat):Int)>24)))=_
  refine congrArg (fun b=>some (PyData.bool b)) ?_
  rw[<- decide_not]
  exact decide_eq_decide.mpr (by omega)
 have pre2:∀{Aw:DB} {o:Out},(match Ac rs r.h with|none=>!decide (r.h=t0)|some q=>!decide (4<=kz q.d))=false->Aw n9=some o->AH (AO (Ao (AD (AB BB qA))) QC AQ) (AH (AO (AD (dOp B9 (AB Aj Qu) jD)) QZ AQ) (AH (AI (AB Aj qC) QH) (AH (AO (BQ QA (An Qg (AD (dOp (fIn true) (dOp AN qI QO) (Cn (AB By AF) (dPt qv) Bl))))) j7 AQ) (AH (AI Qh Qv) (AH (AI (AB Ez qC) (dN 4)) Aw))))) t9=some o:=fun e k=>pre ((good (by rw[c4,e])).trans ((AE z5).trans ((AE z6).trans k)))
 have fin:∀{k8:Bool},(kz r.d=8->tls rs r.h=true->False)->qG n9=some (.rt (Mg (if rs.length<24 then .inl (rs++[r]) else .inr 5)) n9):=fun {_} h8=>by
  have e8:(decide (kz r.d=8)&&tls rs r.h)=false:=by
   rw[lL]
   intro z
   rw[Y']at z
   exact h8 (of_decide_eq_true z.1) z.2
  rw[e8]at c8
  refine(good c8).trans ?_
  by_cases h:rs.length<24
  ·rw[decide_eq_true h]at c9
   rw[if_pos h]
   exact(good c9).trans rfl
  ·rw[decide_eq_false h]at c9
   rw[if_neg h]
   exact bad (n:=5) c9
 by_cases h0:r.h=t0
 ·have hs0:hsR rs.reverse r.h=[]:=by rw[h0];exact EX I.ok
  rw[if_pos h0]
  have hz:(match Ac rs r.h with|none=>!decide (r.h=t0)|some q=>!decide (4<=kz q.d))=false:=by
   rw[h0,OG I.ok];rfl
  rw[hs0]at c7
  exact AL (τ:=n9) (pre2 hz ((good c7).trans (fin (k8:=true) fun _ z=>by unfold tls at z;rw[hs0]at z;cases z))) rfl rfl
 rw[if_neg h0]
 obtain⟨q,hqm,hqn⟩:=hq.resolve_left h0
 have hf:Ac rs r.h=some q:=by rw[<- hqn];exact CU I.ok hqm
 rw[hf]at pre2 c4 ⊢
 dsimp only at pre2 c4 ⊢
 by_cases h4:4<=kz q.d
 case neg =>
  rw[if_neg h4]
  rw[decide_eq_false h4]at c4
  exact AL (τ:=t4) (pre (bad (n:=2) c4)) rfl rfl
 rw[if_pos h4]
 have hz:(!decide (4<=kz q.d))=false:=by rw[decide_eq_true h4];rfl
 by_cases h6:6<(hsR rs.reverse r.h).length
 ·rw[if_pos h6]
  rw[decide_eq_true h6]at c7
  exact AL (τ:=n9) (pre2 hz (bad (n:=3) c7)) rfl rfl
 rw[if_neg h6]
 rw[decide_eq_false h6]at c7
 by_cases h8:kz r.d=8/\tls rs r.h=true
 ·rw[if_pos h8]
  rw[decide_eq_true h8.1,h8.2]at c8
  exact AL (τ:=n9) (pre2 hz ((good c7).trans (bad (n:=4) c8))) rfl rfl
 ·rw[if_neg h8]
  exact AL (τ:=n9) (pre2 hz ((good c7).trans (fin (k8:=true) fun a b=>h8 ⟨a,b⟩))) rfl rfl
def Tn{rs:List Rz}(I:Iv rs){r:Rz}(hr:r∈rs){i:Nat}(hi:i=1\/i=2\/i=3):∃ls,FL [.d (.list (rs.map eZ)),.d (dd i r.n [])]=some (.list ((if i=1 then woZ rs r.n else if i=2 then Gh rs r.n else Hm rs r.n r.h).map eZ),ls):=by
 have hl:=I.ln
 have i9:i<10:=by omega
 have wl:=NQ rs r.n
 have il:=P6 rs r.n
 let D:PyData:=.list (rs.map eZ)
 let W:PyData:=dd i r.n []
 let NM:PyData:=.list ((r.n::JF rs r.n).map eT)
 let O:PyData:=.list ((wiZ rs r.n).map eZ)
 let E:PyData:=.list ((woZ rs r.n).map eZ)
 let st:Option L->Option L->Option L->Option L->Option L->DS:=fun a b c d e=>[some (.d D),some (.d W),a,b,c,d,e]
 let t9:=st none none none none none
 let t4:=st (some (.d NM)) none none none none
 let t7:=st (some (.d NM)) (some (.d O)) none none none
 let n9:=st (some (.d NM)) (some (.d O)) (some (.d E)) none none
 obtain⟨lp,ep⟩:=Ov I.ok (by omega) r.n
 have ilen:=Sv rs r.n
 have z1:AI (dOp Gj (Cy (AA (dOp AN (AJ 1) (dC (.int 1))) AF)) (AB Dw (AA (AJ 0) (AA (dOp AN (AJ 1) (dC (.int 1))) AF)))) (dN 2) t9=some (.nx t4) :=
  AU (d:=NM) (t4:=t9) (oQ (.list [eT r.n]) (.list ((JF rs r.n).map eT)) t9 rfl (cQ t9 [D,eT r.n] rfl rfl ep) (MD (by rw[B'];simp only[List.length_cons,List.length_nil];omega))) rfl
 have z2:AI (dLC 1 [2] (dIL (AJ 0)) (dN 0) (AD (dOp (fIn false) (dOp AN (AJ 0) (dC (.int 0))) (AJ 1))) (AJ 0)) (dN 3) t4=some (.nx t7):=by
  refine AU (d:=O) (t4:=t4) ?_ rfl
  exact lcg (enc := eZ) (rs := rs) (τ := t4) (fr := [2]) (it := dIL (AJ 0)) (ex := [some (.d NM)]) (c := AD (dOp (fIn false) (dOp AN (AJ 0) (dC (.int 0))) (AJ 1))) (e := AJ 0) (inW rs r.n) eZ rfl (by omega) rfl rfl (fun q hq => by
   let t:DS:=[some (.d (eZ q)),some (.d NM)]
   refine tst (oQ (eT q.n) NM t rfl rfl ?_)
   rw[inL,K1 I.ok hq]) (fun q _ _=>rfl)
 have z3:AI (dLC 1 [2] (dIL (AJ 0)) (dN 0) (AD (dOp (fIn true) (dOp AN (AJ 0) (dC (.int 0))) (AJ 1))) (AJ 0)) (dN 4) t7=some (.nx n9):=by
  refine AU (d:=E) (t4:=t7) ?_ rfl
  exact lcg (enc := eZ) (rs := rs) (τ := t7) (fr := [2]) (it := dIL (AJ 0)) (ex := [some (.d NM)]) (c := AD (dOp (fIn true) (dOp AN (AJ 0) (dC (.int 0))) (AJ 1))) (e := AJ 0) (fun q => !inW rs r.n q) eZ rfl (by omega) rfl rfl (fun q hq => by
   let t:DS:=[some (.d (eZ q)),some (.d NM)]
   refine tst (oQ (eT q.n) NM t rfl rfl ?_)
   rw[YB,K1 I.ok hq]) (fun q _ _=>rfl)
 have cw:∀j,j<10->AD (dOp fEq (dOp AN (AJ 1) (dC (.int 0))) (dC (eT (wS j)))) n9=some (decide (i=j),n9):=fun j hj=>tst (oQ (eT (wS i)) (eT (wS j)) n9 rfl rfl (wq i9 hj))
 refine⟨[.d D,.d W],?_⟩
 unfold FL
 have pre:∀{Aw:DB} {o:Out},Aw n9=some o->AH _ (AH _ (AH _ Aw)) t9=some o:=fun k=>(AE z1).trans ((AE z2).trans ((AE z3).trans k))
 have c1:=cw 1 (by decide)
 have c2:=cw 2 (by decide)
 by_cases h1:i=1
 ·rw[decide_eq_true h1]at c1
  rw[if_pos h1]
  exact AL (τ:=n9) (pre (As ((A3 (t4:=n9) c1).trans rfl))) rfl rfl
 rw[decide_eq_false h1]at c1
 rw[if_neg h1]
 by_cases h2:i=2
 ·rw[decide_eq_true h2]at c2
  rw[if_pos h2]
  refine AL (τ:=n9) (pre ((AE (t4:=n9) ((Ae (t4:=n9) c1).trans rfl)).trans (As ((A3 (t4:=n9) c2).trans (AX (oQ E O n9 rfl rfl ?_)))))) rfl rfl
  refine(MD (by rw[B',B'];omega)).trans ?_
  rw[<- lD];rfl
 rw[decide_eq_false h2]at c2
 rw[if_neg h2]
 obtain⟨la,ea⟩:=Eh rs r.n
 rw[CU I.ok hr]at ea
 let su:Nat->DS:=fun k=>st (some (.d NM)) (some (.d O)) (some (.d E)) (some (.d (eT r.h))) (some (.d (.int (k:Int))))
 let p6:=st (some (.d NM)) (some (.d O)) (some (.d E)) (some (.d (eT r.h))) none
 have z4:AI (dOp AN (AB Aj (AA (AJ 0) (AA (dOp AN (AJ 1) (dC (.int 1))) AF))) (dC (.int 1))) (dN 5) n9=some (.nx p6):=AU (d:=eT r.h) (t4:=n9) (oQ (eZ r) (.int 1) n9 (cQ n9 [D,eT r.n] rfl rfl ea) rfl rfl) rfl
 have z5:AI (dC (.int 0)) (dN 6) p6=some (.nx (su 0)):=rfl
 let ws:=woZ rs r.n
 have hp:plc ws r.h<=ws.length:=by
  unfold plc
  split
  ·omega
  ·rename_i h0
   obtain⟨P,q,S,e,_,_,hpl⟩:=Hc h0 ((Fz I.ok hr).resolve_left h0)
   unfold plc at hpl
   rw[if_neg h0]at hpl
   rw[hpl]
   show _<=(woZ rs r.n).length
   rw[e,T',kX];omega
 have tn:∀k,AD (dOp fNe (AJ 5) (dC (.str ""))) (su k)=some (!decide (r.h=t0),su k):=fun k=>tst (oQ (eT r.h) (eT t0) (su k) rfl rfl (Ku _ _))
 have key:∃k:Nat,FZ (fun _=>100) (An (AD (dOp fNe (AJ 5) (dC (.str "")))) (AD (dOp fNe (dOp AN (dOp DR (AJ 4) (AJ 6)) (dC (.int 0))) (AJ 5)))) (AI (dOp Ay (AJ 6) (dC (.int 1))) (dN 6)) (su 0)=some (.nx (su k))/\plc ws r.h=k+(if r.h=t0 then 0 else 1):=by
  by_cases h0:r.h=t0
  ·refine⟨0,SD (W6 (n:=99) (t4:=su 0) ?_),by unfold plc;rw[if_pos h0,if_pos h0]⟩
   have t:=tn 0
   rw[decide_eq_true h0]at t
   unfold An
   rw[t];rfl
  ·obtain⟨P,q,S,e,hq,hP,hpl⟩:=Hc h0 ((Fz I.ok hr).resolve_left h0)
   refine⟨P.length,?_,by rw[hpl,if_neg h0]⟩
   have hPl:P.length<=24:=by
    have:(woZ rs r.n).length=P.length+(S.length+1):=by rw[e,T',kX]
    omega
   have ct:∀(k:Nat) (p:Rz),ws[k]?=some p->An (AD (dOp fNe (AJ 5) (dC (.str "")))) (AD (dOp fNe (dOp AN (dOp DR (AJ 4) (AJ 6)) (dC (.int 0))) (AJ 5))) (su k)=some (!decide (p.n=r.h),su k):=fun k p hk=>by
    have t:=tn k
    rw[decide_eq_false h0]at t
    have hlt:k<ws.length:=(R'.mp hk).1
    obtain⟨a,e1,e2⟩:=Bq (enc:=eZ) (xs:=ws) (k:=(k:Int)) (by omega) (by omega)
    rw[nH,hk]at e2
    cases e2
    exact(Fh t (tst (oQ (eT p.n) (eT r.h) (su k) (oQ (eZ p) (.int 0) (su k) (oQ E (.int (k:Int)) (su k) rfl rfl e1) rfl rfl) rfl (Ku _ _)))).trans (by rw[show(!false)=true from rfl,mB])
   have lp:∀(j k fuel:Nat),k+j=P.length->j<fuel->dWh (An (AD (dOp fNe (AJ 5) (dC (.str "")))) (AD (dOp fNe (dOp AN (dOp DR (AJ 4) (AJ 6)) (dC (.int 0))) (AJ 5)))) (AI (dOp Ay (AJ 6) (dC (.int 1))) (dN 6)) fuel (su k)=some (.nx (su P.length)):=by
    intro j
    induction j with
    |zero =>
     intro k fuel hk hf
     obtain⟨f,rfl⟩:∃f,fuel=f+1:=⟨fuel-1,by omega⟩
     have:k=P.length:=by omega
     subst this
     refine W6 ((ct P.length q ?_).trans ?_)
     ·show(woZ rs r.n)[P.length]?=some q
      rw[e,kx (X' _),Nat.sub_self];rfl
     ·rw[decide_eq_true hq];rfl
    |succ j ih =>
     intro k fuel hk hf
     obtain⟨f,rfl⟩:∃f,fuel=f+1:=⟨fuel-1,by omega⟩
     have hlt:k<P.length:=by omega
     refine(Zy (t4:=su k) (t7:=su (k+1)) ((ct k P[k] ?_).trans ?_) ?_).trans (ih (k+1) f (by omega) (by omega))
     ·show(woZ rs r.n)[k]?=some P[k]
      rw[e,ke hlt,km hlt]
     ·rw[decide_eq_false (hP _ (ma hlt))];rfl
     ·exact AU (d:=.int ((k+1:Nat):Int)) (t4:=su k) (oQ (.int (k:Int)) (.int 1) (su k) rfl rfl (by show some (PyData.int ((k:Int)+1))=_;rw[nO];rfl)) rfl
   exact SD (lp P.length 0 100 (by omega) (by omega))
 obtain⟨k,zw,hk⟩:=key
 let p:=plc ws r.h
 have z7:AI (dOp Ay (AJ 6) (Ak Ds (AA (dOp fNe (AJ 5) (dC (.str ""))) AF))) (dN 6) (su k)=some (.nx (su p)):=by
  refine AU (d:=.int (p:Int)) (t4:=su k) (oQ (.int (k:Int)) (.int ((if r.h=t0 then 0 else 1:Nat):Int)) (su k) rfl (E8 (d:=.bool (!decide (r.h=t0))) (t4:=su k) (oQ (eT r.h) (eT t0) (su k) rfl rfl (Ku _ _)) ?_) ?_) rfl
  ·by_cases h0:r.h=t0
   ·rw[decide_eq_true h0,if_pos h0];rfl
   ·rw[decide_eq_false h0,if_neg h0];rfl
  ·show some (PyData.int ((k:Int)+((if r.h=t0 then 0 else 1:Nat):Int)))=some (PyData.int ((plc ws r.h:Nat):Int))
   rw[hk,nO]
 refine AL (τ:=su p) (pre ((AE (t4:=n9) ((Ae (t4:=n9) c1).trans rfl)).trans ((AE (t4:=n9) ((Ae (t4:=n9) c2).trans rfl)).trans ((AE z4).trans ((AE z5).trans ((AE zw).trans ((AE z7).trans (AX ?_)))))))) rfl rfl
 have s1:dSl (AJ 4) Bl (dPt (AJ 6)) (su p)=some (.list ((ws.take p).map eZ),su p):=by
  show some (PyData.list (Jg (ws.map eZ) none (some (p:Int))),su p)=_
  rw[OP,List.map_take]
 have s2:dSl (AJ 4) (dPt (AJ 6)) Bl (su p)=some (.list ((ws.drop p).map eZ),su p):=by
  show some (PyData.list (Jg (ws.map eZ) (some (p:Int)) none),su p)=_
  rw[Pw,List.map_drop]
 have tl:(ws.take p).length<=24:=by rw[mE];have:ws.length<=rs.length:=wl;omega
 have dl':(ws.drop p).length<=24:=by rw[mF];have:ws.length<=rs.length:=wl;omega
 refine(oQ (.list (((ws.take p).map eZ)++((wiZ rs r.n).map eZ))) (.list ((ws.drop p).map eZ)) (su p) (oQ (.list ((ws.take p).map eZ)) O (su p) s1 rfl (MD (by rw[B',B'];omega))) s2 (MD (by rw[T',B',B',B'];omega))).trans ?_
 rw[<- lD,<- lD];rfl
def Wb{r:Rz}{d:De}(h:chX r d=none)(h4:4<=wdD d):(wdD d=5/\kz r.d≠7)\/(wdD d=6/\kz r.d≠0/\kz r.d≠6):=by
 cases d with
 |put q=>exact absurd h4 (show ¬4<=0 by decide)
 |tn n k =>
  refine .inl ⟨rfl,fun z=>?_⟩
  obtain⟨q,f,e⟩:=(LB r.d).mp z
  dsimp only[chX]at h
  rw[e]at h;cases h
 |sz n w g =>
  dsimp only[chX]at h
  refine .inr ⟨rfl,?_⟩
  cases e:r.d<;>rw[e]at h<;>first|(cases h;done)|exact⟨by simp[kz],by simp[kz]⟩
 |nm i n=>cases h
 |mv n x y=>cases h
 |ch n c=>cases h
def bh{rs:List Rz}(I:Iv rs){d:De}(hd:Hu rs d):∃ls,Fu [.d (.list (rs.map eZ)),.d (eDe d)]=some (Mg (res rs d),ls):=by
 have hl:=I.ln
 have hlt:=LA hd
 let D:PyData:=.list (rs.map eZ)
 let W:=eDe d
 let t9:DS:=[some (.d D),some (.d W),none]
 have w0:∀o,qS [some (.d D),some (.d W),o]=some (eT (wS (wdD d)),[some (.d D),some (.d W),o]):=fun o=>oQ W (.int 0) [some (.d D),some (.d W),o] rfl rfl (UI hd)
 have cq:∀j,j<10->∀o,AD (dOp fEq qS (dC (eT (wS j)))) [some (.d D),some (.d W),o]=some (decide (wdD d=j),[some (.d D),some (.d W),o]):=fun j hj o=>tst (op2 (x:=eT (wS (wdD d))) (y:=eT (wS j)) (w0 o) rfl (wq hlt hj))
 refine⟨[.d D,.d W],?_⟩
 unfold Fu
 have c0:=cq 0 (by decide) none
 by_cases hp:wdD d=0
 ·cases d with
  |put r =>
   obtain⟨l,e⟩:=fg I hd
   exact AL (τ:=t9) (As ((A3 (t4:=t9) c0).trans (AX (cQ t9 [D,eZ r] rfl rfl e)))) rfl rfl
  |nm i n=>rcases hd with h|h|h|h|h<;>(rw[show wdD (.nm i n)=i from rfl]at hp;omega)
  |mv _ _ _=>exact absurd hp (show 4≠0 by decide)
  |tn _ _=>exact absurd hp (show 5≠0 by decide)
  |sz _ _ _=>exact absurd hp (show 6≠0 by decide)
  |ch _ _=>exact absurd hp (show 7≠0 by decide)
 rw[decide_eq_false hp]at c0
 have hres:res rs d=match Ac rs (nmD d) with
  |none=>.inr 6
  |some r=>match wdD d with
   |1=>.inl (woZ rs (nmD d))
   |2=>.inl (Gh rs (nmD d))
   |3=>.inl (Hm rs (nmD d) r.h)
   |_=>match chX r d with
    |none=>.inr 7
    |some (_,none)=>.inr 0
    |some (_,some r')=>.inl (Hl rs (nmD d) r'):=by
  cases d with
  |put r=>exact absurd rfl hp
  |_=>rfl
 rw[hres]
 have w1:AN W (.int 1)=some (eT (nmD d)):=WK (by omega)
 obtain⟨l1,e1⟩:=Eh rs (nmD d)
 let τ:DS:=[some (.d D),some (.d W),some (.d (oZ (Ac rs (nmD d))))]
 have z1:AI (AB Aj qC) QH t9=some (.nx τ):=AU (t4:=t9) (cQ t9 [D,eT (nmD d)] (acc (t4:=t9) rfl (acc (oQ W (.int 1) t9 rfl rfl w1) rfl)) rfl e1) rfl
 have pre:∀{Aw:DB} {o:Out},Aw τ=some o->AH (AO qy (AM (AB He qC)) AQ) (AH (AI (AB Aj qC) QH) Aw) t9=some o:=fun k=>(AE (t4:=t9) ((Ae (t4:=t9) c0).trans rfl)).trans ((AE z1).trans k)
 cases hf:Ac rs (nmD d) with
 |none =>
  refine AL (τ:=τ) (pre (As ((A3 (t4:=τ) ?_).trans rfl))) rfl rfl
  show AD _ [_,_,some (.d (oZ (Ac rs (nmD d))))]=some (true,[_,_,some (.d (oZ (Ac rs (nmD d))))])
  rw[hf];rfl
 |some r =>
  obtain⟨hr,hn⟩:=FP hf
  have eτ:τ=[some (.d D),some (.d W),some (.d (eZ r))]:=by show([some (.d D),some (.d W),some (.d (oZ (Ac rs (nmD d))))]:DS)=_;rw[hf];rfl
  let σ:DS:=[some (.d D),some (.d W),some (.d (eZ r))]
  have okr:=OkR.all I.ok r (K'.mpr hr)
  have hh:r.h=t0\/OkN r.h:=(PL I.ok hr).imp id fun⟨p,hp,z⟩=>by rw[<- z];exact(OkR.all I.ok p (K'.mpr hp)).nm
  have good:∀{c:DT} {a Aw:DB},c σ=some (false,σ)->AH (AO c a AQ) Aw σ=Aw σ:=fun {c a Aw} h=>AE (t4:=σ) ((Ae (t4:=σ) h).trans rfl)
  have ci:QS σ=some (decide (wdD d=1\/wdD d=2\/wdD d=3),σ):=by
   refine tst (oQ (eT (wS (wdD d))) (.tuple ([wS 1,wS 2,wS 3].map eT)) σ (w0 _) rfl ((inT _ _).trans (congrArg (fun b=>some (PyData.bool b)) (decide_eq_decide.mpr ?_))))
   rw[kY,kY,ki]
   exact⟨fun z=>z.imp (Gk hlt (by decide)) fun z=>z.imp (Gk hlt (by decide)) (Gk hlt (by decide)),fun z=>z.imp (fun e=>by rw[e]) fun z=>z.imp (fun e=>by rw[e]) fun e=>by rw[e]⟩
  have pre2:∀{Aw:DB} {o:Out},Aw σ=some o->AH (AO qy (AM (AB He qC)) AQ) (AH (AI (AB Aj qC) QH) (AH Ql Aw)) t9=some o:=fun k=>pre (by rw[eτ];exact(good rfl).trans k)
  dsimp only
  by_cases hi:wdD d=1\/wdD d=2\/wdD d=3
  ·rw[decide_eq_true hi]at ci
   have hW:W=dd (wdD d) r.n []:=by
    cases d with
    |nm i n=>rw[hn];rfl
    |put _=>exact absurd rfl hp
    |mv _ _ _=>exact absurd hi (show ¬(4=1\/4=2\/4=3) by decide)
    |tn _ _=>exact absurd hi (show ¬(5=1\/5=2\/5=3) by decide)
    |sz _ _ _=>exact absurd hi (show ¬(6=1\/6=2\/6=3) by decide)
    |ch _ _=>exact absurd hi (show ¬(7=1\/7=2\/7=3) by decide)
   obtain⟨l,e⟩:=Tn I hr hi
   rw[<- hW]at e
   let Y:PyData:=.list ((if wdD d=1 then woZ rs r.n else if wdD d=2 then Gh rs r.n else Hm rs r.n r.h).map eZ)
   have fin : Mg (match wdD d with
    |1=>.inl (woZ rs (nmD d))
    |2=>.inl (Gh rs (nmD d))
    |3=>.inl (Hm rs (nmD d) r.h)
    |_=>match chX r d with
     |none=>.inr 7
     |some (_,none)=>.inr 0
     |some (_,some r')=>.inl (Hl rs (nmD d) r')) = .tuple [.str "",Y]:=by
    rw[<- hn]
    rcases hi with h|h|h<;>(show _=PyData.tuple [.str "",.list ((if wdD d=1 then woZ rs r.n else if wdD d=2 then Gh rs r.n else Hm rs r.n r.h).map eZ)];rw[h];rfl)
   rw[fin]
   exact AL (τ:=σ) (pre2 (As ((A3 (t4:=σ) ci).trans (AX (Gm (rs:=[.d (.str ""),.d Y]) (acc (t4:=σ) rfl (acc (cQ σ [D,W] rfl rfl e) rfl)) rfl (show 2<=1000 by decide)))))) rfl rfl
  rw[decide_eq_false hi]at ci
  have h4:4<=wdD d:=by omega
  have e9:∀(k:Nat) (A B C E:List Rz ⊕ Nat),k≠1->k≠2->k≠3->(match k with|1=>A|2=>B|3=>C|_=>E)=E:=fun k A B C E h1 h2 h3=>by
   match k,h1,h2,h3 with
   |0,_,_,_=>rfl
   |1,h,_,_=>exact absurd rfl h
   |2,_,h,_=>exact absurd rfl h
   |3,_,_,h=>exact absurd rfl h
   |k+4,_,_,_=>rfl
  rw[e9 _ _ _ _ _ (fun z=>hi (.inl z)) (fun z=>hi (.inr (.inl z))) (fun z=>hi (.inr (.inr z)))]
  have kt:dOp AN qI QO σ=some (eT (kS (kz r.d)),σ):=rfl
  have ce:qN σ=some ((decide (wdD d=5)&&!decide (kz r.d=7))||(decide (wdD d=6)&&!decide (kz r.d=0\/kz r.d=6)),σ) :=
   orB (Fh (cq 5 (by decide) _) (tst (oQ (eT (kS (kz r.d))) (eT (kS 7)) σ kt rfl (knq (Cc _) (by decide))))) (Fh (cq 6 (by decide) _) (tst (oQ (eT (kS (kz r.d))) (.tuple [eT (kS 0),eT (kS 6)]) σ kt rfl (Za (Cc _)))))
  cases hc:chX r d with
  |none =>
   have:((decide (wdD d=5)&&!decide (kz r.d=7))||(decide (wdD d=6)&&!decide (kz r.d=0\/kz r.d=6)))=true:=by
    rcases Wb hc h4 with ⟨a,b⟩|⟨a,b,c⟩
    ·rw[decide_eq_true a,decide_eq_false b];rfl
    ·rw[decide_eq_true a,decide_eq_false (show ¬(kz r.d=0\/kz r.d=6) from fun z=>z.elim b c),Bool.or_eq_true];exact .inr rfl
   rw[this]at ce
   exact AL (τ:=σ) (pre2 ((good ci).trans (As ((A3 (t4:=σ) ce).trans rfl)))) rfl rfl
  |some pq =>
   obtain⟨X,v⟩:=pq
   have ck:=Ry hr okr hh hd hn.symm hc
   obtain⟨l,e⟩:=Zx (rs:=rs) (by omega) ck
   have ee : Mg (wX rs r.n v) = Mg (match some (X, v) with
     |none=>.inr 7
     |some (_,none)=>.inr 0
     |some (_,some r')=>.inl (Hl rs (nmD d) r')):=by rw[hn];cases v<;>rfl
   rw[<- ee]
   have hce:((decide (wdD d=5)&&!decide (kz r.d=7))||(decide (wdD d=6)&&!decide (kz r.d=0\/kz r.d=6)))=false:=by
    cases d with
    |put _=>cases hc
    |mv _ _ _=>rfl
    |ch _ _=>rfl
    |nm i n=>show((decide (i=5)&&_)||(decide (i=6)&&_))=false;rw[decide_eq_false (show i≠5 by rcases hd with h|h|h|h|h<;>omega),decide_eq_false (show i≠6 by rcases hd with h|h|h|h|h<;>omega)];rfl
    |tn n k =>
     dsimp only[chX]at hc
     cases e:r.d<;>rw[e]at hc<;>first|(cases hc;done)|rfl
    |sz n w g =>
     dsimp only[chX]at hc
     cases e:r.d<;>rw[e]at hc<;>first|(cases hc;done)|rfl
   rw[hce]at ce
   have cn:∀j,j<10->wdD d≠j->AD (dOp fEq qS (dC (eT (wS j)))) σ=some (false,σ):=fun j hj h=>by rw[cq j hj,decide_eq_false h]
   have ct:∀j,j<10->wdD d=j->AD (dOp fEq qS (dC (eT (wS j)))) σ=some (true,σ):=fun j hj h=>by rw[cq j hj,decide_eq_true h]
   have wt:∀{f:DX},f σ=some (X,σ)->AM (AB Df (AA qB (AA f AF))) σ=some (.rt (Mg (wX rs r.n v)) σ):=fun {f} hf=>AX (cQ σ [D,X] (acc (t4:=σ) rfl (acc hf rfl)) rfl e)
   refine AL (τ:=σ) (pre2 ((good ci).trans ((good ce).trans ?_))) rfl rfl
   cases d with
   |put _=>cases hc
   |mv n x y =>
    cases hc
    exact As ((A3 (t4:=σ) (ct 4 (by decide) rfl)).trans (wt rfl))
   |tn n k =>
    refine(good (cn 4 (by decide) (show 5≠4 by decide))).trans (As ((A3 (t4:=σ) (ct 5 (by decide) rfl)).trans (wt ?_)))
    dsimp only[chX]at hc
    obtain⟨rn,rh,rx,ry,rsh,rd⟩:=r
    cases rd<;>first|(cases hc;done)|(cases hc;rfl)
   |sz n w g =>
    refine(good (cn 4 (by decide) (show 6≠4 by decide))).trans ((good (cn 5 (by decide) (show 6≠5 by decide))).trans (As ((A3 (t4:=σ) (ct 6 (by decide) rfl)).trans (wt ?_))))
    dsimp only[chX]at hc
    obtain⟨rn,rh,rx,ry,rsh,rd⟩:=r
    cases rd<;>first|(cases hc;done)|(cases hc;rfl)
   |ch n c =>
    cases hc
    exact(good (cn 4 (by decide) (show 7≠4 by decide))).trans ((good (cn 5 (by decide) (show 7≠5 by decide))).trans ((good (cn 6 (by decide) (show 7≠6 by decide))).trans (As ((A3 (t4:=σ) (ct 7 (by decide) rfl)).trans (wt rfl)))))
   |nm i n =>
    cases hc
    have h8:i=8\/i=9:=by have:4<=i:=h4;rcases hd with h|h|h|h|h<;>omega
    refine(good (cn 4 (by decide) (show i≠4 by omega))).trans ((good (cn 5 (by decide) (show i≠5 by omega))).trans ((good (cn 6 (by decide) (show i≠6 by omega))).trans ((good (cn 7 (by decide) (show i≠7 by omega))).trans (wt ?_))))
    have cs:dOp fEq qS (dC (.str "show")) σ=some (.bool (decide (i=9)),σ):=op2 (x:=eT (wS i)) (y:=eT (wS 9)) (w0 _) rfl (wq hlt (by decide))
    have t1:Qy σ=some (.tuple [.bool (decide (i=9))],σ):=Gm (rs:=[.d (.bool (decide (i=9)))]) (acc cs rfl) rfl (show 1<=1000 by decide)
    exact oQ (.tuple [eT r.n,eT r.h,.int r.x,.int r.y,.bool (decide (i=9))]) (.tuple [eT (kS (kz r.d)),eD r.d]) σ (oQ (.tuple [eT r.n,eT r.h,.int r.x,.int r.y]) (.tuple [.bool (decide (i=9))]) σ rfl t1 rfl) rfl rfl
def WI:List Nat:=[4,8,9,5,6,7,0,1,2,3,4,7]
def RE:Tx:=⟨"strange",∅⟩
def ZQ:Bool:=decide (1<=RE.1.length)&&decide (RE.1.length<=8)&&RE.1.cps.toList.all fun c=>decide (c∈alN.cps.toList)
def XD:ZQ=true:=∅
def XC:OkN RE:=by
 have h:=XD
 unfold ZQ at h
 simp only[Bool.and_eq_true,List.all_eq_true,decide_eq_true_eq]at h
 exact⟨h.1.1,h.1.2,fun c hc=>h.2 c hc⟩
def NS(rs:List Rz):List Tx:=rs.map (·.n)++[RE]
def jZ{rs:List Rz}(ok:OkZ rs){n:Tx}(h:n∈NS rs):OkN n:=by
 rcases kc.mp h with h|h
 ·obtain⟨r,hr,rfl⟩:=ly.mp h
  exact(OkR.all ok r (K'.mpr hr)).nm
 ·rw[ki.mp h];exact XC
def jW{i:Nat}(h:i∈WI):i<10:=by
 have:∀i∈WI,i<10:=by decide
 exact this i h
def gL{a:Int}{n:Nat}(h:0<n):0<=a % (n:Int)/\a % (n:Int)<(n:Int):=⟨lN _ (by omega),lH _ (by omega)⟩
def fh{α:Type}{enc:α->PyData}(xs:List α)(h:0<xs.length)(a:Int):∃x∈xs,DR (.list (xs.map enc)) (.int (a % (xs.length:Int)))=some (enc x):=by
 obtain⟨m0,m1⟩:=gL (a:=a) h
 obtain⟨x,e1,e2⟩:=Bq (enc:=enc) (xs:=xs) m0 m1
 exact⟨x,ka e2,e1⟩
abbrev oT(t:Tx):Option L:=some (.d (eT t))
abbrev oI(i:Int):Option L:=some (.d (.int i))
def WT:PyData:=.tuple (WI.map fun i=>eT (wS i))
def sD(rs:List Rz)(v:Int)(i:Nat)(s:Int)(n:Tx)(a7 a8 a9 a10 a11:Option L):DS:=[some (.d (.list (rs.map eZ))),oI v,some (.d WT),oT (wS i),some (.d (.list ((NS rs).map eT))),oI s,oT n,a7,a8,a9,a10,a11]
def B1:DB:=qJ
def B2:DB:=AI (dOp AN qI (dOp Af qE Q4)) Qv
def B3:DB:=Q6
def B4:DB:=Qp
def B5:DB:=j3
def B6:DB:=qh
def B7:DB:=Qs
def YD{rs:List Rz}(hl:rs.length<=24)(v:Int):∃i∈WI,∃n∈NS rs,∃w s:Int,∀Aw:DB,AH B1 (AH B2 (AH B3 (AH B4 (AH B5 (AH B6 (AH B7 Aw)))))) [some (.d (.list (rs.map eZ))),oI v,none,none,none,none,none,none,none,none,none,none]=Aw (sD rs w i s n none none none none none):=by
 let D:PyData:=.list (rs.map eZ)
 let N:PyData:=.list ((NS rs).map eT)
 let f:Option L->Option L->Option L->Option L->Option L->DS:=fun a b c d e=>[some (.d D),oI v,a,b,c,d,e,none,none,none,none,none]
 have nl:(NS rs).length=rs.length+1:=by unfold NS;rw[T',B'];rfl
 have z1:B1 (f none none none none none)=some (.nx (f (some (.d WT)) none none none none)):=rfl
 obtain⟨i,e2,hi⟩:=Bq (enc:=fun i=>eT (wS i)) (xs:=WI) (k:=v % 12) (by omega) (by show v % 12<12;omega)
 have hiW:i∈WI:=ka hi
 have z2:B2 (f (some (.d WT)) none none none none)=some (.nx (f (some (.d WT)) (oT (wS i)) none none none)):=AU (d:=eT (wS i)) (t4:=f (some (.d WT)) none none none none) (op2 (x:=WT) (y:=.int (v % 12)) rfl (op2 (x:=.int v) (y:=.int 12) rfl rfl (BA (by decide))) e2) rfl
 let t7:=f (some (.d WT)) (oT (wS i)) none none none
 let n9:=f (some (.d WT)) (oT (wS i)) (some (.d N)) none none
 have z3:B3 t7=some (.nx n9):=by
  refine AU (d:=N) (t4:=t7) (oQ (.list ((rs.map (·.n)).map eT)) (.list [eT RE]) t7 ?_ rfl ?_) rfl
  ·have:=lcg (enc:=eZ) (rs:=rs) (τ:=t7) (fr:=[]) (it:=Qa) (ex:=[]) (c:=B0) (e:=qc) (fun _=>true) (fun q=>eT q.n) rfl (by omega) rfl rfl (fun _ _=>rfl) (fun q _ _=>rfl)
   refine this.trans ?_
   rw[Cu,lx];rfl
  ·refine(MD (by rw[B',B'];show rs.length+1<=1000;omega)).trans ?_
   show some (PyData.list ((rs.map (·.n)).map eT++[RE].map eT))=_
   rw[<- lD];rfl
 have ln:∀τ:DS,τ[4]?=some (some (.d N))->qR τ=some (.int ((NS rs).length:Nat),τ):=fun τ h=>E8 (d:=N) (t4:=τ) (by unfold AJ;rw[h]) (by show some (PyData.int (((NS rs).map eT).length:Nat))=_;rw[B'])
 let s:=v / 12 % (8*((NS rs).length:Int))
 let p6:=f (some (.d WT)) (oT (wS i)) (some (.d N)) (oI s) none
 have z4:B4 n9=some (.nx p6):=AU (d:=.int s) (t4:=n9) (oQ (.int (v / 12)) (.int (8*((NS rs).length:Int))) n9 (oQ (.int v) (.int 12) n9 rfl rfl (BZ (by decide) (by decide))) (oQ (.int 8) (.int ((NS rs).length:Nat)) n9 rfl (ln n9 rfl) (bA (by decide) (by decide))) (BA (by omega))) rfl
 obtain⟨n5,hn5,e5⟩:=fh (enc:=eT) (NS rs) (by omega) s
 let p8:Tx->DS:=fun n=>f (some (.d WT)) (oT (wS i)) (some (.d N)) (oI s) (oT n)
 have z5:B5 p6=some (.nx (p8 n5)):=AU (d:=eT n5) (t4:=p6) (oQ N (.int (s % ((NS rs).length:Int))) p6 rfl (oQ (.int s) (.int ((NS rs).length:Nat)) p6 rfl (ln p6 rfl) (BA (by omega))) e5) rfl
 have z6:∃n∈NS rs,B6 (p8 n5)=some (.nx (p8 n)):=by
  have c:An (AD (dOp fLt (AJ 5) (dOp II qv qR))) (AD (dOp fGt qR qH)) (p8 n5)=some (decide (s<6*((NS rs).length:Int))&&decide (1<((NS rs).length:Int)),p8 n5) :=
   Fh (tst (oQ (.int s) (.int (6*((NS rs).length:Int))) (p8 n5) rfl (oQ (.int 6) (.int ((NS rs).length:Nat)) (p8 n5) rfl (ln _ rfl) (bA (by decide) (by decide))) rfl)) (tst (oQ (.int ((NS rs).length:Nat)) (.int 1) (p8 n5) (ln _ rfl) rfl rfl))
  cases hb:(decide (s<6*((NS rs).length:Int))&&decide (1<((NS rs).length:Int))) with
  |false =>
   rw[hb]at c
   exact⟨n5,hn5,(Ae c).trans rfl⟩
  |true =>
   rw[hb]at c
   rw[Y']at hb
   have h1:=of_decide_eq_true hb.2
   obtain⟨m0,m1⟩:=gL (a:=s) (n:=(NS rs).length-1) (by omega)
   have ec:(((NS rs).length-1:Nat):Int)=((NS rs).length:Int)-1:=by omega
   rw[ec]at m0 m1
   obtain⟨x,e1,e2⟩:=Bq (enc:=eT) (xs:=NS rs) (k:=s % (((NS rs).length:Int)-1)) m0 (by omega)
   refine⟨x,ka e2,(A3 c).trans (AU (d:=eT x) (t4:=p8 n5) (oQ N (.int (s % (((NS rs).length:Int)-1))) (p8 n5) rfl (oQ (.int s) (.int (((NS rs).length:Int)-1)) (p8 n5) rfl (oQ (.int ((NS rs).length:Nat)) (.int 1) (p8 n5) (ln _ rfl) rfl rfl) (BA (by omega))) e1) rfl)⟩
 obtain⟨n,hn,z6⟩:=z6
 have z7:B7 (p8 n)=some (.nx (sD rs (v / 96 / ((NS rs).length:Int)) i s n none none none none none)):=AU (d:=.int (v / 96 / ((NS rs).length:Int))) (t4:=p8 n) (oQ (.int (v / 96)) (.int ((NS rs).length:Nat)) (p8 n) (oQ (.int v) (.int 96) (p8 n) rfl rfl (BZ (by decide) (by decide))) (ln _ rfl) (BZ (by omega) (Int.lt_of_lt_of_le (show((NS rs).length:Int)<100 by omega) (by decide)))) rfl
 exact⟨i,hiW,n,hn,_,s,fun Aw=>(AE z1).trans ((AE z2).trans ((AE z3).trans ((AE z4).trans ((AE z5).trans ((AE z6).trans (AE z7))))))⟩
def Ro{rs:List Rz}(I:Iv rs)(v:Int):∃(d:De) (ls:List L),ES [.d (.list (rs.map eZ)),.d (.int v)]=some (eDe d,ls)/\Hu rs d:=by
 have hl:=I.ln
 obtain⟨i,hi,n,hn,w,s,hd⟩:=YD hl v
 have i9:=jW hi
 let D:PyData:=.list (rs.map eZ)
 have cw:∀j,j<10->∀(w:Int) (n:Tx) a7 a8 a9 a10 a11,AD (dOp fEq qT (dC (eT (wS j)))) (sD rs w i s n a7 a8 a9 a10 a11)=some (decide (i=j),sD rs w i s n a7 a8 a9 a10 a11):=fun j hj w n a7 a8 a9 a10 a11=>tst (oQ (eT (wS i)) (eT (wS j)) (sD rs w i s n a7 a8 a9 a10 a11) rfl rfl (wq i9 hj))
 have fin:∀{Aw:DB} {X:PyData} {w':Int} {n':Tx} {a7 a8 a9 a10 a11:Option L},Aw (sD rs w i s n none none none none none)=some (.rt X (sD rs w' i s n' a7 a8 a9 a10 a11))->qP 2 10 (AH B1 (AH B2 (AH B3 (AH B4 (AH B5 (AH B6 (AH B7 Aw))))))) [.d D,.d (.int v)]=some (X,[.d D,.d (.int v)]):=fun {Aw X w' n' a7 a8 a9 a10 a11} k=>AL (τ:=sD rs w' i s n' a7 a8 a9 a10 a11) ((hd Aw).trans k) rfl rfl
 by_cases h0:i=0
 ·-- put
  subst h0
  obtain⟨r,u,lr,er,okr,hh,_⟩:=Kj I.ok (by omega) w
  have hh':r.h=t0\/OkN r.h:=hh.imp id fun⟨q,hq,e,_⟩=>by rw[<- e];exact(OkR.all I.ok q (K'.mpr hq)).nm
  let σ:Rz->DS:=fun r=>sD rs u 0 s n (some (.d (eZ r))) none none none none
  have z1:AI (AB Ck qe) jB (sD rs w 0 s n none none none none none)=some (.nx (σ r)):=AU (d:=.tuple [eZ r,.int u]) (t4:=sD rs w 0 s n none none none none none) (cQ (sD rs w 0 s n none none none none none) [D,.int w] rfl rfl er) rfl
  have cm:∀(r:Rz) (k:Int),0<k->AD (dOp fEq (dOp Af qE (dC (.int k))) qD) (σ r)=some (decide (u % k=0),σ r):=fun r k hk=>tst (oQ (.int (u % k)) (.int 0) (σ r) (oQ (.int u) (.int k) (σ r) rfl rfl (BA hk)) rfl (encI.fEq _ _))
  have st:∀(r r':Rz) (k:Int) (a:DB),0<k->a (σ r)=some (.nx (σ r'))->AO (AD (dOp fEq (dOp Af qE (dC (.int k))) qD)) a AQ (σ r)=some (.nx (σ (if u % k=0 then r' else r))):=fun r r' k a hk ha=>by
   have c:=cm r k hk
   by_cases h:u % k=0
   ·rw[decide_eq_true h]at c;rw[if_pos h];exact(A3 c).trans ha
   ·rw[decide_eq_false h]at c;rw[if_neg h];exact(Ae c).trans rfl
  let r1:Rz:=if u % 5=0 then { r with n:=n } else r
  let r2:Rz:=if u % 7=0 then { r1 with h:=n } else r1
  let r3:Rz:=if u % 11=0 then { r2 with y:=61 } else r2
  have k1:=st r { r with n:=n } 5 QG (by decide) rfl
  have k2:=st r1 { r1 with h:=n } 7 qx (by decide) rfl
  have k3:=st r2 { r2 with y:=61 } 11 qo (by decide) rfl
  have nk:=jZ I.ok hn
  have o1:OkL r1:=by
   show OkL (if u % 5=0 then { r with n:=n } else r)
   split
   ·exact⟨nk,hh',okr.x0,okr.x1,okr.y0,okr.d⟩
   ·exact OkL.of okr hh'
  have o2:OkL r2:=by
   show OkL (if u % 7=0 then { r1 with h:=n } else r1)
   split
   ·exact⟨o1.n,.inr nk,o1.x0,o1.x1,o1.y0,o1.d⟩
   ·exact o1
  have o3:OkL r3:=by
   show OkL (if u % 11=0 then { r2 with y:=61 } else r2)
   split
   ·exact⟨o2.n,o2.h,o2.x0,o2.x1,by show(-60:Int)<=61;decide,o2.d⟩
   ·exact o2
  refine⟨.put r3,_,fin (X:=eDe (.put r3)) (As ((A3 (cw 0 (by decide) w n none none none none none)).trans ((AE z1).trans ((AE k1).trans ((AE k2).trans ((AE k3).trans rfl)))))),o3⟩
 have c0:=cw 0 (by decide) w n none none none none none
 rw[decide_eq_false h0]at c0
 let t9:=sD rs w i s n none none none none none
 have ci:qt t9=some (decide (i=8\/i=9\/i=1\/i=2\/i=3),t9):=by
  refine tst (oQ (eT (wS i)) (.tuple ([wS 8,wS 9,wS 1,wS 2,wS 3].map eT)) t9 rfl rfl ((inT _ _).trans (congrArg (fun b=>some (PyData.bool b)) (decide_eq_decide.mpr ?_))))
  simp only[List.mem_cons,List.not_mem_nil,or_false]
  have q:∀j,j<10->(wS i=wS j↔i=j):=fun j hj=>⟨Gk i9 hj,fun e=>by rw[e]⟩
  rw[q 8 (by decide),q 9 (by decide),q 1 (by decide),q 2 (by decide),q 3 (by decide)]
 by_cases hin:i=8\/i=9\/i=1\/i=2\/i=3
 ·rw[decide_eq_true hin]at ci
  refine⟨.nm i n,_,fin (X:=eDe (.nm i n)) ((AE ((Ae c0).trans rfl)).trans (As ((A3 ci).trans rfl))),?_⟩
  show i=1\/i=2\/i=3\/i=8\/i=9
  omega
 rw[decide_eq_false hin]at ci
 have hi4:i=4\/i=5\/i=6\/i=7:=by omega
 -- the rows of that kind
 let kp:Rz->Bool:=fun q=>decide (kS (kz q.d)=wS i)||(decide (i=6)&&decide (kz q.d=0\/kz q.d=6))
 let kh:=rs.filter kp
 have khl:kh.length<=24:=lA (lU ..) hl
 let p7:Tx->DS:=fun n=>sD rs w i s n none (some (.d (.list (kh.map eZ)))) none none none
 have z8:AI (dLC 1 [3] Qa QY qL qB) (dN 8) t9=some (.nx (p7 n)):=by
  refine AU (d:=.list (kh.map eZ)) (t4:=t9) ?_ rfl
  exact lcg (enc := eZ) (rs := rs) (τ := t9) (fr := [3]) (it := Qa) (ex := [oT (wS i)]) (c := qL) (e := qB) kp eZ rfl (by omega) rfl rfl (fun q _ => by
   let t:DS:=[some (.d (eZ q)),oT (wS i)]
   refine orB (tst (oQ (eT (kS (kz q.d))) (eT (wS i)) t rfl rfl (JL _ _))) (Fh (tst (oQ (eT (wS i)) (eT (wS 6)) t rfl rfl (wq i9 (by decide)))) (tst (oQ (eT (kS (kz q.d))) (.tuple ([kS 0,kS 6].map eT)) t rfl rfl ((inT _ _).trans (congrArg (fun b=>some (PyData.bool b)) (decide_eq_decide.mpr ?_))))))
   rw[kY,ki]
   exact⟨fun z=>z.imp (D1 (Cc _) (by decide)) (D1 (Cc _) (by decide)),fun z=>z.imp (fun e=>by rw[e]) fun e=>by rw[e]⟩) (fun q _ _=>rfl)
 have z9:∃n'∈NS rs,qW (p7 n)=some (.nx (p7 n')):=by
  have c:An (AD (dOp fNe (AJ 8) (Cy AF))) (AD (dOp fGt (dOp Af qE QX) qD)) (p7 n)=some (!kh.isEmpty&&decide (0<w % 4),p7 n):=Fh (tst (oQ (.list (kh.map eZ)) (.list []) (p7 n) rfl rfl (Vr kh))) (tst (oQ (.int (w % 4)) (.int 0) (p7 n) (oQ (.int w) (.int 4) (p7 n) rfl rfl (BA (by decide))) rfl rfl))
  cases hb:(!kh.isEmpty&&decide (0<w % 4)) with
  |false=>rw[hb]at c;exact⟨n,hn,(Ae c).trans rfl⟩
  |true =>
   rw[hb]at c
   rw[Y']at hb
   have hpos:0<kh.length:=by
    cases e:kh with
    |nil=>rw[e]at hb;exact absurd hb.1 (by decide)
    |cons a l=>exact nL _
   obtain⟨x,hx,ex⟩:=fh (enc:=eZ) kh hpos (w / 4)
   refine⟨x.n,kW _ (mq (lB.mp hx).1),(A3 c).trans (AU (d:=eT x.n) (t4:=p7 n) (oQ (eZ x) (.int 0) (p7 n) (oQ (.list (kh.map eZ)) (.int (w / 4 % (kh.length:Int))) (p7 n) rfl (oQ (.int (w / 4)) (.int (kh.length:Nat)) (p7 n) (oQ (.int w) (.int 4) (p7 n) rfl rfl (BZ (by decide) (by decide))) (E8 (d:=.list (kh.map eZ)) (t4:=p7 n) rfl (by show some (PyData.int ((kh.map eZ).length:Nat))=_;rw[B'])) (BA (by omega))) ex) rfl rfl) rfl)⟩
 obtain⟨m,hm,z9⟩:=z9
 let u:=w / 64
 let σ:=sD rs u i s m none (some (.d (.list (kh.map eZ)))) none none none
 have z10:jL (p7 m)=some (.nx σ):=AU (d:=.int u) (t4:=p7 m) (oQ (.int w) (.int 64) (p7 m) rfl rfl (BZ (by decide) (by decide))) rfl
 have pre:∀{a1 a2 b8 b9 b10 Aw:DB} {o:Out},b8 t9=some (.nx (p7 n))->b9 (p7 n)=some (.nx (p7 m))->b10 (p7 m)=some (.nx σ)->Aw σ=some o->AH (AO (AD (dOp fEq qT (dC (.str "put")))) a1 AQ) (AH (AO qt a2 AQ) (AH b8 (AH b9 (AH b10 Aw)))) t9=some o:=fun z8 z9 z10 k=>(AE ((Ae c0).trans rfl)).trans ((AE ((Ae ci).trans rfl)).trans ((AE z8).trans ((AE z9).trans ((AE z10).trans k))))
 have cs:∀j,j<10->AD (dOp fEq qT (dC (eT (wS j)))) σ=some (decide (i=j),σ):=fun j hj=>cw j hj _ _ _ _ _ _ _
 have c5:=cs 5 (by decide)
 by_cases h5:i=5
 ·rw[decide_eq_true h5]at c5
  have:∃q:Int,dOp AN qQ Q3 σ=some (.int q,σ):=by
   have p1:dOp BN (dOp Af qE (dC (.int 9))) QX σ=some (.int (u % 9-4),σ):=oQ (.int (u % 9)) (.int 4) σ (oQ (.int u) (.int 9) σ rfl rfl (BA (by decide))) rfl rfl
   have p2:dOp BN (dOp Af qE (dOp Pn (dC (.int 10)) (dC (.int 30)))) (dOp Pn (dC (.int 10)) (dC (.int 29))) σ=some (.int (u % 10 ^ 30-10 ^ 29),σ):=oQ (.int (u % 10 ^ 30)) (.int (10 ^ 29)) σ (oQ (.int u) (.int (10 ^ 30)) σ rfl (oQ (.int 10) (.int 30) σ rfl rfl rfl) (BA (by decide))) (oQ (.int 10) (.int 29) σ rfl rfl rfl) rfl
   have p3:qQ σ=some (.tuple ([u % 9-4,u % 10 ^ 30-10 ^ 29].map .int),σ):=Gm (rs:=[.d (.int (u % 9-4)),.d (.int (u % 10 ^ 30-10 ^ 29))]) (acc p1 (acc p2 rfl)) rfl (show 2<=1000 by decide)
   have p4:Q3 σ=some (.int (u / 9 % 5 / 4),σ):=oQ (.int (u / 9 % 5)) (.int 4) σ (oQ (.int (u / 9)) (.int 5) σ (oQ (.int u) (.int 9) σ rfl rfl (BZ (by decide) (by decide))) rfl (BA (by decide))) rfl (BZ (by decide) (by decide))
   obtain⟨x,e1,_⟩:=Bq (enc:=PyData.int) (xs:=[u % 9-4,u % 10 ^ 30-10 ^ 29]) (k:=u / 9 % 5 / 4) (by omega) (by show _<(2:Int);omega)
   exact⟨x,op2 p3 p4 e1⟩
  obtain⟨q,eq⟩:=this
  refine⟨.tn m q,_,fin (X:=eDe (.tn m q)) (pre z8 z9 z10 (As ((A3 c5).trans (AX (Gm (rs:=[.d (eT (wS i)),.d (eT m),.d (.int q)]) (ds:=[eT (wS i),eT m,.int q]) (acc (t4:=σ) rfl (acc (t4:=σ) rfl (acc eq rfl))) rfl (show 3<=1000 by decide) |>.trans (congrArg (fun z=>some (PyData.tuple [eT (wS z),eT m,.int q],σ)) h5)))))),trivial⟩
 rw[decide_eq_false h5]at c5
 have c6:=cs 6 (by decide)
 by_cases h6:i=6
 ·rw[decide_eq_true h6]at c6
  have p1:dOp Af qE (dC (.int 18)) σ=some (.int (u % 18),σ):=oQ (.int u) (.int 18) σ rfl rfl (BA (by decide))
  have p2:Qx σ=some (.int (u / 18 % 14),σ):=oQ (.int (u / 18)) (.int 14) σ (oQ (.int u) (.int 18) σ rfl rfl (BZ (by decide) (by decide))) rfl (BA (by decide))
  refine⟨.sz m (u % 18) (u / 18 % 14),_,fin (X:=eDe (.sz m (u % 18) (u / 18 % 14))) (pre z8 z9 z10 ((AE ((Ae c5).trans rfl)).trans (As ((A3 c6).trans (AX (Gm (rs:=[.d (eT (wS i)),.d (eT m),.d (.int (u % 18)),.d (.int (u / 18 % 14))]) (ds:=[eT (wS i),eT m,.int (u % 18),.int (u / 18 % 14)]) (acc (t4:=σ) rfl (acc (t4:=σ) rfl (acc p1 (acc p2 rfl)))) rfl (show 4<=1000 by decide) |>.trans (congrArg (fun z=>some (PyData.tuple [eT (wS z),eT m,.int (u % 18),.int (u / 18 % 14)],σ)) h6))))))),trivial⟩
 rw[decide_eq_false h6]at c6
 have c4:=cs 4 (by decide)
 by_cases h4:i=4
 ·rw[decide_eq_true h4]at c4
  obtain⟨x,u1,l1,e1,_⟩:=Du u
  obtain⟨y,u2,l2,e2,_⟩:=Du u1
  let K8:Option L:=some (.d (.list (kh.map eZ)))
  let σ1:=sD rs u1 i s m none K8 (oI x) none none
  let σ2:=sD rs u2 i s m none K8 (oI x) (oI y) none
  have y1:AI (AB A2 qA) (dGT (Ag (dN 9) qY)) σ=some (.nx σ1):=AU (d:=.tuple [.int x,.int u1]) (t4:=σ) (cQ σ [.int u] rfl rfl e1) rfl
  have y2:AI (AB A2 qA) (dGT (Ag (dN 10) qY)) σ1=some (.nx σ2):=AU (d:=.tuple [.int y,.int u2]) (t4:=σ1) (cQ σ1 [.int u1] rfl rfl e2) rfl
  have p1:QP σ2=some (.int (x+u2 % 40 / 39),σ2):=oQ (.int x) (.int (u2 % 40 / 39)) σ2 rfl (oQ (.int (u2 % 40)) (.int 39) σ2 (oQ (.int u2) (.int 40) σ2 rfl rfl (BA (by decide))) rfl (BZ (by decide) (by decide))) rfl
  have p2:Q2 σ2=some (.int (y-u2 / 40 % 40 / 39*2),σ2):=oQ (.int y) (.int (u2 / 40 % 40 / 39*2)) σ2 rfl (oQ (.int (u2 / 40 % 40 / 39)) (.int 2) σ2 (oQ (.int (u2 / 40 % 40)) (.int 39) σ2 (oQ (.int (u2 / 40)) (.int 40) σ2 (oQ (.int u2) (.int 40) σ2 rfl rfl (BZ (by decide) (by decide))) rfl (BA (by decide))) rfl (BZ (by decide) (by decide))) rfl (bA (by omega) (by omega))) rfl
  refine⟨.mv m (x+u2 % 40 / 39) (y-u2 / 40 % 40 / 39*2),_,fin (X:=eDe (.mv m (x+u2 % 40 / 39) (y-u2 / 40 % 40 / 39*2))) (pre z8 z9 z10 ((AE ((Ae c5).trans rfl)).trans ((AE ((Ae c6).trans rfl)).trans (As ((A3 c4).trans ((AE y1).trans ((AE y2).trans (AX (Gm (rs:=[.d (eT (wS i)),.d (eT m),.d (.int (x+u2 % 40 / 39)),.d (.int (y-u2 / 40 % 40 / 39*2))]) (ds:=[eT (wS i),eT m,.int (x+u2 % 40 / 39),.int (y-u2 / 40 % 40 / 39*2)]) (acc (t4:=σ2) rfl (acc (t4:=σ2) rfl (acc p1 (acc p2 rfl)))) rfl (show 4<=1000 by decide) |>.trans (congrArg (fun z=>some (PyData.tuple [eT (wS z),eT m,.int (x+u2 % 40 / 39),.int (y-u2 / 40 % 40 / 39*2)],σ2)) h4)))))))))),trivial⟩
 rw[decide_eq_false h4]at c4
 have h7:i=7:=by omega
 let K8:Option L:=some (.d (.list (kh.map eZ)))
 let σL:Option L->Nat->DS:=fun o k=>sD rs u i s m o K8 none none (oT (kS k))
 have y1:AI Qz (dN 11) σ=some (.nx (σL none 0)):=rfl
 have lp:∃t5,BC (dN 7) qj (rs.map eZ) (σL none 0)=some (.nx t5)/\∃o k,nM o/\t5=σL o k/\k<10/\(k=0\/∃q∈rs,q.n=m/\k=kz q.d):=by
  refine C4 (fun pre τ=>∃o k,nM o/\τ=σL o k/\k<10/\(k=0\/∃q∈rs,q.n=m/\k=kz q.d)) ⟨none,0,BI,rfl,by decide,.inl rfl⟩ ?_
  rintro pre r post τ e ⟨o,k,ho,rfl,hk,hq⟩
  have hr:r∈rs:=HY e
  let t:=σL (some (.d (eZ r))) k
  have c:An (AD (dOp fEq (dOp AN (AJ 7) qD) j8)) (AD (dOp fGt (dOp Af qE qu) qD)) t=some (decide (r.n=m)&&decide (0<u % 8),t):=Fh (tst (oQ (eT r.n) (eT m) t rfl rfl (JL _ _))) (tst (oQ (.int (u % 8)) (.int 0) t (oQ (.int u) (.int 8) t rfl rfl (BA (by decide))) rfl rfl))
  have g:dN 7 (eZ r) (σL o k)=some t:=Cv (o:=o) rfl ho
  cases hb:(decide (r.n=m)&&decide (0<u % 8)) with
  |false=>rw[hb]at c;exact⟨t,t,g,(Ae c).trans rfl,_,k,DQ,rfl,hk,hq⟩
  |true =>
   rw[hb]at c
   rw[Y']at hb
   exact⟨t,σL (some (.d (eZ r))) (kz r.d),g,(A3 c).trans rfl,_,kz r.d,DQ,rfl,Cc _,.inr ⟨r,hr,of_decide_eq_true hb.1,rfl⟩⟩
 obtain⟨t5,el,o,k,ho,rfl,hk,hq⟩:=lp
 obtain⟨d,w',ld,ed,hkd,od⟩:=Lx hk (u / 8)
 have p1:dOp AN (AB Am j4) qD (σL o k)=some (eD d,σL o k):=oQ (.tuple [eD d,.int w']) (.int 0) (σL o k) (cQ (σL o k) [eT (kS k),.int (u / 8)] (acc (t4:=σL o k) rfl (acc (oQ (.int u) (.int 8) (σL o k) rfl rfl (BZ (by decide) (by decide))) rfl)) rfl ed) rfl rfl
 refine⟨.ch m d,_,fin (X:=eDe (.ch m d)) (pre z8 z9 z10 ((AE ((Ae c5).trans rfl)).trans ((AE ((Ae c6).trans rfl)).trans ((AE ((Ae c4).trans rfl)).trans ((AE y1).trans ((AE ((Cw (ds:=rs.map eZ) (t4:=σL none 0) rfl).trans el)).trans (AX (Gm (rs:=[.d (eT (wS i)),.d (eT m),.d (eD d)]) (ds:=[eT (wS i),eT m,eD d]) (acc (t4:=σL o k) rfl (acc (t4:=σL o k) rfl (acc p1 rfl))) rfl (show 3<=1000 by decide) |>.trans (congrArg (fun z=>some (PyData.tuple [eT (wS z),eT m,eD d],σL o k)) h7))))))))),od,fun r hr e=>?_⟩
 rw[hkd]
 rcases hq with hq|⟨q,hq1,hq2,hq3⟩
 ·exact .inr hq
 ·rw[hq3,I.ok.u q hq1 r hr (hq2.trans e.symm)];exact .inl rfl
def aB{met:List Rz}{r:Rz}{n:Nat}(h:stp met r=some n):n<6:=by
 unfold stp at h
 repeat' split at h
 all_goals first|(cases h;decide)|cases h
def fW(rs:List Rz)(d:De):List Rz ⊕ Nat:=match Ac rs (nmD d) with
 |none=>.inr 6
 |some r=>match wdD d with
  |1=>.inl (woZ rs (nmD d))
  |2=>.inl (Gh rs (nmD d))
  |3=>.inl (Hm rs (nmD d) r.h)
  |_=>match chX r d with
   |none=>.inr 7
   |some (_,none)=>.inr 0
   |some (_,some r')=>.inl (Hl rs (nmD d) r')
def Rok(x:List Rz ⊕ Nat):Prop:=(∀l,x = .inl l->Iv l)/\∀n,x = .inr n->n<8
def Rok.l{l:List Rz}(h:Iv l):Rok (.inl l):=⟨fun _ e=>(by cases e;exact h),fun _ e=>(by cases e)⟩
def Rok.r{n:Nat}(h:n<8):Rok (.inr n):=⟨fun _ e=>(by cases e),fun _ e=>(by cases e;exact h)⟩
def XN{rs:List Rz}(I:Iv rs){d:De}(hd:Hu rs d):Rok (fW rs d):=by
 unfold fW
 cases hf:Ac rs (nmD d) with
 |none=>exact .r (by decide)
 |some r =>
  obtain⟨hr,hn⟩:=FP hf
  have okr:=OkR.all I.ok r (K'.mpr hr)
  have hh:r.h=t0\/OkN r.h:=(PL I.ok hr).imp id fun⟨p,hp,z⟩=>by rw[<- z];exact(OkR.all I.ok p (K'.mpr hp)).nm
  dsimp only
  split
  ·exact .l (I.wo _)
  ·rw[<- hn];exact .l (I.rai hr)
  ·rw[<- hn];exact .l (I.snk hr)
  ·split
   ·exact .r (by decide)
   ·exact .r (by decide)
   ·rename_i X r' hc
    obtain⟨_,ok',n',h',k'⟩:=(Ry hr okr hh hd hn.symm hc).val r' rfl
    rw[<- hn];exact .l (I.upd hr n' h' k' ok')
def U6{rs:List Rz}(I:Iv rs){d:De}(hd:Hu rs d):Rok (res rs d):=by
 cases d with
 |put r =>
  show Rok (match stp rs r with
   |some n=>.inr n
   |none=>if rs.length<24 then .inl (rs++[r]) else .inr 5)
  cases hs:stp rs r with
  |some n=>exact .r (Nat.lt_trans (aB hs) (by decide))
  |none =>
   dsimp only
   split
   ·rename_i h;exact .l (I.put hd hs h)
   ·exact .r (by decide)
 |_=>exact XN I hd
def wdR:List Rz ⊕ Nat->Str
 |.inl _=>""
 |.inr n=>whS n
def mdR:List Rz ⊕ Nat->PyData
 |.inl l=>.list (l.map eZ)
 |.inr _=>.none
def YR(x:List Rz ⊕ Nat):Mg x = .tuple [.str (wdR x),mdR x]:=by cases x<;>rfl
def Ui:∀n:_root_.Fin 8,PyData.strOk (whS n.1)=true/\whS n.1≠"":=∅
def Z0{x:List Rz ⊕ Nat}(h:Rok x):PyData.strOk (wdR x)=true:=by
 cases x with
 |inl l=>exact(by decide +kernel:PyData.strOk ("":Str)=true)
 |inr n=>exact(Ui ⟨n,h.2 n rfl⟩).1
def Z6{rs:List Rz}(I:Iv rs){d:De}(hd:Hu rs d):∃ls,Dg [.d (.list (rs.map eZ)),.d (eDe d)]=some (Mg (res rs d),ls):=by
 refine⟨[.d (.list (rs.map eZ)),.d (eDe d)],?_⟩
 unfold Dg
 dsimp only
 rw[WN I hd]
 have h:=U6 I hd
 revert h
 cases res rs d with
 |inl l=>exact fun _=>if_pos (Zh l)
 |inr n=>exact fun h=>if_pos (h.2 n rfl)
def hV{c:DT}{a b:DX}{τ t4:DS}(h:c τ=some (true,t4)):dIf c a b τ=a t4:=by
 unfold dIf;rw[h];rfl
def hZ{c:DT}{a b:DX}{τ t4:DS}(h:c τ=some (false,t4)):dIf c a b τ=b t4:=by
 unfold dIf;rw[h];rfl
def mkB(rs:List Rz)(h:Tx):Bool:=match Ac rs h with
 |some q=>decide (kz q.d=9)
 |none=>false
def Xy(rs:List Rz)(h:Tx):∃ls,Fs [.d (.list (rs.map eZ)),.d (eT h)]=some (.bool (mkB rs h),ls):=by
 let D:PyData:=.list (rs.map eZ)
 obtain⟨l,e⟩:=Cq rs h
 let t9:DS:=[some (.d D),some (.d (eT h)),none]
 let τ:PyData->DS:=fun x=>[some (.d D),some (.d (eT h)),some (.d x)]
 have z:AI (AB Av qe) QH t9=some (.nx (τ (oZ (Ac rs h)))):=AU (t4:=t9) (cQ t9 [D,eT h] rfl rfl e) rfl
 refine⟨[.d D,.d (eT h)],?_⟩
 unfold Fs mkB
 cases hf:Ac rs h with
 |none =>
  rw[hf]at z
  exact AL (τ:=τ .none) ((AE z).trans (AX (Y9 (t4:=τ .none) rfl))) rfl rfl
 |some q =>
  rw[hf]at z
  exact AL (τ:=τ (eZ q)) ((AE z).trans (AX ((EU (t4:=τ (eZ q)) rfl).trans (oQ (eT (kS (kz q.d))) (eT (kS 9)) (τ (eZ q)) (AW (t4:=τ (eZ q)) (rs:=[.d (eZ q)]) (ds:=[eZ q]) (ls:=[.d (eZ q)]) rfl rfl rfl) rfl (kq (Cc _) (by decide)))))) rfl rfl
def mnt(rs:List Rz):De->Option Rz
 |.put r=>some r
 |d=>Ac rs (nmD d)
def Vt{rs:List Rz}{d:De}(h:wdD d≠0):mnt rs d=Ac rs (nmD d):=by
 cases d with
 |put r=>exact absurd rfl h
 |_=>rfl
def VE{rs:List Rz}{d:De}(hd:Hu rs d)(h:wdD d=0):∃r,d = .put r:=by
 cases d with
 |put r=>exact⟨r,rfl⟩
 |nm i n=>rcases hd with z|z|z|z|z<;>(rw[show wdD (.nm i n)=i from rfl]at h;omega)
 |mv _ _ _=>exact absurd h (show 4≠0 by decide)
 |tn _ _=>exact absurd h (show 5≠0 by decide)
 |sz _ _ _=>exact absurd h (show 6≠0 by decide)
 |ch _ _=>exact absurd h (show 7≠0 by decide)
def Vs{rs l:List Rz}{d:De}(h:res rs d = .inl l):∃r,mnt rs d=some r:=by
 cases d with
 |put r=>exact⟨r,rfl⟩
 |_ =>
  show ∃r,Ac rs _=some r
  unfold res at h
  dsimp only at h
  split at h
  ·cases h
  ·rename_i e;exact⟨_,e⟩
def tch(rs:List Rz)(d:De)(r:Rz):Tx:=if (decide (wdD d<4)&&mkB rs r.h)=true then r.h else r.n
def w4{i:Nat}(h:i<10):wS i∈[wS 0,wS 1,wS 2,wS 3]↔i<4:=by
 simp only[List.mem_cons,List.not_mem_nil,or_false]
 have q:∀j,j<10->(wS i=wS j↔i=j):=fun j hj=>⟨Gk h hj,fun e=>by rw[e]⟩
 rw[q 0 (by decide),q 1 (by decide),q 2 (by decide),q 3 (by decide)]
 omega
def w3{i:Nat}(h:i<10):wS i∈[wS 1,wS 2,wS 3]↔i=1\/i=2\/i=3:=by
 simp only[List.mem_cons,List.not_mem_nil,or_false]
 have q:∀j,j<10->(wS i=wS j↔i=j):=fun j hj=>⟨Gk h hj,fun e=>by rw[e]⟩
 rw[q 1 (by decide),q 2 (by decide),q 3 (by decide)]
def Vv{rs:List Rz}{d:De}{r:Rz}(hd:Hu rs d)(h:mnt rs d=some r):∃ls,EO [.d (.list (rs.map eZ)),.d (eDe d)]=some (eZ r,ls):=by
 let D:PyData:=.list (rs.map eZ)
 let W:=eDe d
 let τ:DS:=[some (.d D),some (.d W)]
 have c:qy τ=some (decide (wdD d=0),τ):=tst (oQ (eT (wS (wdD d))) (eT (wS 0)) τ (oQ W (.int 0) τ rfl rfl (UI hd)) rfl (wq (LA hd) (by decide)))
 refine⟨[.d D,.d W],?_⟩
 unfold EO
 by_cases h0:wdD d=0
 ·rw[decide_eq_true h0]at c
  obtain⟨r',rfl⟩:=VE hd h0
  cases h
  exact AL (τ:=τ) (AX ((hV c).trans rfl)) rfl rfl
 ·rw[decide_eq_false h0]at c
  rw[Vt h0]at h
  obtain⟨hr,hn⟩:=FP h
  rw[<- hn]at h
  obtain⟨l,e⟩:=M0 h
  have w1:=WK (d:=d) (by omega)
  exact AL (τ:=τ) (AX ((hZ c).trans (cQ τ [D,eT r.n] (acc (t4:=τ) rfl (acc (oQ W (.int 1) τ rfl rfl (by rw[hn];exact w1)) rfl)) rfl e))) rfl rfl
def MO{rs:List Rz}{d:De}{r:Rz}(hd:Hu rs d)(h:mnt rs d=some r):∃ls,DV [.d (.list (rs.map eZ)),.d (eDe d)]=some (eT (tch rs d r),ls):=by
 let D:PyData:=.list (rs.map eZ)
 let W:=eDe d
 obtain⟨l1,e1⟩:=Vv hd h
 obtain⟨l2,e2⟩:=Xy rs r.h
 let t9:DS:=[some (.d D),some (.d W),none]
 let τ:DS:=[some (.d D),some (.d W),some (.d (eZ r))]
 have z:AI (AB EO qe) QH t9=some (.nx τ):=AU (t4:=t9) (cQ t9 [D,W] rfl rfl e1) rfl
 have hh:AB AK qZ τ=some (eT r.h,τ):=AW (t4:=τ) (rs:=[.d (eZ r)]) (ds:=[eZ r]) (ls:=[.d (eZ r)]) rfl rfl rfl
 have c:An Q7 (AD (AB Fs (AA qB (AA (AB AK qZ) AF)))) τ=some (decide (wdD d<4)&&mkB rs r.h,τ) :=
  Fh (tst (oQ (eT (wS (wdD d))) (.tuple ([wS 0,wS 1,wS 2,wS 3].map eT)) τ (oQ W (.int 0) τ rfl rfl (UI hd)) rfl ((inT _ _).trans (congrArg (fun b=>some (PyData.bool b)) (decide_eq_decide.mpr (w4 (LA hd))))))) (tst (cQ τ [D,eT r.h] (acc (t4:=τ) rfl (acc hh rfl)) rfl e2))
 refine⟨[.d D,.d W],?_⟩
 unfold DV tch
 cases hb:(decide (wdD d<4)&&mkB rs r.h) with
 |true =>
  rw[hb]at c
  exact AL (τ:=τ) ((AE z).trans (As ((A3 c).trans (AX hh)))) rfl rfl
 |false =>
  rw[hb]at c
  exact AL (τ:=τ) ((AE z).trans ((AE ((Ae c).trans rfl)).trans (AX (AW (t4:=τ) (rs:=[.d (eZ r)]) (ds:=[eZ r]) (ls:=[.d (eZ r)]) rfl rfl rfl)))) rfl rfl
def NR{rs:List Rz}{d:De}{r:Rz}(ok:OkZ rs)(hd:Hu rs d)(h:mnt rs d=some r):∃ls,ER [.d (.list (rs.map eZ)),.d (eDe d)]=some (eT (tch rs d r),ls):=by
 let D:PyData:=.list (rs.map eZ)
 let W:=eDe d
 have hlt:=LA hd
 let st:Option L->Option L->Option L->DS:=fun a b c=>[some (.d D),some (.d W),a,b,c]
 have tl:∀nm hh:Tx,∃o,AH (AI (AB Aj (AA qB qg)) (dN 4)) jP (st (oT nm) (oT hh) none)=some (.rt (eT (if mkB rs hh=true then hh else nm)) (st (oT nm) (oT hh) o)):=fun nm hh=>by
  obtain⟨l,e⟩:=Eh rs hh
  have z:AI (AB Aj (AA qB qg)) (dN 4) (st (oT nm) (oT hh) none)=some (.nx (st (oT nm) (oT hh) (some (.d (oZ (Ac rs hh)))))):=AU (t4:=st (oT nm) (oT hh) none) (cQ (st (oT nm) (oT hh) none) [D,eT hh] rfl rfl e) rfl
  refine⟨some (.d (oZ (Ac rs hh))),(AE z).trans ?_⟩
  unfold mkB
  cases hf:Ac rs hh with
  |none=>rfl
  |some q =>
   let τ:=st (oT nm) (oT hh) (some (.d (eZ q)))
   have c:qd τ=some (true&&decide (kz q.d=9),τ):=Fh (tst (oQ (eZ q) (.none) τ rfl rfl rfl)) (tst (oQ (eT (kS (kz q.d))) (eT (kS 9)) τ rfl rfl (kq (Cc _) (by decide))))
   rw[mB]at c
   by_cases h9:kz q.d=9
   ·rw[decide_eq_true h9]at c
    rw[if_pos (decide_eq_true h9)]
    exact As ((A3 c).trans rfl)
   ·rw[decide_eq_false h9]at c
    rw[if_neg (show ¬decide (kz q.d=9)=true by rw[decide_eq_false h9];decide)]
    exact(AE ((Ae c).trans rfl)).trans rfl
 have c0:∀a,qy (st a (oT t0) none)=some (decide (wdD d=0),st a (oT t0) none):=fun a=>tst (oQ (eT (wS (wdD d))) (eT (wS 0)) (st a (oT t0) none) (oQ W (.int 0) (st a (oT t0) none) rfl rfl (UI hd)) rfl (wq hlt (by decide)))
 refine⟨[.d D,.d W],?_⟩
 unfold ER tch
 by_cases h0:wdD d=0
 ·obtain⟨r',rfl⟩:=VE hd h0
  cases h
  have c:=c0 (some (.d (eZ r)))
  rw[decide_eq_true h0]at c
  obtain⟨o,e⟩:=tl r.n r.h
  exact AL (τ:=st (oT r.n) (oT r.h) o) ((AE (t4:=st (some (.d (eZ r))) none none) rfl).trans ((AE (t4:=st (some (.d (eZ r))) (oT t0) none) rfl).trans ((AE (t4:=st (oT r.n) (oT r.h) none) ((A3 c).trans rfl)).trans e))) rfl rfl
 ·rw[Vt h0]at h
  obtain⟨hr,hn⟩:=FP h
  have w1:AN W (.int 1)=some (eT r.n):=by rw[hn];exact WK (by omega)
  have c:=c0 (oT r.n)
  rw[decide_eq_false h0]at c
  let t7:=st (oT r.n) (oT t0) none
  have z1:AI j5 QH (st none none none)=some (.nx (st (oT r.n) none none)):=AU (t4:=st none none none) (oQ W (.int 1) (st none none none) rfl rfl w1) rfl
  have c3:QS t7=some (decide (wdD d=1\/wdD d=2\/wdD d=3),t7):=tst (oQ (eT (wS (wdD d))) (.tuple ([wS 1,wS 2,wS 3].map eT)) t7 (oQ W (.int 0) t7 rfl rfl (UI hd)) rfl ((inT _ _).trans (congrArg (fun b=>some (PyData.bool b)) (decide_eq_decide.mpr (w3 hlt)))))
  by_cases h3:wdD d=1\/wdD d=2\/wdD d=3
  ·rw[decide_eq_true h3]at c3
   rw[decide_eq_true (show wdD d<4 by omega),mB]
   obtain⟨l,ea⟩:=Eh rs r.n
   rw[hn,h,<- hn]at ea
   obtain⟨o,e⟩:=tl r.n r.h
   have z3:AI (dOp AN (AB Aj (AA qB qZ)) qH) Qv t7=some (.nx (st (oT r.n) (oT r.h) none)):=AU (t4:=t7) (oQ (eZ r) (.int 1) t7 (cQ t7 [D,eT r.n] rfl rfl ea) rfl rfl) rfl
   exact AL (τ:=st (oT r.n) (oT r.h) o) ((AE z1).trans ((AE (t4:=t7) rfl).trans ((AE ((Ae c).trans ((A3 c3).trans z3))).trans e))) rfl rfl
  ·rw[decide_eq_false h3]at c3
   rw[decide_eq_false (show ¬wdD d<4 by omega),Bool.false_and,if_neg (by decide)]
   obtain⟨o,e⟩:=tl r.n t0
   have m0:mkB rs t0=false:=by unfold mkB;rw[OG ok]
   rw[m0,if_neg (by decide)]at e
   exact AL (τ:=st (oT r.n) (oT t0) o) ((AE z1).trans ((AE (t4:=t7) rfl).trans ((AE ((Ae c).trans ((Ae c3).trans rfl))).trans e))) rfl rfl
def XJ{np i:Nat}{e:DX}{τ t4:DS}{d:PyData}(h:e τ=some (d,t4))(h1:np<=i)(h2:i<t4.length)(h3:t4.all okM=true):F5 np i e τ=some (.nx (t4.set i (some (.g d)))):=by
 unfold F5
 rw[h]
 show(if np<=i/\i<t4.length/\t4.all okM=true then _ else _)=_
 rw[if_pos ⟨h1,h2,h3⟩]
def Of{i:Nat}{f:DT}{τ t4:DS}{b:Bool}{xs:List PyData}(hi:τ[i]?=some (some (.g (.tuple xs))))(hf:f (τ.set i (some (.d (.tuple xs))))=some (b,t4))(hx:t4.all okM=true):GK i f τ=some (b,t4.set i (some (.g (.tuple xs)))):=by
 unfold GK
 rw[hi]
 dsimp only
 rw[hf]
 dsimp only[Option.bind]
 rw[if_pos hx]
def kB(rs:List Rz):fNe (.list (rs.map eZ)) (.list (rs.map eZ))=some (.bool false):=by rw[encZ.fNeL,decide_eq_true rfl];rfl
def kC(rs:List Rz):fEq (.list (rs.map eZ)) (.list (rs.map eZ))=some (.bool true):=by rw[encZ.fEqL,decide_eq_true rfl]
def U5{rs:List Rz}(I:Iv rs){d:De}(hd:Hu rs d):∃ls,Ek [.d (.list (rs.map eZ)),.d (eDe d)]=some (.bool true,ls):=by
 let D:PyData:=.list (rs.map eZ)
 let W:=eDe d
 obtain⟨l2,e2⟩:=bh I hd
 obtain⟨l3,e3⟩:=Z6 I hd
 have ro:=U6 I hd
 have eX:=WN I hd
 have mt:=fun l=>Vs (rs:=rs) (l:=l) (d:=d)
 revert e2 e3 ro eX mt
 generalize res rs d=x
 intro e2 e3 ro eX mt
 rw[YR]at e2 e3
 have so:=Z0 ro
 let w:Tx:=⟨wdR x,so⟩
 let X:PyData:=.tuple [.str (wdR x),mdR x]
 let s0:DS:=[some (.d D),some (.d W),none,none,none]
 let s1:DS:=[some (.d D),some (.d W),some (.d D),none,none]
 let s2:DS:=[some (.d D),some (.d W),some (.d D),some (.d X),none]
 let sg:PyData->DS:=fun y=>[some (.d D),some (.d W),some (.d D),some (.d X),some (.g y)]
 let sb:DS:=[some (.d D),some (.d W),some (.d D),some (.d X),some (.d X)]
 have z1:AI (Ak Bj qF) QH s0=some (.nx s1):=AU (d:=D) (t4:=s0) (E8 (d:=D) (t4:=s0) rfl rfl) rfl
 have z2:AI (AB Fu qe) Qv s1=some (.nx s2):=AU (d:=X) (t4:=s1) (cQ s1 [D,W] rfl rfl e2) rfl
 have z3:F5 2 4 (AB Dg jM) s2=some (.nx (sg X)):=XJ (cQ s2 [D,W] rfl rfl e3) (by decide) (show 4<5 by decide) rfl
 have c4:qq (sg X)=some (false,sg X) :=
  Of (xs:=[.str (wdR x),mdR x]) (t4:=sb) rfl (Hn (t4:=sb) (tst (oQ (eT w) (eT w) sb rfl rfl ((Ku w w).trans (by rw[decide_eq_true rfl];rfl)))) (tst (oQ D D sb rfl rfl (kB rs)))) rfl
 have c5:QV (sg X)=some (!decide (w=t0),sg X):=tst (oQ (eT w) (eT t0) (sg X) rfl rfl (Ku w t0))
 have pre:∀{a:DB} {Aw:DB} {o:Out},AH (AO QV a AQ) Aw (sg X)=some o->AH (AI (Ak Bj qF) QH) (AH (AI (AB Fu qe) Qv) (AH (F5 2 4 (AB Dg jM)) (AH (AO qq qU AQ) (AH (AO QV a AQ) Aw)))) s0=some o:=fun k=>(AE z1).trans ((AE z2).trans ((AE z3).trans ((AE ((Ae c4).trans rfl)).trans k)))
 refine⟨[.d D,.d W],?_⟩
 unfold Ek
 cases x with
 |inr n =>
  rw[decide_eq_false fun z=>(Ui ⟨n,ro.2 n rfl⟩).2 (congrArg Subtype.val z)]at c5
  exact AL (τ:=sg X) (pre (As ((A3 c5).trans rfl))) rfl rfl
 |inl l =>
  rw[decide_eq_true (show w=t0 from nR rfl)]at c5
  have I':=ro.1 l rfl
  obtain⟨r,hr⟩:=mt l rfl
  obtain⟨l4,e4⟩:=NU (rs:=l) (lA I'.ln (by decide))
  obtain⟨l5,e5⟩:=MO hd hr
  obtain⟨l6,e6⟩:=NR I.ok hd hr
  let B:PyData:=.list (l.map eZ)
  have c6:GK 4 (BQ (Ao (AD (AB Bo (AA (dOp AN Qd qH) Qm)))) (AD (dOp fNe (AB DV jM) (AB ER qe)))) (sg X)=some (false,sg X) :=
   Of (xs:=[.str (wdR (.inl l)),mdR (.inl l)]) (t4:=sb) rfl (Hn (t4:=sb) (DN (tst (b:=true) (cQ sb [B,B] rfl rfl e4))) (tst (oQ (eT (tch rs d r)) (eT (tch rs d r)) sb (cQ sb [D,W] rfl rfl e5) (cQ sb [D,W] rfl rfl e6) ((Ku _ _).trans (by rw[decide_eq_true rfl];rfl))))) rfl
  let X1:PyData:=.tuple [.str "",.list (l.map eZ++[PyData.none])]
  let X2:PyData:=.tuple [.str "",.list (l.map eZ++[PyData.none]).reverse]
  have ea:Rb (l.map eZ) [.none]=some (l.map eZ++[PyData.none]):=if_pos (by rw[B'];exact Nat.lt_of_le_of_lt I'.ln (by decide))
  have z7:OM 4 (dPT dPV qH) qb Rb (sg X)=some (.nx (sg X1)):=by
   show Option.map Out.nx (if fixDs [PyData.none]=true/\sb.all okM=true then Option.map _ (Rb (l.map eZ) [.none]) else none)=_
   rw[if_pos ⟨rfl,rfl⟩,ea];rfl
  have z8:OM 4 (dPT dPV qH) AF Vq (sg X1)=some (.nx (sg X2)):=rfl
  have z9:Bm (AB Bo (AA (AB G9 jM) Qm)) (dOp fEq qI qB) (sg X2)=some (.bool true,sg X2) :=
   (EU (t4:=sg X2) (cQ (sg X2) [B,B] (acc (t4:=sg X2) (cQ (sg X2) [D,W] rfl rfl (ZY (ds:=[D,W]) eX)) rfl) rfl e4)).trans (oQ D D (sg X2) rfl rfl (kC rs))
  exact AL (τ:=sg X2) (pre ((AE ((Ae c5).trans rfl)).trans ((AE ((Ae c6).trans rfl)).trans ((AE z7).trans ((AE z8).trans (AX z9)))))) rfl rfl
def Xz{ns:List Int}(a b:Int):∃(m:Int) (ls:List L),JB [.c (ns.map .int),.d (.int a),.d (.int b)]=some (.int m,ls)/\(m=a\/m=b):=by
 obtain⟨v,e⟩:=Ju (ns:=ns) (k:=1) (by decide)
 let τ:DS:=[some (.c (ns.map .int)),oI a,oI b]
 have c:AD (dOp fEq (dOp Af (dOp Af (AZ 0 Bg (AA qH AF)) (dC (.int 1000003))) qu) qz) τ=some (decide (v % 1000003 % 8=3),τ):=tst (oQ (.int (v % 1000003 % 8)) (.int 3) τ (oQ (.int (v % 1000003)) (.int 8) τ (oQ (.int v) (.int 1000003) τ (E7 (xs:=ns.map .int) (t4:=τ) (rs:=[.d (.int 1)]) (ds:=[.int 1]) rfl rfl rfl e) rfl (BA (by decide))) rfl (BA (by decide))) rfl (encI.fEq _ _))
 by_cases h:v % 1000003 % 8=3
 ·rw[decide_eq_true h]at c
  exact⟨b,[.c (ns.map .int),.d (.int a),.d (.int b)],AL (τ:=τ) (As ((A3 c).trans rfl)) rfl rfl,.inr rfl⟩
 ·rw[decide_eq_false h]at c
  exact⟨a,[.c (ns.map .int),.d (.int a),.d (.int b)],AL (τ:=τ) ((AE ((Ae c).trans rfl)).trans rfl) rfl rfl,.inl rfl⟩
def PV(ns:List Int)(h63:ns.length<=63):∃ls,Ln [.c (ns.map .int)]=some (.bool true,ls):=by
 let C:Option L:=some (.c (ns.map .int))
 obtain⟨v,l0,e0⟩:=Ww (ns:=ns) (k:=0) (by decide)
 obtain⟨m,lm,em,hm⟩:=Xz (ns:=ns) (v % 13) 24
 have hm0:0<=m/\m<=24:=by omega
 obtain⟨rs,l1,e1,ok,vt,hl,_⟩:=Og (ns:=ns) (f:=1) (m:=m) (by decide) hm0.1 hm0.2
 have I:Iv rs:=⟨ok,vt,by omega⟩
 let D:PyData:=.list (rs.map eZ)
 let Gb:DS:=[C,none,none]
 let st:Option L->DS:=fun o=>[C,some (.d D),o]
 have z1:AI (AZ 0 Dj (AA qH (AA (AZ 0 JB (AA (dOp Af (AZ 0 Dk (AA qD AF)) (dC (.int 13))) (AA (dC (.int 24)) AF))) AF))) (dN 1) Gb=some (.nx (st none)):=AU (d:=D) (t4:=Gb) (E7 (xs:=ns.map .int) (t4:=Gb) (rs:=[.d (.int 1),.d (.int m)]) (ds:=[.int 1,.int m]) (acc (t4:=Gb) rfl (acc (E7 (xs:=ns.map .int) (t4:=Gb) (rs:=[.d (.int (v % 13)),.d (.int 24)]) (ds:=[.int (v % 13),.int 24]) (acc (oQ (.int v) (.int 13) Gb (E7 (xs:=ns.map .int) (t4:=Gb) (rs:=[.d (.int 0)]) (ds:=[.int 0]) rfl rfl rfl e0) rfl (BA (by decide))) rfl) rfl rfl em) rfl)) rfl rfl e1) rfl
 let L:Int:=((ns.map PyData.int).length:Nat)
 let q:Int:=if L-14<12 then L-14 else 12
 let N:Int:=if q>6 then q else 6
 have q1:q<=12:=by show(if L-14<12 then L-14 else 12)<=12;split<;>omega
 have N0:6<=N/\N<=12:=by show 6<=(if q>6 then q else 6)/\(if q>6 then q else 6)<=12;split<;>omega
 have lp:∃t5,BC QH (AO (Ao (AD (AB Ek (AA qE (AA (AB ES (AA qE (AA (dOp Ay (AZ 0 Dk Qi) qI) AF))) AF))))) qU AQ) ((List.range N.toNat).map fun(k:Nat)=>PyData.int (k:Int)) (st none)=some (.nx t5)/\∃o,nM o/\t5=st o:=by
  refine C4 (fun(pre:List Nat) τ=>∃o,nM o/\τ=st o) ⟨none,BI,rfl⟩ ?_
  rintro pre k post τ _ ⟨o,no,rfl⟩
  let t:=st (oI (k:Int))
  obtain⟨v,l0,e0⟩:=Ww (ns:=ns) (k:=14+(k:Int)) (by omega)
  obtain⟨d,l1,e1,hd⟩:=Ro I (v+k)
  obtain⟨l2,e2⟩:=U5 I hd
  have c:Ao (AD (AB Ek (AA qE (AA (AB ES (AA qE (AA (dOp Ay (AZ 0 Dk Qi) qI) AF))) AF)))) t=some (false,t):=DN (tst (b:=true) (cQ t [D,eDe d] (acc (t4:=t) rfl (acc (cQ t [D,.int (v+k)] (acc (t4:=t) rfl (acc (oQ (.int v) (.int k) t (E7 (xs:=ns.map .int) (t4:=t) (rs:=[.d (.int (14+(k:Int)))]) (ds:=[.int (14+(k:Int))]) rfl rfl rfl e0) rfl rfl) rfl)) rfl e1) rfl)) rfl e2))
  exact⟨t,t,Cv (o:=o) rfl no,(Ae c).trans rfl,_,DQ,rfl⟩
 obtain⟨t5,e,o,_,rfl⟩:=lp
 rw[<- Io]at e
 refine⟨[.c (ns.map .int)],?_⟩
 unfold Ln
 refine AL (τ:=st o) ?_ rfl rfl
 exact(AE z1).trans ((AE ((Cw (KZ (n:=N) (t4:=st none) rfl (by omega) (by omega))).trans e)).trans rfl)
def all_mk{l:PySem.W.OpenLaw}{w:World}{K:PySem.W.Frag}{h:Heap}{mg:Str->Option Value}{fa:Addr}(X:K.In h)(G:h.Ns mainGlobals mg)(hfa:mg "law"=some (.ref fa))
  (d0:DE K "_law_name_of" KQ)
  (d1:DE K "_law_step_of" KN)
  (d2:DE K "_law_up" U4)
  (d3:DE K "_law_low" SS)
  (d4:DE K "_law_share_of" Ik)
  (d5:DE K "_law_paint_of" Im)
  (d6:DE K "_law_stencil_of" Gu)
  (d7:DE K "_law_size_of" KO)
  (d8:DE K "_law_word_of" KJ)
  (d9:DE K "_law_data_of" KS)
  (d10:DE K "_law_kinds" Mz)
  (d11:DE K "_law_row_of" LZ)
  (d12:DE K "_law_cell_at" KU)
  (d13:DE K "_law_big" SU)
  (d14:DE K "_law_scene_of" Il)
  (d15:DE K "_law_many" Ol)
  (d16:DE K "_law_row_at" La)
  (d17:DE K "is_text_of" Ih)
  (d18:DE K "is_name" Ms)
  (d19:DE K "is_truth" LP)
  (d20:DE K "is_whole" LO)
  (d21:DE K "is_within" J8)
  (d22:DE K "common_divisor" Fm)
  (d23:DE K "is_share" LR)
  (d24:DE K "is_bounded_share" Ep)
  (d25:DE K "is_paint" LW)
  {f26:Addr} {g26:FuncData} (d26:DF K "is_plate" LU f26 g26)
  {f27:Addr} {g27:FuncData} (d27:DF K "is_band" Mv f27 g27)
  (d28:DE K "is_sign" Mr)
  (d29:DE K "is_word_text" Gs)
  {f30:Addr} {g30:FuncData} (d30:DF K "is_word" Mp f30 g30)
  (d31:DE K "are_stencil_rows" Er)
  {f32:Addr} {g32:FuncData} (d32:DF K "is_stencil" Ii f32 g32)
  {f33:Addr} {g33:FuncData} (d33:DF K "is_empty" LY f33 g33)
  {f34:Addr} {g34:FuncData} (d34:DF K "is_glass" LX f34 g34)
  (d35:DE K "is_place" LV)
  {f36:Addr} {g36:FuncData} (d36:DF K "is_window" J9 f36 g36)
  {f37:Addr} {g37:FuncData} (d37:DF K "is_turn" Mq f37 g37)
  {f38:Addr} {g38:FuncData} (d38:DF K "are_tiles" KI f38 g38)
  (d39:DE K "is_data" Mu)
  (d40:DE K "row_name" LJ)
  (d41:DE K "row_holder" Ie)
  (d42:DE K "row_shown" J4)
  (d43:DE K "row_kind" LK)
  (d44:DE K "row_data" LM)
  (d45:DE K "row_x" SQ)
  (d46:DE K "row_y" SO)
  (d47:DE K "is_row" Oi)
  (d48:DE K "_law_with" Oj)
  (d49:DE K "_law_put" SR)
  (d50:DE K "row_found" J6)
  (d51:DE K "holders_of" Ij)
  (d52:DE K "parts_in" LN)
  (d53:DE K "_law_ordered" KP)
  (d54:DE K "_law_deed" Om)
  (d55:DE K "row_of" Oh)
  (d56:DE K "row_with_shown" Fj)
  (d57:DE K "row_with_place" Fl)
  (d58:DE K "row_with_data" Gg)
  (d59:DE K "row_turned" Ic)
  (d60:DE K "row_sized" J3)
  (d61:DE K "row_done" LL)
  (d62:DE K "rows_changed" Gq)
  (d63:DE K "is_holder" KC)
  (d64:DE K "is_tiles" LQ)
  (d65:DE K "vet_row" Mo)
  (d66:DE K "vet" ZR)
  (d67:DE K "rows_put" LI)
  (d68:DE K "names_with" Ig)
  (d69:DE K "rows_without" Gp)
  (d70:DE K "rows_with" Jz)
  (d71:DE K "rows_raised" Hx)
  (d72:DE K "place_behind" Gr)
  (d73:DE K "rows_sunk" J0)
  (d74:DE K "deed_done" KG)
  {f75:Addr} {g75:FuncData} (d75:DF K "_law_which" Au f75 g75)
  {f76:Addr} {g76:FuncData} (d76:DF K "_law_told" Bt f76 g76)
  (d77:DE K "_law_same_rows" Hy)
  (d78:DE K "row_meant" J5)
  (d79:DE K "is_mask" Mt)
  (d80:DE K "touched_by" Ib)
  (d81:DE K "_law_touched" KL)
  (d82:DE K "_law_right" Mw)
  (d83:DE K "_law_deed_of" KR)
  (d84:DE K "law" ZS)
  (z_ValueError:PySem.W.nsIn K mainGlobals "ValueError"=some none)
  (z_abs:PySem.W.nsIn K mainGlobals "abs"=some none)
  (z_all:PySem.W.nsIn K mainGlobals "all"=some none)
  (z_any:PySem.W.nsIn K mainGlobals "any"=some none)
  (z_bool:PySem.W.nsIn K mainGlobals "bool"=some none)
  (z_enumerate:PySem.W.nsIn K mainGlobals "enumerate"=some none)
  (z_int:PySem.W.nsIn K mainGlobals "int"=some none)
  (z_isinstance:PySem.W.nsIn K mainGlobals "isinstance"=some none)
  (z_len:PySem.W.nsIn K mainGlobals "len"=some none)
  (z_list:PySem.W.nsIn K mainGlobals "list"=some none)
  (z_max:PySem.W.nsIn K mainGlobals "max"=some none)
  (z_min:PySem.W.nsIn K mainGlobals "min"=some none)
  (z_range:PySem.W.nsIn K mainGlobals "range"=some none)
  (z_str:PySem.W.nsIn K mainGlobals "str"=some none)
  (z_tuple:PySem.W.nsIn K mainGlobals "tuple"=some none)
  {uv_AMONG_OTHERS:Value} (kn_AMONG_OTHERS:PySem.W.nsIn K mainGlobals "AMONG_OTHERS"=some (some uv_AMONG_OTHERS)) (kt_AMONG_OTHERS:BK ⟨K,w⟩ (.tuple [(.str "put"),(.str "take"),(.str "raise"),(.str "sink")]) uv_AMONG_OTHERS=true)
  {ad_FORMS:Addr} {es_FORMS:Array DictEntry} {nn_FORMS:Nat} (kn_FORMS:PySem.W.nsIn K mainGlobals "FORMS"=some (some (.ref ad_FORMS))) (kl_FORMS:K.lookup ad_FORMS=some ⟨.type "dict",none,.dict es_FORMS nn_FORMS,#[]⟩) (kq_FORMS:KfL w es_FORMS.toList [("plate",f26),("band",f27),("word",f30),("stencil",f32),("group",f33),("glass",f34),("window",f36),("turn",f37),("tiles",f38),("mask",f33)]) (hs_FORMS:(ad_FORMS==sysModules)=false)
  {uv_HOLDERS:Value} (kn_HOLDERS:PySem.W.nsIn K mainGlobals "HOLDERS"=some (some uv_HOLDERS)) (kt_HOLDERS:BK ⟨K,w⟩ (.tuple [(.str "group"),(.str "glass"),(.str "window"),(.str "turn"),(.str "tiles"),(.str "mask")]) uv_HOLDERS=true)
  {tk_MOST_HOLDERS:Tok} (kn_MOST_HOLDERS:PySem.W.nsIn K mainGlobals "MOST_HOLDERS"=some (some (.int 6 tk_MOST_HOLDERS)))
  {tk_MOST_ROWS:Tok} (kn_MOST_ROWS:PySem.W.nsIn K mainGlobals "MOST_ROWS"=some (some (.int 24 tk_MOST_ROWS)))
  {uv_NAME_SIGNS:Value} (kn_NAME_SIGNS:PySem.W.nsIn K mainGlobals "NAME_SIGNS"=some (some uv_NAME_SIGNS)) (kt_NAME_SIGNS:BK ⟨K,w⟩ (.str "abcdefghijklmnopqrstuvwxyz0123456789") uv_NAME_SIGNS=true)
  {ad_SIGNS:Addr} {es_SIGNS:Array DictEntry} {nn_SIGNS:Nat} (kn_SIGNS:PySem.W.nsIn K mainGlobals "SIGNS"=some (some (.ref ad_SIGNS))) (kl_SIGNS:K.lookup ad_SIGNS=some ⟨.type "dict",none,.dict es_SIGNS nn_SIGNS,#[]⟩) (kq_SIGNS:KdL ⟨K,w⟩ w es_SIGNS.toList Fg) (hs_SIGNS:(ad_SIGNS==sysModules)=false)
  {c_NoPart:Addr} (ac_NoPart:PySem.W.nsIn K mainGlobals "NoPart"=some (some (.ref c_NoPart))) (qc_NoPart:PySem.W.excIn K c_NoPart [.type "ValueError",.type "Exception",.type "BaseException",.type "object"] "ValueError.__new__"=true)
  {c_Twice:Addr} (ac_Twice:PySem.W.nsIn K mainGlobals "Twice"=some (some (.ref c_Twice))) (qc_Twice:PySem.W.excIn K c_Twice [.type "ValueError",.type "Exception",.type "BaseException",.type "object"] "ValueError.__new__"=true)
  {c_NoHolder:Addr} (ac_NoHolder:PySem.W.nsIn K mainGlobals "NoHolder"=some (some (.ref c_NoHolder))) (qc_NoHolder:PySem.W.excIn K c_NoHolder [.type "ValueError",.type "Exception",.type "BaseException",.type "object"] "ValueError.__new__"=true)
  {c_TooDeep:Addr} (ac_TooDeep:PySem.W.nsIn K mainGlobals "TooDeep"=some (some (.ref c_TooDeep))) (qc_TooDeep:PySem.W.excIn K c_TooDeep [.type "ValueError",.type "Exception",.type "BaseException",.type "object"] "ValueError.__new__"=true)
  {c_Nested:Addr} (ac_Nested:PySem.W.nsIn K mainGlobals "Nested"=some (some (.ref c_Nested))) (qc_Nested:PySem.W.excIn K c_Nested [.type "ValueError",.type "Exception",.type "BaseException",.type "object"] "ValueError.__new__"=true)
  {c_TooMany:Addr} (ac_TooMany:PySem.W.nsIn K mainGlobals "TooMany"=some (some (.ref c_TooMany))) (qc_TooMany:PySem.W.excIn K c_TooMany [.type "ValueError",.type "Exception",.type "BaseException",.type "object"] "ValueError.__new__"=true)
  {c_NoName:Addr} (ac_NoName:PySem.W.nsIn K mainGlobals "NoName"=some (some (.ref c_NoName))) (qc_NoName:PySem.W.excIn K c_NoName [.type "ValueError",.type "Exception",.type "BaseException",.type "object"] "ValueError.__new__"=true)
  {c_WrongKind:Addr} (ac_WrongKind:PySem.W.nsIn K mainGlobals "WrongKind"=some (some (.ref c_WrongKind))) (qc_WrongKind:PySem.W.excIn K c_WrongKind [.type "ValueError",.type "Exception",.type "BaseException",.type "object"] "ValueError.__new__"=true)
  {c_NoStep:Addr} (ac_NoStep:PySem.W.nsIn K mainGlobals "NoStep"=some (some (.ref c_NoStep))) (qc_NoStep:PySem.W.excIn K c_NoStep [.type "ValueError",.type "Exception",.type "BaseException",.type "object"] "ValueError.__new__"=true)
  {cSE:Addr}
  (aSE:PySem.W.nsIn K mainGlobals "SceneError"=some (some (.ref cSE)))
  (xaK:L2.excAll K cSE [c_NoPart,c_Twice,c_NoHolder,c_TooDeep,c_Nested,c_TooMany,c_NoName,c_WrongKind,c_NoStep] 8=true)
  : ∃fd:FuncData,(∀(s:Shared) (v:Value),BindsTo s fd ⟨[v],[]⟩ [("_law_script",v)])/\∀base:Heap,K.In base->base.Ns mainGlobals mg->FnOk l.prog w K mg base CX0 14 fa fd ["_law_script"] (spD ⟨K,w⟩ Ln false):=by
 refine DE.law d84 X G hfa fun base _ _ F=>?_
 let Z:Zz:=⟨l.prog,w,K,mg,base⟩
 have D:∀{x st},DE K x st->Dd Z x st:=fun d=>⟨h,X,G,d⟩
 have z_ValueError:zQ Z "ValueError":=ky X G z_ValueError
 have z_abs:zQ Z "abs":=ky X G z_abs
 have z_all:zQ Z "all":=ky X G z_all
 have z_any:zQ Z "any":=ky X G z_any
 have z_bool:zQ Z "bool":=ky X G z_bool
 have z_enumerate:zQ Z "enumerate":=ky X G z_enumerate
 have z_int:zQ Z "int":=ky X G z_int
 have z_isinstance:zQ Z "isinstance":=ky X G z_isinstance
 have z_len:zQ Z "len":=ky X G z_len
 have z_list:zQ Z "list":=ky X G z_list
 have z_max:zQ Z "max":=ky X G z_max
 have z_min:zQ Z "min":=ky X G z_min
 have z_range:zQ Z "range":=ky X G z_range
 have z_str:zQ Z "str":=ky X G z_str
 have z_tuple:zQ Z "tuple":=ky X G z_tuple
 have kc_AMONG_OTHERS:kaZ Z "AMONG_OTHERS" (.tuple [(.str "put"),(.str "take"),(.str "raise"),(.str "sink")]) uv_AMONG_OTHERS:=And.intro (kn X G kn_AMONG_OTHERS) kt_AMONG_OTHERS
 have kc_HOLDERS:kaZ Z "HOLDERS" (.tuple [(.str "group"),(.str "glass"),(.str "window"),(.str "turn"),(.str "tiles"),(.str "mask")]) uv_HOLDERS:=And.intro (kn X G kn_HOLDERS) kt_HOLDERS
 have kc_MOST_HOLDERS:kiZ Z "MOST_HOLDERS" 6 tk_MOST_HOLDERS:=kn X G kn_MOST_HOLDERS
 have kc_MOST_ROWS:kiZ Z "MOST_ROWS" 24 tk_MOST_ROWS:=kn X G kn_MOST_ROWS
 have kc_NAME_SIGNS:kaZ Z "NAME_SIGNS" (.str "abcdefghijklmnopqrstuvwxyz0123456789") uv_NAME_SIGNS:=And.intro (kn X G kn_NAME_SIGNS) kt_NAME_SIGNS
 have kc_SIGNS:kdZ Z "SIGNS" Fg:=⟨_,kn X G kn_SIGNS,⟨⟨es_SIGNS,nn_SIGNS,kl_SIGNS,kq_SIGNS⟩⟩,hs_SIGNS⟩
 let cls:Nat->Addr:=fun n=>[c_NoPart,c_Twice,c_NoHolder,c_TooDeep,c_Nested,c_TooMany,c_NoName,c_WrongKind,c_NoStep].getD n 0
 have hm_NoPart:clZ Z cls 0 "NoPart":=⟨kn X G ac_NoPart,qc_NoPart⟩
 have hm_Twice:clZ Z cls 1 "Twice":=⟨kn X G ac_Twice,qc_Twice⟩
 have hm_NoHolder:clZ Z cls 2 "NoHolder":=⟨kn X G ac_NoHolder,qc_NoHolder⟩
 have hm_TooDeep:clZ Z cls 3 "TooDeep":=⟨kn X G ac_TooDeep,qc_TooDeep⟩
 have hm_Nested:clZ Z cls 4 "Nested":=⟨kn X G ac_Nested,qc_Nested⟩
 have hm_TooMany:clZ Z cls 5 "TooMany":=⟨kn X G ac_TooMany,qc_TooMany⟩
 have hm_NoName:clZ Z cls 6 "NoName":=⟨kn X G ac_NoName,qc_NoName⟩
 have hm_WrongKind:clZ Z cls 7 "WrongKind":=⟨kn X G ac_WrongKind,qc_WrongKind⟩
 have c51:HW Z:=Nu (D d0) z_range
 have c11:EV Z:=Nq (D d1)
 have c61:OZ Z:=Xq (D d2)
 have c72:Ob Z:=Vm (D d3) z_abs
 have c34:FE Z:=Kq (D d6) z_range z_tuple
 have c49:HU Z:=Nr (D d7)
 have c50:HR Z:=Nn (D d8) z_range
 have c31:Hj Z:=RZ (D d10)
 have c17:FX Z:=Ny (D d12) z_len
 have c07:EI Z:=PJ (D d16)
 have c14:Ec Z:=MV (D d17) z_len z_str z_isinstance z_all
 have c22:GS Z:=O4 (D d19) z_bool z_isinstance
 have c21:GQ Z:=O3 (D d20) z_bool z_isinstance z_int
 have c27:EF Z:=Iz (D d22) z_abs
 have c63:Jn Z:=RT (D d28) kc_SIGNS
 have c26:IX Z:=PF (D ⟨_,_,d33⟩) z_len
 have c00:Br Z:=Oy (D d40)
 have c03:CN Z:=MT (D d41)
 have c53:HK Z:=Nf (D d42)
 have c01:CK Z:=Oz (D d43)
 have c13:FA Z:=O0 (D d44)
 have c74:OY Z:=Vj (D d45)
 have c73:OX Z:=Vi (D d46)
 have c29:EC Z:=Iw (D d56)
 have c28:ED Z:=Iy (D d57)
 have c04:CY Z:=JX (D d58)
 have c40:Ff Z:=Lj (D d77) z_list z_isinstance z_len z_range z_bool
 have c41:GW Z:=MY (D d4) c72
 have c48:K4 Z:=Vn (D d13) c17 z_range
 have c71:MI Z:=Tw (D d15) c17
 have c65:Jo Z:=RU (D d18) c14 kc_NAME_SIGNS
 have c02:CB Z:=Ni (D d21) c21
 have c60:IU Z:=O6 (D d23) c21 c27 z_len z_tuple z_isinstance
 have c35:FD Z:=Kp (D d29) c63 z_len z_str z_isinstance z_all
 have c20:DJ Z:=Hq (D d31) c14 z_len z_tuple z_isinstance z_all
 have c05:DM Z:=Nh (D d50) c00
 have X_row_turned:GN Z cls:=Lk (D d59) c01 c13 c04 hm_WrongKind
 have X_row_sized:HI Z cls:=Mc (D d60) c01 c04 c13 hm_WrongKind
 have c54:HN Z:=Nk (D d63) c01 kc_HOLDERS
 have c57:HS Z:=Np (D d81) c07
 have c42:GZ Z:=Mb (D d5) c41
 have c08:CQ Z:=Ho (D d24) c60
 have c23:GV Z:=O8 (D d35) c02
 have c45:Jm Z:=RS (D ⟨_,_,d37⟩) c22 c02 z_len
 have c33:HP Z:=Nm (D ⟨_,_,d38⟩) c02 z_len
 have c15:Ed Z:=MX (D d51) c05 c03
 have X_row_of:MG Z cls:=Ra (D d55) c05 hm_NoName
 have c10:F6 Z:=Xl.plain X_row_of
 have X_row_done:IQ Z cls:=N2 (D d61) c28 c04 c29 X_row_turned X_row_sized
 have c64:Jp Z:=RV (D d79) c05 c01
 have c18:FV Z:=Nx (D d9) c49 c11 c42 c50 c34
 have c09:EE Z:=O9 (D d25) c08
 have c38:IW Z:=PB (D ⟨_,_,d34⟩) c08 z_len
 have c32:HM Z:=Nj (D ⟨_,_,d36⟩) c23 c02 z_len
 have c24:GP Z:=O1 (D d52) c15 c00
 have c62:IS Z:=O5 (D d64) c01 c10
 have c36:FC Z:=Ko (D d72) c10
 have c52:HL Z:=Ng (D d78) c10
 have c25:GY Z:=PH (D d11) c51 c61 c31 c11 c18 z_len
 have c37:IV Z:=O7 (D ⟨_,_,d26⟩) c09 c02 z_len
 have c43:Jr Z:=RX (D ⟨_,_,d27⟩) c09 c02 z_len
 have c44:Jl Z:=RQ (D ⟨_,_,d30⟩) c09 c35 z_len
 have c30:GU Z:=MW (D ⟨_,_,d32⟩) c09 c20 z_len
 have c55:HV Z:=Nt (D d53) c24 c07 z_int
 have c16:Eb Z:=MU (D d68) c24
 have c46:GO Z:=MS (D d80) c52 c64 c03 c00 kc_AMONG_OTHERS
 have c47:GX Z:=MZ (D d14) c25 c48 z_range
 have M_is_plate:=d26.m X G
 have M_is_band:=d27.m X G
 have M_is_word:=d30.m X G
 have M_is_stencil:=d32.m X G
 have M_is_empty:=d33.m X G
 have M_is_glass:=d34.m X G
 have M_is_window:=d36.m X G
 have M_is_turn:=d37.m X G
 have M_are_tiles:=d38.m X G
 have M_is_empty:=d33.m X G
 have kc5_FORMS:kfZ Z 5 "FORMS" BW:=⟨_,[("plate",f26),("band",f27),("word",f30),("stencil",f32),("group",f33),("glass",f34),("window",f36),("turn",f37),("tiles",f38),("mask",f33)],kn X G kn_FORMS,⟨⟨es_FORMS,nn_FORMS,kl_FORMS,kq_FORMS⟩⟩,hs_FORMS,(.cons ⟨_,_,c37.mono (by decide),M_is_plate⟩ (.cons ⟨_,_,c43.mono (by decide),M_is_band⟩ (.cons ⟨_,_,c44.mono (by decide),M_is_word⟩ (.cons ⟨_,_,c30.mono (by decide),M_is_stencil⟩ (.cons ⟨_,_,c26.mono (by decide),M_is_empty⟩ (.cons ⟨_,_,c38.mono (by decide),M_is_glass⟩ (.cons ⟨_,_,c32.mono (by decide),M_is_window⟩ (.cons ⟨_,_,c45.mono (by decide),M_is_turn⟩ (.cons ⟨_,_,c33.mono (by decide),M_are_tiles⟩ (.cons ⟨_,_,c26.mono (by decide),M_is_empty⟩ .nil))))))))))⟩
 have c66:Jq Z:=RW (D d39) c37 c43 c44 c30 c26 c38 c32 c45 c33 z_tuple z_isinstance z_str kc5_FORMS
 have c06:Co Z:=Kn (D d69) c16 c00
 have c19:FU Z:=Nc (D d70) c16 c00
 have c59:HX Z:=Nv (D d83) c25 c11 c18 z_len
 have c12:F7 Z:=Tt (D d47) c65 c00 c03 c23 c73 c74 c66 c13 c01 c22 c53 z_len z_tuple z_isinstance
 have c39:Fe Z:=Lh (D d71) c06 c19
 have c56:HJ Z:=Nd (D d73) c06 c36 c03 c10 c19
 have c68:MH Z:=Tu (D d48) c12 z_int
 have c75:Oa Z:=Vl (D d49) c12 c07 c31 c61 z_len
 have X_rows_changed:E9 Z cls:=JY (D d62) c10 c12 c00 hm_NoPart X_row_done
 have X_vet_row:Jk Z cls:=PM (D d65) c12 c05 c00 c03 c54 c15 c62 c01 z_len z_any kc_MOST_HOLDERS hm_NoPart hm_Twice hm_NoHolder hm_TooDeep hm_Nested
 have c76:UX Z:=Xl.plain X_vet_row
 have c69:MJ Z:=Tz (D d54) c75 c07 c55 c68
 have X_vet:Wt Z cls:=Xt (D d66) z_enumerate z_len kc_MOST_ROWS hm_TooMany X_vet_row
 have c77:jX Z:=Xl.plain X_vet
 have X_rows_put:IP Z cls:=N1 (D d67) X_vet
 have X_deed_done:Kh Z cls:=Md (D d74) c06 c39 c56 X_rows_put X_row_of X_rows_changed
 have c58:Ki Z:=Xl.plain X_deed_done
 have c70:P0 Z:=d76.cal X G (Tv d76.2 (cs:=[c_NoPart,c_Twice,c_NoHolder,c_TooDeep,c_Nested,c_TooMany,c_NoName,c_WrongKind,c_NoStep]) rfl X_deed_done d75.2 (d75.m X G) d75.2.kp (d75.b ⋯) (kn X G aSE) xaK (kn X G ac_NoPart) (kn X G ac_Twice) (kn X G ac_NoHolder) (kn X G ac_TooDeep) (kn X G ac_Nested) (kn X G ac_TooMany) (kn X G ac_NoName) (kn X G ac_WrongKind) (kn X G ac_NoStep) z_isinstance z_ValueError z_len) ⋯
 have c67:Js Z:=RY (D d82) c69 c70 c46 c57 c40 c58 z_list
 exact au (Z:=Z) F c47 c71 c48 c67 c59 z_len z_min z_max z_range
def entry{K:KW}{H:Hp}{a:Addr}{ns:List Int}{Q:VK}{X:XK}(hS:SqL K H a (ns.map V.int))(h63:ns.length<=63)(q:∀H',Q (.bl true) H'):spD K Ln false [.ref a] H Q X:=by
 obtain⟨ls,e⟩:=PV ns h63
 refine⟨fun _=>False,fun _=>False,[.c (ns.map PyData.int)],.bool true,ls,⟨rfl,fun i x e=>?_,fun i x e=>?_,fun i x e=>?_,fun i j xs ys b e=>?_,fun _ h=>h.elim,fun _ h=>h.elim,GR.nil fun i x e=>?_⟩,e,fun v H' _ _ res=>?_⟩
 ·match i,e with
  |0,e=>cases e
  |i+1,e=>cases e
 ·match i,e with
  |0,e=>exact absurd (J' (J' e)).symm Ow.not_c
  |i+1,e=>cases e
 ·match i,e with
  |0,e =>
   cases e
   exact⟨a,ns.map V.int,rfl,WY hS,Pf ns⟩
  |i+1,e=>cases e
 ·match i,e with
  |0,e=>exact absurd (J' (J' e)).symm Ow.not_c
  |i+1,e=>cases e
 ·match i,e with
  |0,e=>cases e
  |i+1,e=>cases e
 ·cases (show v = .bl true from res)
  exact q H'
def walk{l:PySem.W.OpenLaw}{q:Program}{loose:List Str}{XP:(Str->Option Value)->Heap->Prop}{YP:World->Heap->Prop}{d:DefRec}{K:Params->PySem.W.Frag}(hn:l.most=some 63)(hdf:d.params.defaults=[])
  (hY:∀(w:World) (h:Heap),YP w h->(K w.params).In h)
  (F : ∀ (w : World) (mg : Str -> Option Value) (fa : Addr) (h : Heap), (K w.params).In h -> h.Ns mainGlobals mg -> mg d.name = some (.ref fa) ->
   ∃fd:FuncData,(∀(s:Shared) (u:Value),BindsTo s fd ⟨[u],[]⟩ [("_law_script",u)])/\∀base:Heap,(K w.params).In base->base.Ns mainGlobals mg->FnOk l.prog w (K w.params) mg base CX0 14 fa fd ["_law_script"] (spD ⟨K w.params,w⟩ Ln false)) :
  PySem.W.WalkO q loose XP YP l.row.toRowW d [] (fun f vs=>PySem.call f vs) :=
 L2.walk_of (n:=63) (k:=14) (x:="_law_script") (CX:=fun _=>CX0) (sp:=fun w=>spD ⟨K w.params,w⟩ Ln false) hn (by decide) hdf ⟨rfl,by decide,by decide⟩ hY F (fun _ _ a ns hl _ hS=>entry hS hl fun _=>rfl) fun _ _ _ _ _ z=>z
end My
namespace PySem.W.Fast
def tw17569275986855082186:=0
def tw13275069393776653096:=0
def tw11416213296097050510:=0
def tw3873382768088151806:=0
def tw18373335652591506386:=0
def tw4552480037773761154:=0
def tw15446394543832441762:=0
def tw4398129741675804655:=0
def tw4535475390915785749:=0
def tw13295417239620568585:=0
def tw10086684636726945582:=0
def tw2451801510939261163:=0
def tw15580304743477451461:=0
def tw14942278451486853269:=0
def tw9640011133197659951:=0
def tw8572920189687337646:=0
def tw12770842743742151434:=0
def tw7370373493081626073:=0
def tw11779857571987737918:=0
def tw16390086363276636570:=0
def tw2487383242543936799:=0
def tw14776549248380091455:=0
def tw3329662253548455140:=0
def tw3939328440077829832:=0
def tw3492243843457590879:=0
def tw5738766730206280918:=0
def tw17945467459056891510:=0
def tw260996094288564383:=0
def tw6206293017959412344:=0
def tw12765846154563475942:=0
def tw7412177184439965352:=0
def tw8875014384353304883:=0
def tw17808983642941044286:=0
def tw657281305542562305:=0
def tw1364029688622498015:=0
def tw7055102993667084644:=0
def tw605325042848004866:=0
def tw13198695697504083934:=0
def tw5270285273042473575:=0
def tw10288466791607381285:=0
def tw9980105934178581539:=0
def tw6782036531533370844:=0
def tw2053829725503594110:=0
def tw11085351201868156620:=0
def tw16039637908428343129:=0
def tw10067313304208669935:=0
def tw1753016961798573831:=0
def tw13629309496061762874:=0
def tw7306325772154683041:=0
def tw8184453597018445291:=0
def tw16432446723010397209:=0
def tw2002352406672863736:=0
def tw2225130072153589427:=0
def tw5767979162828901780:=0
def tw17075195730359012788:=0
def tw8849437187017090388:=0
def tw7334924487918121206:=0
def tw17531425381922518623:=0
def tw4034543735166453634:=0
def tw9957042529208364035:=0
def tw16778707913773742648:=0
def tw17519947982816454048:=0
def tw3184410615362882919:=0
def tw14892231835731216587:=0
def tw14510907110175580896:=0
def tw16335755938964316908:=0
def tw11474022231898896136:=0
def tw13336407121595768942:=0
def tw13606037514696557723:=0
def tw12970804752558219552:=0
def tw11754511695916646552:=0
def tw3205056085153638762:=0
def tw5004756826520246534:=0
def tw502860339482222088:=0
def tw15666964586524535724:=0
def tw2692148080894110452:=0
def tw8950225175892275248:=0
def tw15333156844756263293:=0
def tw14658117228582122333:=0
def tw11258930364995034465:=0
def tw13521966756885558672:=0
def tw15858636797995144904:=0
def tw8450892626485234108:=0
def tw11706331010679275757:=0
def tw3850058337659413084:=0
def tw11944596012241626766:=0
def tw5157712447154630746:=0
def tw18290062616801640408:=0
def tw6106585641910184056:=0
def tw7751131261009327073:=0
def tw926482133875099235:=0
def tw9537644079198926439:=0
def tw1783405886800561189:=0
def tw2973414481176814009:=0
def tw17756400201631894443:=0
def tw3353045092367304535:=0
def tw5223331107423933425:=0
def tw11019505708165416003:=0
def tw14578967554595377669:=0
def tw9429607509744245355:=0
def tw5498299038434847545:=0
def tw2481983545088176260:=0
def tw9978645414163939922:=0
def tw7771212584069163736:=0
def tw14013587041163684904:=0
def tw16482630400154111673:=0
def tw9387412948252522881:=0
def tw9025756988572368847:=0
def tw8336718848466707833:=0
def tw13561623061439018974:=0
def tw1148553589611441566:=0
def tw11104867826270037543:=0
def tw15443847477643322165:=0
def tw6992304938184586804:=0
def tw1354354517015328482:=0
def tw10681130062891328747:=0
def tw17355089457459458326:=0
def tw16341360507862020281:=0
def tw12611999984639275417:=0
def tw5349103815274114088:=0
def tw8204736228452890747:=0
def tw6688244379841480080:=0
def tw12008625889789012293:=0
def tw15046671272165177056:=0
def tw6578727410260860306:=0
def tw169638662769696277:=0
def tw18048218195053292894:=0
def tw8021008768961324387:=0
def tw6147237680758508149:=0
def tw660466477482012978:=0
def tw12716943784528098823:=0
def tw4251266568591595102:=0
def tw1100560488604812893:=0
def tw4561564277340644386:=0
def tw1982977470909029873:=0
def tw17703842709178647205:=0
def tw15570482473569782291:=0
def tw2095099364961406572:=0
def tw1233783841106258064:=0
def tw12067613783653980603:=0
def tw11388555264242027462:=0
def tw1582196986534648294:=0
def tw9867404594407382205:=0
def tw10679404385718003125:=0
def tw5819261031811788117:=0
def tw7712020785241044205:=0
def tw3187373202518794162:=0
def tw16493089293467063212:=0
def tw13296747520925073318:=0
def tw18146858903162002594:=0
def tw13071589364751151304:=0
def tw14789331752220085900:=0
def tw10666496470761792497:=0
def tw6273159682637790190:=0
def tw4809456138250246766:=0
def tw13992305813683095770:=0
def tw1058996602956875837:=0
def tw11613681385410733858:=0
def tw6418649903080910836:=0
def tw8711894179370120801:=0
def tw7618640253389197835:=0
def tw6885527785954226255:=0
def tw4204007900134989263:=0
def tw4571201353168646922:=0
def tw3424364193239257673:=0
def tw8187764001927488147:=0
def tw10084567460575892758:=0
def tw15373559365732100222:=0
def tw5232268272982950319:=0
def tw1793801011163018164:=0
def tw17556209743455248119:=0
def tw4127706077173861746:=0
def tw6735074057348791287:=0
def tw15308954420561189517:=0
def tw5513476075521866649:=0
def tw8134701722966044062:=0
def tw14994463896506062471:=0
def tw17761272914401288159:=0
def tw17655643633173536759:=0
def tw1507490311752007800:=0
def tw12474940297777548998:=0
def tw307076195714820364:=0
def tw155870019417281609:=0
def tw1294890775608023658:=0
def tw11816813667920707928:=0
def tw17963547957931028317:=0
def tw12575079357172796875:=0
def tw845946198640964971:=0
def tw7765883908784617746:=0
def tw17126738188715768764:=0
def tw3096411971806765997:=0
def tw16920447809527729396:=0
def tw17851242045592797795:=0
def tw14313374413274324863:=0
def tw337022782673008856:=0
def tw15338556182727453186:=0
def tw3499696755735827932:=0
def tw5715871623934223598:=0
def tw10536187850145268719:=0
def tw9658457965263012346:=0
def tw15830881001634836710:=0
def tw11337044917202120341:=0
def tw2901754355079909327:=0
def tw6274383540104922977:=0
def tw17448359622059137953:=0
def tw3028806803942899429:=0
def tw13071915240349413124:=0
def tw2321518369943307179:=0
end PySem.W.Fast
open PySem PySem.W PyProof.Rows
set_option maxRecDepth 100000 in
set_option maxHeartbeats 0 in
theorem PySem.Challenge.cw_scenemend_k45_deeds_done_holds : PySem.Challenge.rw_scenemend_k45_deeds_done.Holds := by
 w_on;o_law;k_head;(case hw=>w_witness2)
 k_fill
 refine My.walk (l:=PySem.Challenge.rw_scenemend_k45_deeds_done) rfl rfl (fun w h Y=>PySem.W.kIn_of Y) ?F
 case F =>
  intro w mg fa h KX G hmg
  refine' My.all_mk KX G hmg ?d0 ?d1 ?d2 ?d3 ?d4 ?d5 ?d6 ?d7 ?d8 ?d9 ?d10 ?d11 ?d12 ?d13 ?d14 ?d15 ?d16 ?d17 ?d18 ?d19 ?d20 ?d21 ?d22 ?d23 ?d24 ?d25 ?d26 ?d27 ?d28 ?d29 ?d30 ?d31 ?d32 ?d33 ?d34 ?d35 ?d36 ?d37 ?d38 ?d39 ?d40 ?d41 ?d42 ?d43 ?d44 ?d45 ?d46 ?d47 ?d48 ?d49 ?d50 ?d51 ?d52 ?d53 ?d54 ?d55 ?d56 ?d57 ?d58 ?d59 ?d60 ?d61 ?d62 ?d63 ?d64 ?d65 ?d66 ?d67 ?d68 ?d69 ?d70 ?d71 ?d72 ?d73 ?d74 ?d75 ?d76 ?d77 ?d78 ?d79 ?d80 ?d81 ?d82 ?d83 ?d84 ?z_ValueError ?z_abs ?z_all ?z_any ?z_bool ?z_enumerate ?z_int ?z_isinstance ?z_len ?z_list ?z_max ?z_min ?z_range ?z_str ?z_tuple ?kn_AMONG_OTHERS ?kt_AMONG_OTHERS ?kn_FORMS ?kl_FORMS ?kq_FORMS ?hs_FORMS ?kn_HOLDERS ?kt_HOLDERS ?kn_MOST_HOLDERS ?kn_MOST_ROWS ?kn_NAME_SIGNS ?kt_NAME_SIGNS ?kn_SIGNS ?kl_SIGNS ?kq_SIGNS ?hs_SIGNS ?ac_NoPart ?qc_NoPart ?ac_Twice ?qc_Twice ?ac_NoHolder ?qc_NoHolder ?ac_TooDeep ?qc_TooDeep ?ac_Nested ?qc_Nested ?ac_TooMany ?qc_TooMany ?ac_NoName ?qc_NoName ?ac_WrongKind ?qc_WrongKind ?ac_NoStep ?qc_NoStep ?aSE ?xaK
  (case d26|d27|d30|d32|d33|d34|d36|d37|d38|d75|d76=>(refine' L2.DF.mk ?a ?b ?c ?d;(case a=>k_is);(case b=>k_is);(case c=>k_is);(case d=>k_is)))
  (case d0|d1|d2|d3|d4|d5|d6|d7|d8|d9|d10|d11|d12|d13|d14|d15|d16|d17|d18|d19|d20|d21|d22|d23|d24|d25|d28|d29|d31|d35|d39|d40|d41|d42|d43|d44|d45|d46|d47|d48|d49|d50|d51|d52|d53|d54|d55|d56|d57|d58|d59|d60|d61|d62|d63|d64|d65|d66|d67|d68|d69|d70|d71|d72|d73|d74|d77|d78|d79|d80|d81|d82|d83|d84=>(refine' Exists.intro _ (Exists.intro _ (L2.DF.mk ?a ?b ?c ?d));(case a=>k_is);(case b=>k_is);(case c=>k_is);(case d=>k_is)))
  (case z_ValueError|z_abs|z_all|z_any|z_bool|z_enumerate|z_int|z_isinstance|z_len|z_list|z_max|z_min|z_range|z_str|z_tuple|kn_AMONG_OTHERS=>k_is)
  (case kt_AMONG_OTHERS=>kernel_rfl)
  (case kn_FORMS|kl_FORMS=>k_is)
  (case kq_FORMS=>(repeat' (first|exact trivial|(refine And.intro ⟨_,rfl⟩ (And.intro rfl (And.intro rfl ?_))))))
  (case hs_FORMS=>kernel_rfl)
  (case kn_HOLDERS=>k_is)
  (case kt_HOLDERS=>kernel_rfl)
  (case kn_MOST_HOLDERS|kn_MOST_ROWS|kn_NAME_SIGNS=>k_is)
  (case kt_NAME_SIGNS=>kernel_rfl)
  (case kn_SIGNS|kl_SIGNS=>k_is)
  (case kq_SIGNS=>(repeat' (first|exact trivial|(refine And.intro ⟨_,rfl⟩ (And.intro rfl (And.intro ?_ ?_)))|kernel_rfl)))
  (case hs_SIGNS=>kernel_rfl)
  (case ac_NoPart=>k_is)
  (case qc_NoPart=>k_exc)
  (case ac_Twice=>k_is)
  (case qc_Twice=>k_exc)
  (case ac_NoHolder=>k_is)
  (case qc_NoHolder=>k_exc)
  (case ac_TooDeep=>k_is)
  (case qc_TooDeep=>k_exc)
  (case ac_Nested=>k_is)
  (case qc_Nested=>k_exc)
  (case ac_TooMany=>k_is)
  (case qc_TooMany=>k_exc)
  (case ac_NoName=>k_is)
  (case qc_NoName=>k_exc)
  (case ac_WrongKind=>k_is)
  (case qc_WrongKind=>k_exc)
  (case ac_NoStep=>k_is)
  (case qc_NoStep=>k_exc)
  (case aSE=>k_is)
  (case xaK=>kernel_rfl)
