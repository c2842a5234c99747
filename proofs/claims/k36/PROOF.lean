import PyProof.Rows.All
import Wide.All
import OpenK.AllK
import Wide.FinOn
import Lean
import PyProof.EqAt
import PyProof.EqKinds
import PyProof.TupleCall
import KE.KSortTup
import PyProof.EnumMake
import PyProof.EnumStmt
import PyProof.EnumFor
import PyProof.TupleKey
import PyProof.Rows.SetFrom
import PyProof.IsRules
import PyProof.DictWalks
import PyProof.FactsAll.set
import PyProof.CollectIter
import PyProof.ConsumeS
import PySem.SetOps
import KE.KDictList
import PyProof.DictRoadsH
import PyProof.DictFindH
import PyProof.Rows.SortRuns
import PyProof.Draws
import PyProof.Rows.TupIter
import PyProof.Rows.FStr
import PyProof.StrCalls2
import PyProof.SliceStr2
import PyProof.StrBlockI
import PyProof.StrLawsNeg
import PyProof.StrLawsJoin
import KE.KIntText
import PyProof.RaisesStr
import PyProof.ConsumeWalk
import PyProof.WalkInts
import PyProof.DictUpdate
import KE.KDictOf
import PyProof.Rows.Range3
import PyProof.DictTable
import PyProof.ListMulRoad
import PyProof.FactsAll.tuple_2
import PyProof.StrCalls3
import PySem.Challenge.RW_scenemend_k36_whole_uncovered
set_option compiler.extract_closed false
set_option Elab.async false
set_option linter.all false
set_option maxRecDepth 100000
theorem oB{α β:Type}{x:Option α}{f:α->Option β}{b:β}(h:x.bind f=some b):∃a,x=some a/\f a=some b:=Option.bind_eq_some_iff.mp h
theorem oM{α β:Type}{x:Option α}{f:α->β}{b:β}(h:x.map f=some b):∃a,x=some a/\f a=b:=Option.map_eq_some_iff.mp h
abbrev B':=@List.length_map
abbrev C':=@List.mem_cons_of_mem
abbrev E':=@Option.some.inj
abbrev F':=@List.mem_cons_self
abbrev G':=@Bool.and_eq_true
abbrev J':=@Nat.le_refl
abbrev K':=@PySem.Heap.get?_push_of_some
abbrev L':=@List.length_append
abbrev P':=@List.mem_cons
abbrev R':=@List.getElem?_eq_some_iff
abbrev U':=@List.map_cons
abbrev V':=@List.mem_reverse
abbrev W':=@List.mem_filter
abbrev X':=@List.length_cons
abbrev Y':=@PySem.Heap.lt_size
abbrev Z':=@List.getElem?_map
abbrev dW:=@List.mem_append_right
abbrev dX:=@List.getElem?_set_self
abbrev dY:=@List.mem_append_left
abbrev dZ:=@List.getElem?_set_ne
abbrev de:=@Nat.lt_of_lt_of_le
abbrev df:=@List.mem_map
abbrev dh:=@List.getElem?_append_right
abbrev dj:=@List.size_toArray
abbrev dm:=@Nat.ne_of_lt
abbrev dn:=@PySem.Heap.get?_push_size
abbrev dq:=@List.mem_singleton
abbrev du:=@List.mem_of_getElem?
abbrev dw:=@List.getElem?_append_left
abbrev dz:=@List.append_nil
abbrev eA:=@Nat.zero_le
abbrev eB:=@List.map_append
abbrev eC:=@List.nodup_cons
abbrev eE:=@Nat.le_trans
abbrev eG:=@List.getElem?_eq_getElem
abbrev eI:=@Nat.mul_le_mul_right
abbrev eJ:=@Array.getD_eq_getD_getElem?
abbrev eK:=@List.length_set
abbrev eL:=@List.Sublist.refl
abbrev eM:=@Bool.false_ne_true
abbrev eN:=@Nat.lt_or_ge
abbrev eP:=@Nat.not_lt_zero
abbrev eQ:=@List.mem_range
abbrev eR:=@Array.getElem?_eq_getElem
abbrev eS:=@List.all_eq_true
abbrev eW:=@List.length_range
abbrev eX:=@List.getElem?_replicate
abbrev eY:=@List.getD_eq_getElem?_getD
abbrev e6:=@Int.emod_lt_of_pos
abbrev e7:=@PySem.W.mg_none_of
abbrev e8:=@List.length_reverse
abbrev e9:=@List.take_append_drop
abbrev fA:=@List.sum_cons
abbrev fB:=@List.mem_append
abbrev fD:=@List.map_map
abbrev fE:=@Int.emod_nonneg
abbrev fF:=@Array.mem_toList_iff
abbrev fG:=@List.take_sublist
abbrev fH:=@Array.getElem?_eq_some_iff
abbrev fJ:=@PySem.mem_of_lookup
abbrev fK:=@List.length_replicate
abbrev fL:=@List.mem_iff_getElem?
abbrev fM:=@Array.getElem?_toList
abbrev fN:=@PySem.Heap.get?_update_self
abbrev fO:=@Nat.mul_le_mul
abbrev fP:=@List.append_assoc
abbrev fQ:=@List.map_congr_left
abbrev fR:=@List.reverse_singleton
abbrev fS:=@List.lookup_cons
abbrev fT:=@List.filter_cons
abbrev fU:=@List.getElem_mem
abbrev fV:=@Bool.not_eq_true
abbrev fW:=@List.singleton_append
abbrev fX:=@Nat.lt_succ_of_lt
abbrev fY:=@List.mem_of_mem_take
abbrev fZ:=@PySem.Around.under_plainId
abbrev ff:=@List.tail_sublist
abbrev fg:=@Nat.lt_irrefl
abbrev fh:=@List.filterMap_cons
abbrev fj:=@Array.length_toList
abbrev fk:=@PySem.Heap.SameBut.update
abbrev fo:=@List.reverse_append
abbrev fq:=@List.flatMap_append
abbrev ft:=@List.length_take
abbrev fu:=@List.mem_singleton_self
abbrev fw:=@Nat.lt_succ_self
abbrev fy:=@List.not_mem_nil
abbrev fz:=@Nat.mul_pos
abbrev f6:=@Nat.le_of_lt
abbrev f7:=@Nat.ne_of_gt
abbrev f9:=@Iff.rfl
abbrev gA:=@List.pairwise_cons
abbrev gB:=@Array.getElem?_eq_none
abbrev gC:=@List.append_of_mem
abbrev gD:=@List.getElem?_eq_none
abbrev gE:=@List.length_filter_le
abbrev gF:=@PyProof.Rows.callWith_type1
abbrev gG:=@List.nodup_nil
abbrev gH:=@Nat.mod_eq_of_lt
abbrev gJ:=@Nat.mul_comm
abbrev gK:=@List.mem_flatMap
abbrev gL:=@List.map_reverse
abbrev gM:=@List.drop_eq_getElem_cons
abbrev gN:=@List.getElem?_zip_eq_some
abbrev gO:=@List.pairwise_iff_getElem
abbrev gP:=@Classical.byContradiction
abbrev gQ:=@List.getElem_of_mem
abbrev gR:=@List.nil_append
abbrev gS:=@List.mem_filterMap
abbrev gT:=@PySem.Obj.data_mapFields
abbrev gU:=@List.filter_append
abbrev gW:=@PySem.Heap.get?_update_other
abbrev gX:=@Nat.lt_trichotomy
abbrev gY:=@PySem.Heap.get?_push_ne
abbrev gZ:=@Nat.pow_succ
abbrev gc:=@Nat.le_of_lt_succ
abbrev gd:=@List.pairwise_map
abbrev gf:=@Option.isSome_map
abbrev gg:=@List.flatMap_cons
abbrev gh:=@List.flatMap_singleton
abbrev gi:=@PyProof.Rows.slot_tuple_getitem
abbrev gj:=@Array.getElem?_setIfInBounds_ne
abbrev gk:=@List.length_singleton
abbrev gm:=@PySem.Heap.size_update
abbrev gn:=@List.any_cons
abbrev gq:=@PySem.W.mg_of
abbrev gs:=@List.map_tail
abbrev gu:=@List.eq_nil_of_length_eq_zero
abbrev gw:=@List.mem_of_mem_tail
abbrev gx:=@Int.gcd_eq_natAbs_gcd_natAbs
abbrev gy:=@Int.natCast_mul
abbrev gz:=@Nat.mul_le_mul_left
abbrev g7:=@Nat.succ_pos
abbrev g8:=@Nat.lt_trans
abbrev g9:=@Int.ediv_eq_of_eq_mul_right
abbrev hE:=@PySem.Calls.Name_function_global
abbrev hV:=@Nat.eq_zero_or_pos
abbrev hX:=@Nat.mod_lt
abbrev hZ:=@List.find?_eq_none
abbrev iA:=@List.perm_ext_iff_of_nodup
abbrev iB:=@List.perm_append_singleton
abbrev iC:=@PySem.Heap.size_push
abbrev iD:=@List.nodup_append
abbrev iE:=@Int.mul_pos
abbrev iF:=@List.length_drop
abbrev iG:=@List.perm_middle
abbrev iH:=@List.of_mem_zip
abbrev iI:=@List.foldl_cons
abbrev iK:=@List.length_nil
abbrev iL:=@List.sum_append
abbrev iM:=@Sum.inr.inj
section
namespace L2
open PySem PySem.Spec PyProof.Rows
abbrev Key:=Sum Int Str
def Qb:Key->Value->Bool
 |.inl k,v=>Value.isInt k v
 |.inr x,v=>Value.isStrOf x v
def ck(w:World):Key->Int
 |.inl k=>hashInt k
 |.inr x=>hashStr w x
theorem Bg:∀{k:Key} {v:Value},Qb k v=true->(∃i t,k=Sum.inl i/\v=Value.int i t)\/(∃x t,k=Sum.inr x/\v=Value.str x t)
 |.inl i,v,h=>by
  obtain⟨t,e⟩:=Value.isInt_shape (k:=i) (v:=v) h
  exact .inl ⟨i,t,rfl,e⟩
 |.inr x,v,h=>by
  obtain⟨t,e⟩:=Value.isStrOf_shape (x:=x) (v:=v) h
  exact .inr ⟨x,t,rfl,e⟩
theorem RZ(x:Str)(t:Tok):Qb (.inr x) (.str x t)=true:=by simp[Qb,Value.isStrOf]
theorem X4(a b:Int):decide ((Sum.inl a:Key)=Sum.inl b)=(a==b):=by
 by_cases e:a=b
 ·subst e;simp
 ·have h:¬(Sum.inl a:Key)=Sum.inl b:=fun q=>e (Sum.inl.inj q)
  rw[decide_eq_false h]
  exact(beq_eq_false_iff_ne.mpr e).symm
theorem X1(a b:Str):decide ((Sum.inr a:Key)=Sum.inr b)=decide (a=b):=by
 by_cases e:a=b
 ·subst e;simp
 ·have h:¬(Sum.inr a:Key)=Sum.inr b:=fun q=>e (iM q)
  rw[decide_eq_false h,decide_eq_false e]
theorem X3(a:Int)(b:Str):decide ((Sum.inl a:Key)=Sum.inr b)=false:=decide_eq_false (fun q=>nomatch q)
theorem X2(a:Str)(b:Int):decide ((Sum.inr a:Key)=Sum.inl b)=false:=decide_eq_false (fun q=>nomatch q)
def Hl(prog:Program)(w:World):PySem.KeyKind prog w Key where
 is:=Qb
 hash:=ck w
 inj:=fun v a b ha hb=>by
  rcases Bg ha with ⟨i,t,rfl,rfl⟩|⟨x,t,rfl,rfl⟩
  ·rcases Bg hb with ⟨j,u,rfl,e⟩|⟨y,u,rfl,e⟩
   ·injection e with e1 _;rw[e1]
   ·exact nomatch e
  ·rcases Bg hb with ⟨j,u,rfl,e⟩|⟨y,u,rfl,e⟩
   ·exact nomatch e
   ·injection e with e1 _;rw[e1]
 byValue:=fun k v h=>by
  rcases Bg h with ⟨i,t,rfl,rfl⟩|⟨x,t,rfl,rfl⟩<;>rfl
 pyHash:=fun hv h=>by
  rcases Bg hv with ⟨i,t,rfl,rfl⟩|⟨x,t,rfl,rfl⟩
  ·exact wpAny_pyHash_int h
  ·exact wpAny_pyHash_str h
 eqBool:=fun hu hv h=>by
  rcases Bg hu with ⟨i,t,rfl,rfl⟩|⟨x,t,rfl,rfl⟩
  ·rcases Bg hv with ⟨j,u,rfl,rfl⟩|⟨y,u,rfl,rfl⟩
   ·rw[X4]at h;exact wpAny_eqBool_int h
   ·rw[X3]at h;exact SeqAt.EqAt.int_str i t y u _ _ _ _ h
  ·rcases Bg hv with ⟨j,u,rfl,rfl⟩|⟨y,u,rfl,rfl⟩
   ·rw[X2]at h;exact SeqAt.EqAt.str_int x t j u _ _ _ _ h
   ·rw[X1]at h;exact wpAny_eqBool_str h
 «strs»:=fun k x t v h=>by
  rcases Bg h with ⟨i,u,rfl,e⟩|⟨y,u,rfl,e⟩
  ·exact nomatch e
  ·injection e with e1 _
   subst e1
   cases v<;>rfl
theorem OD(prog:Program)(w:World)(x:Str)(t:Tok):(Hl prog w).is (.inr x) (.str x t)=true:=RZ x t
end L2
namespace L2
open PySem PySem.Spec PyProof.Rows
inductive V where
 |non|bl (b:Bool)|int (i:Int)|str (x:Str)|byt (b:Array UInt8)|flt (b:UInt64)|ref (a:Addr)|ty (n:String)
 deriving DecidableEq
def RelV:V->Value->Prop
 |.non,u=>u=Value.none
 |.bl b,u=>u=Value.bool b
 |.int i,u=>∃t,u=Value.int i t
 |.str x,u=>∃t,u=Value.str x t
 |.byt b,u=>∃t,u=Value.bytes b t
 |.flt b,u=>∃t,u=Value.float b t
 |.ref a,u=>u=Value.ref a
 |.ty n,u=>u=Value.type n
abbrev Vals:List V->List Value->Prop:=Paired RelV
theorem Vals.length{xs:List V}{us:List Value}(r:Vals xs us):xs.length=us.length:=Paired.length r
theorem Vals.get:∀{xs:List V} {us:List Value} {i:Nat} {x:V},Vals xs us->xs[i]?=some x->∃u,us[i]?=some u/\RelV x u
 |_,_,_,_,.nil,e=>by simp at e
 |_,_,0,_,.cons r _,e=>by simp at e;subst e;exact⟨_,rfl,r⟩
 |_,_,i+1,x,.cons _ t,e=>by
  obtain⟨u,h1,h2⟩:=Vals.get (i:=i) (x:=x) t (by simpa using e)
  exact⟨u,by simpa using h1,h2⟩
theorem Vals.append:∀{xs ys:List V} {us ws:List Value},Vals xs us->Vals ys ws->Vals (xs++ys) (us++ws)
 |_,_,_,_,.nil,s=>s
 |_,_,_,_,.cons r t,s=>.cons r (Vals.append t s)
theorem Vals.take:∀{xs:List V} {us:List Value} (n:Nat),Vals xs us->Vals (xs.take n) (us.take n)
 |_,_,0,_=>.nil
 |_,_,_+1,.nil=>.nil
 |_,_,n+1,.cons r t=>.cons r (Vals.take n t)
theorem Vals.drop:∀{xs:List V} {us:List Value} (n:Nat),Vals xs us->Vals (xs.drop n) (us.drop n)
 |_,_,0,r=>r
 |_,_,_+1,.nil=>.nil
 |_,_,n+1,.cons _ t=>Vals.drop n t
def cA:Option V->Option Value->Prop
 |some v,some u=>RelV v u
 |none,none=>True
 |_,_=>False
def KV{κ:Type}:List (κ×V)->List (κ×Value)->Prop:=Paired fun(p:κ×V) (q:κ×Value)=>p.1=q.1/\RelV p.2 q.2
def kV:Key->V
 |.inl i=>.int i
 |.inr x=>.str x
inductive HO where
 |lst (xs:List V)
 |tup (xs:List V)
 |dK (kvs:List (Key×V))|dT (kvs:List (List Key×V))
 |set (S:Int->Bool) (n:Nat)
 |ins (C dx:Addr) (fs:List (Str×V))
 |own (x:Addr)
 |xd (fs:List (Str×V))
 |met (f x:Addr)
 |rng (lo hi:Int)
 |frz (o:Obj) (u:HO)
 |tbl (ps:Array Value)
 |ext (φ:Heap->Prop)
abbrev Hp:=Addr->Option HO
def upd(H:Hp)(a:Addr)(o:HO):Hp:=fun b=>if b=a then some o else H b
theorem BB{H:Hp}{a:Addr}{o:HO}:upd H a o a=some o:=by unfold upd;rw[if_pos rfl]
theorem BL{H:Hp}{a b:Addr}{o:HO}(h:b≠a):upd H a o b=H b:=by unfold upd;rw[if_neg h]
theorem Aw{H:Hp}{a b:Addr}{o:HO}(h:H a=some o)(h':H b=none):a≠b:=by
 intro e;subst e;rw[h]at h';cases h'
section
variable (P:Program) (w:World)
def ObjOk(H:Hp)(h:Heap)(a:Addr):HO->Prop
 |.lst xs=>xs.length<=sizeLine/\∃(its:List Value) (n:Nat),Vals xs its/\h.get? a=some { cls:=.type "list",data:=.seq its.toArray n }
 |.tup xs=>xs.length<=sizeLine/\∃its:List Value,Vals xs its/\IsTup h a its.toArray
 |.dK kvs=>kvs.length<=sizeLine/\(a==sysModules)=false/\∃vs,KV kvs vs/\h.DictOf (Hl P w) a vs
 |.dT kvs=>kvs.length<=sizeLine/\(a==sysModules)=false/\∃xs:List (List Key×Addr×Value),
   Paired (fun(p:List Key×V) (q:List Key×Addr×Value)=>p.1=q.1/\H q.2.1=some (.tup (p.1.map kV))/\RelV p.2 q.2.2) kvs xs /\
   ∃o es ep,h.get? a=some o/\o.ExactDict/\o.data = .dict es ep/\es.toList=xs.map (entryOfKey (tupleKind (Hl P w)))/\(xs.map (·.1)).Nodup
 |.set S n=>h.SetOf (intKind P w) a S n
 |.ins C dx fs=>H dx=some (.own a)/\fs.length<=1000/\dx≠a/\h.get? a=some (PySem.W.instObj C dx) /\
   ∃mA,h.Ns1 dx mA/\(∀f,cA (fs.lookup f) (mA f))/\PySem.Within mA (fs.map (·.1))
 |.own _=>∃o,h.get? a=some o
 |.xd fs=>∃mA,h.Ns1 a mA/\∀f,cA (fs.lookup f) (mA f)
 |.rng lo hi=>∃t u v,h.get? a=some { cls:=.type "range",data:=.fields #[.int lo t,.int hi u,.int 1 v] }
 |.frz o u=>h.get? a=some o/\ObjOk H h a u
 |.tbl ps=>h.get? a=some { cls:=.none,data:=.fields ps }
 |.met f x=>h.get? a=some (PySem.W.methodObj (.ref f) (.ref x))
 |.ext φ=>φ h/\(∃o,h.get? a=some o)/\∀h1 h2:Heap,φ h1->(∀o,h1.get? a=some o->h2.get? a=some o)->φ h2
def HOk(H:Hp)(h:Heap):Prop:=∀a o,H a=some o->ObjOk P w H h a o
end
section
variable {P:Program} {w:World} {H H':Hp} {h h':Heap} {a:Addr} {o:HO}
theorem ObjOk.lt(x:ObjOk P w H h a o):a<h.objs.size:=by
 cases o with
 |lst xs=>obtain⟨_,_,_,_,e⟩:=x;exact Y' e
 |tup xs=>obtain⟨_,_,_,p⟩:=x;exact p.lt
 |dK kvs=>obtain⟨_,_,_,_,o,_,_,e,_⟩:=x;exact Y' e
 |dT kvs=>obtain⟨_,_,_,_,o,_,_,e,_⟩:=x;exact Y' e
 |set S n=>obtain⟨o,_,_,_,e,_⟩:=x;exact Y' e
 |ins C dx fs=>obtain⟨_,_,_,e,_⟩:=x;exact Y' e
 |own y=>obtain⟨_,e⟩:=x;exact Y' e
 |xd fs=>obtain⟨_,⟨_,_,_,e,_⟩,_⟩:=x;exact Y' e
 |rng lo hi=>obtain⟨_,_,_,e⟩:=x;exact Y' e
 |frz ob u=>obtain⟨e,_⟩:=x;exact Y' e
 |tbl ps=>exact Y' (show h.get? a=some _ from x)
 |met f y=>exact Y' (show h.get? a=some _ from x)
 |ext φ=>obtain⟨_,⟨_,e⟩,_⟩:=x;exact Y' e
theorem Paired.mapP{α β:Type}{F G:α->β->Prop}:∀{l₁:List α} {l₂:List β},Paired F l₁ l₂->(∀a b,F a b->G a b)->Paired G l₁ l₂
 |_,_,.nil,_=>.nil
 |_,_,.cons r t,f=>.cons (f _ _ r) (Paired.mapP t f)
theorem ObjOk.stay(x:ObjOk P w H h a o)(k:∀b u,(b=a\/H b=some (.own a))->h.get? b=some u->h'.get? b=some u)
  (ho:∀b,H b=some (.own a)->H' b=some (.own a)) (ht:∀b xs,H b=some (.tup xs)->H' b=some (.tup xs)):ObjOk P w H' h' a o:=by
 induction o with
 |lst xs=>obtain⟨z,its,n,r,e⟩:=x;exact⟨z,its,n,r,k _ _ (.inl rfl) e⟩
 |tup xs=>obtain⟨z,its,r,ob,e,c⟩:=x;exact⟨z,its,r,ob,k _ _ (.inl rfl) e,c⟩
 |dK kvs=>obtain⟨z,y,vs,r,ob,es,ep,e,c⟩:=x;exact⟨z,y,vs,r,ob,es,ep,k _ _ (.inl rfl) e,c⟩
 |dT kvs =>
  obtain⟨z,y,xs,r,ob,es,ep,e,c⟩:=x
  exact⟨z,y,xs,Paired.mapP r fun p q z=>⟨z.1,ht _ _ z.2.1,z.2.2⟩,ob,es,ep,k _ _ (.inl rfl) e,c⟩
 |set S n=>obtain⟨ob,es,ep,t,e,c⟩:=x;exact⟨ob,es,ep,t,k _ _ (.inl rfl) e,c⟩
 |ins C dx fs =>
  obtain⟨d,z,ne,e,mA,⟨od,es,ep,e2,c⟩,r⟩:=x
  exact⟨ho _ d,z,ne,k _ _ (.inl rfl) e,mA,⟨od,es,ep,k _ _ (.inr d) e2,c⟩,r⟩
 |own y=>obtain⟨ob,e⟩:=x;exact⟨ob,k _ _ (.inl rfl) e⟩
 |xd fs=>obtain⟨mA,⟨od,es,ep,e,c⟩,r⟩:=x;exact⟨mA,⟨od,es,ep,k _ _ (.inl rfl) e,c⟩,r⟩
 |rng lo hi=>obtain⟨t,u,v,e⟩:=x;exact⟨t,u,v,k _ _ (.inl rfl) e⟩
 |frz ob u ih=>obtain⟨e,q⟩:=x;exact⟨k _ _ (.inl rfl) e,ih q⟩
 |tbl ps =>
  have e:h.get? a=some { cls:=.none,data:=.fields ps }:=x
  show h'.get? a=some { cls:=.none,data:=.fields ps }
  exact k a _ (.inl rfl) e
 |met f y =>
  have e:h.get? a=some (PySem.W.methodObj (.ref f) (.ref y)):=x
  show h'.get? a=some (PySem.W.methodObj (.ref f) (.ref y))
  exact k a _ (.inl rfl) e
 |ext φ=>obtain⟨p,⟨o,e⟩,st⟩:=x;exact⟨st _ _ p fun o q=>k _ _ (.inl rfl) q,⟨o,k _ _ (.inl rfl) e⟩,st⟩
theorem HOk.lt(x:HOk P w H h)(e:H a=some o):a<h.objs.size:=(x a o e).lt
theorem HOk.fresh(x:HOk P w H h)(e:h.objs.size<=a):H a=none:=by
 cases q:H a with
 |none=>rfl
 |some u=>exact absurd (de (x.lt q) e) (fg _)
theorem HOk.kept(x:HOk P w H h)(k:∀b u,h.get? b=some u->h'.get? b=some u):HOk P w H h':=fun a o e =>
 (x a o e).stay (fun b u _ q=>k b u q) (fun _ q=>q) fun _ _ q=>q
theorem HOk.laid(x:HOk P w H h)(k:∀b u,h.get? b=some u->h'.get? b=some u)(hp:h.objs.size<=a)(new:ObjOk P w (upd H a o) h' a o):HOk P w (upd H a o) h':=fun b u e=>by
 have hn:=x.fresh hp
 by_cases hb:b=a
 ·subst hb;rw[BB]at e;cases e;exact new
 ·rw[BL hb]at e
  exact(x b u e).stay (fun c v _ q=>k c v q) (fun c q=>by rw[BL (Aw q hn)];exact q) fun c xs q=>by rw[BL (Aw q hn)];exact q
end
def Rd(H:Hp)(a:Addr)(u:HO):Prop:=H a=some u\/∃o,H a=some (.frz o u)
theorem Rd.ok{P:Program}{w:World}{H:Hp}{h:Heap}{a:Addr}{u:HO}(r:Rd H a u)(x:HOk P w H h):ObjOk P w H h a u:=by
 rcases r with r|⟨o,r⟩
 ·exact x a u r
 ·obtain⟨_,q⟩:=x a _ r
  exact q
def Mut:Option HO->Prop
 |some (.lst _)=>True
 |some (.dK _)=>True
 |some (.dT _)=>True
 |some (.set _ _)=>True
 |some (.ins _ _ _)=>True
 |some (.ext _)=>True
 |_=>False
section
variable {P:Program} {w:World} {H:Hp} {h h':Heap} {x e:Addr} {o':HO}
theorem HOk.write(ok:HOk P w H h)(mu:Mut (H x))(he:e=x\/H e=some (.own x))(k:∀b u,b≠e->h.get? b=some u->h'.get? b=some u)(heo:∃u,h'.get? e=some u)
  (new:ObjOk P w (upd H x o') h' x o'):HOk P w (upd H x o') h':=fun b u q=>by
 have nown:∀c y,H c=some (.own y)->c≠x:=fun c y r z=>by subst z;rw[r]at mu;exact mu
 have ntup:∀c xs,H c=some (.tup xs)->c≠x:=fun c xs r z=>by subst z;rw[r]at mu;exact mu
 by_cases hb:b=x
 ·subst hb;rw[BB]at q;cases q;exact new
 ·rw[BL hb]at q
  by_cases hbe:b=e
  ·have q':H b=some (.own x):=by
    rcases he with z|z
    ·exact absurd (hbe.trans z) hb
    ·rw[hbe];exact z
   rw[q]at q';cases q'
   obtain⟨v,hv⟩:=heo
   exact⟨v,by rw[hbe];exact hv⟩
  ·refine(ok b u q).stay (fun c v hc r=>k c v ?_ r) (fun c r=>by rw[BL (nown c b r)];exact r) fun c xs r=>by rw[BL (ntup c xs r)];exact r
   rcases hc with rfl|hc
   ·exact hbe
   ·rintro rfl
    rcases he with z|z
    ·exact nown c b hc z
    ·rw[hc]at z;cases z;exact hb rfl
end
structure Un(fs ex:List Addr)(H H':Hp)(h h':Heap):Prop where
 keep:∀b o,h.get? b=some o->H b=none->b∉fs->b∉ex->h'.get? b=some o
 slot:∀b o,h.get? b=some o->H b=none->b∈fs->b∉ex->∃sl,h'.get? b=some { o with slots:=sl }
 free:∀b o,h.get? b=some o->H b=none->b∉ex->H' b=none
 there:∀b o,h.get? b=some o->b∉ex->∃o',h'.get? b=some o'
 tups:∀b xs,H b=some (.tup xs)->H' b=some (.tup xs)
 frzs:∀b o u,H b=some (.frz o u)->H' b=some (.frz o u)
 tbls:∀b ps,H b=some (.tbl ps)->∃more,H' b=some (.tbl (ps++more))
section
variable {fs fs' ex ex':List Addr} {H H1 H2:Hp} {h h1 h2 h':Heap} {a x e:Addr} {o:HO}
theorem Un.any(u:Un fs ex H H1 h h1){b:Addr}{ob:Obj}(q:h.get? b=some ob)(n:H b=none)(hx:b∉ex):∃sl,h1.get? b=some { ob with slots:=sl }:=by
 by_cases hb:b∈fs
 ·exact u.slot b ob q n hb hx
 ·exact⟨ob.slots,u.keep b ob q n hb hx⟩
theorem Un.kept(k:∀b u,h.get? b=some u->h'.get? b=some u):Un fs ex H H h h' :=
 ⟨fun b ob q _ _ _=>k b ob q,fun b ob q _ _ _=>⟨ob.slots,k b ob q⟩,fun _ _ _ n _=>n,fun b ob q _=>⟨ob,k b ob q⟩,fun _ _ q=>q,fun _ _ _ q=>q,fun _ ps q=>⟨#[],by rw[q];simp⟩⟩
theorem Un.refl:Un fs ex H H h h:=Un.kept fun _ _ q=>q
theorem Un.laid(k:∀b u,h.get? b=some u->h'.get? b=some u)(hp:h.objs.size<=a)(hn:H a=none):Un fs ex H (upd H a o) h h' where
 keep:=fun b u q _ _ _=>k b u q
 slot:=fun b u q _ _ _=>⟨u.slots,k b u q⟩
 free:=fun b u q n _=>by rw[BL (dm (de (Y' q) hp))];exact n
 there:=fun b u q _=>⟨u,k b u q⟩
 tups:=fun b xs q=>by rw[BL (Aw q hn)];exact q
 frzs:=fun b u xs q=>by rw[BL (Aw q hn)];exact q
 tbls:=fun b ps q=>⟨#[],by rw[BL (Aw q hn),q];simp⟩
theorem Un.write(mu:Mut (H x))(he:e=x\/H e=some (.own x))(k:∀b u,b≠e->h.get? b=some u->h'.get? b=some u)(heo:∃u,h'.get? e=some u):Un fs ex H (upd H x o) h h':=by
 have hx:∀b,H b=none->b≠x:=fun b n z=>by subst z;rw[n]at mu;exact mu
 have hb:∀b,H b=none->b≠e:=fun b n z=>by
  subst z
  rcases he with r|r
  ·exact hx b n r
  ·rw[n]at r;cases r
 have hm:∀b u,H b=some u->¬Mut (some u)->b≠x:=fun b u q nm z=>by subst z;rw[q]at mu;exact nm mu
 refine ⟨fun b u q n _ _ => k b u (hb b n) q, fun b u q n _ _ => ⟨u.slots, k b u (hb b n) q⟩, fun b u q n _ => by rw [BL (hx b n)]; exact n, fun b u q _ => ?_,
  fun b xs q=>by rw[BL (hm b _ q fun z=>z)];exact q,fun b u xs q=>by rw[BL (hm b _ q fun z=>z)];exact q,fun b ps q=>⟨#[],by rw[BL (hm b _ q fun z=>z),q];simp⟩⟩
 by_cases hbe:b=e
 ·subst hbe;exact heo
 ·exact⟨u,k b u hbe q⟩
end
def trk(h:Heap)(H:Hp):List Addr:=(List.range h.objs.size).filter fun a=>(H a).isSome
def NB(h:Heap)(H:Hp):Heap:=PySem.W.hideAll h (trk h H)
theorem Ri(h:Heap)(H:Hp):(NB h H).objs.size=h.objs.size:=PySem.W.hideAll_size _ _
theorem T4{h:Heap}{H:Hp}{b:Addr}{o:Obj}(e:h.get? b=some o)(n:H b=none):(NB h H).get? b=some o :=
 PySem.W.hideAll_get _ e fun hm=>by
  have q:(H b).isSome=true:=(W'.mp hm).2
  rw[n]at q;simp at q
theorem VQ{h:Heap}{H:Hp}{b:Addr}{o:Obj}(e:(NB h H).get? b=some o):h.get? b=some o/\H b=none:=by
 have e':h.get? b=some o:=PySem.W.of_hideAll (trk h H) e
 refine⟨e',?_⟩
 cases q:H b with
 |none=>rfl
 |some x =>
  have hm:b∈trk h H:=W'.mpr ⟨eQ.mpr (Y' e'),by simp[q]⟩
  have z:(NB h H).get? b=none:=PySem.W.hideAll_none (trk h H) hm
  rw[z]at e;cases e
def WL(g h:Heap)(L:Addr):List (Addr×Obj):=(List.range h.objs.size).filterMap fun a=>if a=L\/(g.get? a).isSome=true then none else (h.get? a).map fun o=>(a,o)
def Cn(g h:Heap)(L d:Addr):List (Addr×Obj):=(WL g h L).filter fun p=>decide (p.1≠d)
end L2
namespace L2
open PySem PySem.Spec PyProof.Rows
structure Mod(K:PySem.W.Frag)(mg:Str->Option Value)(base:Heap):Prop where
 kin:K.In base
 glob:base.Ns mainGlobals mg
 blt:∃mb,base.Ns builtinsNs mb/\∀x:Str,x≠"__name__"->mb x=bootBuiltins x
 nolimit:base.NoLimit
structure Cx where
 prog:Program
 w:World
 K:PySem.W.Frag
 mg:Str->Option Value
 base:Heap
 A:Around
 N:List Str
 s₀:Shared
 H₀:Hp
 env:Env
 outer:List Env
 stack:List Env
 ex:List Addr
 fn:Str->Bool
 calm:Bool
 pn:List (Addr×Obj)
 xe:Value->Shared->Prop
def frs(l:List Env):List Addr:=l.filterMap (·.frame)
abbrev Cx.fs(X:Cx):List Addr:=frs X.outer
def Vis(sc:Scope)(x:Str):Prop:=sc.names.lookup x=some .local\/sc.names.lookup x=some .cell\/sc.names.lookup x=some .free
def Loc(sc:Scope)(x:Str):Prop:=sc.names.lookup x=some .local\/sc.names.lookup x=some .cell
def dU(env:Env)(h:Heap)(m:Str->Option Value)(x:Str)(u:Value):Prop :=
 (env.kindOf x=some .local/\m x=some u)\/((env.kindOf x=some .cell\/env.kindOf x=some .free)/\∃c,env.cells.lookup x=some c/\h.IsCell c (some u))
structure Cx.Ok(X:Cx):Prop where
 mod:Mod X.K X.mg X.base
 kind:X.env.scope.kind = .function
 glob:X.env.globals=mainGlobals
 blt:X.env.builtins=builtinsNs
 above:X.s₀.heap.objs.size<=X.env.locals
 inj:∀x y c,X.env.cells.lookup x=some c->X.env.cells.lookup y=some c->x=y
 has:∀x,(X.env.kindOf x=some .cell\/X.env.kindOf x=some .free)->∃c,X.env.cells.lookup x=some c
 cab:∀x c,X.fn x=true->X.env.cells.lookup x=some c->X.s₀.heap.objs.size<=c
 hd:X.calm=true->X.A.handled=none
 frames:X.A.frames=some X.stack
 stk:X.stack=X.outer\/(X.stack=X.env::X.outer/\X.env.frame=some X.env.locals)
 exf:∀b∈X.ex,b≠X.env.locals/\∀x c,X.env.cells.lookup x=some c->c≠b
 bs:∀b o,X.base.get? b=some o->X.s₀.heap.get? b=some o/\X.H₀ b=none
 bsz:X.base.objs.size<=X.s₀.heap.objs.size
 noex:∀b o,X.base.get? b=some o->b∉X.ex
 exfs:∀b∈X.ex,b∉X.fs
 funs:X.s₀.heap.FunFrames X.base X.outer
 frf:∀b∈X.fs,X.H₀ b=none
structure Inv(X:Cx)(pins:List (Addr×Obj))(σ:List (Option V))(H:Hp)(s:Shared):Prop where
 ok:X.Ok
 os:s.os=X.s₀.os
 bare:AllBare s.gens
 base:Un X.fs X.ex X.H₀ H X.s₀.heap s.heap
 loc:∃m,s.heap.Ns X.env.locals m/\∀(i:Nat) (x:Str) (v:V),X.N[i]?=some x->σ[i]?=some (some v)->Vis X.env.scope x->∃u,RelV v u/\dU X.env s.heap m x u
 cell:∀x c,X.env.cells.lookup x=some c->∃v,s.heap.IsCell c v
 free:H X.env.locals=none
 freeC:∀x c,X.env.cells.lookup x=some c->H c=none
 pin:∀p∈X.pn++pins,s.heap.get? p.1=some p.2/\H p.1=none/\p.1≠X.env.locals/\p.1∉X.fs/\∀v,p.2.data≠.cell v
 hok:HOk X.prog X.w H s.heap
 len:σ.length=X.N.length
section
variable {X:Cx} {pins:List (Addr×Obj)} {σ:List (Option V)} {H H':Hp} {s:Shared} {h':Heap}
theorem Cx.Ok.nofr(ok:X.Ok){b:Addr}{o:Obj}(e:X.base.get? b=some o):b∉X.fs:=fun hb=>by
 have:=(ok.funs.mem hb).1
 rw[e]at this;cases this
theorem Inv.bs(I:Inv X pins σ H s):∀b o,X.base.get? b=some o->s.heap.get? b=some o/\H b=none:=fun b o e =>
 ⟨I.base.keep b o (I.ok.bs b o e).1 (I.ok.bs b o e).2 (I.ok.nofr e) (I.ok.noex b o e),I.base.free b o (I.ok.bs b o e).1 (I.ok.bs b o e).2 (I.ok.noex b o e)⟩
theorem Inv.bk(I:Inv X pins σ H s):∀b o,X.base.get? b=some o->s.heap.get? b=some o:=fun b o e=>(I.bs b o e).1
theorem Inv.mod(I:Inv X pins σ H s):Mod X.K X.mg X.base:=I.ok.mod
theorem Inv.kIn(I:Inv X pins σ H s):X.K.In s.heap:=I.ok.mod.kin.keeps I.bk
theorem Inv.lt(I:Inv X pins σ H s):X.env.locals<s.heap.objs.size:=let ⟨_,hn,_⟩:=I.loc;hn.lt
theorem Inv.sz(I:Inv X pins σ H s):X.s₀.heap.objs.size<=s.heap.objs.size:=eE I.ok.above (f6 I.lt)
theorem Inv.nofs(I:Inv X pins σ H s){a:Addr}(h:s.heap.objs.size<=a):a∉X.fs:=fun hb=>by
 obtain⟨_,o,ho,_⟩:=I.ok.funs.mem hb
 exact absurd (de (Y' ho) (eE I.sz h)) (fg _)
theorem Inv.cne(I:Inv X pins σ H s):∀x c,X.env.cells.lookup x=some c->c≠X.env.locals:=fun x c e z=>by
 obtain⟨v,o,ho,hd⟩:=I.cell x c e
 obtain⟨m,⟨o',es,ep,ho',hd',_⟩,_⟩:=I.loc
 rw[z,ho']at ho;cases ho;rw[hd']at hd;cases hd
theorem Inv.funs(I:Inv X pins σ H s):s.heap.FunFrames X.base X.outer:=by
 have all:∀(l:List Env),(∀b∈frs l,b∈X.fs)->X.s₀.heap.FunFrames X.base l->s.heap.FunFrames X.base l:=by
  intro l
  induction l with
  |nil=>intro _ _;trivial
  |cons env r ih =>
   intro hs hl
   obtain⟨hk,⟨L,o,hf,hn,ho,hd⟩,hr⟩:=hl
   have hL:L∈X.fs:=hs L (by unfold frs;rw[fh,hf];exact F')
   obtain⟨sl,e⟩:=I.base.slot L o ho (I.ok.frf L hL) hL fun z=>I.ok.exfs L z hL
   exact⟨hk,⟨L,_,hf,hn,e,hd⟩,ih (fun b hb=>hs b (by unfold frs;rw[fh,hf];exact C' _ hb)) hr⟩
 exact all X.outer (fun _ hb=>hb) I.ok.funs
theorem Inv.stack(I:Inv X pins σ H s):s.heap.FunFrames X.base X.stack:=by
 rcases I.ok.stk with e|⟨e,hf⟩
 ·rw[e];exact I.funs
 ·rw[e]
  obtain⟨m,hn,_⟩:=I.loc
  refine .cons (by rw[I.ok.kind];decide) hf hn ?_ I.funs
  exact Heap.get?_none_of_le (eE I.ok.bsz I.ok.above)
theorem Inv.stkSub(I:Inv X pins σ H s):∀b∈frs X.stack,b∈X.env.locals::X.fs:=fun b hb=>by
 rcases I.ok.stk with e|⟨e,hf⟩
 ·rw[e]at hb;exact C' _ hb
 ·rw[e]at hb
  unfold frs at hb
  rw[fh,hf]at hb
  exact hb
theorem Inv.stkFree(I:Inv X pins σ H s):∀b∈frs X.stack,H b=none:=fun b hb=>by
 rcases P'.mp (I.stkSub b hb)with e|hb
 ·rw[e];exact I.free
 ·obtain⟨_,o,ho,_⟩:=I.ok.funs.mem hb
  exact I.base.free b o ho (I.ok.frf b hb) fun z=>I.ok.exfs b z hb
theorem Inv.step{g':Array GenState}{t':Nat}{d':Drawn}{ch:List Addr}(I:Inv X pins σ H s)
  (hch:∀b∈ch,(b∈X.ex\/X.s₀.heap.objs.size<=b)/\b≠X.env.locals/\(∀x c,X.env.cells.lookup x=some c->c≠b)/\∀p∈X.pn++pins,p.1≠b)
  (keep:∀b o,b≠X.env.locals->b∉X.fs->b∉ch->s.heap.get? b=some o->H b=none->h'.get? b=some o)
  (slot:∀b o,b≠X.env.locals->b∈X.fs->b∉ch->s.heap.get? b=some o->H b=none->∃sl,h'.get? b=some { o with slots:=sl }) (free:∀b o,b∉ch->s.heap.get? b=some o->H b=none->H' b=none)
  (there:∀b o,b∉ch->s.heap.get? b=some o->∃o',h'.get? b=some o')
  (tups:∀b xs,H b=some (.tup xs)->H' b=some (.tup xs)) (frzs:∀b o u,H b=some (.frz o u)->H' b=some (.frz o u)) (tbls:∀b ps,H b=some (.tbl ps)->∃more,H' b=some (.tbl (ps++more)))
  (ns:∀m,s.heap.Ns X.env.locals m->h'.Ns X.env.locals m) (hok:HOk X.prog X.w H' h') (hg:AllBare g') :
  Inv X pins σ H' { s with heap:=h',gens:=g',drawn:=d',toks:=t' }:=by
 have neL:∀b o,X.s₀.heap.get? b=some o->b≠X.env.locals:=fun b o e=>dm (de (Y' e) I.ok.above)
 have neC:∀b o,X.s₀.heap.get? b=some o->b∉X.ex->b∉ch:=fun b o e hx hb=>by
  rcases(hch b hb).1 with z|z
  ·exact hx z
  ·exact absurd (de (Y' e) z) (fg _)
 have cellK:∀x c,X.env.cells.lookup x=some c->∀v,s.heap.IsCell c v->h'.IsCell c v:=fun x c e v ⟨o,ho,hd⟩=>by
  have nch:c∉ch:=fun z=>(hch c z).2.2.1 x c e rfl
  by_cases hc:c∈X.fs
  ·obtain⟨sl,q⟩:=slot c o (I.cne x c e) hc nch ho (I.freeC x c e)
   exact⟨_,q,hd⟩
  ·exact⟨o,keep c o (I.cne x c e) hc nch ho (I.freeC x c e),hd⟩
 refine⟨I.ok,I.os,hg,⟨fun b o e n hb hx=>?_,fun b o e n hb hx=>?_,fun b o e n hx=>?_,fun b o e hx=>?_,fun b xs e=>tups b xs (I.base.tups b xs e),fun b o xs e=>frzs b o xs (I.base.frzs b o xs e),fun b ps e=>?_⟩,?_,fun x c e=>?_,?_,fun x c e=>?_,fun p hp=>?_,hok,I.len⟩
 ·exact keep b o (neL b o e) hb (neC b o e hx) (I.base.keep b o e n hb hx) (I.base.free b o e n hx)
 ·obtain⟨sl,e1⟩:=I.base.slot b o e n hb hx
  obtain⟨sl',e2⟩:=slot b _ (neL b o e) hb (neC b o e hx) e1 (I.base.free b o e n hx)
  exact⟨sl',e2⟩
 ·obtain⟨o',e1⟩:=I.base.there b o e hx
  exact free b o' (neC b o e hx) e1 (I.base.free b o e n hx)
 ·obtain⟨o',e1⟩:=I.base.there b o e hx
  exact there b o' (neC b o e hx) e1
 ·obtain⟨m1,e1⟩:=I.base.tbls b ps e
  obtain⟨m2,e2⟩:=tbls b _ e1
  exact⟨m1++m2,by rw[e2,Array.append_assoc]⟩
 ·obtain⟨m,hn,hl⟩:=I.loc
  refine⟨m,ns m hn,fun i x v e1 e2 e3=>?_⟩
  obtain⟨u,r,l⟩:=hl i x v e1 e2 e3
  refine⟨u,r,?_⟩
  rcases l with l|⟨k,c,e,z⟩
  ·exact .inl l
  ·exact .inr ⟨k,c,e,cellK x c e _ z⟩
 ·obtain⟨v,z⟩:=I.cell x c e
  exact⟨v,cellK x c e v z⟩
 ·obtain⟨m,⟨o,_,_,ho,_⟩,_⟩:=I.loc
  exact free _ o (fun z=>(hch _ z).2.1 rfl) ho I.free
 ·obtain⟨v,o,ho,hd⟩:=I.cell x c e
  exact free c o (fun z=>(hch c z).2.2.1 x c e rfl) ho (I.freeC x c e)
 ·obtain⟨e,n,ne,nf,d⟩:=I.pin p hp
  have nch:p.1∉ch:=fun z=>(hch p.1 z).2.2.2 p hp rfl
  exact⟨keep p.1 p.2 ne nf nch e n,free p.1 p.2 nch e n,ne,nf,d⟩
theorem Inv.un{t':Nat}(I:Inv X pins σ H s)(u:Un X.fs [] H H' s.heap h')(hok:HOk X.prog X.w H' h'):Inv X pins σ H' { s with heap:=h',toks:=t' }:=by
 obtain⟨m,⟨o,es,ep,ho,r⟩,_⟩:=id I.loc
 obtain⟨sl,hL⟩:=u.any ho I.free (by simp)
 exact I.step (g' := s.gens) (d' := s.drawn) (ch := []) (fun _ z => nomatch z) (fun b o _ hb _ e n => u.keep b o e n hb (by simp)) (fun b o _ hb _ e n => u.slot b o e n hb (by simp)) (fun b o _ e n => u.free b o e n (by simp)) (fun b o _ e => u.there b o e (by simp)) u.tups u.frzs u.tbls (fun m' hm => by
  obtain⟨o',es',ep',ho',r'⟩:=hm
  rw[ho]at ho';cases ho'
  exact⟨_,es',ep',hL,r'⟩) hok I.bare
theorem Inv.call{g':Array GenState}{t':Nat}{d':Drawn}{ch:List Addr}(I:Inv X pins σ H s)(u:Un (frs X.stack) ch H H' s.heap h')(hok:HOk X.prog X.w H' h')(hg:AllBare g')
  (hch:∀b∈ch,(b∈X.ex\/X.s₀.heap.objs.size<=b)/\b≠X.env.locals/\(∀x c,X.env.cells.lookup x=some c->c≠b)/\∀p∈X.pn++pins,p.1≠b) :
  Inv X pins σ H' { s with heap:=h',gens:=g',drawn:=d',toks:=t' }:=by
 obtain⟨m,⟨o,es,ep,ho,r⟩,_⟩:=id I.loc
 obtain⟨sl,hL⟩:=u.any ho I.free fun z=>(hch _ z).2.1 rfl
 exact I.step (ch := ch) hch (fun b o hL hb hc e n => u.keep b o e n (fun z => (P'.mp (I.stkSub b z)).elim hL hb) hc) (fun b o _ _ hc e n => u.any e n hc) (fun b o hc e n => u.free b o e n hc) (fun b o hc e => u.there b o e hc) u.tups u.frzs u.tbls (fun m' hm => by
  obtain⟨o',es',ep',ho',r'⟩:=hm
  rw[ho]at ho';cases ho'
  exact⟨_,es',ep',hL,r'⟩) hok hg
theorem Inv.turned{t':Nat}{it:Addr}(I:Inv X pins σ H s)(k:∀b o,b≠it->s.heap.get? b=some o->h'.get? b=some o)(hn:H it=none)(hL:it≠X.env.locals)
  (h1:it∈X.ex\/X.s₀.heap.objs.size<=it) (h2:∀x c,X.env.cells.lookup x=some c->c≠it) (h3:∀p∈X.pn++pins,p.1≠it):Inv X pins σ H { s with heap:=h',toks:=t' }:=by
 have nit:∀b u,H b=some u->b≠it:=fun b u e z=>by rw[z,hn]at e;cases e
 refine I.step (g':=s.gens) (d':=s.drawn) (ch:=[it]) (fun b hb=>?_) (fun b o _ _ hc e _=>k b o (fun z=>hc (by simp[z])) e) (fun b o _ _ hc e _=>⟨o.slots,k b o (fun z=>hc (by simp[z])) e⟩) (fun _ _ _ _ n=>n)
  (fun b o hc e=>⟨o,k b o (fun z=>hc (by simp[z])) e⟩) (fun _ _ e=>e) (fun _ _ _ e=>e) (fun b ps e=>⟨#[],by rw[e];simp⟩) (fun m hm=>?_) (fun b u e=>?_) I.bare
 ·have e:b=it:=by simpa using hb
  subst e
  exact⟨h1,hL,h2,h3⟩
 ·obtain⟨o,es,ep,ho,r⟩:=hm
  exact⟨o,es,ep,k _ o (Ne.symm hL) ho,r⟩
 ·refine(I.hok b u e).stay (fun c v hc q=>k c v ?_ q) (fun _ q=>q) fun _ _ q=>q
  rcases hc with z|z
  ·rw[z];exact nit b u e
  ·exact nit c _ z
theorem Inv.tok(I:Inv X pins σ H s)(t:Nat):Inv X pins σ H { s with toks:=t }:=I.un (h':=s.heap) (t':=t) Un.refl I.hok
theorem Inv.kept{t':Nat}(I:Inv X pins σ H s)(k:∀b u,s.heap.get? b=some u->h'.get? b=some u):Inv X pins σ H { s with heap:=h',toks:=t' }:=I.un (Un.kept k) (I.hok.kept k)
theorem Inv.laid{a:Addr}{o:HO}{t':Nat}(I:Inv X pins σ H s)(k:∀b u,s.heap.get? b=some u->h'.get? b=some u)(hp:s.heap.objs.size<=a)(new:ObjOk X.prog X.w (upd H a o) h' a o) :
  Inv X pins σ (upd H a o) { s with heap:=h',toks:=t' }:=I.un (Un.laid k hp (I.hok.fresh hp)) (I.hok.laid k hp new)
theorem Inv.write{x e:Addr}{o:HO}{t':Nat}(I:Inv X pins σ H s)(mu:Mut (H x))(he:e=x\/H e=some (.own x))(k:∀b u,b≠e->s.heap.get? b=some u->h'.get? b=some u)(heo:∃u,h'.get? e=some u)
  (new:ObjOk X.prog X.w (upd H x o) h' x o):Inv X pins σ (upd H x o) { s with heap:=h',toks:=t' }:=I.un (Un.write mu he k heo) (I.hok.write mu he k heo new)
theorem Inv.pins_of{pins':List (Addr×Obj)}(I:Inv X pins σ H s)(h:∀p∈pins',s.heap.get? p.1=some p.2/\H p.1=none/\p.1≠X.env.locals/\p.1∉X.fs/\∀v,p.2.data≠.cell v):Inv X pins' σ H s :=
 ⟨I.ok,I.os,I.bare,I.base,I.loc,I.cell,I.free,I.freeC,fun p hp=>(fB.mp hp).elim (fun z=>I.pin p (dY _ z)) (h p),I.hok,I.len⟩
theorem N9{N:List Str}(hN:N.Nodup){i j:Nat}{x:Str}(a:N[i]?=some x)(b:N[j]?=some x):i=j:=by
 obtain⟨h1,e1⟩:=R'.mp a
 obtain⟨h2,e2⟩:=R'.mp b
 exact(List.getElem_inj hN).mp (e1.trans e2.symm)
theorem L5{M:Model}{A:Around}{E:Value->Shared->Prop}{i:Nat}{x:Str}{v:V}{u:Value}{Q:Unit->Shared->Prop}(I:Inv X pins σ H s)(hN:X.N.Nodup)(hi:X.N[i]?=some x)(hx:Loc X.env.scope x)(r:RelV v u)
  (h:∀s',Inv X pins (σ.set i (some v)) H s'->(∃a,Heap.SameBut a s.heap s'.heap/\(a=X.env.locals\/X.env.cells.lookup x=some a))->Q () s') (hf:X.fn x=true\/X.env.scope.names.lookup x=some .local:=by first|exact .inl rfl|exact .inr rfl|assumption):wpAny M A (storeName X.env x u) Q E s:=by
 obtain⟨m,hn,hl⟩:=id I.loc
 have hcls:(X.env.scope.kind==.class||(X.env.scope.kind==.module&&X.env.locals != X.env.globals))=false:=by rw[I.ok.kind];rfl
 have hiσ:i<σ.length:=by rw[I.len];exact(R'.mp hi).1
 have cne:=I.cne
 have tracked:∀{a:Addr} {h':Heap},(∃o,s.heap.get? a=some o/\H a=none)->Heap.SameBut a s.heap h'->HOk X.prog X.w H h':=fun {a h'} ha hs b ob e=>by
  obtain⟨_,_,hfree⟩:=ha
  refine(I.hok b ob e).stay (fun c w' hc q=>(hs.2 c ?_).trans q) (fun _ q=>q) fun _ _ q=>q
  rintro rfl
  rcases hc with rfl|hc
  ·rw[hfree]at e;cases e
  ·rw[hfree]at hc;cases hc
 rcases hx with hk|hk
 ·refine wpAny_storeName_local hk hn (fun h' hn' hs=>?_) hcls
  obtain⟨oL,_,_,hoL,_⟩:=id hn
  refine h _ ⟨I.ok,I.os,I.bare,⟨fun b o e n hb hx=>?_,fun b o e n hb hx=>?_,I.base.free,fun b o e hx=>?_,I.base.tups,I.base.frzs,I.base.tbls⟩,⟨_,hn',fun j y v' e1 e2 e3=>?_⟩,fun y c e=>?_,I.free,I.freeC,fun p hp=>?_,tracked ⟨oL,hoL,I.free⟩ hs,by simpa using I.len⟩ ⟨_,hs,.inl rfl⟩
  ·exact(hs.2 b (dm (de (Y' e) I.ok.above))).trans (I.base.keep b o e n hb hx)
  ·obtain⟨sl,e1⟩:=I.base.slot b o e n hb hx
   exact⟨sl,(hs.2 b (dm (de (Y' e) I.ok.above))).trans e1⟩
  ·obtain⟨o',e1⟩:=I.base.there b o e hx
   exact⟨o',(hs.2 b (dm (de (Y' e) I.ok.above))).trans e1⟩
  ·by_cases hj:j=i
   ·subst hj
    rw[hi]at e1;cases e1
    rw[dX hiσ]at e2
    cases e2
    exact⟨u,r,.inl ⟨hk,by simp⟩⟩
   ·rw[dZ (Ne.symm hj)]at e2
    obtain⟨u',r',q⟩:=hl j y v' e1 e2 e3
    refine⟨u',r',?_⟩
    rcases q with ⟨k,e⟩|⟨k,c,e,z⟩
    ·refine .inl ⟨k,?_⟩
     have:y≠x:=fun e=>hj (N9 hN e1 (e▸hi))
     simp[this,e]
    ·exact .inr ⟨k,c,e,z.sameBut hs (cne y c e)⟩
  ·obtain⟨w',z⟩:=I.cell y c e
   exact⟨w',z.sameBut hs (cne y c e)⟩
  ·obtain⟨e,n,ne,nf,d⟩:=I.pin p hp
   exact⟨(hs.2 p.1 ne).trans e,n,ne,nf,d⟩
 ·have hfn:X.fn x=true:=by
   rcases hf with z|z
   ·exact z
   ·rw[z]at hk;cases hk
  obtain⟨c,hc⟩:=I.ok.has x (.inl hk)
  obtain⟨w',z⟩:=I.cell x c hc
  refine wpAny_storeName_cell I.ok.kind hk hc z (fun h' hc' hs=>?_)
  obtain⟨oc,hoc,hocd⟩:=id z
  refine h { s with heap:=h' } ⟨I.ok,I.os,I.bare,⟨fun b o e n hb hx=>?_,fun b o e n hb hx=>?_,I.base.free,fun b o e hx=>?_,I.base.tups,I.base.frzs,I.base.tbls⟩,⟨m,hn.sameBut hs (Ne.symm (cne x c hc)),fun j y v' e1 e2 e3=>?_⟩,fun y c' e=>?_,I.free,I.freeC,fun p hp=>?_,tracked ⟨oc,hoc,I.freeC x c hc⟩ hs,by simpa using I.len⟩ ⟨c,hs,.inr hc⟩
  ·exact(hs.2 b (dm (de (Y' e) (I.ok.cab x c hfn hc)))).trans (I.base.keep b o e n hb hx)
  ·obtain⟨sl,e1⟩:=I.base.slot b o e n hb hx
   exact⟨sl,(hs.2 b (dm (de (Y' e) (I.ok.cab x c hfn hc)))).trans e1⟩
  ·obtain⟨o',e1⟩:=I.base.there b o e hx
   exact⟨o',(hs.2 b (dm (de (Y' e) (I.ok.cab x c hfn hc)))).trans e1⟩
  ·by_cases hj:j=i
   ·subst hj
    rw[hi]at e1;cases e1
    rw[dX hiσ]at e2
    cases e2
    exact⟨u,r,.inr ⟨.inl hk,c,hc,hc'⟩⟩
   ·rw[dZ (Ne.symm hj)]at e2
    obtain⟨u',r',q⟩:=hl j y v' e1 e2 e3
    refine⟨u',r',?_⟩
    rcases q with q|⟨k,c',e,z'⟩
    ·exact .inl q
    ·refine .inr ⟨k,c',e,z'.sameBut hs ?_⟩
     rintro rfl
     exact hj (N9 hN e1 (I.ok.inj _ _ _ e hc▸hi))
  ·by_cases hcc:c'=c
   ·subst hcc;exact⟨_,hc'⟩
   ·obtain⟨w2,z2⟩:=I.cell y c' e
    exact⟨w2,z2.sameBut hs hcc⟩
  ·obtain⟨e,n,ne,nf,d⟩:=I.pin p hp
   refine⟨(hs.2 p.1 ?_).trans e,n,ne,nf,d⟩
   intro q
   rw[q,hoc]at e
   have q':oc=p.2:=E' e
   exact d w' (by rw[<- q'];exact hocd)
theorem HI{M:Model}{A:Around}{E:Value->Shared->Prop}{i:Nat}{x:Str}{v:V}{u:Value}{Q:Unit->Shared->Prop}(I:Inv X pins σ H s)(hN:X.N.Nodup)(hi:X.N[i]?=some x)(hx:Loc X.env.scope x)(r:RelV v u)
  (h:∀s',Inv X pins (σ.set i (some v)) H s'->Q () s') (hf:X.fn x=true\/X.env.scope.names.lookup x=some .local:=by first|exact .inl rfl|exact .inr rfl|assumption):wpAny M A (storeName X.env x u) Q E s :=
 L5 I hN hi hx r (fun s' I' _=>h s' I') hf
theorem Inv.call'{s':Shared}{ch:List Addr}(I:Inv X pins σ H s)(ho:s'.os=s.os)(u:Un (frs X.stack) ch H H' s.heap s'.heap)(hok:HOk X.prog X.w H' s'.heap)(hg:AllBare s'.gens)
  (hch:∀b∈ch,(b∈X.ex\/X.s₀.heap.objs.size<=b)/\b≠X.env.locals/\(∀x c,X.env.cells.lookup x=some c->c≠b)/\∀p∈X.pn++pins,p.1≠b):Inv X pins σ H' s':=by
 obtain⟨h',g',d',t',o'⟩:=s'
 have e:o'=s.os:=ho
 subst e
 exact I.call (g':=g') (t':=t') (d':=d') u hok hg hch
end
abbrev XK:=Value->Option Addr->Hp->Prop
abbrev St:=List (Option V)
abbrev VK:=V->Hp->Prop
abbrev TE:=St->Hp->VK->Prop
abbrev TT:=St->Hp->(Bool->Hp->Prop)->Prop
abbrev TA:=St->Hp->(List V->Hp->Prop)->Prop
structure Ly where
 nx:St->Hp->Prop
 rt:VK
 bk:St->Hp->Prop:=fun _ _=>False
 ct:St->Hp->Prop:=fun _ _=>False
abbrev TS:=Ly->St->Hp->Prop
def EP(X:Cx)(pins:List (Addr×Obj))(σ:St)(Q:VK)(u:Value)(s':Shared):Prop:=∃v H',Inv X pins σ H' s'/\RelV v u/\Q v H'
def TP(X:Cx)(pins:List (Addr×Obj))(σ:St)(Q:Bool->Hp->Prop)(b:Bool)(s':Shared):Prop:=∃H',Inv X pins σ H' s'/\Q b H'
def AP(X:Cx)(pins:List (Addr×Obj))(σ:St)(Q:List V->Hp->Prop)(us:List Value)(s':Shared):Prop:=∃vs H',Inv X pins σ H' s'/\Vals vs us/\Q vs H'
def SP(X:Cx)(pins:List (Addr×Obj))(D:Ly)(f:Flow)(s':Shared):Prop :=
 match f with
 |.next=>∃σ' H',Inv X pins σ' H' s'/\D.nx σ' H'
 |.brk=>∃σ' H',Inv X pins σ' H' s'/\D.bk σ' H'
 |.cont=>∃σ' H',Inv X pins σ' H' s'/\D.ct σ' H'
 |.ret u=>∃v σ' H',Inv X pins σ' H' s'/\RelV v u/\D.rt v H'
def PE(X:Cx)(e:Expr)(t:TE):Prop :=
 ∀(pins:List (Addr×Obj)) (s:Shared) (σ:St) (H:Hp) (Q:VK),Inv X pins σ H s->t σ H Q->wpAny (model X.prog X.w) X.A (eval e X.env) (EP X pins σ Q) X.xe s
def PT(X:Cx)(e:Expr)(t:TT):Prop :=
 ∀(pins:List (Addr×Obj)) (s:Shared) (σ:St) (H:Hp) (Q:Bool->Hp->Prop),Inv X pins σ H s->t σ H Q->wpAny (model X.prog X.w) X.A (isTrue e X.env (eval e X.env)) (TP X pins σ Q) X.xe s
def PW(X:Cx)(e:Expr)(t:TT):Prop :=
 ∀(whole:Sem Value) (pins:List (Addr×Obj)) (s:Shared) (σ:St) (H:Hp) (Q:Bool->Hp->Prop),Inv X pins σ H s->t σ H Q->wpAny (model X.prog X.w) X.A (isTrue e X.env whole) (TP X pins σ Q) X.xe s
theorem PW.pt{X:Cx}{e:Expr}{t:TT}(h:PW X e t):PT X e t:=h _
def PA(X:Cx)(es:List Expr)(t:TA):Prop :=
 ∀(pos:Pos) (pins:List (Addr×Obj)) (s:Shared) (σ:St) (H:Hp) (Q:List V->Hp->Prop),Inv X pins σ H s->t σ H Q->wpAny (model X.prog X.w) X.A (spliced (backTo pos (starEach es X.env))) (AP X pins σ Q) X.xe s
def PS(X:Cx)(st:Stmt)(t:TS):Prop :=
 ∀(pins:List (Addr×Obj)) (s:Shared) (σ:St) (H:Hp) (D:Ly),Inv X pins σ H s->t D σ H->wpAny (model X.prog X.w) X.A (exec st X.env) (SP X pins D) X.xe s
def PSs(X:Cx)(st:List Stmt)(t:TS):Prop :=
 ∀(pins:List (Addr×Obj)) (s:Shared) (σ:St) (H:Hp) (D:Ly),Inv X pins σ H s->t D σ H->wpAny (model X.prog X.w) X.A (execs st X.env) (SP X pins D) X.xe s
theorem thn{α:Type}{t:Sem α}{Q Q':α->Shared->Prop}{M:Model}{A:Around}{E:Value->Shared->Prop}{s:Shared}(h:wpAny M A t Q E s)(hQ:∀a s,Q a s->Q' a s):wpAny M A t Q' E s:=wpAny_mono h hQ fun _ _ x=>x
end L2
namespace L2
open PySem PySem.Spec PyProof.Rows
section
variable {X:Cx}
theorem bin{a b:Expr}{ta tb:TE}(ha:PE X a ta)(hb:PE X b tb){pins:List (Addr×Obj)}{s:Shared}{σ:St}{H:Hp}{R:V->V->Hp->Prop}(I:Inv X pins σ H s)(h:ta σ H fun x H1=>tb σ H1 fun y H2=>R x y H2)
  {α:Type} {Q:α->Shared->Prop} {f:Value->Value->Sem α}
  (hf:∀v u s2 x y H2,Inv X pins σ H2 s2->RelV x v->RelV y u->R x y H2->wpAny (model X.prog X.w) X.A (f v u) Q X.xe s2) :
  wpAny (model X.prog X.w) X.A (eval a X.env) (fun v s₁=>wpAny (model X.prog X.w) X.A (eval b X.env) (fun u s₂=>wpAny (model X.prog X.w) X.A (f v u) Q X.xe s₂) X.xe s₁) X.xe s:=by
 refine thn (ha pins s σ H _ I h) fun v s1 ⟨x,H1,I1,r1,q1⟩=>?_
 refine thn (hb pins s1 σ H1 _ I1 q1) fun u s2 ⟨y,H2,I2,r2,q2⟩=>?_
 exact hf v u s2 x y H2 I2 r1 r2 q2
def ID(i:Nat):TE:=fun σ H Q=>∃v,σ[i]?=some (some v)/\Q v H
def tC(v:V):TE:=fun _ H Q=>Q v H
theorem Sv{i:Nat}{x:Str}{pos:Pos}(hN:X.N[i]?=some x)(hv:Vis X.env.scope x)(hd:(x==("__debug__":Str))=false:=by decide)(hcd:(x==("__classdict__":Str))=false:=by decide):PE X (.Name x pos) (ID i):=by
 intro pins s σ H Q I h
 obtain⟨v,e,h⟩:=h
 obtain⟨m,hn,hl⟩:=I.loc
 obtain⟨u,r,l⟩:=hl i x v hN e hv
 have fin:EP X pins σ Q u s:=⟨v,H,I,r,h⟩
 rcases l with ⟨hk,hm⟩|⟨hk,c,hc,hcell⟩
 ·exact wpAny_Name (wpAny_loadName_local I.ok.kind hk hn hm fin) hd
 ·rcases hk with hk|hk
  ·exact wpAny_Name (wpAny_loadName_cell I.ok.kind hk hc hcell fin) hd
  ·exact wpAny_Name (wpAny_loadName_free I.ok.kind hk hc hcell fin hcd) hd
theorem Xg{i j pos}:PE X (.Constant (.int i) j pos) (tC (.int i)):=fun _ _ _ H _ I h=>wpAny_Constant_int ⟨.int i,H,I.tok _,⟨_,rfl⟩,h⟩
theorem Z5{b j pos}:PE X (.Constant (.bool b) j pos) (tC (.bl b)):=fun _ _ _ H _ I h=>Constant_bool ⟨.bl b,H,I,rfl,h⟩
theorem Xf{j pos}:PE X (.Constant .none j pos) (tC .non):=fun _ _ _ H _ I h=>Constant_none ⟨.non,H,I,rfl,h⟩
theorem Xd{x j pos}:PE X (.Constant (.str x) j pos) (tC (.str x)):=fun _ _ _ H _ I h=>Calls.Constant_str ⟨.str x,H,I.tok _,⟨_,rfl⟩,h⟩
def Gl(X:Cx)(x:Str):Prop:=X.env.kindOf x=some .globalImplicit
theorem Mz{E:Value->Shared->Prop}{pins:List (Addr×Obj)}{s:Shared}{σ:St}{H:Hp}{x:Str}{u:Value}{pos:Pos}{Q:Value->Shared->Prop}(I:Inv X pins σ H s)(hg:Gl X x)(hm:X.mg x=some u)(h:Q u s)
  (hd:(x==("__debug__":Str))=false:=by decide):wpAny (model X.prog X.w) X.A (eval (.Name x pos) X.env) Q E s :=
 hE I.ok.kind hg (Calls.loadGlobal_global (by rw[I.ok.glob];exact I.mod.glob.keeps I.bk) hm h) hd
theorem M5{E:Value->Shared->Prop}{pins:List (Addr×Obj)}{s:Shared}{σ:St}{H:Hp}{x:Str}{u:Value}{pos:Pos}{Q:Value->Shared->Prop}(I:Inv X pins σ H s)(hg:Gl X x)(hm:X.mg x=none)(hv:bootBuiltins x=some u)(h:Q u s)
  (hn:x≠"__name__":=by decide) (hd:(x==("__debug__":Str))=false:=by decide):wpAny (model X.prog X.w) X.A (eval (.Name x pos) X.env) Q E s:=by
 obtain⟨mb,h1,h2⟩:=I.mod.blt
 exact hE I.ok.kind hg (Calls.loadGlobal_builtin (by rw[I.ok.glob];exact I.mod.glob.keeps I.bk) hm (by rw[I.ok.blt];exact h1.keeps I.bk) ((h2 x hn).trans hv) h) hd
theorem MY{x:Str}{v:V}{u:Value}{pos:Pos}(hg:Gl X x)(hm:X.mg x=some u)(r:RelV v u)(hd:(x==("__debug__":Str))=false:=by decide):PE X (.Name x pos) (tC v) :=
 fun _ _ _ H _ I h=>Mz I hg hm ⟨v,H,I,r,h⟩ hd
variable {a b:Expr} {ta tb:TE} {pos:Pos}
def tB(t:TE):TT:=fun σ H Q=>t σ H fun x H1=>∃c,x = .bl c/\Q c H1
theorem XO{e:Expr}{t:TE}(h:PE X e t)(he:∀whole,isTrue e X.env whole=(do let v <- whole;standAt e.pos;holding [v] (truthy v)):=by intro _;rfl):PT X e (tB t):=by
 intro pins s σ H Q I hw
 refine isTrue_plain (thn (h pins s σ H _ I hw) fun v s1 ⟨x,H1,I1,r1,q1⟩=>?_) (he _)
 obtain⟨d,rfl,q⟩:=q1
 cases r1
 exact wpAny_truthy_bool ⟨H1,I1,q⟩
variable {tA tB':TT} {Cn:List Expr}
def Zp(t u:TT):TT:=fun σ H Q=>t σ H fun c H1=>if c=true then u σ H1 Q else Q false H1
def tOr(t u:TT):TT:=fun σ H Q=>t σ H fun c H1=>if c=true then Q true H1 else u σ H1 Q
def Zm(t:TT):TT:=fun σ H Q=>t σ H fun c H1=>Q (!c) H1
theorem Ux(ha:PT X a tA):PW X (.BoolOp .And [a] pos) tA:=by
 intro wh pins s σ H Q I h
 refine isTrue_and (thn (ha pins s σ H Q I h) fun c s1 e=>?_)
 cases c with
 |true=>exact isTrue_and_nil e
 |false=>exact e
theorem XJ(ha:PT X a tA):PW X (.BoolOp .Or [a] pos) tA:=by
 intro wh pins s σ H Q I h
 refine isTrue_or (thn (ha pins s σ H Q I h) fun c s1 e=>?_)
 cases c with
 |false=>exact isTrue_or_nil e
 |true=>exact e
theorem XM(ha:PT X a tA)(hb:PW X (.BoolOp .And (b::Cn) pos) tB'):PW X (.BoolOp .And (a::b::Cn) pos) (Zp tA tB'):=by
 intro wh pins s σ H Q I h
 refine isTrue_and (thn (ha pins s σ H _ I h) fun c s1 ⟨H1,I1,q1⟩=>?_)
 cases c with
 |true=>exact hb wh pins s1 σ H1 Q I1 q1
 |false=>exact⟨H1,I1,q1⟩
theorem Zx(ha:PT X a tA)(hb:PW X (.BoolOp .Or (b::Cn) pos) tB'):PW X (.BoolOp .Or (a::b::Cn) pos) (tOr tA tB'):=by
 intro wh pins s σ H Q I h
 refine isTrue_or (thn (ha pins s σ H _ I h) fun c s1 ⟨H1,I1,q1⟩=>?_)
 cases c with
 |true=>exact⟨H1,I1,q1⟩
 |false=>exact hb wh pins s1 σ H1 Q I1 q1
theorem XQ(ha:PT X a tA):PT X (.UnaryOp .Not a pos) (Zm tA):=by
 intro pins s σ H Q I h
 exact isTrue_not (ha pins s σ H (fun c H1=>Q (!c) H1) I h)
def WZ(ta tb:TE):TE:=fun σ H Q=>ta σ H fun x H1=>∃c,x = .bl c/\if c=true then tb σ H1 Q else Q (.bl false) H1
def Zl(ta tb:TE):TE:=fun σ H Q=>ta σ H fun x H1=>∃c,x = .bl c/\if c=true then Q (.bl true) H1 else tb σ H1 Q
theorem Xe{op}{t:TE}(h:PE X a t):PE X (.BoolOp op [a] pos) t:=fun pins s σ H Q I hw=>BoolOp_one (h pins s σ H Q I hw)
theorem Xh(ha:PE X a ta)(hb:PE X (.BoolOp .And (b::Cn) pos) tb):PE X (.BoolOp .And (a::b::Cn) pos) (WZ ta tb):=by
 intro pins s σ H Q I h
 refine BoolOp_and (thn (ha pins s σ H _ I h) fun v s1 ⟨x,H1,I1,r1,q1⟩=>?_)
 obtain⟨c,rfl,q1⟩:=q1
 cases r1
 refine wpAny_truthy_bool ?_
 cases c with
 |true=>exact hb pins s1 σ H1 Q I1 q1
 |false=>exact⟨.bl false,H1,I1,rfl,q1⟩
theorem Z2(ha:PE X a ta)(hb:PE X (.BoolOp .Or (b::Cn) pos) tb):PE X (.BoolOp .Or (a::b::Cn) pos) (Zl ta tb):=by
 intro pins s σ H Q I h
 refine BoolOp_or (thn (ha pins s σ H _ I h) fun v s1 ⟨x,H1,I1,r1,q1⟩=>?_)
 obtain⟨c,rfl,q1⟩:=q1
 cases r1
 refine wpAny_truthy_bool ?_
 cases c with
 |false=>exact hb pins s1 σ H1 Q I1 q1
 |true=>exact⟨.bl true,H1,I1,rfl,q1⟩
def tIf(t:TT)(ta tb:TE):TE:=fun σ H Q=>t σ H fun c H1=>if c=true then ta σ H1 Q else tb σ H1 Q
theorem Np{c:Expr}(hc:PT X c tA)(ha:PE X a ta)(hb:PE X b tb):PE X (.IfExp c a b pos) (tIf tA ta tb):=by
 intro pins s σ H Q I h
 refine wpAny_IfExp (thn (hc pins s σ H _ I h) fun d s1 ⟨H1,I1,q1⟩=>?_)
 cases d with
 |true=>exact ha pins s1 σ H1 Q I1 q1
 |false=>exact hb pins s1 σ H1 Q I1 q1
end
end L2
namespace L2
open PySem PySem.Spec PyProof.Rows
def SqL(K:PySem.W.Frag)(H:Hp)(a:Addr)(xs:List V):Prop :=
 Rd H a (.lst xs) \/
  ∃(o:Obj) (its:Array Value) (n:Nat),K.lookup a=some o/\o.cls = .type "list"/\o.dict=none/\o.data = .seq its n/\its.size<=sizeLine/\Vals xs its.toList
def SqT(K:PySem.W.Frag)(H:Hp)(a:Addr)(xs:List V):Prop :=
 Rd H a (.tup xs) \/
  ∃(o:Obj) (its:Array Value) (n:Nat),K.lookup a=some o/\o.cls = .type "tuple"/\o.data = .seq its n/\its.size<=sizeLine/\Vals xs its.toList
def dS:Value->Option V
 |.none=>some .non
 |.bool b=>some (.bl b)
 |.int i _=>some (.int i)
 |.str x _=>some (.str x)
 |.bytes b _=>some (.byt b)
 |.float b _=>some (.flt b)
 |.ref a=>some (.ref a)
 |.type n=>some (.ty n)
 |_=>none
theorem RelV.abs{x:V}{u:Value}(r:RelV x u):dS u=some x:=by
 cases x with
 |non=>cases r;rfl
 |bl _=>cases r;rfl
 |int _=>obtain⟨t,rfl⟩:=r;rfl
 |str _=>obtain⟨t,rfl⟩:=r;rfl
 |byt _=>obtain⟨t,rfl⟩:=r;rfl
 |flt _=>obtain⟨t,rfl⟩:=r;rfl
 |ref _=>cases r;rfl
 |ty _=>cases r;rfl
theorem RelV.inj{x y:V}{u:Value}(r:RelV x u)(q:RelV y u):x=y:=E' (r.abs.symm.trans q.abs)
theorem Vals.inj:∀{xs ys:List V} {us:List Value},Vals xs us->Vals ys us->xs=ys
 |_,_,_,.nil,.nil=>rfl
 |_,_,_,.cons r t,.cons r' t'=>by rw[r.inj r',Vals.inj t t']
section
variable {X:Cx} {pins:List (Addr×Obj)} {σ:St} {H:Hp} {s:Shared} {a:Addr} {xs ys:List V}
theorem SqL.of{K:PySem.W.Frag}(h:H a=some (.lst xs)):SqL K H a xs:=.inl (.inl h)
theorem SqT.of{K:PySem.W.Frag}(h:H a=some (.tup xs)):SqT K H a xs:=.inl (.inl h)
theorem Inv.list(I:Inv X pins σ H s)(h:SqL X.K H a xs):∃its:List Value,Vals xs its/\PlainL s.heap a its.toArray/\xs.length<=sizeLine:=by
 rcases h with h|⟨o,its,n,hk,hc,hd,hs,hz,r⟩
 ·obtain⟨z,its,n,r,e⟩:=h.ok I.hok
  exact⟨its,r,⟨_,n,e,rfl,rfl,rfl⟩,z⟩
 ·refine⟨its.toList,r,⟨o,n,I.kIn a o hk,hc,hd,by simpa using hs⟩,?_⟩
  have e:=r.length
  simp only[Array.length_toList]at e
  omega
theorem Inv.tuple(I:Inv X pins σ H s)(h:SqT X.K H a xs):∃its:List Value,Vals xs its/\IsTup s.heap a its.toArray/\xs.length<=sizeLine:=by
 rcases h with h|⟨o,its,n,hk,hc,hs,hz,r⟩
 ·obtain⟨z,its,r,p⟩:=h.ok I.hok
  exact⟨its,r,p,z⟩
 ·refine⟨its.toList,r,⟨o,I.kIn a o hk,hc,n,by simpa using hs⟩,?_⟩
  have e:=r.length
  simp only[Array.length_toList]at e
  omega
theorem Inv.list_inj(I:Inv X pins σ H s)(h:SqL X.K H a xs)(h':SqL X.K H a ys):xs=ys:=by
 obtain⟨its,r,⟨o,n,e,_,_,d⟩,_⟩:=I.list h
 obtain⟨its',r',⟨o',n',e',_,_,d'⟩,_⟩:=I.list h'
 rw[e]at e';cases e'
 rw[d]at d'
 injection d' with d1 _
 have:its=its':=by simpa using congrArg Array.toList d1
 subst this
 exact r.inj r'
end
abbrev Cx.wish(X:Cx)(E:Value->Shared->Prop):Cx:={ X with xe:=E }
abbrev Cx.nox(X:Cx):Cx:=X.wish fun _ _=>False
theorem Cx.Ok.wish{X:Cx}(ok:X.Ok)(E:Value->Shared->Prop):(X.wish E).Ok :=
 ⟨ok.mod,ok.kind,ok.glob,ok.blt,ok.above,ok.inj,ok.has,ok.cab,ok.hd,ok.frames,ok.stk,ok.exf,ok.bs,ok.bsz,ok.noex,ok.exfs,ok.funs,ok.frf⟩
theorem Cx.Ok.unwish{X:Cx}{E:Value->Shared->Prop}(ok:(X.wish E).Ok):X.Ok :=
 ⟨ok.mod,ok.kind,ok.glob,ok.blt,ok.above,ok.inj,ok.has,ok.cab,ok.hd,ok.frames,ok.stk,ok.exf,ok.bs,ok.bsz,ok.noex,ok.exfs,ok.funs,ok.frf⟩
section
variable {X:Cx} {pins:List (Addr×Obj)} {σ:St} {H:Hp} {s:Shared} {E:Value->Shared->Prop}
theorem Inv.wish(I:Inv X pins σ H s)(E:Value->Shared->Prop):Inv (X.wish E) pins σ H s:=⟨I.ok.wish E,I.os,I.bare,I.base,I.loc,I.cell,I.free,I.freeC,I.pin,I.hok,I.len⟩
theorem Inv.unwish(I:Inv (X.wish E) pins σ H s):Inv X pins σ H s:=⟨I.ok.unwish,I.os,I.bare,I.base,I.loc,I.cell,I.free,I.freeC,I.pin,I.hok,I.len⟩
theorem SP.unwish{D:Ly}{f:Flow}{s':Shared}(h:SP (X.wish E) pins D f s'):SP X pins D f s':=by
 cases f with
 |next=>obtain⟨σ',H',I,q⟩:=h;exact⟨σ',H',I.unwish,q⟩
 |brk=>obtain⟨σ',H',I,q⟩:=h;exact⟨σ',H',I.unwish,q⟩
 |cont=>obtain⟨σ',H',I,q⟩:=h;exact⟨σ',H',I.unwish,q⟩
 |ret u=>obtain⟨v,σ',H',I,r,q⟩:=h;exact⟨v,σ',H',I.unwish,r,q⟩
theorem PSs.nox{st:List Stmt}{t:TS}(h:PSs X.nox st t):PSs X st t:=fun pins s σ H D I hw =>
 wpAny_mono (h pins s σ H D (I.wish _) hw) (fun _ _ q=>q.unwish) fun _ _ z=>False.elim z
end
section
variable {X:Cx} {st:Stmt} {Cn:List Stmt} {t u:TS} {e:Expr} {te:TE} {pos:Pos}
def WW:TS:=fun D σ H=>D.nx σ H
def Zj(t u:TS):TS:=fun D σ H=>t { D with nx:=u D } σ H
theorem U3:PSs X [] WW:=fun _ _ σ H _ I h=>wpAny_execs_nil ⟨σ,H,I,h⟩
theorem Si(h1:PS X st t)(h2:PSs X Cn u):PSs X (st::Cn) (Zj t u):=by
 intro pins s σ H D I h
 refine wpAny_execs_cons (thn (h1 pins s σ H { D with nx:=u D } I h) fun f s1 q=>?_)
 cases f with
 |next =>
  obtain⟨σ',H',I',q⟩:=q
  exact h2 pins s1 σ' H' D I' q
 |ret v=>exact q
 |brk=>exact q
 |cont=>exact q
theorem U2(h1:PS X st t):PSs X [st] t:=by
 intro pins s σ H D I h
 refine wpAny_execs_cons (thn (h1 pins s σ H D I h) fun f s1 q=>?_)
 cases f with
 |next=>exact wpAny_execs_nil q
 |ret v=>exact q
 |brk=>exact q
 |cont=>exact q
theorem Inv.quiet{pins:List (Addr×Obj)}{σ:St}{H:Hp}{s:Shared}(I:Inv X pins σ H s):interactive X.env=false:=by simp[interactive,I.ok.kind]
def WY(te:TE):TS:=fun D σ H=>te σ H fun _ H1=>D.nx σ H1
theorem U4(he:PE X e te)(hs:swapsWith e none pos.line X.env=pure false:=by rfl):PS X (.Expr e pos) (WY te):=by
 intro pins s σ H D I h
 exact wpAny_Expr_any (thn (he pins s σ H _ I h) fun v s1 ⟨x,H1,I1,r1,q1⟩=>⟨σ,H1,I1,q1⟩) I.quiet hs
def W9(te:TE):TS:=fun D σ H=>te σ H D.rt
theorem Sn(he:PE X e te):PS X (.Return (some e) pos) (W9 te):=by
 intro pins s σ H D I h
 exact wpAny_Return_some (thn (he pins s σ H _ I h) fun v s1 ⟨x,H1,I1,r1,q1⟩=>⟨x,σ,H1,I1,r1,q1⟩)
def Zn(c:TT)(t u:TS):TS:=fun D σ H=>c σ H fun b H1=>if b=true then t D σ H1 else u D σ H1
theorem Z0{c:Expr}{a b:List Stmt}{tc:TT}(hc:PT X c tc)(ha:PSs X a t)(hb:PSs X b u):PS X (.If c a b pos) (Zn tc t u):=by
 intro pins s σ H D I h
 refine wpAny_If (thn (hc pins s σ H _ I h) fun d s1 ⟨H1,I1,q1⟩=>?_)
 cases d with
 |true=>exact ha pins s1 σ H1 D I1 q1
 |false=>exact hb pins s1 σ H1 D I1 q1
def SI:TS:=fun _ _ _=>False
theorem So:PS X st SI:=fun _ _ _ _ _ _ h=>h.elim
end
abbrev TG:=V->St->Hp->(St->Hp->Prop)->Prop
abbrev TGs:=List V->St->Hp->(St->Hp->Prop)->Prop
def PG(X:Cx)(target:Expr)(t:TG):Prop :=
 ∀(pins:List (Addr×Obj)) (s:Shared) (σ:St) (H:Hp) (v:V) (u:Value) (Q:St->Hp->Prop),Inv X pins σ H s->RelV v u->t v σ H Q ->
  wpAny (model X.prog X.w) X.A (assign target X.env u) (fun _ s'=>∃σ' H',Inv X pins σ' H' s'/\Q σ' H') X.xe s
def PGs(X:Cx)(ts:List Expr)(t:TGs):Prop :=
 ∀(pins:List (Addr×Obj)) (s:Shared) (σ:St) (H:Hp) (vs:List V) (us:List Value) (Q:St->Hp->Prop),Inv X pins σ H s->Vals vs us->t vs σ H Q ->
  wpAny (model X.prog X.w) X.A (assignInOrder ((assignEach ts X.env).map (·.2)) us) (fun _ s'=>∃σ' H',Inv X pins σ' H' s'/\Q σ' H') X.xe s
abbrev TSet:=V->V->V->Hp->(Hp->Prop)->Prop
def ZS(X:Cx)(t:TSet):Prop :=
 ∀(pins:List (Addr×Obj)) (s:Shared) (σ:St) (H:Hp) (o i v:V) (ov iv u:Value) (Q:Hp->Prop),Inv X pins σ H s->RelV o ov->RelV i iv->RelV v u->t o i v H Q ->
  wpAny (model X.prog X.w) X.A (setItem ov iv u) (fun _ s'=>∃H',Inv X pins σ H' s'/\Q H') X.xe s
section
variable {X:Cx} {pos:Pos}
def JN(i:Nat):TG:=fun v σ H Q=>Q (σ.set i (some v)) H
theorem U9{i:Nat}{x:Str}(hN:X.N.Nodup)(hi:X.N[i]?=some x)(hx:Loc X.env.scope x)(hf:X.fn x=true\/X.env.scope.names.lookup x=some .local:=by first|exact .inl rfl|exact .inr rfl|assumption):PG X (.Name x pos) (JN i):=by
 intro pins s σ H v u Q I r h
 exact wpAny_assign_Name (HI I hN hi hx r (fun s' I'=>⟨_,H,I',h⟩) hf)
def af:TGs:=fun vs σ H Q=>vs=[]/\Q σ H
def Ws(t:TG)(u:TGs):TGs:=fun vs σ H Q=>∃v r,vs=v::r/\t v σ H fun σ' H'=>u r σ' H' Q
theorem U8:PGs X [] af:=by
 intro pins s σ H vs us Q I r h
 obtain⟨e,h⟩:=h
 subst e
 cases r
 exact assignInOrder_nil ⟨σ,H,I,h⟩
theorem Su{e:Expr}{es:List Expr}{t:TG}{u:TGs}(h1:PG X e t)(h2:PGs X es u)
  (hs:(assignEach (e::es) X.env).map (·.2)=assign e X.env::(assignEach es X.env).map (·.2):=by rfl):PGs X (e::es) (Ws t u):=by
 intro pins s σ H vs us Q I r h
 obtain⟨v,vr,e1,h⟩:=h
 subst e1
 cases r with
 |cons r rr =>
  rw[hs]
  refine assignInOrder_cons (thn (h1 pins s σ H _ _ _ I r h) fun _ s1 ⟨σ1,H1,I1,q1⟩=>?_)
  exact h2 pins s1 σ1 H1 _ _ Q I1 rr q1
def Vf(K:PySem.W.Frag)(n:Nat)(t:TGs):TG:=fun v σ H Q=>∃a xs,v = .ref a/\SqT K H a xs/\xs.length=n/\t xs σ H Q
theorem Xa{es:List Expr}{k:Nat}{t:TGs}{n:Nat}(hc:X.calm=true)(h:PGs X es t)
  (hn:(assignEach es X.env).length=n:=by rfl) (hst:(assignEach es X.env).findIdx? (·.1)=none:=by rfl):PG X (.Tuple es k pos) (Vf X.K n t):=by
 intro pins s σ H v u Q I r hw
 obtain⟨a,xs,e1,hq,hl,hw⟩:=hw
 subst e1
 cases r
 obtain⟨its,rv,ht,hz⟩:=I.tuple hq
 refine assign_Tuple_tuple (I.ok.hd hc) ht (by simp[hn,<- hl,rv.length]) hst fun h' hx=>?_
 have I1:Inv X pins σ H { s with heap:=h' }:=I.kept (t':=s.toks) fun b o e=>hx b o (dm (Y' e)) e
 exact h pins _ σ H xs _ Q I1 (by simpa using rv) hw
def YD(to ti:TE)(t:TSet):TG:=fun v σ H Q=>to σ H fun o H1=>ti σ H1 fun i H2=>t o i v H2 fun H3=>Q σ H3
theorem Xb{o i:Expr}{to ti:TE}{t:TSet}(ho:PE X o to)(hi:PE X i ti)(hs:ZS X t)
  (ha : ∀ v, assign (.Subscript o i pos) X.env v = (do
   let ov <- holding [v] (eval o X.env)
   let iv <- holding [v,ov] (eval i X.env)
   standAt pos
   holding [v,ov,iv] (setItem ov iv v)
   release [v,ov,iv] []):=by intro _;rfl):PG X (.Subscript o i pos) (YD to ti t):=by
 intro pins s σ H v u Q I r h
 rw[ha]
 refine wpAny_bind (wpAny_holding (thn (ho pins s σ H _ I h) fun ov s1 ⟨x,H1,I1,r1,q1⟩=>?_))
 refine wpAny_bind (wpAny_holding (thn (hi pins s1 σ H1 _ I1 q1) fun iv s2 ⟨y,H2,I2,r2,q2⟩=>?_))
 refine wpAny_bind (wpAny_standAt (wpAny_bind (wpAny_holding (thn (hs pins s2 σ H2 x y v ov iv u _ I2 r1 r2 r q2) fun _ s3 ⟨H3,I3,q3⟩=>?_))))
 exact wpAny_release ⟨σ,H3,I3,q3⟩
def MT(te:TE)(g:TG):TS:=fun D σ H=>te σ H fun x H1=>g x σ H1 D.nx
theorem Sq{tg e:Expr}{te:TE}{g:TG}(he:PE X e te)(hg:PG X tg g)(hs:swapsWithSole [tg] e pos.line X.env=pure false:=by rfl)(hw:swappedStores [tg] e X.env=pure none:=by rfl)
  (h1:(assignEach [tg] X.env).map (·.2)=[assign tg X.env]:=by rfl):PS X (.Assign [tg] e pos) (MT te g):=by
 intro pins s σ H D I h
 refine wpAny_Assign_stores (thn (he pins s σ H _ I h) fun v s1 ⟨x,H1,I1,r1,q1⟩=>?_) hs hw
 rw[h1]
 exact thn (hg pins s1 σ H1 x v _ I1 r1 q1) fun _ s2 q=>q
theorem XT{i:Nat}{x:Str}{e:Expr}{te:TE}{pos':Pos}(hN:X.N.Nodup)(hi:X.N[i]?=some x)(hx:Loc X.env.scope x)(he:PE X e te)(hs:swapsWith e (some (.Name x pos')) pos.line X.env=pure false:=by rfl)(hf:X.fn x=true\/X.env.scope.names.lookup x=some .local:=by first|exact .inl rfl|exact .inr rfl|assumption) :
  PS X (.Assign [.Name x pos'] e pos) (MT te (JN i)):=by
 intro pins s σ H D I h
 refine wpAny_Assign_Name (thn (he pins s σ H _ I h) fun v s1 ⟨y,H1,I1,r1,q1⟩=>?_) hs
 exact HI I1 hN hi hx r1 (fun s2 I2=>⟨_,H1,I2,q1⟩) hf
def Zk(i j:Nat)(ta:TA):TS:=fun D σ H=>ta σ H fun vs H1=>∃v w,vs=[v,w]/\D.nx ((σ.set i (some v)).set j (some w)) H1
theorem XU{i j:Nat}{x y:Str}{a b:Expr}{ta:TA}{px py pt:Pos}{kt k2 pt2}(hc:X.calm=true)(hN:X.N.Nodup)(hi:X.N[i]?=some x)(hj:X.N[j]?=some y)(hij:i≠j)
  (hx:X.env.scope.names.lookup x=some .local) (hy:X.env.scope.names.lookup y=some .local) (ha:PA X [a,b] ta)
  (hw:swappedStores [.Tuple [.Name x px,.Name y py] kt pt] (.Tuple [a,b] k2 pt2) X.env=pure (some [x,y]))
  (hs:swapsWithSole [.Tuple [.Name x px,.Name y py] kt pt] (.Tuple [a,b] k2 pt2) pos.line X.env=pure false:=by rfl) :
  PS X (.Assign [.Tuple [.Name x px,.Name y py] kt pt] (.Tuple [a,b] k2 pt2) pos) (Zk i j ta):=by
 intro pins s σ H D I h
 rw[exec_Assign_arm]
 refine wpAny_bind (wpAny_standAt ?_)
 rw[hs]
 refine wpAny_bind (wpAny_pure ?_)
 rw[if_neg (by decide)]
 refine wpAny_bind (Tuple_ (thn (ha _ pins s σ H _ I h) fun us s1 ⟨vs,H1,I1,r1,q1⟩=>?_))
 obtain⟨v,w,e1,q1⟩:=q1
 subst e1
 obtain⟨u1,u2,rfl,rv,rw'⟩:∃u1 u2,us=[u1,u2]/\RelV v u1/\RelV w u2:=by
  cases r1 with
  |cons p q =>
   cases q with
   |cons p' q' =>
    cases q'
    exact⟨_,_,rfl,p,p'⟩
 refine wpAny_newObj_type ?_ (by show 2<=sizeLine;decide)
 have I2:Inv X pins σ H1 { s1 with heap:=s1.heap.push { cls:=.type "tuple",data:=.seq [u1,u2].toArray } }:=I1.kept (t':=s1.toks) fun b o e=>K' _ e
 rw[hw]
 refine wpAny_bind (wpAny_pure ?_)
 show wpAny (model X.prog X.w) X.A (do rule "assign.swapped-stores";let items <- unpackItems (.ref s1.heap.objs.size) 2 none;assignInOrder [fun v=>bindName X.env y v,fun v=>bindName X.env x v] items.reverse;pure Flow.next) _ _ _
 refine wpAny_bind (wpAny_rule (wpAny_bind (unpackItems_tuple (items:=#[u1,u2]) (I.ok.hd hc) (IsTup.new s1.heap _) fun h' hx'=>?_)))
 have I3:=I2.kept (h':=h') (t':=s1.toks) fun b o e=>hx' b o (dm (Y' e)) e
 show wpAny _ _ (assignInOrder [fun v=>bindName X.env y v,fun v=>bindName X.env x v] [u2,u1] >>= fun _=>pure Flow.next) _ _ _
 refine wpAny_bind (assignInOrder_cons (wpAny_bindName (HI I3 hN hj (.inl hy) rw' (fun s2 I4=>?_) (.inr hy))))
 refine assignInOrder_cons (wpAny_bindName (HI I4 hN hi (.inl hx) rv (fun s3 I5=>assignInOrder_nil (wpAny_pure ?_)) (.inr hx)))
 rw[List.set_comm _ _ (Ne.symm hij)]at I5
 exact⟨_,H1,I5,q1⟩
end
section
variable {X:Cx} {pos:Pos}
def SG(c:TT)(tb:TS):TS:=fun D σ H=>∃W:Nat->St->Hp->Prop,(∃m,W m σ H)/\∀m σ H,W m σ H ->
 c σ H fun b H1=>if b=true then ∃N:St->Hp->Prop,(∀σ' H',N σ' H'->∃m',m'<m/\W m' σ' H')/\tb { D with nx:=N,ct:=N,bk:=D.nx } σ H1 else D.nx σ H1
theorem Sk{c:Expr}{body:List Stmt}{tc:TT}{tb:TS}(hp:PassesOwn (model X.prog X.w) X.A X.env X.xe)(hc:PT X c tc)(hb:PSs X body tb):PS X (.While c body [] pos) (SG tc tb):=by
 intro pins s σ H D I h
 obtain⟨W,⟨m0,w0⟩,turn⟩:=h
 refine wpAny_While (codeAny_whileLoop (fun n s'=>∃σ' H',Inv X pins σ' H' s'/\W n σ' H') ?_ m0 ⟨σ,H,I,w0⟩)
 rintro n s1 ⟨σ1,H1,I1,w1⟩
 refine wpAny_passesOwn hp (thn (hc pins s1 σ1 H1 _ I1 (turn n σ1 H1 w1)) fun b s2 ⟨H2,I2,q2⟩=>?_)
 cases b with
 |true =>
  obtain⟨N,hN,q2⟩:=q2
  rw[if_pos rfl]
  refine wpAny_passesOwn hp (thn (hb pins s2 σ1 H2 _ I2 q2) fun f s3 q3=>?_)
  cases f with
  |next =>
   obtain⟨σ3,H3,I3,n3⟩:=q3
   obtain⟨m',hm,w3⟩:=hN σ3 H3 n3
   exact⟨m',hm,σ3,H3,I3,w3⟩
  |cont =>
   obtain⟨σ3,H3,I3,n3⟩:=q3
   obtain⟨m',hm,w3⟩:=hN σ3 H3 n3
   exact⟨m',hm,σ3,H3,I3,w3⟩
  |brk=>exact q3
  |ret v=>exact q3
 |false =>
  rw[if_neg eM]
  exact wpAny_execs_nil ⟨σ1,H2,I2,q2⟩
end
structure It where
 go:Nat->Hp->Prop
 yld:Nat->Hp->V->Hp->Prop
 stop:Nat->Hp->Prop
def Je(X:Cx)(pins:List (Addr×Obj))(H:Hp)(b:Addr):Prop :=
 H b=none/\b≠X.env.locals/\b∉X.fs/\(b∈X.ex\/X.s₀.heap.objs.size<=b)/\(∀x c,X.env.cells.lookup x=some c->c≠b)/\∀p∈X.pn++pins,p.1≠b
theorem Inv.fpOk{X:Cx}{pins:List (Addr×Obj)}{σ:St}{H H':Hp}{s:Shared}{b:Addr}(I:Inv X pins σ H s)(hb:s.heap.objs.size<=b)(hn:H' b=none):Je X pins H' b:=by
 refine⟨hn,f7 (de I.lt hb),I.nofs hb,.inr (eE I.sz hb),fun x c e z=>?_,fun p hp z=>?_⟩
 ·obtain⟨v,q⟩:=I.cell x c e
  exact absurd (de q.lt (by rw[z];exact hb)) (fg _)
 ·exact absurd (de (Y' (I.pin p hp).1) (by rw[z];exact hb)) (fg _)
structure Turn(P:Program)(w:World)(K:PySem.W.Frag)(tg:Expr)(J:It)(fp:List Addr)(it:Addr)(tn:Nat->Heap->Prop):Prop where
 mem:it∈fp
 obj:∀i h,tn i h->∀b∈fp,∃o,h.get? b=some o/\∀v,o.data≠.cell v
 keep:∀i h h',tn i h->(∀b∈fp,∀o,h.get? b=some o->h'.get? b=some o)->tn i h'
 item:∀(X:Cx),X.prog=P->X.w=w->X.K=K->X.calm=true->∀(i:Nat) (pins:List (Addr×Obj)) (s:Shared) (σ:St) (H:Hp) (E:Value->Shared->Prop),Inv X pins σ H s->(∀b∈fp,Je X pins H b)->tn i s.heap->J.go i H ->
  wpAny (model P w) X.A (pyNext (.ref it)) (fun r s1 => ∃ u, r = some u /\
   wpAny (model P w) X.A (letOwnedTupleGo tg (.ref it) u) (fun _ s2=>∃x H',Inv X pins σ H' s2/\RelV x u/\J.yld i H x H'/\tn (i+1) s2.heap/\∀b∈fp,H' b=none) E s1) E s
 done:∀(X:Cx),X.prog=P->X.w=w->X.K=K->X.calm=true->∀(i:Nat) (pins:List (Addr×Obj)) (s:Shared) (σ:St) (H:Hp) (E:Value->Shared->Prop),Inv X pins σ H s->(∀b∈fp,Je X pins H b)->tn i s.heap->J.stop i H ->
  wpAny (model P w) X.A (pyNext (.ref it)) (fun r s1=>r=none/\Inv X pins σ H s1) E s
 self:∀(A:Around) (i:Nat) (s:Shared) (Q:Value->Shared->Prop) (E:Value->Shared->Prop),tn i s.heap->Q (.ref it) s->wpAny (model P w) A (pyIter (.ref it)) Q E s
abbrev TI:=St->Hp->(It->Hp->Prop)->Prop
def PIE(X:Cx)(pins:List (Addr×Obj))(σ:St)(tg:Expr)(R:It->Hp->Prop)(itv:Value)(s2:Shared):Prop :=
 ∃(it:Addr) (fp:List Addr) (tn:Nat->Heap->Prop) (J:It) (H':Hp),itv = .ref it/\Inv X pins σ H' s2/\Turn X.prog X.w X.K tg J fp it tn/\tn 0 s2.heap/\(∀b∈fp,Je X pins H' b)/\R J H'
def PI(X:Cx)(tg iter:Expr)(wi:TI):Prop :=
 ∀(pins:List (Addr×Obj)) (s:Shared) (σ:St) (H:Hp) (R:It->Hp->Prop),Inv X pins σ H s->wi σ H R ->
  wpAny (model X.prog X.w) X.A (eval iter X.env) (fun v s1=>wpAny (model X.prog X.w) X.A (pyIter v) (PIE X pins σ tg R) X.xe s1) X.xe s
theorem Qm{M:Model}{A:Around}{E:Value->Shared->Prop}{s:Shared}{tg:Expr}{it:Addr}{u:Value}{o:Obj}{n:String}{vs:Array Value}{Q:Unit->Shared->Prop}(ho:s.heap.get? it=some o)(hc:o.cls = .type n)(hd:o.data = .fields vs)
    (hn:["enumerate","zip","dict_itemiterator","dict_reverseitemiterator","odict_iterator","itertools.zip_longest","itertools.pairwise"].contains n=false) (hQ:Q () s):wpAny M A (letOwnedTupleGo tg (.ref it) u) Q E s:=by
  unfold letOwnedTupleGo
  cases tg<;>first
    |exact wpAny_pure hQ
    | (cases u <;> first
        |exact wpAny_pure hQ
        | (refine wpAny_bind (wpAny_load ho ?_)
           rw[hc,hd]
           show wpAny M A (if (["enumerate","zip","dict_itemiterator","dict_reverseitemiterator","odict_iterator","itertools.zip_longest","itertools.pairwise"].contains n&&vs[0]?==some (rawInt _))=true then _ else _) Q E s
           rw[if_neg (by intro h;rw[hn,Bool.false_and]at h;cases h)]
           exact wpAny_pure hQ))
def Itl(K:PySem.W.Frag)(a:Addr):It :=
 ⟨fun i H=>∃xs x,SqL K H a xs/\xs[i]?=some x,fun i H x H'=>H'=H/\∀xs,SqL K H a xs->xs[i]?=some x,fun i H=>∃xs,SqL K H a xs/\xs.length<=i⟩
def Itr(lo:Int)(n:Nat):It:=⟨fun i _=>i<n,fun i H x H'=>H'=H/\x = .int (lo+i),fun i _=>n<=i⟩
theorem Q4{P:Program}{w:World}{K:PySem.W.Frag}{tg:Expr}(a it:Addr):Turn P w K tg (Itl K a) [it] it (fun i h=>h.IsListIter it a i) where
 mem:=by simp
 obj:=fun i h st b hb=>by
  have e:b=it:=by simpa using hb
  subst e
  obtain⟨o,e,c,d⟩:=st
  exact⟨o,e,fun v z=>by rw[d]at z;cases z⟩
 keep:=fun i h h' st k=>st.at fun o e=>k it (by simp) o e
 item:=by
  intro X hP hw hK hc i pins s σ H E I hf st hg
  subst hP hw hK
  obtain⟨xs,x,hq,hx⟩:=hg
  obtain⟨its,rv,p,hz⟩:=I.list hq
  obtain⟨u,hu,ru⟩:=rv.get hx
  obtain⟨f0,f1,f2,f3,f4,f5⟩:=hf it (by simp)
  refine wpAny_pyNext_list_item st p.isList (x:=u) (by simpa using hu) fun h' st' sb=>?_
  have I1:Inv X pins σ H { s with heap:=h' }:=I.turned (t':=s.toks) (fun b o hb e=>(sb.2 b hb).trans e) f0 f1 f3 f4 f5
  obtain⟨o,e,c,d⟩:=id st'
  exact⟨u,rfl,Qm (s:={ s with heap:=h' }) e c d (by decide) ⟨x,H,I1,ru,⟨rfl,fun ys hy=>by rw[I.list_inj hy hq];exact hx⟩,st',fun b hb=>(hf b hb).1⟩⟩
 done:=by
  intro X hP hw hK hc i pins s σ H E I hf st hg
  subst hP hw hK
  obtain⟨xs,hq,hx⟩:=hg
  obtain⟨its,rv,p,hz⟩:=I.list hq
  obtain⟨f0,f1,f2,f3,f4,f5⟩:=hf it (by simp)
  have hl:=rv.length
  exact wpAny_pyNext_list_end (I.ok.hd hc) st p.isList (by simp;omega) fun h' eb=>⟨rfl,I.turned (t':=s.toks) (fun b o hb e=>eb b o hb e) f0 f1 f3 f4 f5⟩
 self:=fun _ _ _ _ _ st h=>wpAny_pyIter_listiter st h
theorem Oy{P:Program}{w:World}{K:PySem.W.Frag}{tg:Expr}(it:Addr)(lo:Int)(n:Nat):Turn P w K tg (Itr lo n) [it] it (fun i h=>IsRangeIter h it (lo+(i:Nat)*1) ((n:Int)-(i:Nat)) 1) where
 mem:=by simp
 obj:=fun i h st b hb=>by
  have e:b=it:=by simpa using hb
  subst e
  exact ⟨_, st, fun v z => by
   have z':Data.fields _=Data.cell v:=z
   cases z'⟩
 keep:=fun i h h' st k=>k it (by simp) _ st
 item:=by
  intro X hP hw hK hc i pins s σ H E I hf st hg
  subst hP hw hK
  obtain⟨f0,f1,f2,f3,f4,f5⟩:=hf it (by simp)
  have W:=Walks.range (prog:=X.prog) (w:=X.w) (I.ok.hd hc) it lo 1 n
  refine W.item i s _ _ hg st fun v h' tk hv st' kk=>?_
  obtain⟨t,rfl⟩:=hv
  have I1:Inv X pins σ H { s with heap:=h',toks:=tk }:=I.turned (fun b o hb e=>kk b o (by simpa using hb) e) f0 f1 f3 f4 f5
  refine⟨_,rfl,Qm (s:={ s with heap:=h',toks:=tk }) (n:="range_iterator") st' rfl rfl (by decide) ⟨.int (lo+i),H,I1,⟨t,?_⟩,⟨rfl,rfl⟩,st',fun b hb=>(hf b hb).1⟩⟩
  rw[Int.mul_one]
 done:=by
  intro X hP hw hK hc i pins s σ H E I hf st hg
  subst hP hw hK
  obtain⟨f0,f1,f2,f3,f4,f5⟩:=hf it (by simp)
  exact wpAny_pyNext_range_end (I.ok.hd hc) st (by have:n<=i:=hg;omega) fun h' eb=>⟨rfl,I.turned (t':=s.toks) (fun b o hb e=>eb b o hb e) f0 f1 f3 f4 f5⟩
 self:=fun _ _ _ _ _ st h=>wpAny_pyIter_rangeiter st h
end L2
namespace L2
open PySem PySem.Spec PyProof.Rows
section
variable {X:Cx} {tg:Expr}
def Qk(K:PySem.W.Frag)(tl:TE):TI:=fun σ H R=>tl σ H fun x H1=>∃a,x = .ref a/\(∃xs,SqL K H1 a xs)/\R (Itl K a) H1
theorem U7{l:Expr}{tl:TE}(hl:PE X l tl):PI X tg l (Qk X.K tl):=by
 intro pins s σ H R I h
 refine thn (hl pins s σ H _ I h) fun v s1 ⟨x,H1,I1,r1,q1⟩=>?_
 obtain⟨a,e,⟨xs,hq⟩,q⟩:=q1
 subst e
 cases r1
 obtain⟨its,rv,p,hz⟩:=I1.list hq
 refine wpAny_pyIter_list p.isList ?_
 refine⟨s1.heap.objs.size,[s1.heap.objs.size],_,_,H1,rfl,I1.kept (t':=s1.toks) fun b o e=>K' _ e,Q4 a _,⟨_,dn _ rfl,rfl,rfl⟩,fun b hb=>?_,q⟩
 have e:b=s1.heap.objs.size:=by simpa using hb
 subst e
 exact I1.fpOk (J' _) (I1.hok.fresh (J' _))
theorem SX{pins:List (Addr×Obj)}{σ:St}{H:Hp}{s:Shared}{R:It->Hp->Prop}{E:Value->Shared->Prop}{lo hi:Int}{t u v:Tok}{tk:Nat}(I:Inv X pins σ H s)(h1:-(2 ^ 62)<=lo)(h2:lo<2 ^ 62)(h3:-(2 ^ 62)<=hi)(h4:hi<2 ^ 62)
  (q:R (Itr lo (hi-lo).toNat) H):wpAny (model X.prog X.w) X.A (pyIter (.ref s.heap.objs.size)) (PIE X pins σ tg R) E { s with heap:=s.heap.push { cls:=.type "range",data:=.fields #[.int lo t,.int hi u,.int 1 v] },toks:=tk }:=by
 refine wpAny_pyIter_range (IsRange.new ..) (small_one h1 h2 h3 h4) ?_
 have I1:Inv X pins σ H { s with heap:=s.heap.push { cls:=.type "range",data:=.fields #[.int lo t,.int hi u,.int 1 v] },toks:=tk }:=I.kept fun b o e=>K' _ e
 refine ⟨(s.heap.push { cls := .type "range", data := .fields #[.int lo t, .int hi u, .int 1 v] }).objs.size, [(s.heap.push { cls := .type "range", data := .fields #[.int lo t, .int hi u, .int 1 v] }).objs.size], _, _, H, rfl,
  I1.kept (t':=tk) fun b o e=>K' _ e,Oy _ lo (hi-lo).toNat,?_,fun b hb=>?_,q⟩
 ·have e1:lo+((0:Nat):Int)*1=lo:=by simp
  have e2:(((hi-lo).toNat:Nat):Int)-((0:Nat):Int)=Builtin.Range.rangeSize lo hi 1:=by rw[rangeSize_one];split<;>omega
  show IsRangeIter _ _ (lo+((0:Nat):Int)*1) ((((hi-lo).toNat:Nat):Int)-((0:Nat):Int)) 1
  rw[e1,e2]
  exact dn _ rfl
 ·have e:b=(s.heap.push { cls:=.type "range",data:=.fields #[.int lo t,.int hi u,.int 1 v] }).objs.size:=by simpa using hb
  subst e
  exact I1.fpOk (J' _) (I1.hok.fresh (J' _))
def Wl(ta:TA):TI:=fun σ H R=>ta σ H fun vs H1=>∃j:Int,vs=[.int j]/\-(2 ^ 62)<=j/\j<2 ^ 62/\R (Itr 0 j.toNat) H1
theorem RD{a:Expr}{ta:TA}{p pos:Pos}(hg:Gl X "range")(hm:X.mg "range"=none)(ha:PA X [a] ta)(hs:starEach [a] X.env=[(false,eval a X.env)]:=by rfl):PI X tg (.Call (.Name "range" p) [a] [] pos) (Wl ta):=by
 intro pins s σ H R I h
 refine Call_ (M5 I hg hm boot_range (gF (thn (ha pos pins s σ H _ I h) fun us s1 ⟨vs,H1,I1,r1,q1⟩=>?_) hs rfl))
 obtain⟨j,e,q1,q2,q⟩:=q1
 subst e
 cases r1 with
 |cons r rr =>
  cases rr
  obtain⟨t,rfl⟩:=r
  exact call_range_1 (SX I1 (by omega) (by omega) q1 q2 (by simpa using q))
def Zo(wi:TI)(g:TG)(tb:TS):TS:=fun D σ H=>wi σ H fun J H1=>∃W:Nat->Nat->St->Hp->Prop,(∃m,W 0 m σ H1)/\∀i m σ H,W i m σ H ->
 (J.stop i H/\D.nx σ H)\/(J.go i H/\∃N:St->Hp->Prop,(∀σ' H',N σ' H'->∃m',m'<m/\W (i+1) m' σ' H')/\∀x H',J.yld i H x H'->g x σ H' fun σ2 H2=>tb { D with nx:=N,ct:=N,bk:=D.nx } σ2 H2)
def KS(fp:List Addr)(h:Heap):List (Addr×Obj):=fp.filterMap fun b=>(h.get? b).map fun o=>(b,o)
theorem Ez{fp:List Addr}{h:Heap}{b:Addr}{o:Obj}(hb:b∈fp)(e:h.get? b=some o):(b,o)∈KS fp h:=gS.mpr ⟨b,hb,by rw[e];rfl⟩
theorem RO{fp:List Addr}{h:Heap}{p:Addr×Obj}(hp:p∈KS fp h):p.1∈fp/\h.get? p.1=some p.2:=by
 obtain⟨b,hb,e⟩:=gS.mp hp
 cases q:h.get? b with
 |none=>rw[q]at e;cases e
 |some o =>
  rw[q]at e
  have e':(b,o)=p:=E' e
  subst e'
  exact⟨hb,q⟩
theorem Inv.pinned{pins:List (Addr×Obj)}{σ:St}{H:Hp}{s:Shared}{fp:List Addr}(I:Inv X pins σ H s)(hf:∀b∈fp,Je X pins H b)(ho:∀b∈fp,∃o,s.heap.get? b=some o/\∀v,o.data≠.cell v):Inv X (pins++KS fp s.heap) σ H s :=
 I.pins_of fun p hp=>(fB.mp hp).elim (fun z=>I.pin p (dW _ z)) fun z=>by
  obtain⟨hb,e⟩:=RO z
  obtain⟨f0,f1,f2,_⟩:=hf p.1 hb
  obtain⟨o,e',d⟩:=ho p.1 hb
  rw[e]at e';cases e'
  exact⟨e,f0,f1,f2,d⟩
theorem Inv.unpinned{pins pl:List (Addr×Obj)}{σ:St}{H:Hp}{s:Shared}(I:Inv X (pins++pl) σ H s):Inv X pins σ H s:=I.pins_of fun p hp=>I.pin p (dW _ (dY _ hp))
theorem XW{iter:Expr}{body:List Stmt}{wi:TI}{g:TG}{tb:TS}{pos:Pos}(hp:PassesOwn (model X.prog X.w) X.A X.env X.xe)(hc:X.calm=true)(hi:PI X tg iter wi)(hg:PG X tg g)(hb:PSs X body tb)
  (hs:∀x,foldedSetIterable iter X.env x=pure x:=by intro _;rfl):PS X (.For tg iter body [] pos) (Zo wi g tb):=by
 intro pins s σ H D I h
 refine wpAny_For (thn (hi pins s σ H _ I h) fun v s1 h1=>thn h1 fun itv s2 h2=>?_) hs
 obtain⟨it,fp,tn,J,H2,e,I2,T,st2,f2,W,⟨m0,w0⟩,turn⟩:=h2
 subst e
 -- what stays true of the iterator's objects through the loop
 have stat:∀{H':Hp},(∀b∈fp,H' b=none)->∀b∈fp,Je X pins H' b:=fun hn b hb=>⟨hn b hb,(f2 b hb).2⟩
 refine codeAny_forLoop_any (fun n s'=>∃i σ' H',Inv X pins σ' H' s'/\tn i s'.heap/\(∀b∈fp,H' b=none)/\W i n σ' H') ?_ m0 ⟨0,σ,H2,I2,st2,fun b hb=>(f2 b hb).1,w0⟩
 rintro n s3 ⟨i,σ3,H3,I3,st3,fr3,w3⟩
 rcases turn i n σ3 H3 w3 with ⟨stop,qn⟩|⟨go,N,hN,step⟩
 ·refine wpAny_passesOwn hp (thn (T.done X rfl rfl rfl hc i pins s3 σ3 H3 X.xe I3 (stat fr3) st3 stop) fun r s4 ⟨hr,I4⟩=>?_)
  subst hr
  exact wpAny_execs_nil ⟨σ3,H3,I4,qn⟩
 ·refine wpAny_passesOwn hp (thn (T.item X rfl rfl rfl hc i pins s3 σ3 H3 X.xe I3 (stat fr3) st3 go) fun r s4 ⟨u,hr,h4⟩=>?_)
  subst hr
  refine wpAny_passesOwn hp (thn h4 fun _ s5 ⟨x,H5,I5,r5,y5,st5,fr5⟩=>?_)
  have I5':=I5.pinned (stat fr5) (T.obj _ _ st5)
  refine wpAny_passesOwn hp (thn (hg _ s5 σ3 H5 x u _ I5' r5 (step x H5 y5)) fun _ s6 ⟨σ6,H6,I6,q6⟩=>?_)
  refine wpAny_passesOwn hp (thn (hb _ s6 σ6 H6 _ I6 q6) fun f s7 q7=>?_)
  have again:∀{σ7:St} {H7:Hp},Inv X (pins++KS fp s5.heap) σ7 H7 s7->N σ7 H7->∃m,m<n/\∃i σ' H',Inv X pins σ' H' s7/\tn i s7.heap/\(∀b∈fp,H' b=none)/\W i m σ' H':=fun {σ7 H7} I7 n7=>by
   obtain⟨m',hm,w7⟩:=hN σ7 H7 n7
   refine⟨m',hm,i+1,σ7,H7,I7.unpinned,T.keep _ _ _ st5 fun b hb o e=>(I7.pin (b,o) (dW _ (dW _ (Ez hb e)))).1,fun b hb=>?_,w7⟩
   obtain⟨o,e,d⟩:=T.obj _ _ st5 b hb
   exact(I7.pin (b,o) (dW _ (dW _ (Ez hb e)))).2.1
  cases f with
  |next=>obtain⟨σ7,H7,I7,n7⟩:=q7;exact again I7 n7
  |cont=>obtain⟨σ7,H7,I7,n7⟩:=q7;exact again I7 n7
  |brk=>obtain⟨σ7,H7,I7,q7⟩:=q7;exact⟨σ7,H7,I7.unpinned,q7⟩
  |ret v=>obtain⟨x7,σ7,H7,I7,r7,q7⟩:=q7;exact⟨x7,σ7,H7,I7.unpinned,r7,q7⟩
end
end L2
namespace L2
open PySem PySem.Spec PyProof.Rows
abbrev R2:=V->V->Hp->VK->Prop
def OpR(X:Cx)(f:Value->Value->Sem Value)(r:R2):Prop :=
 ∀(pins:List (Addr×Obj)) (s:Shared) (σ:St) (H:Hp) (x y:V) (v u:Value) (Q:VK),Inv X pins σ H s->RelV x v->RelV y u->r x y H Q ->
  wpAny (model X.prog X.w) X.A (f v u) (EP X pins σ Q) X.xe s
def UnR(X:Cx)(f:Value->Sem Value)(r:V->Hp->VK->Prop):Prop :=
 ∀(pins:List (Addr×Obj)) (s:Shared) (σ:St) (H:Hp) (x:V) (v:Value) (Q:VK),Inv X pins σ H s->RelV x v->r x H Q ->
  wpAny (model X.prog X.w) X.A (f v) (EP X pins σ Q) X.xe s
def DM(X:Cx)(f:Value)(r:List V->Hp->VK->Prop):Prop :=
 ∀(pins:List (Addr×Obj)) (s:Shared) (σ:St) (H:Hp) (xs:List V) (us:List Value) (Q:VK),Inv X pins σ H s->Vals xs us->r xs H Q ->
  wpAny (model X.prog X.w) X.A (call f us) (EP X pins σ Q) X.xe s
def tOp(r:R2)(ta tb:TE):TE:=fun σ H Q=>ta σ H fun x H1=>tb σ H1 fun y H2=>r x y H2 Q
def tUn(r:V->Hp->VK->Prop)(ta:TE):TE:=fun σ H Q=>ta σ H fun x H1=>r x H1 Q
def rI(C:Int->Int->Prop)(g:Int->Int->V):R2:=fun x y H Q=>∃i j,x = .int i/\y = .int j/\C i j/\Q (g i j) H
def rI0(g:Int->Int->V):R2:=fun x y H Q=>∃i j,x = .int i/\y = .int j/\Q (g i j) H
def rU(g:Int->V):V->Hp->VK->Prop:=fun x H Q=>∃i,x = .int i/\Q (g i) H
section
variable {X:Cx} {a b c:Expr} {ta tb tc:TE} {pos:Pos}
theorem ZH(ha:PE X a ta)(hb:PE X b tb){pins:List (Addr×Obj)}{s:Shared}{σ:St}{H:Hp}{R:V->V->Hp->Prop}(I:Inv X pins σ H s)
  (h:ta σ H fun x H1=>tb σ H1 fun y H2=>R x y H2) {Q:Value->Shared->Prop} {f:Value->Value->Sem Value}
  (hf:∀v u s2 x y H2,Inv X pins σ H2 s2->RelV x v->RelV y u->R x y H2->wpAny (model X.prog X.w) X.A (f v u) Q X.xe s2) :
  wpAny (model X.prog X.w) X.A (eval a X.env) (fun v s₁=>wpAny (model X.prog X.w) X.A (eval b X.env) (fun u s₂=>wpAny (model X.prog X.w) X.A (f v u) Q X.xe s₂) X.xe s₁) X.xe s:=by
 refine thn (ha pins s σ H _ I h) fun v s1 ⟨x,H1,I1,r1,q1⟩=>?_
 refine thn (hb pins s1 σ H1 _ I1 q1) fun u s2 ⟨y,H2,I2,r2,q2⟩=>?_
 exact hf v u s2 x y H2 I2 r1 r2 q2
theorem Z3{op:Operator}{r:R2}(ho:OpR X (binaryOp op) r)(ha:PE X a ta)(hb:PE X b tb):PE X (.BinOp a op b pos) (tOp r ta tb):=by
 intro pins s σ H Q I h
 exact wpAny_BinOp (ZH ha hb I h fun v u s2 x y H2 I2 rx ry q=>ho pins s2 σ H2 x y v u Q I2 rx ry q)
theorem Z1{op:UnaryOp}{r:V->Hp->VK->Prop}(ho:UnR X (unaryOp op) r)(ha:PE X a ta):PE X (.UnaryOp op a pos) (tUn r ta):=by
 intro pins s σ H Q I h
 exact UnaryOp_ (thn (ha pins s σ H _ I h) fun v s1 ⟨x,H1,I1,r1,q1⟩=>ho pins s1 σ H1 x v Q I1 r1 q1)
theorem opI{f:Value->Value->Sem Value}{C:Int->Int->Prop}{g:Int->Int->Int}
  (rule:∀(i j:Int) (t u:Tok) (s:Shared) (Q:Value->Shared->Prop) (E:Value->Shared->Prop),C i j->Q (.int (g i j) s.toks) { s with toks:=s.toks+1 }->wpAny (model X.prog X.w) X.A (f (.int i t) (.int j u)) Q E s) :
  OpR X f (rI C fun i j=>.int (g i j)):=by
 intro pins s σ H x y v u Q I rx ry h
 obtain⟨i,j,rfl,rfl,hc,q⟩:=h
 obtain⟨t,rfl⟩:=rx
 obtain⟨t',rfl⟩:=ry
 exact rule i j t t' s _ _ hc ⟨.int (g i j),H,I.tok _,⟨_,rfl⟩,q⟩
theorem aA{f:Value->Value->Sem Value}{g:Int->Int->Int}
  (rule:∀(i j:Int) (t u:Tok) (s:Shared) (Q:Value->Shared->Prop) (E:Value->Shared->Prop),Q (.int (g i j) s.toks) { s with toks:=s.toks+1 }->wpAny (model X.prog X.w) X.A (f (.int i t) (.int j u)) Q E s) :
  OpR X f (rI0 fun i j=>.int (g i j)):=by
 intro pins s σ H x y v u Q I rx ry h
 obtain⟨i,j,rfl,rfl,q⟩:=h
 obtain⟨t,rfl⟩:=rx
 obtain⟨t',rfl⟩:=ry
 exact rule i j t t' s _ _ ⟨.int (g i j),H,I.tok _,⟨_,rfl⟩,q⟩
theorem VM{f:Value->Value->Sem Value}{g:Int->Int->Bool}
  (rule:∀(i j:Int) (t u:Tok) (s:Shared) (Q:Value->Shared->Prop) (E:Value->Shared->Prop),Q (.bool (g i j)) s->wpAny (model X.prog X.w) X.A (f (.int i t) (.int j u)) Q E s) :
  OpR X f (rI0 fun i j=>.bl (g i j)):=by
 intro pins s σ H x y v u Q I rx ry h
 obtain⟨i,j,rfl,rfl,q⟩:=h
 obtain⟨t,rfl⟩:=rx
 obtain⟨t',rfl⟩:=ry
 exact rule i j t t' s _ _ ⟨.bl (g i j),H,I,rfl,q⟩
def Uj(i j:Int):Prop:=0<=j/\j<=1000000/\i.natAbs<2 ^ 64
def CMul(i j:Int):Prop:=(-(2 ^ 64)<i/\i<2 ^ 64)\/(-(2 ^ 64)<j/\j<2 ^ 64)
theorem CMul.ok{i j:Int}(h:CMul i j):IntMulOk i j:=by
 rcases h with ⟨h1,h2⟩|⟨h1,h2⟩
 ·exact .of_left (intBits_le_64 h1 h2)
 ·exact .of_right (intBits_le_64 h1 h2)
theorem Xs:OpR X (binaryOp .Add) (rI0 fun i j=>.int (i+j)):=aA fun _ _ _ _ _ _ _ q=>add_int q
theorem Xi:OpR X (binaryOp .Sub) (rI0 fun i j=>.int (i-j)):=aA fun _ _ _ _ _ _ _ q=>sub_int q
theorem Xm:OpR X (binaryOp .Mod) (rI (fun _ j=>0<j) fun i j=>.int (i % j)):=opI fun i j _ _ _ _ _ hc q=>by
 have h1:(0:Int)<j:=hc
 exact mod_int' (by omega) (by rw[Int.fmod_eq_emod_of_nonneg i (by omega)];exact q)
theorem Xj:OpR X (binaryOp .Pow) (rI Uj fun i j=>.int (i ^ j.toNat)):=opI fun _ _ _ _ _ _ _ hc q=>pow_int_small hc.1 hc.2.1 hc.2.2 q
theorem unI{f:Value->Sem Value}{g:Int->Int}
  (rule:∀(i:Int) (t:Tok) (s:Shared) (Q:Value->Shared->Prop) (E:Value->Shared->Prop),Q (.int (g i) s.toks) { s with toks:=s.toks+1 }->wpAny (model X.prog X.w) X.A (f (.int i t)) Q E s) :
  UnR X f (rU fun i=>.int (g i)):=by
 intro pins s σ H x v Q I rx h
 obtain⟨i,rfl,q⟩:=h
 obtain⟨t,rfl⟩:=rx
 exact rule i t s _ _ ⟨.int (g i),H,I.tok _,⟨_,rfl⟩,q⟩
theorem W5:UnR X (unaryOp .USub) (rU fun i=>.int (-i)):=unI fun _ _ _ _ _ q=>neg_int q
end
section
variable {X:Cx} {a b c:Expr} {ta tb tc:TE} {pos:Pos}
theorem Pj{pins:List (Addr×Obj)}{σ:St}{H:Hp}{s:Shared}{Q:VK}{k k':Bool}(I:Inv X pins σ H s)(q:Q (.bl k) H)(e:k=k'):EP X pins σ Q (.bool k') s:=by
 subst e
 exact⟨.bl k,H,I,rfl,q⟩
theorem Z6:OpR X (compareOp .Lt) (rI0 fun i j=>.bl (decide (i<j))):=VM fun _ _ _ _ _ _ _ q=>lt_int q
theorem Z7:OpR X (compareOp .LtE) (rI0 fun i j=>.bl (decide (i<=j))):=VM fun _ _ _ _ _ _ _ q=>le_int q
theorem Z8:OpR X (compareOp .Gt) (rI0 fun i j=>.bl (decide (j<i))):=VM fun _ _ _ _ _ _ _ q=>gt_int q
theorem Z9:OpR X (compareOp .GtE) (rI0 fun i j=>.bl (decide (j<=i))):=VM fun _ _ _ _ _ _ _ q=>ge_int q
theorem RK:OpR X (compareOp .In) (fun x y H Q=>∃i j,x = .str i/\y = .str j/\Q (.bl (!(Builtin.Str.occurrences j i 0 j.length 1).isEmpty)) H):=by
 intro pins s σ H x y v u Q I rx ry h
 obtain⟨i,j,rfl,rfl,q⟩:=h
 obtain⟨t,rfl⟩:=rx
 obtain⟨t',rfl⟩:=ry
 exact in_str (Pj I q rfl)
theorem Xn:OpR X (compareOp .Is) (fun x y H Q=>y = .non/\Q (.bl (decide (x = .non))) H):=by
 intro pins s σ H x y v u Q I rx ry h
 obtain⟨rfl,q⟩:=h
 cases ry
 refine is_none_gen (Pj I q ?_)
 cases x<;>first
  |(cases rx;rfl)
  |(obtain⟨t,rfl⟩:=rx;rfl)
theorem VI:OpR X (compareOp .IsNot) (fun x y H Q=>y = .non/\Q (.bl (!decide (x = .non))) H):=by
 intro pins s σ H x y v u Q I rx ry h
 obtain⟨rfl,q⟩:=h
 cases ry
 refine isnot_none_gen (Pj I q ?_)
 cases x<;>first
  |(cases rx;rfl)
  |(obtain⟨t,rfl⟩:=rx;rfl)
theorem VB{op:CmpOp}{r:R2}(ho:OpR X (compareOp op) r)(ha:PE X a ta)(hb:PE X b tb)(hm:behindInMarks op b=false):PE X (.Compare a [op] [b] pos) (tOp r ta tb):=by
 intro pins s σ H Q I h
 exact wpAny_Compare1 (ZH ha hb I h fun v u s2 x y H2 I2 rx ry q=>ho pins s2 σ H2 x y v u Q I2 rx ry q) hm
def SH(t:TE):TT:=fun σ H Q=>t σ H fun x H'=>∃k,x = .bl k/\Q k H'
theorem QO{op:CmpOp}{r:R2}(ho:OpR X (compareOp op) r)(ha:PE X a ta)(hb:PE X b tb)(hm:behindInMarks op b=false):PT X (.Compare a [op] [b] pos) (SH (tOp r ta tb)):=by
 intro pins s σ H Q I h
 refine wpAny_isTrue_Compare1 (thn (ha pins s σ H _ I h) fun v s1 ⟨x, H1, I1, r1, q1⟩ => thn (hb pins s1 σ H1 _ I1 q1) fun u s2 ⟨y, H2, I2, r2, q2⟩ =>
  thn (ho pins s2 σ H2 x y v u _ I2 r1 r2 q2) fun c s3 ⟨z,H3,I3,r3,k,e,q3⟩=>?_) hm
 subst e
 cases r3
 exact wpAny_truthy_bool ⟨H3,I3,q3⟩
def O0(r r':R2)(ta tb tc:TE):TE:=fun σ H Q=>ta σ H fun x H1=>tb σ H1 fun y H2=>r x y H2 fun z H3=>∃k,z = .bl k /\
 (if k=true then tc σ H3 fun w' H4=>r' y w' H4 Q else Q (.bl false) H3)
theorem Sx{op op':CmpOp}{r r':R2}(ho:OpR X (compareOp op) r)(ho':OpR X (compareOp op') r')(ha:PE X a ta)(hb:PE X b tb)(hc:PE X c tc)
  (hm:lastMarks [op,op'] [b,c]=false:=by with_unfolding_all rfl):PE X (.Compare a [op,op'] [b,c] pos) (O0 r r' ta tb tc):=by
 intro pins s σ H Q I h
 refine Compare_chain (thn (ha pins s σ H _ I h) fun v s1 ⟨x, H1, I1, r1, q1⟩ => chain_link (thn (hb pins s1 σ H1 _ I1 q1) fun u s2 ⟨y, H2, I2, r2, q2⟩ =>
  thn (ho pins s2 σ H2 x y v u _ I2 r1 r2 q2) fun d s3 ⟨z,H3,I3,r3,k,e,q3⟩=>?_)) hm
 subst e
 cases r3
 refine wpAny_truthy_bool ?_
 cases k with
 |false=>exact ite_ff ⟨.bl false,H3,I3,rfl,q3⟩
 |true=>exact ite_tt (chain_last (thn (hc pins s3 σ H3 _ I3 q3) fun w' s4 ⟨z',H4,I4,r4,q4⟩=>ho' pins s4 σ H4 y z' u w' Q I4 r2 r4 q4))
theorem Sh{op op':CmpOp}{r r':R2}(ho:OpR X (compareOp op) r)(ho':OpR X (compareOp op') r')(ha:PE X a ta)(hb:PE X b tb)(hc:PE X c tc)
  (hm:lastMarks [op,op'] [b,c]=false:=by with_unfolding_all rfl):PT X (.Compare a [op,op'] [b,c] pos) (SH (O0 r r' ta tb tc)):=by
 intro pins s σ H Q I h
 refine isTrue_chain (thn (ha pins s σ H _ I h) fun v s1 ⟨x, H1, I1, r1, q1⟩ => test_link (thn (hb pins s1 σ H1 _ I1 q1) fun u s2 ⟨y, H2, I2, r2, q2⟩ =>
  thn (ho pins s2 σ H2 x y v u _ I2 r1 r2 q2) fun d s3 ⟨z,H3,I3,r3,k,e,q3⟩=>?_)) hm
 subst e
 cases r3
 refine wpAny_truthy_bool ?_
 cases k with
 |false =>
  obtain⟨k',e',q'⟩:=q3
  cases e'
  exact ite_ff ⟨H3,I3,q'⟩
 |true =>
  refine ite_tt (test_last (thn (hc pins s3 σ H3 _ I3 q3) fun w' s4 ⟨z',H4,I4,r4,q4⟩=>thn (ho' pins s4 σ H4 y z' u w' _ I4 r2 r4 q4) fun d' s5 ⟨z2,H5,I5,r5,k2,e2,q5⟩=>?_))
  subst e2
  cases r5
  exact wpAny_truthy_bool ⟨H5,I5,q5⟩
theorem Mv:(sizeLine:Nat)<2 ^ 63:=by rw[sizeLine_eq];decide
theorem PJ:OpR X (binaryOp .Add) (fun x y H Q=>∃i j,x = .str i/\y = .str j/\i.length+j.length<=sizeLine/\Q (.str (i++j)) H):=by
 intro pins s σ H x y v u Q I rx ry h
 obtain⟨i,j,rfl,rfl,hz,q⟩:=h
 obtain⟨t,rfl⟩:=rx
 obtain⟨t',rfl⟩:=ry
 exact add_str (fun t' tk=>⟨.str (i++j),H,I.tok _,⟨_,rfl⟩,q⟩) hz
theorem Jz{x:V}{us:List Value}(r:Vals [x] us):∃u,us=[u]/\RelV x u:=by
 cases r with
 |cons r1 r2=>cases r2;exact⟨_,rfl,r1⟩
theorem ZY{x y:V}{us:List Value}(r:Vals [x,y] us):∃u w',us=[u,w']/\RelV x u/\RelV y w':=by
 cases r with
 |cons r1 r2 =>
  cases r2 with
  |cons r3 r4=>cases r4;exact⟨_,_,rfl,r1,r3⟩
theorem US:DM X (.builtin "abs") (fun xs H Q=>∃i,xs=[.int i]/\Q (.int (if i<0 then -i else i)) H):=by
 intro pins s σ H xs us Q I r h
 obtain⟨i,rfl,q⟩:=h
 obtain⟨u,rfl,t,rfl⟩:=Jz r
 exact call_abs_int fun u tk=>⟨.int (if i<0 then -i else i),H,I.tok _,⟨_,rfl⟩,q⟩
theorem Rr(hc:X.calm=true):DM X (.builtin "max") (fun xs H Q=>∃i j,xs=[.int i,.int j]/\Q (.int (if j>i then j else i)) H):=by
 intro pins s σ H xs us Q I r h
 obtain⟨i,j,rfl,q⟩:=h
 obtain⟨u,w',rfl,⟨t,rfl⟩,⟨t',rfl⟩⟩:=ZY r
 refine max_two_ints (I.ok.hd hc) fun h' tk k=>⟨_,H,I.kept k,?_,q⟩
 by_cases hj:j>i
 ·rw[if_pos hj,if_pos hj];exact⟨_,rfl⟩
 ·rw[if_neg hj,if_neg hj];exact⟨_,rfl⟩
def Rv(K:PySem.W.Frag)(x:V)(H:Hp)(n:Nat):Prop :=
 match x with
 |.str y=>y.length<=sizeLine/\n=y.length
 |.byt y=>y.size<=sizeLine/\n=y.size
 |.ref p=>(∃xs,SqL K H p xs/\n=xs.length)\/∃xs,SqT K H p xs/\n=xs.length
 |_=>False
theorem Oj:DM X (.builtin "len") (fun xs H Q=>∃x n,xs=[x]/\Rv X.K x H n/\Q (.int n) H):=by
 intro pins s σ H xs us Q I r h
 obtain⟨x,n,rfl,e,q⟩:=h
 obtain⟨u,rfl,rx⟩:=Jz r
 have hl:=Mv
 have hs:sizeLine=16777216:=sizeLine_eq
 cases x with
 |str y =>
  obtain⟨t,rfl⟩:=rx
  obtain⟨hy,e'⟩:y.length<=sizeLine/\n=y.length:=e
  subst e'
  exact len_str (by omega) ⟨.int _,H,I.tok _,⟨_,rfl⟩,q⟩
 |byt y =>
  obtain⟨t,rfl⟩:=rx
  obtain⟨hy,e'⟩:y.size<=sizeLine/\n=y.size:=e
  subst e'
  exact PySem.W.len_bytes (by omega) ⟨.int _,H,I.tok _,⟨_,rfl⟩,q⟩
 |ref p =>
  cases rx
  have e':(∃xs,SqL X.K H p xs/\n=xs.length)\/∃xs,SqT X.K H p xs/\n=xs.length:=e
  rcases e' with ⟨xs,hx,e'⟩|⟨xs,hx,e'⟩
  ·subst e'
   obtain⟨its,r',pl,hz⟩:=I.list hx
   have hlen:=r'.length
   exact Calls.call_len_list pl.isList (by simp only[List.size_toArray];omega) ⟨.int xs.length,H,I.tok _,⟨_,by simp only[List.size_toArray];rw[hlen]⟩,q⟩
  ·subst e'
   obtain⟨its,r',pl,hz⟩:=I.tuple hx
   have hlen:=r'.length
   exact len_tuple pl (by simp only[List.size_toArray];omega) ⟨.int xs.length,H,I.tok _,⟨_,by simp only[List.size_toArray];rw[hlen]⟩,q⟩
 |_=>exact(show False from e).elim
end
end L2
namespace L2
open PySem PySem.Spec PyProof.Rows
section
variable {prog:Program} {w:World} {A:Around} {E:Value->Shared->Prop} {s:Shared} {K:PySem.W.Frag} {x dx C f:Addr} {mA:Str->Option Value} {name:Str} {v:Value}
end
section
variable {P:Program} {w:World} {H H':Hp} {h h':Heap} {a C dx:Addr} {fs fs':List (Str×V)}
end
structure Cls(K:PySem.W.Frag)(C:Addr):Prop where
 pg:PySem.W.plainGet K C Str.empty=true
 hd:PySem.W.hasDictIn K C=true
 po:PySem.W.plainOver K C=true
 sa:PySem.W.findIn K (.ref C) "__setattr__"=some (some (.builtin "object.__setattr__"))
section
variable {X:Cx} {pins:List (Addr×Obj)} {σ:St} {H:Hp} {s:Shared} {a C dx:Addr} {fs:List (Str×V)} {f:Str} {v:V} {A:Around} {E:Value->Shared->Prop}
end
section
variable {X:Cx} {o e value:Expr} {f:Str} {pos pos' tpos:Pos} {ta tv:TE}
end
section
variable {X:Cx} {pins:List (Addr×Obj)} {σ:St} {H:Hp} {s:Shared} {A:Around} {E:Value->Shared->Prop} {Q:Value->Shared->Prop} {c:Value} {b:Bool}
inductive LG (K:PySem.W.Frag) (H:Hp):V->Value->Prop where
 |non:LG K H .non (.type "NoneType")
 |bl (x:Bool):LG K H (.bl x) (.type "bool")
 |int (i:Int):LG K H (.int i) (.type "int")
 |str (x:Str):LG K H (.str x) (.type "str")
 |flt (x:UInt64):LG K H (.flt x) (.type "float")
 |lst {a:Addr} {xs:List V} (e:H a=some (.lst xs)):LG K H (.ref a) (.type "list")
 |frz {a:Addr} {o:Obj} {xs:List V} (e:H a=some (.frz o (.lst xs))):LG K H (.ref a) (.type "list")
 |tup {a:Addr} {xs:List V} (e:H a=some (.tup xs)):LG K H (.ref a) (.type "tuple")
 |dK {a:Addr} {kvs:List (Key×V)} (e:H a=some (.dK kvs)):LG K H (.ref a) (.type "dict")
 |dT {a:Addr} {kvs:List (List Key×V)} (e:H a=some (.dT kvs)):LG K H (.ref a) (.type "dict")
 |ins {a C dx:Addr} {fs:List (Str×V)} (e:H a=some (.ins C dx fs)) (cl:Cls K C) (ha:PySem.W.findIn K (.ref C) "__class__"=some (some (.builtin "object.__class__")))
   (hn:PySem.W.specialIn K (.builtin "object.__class__") "__get__"=some (some (.builtin "getset_descriptor.__get__"))) (htk:PySem.W.takesIn K (.builtin "object.__class__")=some true)
   (hm:PySem.W.mroIn K C (.type "object")=some true):LG K H (.ref a) (.ref C)
end
end L2
namespace L2
open PySem PySem.Spec PyProof.Rows
structure Room(k:Nat)(A:Around):Prop where
 hd:A.handled=none
 dp:A.depth+3*k+5<recursionLimit
 un:A.units+16*k+200<cLine
theorem Room.mono{j k:Nat}{A:Around}(r:Room k A)(h:j<=k):Room j A:=⟨r.hd,by have:=r.dp;omega,by have:=r.un;omega⟩
theorem Room.deeper{k:Nat}{A:Around}(r:Room (k+1) A)(env:Env):Room k (A.deeper env) :=
 ⟨r.hd,by have:=r.dp;show A.depth+1+3*k+5<_;omega,by have:=r.un;show A.units+3+16*k+200<_;omega⟩
theorem Room.depth{k:Nat}{A:Around}(r:Room k A):A.depth<recursionLimit:=by have:=r.dp;omega
theorem Room.units{k:Nat}{A:Around}(r:Room k A):A.units+64<cLine:=by have:=r.un;omega
def LO:TA:=fun _ H Q=>Q [] H
def HG(ta:TE)(tr:TA):TA:=fun σ H Q=>ta σ H fun x H1=>tr σ H1 fun xs H2=>Q (x::xs) H2
section
variable {X:Cx} {e:Expr} {es:List Expr} {te:TE} {t:TA} {pos:Pos}
theorem IH:PA X [] LO:=fun _ _ _ _ H Q I h=>Calls.spliced_nil ⟨[],H,I,.nil,h⟩
theorem GN(ha:PE X e te)(hr:PA X es t)(hs:starEach (e::es) X.env=(false,eval e X.env)::starEach es X.env:=by rfl):PA X (e::es) (HG te t):=by
 intro pos pins s σ H Q I h
 rw[hs]
 show wpAny _ _ (spliced ((false,eval e X.env)::backTo pos (starEach es X.env))) _ _ s
 refine Calls.spliced_cons (thn (ha pins s σ H _ I h) fun u s1 ⟨x,H1,I1,r1,q1⟩=>?_)
 exact thn (hr pos pins s1 σ H1 _ I1 q1) fun us s2 ⟨xs,H2,I2,r2,q2⟩=>⟨x::xs,H2,I2,.cons r1 r2,q2⟩
def Zi(t:TA):TE:=fun σ H Q=>t σ H fun xs H1=>xs.length<=sizeLine/\∀p,H1 p=none->Q (.ref p) (upd H1 p (.tup xs))
def XA(t:TA):TE:=fun σ H Q=>t σ H fun xs H1=>xs.length<=sizeLine/\∀p,H1 p=none->Q (.ref p) (upd H1 p (.lst xs))
theorem Xc{x1}(h:PA X es t):PE X (.Tuple es x1 pos) (Zi t):=by
 intro pins s σ H Q I hq
 refine wpAny_Tuple_spliced (thn (h pos pins s σ H _ I hq) fun us s1 ⟨xs,H1,I1,r,z,q⟩=>⟨by rw[<- r.length];exact z,?_⟩)
 have hf:H1 s1.heap.objs.size=none:=I1.hok.fresh (J' _)
 refine⟨.ref s1.heap.objs.size,upd H1 s1.heap.objs.size (.tup xs),I1.laid (t':=s1.toks) (fun b u e=>K' _ e) (J' _) ?_,rfl,q _ hf⟩
 exact⟨z,us,r,⟨_,dn _ rfl,rfl,_,rfl⟩⟩
theorem Sw(h:PA X es t):PE X (.List es pos) (XA t):=by
 intro pins s σ H Q I hq
 refine wpAny_List_spliced (thn (h pos pins s σ H _ I hq) fun us s1 ⟨xs,H1,I1,r,z,q⟩=>⟨by rw[<- r.length];exact z,?_⟩)
 have hf:H1 s1.heap.objs.size=none:=I1.hok.fresh (J' _)
 refine⟨.ref s1.heap.objs.size,upd H1 s1.heap.objs.size (.lst xs),I1.laid (t':=s1.toks) (fun b u e=>K' _ e) (J' _) ?_,rfl,q _ hf⟩
 exact⟨z,us,0,r,dn _ rfl⟩
end
abbrev Sp:=List V->Hp->VK->XK->Prop
abbrev CXT:=List Env->Hp->Shared->XK->Value->Shared->Prop
structure WN(P:Program)(w:World)(K:PySem.W.Frag)(mg:Str->Option Value)(base:Heap)(A:Around)(outer:List Env)(s:Shared)(H:Hp):Prop where
 frames:A.frames=some outer
 mod:Mod K mg base
 bs:∀b o,base.get? b=some o->s.heap.get? b=some o/\H b=none
 bsz:base.objs.size<=s.heap.objs.size
 funs:s.heap.FunFrames base outer
 frf:∀b∈frs outer,H b=none
 hok:HOk P w H s.heap
 bare:AllBare s.gens
def CE(outer:List Env)(P:Program)(w:World)(H:Hp)(s:Shared)(Q:VK)(u:Value)(s':Shared):Prop :=
 ∃v H',s'.os=s.os/\AllBare s'.gens/\Un (frs outer) [] H H' s.heap s'.heap/\HOk P w H' s'.heap/\RelV v u/\Q v H'
def CR(CX:CXT)(outer:List Env)(P:Program)(w:World)(H:Hp)(s:Shared)(Q:VK)(E:XK)(r:Result)(s':Shared):Prop :=
 match r with
 |.ok (.ret u)=>CE outer P w H s Q u s'
 |.ok _=>False
 |.error e=>CX outer H s E e s'
structure FnOk(P:Program)(w:World)(K:PySem.W.Frag)(mg:Str->Option Value)(base:Heap)(CX:CXT)(k:Nat)(f:Addr)(fd:FuncData)(ps:List Str)(sp:Sp):Prop where
 len:∀vs H Q E,sp vs H Q E->vs.length=ps.length
 run:∀(A:Around) (outer:List Env) (s:Shared) (H:Hp) (args:Args) (us:List Value) (vs:List V) (Q:VK) (E:XK),Room k A->WN P w K mg base A outer s H->BindsTo s fd args (ps.zip us)->Vals vs us->sp vs H Q E ->
  codeAny (model P w) A (.call (.ref f) args) (CR CX outer P w H s Q E) s
theorem FnOk.mono{P:Program}{w:World}{K:PySem.W.Frag}{mg:Str->Option Value}{base:Heap}{CX:CXT}{j k:Nat}{f:Addr}{fd:FuncData}{ps:List Str}{sp:Sp}(F:FnOk P w K mg base CX j f fd ps sp)(h:j<=k) :
  FnOk P w K mg base CX k f fd ps sp:=⟨F.len,fun A outer s H args us vs Q E hr=>F.run A outer s H args us vs Q E (hr.mono h)⟩
section
variable {X:Cx} {pins:List (Addr×Obj)} {σ:St} {H:Hp} {s s':Shared}
theorem Inv.env0(I:Inv X pins σ H s):WN X.prog X.w X.K X.mg X.base X.A X.stack s H :=
 ⟨I.ok.frames,I.ok.mod,I.bs,eE I.ok.bsz I.sz,I.stack,I.stkFree,I.hok,I.bare⟩
theorem Inv.after{Q:VK}{u:Value}(I:Inv X pins σ H s)(h:CE X.stack X.prog X.w H s Q u s'):EP X pins σ Q u s':=by
 obtain⟨v,H',os,bare,un,hok,r,q⟩:=h
 obtain⟨hh,g,d,t,os'⟩:=s'
 obtain rfl:os'=s.os:=os
 exact⟨v,H',I.call (h':=hh) (g':=g) (d':=d) (t':=t) (ch:=[]) un hok bare (fun b z=>absurd z (by simp)),r,q⟩
end
def Ii(sp:Sp)(dvs:List V)(E:XK)(t:TA):TE:=fun σ H Q=>t σ H fun vs H1=>sp (vs++dvs) H1 Q E
def Binds(K:PySem.W.Frag)(fd:FuncData)(ps:List Str)(ds:List Value):Prop :=
 ∀(s:Shared) (us:List Value),K.In s.heap->(us++ds).length=ps.length->BindsTo s fd ⟨us,[]⟩ (ps.zip (us++ds))
theorem Binds.all{K:PySem.W.Frag}{fd:FuncData}{ps:List Str}(h:∀us:List Value,us.length=ps.length->bindArgs fd ⟨us,[]⟩=pure (ps.zip us)):Binds K fd ps []:=fun s us _ hl=>by
 rw[dz]at hl ⊢
 exact .of_eq (h us hl)
def LM(CX:CXT)(X:Cx)(E:XK):Prop:=∀(pins:List (Addr×Obj)) (σ:St) (H:Hp) (s:Shared) (e:Value) (s':Shared),Inv X pins σ H s->CX X.stack H s E e s'->X.xe e s'
section
variable {X:Cx} {CX:CXT} {k:Nat} {f C:Addr} {fd:FuncData} {ps:List Str} {sp:Sp} {dvs:List V} {ds:List Value} {E:XK} {x m:Str} {p pos apos:Pos} {e o:Expr} {es:List Expr} {ta:TE} {t:TA}
theorem SR{pins:List (Addr×Obj)}{σ:St}{H:Hp}{s:Shared}{Q:VK}{us:List Value}{vs:List V}(F:FnOk X.prog X.w X.K X.mg X.base CX k f fd ps sp)(hr:Room k X.A)(hb:Binds X.K fd ps ds)(hd:Vals dvs ds)(hx:LM CX X E)
  (I:Inv X pins σ H s) (r:Vals vs us) (h:sp (vs++dvs) H Q E):wpAny (model X.prog X.w) X.A (call (.ref f) us) (EP X pins σ Q) X.xe s:=by
 have r2:Vals (vs++dvs) (us++ds):=r.append hd
 have hl:(us++ds).length=ps.length:=by rw[<- r2.length];exact F.len _ _ _ _ h
 refine wpAny_call (codeAny_mono (F.run X.A X.stack s H ⟨us,[]⟩ (us++ds) (vs++dvs) Q E hr I.env0 (hb s us I.kIn hl) r2 h) fun r s' hq=>?_)
 cases r with
 |error e=>exact hx pins σ H s e s' I hq
 |ok fl =>
  cases fl with
  |ret u=>exact I.after hq
  |next=>exact False.elim hq
  |brk=>exact False.elim hq
  |cont=>exact False.elim hq
theorem VC(F:FnOk X.prog X.w X.K X.mg X.base CX k f fd ps sp)(hr:Room k X.A)(hg:Gl X x)(hm:X.mg x=some (.ref f))(hk:PySem.W.keepIn X.K (.ref f)=true)(hb:Binds X.K fd ps ds)(hd:Vals dvs ds)(hx:LM CX X E)
  (ha:PA X (e::es) t) (hdb:(x==("__debug__":Str))=false:=by decide) (he:starEach (e::es) X.env=(false,eval e X.env)::starEach es X.env:=by rfl) (hpl:(backTo pos (starEach es X.env)).any (·.1)=false:=by rfl) :
  PE X (.Call (.Name x p) (e::es) [] pos) (Ii sp dvs E t):=by
 intro pins s σ H Q I h
 refine wpAny_Call_Name_kw (Mz I hg hm ?_ hdb)
 refine PySem.W.callWith_K (h₀:=X.base) I.ok.mod.kin hk (thn (ha pos pins s σ H _ I h) fun us s1 ⟨vs,H1,I1,r,q⟩=>⟨I1.kIn,?_⟩) he hpl
 exact SR F hr hb hd hx I1 r q
theorem Sz(F:FnOk X.prog X.w X.K X.mg X.base CX k f fd ps sp)(hr:Room k X.A)(hg:Gl X x)(hm:X.mg x=some (.ref f))(hk:PySem.W.keepIn X.K (.ref f)=true)(hb:Binds X.K fd ps ds)(hd:Vals dvs ds)(hx:LM CX X E)
  (hdb:(x==("__debug__":Str))=false:=by decide):PE X (.Call (.Name x p) [] [] pos) (Ii sp dvs E LO):=by
 intro pins s σ H Q I h
 refine wpAny_Call_Name_kw (Mz I hg hm ?_ hdb)
 exact PySem.W.callWith_K0 I.kIn hk (SR (us:=[]) F hr hb hd hx I .nil h)
end
section
variable {X:Cx} {CX:CXT} {k:Nat} {f C:Addr} {fd:FuncData} {ps ks:List Str} {sp:Sp} {E:XK} {x m:Str} {p pos apos kpos:Pos} {e o:Expr} {es:List Expr} {kws:List Keyword} {te ta:TE} {t tk:TA} {nm:Option Str}
variable {g:List Value->List Value->List Value} {gV:List V->List V->List V}
end
structure IB(N P:List Str)(sc:Scope):Prop where
 kind:sc.kind = .function
 co:sc.isCoroutine=false
 gen:sc.isGenerator=false
 nd:N.Nodup
 pre:N.take P.length=P
 par:∀x∈P,sc.names.lookup x=some .local\/sc.names.lookup x=some .cell
 nofree:∀y∈sc.names,y.2≠.free
theorem MN{kindOf:Str->Option NameKind}{x:Str}:∀{binds:List (Str×Value)} {m:Str->Option Value},(∀v,(x,v)∉binds)->bindL kindOf binds m x=m x
 |[],_,_=>rfl
 |(n,v)::r,m,h=>by
  unfold bindL
  rw[MN fun w hw=>h w (C' _ hw)]
  split
  ·have:x≠n:=by rintro rfl;exact h v F'
   simp[this]
  ·rfl
theorem MP{kindOf:Str->Option NameKind}{x:Str}:∀{binds:List (Str×Value)} {m:Str->Option Value},(∀v,(x,v)∉binds)->bindC kindOf binds m x=m x
 |[],_,_=>rfl
 |(n,v)::r,m,h=>by
  unfold bindC
  rw[MP fun w hw=>h w (C' _ hw)]
  split
  ·rfl
  ·have:x≠n:=by rintro rfl;exact h v F'
   simp[this]
theorem MO{kindOf:Str->Option NameKind}{x:Str}{v:Value}:∀{P:List Str} {vs:List Value} {i:Nat} {m:Str->Option Value},P.Nodup->P[i]?=some x->vs[i]?=some v->kindOf x=some .local ->
  bindL kindOf (P.zip vs) m x=some v
 |[],_,_,_,_,h,_,_=>by simp at h
 |_::_,[],_,_,_,_,h,_=>by simp at h
 |p::P,w::vs,0,m,nd,h1,h2,hk=>by
  simp at h1 h2;subst h1;subst h2
  show bindL kindOf ((p,w)::P.zip vs) m p=_
  unfold bindL
  rw[MN fun v hv=>(eC.mp nd).1 (iH hv).1,if_pos hk]
  simp
 |p::P,w::vs,i+1,m,nd,h1,h2,hk=>by
  show bindL kindOf ((p,w)::P.zip vs) m x=_
  unfold bindL
  exact MO (i:=i) (eC.mp nd).2 (by simpa using h1) (by simpa using h2) hk
theorem MQ{kindOf:Str->Option NameKind}{x:Str}{v:Value}:∀{P:List Str} {vs:List Value} {i:Nat} {m:Str->Option Value},P.Nodup->P[i]?=some x->vs[i]?=some v->kindOf x≠some .local ->
  bindC kindOf (P.zip vs) m x=some v
 |[],_,_,_,_,h,_,_=>by simp at h
 |_::_,[],_,_,_,_,h,_=>by simp at h
 |p::P,w::vs,0,m,nd,h1,h2,hk=>by
  simp at h1 h2;subst h1;subst h2
  show bindC kindOf ((p,w)::P.zip vs) m p=_
  unfold bindC
  rw[MP fun v hv=>(eC.mp nd).1 (iH hv).1,if_neg hk]
  simp
 |p::P,w::vs,i+1,m,nd,h1,h2,hk=>by
  show bindC kindOf ((p,w)::P.zip vs) m x=_
  unfold bindC
  exact MQ (i:=i) (eC.mp nd).2 (by simpa using h1) (by simpa using h2) hk
def start(N:List Str)(vs:List V):St:=vs.map some++List.replicate (N.length-vs.length) none
def Px(CX:CXT)(P:Program)(w:World)(K:PySem.W.Frag)(mg:Str->Option Value)(base:Heap)(N:List Str)(qual:Str)(scope:Scope)(f:Addr)(cd:Value)(A:Around)(outer:List Env)(s:Shared)(H:Hp)(E:XK):Cx where
 prog:=P
 w:=w
 K:=K
 mg:=mg
 base:=base
 A:=A.deeper (envOfC qual scope s.heap.objs.size f cd)
 N:=N
 s₀:=s
 H₀:=H
 env:=envOfC qual scope s.heap.objs.size f cd
 outer:=outer
 stack:=envOfC qual scope s.heap.objs.size f cd::outer
 ex:=[]
 calm:=true
 fn:=fun _=>true
 pn:=[]
 xe:=fun e s'=>wpAny (model P w) (A.deeper (envOfC qual scope s.heap.objs.size f cd)) (leaving (envOfC qual scope s.heap.objs.size f cd) e) (fun _ s''=>CX outer H s E e s'') (fun e' s''=>CX outer H s E e' s'') s'
theorem Oi{sc:Scope}{n:Nat}{x:Str}(h:sc.names.lookup x=some .cell):∃c,(cellsFrom n sc.names []).lookup x=some c:=by
 have q:=PySem.W.cellsFrom_some sc.names n [] (.inl h)
 exact Option.isSome_iff_exists.mp q
theorem Rb{CX:CXT}{P:Program}{w:World}{K:PySem.W.Frag}{mg:Str->Option Value}{base:Heap}{N ps:List Str}{qual:Str}{scope:Scope}{f:Addr}{cd:Value}{A:Around}{outer:List Env}{s s1:Shared}{H:Hp}{E:XK}{us:List Value}{vs:List V}
  (S:IB N ps scope) (hd:A.handled=none) (e0:WN P w K mg base A outer s H) (hl:vs.length=ps.length) (r:Vals vs us)
  (x:InCallC s s.heap.objs.size (bindL (envOfC qual scope s.heap.objs.size f cd).kindOf (ps.zip us) fun _=>none) (cellsFrom (s.heap.objs.size+1) scope.names []) (bindC (envOfC qual scope s.heap.objs.size f cd).kindOf (ps.zip us) fun _=>none) s1) :
  Inv (Px CX P w K mg base N qual scope f cd A outer s H E) [] (start N vs) H s1:=by
 have hpl:ps.length<=N.length:=by have:=congrArg List.length S.pre;rw[ft]at this;omega
 obtain⟨h1,tk,rfl,hk⟩:=x.done
 have noA:∀b:Addr,b∉(Px CX P w K mg base N qual scope f cd A outer s H E).ex:=fun b z=>absurd (show b∈([]:List Addr) from z) (by simp)
 refine ⟨⟨e0.mod, S.kind, rfl, rfl, J' _, fun y z c h1 h2 => ?_, fun y hy => ?_, fun y c _ h => ?_, fun _ => hd, Around.frames_deeper e0.frames, .inr ⟨rfl, rfl⟩, fun b z => absurd z (noA b), e0.bs, e0.bsz, fun b _ _ => noA b, fun b z => absurd z (noA b), e0.funs, e0.frf⟩,
  rfl,e0.bare,Un.kept hk,⟨_,x.toInCall.ns,fun i y v h1 h2 h3=>?_⟩,fun y c h=>⟨_,x.cell y c h⟩,e0.hok.fresh (J' _),fun y c h=>?_,fun p hp=>absurd (show p∈([]:List (Addr×Obj)) from hp) (by simp),e0.hok.kept hk,?_⟩
 ·exact name_of_addr x.apart (fJ h1) (fJ h2)
 ·have hy:scope.names.lookup y=some .cell\/scope.names.lookup y=some .free:=hy
  rcases hy with hy|hy
  ·exact Oi hy
  ·exact absurd rfl (S.nofree _ (fJ hy))
 ·exact f6 (x.above y c (fJ h))
 ·have hi:i<vs.length:=by
   unfold start at h2
   by_cases hi:i<vs.length
   ·exact hi
   ·rw[dh (by simpa using hi)]at h2
    rw[eX]at h2
    split at h2<;>cases h2
  have ha:vs[i]?=some v:=by
   unfold start at h2
   rw[dw (by simpa using hi),Z']at h2
   cases e:vs[i]? with
   |none=>rw[e]at h2;cases h2
   |some a=>rw[e]at h2;cases h2;rfl
  obtain⟨u,hu,rv⟩:=r.get ha
  have hp:ps[i]?=some y:=by
   rw[<- S.pre,List.getElem?_take_of_lt (by omega)];exact h1
  have ndP:ps.Nodup:=by rw[<- S.pre];exact S.nd.sublist (fG _ _)
  refine⟨u,rv,?_⟩
  rcases S.par y (du hp)with k|k
  ·exact .inl ⟨k,MO ndP hp hu k⟩
  ·obtain⟨c,e⟩:=Oi (n:=s.heap.objs.size+1) k
   refine .inr ⟨.inl k,c,e,?_⟩
   have q:=x.cell y c e
   rw[MQ ndP hp hu (by show scope.names.lookup y≠_;rw[k];decide)]at q
   exact q
 ·exact e0.hok.fresh (f6 (x.above y c (fJ h)))
 ·unfold start
  show _=N.length
  rw[L',B',fK]
  omega
theorem ag{CX:CXT}{P:Program}{w:World}{K:PySem.W.Frag}{mg:Str->Option Value}{base:Heap}{k:Nat}{f:Addr}{name qual:Str}{params:Arguments}{body:List Stmt}{scope:Scope}{dV kV doc pm cdv ct oc:Value}{an od:Option Addr}
  {osl:Array (Option Value)} {N ps:List Str} {sp:Sp} (lk:K.lookup f=some ⟨oc,od,.func (PySem.W.fnOf name qual params body scope dV kV doc pm an cdv ct),osl⟩) (hcd:PySem.W.codeIn K cdv qual=true) (S:IB N ps scope)
  (len:∀vs H Q E,sp vs H Q E->vs.length=ps.length)
  (hbody : ∀ (A : Around) (outer : List Env) (s : Shared) (H : Hp) (vs : List V) (Q : VK) (E : XK), Room k (A.deeper (envOfC qual scope s.heap.objs.size f cdv)) -> sp vs H Q E ->
   ∃t,PSs (Px CX P w K mg base N qual scope f cdv A outer s H E) body t/\t { nx:=fun _ H'=>Q .non H',rt:=Q } (start N vs) H) :
  FnOk P w K mg base CX (k+1) f (PySem.W.fnOf name qual params body scope dV kV doc pm an cdv ct) ps sp:=by
 refine⟨len,fun A outer s H args us vs Q E hr e0 hb r hsp=>?_⟩
 have hl:=len _ _ _ _ hsp
 have KX:K.In s.heap:=e0.mod.kin.keeps fun b o e=>(e0.bs b o e).1
 have lim:s.heap.NoLimit:=e0.mod.nolimit.keeps fun b o e=>(e0.bs b o e).1
 have hkind:∀y∈ps.zip us,scope.names.lookup y.1=some .local\/(scope.names.lookup y.1=some .cell/\((cellsFrom (s.heap.objs.size+1) scope.names []).lookup y.1).isSome=true):=fun⟨n,v⟩ hy=>by
  rcases S.par n (iH hy).1 with q|q
  ·exact .inl q
  ·exact .inr ⟨q,PySem.W.cellsFrom_some _ _ _ (.inl q)⟩
 refine codeAny_call_function hr.depth (KX _ _ lk) rfl S.co S.gen rfl (PySem.W.codeRec_of KX hcd) (hb _ _ _ _ ?_)
 refine wpAny_newFunctionEnv_cells S.kind hkind fun env he s1 x=>?_
 subst he
 refine⟨lim.keeps x.toInCall.keep,codeAny_func ?_⟩
 obtain⟨t,ht,hq⟩:=hbody A outer s H vs Q E (hr.deeper _) hsp
 have I:Inv (Px CX P w K mg base N qual scope f cdv A outer s H E) [] (start N vs) H s1:=Rb S hr.hd e0 hl r x
 refine wpAny_mono (ht [] s1 (start N vs) H _ I hq) (fun fl s' hs=>?_) fun e s' hs=>hs
 have fin:∀{σ':St} {H':Hp} {v:V} {u:Value},Inv (Px CX P w K mg base N qual scope f cdv A outer s H E) [] σ' H' s'->RelV v u->Q v H'->CE outer P w H s Q u s' :=
  fun {σ' H' v u} J rv q=>⟨v,H',J.os,J.bare,J.base,J.hok,rv,q⟩
 cases fl with
 |ret u =>
  obtain⟨v,σ',H',J,rv,q⟩:=hs
  exact fin J rv q
 |next =>
  obtain⟨σ',H',J,q⟩:=hs
  exact fin (v:=V.non) (u:=Value.none) J rfl q
 |brk =>
  obtain⟨_,_,_,q⟩:=hs
  exact False.elim q
 |cont =>
  obtain⟨_,_,_,q⟩:=hs
  exact False.elim q
end L2
namespace L2
open PySem PySem.Spec PyProof.Rows
section
variable {X:Cx} {x:Str} {p pos:Pos} {e:Expr} {es:List Expr} {t:TA} {id T:String} {r:List V->Hp->VK->Prop}
def tCB(r:List V->Hp->VK->Prop)(t:TA):TE:=fun σ H Q=>t σ H fun vs H1=>r vs H1 Q
theorem Nq(hc:DM X (.builtin id) r)(hg:Gl X x)(hm:X.mg x=none)(hv:bootBuiltins x=some (.builtin id))(ha:PA X (e::es) t)(hn:x≠"__name__":=by decide)(hdb:(x==("__debug__":Str))=false:=by decide)
  (he:starEach (e::es) X.env=(false,eval e X.env)::starEach es X.env:=by rfl) (hpl:(backTo pos (starEach es X.env)).any (·.1)=false:=by rfl):PE X (.Call (.Name x p) (e::es) [] pos) (tCB r t):=by
 intro pins s σ H Q I h
 refine wpAny_Call_Name_kw (M5 I hg hm hv ?_ hn hdb)
 exact PyProof.Rows.callWith_builtin1 (thn (ha pos pins s σ H _ I h) fun us s1 ⟨vs,H1,I1,r1,q1⟩=>hc pins s1 σ H1 vs us Q I1 r1 q1) he hpl
theorem RE(hc:DM X (.type T) r)(hg:Gl X x)(hm:X.mg x=none)(hv:bootBuiltins x=some (.type T))(ha:PA X (e::es) t)(hn:x≠"__name__":=by decide)(hdb:(x==("__debug__":Str))=false:=by decide)
  (he:starEach (e::es) X.env=(false,eval e X.env)::starEach es X.env:=by rfl) (hpl:(backTo pos (starEach es X.env)).any (·.1)=false:=by rfl):PE X (.Call (.Name x p) (e::es) [] pos) (tCB r t):=by
 intro pins s σ H Q I h
 refine wpAny_Call_Name_kw (M5 I hg hm hv ?_ hn hdb)
 exact gF (thn (ha pos pins s σ H _ I h) fun us s1 ⟨vs,H1,I1,r1,q1⟩=>hc pins s1 σ H1 vs us Q I1 r1 q1) he hpl
end
end L2
namespace HT
open PySem PyProof.Rows
def lexLt:List Int->List Int->Bool
 |[],[]=>false
 |[],_::_=>true
 |_::_,[]=>false
 |x::xs,y::ys=>if x=y then lexLt xs ys else decide (x<y)
theorem E5(x y:Int)(xs ys:List Int):lexLt (x::xs) (y::ys)=if x=y then lexLt xs ys else decide (x<y):=rfl
section
open PySem.SeqAt
open PySem.AutoSeq1 (wpAny_loadPart')
open PySem.MeetsSeq PySem.MeetsSeq2 PySem.MeetsSeq3
end
section
variable {prog:Program} {w:World} {A:Around} {E:Value->Shared->Prop} {s:Shared}
theorem cat_tup{t b:Addr}{vs ws:List Value}{Q:Value->Shared->Prop}(ht:IsTup s.heap t vs.toArray)(hb:IsTup s.heap b ws.toArray)(hv:vs≠[])
  (h1:ws=[]->Q (.ref t) s) (h2:ws≠[]->Q (.ref s.heap.objs.size) { s with heap:=s.heap.push { cls:=.type "tuple",data:=.seq (vs++ws).toArray } })
  (hsz:vs.length+ws.length<=sizeLine):wpAny (model prog w) A (binaryOp .Add (.ref t) (.ref b)) Q E s:=by
 obtain⟨⟨cls,dd,data,sl⟩,ho,hc,n,hd⟩:=id ht
 obtain⟨⟨cls2,dd2,data2,sl2⟩,ho2,hc2,n2,hd2⟩:=id hb
 simp only at hc hd hc2 hd2
 subst hc hd hc2 hd2
 have e:vs.toArray++ws.toArray=(vs++ws).toArray:=by simp
 by_cases hw:ws=[]
 ·exact concat_meets ⟨_,ho,rfl⟩ ⟨_,ho2,rfl⟩ noFill_tuple_add seq_tuple_add PySem.F.slot_tuple_add PySem.F.entry_tuple_add (PySem.F.args_tuple_add_2 _ _)
   (tuple_addW1 t b vs.toArray ws.toArray n n2 dd dd2 sl sl2 (by simpa using hv) (by simp[hw])) ⟨ho,ho2,h1 hw⟩
 ·refine concat_meets ⟨_,ho,rfl⟩ ⟨_,ho2,rfl⟩ noFill_tuple_add seq_tuple_add PySem.F.slot_tuple_add PySem.F.entry_tuple_add (PySem.F.args_tuple_add_2 _ _)
   (tuple_addW2 t b vs.toArray ws.toArray n n2 dd dd2 sl sl2 (by simpa using hv) (by simpa using hw) (by rw[dj,dj];exact hsz)) ⟨ho,ho2,?_⟩
  rw[e]
  exact h2 hw
def sIx(n d:Nat):Option Int->Nat
 |none=>d
 |some v=>if v<0 then (v+(n:Int)).toNat else min v.toNat n
theorem XF(n d:Nat)(hd:d<=n)(o:Option Int):sIx n d o<=n:=by
 cases o with
 |none=>exact hd
 |some v =>
  show(if v<0 then (v+(n:Int)).toNat else min v.toNat n)<=n
  by_cases hv:v<0
  ·rw[if_pos hv];omega
  ·rw[if_neg hv];exact Nat.min_le_right _ _
theorem Qv(v:Int)(n d:Nat):(if v<0 then max (v+(n:Int)) 0 else min v (n:Int))=((sIx n d (some v):Nat):Int):=by
 show(if v<0 then max (v+(n:Int)) 0 else min v (n:Int))=(((if v<0 then (v+(n:Int)).toNat else min v.toNat n):Nat):Int)
 by_cases hv:v<0
 ·simp only[if_pos hv];omega
 ·simp only[if_neg hv];omega
theorem P1(lo hi:Option Int)(n:Nat):Builtin.Slice.sliceAdjust lo hi 1 (n:Int)=(((sIx n 0 lo:Nat):Int),((sIx n n hi:Nat):Int)):=by
 have h1:¬((1:Int)<0):=by omega
 unfold Builtin.Slice.sliceAdjust
 simp only[h1,if_false]
 refine Prod.ext ?_ ?_
 ·cases lo with
  |none=>rfl
  |some v=>exact Qv v n 0
 ·cases hi with
  |none=>rfl
  |some v=>exact Qv v n n
theorem PH(i j:Nat):Builtin.Slice.slicePlaces (i:Int) (j:Int) 1=j-i:=by
 unfold Builtin.Slice.slicePlaces
 have h1:(1:Int)>0:=by omega
 simp only[h1,if_true,Int.ediv_one]
 split<;>omega
theorem J4{v:Value}{o:Option Int}{Q:Option Int->Shared->Prop}(p:IsPart v o)(h:Q o s):wpAny (model prog w) A (Builtin.Slice.slicePartIndex v) Q E s:=by
 cases p with
 |none=>exact slicePart_none h
 |int i t=>exact slicePart_int h
theorem IF{sl:Addr}{vl vu:Value}{lo hi:Option Int}{n:Nat}{Q:Int×Int×Nat->Shared->Prop}(hs:s.heap.IsSliceOf sl vl vu .none)(pl:IsPart vl lo)(pu:IsPart vu hi)
  (h:Q (((sIx n 0 lo:Nat):Int),1,sIx n n hi-sIx n 0 lo) s):wpAny (model prog w) A (Builtin.Slice.sliceApplied (.ref sl) (pure (n:Int))) Q E s:=by
 obtain⟨os,hos,hcs,hds⟩:=id hs
 unfold Builtin.Slice.sliceApplied Builtin.Slice.sliceFields
 refine wpAny_bind (wpAny_bind (wpAny_field hos hds (x:=vl) rfl (wpAny_bind (wpAny_field hos hds (x:=vu) rfl (wpAny_bind (wpAny_field hos hds (x:=.none) rfl (wpAny_pure ?_)))))))
 refine wpAny_bind (slicePart_none ?_)
 show wpAny _ _ (if ((1:Int)==0)=true then _ else _) _ _ s
 rw[if_neg (by decide)]
 refine wpAny_bind (J4 pl (wpAny_bind (J4 pu (wpAny_bind (wpAny_pure ?_)))))
 show wpAny _ _ (match Builtin.Slice.sliceAdjust lo hi 1 (n:Int) with|(lo,hi)=>pure (lo,(1:Int),Builtin.Slice.slicePlaces lo hi 1)) _ _ s
 rw[P1 lo hi n]
 show wpAny _ _ (pure (((sIx n 0 lo:Nat):Int),(1:Int),Builtin.Slice.slicePlaces ((sIx n 0 lo:Nat):Int) ((sIx n n hi:Nat):Int) 1)) _ _ s
 rw[PH]
 exact wpAny_pure h
theorem Ss(xs:Array Value)(i k:Nat):((List.range k).filterMap fun(m:Nat)=>xs[((i:Int)+(m:Int)*1).toNat]?).toArray=((xs.toList.drop i).take k).toArray:=by
 have e:(fun(m:Nat)=>xs[((i:Int)+(m:Int)*1).toNat]?)=fun m=>xs[i+m]?:=by
  funext m
  have:((i:Int)+(m:Int)*1).toNat=i+m:=by omega
  rw[this]
 rw[e]
 have:=pick_run xs i k
 rw[List.filterMap_map]at this
 have e2:((fun x=>xs[x]?)∘fun x=>i+x)=fun m=>xs[i+m]?:=rfl
 rw[e2]at this
 rw[this]
theorem getItem_tuple_cut{t sl:Addr}{items:Array Value}{vl vu:Value}{lo hi:Option Int}{Q:Value->Shared->Prop}(ht:IsTup s.heap t items)(hs:s.heap.IsSliceOf sl vl vu .none)(pl:IsPart vl lo)(pu:IsPart vu hi)
  (hw:¬(sIx items.size 0 lo=0/\sIx items.size items.size hi=items.size))
  (h:Q (.ref s.heap.objs.size) { s with heap:=s.heap.push { cls:=.type "tuple",data:=.seq ((items.toList.drop (sIx items.size 0 lo)).take (sIx items.size items.size hi-sIx items.size 0 lo)).toArray } })
  (hsz:items.size<=sizeLine):wpAny (model prog w) A (getItem (.ref t) (.ref sl)) Q E s:=by
 have htake:sizeOk (.seq ((items.toList.drop (sIx items.size 0 lo)).take (sIx items.size items.size hi-sIx items.size 0 lo)).toArray):=by
  show((items.toList.drop (sIx items.size 0 lo)).take (sIx items.size items.size hi-sIx items.size 0 lo)).toArray.size<=sizeLine
  rw[dj,ft,iF,fj]
  omega
 have hj:sIx items.size items.size hi<=items.size:=XF _ _ (J' _) hi
 obtain⟨os,hos,hcs,hds⟩:=id hs
 have hTs:s.TypeIs (.ref sl) "slice":=⟨os,hos,hcs⟩
 unfold getItem
 try with_reducible refine wpAny_holding ?_
 first|refine wpAny_bind (wpAny_pure ?_)|skip
 refine wpAny_bind (wpAny_sequenceKey ht.typeIs (by decide) ?_)
 refine wpAny_bind (wpAny_callSpecial?_slot (name := Str.ofString "__getitem__") ht.typeIs gi
  (wpAny_call_entry gi ht.typeIs entry_tuple_getitem ?_ (args_tuple_getitem _ _)))
 show wpAny _ _ (Builtin.Tuple.tupleItemsOf (.ref t) >>= _) _ _ s
 refine wpAny_bind (tupleItemsOf_ ht ?_)
 refine wpAny_bind (wpAny_typeOf hTs ?_)
 rw[if_pos (by decide)]
 refine wpAny_bind (IF hs pl pu ?_)
 have hno:¬((((sIx items.size 0 lo:Nat):Int)==0&&(1:Int)==1&&(sIx items.size items.size hi-sIx items.size 0 lo)==items.size)=true):=by
  intro q
  rw[G',G']at q
  have q1:((sIx items.size 0 lo:Nat):Int)=0:=eq_of_beq q.1.1
  have q2:sIx items.size items.size hi-sIx items.size 0 lo=items.size:=eq_of_beq q.2
  exact hw ⟨by omega,by omega⟩
 show wpAny _ _ (if (((sIx items.size 0 lo:Nat):Int)==0&&(1:Int)==1&&(sIx items.size items.size hi-sIx items.size 0 lo)==items.size)=true then _ else _) _ _ s
 rw[if_neg hno,Ss]
 first
  |exact wpAny_bind (m:=Builtin.Tuple.tupleExact _) (wpAny_newObj_type (wpAny_pure ⟨_,rfl,wpAny_pure h⟩) htake)
  |exact wpAny_bind (m:=Builtin.Tuple.tupleExact _) (wpAny_newObj_type (wpAny_bind (wpAny_pure (wpAny_pure ⟨_,rfl,wpAny_pure h⟩))) htake)
  |exact wpAny_bind (wpAny_bind (m:=Builtin.Tuple.tupleExact _) (wpAny_newObj_type (wpAny_pure (wpAny_pure ⟨_,rfl,wpAny_pure h⟩)) htake))
  |exact wpAny_bind (wpAny_bind (m:=Builtin.Tuple.tupleExact _) (wpAny_newObj_type (wpAny_pure ⟨_,rfl,wpAny_pure h⟩) htake))
end
end HT
namespace L2
open PySem PySem.Spec PyProof.Rows
abbrev TO:=St->Hp->(Option Int->Hp->Prop)->Prop
def PO(X:Cx)(e:Option Expr)(t:TO):Prop :=
 ∀(pins:List (Addr×Obj)) (s:Shared) (σ:St) (H:Hp) (Q:Option Int->Hp->Prop),Inv X pins σ H s->t σ H Q ->
  wpAny (model X.prog X.w) X.A (evalPart e X.env) (fun u s'=>∃o H',Inv X pins σ H' s'/\IsPart u o/\Q o H') X.xe s
def P8:TO:=fun _ H Q=>Q none H
def WU(t:TE):TO:=fun σ H Q=>t σ H fun x H1=>∃i,x = .int i/\Q (some i) H1
theorem Kr{ns:List Int}:∀{us:List Value},Vals (ns.map V.int) us->IntsAre us ns:=by
 induction ns with
 |nil=>intro us r;rw[List.map_nil]at r;cases r;exact .nil
 |cons n ns ih =>
  intro us r
  rw[U']at r
  cases r with
  |cons r1 r2 =>
   obtain⟨t,e⟩:=r1
   subst e
   exact .cons n t (ih r2)
section
variable {X:Cx} {e:Expr} {te:TE} {lo hi:Option Expr} {tl th:TO} {pos p2:Pos}
theorem U6:PO X none P8:=by
 intro pins s σ H Q I h
 rw[evalPart_none]
 exact wpAny_pure ⟨none,H,I,.none,h⟩
theorem U5(h:PE X e te):PO X (some e) (WU te):=by
 intro pins s σ H Q I hw
 rw[evalPart_some]
 refine thn (h pins s σ H _ I hw) fun u s1 ⟨x,H1,I1,r1,q1⟩=>?_
 obtain⟨i,rfl,q⟩:=q1
 obtain⟨t,rfl⟩:=r1
 exact⟨some i,H1,I1,.int i t,q⟩
def SlR(X:Cx)(r:V->Option Int->Option Int->Hp->VK->Prop):Prop :=
 ∀(pins:List (Addr×Obj)) (s:Shared) (σ:St) (H:Hp) (x:V) (v vl vu:Value) (lo hi:Option Int) (sl:Addr) (Q:VK),Inv X pins σ H s->RelV x v->s.heap.IsSliceOf sl vl vu .none->IsPart vl lo->IsPart vu hi->r x lo hi H Q ->
  ∃T id,typeLookup (.type T) "__getitem__"=pure (some (.builtin id))/\s.TypeIs v T/\wpAny (model X.prog X.w) X.A (getItem v (.ref sl)) (EP X pins σ Q) X.xe s
def tSl(r:V->Option Int->Option Int->Hp->VK->Prop)(te:TE)(tl th:TO):TE:=fun σ H Q=>te σ H fun x H1=>tl σ H1 fun l H2=>th σ H2 fun u H3=>r x l u H3 Q
theorem Nn{r:V->Option Int->Option Int->Hp->VK->Prop}(hr:SlR X r)(he:PE X e te)(hl:PO X lo tl)(hu:PO X hi th):PE X (.Subscript e (.Slice lo hi none p2) pos) (tSl r te tl th):=by
 intro pins s σ H Q I h
 refine Subscript_ (thn (he pins s σ H _ I h) fun v s1 ⟨x,H1,I1,r1,q1⟩=>?_)
 refine wpAny_Slice (thn (hl pins s1 σ H1 _ I1 q1) fun vl s2 ⟨l,H2,I2,pl,q2⟩=>thn (hu pins s2 σ H2 _ I2 q2) fun vu s3 ⟨u,H3,I3,pu,q3⟩=>?_)
 rw[evalPart_none]
 refine wpAny_pure ?_
 have I4:Inv X pins σ H3 { s3 with heap:=s3.heap.push { cls:=.type "slice",data:=.fields #[vl,vu,.none] } }:=I3.kept (t':=s3.toks) fun b ob q=>K' _ q
 obtain⟨T,id,hT,ht,hg⟩:=hr pins { s3 with heap:=s3.heap.push { cls:=.type "slice",data:=.fields #[vl,vu,.none] } } σ H3 x v vl vu l u s3.heap.objs.size Q I4 r1 (Heap.IsSliceOf.new ..) pl pu q3
 show wpAny (model X.prog X.w) X.A (subscriptTail e (.Slice lo hi none p2) v (.ref s3.heap.objs.size)) (EP X pins σ Q) X.xe { s3 with heap:=s3.heap.push { cls:=.type "slice",data:=.fields #[vl,vu,.none] } }
 exact tail_any (ops:=[.ref s3.heap.objs.size,v]) ht hT hg (by with_unfolding_all rfl)
def Lp(xs:List V)(lo hi:Option Int):List V:=(xs.drop (HT.sIx xs.length 0 lo)).take (HT.sIx xs.length xs.length hi-HT.sIx xs.length 0 lo)
theorem JO(xs:List V)(lo hi:Option Int):(Lp xs lo hi).length<=xs.length:=by
 unfold Lp
 rw[ft,iF]
 omega
def XG(K:PySem.W.Frag):V->Option Int->Option Int->Hp->VK->Prop:=fun x lo hi H Q=>∃a xs,x = .ref a/\SqT K H a xs /\
 ¬(HT.sIx xs.length 0 lo=0/\HT.sIx xs.length xs.length hi=xs.length)/\∀p,H p=none->Q (.ref p) (upd H p (.tup (Lp xs lo hi)))
theorem XD:SlR X (XG X.K):=by
 intro pins s σ H x v vl vu lo hi sl Q I rx hs pl pu h
 obtain⟨a,xs,rfl,hx,hw,q⟩:=h
 cases rx
 obtain⟨its,r,ht,hz⟩:=I.tuple hx
 have hlen:its.toArray.size=xs.length:=by rw[dj];exact r.length.symm
 refine⟨"tuple",_,PyProof.Rows.slot_tuple_getitem.lookup,ht.typeIs,?_⟩
 refine HT.getItem_tuple_cut ht hs pl pu (by rw[hlen];exact hw) ?_ (by rw[hlen];exact hz)
 rw[hlen]
 refine⟨.ref s.heap.objs.size,_,I.laid (t':=s.toks) (o:=.tup (Lp xs lo hi)) (fun b ob q=>K' _ q) (J' _) ?_,rfl,q _ (I.hok.fresh (J' _))⟩
 exact⟨eE (JO xs lo hi) hz,_,(r.drop (HT.sIx xs.length 0 lo)).take (HT.sIx xs.length xs.length hi-HT.sIx xs.length 0 lo),IsTup.new _ _⟩
def QL(K:PySem.W.Frag):R2:=fun x y H Q=>∃a b xs ys,x = .ref a/\y = .ref b/\SqT K H a xs/\SqT K H b ys/\xs≠[]/\xs.length+ys.length<=sizeLine /\
 (ys=[]->Q (.ref a) H)/\(ys≠[]->∀p,H p=none->Q (.ref p) (upd H p (.tup (xs++ys))))
theorem Vals.nil_iff{xs:List V}{us:List Value}(r:Vals xs us):us=[]↔xs=[]:=by
 cases r with
 |nil=>simp
 |cons _ _=>simp
theorem VL:OpR X (binaryOp .Add) (QL X.K):=by
 intro pins s σ H x y v u Q I rx ry h
 obtain⟨a,b,xs,ys,rfl,rfl,ha,hb,hx,hz,q1,q2⟩:=h
 cases rx
 cases ry
 obtain⟨its,r1,p1,_⟩:=I.tuple ha
 obtain⟨its2,r2,p2,_⟩:=I.tuple hb
 refine HT.cat_tup p1 p2 (fun z=>hx (r1.nil_iff.mp z)) (fun z=>⟨.ref a,H,I,rfl,q1 (r2.nil_iff.mp z)⟩) (fun z=>?_) (by rw[<- r1.length,<- r2.length];exact hz)
 refine⟨.ref s.heap.objs.size,_,I.laid (t':=s.toks) (o:=.tup (xs++ys)) (fun b ob q=>K' _ q) (J' _) ?_,rfl,q2 (fun w=>z (r2.nil_iff.mpr w)) _ (I.hok.fresh (J' _))⟩
 exact⟨by rw[L'];exact hz,_,r1.append r2,IsTup.new _ _⟩
end
end L2
namespace L2
open PySem PySem.Spec PyProof.Rows
def ixN(n:Nat)(i:Int):Option Nat:=if 0<=i then (if i<n then some i.toNat else none) else if -(n:Int)<=i then some (i+n).toNat else none
def atI{α:Type}(xs:List α)(i:Int):Option α:=(ixN xs.length i).bind fun j=>xs[j]?
theorem VY{n:Nat}{i:Int}{j:Nat}(h:ixN n i=some j):seqIndex? i n=some j/\j<n/\-(n:Int)<=i/\i<n:=by
 unfold ixN at h
 by_cases h0:0<=i
 ·rw[if_pos h0]at h
  by_cases h1:i<n
  ·rw[if_pos h1]at h
   have e:i.toNat=j:=E' h
   exact⟨by rw[seqIndex_of h0 h1,e],by omega,by omega,h1⟩
  ·rw[if_neg h1]at h;cases h
 ·rw[if_neg h0]at h
  by_cases h1:-(n:Int)<=i
  ·rw[if_pos h1]at h
   have e:(i+n).toNat=j:=E' h
   exact⟨by rw[seqIndex_neg (by omega) h1,e],by omega,h1,by omega⟩
  ·rw[if_neg h1]at h;cases h
theorem NP{α:Type}{xs:List α}{i:Int}{v:α}(h:atI xs i=some v):∃j,seqIndex? i xs.length=some j/\xs[j]?=some v/\j<xs.length/\-(xs.length:Int)<=i/\i<xs.length:=by
 unfold atI at h
 cases e:ixN xs.length i with
 |none=>rw[e]at h;cases h
 |some j =>
  rw[e]at h
  obtain⟨h1,h2,h3,h4⟩:=VY e
  exact⟨j,h1,h,h2,h3,h4⟩
def IA(b:Expr):Prop:=∀o i,subscripted b false o i=operate [o,i] (getItem o i)
def IxR(X:Cx)(r:R2):Prop :=
 ∀(value slice:Expr) (pins:List (Addr×Obj)) (s:Shared) (σ:St) (H:Hp) (x y:V) (v u:Value) (Q:VK),Inv X pins σ H s->RelV x v->RelV y u->r x y H Q ->
  subscripted slice false v u=operate [v,u] (getItem v u)->wpAny (model X.prog X.w) X.A (subscriptTail value slice v u) (EP X pins σ Q) X.xe s
def MtR(X:Cx)(id:String)(r:V->List V->Hp->VK->Prop):Prop :=
 ∀(pins:List (Addr×Obj)) (s:Shared) (σ:St) (H:Hp) (x:V) (xs:List V) (v:Value) (us:List Value) (Q:VK),Inv X pins σ H s->RelV x v->Vals xs us->r x xs H Q ->
  wpAny (model X.prog X.w) X.A (call (.builtin id) (v::us)) (EP X pins σ Q) X.xe s
section
variable {X:Cx} {a b:Expr} {ta tb:TE} {pos:Pos}
theorem QR{r:R2}(hr:IxR X r)(ha:PE X a ta)(hb:PE X b tb)(hs:IA b):PE X (.Subscript a b pos) (tOp r ta tb):=by
 intro pins s σ H Q I h
 exact Subscript_ (ZH ha hb I h fun v u s2 x y H2 I2 rx ry q=>hr a b pins s2 σ H2 x y v u Q I2 rx ry q (hs _ _))
def Q9(K:PySem.W.Frag):R2:=fun x y H Q=>∃p xs i v,x = .ref p/\y = .int i/\SqL K H p xs/\atI xs i=some v/\Q v H
def Uv(K:PySem.W.Frag):R2:=fun x y H Q=>∃p xs i v,x = .ref p/\y = .int i/\SqT K H p xs/\atI xs i=some v/\Q v H
def Zu:R2:=fun x y H Q=>∃z i c,x = .str z/\y = .int i/\z.length<=sizeLine/\atI z.cps.toList i=some c/\Q (.str ⟨#[c]⟩) H
theorem Qe:IxR X (Q9 X.K):=by
 intro value slice pins s σ H x y v u Q I rx ry h hs
 obtain⟨p,xs,i,z,rfl,rfl,hq,he,q⟩:=h
 cases rx
 obtain⟨t,rfl⟩:=ry
 obtain⟨its,r,pl,hz⟩:=I.list hq
 obtain⟨j,h1,h2,h3,h4,h5⟩:=NP he
 obtain⟨w,ew,rw'⟩:=r.get h2
 have hl:=r.length
 have hn:=Mv
 have fin:EP X pins σ Q w s:=⟨z,H,I,rw',q⟩
 by_cases h0:0<=i
 ·have hj:i.toNat=j:=by
   rw[seqIndex_of h0 h5]at h1
   exact E' h1
  exact item_listR pl.isList h0 (by omega) (by rw[hj];simpa using ew) fin hs
 ·have hj:(i+(its.toArray.size:Int)).toNat=j:=by
   rw[seqIndex_neg (by omega) h4]at h1
   rw[dj,<- hl]
   exact E' h1
  exact subscriptTail_builtinR (x:=w) pl.isList.typeIs slot_list_getitem.lookup
   (wpAny_getItem_list_neg (Q:=fun r s'=>r=w/\EP X pins σ Q r s') pl.isList (by omega) (by rw[dj]<;>omega) (by omega) (by rw[hj];simpa using ew) ⟨rfl,fin⟩) hs
theorem X6:IxR X (Uv X.K):=by
 intro value slice pins s σ H x y v u Q I rx ry h hs
 obtain⟨p,xs,i,z,rfl,rfl,hq,he,q⟩:=h
 cases rx
 obtain⟨t,rfl⟩:=ry
 obtain⟨its,r,pl,hz⟩:=I.tuple hq
 obtain⟨j,h1,h2,h3,h4,h5⟩:=NP he
 obtain⟨w,ew,rw'⟩:=r.get h2
 have hl:=r.length
 have hn:=Mv
 have fin:EP X pins σ Q w s:=⟨z,H,I,rw',q⟩
 exact subscriptTail_builtinR (x:=w) pl.typeIs slot_tuple_getitem.lookup
  (getItem_tuple (j:=j) (Q:=fun r s'=>r=w/\EP X pins σ Q r s') pl (by omega) (by omega) (by rw[dj,<- hl];exact h1) (by simpa using ew) ⟨rfl,fin⟩) hs
theorem X7:IxR X Zu:=by
 intro value slice pins s σ H x y v u Q I rx ry h hs
 obtain⟨z,i,c,rfl,rfl,hz,he,q⟩:=h
 obtain⟨t,rfl⟩:=rx
 obtain⟨t',rfl⟩:=ry
 obtain⟨j,h1,h2,h3,h4,h5⟩:=NP he
 have hl:z.cps.toList.length=z.length:=by simp[Str.length]
 rw[hl]at h1 h4 h5
 have hn:=Mv
 exact tail_any (typeIs_str s z t) slot_str_getitem.lookup (getItem_str (c := c) (by
  have e1:decide (i < -(2 ^ 63:Int))=false:=decide_eq_false (by omega)
  have e2:decide (i≥2 ^ 63)=false:=decide_eq_false (by omega)
  rw[e1,e2,Bool.or_false]) (by rw[h1];simpa using h2) ⟨.str ⟨#[c]⟩,H,I.tok _,⟨_,rfl⟩,q⟩) hs
theorem MU(lo hi:Option Int)(n:Nat):(sliceBounds lo hi none n).1=((HT.sIx n 0 lo:Nat):Int)/\(sliceBounds lo hi none n).2.1=((HT.sIx n n hi:Nat):Int)/\(sliceBounds lo hi none n).2.2=1:=by
 refine⟨?_,?_,rfl⟩
 ·cases lo with
  |none=>simp[sliceBounds,HT.sIx]
  |some i =>
   simp only[sliceBounds,HT.sIx,Option.getD_none,show(1:Int)>0 by decide,if_true]
   by_cases h:i<0
   ·simp only[h,if_true]<;>omega
   ·simp only[h,if_false]<;>omega
 ·cases hi with
  |none=>simp[sliceBounds,HT.sIx]
  |some i =>
   simp only[sliceBounds,HT.sIx,Option.getD_none,show(1:Int)>0 by decide,if_true]
   by_cases h:i<0
   ·simp only[h,if_true]<;>omega
   ·simp only[h,if_false]<;>omega
theorem LQ(its:List Value)(lo hi:Option Int):slicePick its.toArray lo hi none=((its.drop (HT.sIx its.length 0 lo)).take (HT.sIx its.length its.length hi-HT.sIx its.length 0 lo)).toArray:=by
 obtain⟨h1,h2,h3⟩:=MU lo hi its.toArray.size
 unfold slicePick
 rw[h1,h2,h3]
 simp only[sliceRange_one,pick_run,List.size_toArray]<;>rfl
def XH(K:PySem.W.Frag):V->Option Int->Option Int->Hp->VK->Prop:=fun x lo hi H Q=>∃a xs,x = .ref a/\SqL K H a xs/\∀p,H p=none->Q (.ref p) (upd H p (.lst (Lp xs lo hi)))
theorem Uo:SlR X (XH X.K):=by
 intro pins s σ H x v vl vu lo hi sl Q I rx hs pl pu h
 obtain⟨a,xs,rfl,hx,q⟩:=h
 cases rx
 obtain⟨its,r,ht,hz⟩:=I.list hx
 have hlen:=r.length
 refine⟨"list",_,slot_list_getitem.lookup,ht.isList.typeIs,?_⟩
 refine wpAny_getItem_list_slice ht.isList hs pl pu .none (by simp) ?_ (by rw[dj]<;>omega)
 rw[LQ,<- hlen]
 refine⟨.ref s.heap.objs.size,_,I.laid (t':=s.toks) (o:=.lst (Lp xs lo hi)) (fun b ob q=>K' _ q) (J' _) ?_,rfl,q _ (I.hok.fresh (J' _))⟩
 exact⟨eE (JO xs lo hi) hz,_,0,(r.drop (HT.sIx xs.length 0 lo)).take (HT.sIx xs.length xs.length hi-HT.sIx xs.length 0 lo),dn _ rfl⟩
theorem NN:DM X (.type "list") (fun xs H Q=>∃p ys,xs=[.ref p]/\(SqL X.K H p ys\/SqT X.K H p ys)/\∀l,H l=none->Q (.ref l) (upd H l (.lst ys))):=by
 intro pins s σ H xs us Q I r h
 obtain⟨p,ys,rfl,hq,q⟩:=h
 obtain⟨u,rfl,rx⟩:=Jz r
 cases rx
 have fin:∀(its:List Value),Vals ys its->ys.length<=sizeLine->∀(h':Heap) (c':Nat),(∀b o',s.heap.get? b=some o'->h'.get? b=some o') ->
   h'.get? s.heap.objs.size=some { cls:=.type "list",dict:=none,data:=.seq its.toArray c',slots:=#[] }->EP X pins σ Q (.ref s.heap.objs.size) { s with heap:=h' }:=fun its r' hz h' c' kp e =>
  ⟨.ref s.heap.objs.size,_,I.laid (t':=s.toks) kp (J' _) (show ObjOk X.prog X.w _ h' _ (.lst ys) from⟨hz,its,c',r',e⟩),rfl,q _ (I.hok.fresh (J' _))⟩
 rcases hq with hq|hq
 ·obtain⟨its,r',pl,hz⟩:=I.list hq
  have hlen:=r'.length
  obtain⟨o,ho,hc,n,hd⟩:=pl.isList
  exact call_list_seq p (.inl rfl) ho hc hd (fun h' c' kp e=>fin its r' hz h' c' kp e) (by simp only[List.size_toArray]<;>omega)
 ·obtain⟨its,r',pl,hz⟩:=I.tuple hq
  have hlen:=r'.length
  obtain⟨o,ho,hc,n,hd⟩:=pl
  exact call_list_seq p (.inr rfl) ho hc hd (fun h' c' kp e=>fin its r' hz h' c' kp e) (by simp only[List.size_toArray]<;>omega)
theorem Lr:DM X (.type "tuple") (fun xs H Q=>∃p ys,xs=[.ref p]/\((SqL X.K H p ys/\∀l,H l=none->Q (.ref l) (upd H l (.tup ys)))\/(SqT X.K H p ys/\Q (.ref p) H))):=by
 intro pins s σ H xs us Q I r h
 obtain⟨p,ys,rfl,h⟩:=h
 obtain⟨u,rfl,rx⟩:=Jz r
 cases rx
 rcases h with ⟨hq,q⟩|⟨hq,q⟩
 ·obtain⟨its,r',pl,hz⟩:=I.list hq
  have hlen:=r'.length
  refine call_tuple_list pl.isList (fun h' kp=>?_) (by simp only[List.size_toArray]<;>omega)
  have I1:Inv X pins σ H { s with heap:=h' }:=I.kept (t':=s.toks) kp
  have I2:Inv X pins σ (upd H h'.objs.size (.tup ys)) { s with heap:=h'.push { cls:=.type "tuple",data:=.seq its.toArray } } :=
   I1.laid (t':=s.toks) (fun b o e=>K' _ e) (J' _) (show ObjOk X.prog X.w _ _ _ (.tup ys) from⟨hz,its,r',IsTup.new _ _⟩)
  exact⟨.ref h'.objs.size,_,I2,rfl,q _ (I1.hok.fresh (J' _))⟩
 ·obtain⟨its,r',pl,hz⟩:=I.tuple hq
  exact call_tuple_same pl ⟨.ref p,H,I,rfl,q⟩
def tyV(K:PySem.W.Frag)(T:String)(x:V)(H:Hp):Prop:=match x with
 |.str _=>T="str"
 |.int _=>T="int"
 |.ref p=>(T="list"/\∃xs,SqL K H p xs)\/(T="tuple"/\∃o,K.lookup p=some o/\o.cls = .type "tuple"/\o.dict=none) \/
   (T="dict"/\((∃kvs,H p=some (.dK kvs))\/∃kvs,H p=some (.dT kvs)))\/(T="set"/\∃S n,H p=some (.set S n))
 |_=>False
theorem W6{pins:List (Addr×Obj)}{σ:St}{H:Hp}{s:Shared}{T:String}{x:V}{v:Value}(I:Inv X pins σ H s)(r:RelV x v)(ty:tyV X.K T x H) :
  s.TypeIs v T/\∀a,v = .ref a->∃ob,s.heap.get? a=some ob/\ob.dict=none:=by
 cases x with
 |str z =>
  obtain⟨t,rfl⟩:=r
  cases (show T="str" from ty)
  exact⟨typeIs_str s z t,fun _ e=>nomatch e⟩
 |int i =>
  obtain⟨t,rfl⟩:=r
  cases (show T="int" from ty)
  exact⟨typeIs_int s i t,fun _ e=>nomatch e⟩
 |ref p =>
  cases r
  rcases ty with ⟨rfl,xs,hq⟩|⟨rfl,o,hk,hc,hd⟩|⟨rfl,hk⟩|⟨rfl,S,n,hk⟩
  ·obtain⟨its,_,pl,_⟩:=I.list hq
   refine⟨pl.isList.typeIs,fun a e=>?_⟩
   cases e
   obtain⟨o,n,e,c,hd,_⟩:=pl
   exact⟨o,e,hd⟩
  ·refine⟨⟨o,I.kIn p o hk,hc⟩,fun a e=>?_⟩
   cases e
   exact⟨o,I.kIn _ o hk,hd⟩
  ·have z:∃o,s.heap.get? p=some o/\o.ExactDict:=by
    rcases hk with ⟨kvs,hk⟩|⟨kvs,hk⟩
    ·obtain⟨_,_,_,_,o,_,_,e,ex,_⟩:=I.hok p _ hk
     exact⟨o,e,ex⟩
    ·obtain⟨_,_,_,_,o,_,_,e,ex,_⟩:=I.hok p _ hk
     exact⟨o,e,ex⟩
   obtain⟨o,e,ex⟩:=z
   refine⟨⟨o,e,ex.1⟩,fun a e2=>?_⟩
   cases e2
   exact⟨o,e,ex.2.1⟩
  ·obtain⟨o,_,_,_,e,ex,_⟩:=I.hok p _ hk
   refine⟨⟨o,e,ex.1⟩,fun a e2=>?_⟩
   cases e2
   exact⟨o,e,ex.2.1⟩
 |_=>exact False.elim ty
def tBM(K:PySem.W.Frag)(T:String)(r:V->List V->Hp->VK->Prop)(to:TE)(t:TA):TE:=fun σ H Q=>to σ H fun x H1=>tyV K T x H1/\t σ H1 fun xs H2=>r x xs H2 Q
variable {o e:Expr} {es:List Expr} {to:TE} {t:TA} {name:Str} {apos cpos:Pos} {T id:String} {r:V->List V->Hp->VK->Prop}
theorem Wg(pa:PlainAttrs T)(slot:Slot T name id)(hty:typeOf (.builtin id)=pure (.type "method_descriptor"))(hm:MtR X id r)(ho:PE X o to)(ha:PA X (e::es) t)
  (hbase:attributeBase o name X.env (eval o X.env)=eval o X.env:=by rfl)
  (hfew : ((backTo cpos (starEach (e :: es) X.env)).all (fun x => !x.1) && (backToKw cpos (keywordEach [] X.env)).all (fun x => x.1.isSome)
   && decide ((e::es).length+([]:List Keyword).length+(if ([]:List Keyword).isEmpty then 0 else 1)<30))=true:=by rfl)
  (hline:(apos.endLine==cpos.line)=true:=by rfl) (hs:starEach (e::es) X.env=(false,eval e X.env)::starEach es X.env:=by rfl) (hplain:(backTo cpos (starEach es X.env)).any (·.1)=false:=by rfl) :
  PE X (.Call (.Attribute o name apos) (e::es) [] cpos) (tBM X.K T r to t):=by
 intro pins s σ H Q I h
 refine wpAny_Call_method_late hbase hfew hline rfl (thn (ho pins s σ H _ I h) fun v s1 ⟨x,H1,I1,r1,ty,q1⟩=>?_)
 obtain⟨h1,h2⟩:=W6 I1 r1 ty
 refine⟨T,id,pa,slot,hty,h1,h2,?_⟩
 have hA:=ha cpos pins s1 σ H1 _ I1 q1
 rw[hs]at hA ⊢
 refine Calls.callWith_builtin (by show(false||(backTo cpos (starEach es X.env)).any (·.1))=false;rw[hplain]<;>rfl) (Calls.evalArgs_plain ?_)
 exact thn hA fun us s2 ⟨vs,H2,I2,r2,q2⟩=>hm pins s2 σ H2 x vs v us Q I2 r1 r2 q2
end
end L2
namespace L2
open PySem PySem.Spec PyProof.Rows
def MtM(X:Cx)(id:String)(r:V->List V->Hp->VK->Prop):Prop :=
 ∀(pins:List (Addr×Obj)) (s:Shared) (σ:St) (H:Hp) (x:V) (xs:List V) (v:Value) (us:List Value) (Q:VK),Inv X pins σ H s->RelV x v->Vals xs us->r x xs H Q ->
  wpAny (model X.prog X.w) X.A (call (.builtin id) (v::us)) (EP X pins σ Q) X.xe s
theorem Vals.one:∀{x:V} {us:List Value},Vals [x] us->∃u,us=[u]/\RelV x u
 |_,_,.cons r .nil=>⟨_,rfl,r⟩
section
variable {X:Cx} {pins:List (Addr×Obj)} {σ:St} {H:Hp} {s:Shared} {l b:Addr} {xs ys zs:List V}
theorem Inv.lset{its its':List Value}{n:Nat}{f:Array Value->Array Value}{t':Nat}(I:Inv X pins σ H s)(hH:H l=some (.lst xs))
  (e:s.heap.get? l=some { cls:=.type "list",data:=.seq its.toArray n }) (hf:f its.toArray=its'.toArray) (hv:Vals ys its') (hz:ys.length<=sizeLine) :
  Inv X pins σ (upd H l (.lst ys)) { s with heap:=s.heap.update l (Obj.mapSeq f),toks:=t' }:=by
 have q:=PySem.IsL.update e f
 rw[hf]at q
 refine I.write (x:=l) (e:=l) (by rw[hH];exact trivial) (.inl rfl) (fun b' u hb hu=>(gW s.heap (Obj.mapSeq f) (Ne.symm hb)).trans hu) ⟨_,q⟩ ?_
 exact⟨hz,its',_,hv,q⟩
theorem Inv.lnew{its:List Value}{t':Nat}(I:Inv X pins σ H s)(hv:Vals ys its)(hz:ys.length<=sizeLine) :
  Inv X pins σ (upd H s.heap.objs.size (.lst ys)) { s with heap:=s.heap.push { cls:=.type "list",data:=.seq its.toArray },toks:=t' } :=
 I.laid (fun _ _ q=>K' _ q) (J' _) ⟨hz,its,0,hv,dn _ rfl⟩
theorem Inv.fresh(I:Inv X pins σ H s):H s.heap.objs.size=none:=I.hok.fresh (J' _)
theorem Inv.lstM(I:Inv X pins σ H s)(hH:H l=some (.lst xs)):xs.length<=sizeLine/\∃(its:List Value) (n:Nat),Vals xs its/\xs.length=its.length/\s.heap.get? l=some { cls:=.type "list",data:=.seq its.toArray n }:=by
 obtain⟨z,its,n,r,e⟩:=I.hok l _ hH
 exact⟨z,its,n,r,r.length,e⟩
theorem TQ{n:Nat}(h:n<=sizeLine):Builtin.List.listTooLong n=false:=by
 unfold Builtin.List.listTooLong
 exact decide_eq_false (by omega)
end
section
variable {X:Cx}
def QM:V->List V->Hp->VK->Prop:=fun x vs H Q=>∃l xs y,x = .ref l/\vs=[y]/\H l=some (.lst xs)/\xs.length<sizeLine/\Q .non (upd H l (.lst (xs++[y])))
theorem MF:MtM X "list.append" QM:=by
 intro pins s σ H x vs v us Q I rx rv h
 obtain⟨l,xs,y,rfl,rfl,hH,hz,q⟩:=h
 cases rx
 obtain⟨u,rfl,ru⟩:=rv.one
 obtain⟨z,its,n,r,hl,e⟩:=I.lstM hH
 refine call_meets F.slot_list_append ⟨_,e,rfl⟩ F.entry_list_append (F.args_list_append_2 _ _) (PySem.list_append l its.toArray n u (by rw[dj];omega)) ⟨e,?_⟩
 refine⟨.non,_,I.lset (its':=its++[u]) hH e (by simp) (r.append (.cons ru .nil)) ?_,rfl,q⟩
 rw[L',gk]
 omega
def QK:V->List V->Hp->VK->Prop:=fun x vs H Q=>∃l b xs zs,x = .ref l/\vs=[.ref b]/\H l=some (.lst xs)/\H b=some (.lst zs)/\xs.length+zs.length<=sizeLine/\Q .non (upd H l (.lst (xs++zs)))
theorem RQ:MtM X "list.extend" QK:=by
 intro pins s σ H x vs v us Q I rx rv h
 obtain⟨l,b,xs,zs,rfl,rfl,hH,hB,hz,q⟩:=h
 cases rx
 obtain⟨u,rfl,ru⟩:=rv.one
 cases ru
 obtain⟨z,its,n,r,hl,e⟩:=I.lstM hH
 obtain⟨z2,its2,n2,r2,hl2,e2⟩:=I.lstM hB
 have hsz:its.toArray.size+its2.toArray.size<=sizeLine:=by rw[dj,dj];omega
 have hlong:¬(!its.toArray.isEmpty&&Builtin.List.listTooLong (its.toArray.size+its2.toArray.size))=true:=by
  rw[TQ hsz,Bool.and_false]
  exact eM
 refine call_meets F.slot_list_extend ⟨_,e,rfl⟩ F.entry_list_extend (F.args_list_extend_2 _ _)
  (AutoSeq1.list_extend_list_list_0 l its.toArray n b its2.toArray n2 hlong (by rw[dj];omega) (by omega)) ⟨e,e2,?_⟩
 refine⟨.non,_,I.lset (its':=its++its2) hH e (by simp) (r.append r2) ?_,rfl,q⟩
 rw[L']
 omega
def Zw:R2:=fun x y H Q=>∃l b xs zs,x = .ref l/\y = .ref b/\H l=some (.lst xs)/\H b=some (.lst zs)/\xs.length+zs.length<=sizeLine/\∀p,H p=none->Q (.ref p) (upd H p (.lst (xs++zs)))
theorem Xr:OpR X (binaryOp .Add) Zw:=by
 intro pins s σ H x y v u Q I rx ry h
 obtain⟨l,b,xs,zs,rfl,rfl,hH,hB,hz,q⟩:=h
 cases rx
 cases ry
 obtain⟨z,its,n,r,hl,e⟩:=I.lstM hH
 obtain⟨z2,its2,n2,r2,hl2,e2⟩:=I.lstM hB
 refine PySem.P.add_list e e2 ?_ (by rw[dj,dj];omega)
 have ea:its.toArray++its2.toArray=(its++its2).toArray:=by simp
 rw[ea]
 exact⟨.ref _,_,I.lnew (t':=s.toks) (r.append r2) (by rw[L'];omega),rfl,q _ I.fresh⟩
end
section
variable {prog:Program} {w:World} {A:Around} {E:Value->Shared->Prop} {s:Shared}
end
section
variable {X:Cx}
end
end L2
namespace Att
open PySem PySem.W PySem.Calls PyProof.Rows
theorem JZ{P:Params}{h:Heap}:∀(ns:List Int) (vs:List Value),WellAll P h vs (ns.map WData.int)->IntsAre vs ns:=by
 intro ns
 induction ns with
 |nil =>
  intro vs w
  rw[List.map_nil]at w
  cases w
  exact .nil
 |cons n ns ih =>
  intro vs w
  rw[U']at w
  cases w with
  |cons a b =>
   cases a
   exact .cons _ _ (ih _ b)
theorem Q7{l:OpenLaw}{n:Nat}(hn:l.most=some n){P:Params}{h:Heap}{args:List WData}{vals:List Value}
  (hpre:l.row.toRowW.claim.pre args=true) (hwl:WellAll P h vals args) :
  ∃a vs ns,vals=[Value.ref a]/\args=[WData.list (ns.map WData.int)]/\h.get? a=some { cls:=.type "list",data:=.seq vs.toArray }/\IntsAre vs ns/\ns.length<=n:=by
 have hsh:WShape.hasAll [] args [.list .int]=true:=(pre_splitW hpre).1
 have hc:l.pre.holds [] { args:=args }=true:=(pre_splitW hpre).2
 obtain⟨d,r,rfl,h1,h2⟩:=hasAllW_cons hsh
 obtain rfl:=hasAllW_nil h2
 obtain⟨xs,rfl,h3⟩:=hasW_list h1
 obtain⟨ns,rfl⟩:=items_int h3
 have hlen:ns.length<=n:=by
  unfold OpenLaw.pre at hc
  have h4:(WTm.not (.lt (.lit (.int (n:Int))) (.len (.arg 0)))).holds [] { args:=[.list (ns.map .int)] }=true:=by
   have h4:=(holds_andW hc).1
   rw[hn]at h4
   exact h4
  have h5:=condW_of h4 (w_not (w_lt w_lit (w_len_list (w_arg rfl))))
  rw[B']at h5
  refine Nat.le_of_not_lt fun q=>?_
  have q':(n:Int)<((ns.length:Nat):Int):=by omega
  first
   |(rw[decide_eq_true q']at h5;exact absurd h5 (by decide))
   |(simp at h5;omega)
 cases hwl with
 |cons w1 w2 =>
  cases w2
  cases w1 with
  |list ho hall=>exact⟨_,_,ns,rfl,rfl,ho,JZ ns _ hall,hlen⟩
theorem RA(l:OpenLaw)(args:List WData):l.row.toRowW.claim.post args (.bool true) args=true :=
 postW_of (r:=l.row.toRowW) (X:=(true==true))
  (show WShape.has [] (.bool true) .bool=true by first|rfl|decide|simp[WShape.has,WShape.arms,WShape.armsAll])
  (show(WTm.eq .res (.lit (.bool true))).value [] { args:=args,res:=some (.bool true),after:=args }=some (.bool (true==true)) from w_eq_bool (w_res rfl) w_lit) rfl
theorem attach_call{l:OpenLaw}{n:Nat}{q:Program}{loose:List Str}{XP:(Str->Option Value)->Heap->Prop}{YP:World->Heap->Prop}{d:DefRec}
  (hn:l.most=some n) (hdf:d.params.defaults=[])
  (call : ∀ (w : World) (s₀ s₁ : Shared) (mg mb : Str -> Option Value) (fa : Addr) (o : Obj) (pm cd doc : Value) (a : Addr) (vs : List Value) (ns : List Int),
   Ground q loose [] XP w s₀ mg mb s₁.heap->YP w s₁.heap ->
   s₁.heap.get? fa=some o->o.data = .func (docDef d.name d.params d.body d.scope pm cd doc)->s₁.heap.CodeRec cd d.name->mg d.name=some (.ref fa) ->
   s₁.heap.get? a=some { cls:=.type "list",data:=.seq vs.toArray }->IntsAre vs ns->ns.length<=n->s₁.gens=#[] ->
   codeAny (model l.prog w) callerA (.call (.ref fa) ⟨[.ref a],[]⟩) (fun r s'=>r = .ok (.ret (.bool true))/\OldK s₁.heap s'.heap/\s'.os=s₁.os/\AllBare s'.gens) s₁) :
  WalkO q loose XP YP l.row.toRowW d [] (fun f vs=>PySem.call f vs):=by
 intro w s₀ s₁ mg mb G Y fa o pm cd doc dV kV ho hd hcd hD hmg hg args vals as hpre hlay hrd hwl hlo
 obtain rfl:dV = .none:=Dflts.none hD hdf
 obtain rfl:kV = .none:=Dflts.noKw hD
 obtain⟨a,vs,ns,rfl,rfl,hobj,hints,hlen⟩:=Q7 hn hpre hwl
 refine enter_call (codeAny_mono (call w s₀ s₁ mg mb fa o pm cd doc a vs ns G Y ho (fd_plain hd) hcd hmg hobj hints hlen hg) fun r s' hq=>?_)
 obtain⟨rfl,h2,h3,h4⟩:=hq
 exact⟨.inl ⟨.bool true,.bool true,[],rfl,fun _=>rfl,.bool true,RA l _,fun _=>⟨List.Pairwise.nil,fun _ hm=>(nomatch hm)⟩⟩,h2,h3,h4⟩
section
variable {prog:Program} {w:World} {A:Around} {E:Value->Shared->Prop} {s:Shared} {K:Frag}
end
end Att
namespace L2
open PySem PySem.Spec PyProof.Rows
theorem L1:∀{vs:List Value} {ns:List Int},IntsAre vs ns->Vals (ns.map V.int) vs
 |_,_,.nil=>.nil
 |_,_,.cons n t h=>.cons ⟨t,rfl⟩ (L1 h)
def ZT(H:Hp):Prop:=∀b,H b=none\/∃o xs,H b=some (.frz o (.lst xs))
theorem Tf{P:Program}{w:World}{K:PySem.W.Frag}{mg mb:Str->Option Value}{CX:CXT}{k:Nat}{fa a:Addr}{fd:FuncData}{x:Str}{sp:Sp}{s₁:Shared}{vs:List Value}{ns:List Int}
  (KX:K.In s₁.heap) (hns:s₁.heap.Ns mainGlobals mg) (hb:s₁.heap.Ns builtinsNs mb) (hbb:∀x:Str,x≠"__name__"->mb x=bootBuiltins x) (hlim:s₁.heap.NoLimit) (hg:s₁.gens=#[])
  (ha:s₁.heap.get? a=some { cls:=.type "list",data:=.seq vs.toArray }) (hi:IntsAre vs ns) (hl:ns.length<=sizeLine) (hr:Room k callerA)
  (F:∀base:Heap,K.In base->base.Ns mainGlobals mg->FnOk P w K mg base CX k fa fd [x] sp) (hbind:∀(s:Shared) (u:Value),BindsTo s fd ⟨[u],[]⟩ [(x,u)])
  (hsp:∀H:Hp,ZT H->SqL K H a (ns.map V.int)->sp [.ref a] H (fun v _=>v = .bl true) fun _ _ _=>False)
  (hCX:∀H e s',CX [] H s₁ (fun _ _ _=>False) e s'->False) :
  codeAny (model P w) callerA (.call (.ref fa) ⟨[.ref a],[]⟩) (fun r s'=>r = .ok (.ret (.bool true))/\OldK s₁.heap s'.heap/\s'.os=s₁.os/\AllBare s'.gens) s₁:=by
 have rv:=L1 hi
 have lenV:=hi.length
 -- from an abstract heap in which nothing but the script may be tracked
 have core:∀H:Hp,ZT H->SqL K H a (ns.map V.int)->HOk P w H s₁.heap->(∀b,H b≠none->b=a)->(H a≠none->K.lookup a=none) ->
   codeAny (model P w) callerA (.call (.ref fa) ⟨[.ref a],[]⟩) (fun r s'=>r = .ok (.ret (.bool true))/\OldK s₁.heap s'.heap/\s'.os=s₁.os/\AllBare s'.gens) s₁:=by
  intro H hO hS hok hA hK
  have base_of:∀{b:Addr} {o:Obj},s₁.heap.get? b=some o->H b=none->(NB s₁.heap H).get? b=some o:=fun e n=>T4 e n
  have noA:∀{b:Addr} {o:Obj} {es:Array DictEntry} {ep:Nat},s₁.heap.get? b=some o->o.data = .dict es ep->H b=none:=fun {b o es ep} e d=>by
   cases q:H b with
   |none=>rfl
   |some u =>
    have e':b=a:=hA b (by rw[q];simp)
    subst e'
    rw[ha]at e;cases e
    have d':Data.seq vs.toArray _=Data.dict es ep:=d
    cases d'
  have nsK:∀{b:Addr} {m:Str->Option Value},s₁.heap.Ns b m->(NB s₁.heap H).Ns b m:=fun {b m} ⟨o,es,ep,e,d,r⟩=>⟨o,es,ep,base_of e (noA e d),d,r⟩
  have hKb : K.In (NB s₁.heap H) := fun b o e => base_of (KX b o e) (by
   cases q:H b with
   |none=>rfl
   |some u =>
    have e':b=a:=hA b (by rw[q];simp)
    subst e'
    rw[hK (by rw[q];simp)]at e;cases e)
  have hM:Mod K mg (NB s₁.heap H):=⟨hKb,nsK hns,⟨mb,nsK hb,hbb⟩,let ⟨mc,h1,h2⟩:=hlim;⟨mc,nsK h1,h2⟩⟩
  have e0:WN P w K mg (NB s₁.heap H) callerA [] s₁ H:=⟨rfl,hM,fun b o e=>VQ e,Nat.le_of_eq (Ri _ _),trivial,fun b hb=>absurd (show b∈([]:List Addr) from hb) (by simp),hok,.of_eq hg⟩
  refine codeAny_mono ((F _ hKb (nsK hns)).run callerA [] s₁ H ⟨[.ref a],[]⟩ [.ref a] [.ref a] _ _ hr e0 (hbind s₁ (.ref a)) (.cons rfl .nil) (hsp H hO hS)) fun r s' h=>?_
  cases r with
  |error e=>exact(hCX H e s' h).elim
  |ok fl =>
   cases fl with
   |next=>exact False.elim h
   |brk=>exact False.elim h
   |cont=>exact False.elim h
   |ret u =>
    obtain⟨v,H',os,bare,un,hok',r',q⟩:=h
    have q':v = .bl true:=q
    subst q'
    obtain rfl:u=Value.bool true:=r'
    refine⟨rfl,OldK.of_keep fun b o e=>?_,os,bare⟩
    cases q:H b with
    |none=>exact un.keep b o e q (by intro z;exact absurd (show b∈([]:List Addr) from z) (by simp)) (by simp)
    |some u =>
     rcases hO b with z|⟨ob,xs,z⟩
     ·rw[q]at z;cases z
     ·have z2:=un.frzs b ob _ z
      obtain⟨e1,_⟩:=hok b _ z
      obtain⟨e2,_⟩:=hok' b _ z2
      rw[e]at e1;cases e1
      exact e2
 cases hk:K.lookup a with
 |some o =>
  -- the script is one of the module's own objects
  have e:=KX a o hk
  rw[ha]at e
  cases e
  refine core (fun _=>none) (fun _=>.inl rfl) (.inr ⟨_,vs.toArray,_,hk,rfl,rfl,rfl,by rw[dj,lenV];exact hl,by simpa using rv⟩) (fun b u z=>by have z':(none:Option HO)=some u:=z;cases z') (fun b z=>absurd rfl z) fun z=>absurd rfl z
 |none =>
  refine core (fun b=>if b=a then some (.frz { cls:=.type "list",data:=.seq vs.toArray } (.lst (ns.map V.int))) else none) (fun b=>?_) (.inl (.inr ⟨{ cls:=.type "list",data:=.seq vs.toArray },if_pos rfl⟩)) (fun b u z=>?_) (fun b z=>?_) fun _=>hk
  ·by_cases hb:b=a
   ·exact .inr ⟨_,_,if_pos hb⟩
   ·exact .inl (if_neg hb)
  ·by_cases hb:b=a
   ·have z':=(if_pos hb).symm.trans z
    cases z'
    subst hb
    exact⟨ha,by rw[B'];exact hl,vs,_,rv,ha⟩
   ·have z':=(if_neg hb).symm.trans z
    cases z'
  ·by_cases hb:b=a
   ·exact hb
   ·exact absurd (if_neg hb) z
end L2
namespace L2
open PySem PySem.Spec PyProof.Rows
theorem walk_of{l:PySem.W.OpenLaw}{n k:Nat}{q:Program}{loose:List Str}{XP:(Str->Option Value)->Heap->Prop}{YP:World->Heap->Prop}{d:DefRec}{K:Params->PySem.W.Frag}{CX:World->CXT}{sp:World->Sp}{x:Str}
  (hn:l.most=some n) (hn2:n<=sizeLine) (hdf:d.params.defaults=[]) (hr:Room k callerA)
  (hY:∀(w:World) (h:Heap),YP w h->(K w.params).In h)
  (F : ∀ (w : World) (mg : Str -> Option Value) (fa : Addr) (h : Heap), (K w.params).In h -> h.Ns mainGlobals mg -> mg d.name = some (.ref fa) ->
   ∃fd:FuncData,(∀(s:Shared) (u:Value),BindsTo s fd ⟨[u],[]⟩ [(x,u)]) /\
    ∀base:Heap,(K w.params).In base->base.Ns mainGlobals mg->FnOk l.prog w (K w.params) mg base (CX w) k fa fd [x] (sp w))
  (hsp:∀(w:World) (H:Hp) (a:Addr) (ns:List Int),ns.length<=n->ZT H->SqL (K w.params) H a (ns.map V.int)->sp w [.ref a] H (fun v _=>v = .bl true) fun _ _ _=>False)
  (hCX:∀(w:World) (H:Hp) (s:Shared) (e:Value) (s':Shared),CX w [] H s (fun _ _ _=>False) e s'->False) :
  PySem.W.WalkO q loose XP YP l.row.toRowW d [] (fun f vs=>PySem.call f vs):=by
 refine Att.attach_call hn hdf fun w s₀ s₁ mg mb fa o pm cd doc a vs ns G Y ho hd hcd hmg hobj hints hlen hg=>?_
 have KX:=hY w _ Y
 obtain⟨fd,hb,hF⟩:=F w mg fa _ KX G.T.g hmg
 exact Tf KX G.T.g G.T.b G.T.builtins G.T.nolimit hg hobj hints (eE hlen hn2) hr hF hb (fun H hO hS=>hsp w H a ns hlen hO hS) fun H e s'=>hCX w H s₁ e s'
end L2
namespace L2
open PySem PySem.Spec PyProof.Rows
def DD(s:Stmt):Arguments:=match s with
 |.FunctionDef _ a _ _ _ _ _ _ _ _=>a
 |_=>{ posonlyargs:=[],args:=[],vararg:=none,kwonlyargs:=[],kw_defaults:=[],kwarg:=none,defaults:=[] }
def CZ(s:Stmt):List Stmt:=match s with
 |.FunctionDef _ _ b _ _ _ _ _ _ _=>b
 |_=>[]
def BW(s:Stmt):Scope:=match s with
 |.FunctionDef _ _ _ _ _ _ sc _ _ _=>sc
 |_=>{ kind:=.function,names:=[],isGenerator:=false,isCoroutine:=false }
abbrev CX0:CXT:=fun _ _ _ _ _ _=>False
abbrev E0:XK:=fun _ _ _=>False
theorem Wh{X:Cx}:LM CX0 X E0:=fun _ _ _ _ _ _ _ h=>h.elim
structure Fun(K:PySem.W.Frag)(x qual:Str)(st:Stmt)(f:Addr)(fd:FuncData):Prop where
 ex:∃(oc:Value) (od:Option Addr) (kV doc pm:Value) (an:Option Addr) (cdv ct:Value) (osl:Array (Option Value)),
  fd=PySem.W.fnOf x qual (DD st) (CZ st) (BW st) .none kV doc pm an cdv ct/\K.lookup f=some ⟨oc,od,.func fd,osl⟩/\PySem.W.codeIn K cdv qual=true
 kp:PySem.W.keepIn K (.ref f)=true
section
variable {P:Program} {w:World} {K:PySem.W.Frag} {mg:Str->Option Value} {base:Heap}
theorem Fun.ok{x qual:Str}{st:Stmt}{f:Addr}{fd:FuncData}{N ps:List Str}{k:Nat}{sp:Sp}(F:Fun K x qual st f fd)(S:IB N ps (BW st))(len:∀vs H Q E,sp vs H Q E->vs.length=ps.length)
  (hbody : ∀ (cdv : Value) (A : Around) (outer : List Env) (s : Shared) (H : Hp) (vs : List V) (Q : VK) (E : XK), Room k (A.deeper (envOfC qual (BW st) s.heap.objs.size f cdv)) -> sp vs H Q E ->
   ∃t,PSs (Px CX0 P w K mg base N qual (BW st) f cdv A outer s H E).nox (CZ st) t/\t { nx:=fun _ H'=>Q .non H',rt:=Q } (start N vs) H):FnOk P w K mg base CX0 (k+1) f fd ps sp:=by
 obtain⟨oc,od,kV,doc,pm,an,cdv,ct,osl,rfl,lk,hcd⟩:=F.ex
 refine ag lk hcd S len fun A outer s H vs Q E hr hsp=>?_
 obtain⟨t,h,q⟩:=hbody cdv A outer s H vs Q E hr hsp
 exact⟨t,h.nox,q⟩
theorem Fun.binds{x qual:Str}{st:Stmt}{f:Addr}{fd:FuncData}{ps:List Str}(F:Fun K x qual st f fd)
  (h:∀(kV doc pm:Value) (an:Option Addr) (cdv ct:Value) (us:List Value),us.length=ps.length->bindArgs (PySem.W.fnOf x qual (DD st) (CZ st) (BW st) .none kV doc pm an cdv ct) ⟨us,[]⟩=pure (ps.zip us)):Binds K fd ps []:=by
 obtain⟨oc,od,kV,doc,pm,an,cdv,ct,osl,rfl,lk,hcd⟩:=F.ex
 exact .all (h kV doc pm an cdv ct)
theorem YE{x qual:Str}{st:Stmt}{f:Addr}{oc:Value}{od an:Option Addr}{osl:Array (Option Value)}{kV doc pm cdv ct:Value}(l:K.lookup f=some ⟨oc,od,.func (PySem.W.fnOf x qual (DD st) (CZ st) (BW st) .none kV doc pm an cdv ct),osl⟩)
  (c:PySem.W.codeIn K cdv qual=true) (k:PySem.W.keepIn K (.ref f)=true):Fun K x qual st f (PySem.W.fnOf x qual (DD st) (CZ st) (BW st) .none kV doc pm an cdv ct):=⟨⟨oc,od,kV,doc,pm,an,cdv,ct,osl,rfl,l,c⟩,k⟩
end
section
variable {X:Cx}
end
def Same(H H':Hp):Prop:=∀b o,H b=some o->H' b=some o
theorem Same.trans{H H1 H2:Hp}(a:Same H H1)(b:Same H1 H2):Same H H2:=fun c o h=>b c o (a c o h)
theorem Same.seq{K:PySem.W.Frag}{H H':Hp}{a:Addr}{xs:List V}(e:Same H H')(h:SqL K H a xs):SqL K H' a xs:=by
 rcases h with (h|⟨o,h⟩)|h
 ·exact .inl (.inl (e _ _ h))
 ·exact .inl (.inr ⟨o,e _ _ h⟩)
 ·exact .inr h
def Bd(n:Nat)(x:Int):Prop:=x.natAbs<2 ^ n
theorem Bd.mono{m n:Nat}{x:Int}(h:Bd m x)(k:m<=n):Bd n x:=de h (Nat.pow_le_pow_right (by decide) k)
theorem Bd.mul{m n:Nat}{x y:Int}(h:Bd m x)(k:Bd n y):Bd (m+n) (x*y):=by
 unfold Bd at *
 rw[Int.natAbs_mul,Nat.pow_add]
 exact Nat.mul_lt_mul'' h k
theorem Bd.ediv{n:Nat}{x y:Int}(h:Bd n x)(hy:0<y):Bd n (x / y):=by
 unfold Bd at *
 refine Nat.lt_of_le_of_lt ?_ h
 by_cases hx:0<=x
 ·have h1:0<=x / y:=Int.ediv_nonneg hx (Int.le_of_lt hy)
  have h2:x / y<=x:=Int.ediv_le_self y hx
  omega
 ·have h1:x / y<0:=Int.ediv_neg_of_neg_of_pos (by omega) hy
  have h2:x<=x / y:=by
   refine Int.le_ediv_of_mul_le hy ?_
   have:x*(y-1)<=0:=Int.mul_nonpos_of_nonpos_of_nonneg (by omega) (by omega)
   have e:x*y=x*(y-1)+x:=by rw[Int.mul_sub,Int.mul_one];omega
   omega
  omega
theorem Bd.bits{n:Nat}{x:Int}(h:Bd n x):Builtin.Int.intBits x<=n+1:=by
 unfold Builtin.Int.intBits
 split
 ·exact eA _
 ·have:x.natAbs.log2<=n:=by
   rcases hV x.natAbs with h0|hp
   ·rw[h0];simp
   ·exact f6 ((Nat.log2_lt (f7 hp)).mpr h)
  omega
theorem Bd.log{n:Nat}{x:Int}(h:Bd n x):x.natAbs.log2<=n:=by
 rcases hV x.natAbs with h0|hp
 ·rw[h0];simp
 ·exact f6 ((Nat.log2_lt (f7 hp)).mpr h)
theorem Bd.of{n:Nat}{x m:Int}(h1:-m<=x)(h2:x<=m)(hm:m.natAbs<2 ^ n):Bd n x:=by
 unfold Bd
 omega
section
variable {X:Cx}
def CMulB(i j:Int):Prop:=CMul i j\/(Bd 8000 i/\Bd 8000 j)
theorem CMulB.ok{i j:Int}(h:CMulB i j):IntMulOk i j:=by
 rcases h with h|⟨h,k⟩
 ·exact h.ok
 ·have a:=h.bits
  have b:=k.bits
  have e:(2:Nat) ^ 20=1048576:=by decide
  exact IntMulOk.of_bits (by omega) (by omega)
theorem VJ:OpR X (binaryOp .Mult) (rI CMulB fun i j=>.int (i*j)):=opI fun _ _ _ _ _ _ _ hc q=>mul_int q hc.ok
def Ou(i j:Int):Prop:=0<j/\Bd 8000 j
theorem S5:OpR X (binaryOp .FloorDiv) (rI Ou fun i j=>.int (i / j)):=opI fun i j _ _ _ _ _ hc q=>by
 have:=hc.2.log
 rw[<- Int.fdiv_eq_ediv_of_nonneg _ (Int.le_of_lt hc.1)]at q
 exact floordiv_int (by have:=hc.1;omega) q (.inl (PyProof.noPylong_of_log2 (by omega)))
def W3(i j:Int):Prop:=j≠0/\Bd 8000 j
end
mutual
def Is(H:Hp):PyData->V->Prop
 |.none,v=>v = .non
 |.bool b,v=>v = .bl b
 |.int i,v=>v = .int i
 |.str x,v=>v = .str x
 |.tuple ds,v=>∃a vs,v = .ref a/\H a=some (.tup vs)/\IsL H ds vs
 |.list ds,v=>∃a vs,v = .ref a/\H a=some (.lst vs)/\IsL H ds vs
 |.dict _,_=>False
def IsL(H:Hp):List PyData->List V->Prop
 |[],vs=>vs=[]
 |d::ds,vs=>∃x xs,vs=x::xs/\Is H d x/\IsL H ds xs
end
mutual
def Cz:PyData->Bool
 |.none=>true
 |.bool _=>true
 |.int _=>true
 |.str _=>true
 |.tuple ds=>fixDs ds
 |.list _=>false
 |.dict _=>false
def fixDs:List PyData->Bool
 |[]=>true
 |d::ds=>Cz d&&fixDs ds
end
section
variable {X:Cx} {pins:List (Addr×Obj)} {σ:St} {H:Hp} {s:Shared}
end
def okD(d:PyData):Bool:=SeqAt.shaped d
section
variable {X:Cx}
theorem Ik{es:List PyData}(h:okD (.list es)=true):PyData.canLayAll0 es=true/\PyData.depthAll es<=63:=by
 unfold okD SeqAt.shaped at h
 rw[G']at h
 obtain⟨h1,h2⟩:=h
 have h3:=of_decide_eq_true h2
 simp only[PyData.depth]at h3
 exact⟨by simpa only[PyData.canLay0] using h1,by omega⟩
theorem Et{d:PyData}(h:okD d=true):d.canLay0=true:=by
 unfold okD SeqAt.shaped at h
 rw[G']at h
 exact h.1
end
structure Cal(P:Program)(w:World)(K:PySem.W.Frag)(mg:Str->Option Value)(base:Heap)(k:Nat)(x:Str)(ps:List Str)(sp:Sp):Prop where
 ex:∃f fd,FnOk P w K mg base CX0 k f fd ps sp/\Binds K fd ps []/\PySem.W.keepIn K (.ref f)=true/\mg x=some (.ref f)
theorem Cal.mono{P:Program}{w:World}{K:PySem.W.Frag}{mg:Str->Option Value}{base:Heap}{j k:Nat}{x:Str}{ps:List Str}{sp:Sp}(C:Cal P w K mg base j x ps sp)(h:j<=k):Cal P w K mg base k x ps sp:=by
 obtain⟨f,fd,F,b,kp,m⟩:=C.ex
 exact⟨f,fd,F.mono h,b,kp,m⟩
theorem Cal.of{P:Program}{w:World}{K:PySem.W.Frag}{mg:Str->Option Value}{base:Heap}{k:Nat}{x:Str}{ps:List Str}{sp:Sp}{f:Addr}{fd:FuncData}{st:Stmt}(F:Fun K x x st f fd)(ok:FnOk P w K mg base CX0 k f fd ps sp)(b:Binds K fd ps [])(m:mg x=some (.ref f)):Cal P w K mg base k x ps sp:=⟨f,fd,ok,b,F.kp,m⟩
section
variable {X:Cx} {k:Nat} {ps:List Str} {sp:Sp} {x:Str} {p pos:Pos} {e:Expr} {es:List Expr} {t:TA}
theorem Sy(C:Cal X.prog X.w X.K X.mg X.base k x ps sp)(hr:Room k X.A)(hg:Gl X x)(ha:PA X (e::es) t)(hdb:(x==("__debug__":Str))=false:=by decide)
  (he:starEach (e::es) X.env=(false,eval e X.env)::starEach es X.env:=by rfl) (hpl:(backTo pos (starEach es X.env)).any (·.1)=false:=by rfl) :
  PE X (.Call (.Name x p) (e::es) [] pos) (Ii sp [] E0 t):=by
 obtain⟨f,fd,F,b,kp,m⟩:=C.ex
 exact VC F hr hg m kp b .nil Wh ha hdb he hpl
end
theorem Bc{H:Hp}{p:Addr}(h:H p=none)(o:HO):Same H (upd H p o):=fun b u q=>by rw[BL (Aw q h)];exact q
theorem NK{env:Env}:∀(names:List (Str×NameKind)) (cs:List (Str×Addr)),(∀x,(x,NameKind.free)∈names->∃c,env.cells.lookup x=some c) ->
  (∀x c,cs.lookup x=some c->env.cells.lookup x=some c) ->
  ∃ cl, (forIn names cs fun (x : Str × NameKind) (r : List (Str × Addr)) => match x with
   |(name,kind)=>if (kind==NameKind.free)=true then do let c <- cellOf env name;pure (ForInStep.yield ((name,c)::r)) else pure (ForInStep.yield r):Sem (List (Str×Addr)))=pure cl /\
   (∀x c,cl.lookup x=some c->env.cells.lookup x=some c)/\(∀x,(x,NameKind.free)∈names->∃c,cl.lookup x=some c)/\(∀x c,cs.lookup x=some c->∃c',cl.lookup x=some c')
 |[],cs,_,h2=>⟨cs,rfl,h2,fun x hx=>by simp at hx,fun x c e=>⟨c,e⟩⟩
 |(n,k)::r,cs,h1,h2=>by
  by_cases hk:k = .free
  ·subst hk
   obtain⟨c,hc⟩:=h1 n F'
   have hh:∀x c',((n,c)::cs).lookup x=some c'->env.cells.lookup x=some c':=by
    intro x c' e
    rw[fS]at e
    cases q:x==n with
    |true=>rw[q]at e;cases e;rw[eq_of_beq q];exact hc
    |false=>rw[q]at e;exact h2 x c' e
   obtain⟨cl,e,a,b,d⟩:=NK (env:=env) r ((n,c)::cs) (fun x hx=>h1 x (C' _ hx)) hh
   refine⟨cl,?_,a,fun x hx=>?_,fun x c' e'=>?_⟩
   ·rw[List.forIn_cons]
    have ec:cellOf env n=pure c:=by
     unfold cellOf
     rw[hc]
    simp only[beq_self_eq_true,if_true]
    rw[ec]
    exact e
   ·rcases P'.mp hx with z|z
    ·cases z
     exact d n c (by rw[fS,beq_self_eq_true])
    ·exact b x z
   ·cases q:x==n with
    |true=>exact d x c (by rw[fS,q])
    |false=>exact d x c' (by rw[fS,q];exact e')
  ·obtain⟨cl,e,a,b,d⟩:=NK (env:=env) r cs (fun x hx=>h1 x (C' _ hx)) h2
   refine⟨cl,?_,a,fun x hx=>?_,d⟩
   ·rw[List.forIn_cons]
    have hb:(k==NameKind.free)=false:=by simpa using hk
    simp only[hb,Bool.false_eq_true,if_false]
    exact e
   ·rcases P'.mp hx with z|z
    ·cases z;exact absurd rfl hk
    ·exact b x z
theorem Qu{env:Env}{scope:Scope}(h:∀x,(x,NameKind.free)∈scope.names->∃c,env.cells.lookup x=some c) :
  ∃cl,closureFor scope env=pure cl/\(∀x c,cl.lookup x=some c->env.cells.lookup x=some c)/\(∀x,(x,NameKind.free)∈scope.names->∃c,cl.lookup x=some c):=by
 obtain⟨cl,e,a,b,_⟩:=NK (env:=env) scope.names [] h (fun x c e=>by simp at e)
 refine⟨cl,?_,a,b⟩
 exact(congrArg (fun m:Sem (List (Str×Addr))=>m >>= fun r=>(pure r:Sem (List (Str×Addr)))) e).trans rfl
theorem Rp{prog:Program}{w:World}{A:Around}{R:Result->Shared->Prop}{s:Shared}{elt target iter:Expr}{ifs:List Expr}{scope:Scope}{pos:Pos}{it acc:Value}{env:Env}(I:Nat->Shared->Prop)
  (turn : ∀ n s, I n s -> wpAny (model prog w) A (pyNext it) (fun r s₁ => match r with
   |none=>R (.ok .next) s₁
   | some v => wpAny (model prog w) A (letOwnedTupleGo target it v) (fun _ s₁ => wpAny (model prog w) A (assign target env v) (fun _ s₂ =>
     wpAny (model prog w) A (forIn ifs true fun c r => if r = true then do let ok <- isTrue c env (eval c env); pure (ForInStep.yield ok) else pure (ForInStep.yield r)) (fun ok s₃ =>
      if ok = true then wpAny (model prog w) A (eval elt env) (fun x s₄ =>
       wpAny (model prog w) A (call (.builtin "list.append") [acc,x]) (fun _ s₅=>∃m,m<n/\I m s₅) (fun _ _=>False) s₄) (fun _ _=>False) s₃
      else ∃m,m<n/\I m s₃) (fun _ _=>False) s₂) (fun _ _=>False) s₁) (fun _ _=>False) s₁) (fun _ _=>False) s)
  (n:Nat) (h:I n s) :
  codeAny (model prog w) A (.compLoop (.ListComp elt [⟨target,iter,ifs,0⟩] scope pos) 0 it acc env) R s:=by
 refine codeAny_loop rfl I (fun n s hI=>?_) n h
 show wpAny _ A ((compTurn (.ListComp elt [⟨target,iter,ifs,0⟩] scope pos) 0 it acc env).onRaise (fun x=>do noteFrame x env;theTreesLotGoes x)) _ _ s
 refine wpAny_noted ?_
 rw[compTurn_list]
 refine wpAny_bind (wpAny_standAt (wpAny_bind (wpAny_mono (turn n s hI) (fun r s₁ h₁=>?_) fun _ _ h'=>h'.elim)))
 cases r with
 |none=>exact wpAny_pure h₁
 |some v =>
  refine wpAny_bind (wpAny_mono h₁ (fun _ s₁ h₁=>?_) fun _ _ h'=>h'.elim)
  refine wpAny_bind (wpAny_mono h₁ (fun _ s₂ h₂=>wpAny_bind (wpAny_mono h₂ (fun ok s₃ h₃=>?_) fun _ _ h'=>h'.elim)) fun _ _ h'=>h'.elim)
  cases ok with
  |false=>exact wpAny_pure ⟨rfl,h₃⟩
  |true =>
   exact wpAny_bind (wpAny_bind (wpAny_mono h₃ (fun x s₄ h₄=>wpAny_bind (wpAny_mono h₄ (fun _ s₅ h₅=>wpAny_pure (wpAny_pure ⟨rfl,h₅⟩)) fun _ _ h'=>h'.elim)) fun _ _ h'=>h'.elim))
theorem Gk{env:Env}:∀{names:List (Str×NameKind)} {x:Str} {k:NameKind},names.lookup x=some k ->
  (names.map fun(n,k)=>if (k==NameKind.free&&env.scope.kind==.function&&env.kindOf n==some .cell) then (n,NameKind.cell) else (n,k)).lookup x=some k \/
  (k = .free/\(names.map fun(n,k)=>if (k==NameKind.free&&env.scope.kind==.function&&env.kindOf n==some .cell) then (n,NameKind.cell) else (n,k)).lookup x=some .cell)
 |[],_,_,h=>by simp at h
 |(n,k')::r,x,k,h=>by
  rw[U']
  dsimp only
  cases hx:x==n with
  |true =>
   simp only[List.lookup_cons,hx]at h
   have e:k=k':=(E' h).symm
   subst e
   by_cases hc:(k==NameKind.free&&env.scope.kind==.function&&env.kindOf n==some .cell)=true
   ·rw[if_pos hc]
    refine .inr ⟨?_,by simp only[List.lookup_cons,hx]⟩
    simp only[Bool.and_eq_true]at hc
    exact eq_of_beq hc.1.1
   ·rw[if_neg hc]
    exact .inl (by simp only[List.lookup_cons,hx])
  |false =>
   simp only[List.lookup_cons,hx]at h
   have ih:=@Gk env r x k h
   by_cases hc:(k'==NameKind.free&&env.scope.kind==.function&&env.kindOf n==some .cell)=true
   ·rw[if_pos hc];simp only[List.lookup_cons,hx];exact ih
   ·rw[if_neg hc];simp only[List.lookup_cons,hx];exact ih
theorem Ew{env:Env}:∀{names:List (Str×NameKind)} {x:Str} {k:NameKind},(∀y∈names,y.2≠.cell) ->
  (names.map fun(n,k)=>if (k==NameKind.free&&env.scope.kind==.function&&env.kindOf n==some .cell) then (n,NameKind.cell) else (n,k)).lookup x=some k->(k = .cell\/k = .free)->(x,NameKind.free)∈names
 |[],_,_,_,h,_=>by simp at h
 |(n,k')::r,x,k,nc,h,hk=>by
  rw[U']at h
  dsimp only at h
  cases hx:x==n with
  |true =>
   have e:=eq_of_beq hx
   subst e
   by_cases hc:(k'==NameKind.free&&env.scope.kind==.function&&env.kindOf x==some .cell)=true
   ·simp only[Bool.and_eq_true]at hc
    rw[eq_of_beq hc.1.1]
    exact F'
   ·rw[if_neg hc,fS,hx]at h
    cases h
    rcases hk with rfl|rfl
    ·exact absurd rfl (nc _ F')
    ·exact F'
  |false =>
   refine C' _ (Ew (env:=env) (fun y hy=>nc y (C' _ hy)) ?_ hk)
   by_cases hc:(k'==NameKind.free&&env.scope.kind==.function&&env.kindOf n==some .cell)=true
   ·rw[if_pos hc,fS,hx]at h;exact h
   ·rw[if_neg hc,fS,hx]at h;exact h
theorem Ha{scope:Scope}{env:Env}{x:Str}(h:scope.names.lookup x=some .local):(relabel scope env).names.lookup x=some .local:=lookup_relabel_local h
theorem Ut{scope:Scope}{env:Env}{x:Str}(h:scope.names.lookup x=some .globalImplicit):(relabel scope env).names.lookup x=some .globalImplicit:=by
 rcases Gk (env:=env) h with z|⟨z,_⟩
 ·exact z
 ·cases z
theorem MX{scope:Scope}{env:Env}{x:Str}(h:scope.names.lookup x=some .free):(relabel scope env).names.lookup x=some .cell\/(relabel scope env).names.lookup x=some .free:=by
 rcases Gk (env:=env) h with z|⟨_,z⟩
 ·exact .inr z
 ·exact .inl z
theorem Q2{scope:Scope}{env:Env}{x:Str}(h:scope.names.lookup x=some .local):Vis (relabel scope env) x:=.inl (Ha h)
theorem R4{scope:Scope}{env:Env}{x:Str}(h:scope.names.lookup x=some .free):Vis (relabel scope env) x:=(MX h).elim (fun z=>.inr (.inl z)) fun z=>.inr (.inr z)
theorem RT{scope:Scope}{env:Env}{x:Str}(h:scope.names.lookup x=some .local):Loc (relabel scope env) x:=.inl (Ha h)
def blk(own:Nat)(fr:List Nat)(σ:St):St:=List.replicate own none++fr.map fun j=>(σ[j]?).join
def cxC(X:Cx)(N':List Str)(scope:Scope)(cl:List (Str×Addr))(fp:List Addr)(s3:Shared)(H3:Hp):Cx:={ X with
 N:=N',s₀:=s3,H₀:=H3,env:=compEnvC scope cl s3.heap.objs.size X.env,outer:=X.stack,stack:=X.stack,ex:=fp,fn:=fun _=>false,pn:=[],xe:=fun _ _=>False }
structure Rw(X:Cx)(N':List Str)(own:Nat)(fr:List Nat)(scope:Scope):Prop where
 kind:scope.kind = .function
 len:N'.length=own+fr.length
 cell:∀y∈scope.names,y.2≠.cell
 names:∀y∈scope.names,y.2 = .local->scope.names.lookup y.1=some .local
 free:∀x,(x,NameKind.free)∈scope.names->X.env.scope.names.lookup x=some .cell\/X.env.scope.names.lookup x=some .free
 slot:∀k j,fr[k]?=some j->∃x,N'[own+k]?=some x/\X.N[j]?=some x/\scope.names.lookup x=some .free
theorem WD{own:Nat}{fr:List Nat}{σ:St}{i:Nat}{v:V}(h:(blk own fr σ)[i]?=some (some v)):∃k j,i=own+k/\fr[k]?=some j/\σ[j]?=some (some v):=by
 unfold blk at h
 by_cases hi:i<own
 ·rw[dw (by simpa using hi),eX,if_pos hi]at h
  cases h
 ·rw[dh (by simpa using hi),fK,Z']at h
  cases e:fr[i-own]? with
  |none=>rw[e]at h;cases h
  |some j =>
   rw[e]at h
   simp only[Option.map_some,Option.some.injEq]at h
   refine⟨i-own,j,by omega,e,?_⟩
   cases q:σ[j]? with
   |none=>rw[q]at h;cases h
   |some o=>rw[q]at h;cases o with
    |none=>cases h
    |some u=>cases h;rfl
section
variable {X:Cx} {N':List Str} {own:Nat} {fr:List Nat} {scope:Scope}
theorem Vc{pins:List (Addr×Obj)}{σ:St}{H3:Hp}{s3:Shared}{cl:List (Str×Addr)}{fp:List Addr}{h4:Heap}{tk:Nat}(ok:Rw X N' own fr scope)(I:Inv X pins σ H3 s3)(f2:∀b∈fp,Je X pins H3 b)(flt:∀b∈fp,b<s3.heap.objs.size)
  (cl1:∀x c,cl.lookup x=some c->X.env.cells.lookup x=some c) (cl2:∀x,(x,NameKind.free)∈scope.names->∃c,cl.lookup x=some c)
  (m4:Str->Option Value) (n4:h4.Ns s3.heap.objs.size m4) (k4:∀b o,s3.heap.get? b=some o->h4.get? b=some o) :
  Inv (cxC X N' scope cl fp s3 H3) [] (blk own fr σ) H3 { s3 with heap:=h4,toks:=tk }:=by
 have stk:∀b,b∈frs X.stack->b∈X.env.locals::X.fs:=I.stkSub
 have exfs:∀b∈fp,b∉frs X.stack:=fun b hb z=>by
  rcases P'.mp (stk b z)with e|e
  ·exact(f2 b hb).2.1 e
  ·exact(f2 b hb).2.2.1 e
 have okk:(cxC X N' scope cl fp s3 H3).Ok:=by
  refine ⟨I.ok.mod, ok.kind, I.ok.glob, I.ok.blt, J' _, fun x y c e1 e2 => I.ok.inj x y c (cl1 x c e1) (cl1 y c e2), fun x hx => ?_, fun x c hf => ?_, I.ok.hd, I.ok.frames, .inl rfl, fun b hb => ⟨dm (flt b hb), fun x c e => (f2 b hb).2.2.2.2.1 x c (cl1 x c e)⟩,
   I.bs,eE I.ok.bsz I.sz,fun b o e hb=>?_,exfs,I.stack,I.stkFree⟩
  ·refine cl2 x ?_
   have hx:(relabel scope X.env).names.lookup x=some .cell\/(relabel scope X.env).names.lookup x=some .free:=hx
   rcases hx with hx|hx
   ·exact Ew (env:=X.env) ok.cell hx (.inl rfl)
   ·exact Ew (env:=X.env) ok.cell hx (.inr rfl)
  ·exact absurd (show false=true from hf) eM
  ·rcases(f2 b hb).2.2.2.1 with z|z
   ·exact I.ok.noex b o e z
   ·exact absurd (de (Y' e) (eE I.ok.bsz z)) (fg _)
 refine⟨okk,rfl,I.bare,Un.kept k4,⟨m4,n4,fun i x v e1 e2 e3=>?_⟩,fun x c e=>?_,I.hok.fresh (J' _),fun x c e=>I.freeC x c (cl1 x c e),fun p hp=>absurd (show p∈([]:List (Addr×Obj)) from hp) (by simp),I.hok.kept k4,?_⟩
 ·obtain⟨k,j,rfl,ej,es⟩:=WD e2
  obtain⟨y,y1,y2,y0⟩:=ok.slot k j ej
  have y3:=fJ y0
  rw[show(cxC X N' scope cl fp s3 H3).N=N' from rfl,y1]at e1
  cases e1
  obtain⟨m,hn,hl⟩:=I.loc
  have vis:Vis X.env.scope x:=(ok.free x y3).elim (fun z=>.inr (.inl z)) fun z=>.inr (.inr z)
  obtain⟨u,r,l⟩:=hl j x v y2 es vis
  refine⟨u,r,?_⟩
  rcases l with ⟨l,_⟩|⟨_,c,ec,z⟩
  ·exfalso
   have l':X.env.scope.names.lookup x=some .local:=l
   rcases ok.free x y3 with q|q
   ·rw[q]at l';cases l'
   ·rw[q]at l';cases l'
  ·obtain⟨c',ec'⟩:=cl2 x y3
   have:=cl1 x c' ec'
   rw[ec]at this
   cases this
   obtain⟨o,ho,hd⟩:=z
   refine .inr ⟨?_,c,ec',⟨o,k4 c o ho,hd⟩⟩
   rcases e3 with z|z|z
   ·exfalso
    have z':(relabel scope X.env).names.lookup x=some .local:=z
    rcases MX (env:=X.env) y0 with q|q
    ·rw[z']at q;cases q
    ·rw[z']at q;cases q
   ·exact .inl z
   ·exact .inr z
 ·obtain⟨v,o,ho,hd⟩:=I.cell x c (cl1 x c e)
  exact⟨v,o,k4 c o ho,hd⟩
 ·show(blk own fr σ).length=N'.length
  unfold blk
  rw[L',fK,B',ok.len]
end
def PTs(X:Cx)(ifs:List Expr)(tc:TT):Prop :=
 ∀(pins:List (Addr×Obj)) (s:Shared) (σ:St) (H:Hp) (Q:Bool->Hp->Prop),Inv X pins σ H s->tc σ H Q->wpAny (model X.prog X.w) X.A (forIn ifs true fun c r=>if r=true then do let ok <- isTrue c X.env (eval c X.env);pure (ForInStep.yield ok) else pure (ForInStep.yield r)) (TP X pins σ Q) X.xe s
def Zh:TT:=fun _ H Q=>Q true H
theorem U1{X:Cx}:PTs X [] Zh:=fun pins s σ H Q I h=>wpAny_tests_nil ⟨H,I,h⟩
theorem Uz{X:Cx}{c:Expr}{tc:TT}(h:PT X c tc):PTs X [c] tc:=fun pins s σ H Q I hq=>wpAny_tests_one (h pins s σ H Q I hq)
def aV(own:Nat)(fr:List Nat)(g:TG)(tc:TT)(te:TE)(J:It)(σ:St)(H1:Hp)(Q:VK):Prop:=∀D,H1 D=none->∃W:Nat->Nat->List V->St->Hp->Prop,(∃m,W 0 m [] (blk own fr σ) (upd H1 D (.lst [])))/\∀i m ys σ' H',W i m ys σ' H' ->
 (J.stop i H' /\ Q (.ref D) H') \/ (J.go i H' /\ ∀ x H2, J.yld i H' x H2 -> g x σ' H2 fun σ3 H3 => tc σ3 H3 fun b H4 => if b = true then te σ3 H4 fun y H5 => H5 D = some (.lst ys) /\ ys.length < sizeLine /\ ∃ m', m' < m /\ W (i + 1) m' (ys ++ [y]) σ3 (upd H5 D (.lst (ys ++ [y])))
  else ∃m',m'<m/\W (i+1) m' ys σ3 H4)
def tLC(own:Nat)(fr:List Nat)(wi:TI)(g:TG)(tc:TT)(te:TE):TE:=fun σ H Q=>wi σ H fun J H1=>aV own fr g tc te J σ H1 Q
structure Own(X:Cx)(pins:List (Addr×Obj))(C:Addr)(H:Hp)(s:Shared):Prop where
 ns:∃m,s.heap.Ns C m
 hn:H C=none
 ne:C≠X.env.locals
 ab:X.s₀.heap.objs.size<=C
 nc:∀x c,X.env.cells.lookup x=some c->c≠C
 np:∀p∈X.pn++pins,p.1≠C
structure W0(G:Cx->Prop)(P:Program)(w:World)(K:PySem.W.Frag)(tg:Expr)(J:It)(fp:List Addr)(it:Addr)(tn:Nat->Heap->Prop):Prop where
 obj:∀i h,tn i h->∀b∈fp,∃o,h.get? b=some o/\∀v,o.data≠.cell v
 keep:∀i h h',tn i h->(∀b∈fp,∀o,h.get? b=some o->h'.get? b=some o)->tn i h'
 item:∀(X:Cx),X.prog=P->X.w=w->X.K=K->G X->∀(i:Nat) (pins:List (Addr×Obj)) (s:Shared) (σ:St) (H:Hp) (E:Value->Shared->Prop),Inv X pins σ H s->(∀b∈fp,Je X pins H b)->tn i s.heap->J.go i H ->
  wpAny (model P w) X.A (pyNext (.ref it)) (fun r s1 => ∃ u, r = some u /\
   wpAny (model P w) X.A (letOwnedTupleGo tg (.ref it) u) (fun _ s2=>∃x H',Inv X pins σ H' s2/\RelV x u/\J.yld i H x H'/\tn (i+1) s2.heap/\∀b∈fp,H' b=none) E s1) E s
 done:∀(X:Cx),X.prog=P->X.w=w->X.K=K->G X->∀(i:Nat) (pins:List (Addr×Obj)) (s:Shared) (σ:St) (H:Hp) (E:Value->Shared->Prop),Inv X pins σ H s->(∀b∈fp,Je X pins H b)->tn i s.heap->J.stop i H ->
  wpAny (model P w) X.A (pyNext (.ref it)) (fun r s1=>r=none/\Inv X pins σ H s1) E s
 self:∀(A:Around) (i:Nat) (s:Shared) (Q:Value->Shared->Prop) (E:Value->Shared->Prop),tn i s.heap->Q (.ref it) s->wpAny (model P w) A (pyIter (.ref it)) Q E s
theorem Turn.g{P:Program}{w:World}{K:PySem.W.Frag}{tg:Expr}{J:It}{fp:List Addr}{it:Addr}{tn:Nat->Heap->Prop}(T:Turn P w K tg J fp it tn):W0 (fun X=>X.calm=true) P w K tg J fp it tn:=⟨T.obj,T.keep,T.item,T.done,T.self⟩
section
variable {X:Cx} {N':List Str} {own:Nat} {fr:List Nat} {scope:Scope} {elt tg iter:Expr} {ifs:List Expr} {pos:Pos}
theorem Own.go{pins:List (Addr×Obj)}{σ:St}{H:Hp}{s:Shared}{C:Addr}{h':Heap}(O:Own X pins C H s)(I:Inv X pins σ H s)(sb:Heap.SameBut C s.heap h'):Inv X pins σ H { s with heap:=h' } :=
 I.turned (t':=s.toks) (fun b o hb e=>sb.extBut b o hb e) O.hn O.ne (.inr O.ab) O.nc O.np
theorem Og{G:Cx->Prop}{pins:List (Addr×Obj)}{σ:St}{H2:Hp}{s2:Shared}{J:It}{fp:List Addr}{it:Addr}{tn:Nat->Heap->Prop}{cl:List (Str×Addr)}{Q:VK}{g:TG}{tc:TT}{te:TE}{RR:Value->Addr->Result->Shared->Prop}{E:Value->Shared->Prop}
  (hc:∀s3 H3,Inv X pins σ H3 s3->G (cxC X N' scope cl fp s3 H3)) (ok:Rw X N' own fr scope) (I2:Inv X pins σ H2 s2) (T:W0 G X.prog X.w X.K tg J fp it tn) (st2:tn 0 s2.heap) (f2:∀b∈fp,Je X pins H2 b)
  (cl1:∀x c,cl.lookup x=some c->X.env.cells.lookup x=some c) (cl2:∀x,(x,NameKind.free)∈scope.names->∃c,cl.lookup x=some c)
  (hg:∀fp s3 H3,PG (cxC X N' scope cl fp s3 H3) tg g) (ht:∀fp s3 H3,PTs (cxC X N' scope cl fp s3 H3) ifs tc) (he:∀fp s3 H3,PE (cxC X N' scope cl fp s3 H3) elt te)
  (h:aV own fr g tc te J σ H2 Q)
  (fin:∀D C s' H',Inv X pins σ H' s'->Own X pins C H' s'->Q (.ref D) H'->RR (.ref D) C (.ok .next) s') :
  wpAny (model X.prog X.w) X.A (newList []) (fun acc s₃ => wpAny (model X.prog X.w) X.A (newFunctionEnv scope X.env.globals cl [] X.env.qual none .none (some X.env)) (fun cenv s₄ =>
   codeAny (model X.prog X.w) X.A (.compStart (.ListComp elt [⟨tg,iter,ifs,0⟩] scope pos) 0 (.ref it) acc { cenv with scope:=relabel scope X.env }) (RR acc cenv.locals) s₄) E s₃) E s2:=by
 obtain⟨W,⟨m0,w0⟩,turn⟩:=h s2.heap.objs.size (I2.hok.fresh (J' _))
 refine wpAny_newObj_type (wpAny_newFunctionEnv ok.cell (by intro y hy;simp at hy) (fun h₁ hns₁ hsb₁=>?_) ok.kind)
 dsimp only at hns₁ hsb₁ ⊢
 have I3:Inv X pins σ (upd H2 s2.heap.objs.size (.lst [])) { s2 with heap:=s2.heap.push { cls:=.type "list",dict:=none,data:=.seq ([]:List Value).toArray } } :=
  I2.laid (t':=s2.toks) (fun b u e=>K' _ e) (J' _) ⟨eA _,[],0,.nil,dn _ rfl⟩
 generalize hH3:upd H2 s2.heap.objs.size (.lst [])=H3 at w0 I3
 generalize hS3:({ s2 with heap:=s2.heap.push { cls:=.type "list",dict:=none,data:=.seq ([]:List Value).toArray } }:Shared)=S3 at I3
 have e3:s2.heap.push { cls:=.type "list",dict:=none,data:=.seq ([]:List Value).toArray }=S3.heap:=by rw[<- hS3]
 have k23:∀b o,s2.heap.get? b=some o->S3.heap.get? b=some o:=fun b o e=>by rw[<- e3];exact K' _ e
 rw[e3]at hns₁ hsb₁ ⊢
 have st3:tn 0 S3.heap:=T.keep _ _ _ st2 fun b _ o e=>k23 b o e
 have flt:∀b∈fp,b<S3.heap.objs.size:=fun b hb=>by
  obtain⟨o,e,_⟩:=T.obj _ _ st3 b hb
  exact Y' e
 have flt2:∀b∈fp,b<s2.heap.objs.size:=fun b hb=>by
  obtain⟨o,e,_⟩:=T.obj _ _ st2 b hb
  exact Y' e
 have f3:∀b∈fp,Je X pins H3 b:=fun b hb=>by
  refine⟨?_,(f2 b hb).2⟩
  rw[<- hH3,BL (dm (flt2 b hb))]
  exact(f2 b hb).1
 have k34:∀b o,S3.heap.get? b=some o->h₁.get? b=some o:=fun b o e=>hsb₁.extBut b o (dm (Y' e)) (K' _ e)
 have I4:Inv (cxC X N' scope cl fp S3 H3) [] (blk own fr σ) H3 { S3 with heap:=h₁,toks:=s2.toks+([]:List (Str×Value)).length }:=Vc ok I3 f3 flt cl1 cl2 _ hns₁ k34
 have st4:tn 0 h₁:=T.keep _ _ _ st3 fun b _ o e=>k34 b o e
 -- back in the def
 have back:∀{σ' H' s'},Inv (cxC X N' scope cl fp S3 H3) [] σ' H' s'->Inv X pins σ H' s'/\Own X pins S3.heap.objs.size H' s':=fun {σ' H' s'} I'=>by
  have J1:Inv X pins σ H' s':=I3.call' I'.os I'.base I'.hok I'.bare fun b hb=>⟨(f3 b hb).2.2.2.1,(f3 b hb).2.1,(f3 b hb).2.2.2.2⟩
  refine⟨J1,⟨let ⟨m,hn,_⟩:=I'.loc;⟨m,hn⟩,I'.free,f7 I3.lt,I3.sz,fun x c e z=>?_,fun p hp z=>?_⟩⟩
  ·obtain⟨v,q⟩:=I3.cell x c e
   exact absurd q.lt (by rw[z];exact fg _)
  ·exact absurd (Y' (I3.pin p hp).1) (by rw[z];exact fg _)
 have stat:∀{H':Hp},(∀b∈fp,H' b=none)->∀b∈fp,Je (cxC X N' scope cl fp S3 H3) [] H' b:=fun hn b hb =>
  ⟨hn b hb,(I4.ok.exf b hb).1,I4.ok.exfs b hb,.inl hb,(I4.ok.exf b hb).2,fun p hp=>absurd (show p∈([]:List (Addr×Obj)) from hp) (by simp)⟩
 have loop:codeAny (model X.prog X.w) X.A (.compLoop (.ListComp elt [⟨tg,iter,ifs,0⟩] scope pos) 0 (.ref it) (.ref s2.heap.objs.size) (cxC X N' scope cl fp S3 H3).env) (RR (.ref s2.heap.objs.size) S3.heap.objs.size) { S3 with heap:=h₁,toks:=s2.toks+([]:List (Str×Value)).length }:=by
  refine Rp (fun n s'=>∃i ys σ' H',Inv (cxC X N' scope cl fp S3 H3) [] σ' H' s'/\tn i s'.heap/\(∀b∈fp,H' b=none)/\W i n ys σ' H') ?_ m0 ⟨0,[],_,H3,I4,st4,fun b hb=>(f3 b hb).1,w0⟩
  rintro n s5 ⟨i,ys,σ5,H5,I5,st5,fr5,w5⟩
  rcases turn i n ys σ5 H5 w5 with ⟨stop,qn⟩|⟨go,step⟩
  ·refine thn (T.done (cxC X N' scope cl fp S3 H3) rfl rfl rfl (hc _ _ I3) i [] s5 σ5 H5 (fun _ _=>False) I5 (stat fr5) st5 stop) fun r s6 ⟨hr,I6⟩=>?_
   subst hr
   obtain⟨J1,O⟩:=back I6
   exact fin _ _ s6 H5 J1 O qn
  ·refine thn (T.item (cxC X N' scope cl fp S3 H3) rfl rfl rfl (hc _ _ I3) i [] s5 σ5 H5 (fun _ _=>False) I5 (stat fr5) st5 go) fun r s6 ⟨u,hr,h6⟩=>?_
   subst hr
   refine thn h6 fun _ s7 ⟨x,H7,I7,r7,y7,st7,fr7⟩=>?_
   have I7':=I7.pinned (stat fr7) (T.obj _ _ st7)
   refine thn (hg fp S3 H3 _ s7 σ5 H7 x u _ I7' r7 (step x H7 y7)) fun _ s8 ⟨σ8,H8,I8,q8⟩=>?_
   refine thn (ht fp S3 H3 _ s8 σ8 H8 _ I8 q8) fun b s9 ⟨H9,I9,q9⟩=>?_
   have again:∀{σ' H' s' m' ys'},m'<n->Inv (cxC X N' scope cl fp S3 H3) ([]++KS fp s7.heap) σ' H' s'->W (i+1) m' ys' σ' H'->∃m,m<n/\∃i ys σ' H',Inv (cxC X N' scope cl fp S3 H3) [] σ' H' s'/\tn i s'.heap/\(∀b∈fp,H' b=none)/\W i m ys σ' H':=fun {σ' H' s' m' ys'} hm I' w'=>by
    refine⟨m',hm,i+1,ys',σ',H',I'.unpinned,T.keep _ _ _ st7 fun b hb o e=>(I'.pin (b,o) (dW _ (dW _ (Ez hb e)))).1,fun b hb=>?_,w'⟩
    obtain⟨o,e,d⟩:=T.obj _ _ st7 b hb
    exact(I'.pin (b,o) (dW _ (dW _ (Ez hb e)))).2.1
   cases b with
   |false =>
    rw[if_neg eM]at q9 ⊢
    obtain⟨m',hm,w9⟩:=q9
    exact again hm I9 w9
   |true =>
    rw[if_pos rfl]at q9 ⊢
    refine thn (he fp S3 H3 _ s9 σ8 H9 _ I9 q9) fun v s10 ⟨y,H10,I10,r10,q10⟩=>?_
    obtain⟨hD,hz,m',hm,w10⟩:=q10
    refine thn (MF (X:=cxC X N' scope cl fp S3 H3) _ s10 σ8 H10 (.ref s2.heap.objs.size) [y] (.ref s2.heap.objs.size) [v] (fun _ H'=>W (i+1) m' (ys++[y]) σ8 H') I10 rfl (.cons r10 .nil) ⟨_,ys,y,rfl,rfl,hD,hz,w10⟩) fun v' s11 ⟨_,H11,I11,_,q11⟩=>?_
    exact again hm I11 q11
 subst hS3
 exact codeAny_compStart_list loop (T.self _ 0 _ _ _ st4 loop)
theorem Z4{wi:TI}{g:TG}{tc:TT}{te:TE}(hc:X.calm=true)(ok:Rw X N' own fr scope)(hi:PI X tg iter wi)
  (hg:∀cl fp s3 H3,PG (cxC X N' scope cl fp s3 H3) tg g) (ht:∀cl fp s3 H3,PTs (cxC X N' scope cl fp s3 H3) ifs tc) (he:∀cl fp s3 H3,PE (cxC X N' scope cl fp s3 H3) elt te)
  (hs:∀x,foldedSetIterable iter X.env x=pure x:=by intro _;rfl):PE X (.ListComp elt [⟨tg,iter,ifs,0⟩] scope pos) (tLC own fr wi g tc te):=by
 intro pins s σ H Q I h
 obtain⟨cl,ecl,cl1,cl2⟩:=Qu (env:=X.env) (scope:=scope) fun x hx=>I.ok.has x (ok.free x hx)
 rw[eval_ListComp]
 refine wpAny_comprehension_free (use:=none) rfl hs ecl ok.kind ok.names (thn (hi pins s σ H _ I h) fun v s1 h1=>thn h1 fun itv s2 h2=>?_)
 obtain⟨it,fp,tn,J,H2,rfl,I2,T,st2,f2,h2⟩:=h2
 refine Og (RR:=fun acc C=>compPost (model X.prog X.w) X.A X.xe none (EP X pins σ Q) acc C) (fun _ _ _=>hc) ok I2 T.g st2 f2 cl1 cl2 (hg cl) (ht cl) (he cl) h2 ?_
 intro D C s' H' J1 O q
 obtain⟨m,hn⟩:=O.ns
 exact⟨m,hn,fun h'' sb=>⟨.ref D,H',O.go J1 sb,rfl,q⟩⟩
theorem Sm{wi:TI}{g:TG}{tc:TT}{te:TE}{i:Nat}{y:Str}{py spos:Pos}(hN:X.N.Nodup)(hiN:X.N[i]?=some y)(hy:X.env.scope.names.lookup y=some .local)(hc:X.calm=true)(ok:Rw X N' own fr scope)(hi:PI X tg iter wi)
  (hg:∀cl fp s3 H3,PG (cxC X N' scope cl fp s3 H3) tg g) (ht:∀cl fp s3 H3,PTs (cxC X N' scope cl fp s3 H3) ifs tc) (he:∀cl fp s3 H3,PE (cxC X N' scope cl fp s3 H3) elt te)
  (hsw:swapsWith (.ListComp elt [⟨tg,iter,ifs,0⟩] scope pos) (some (.Name y py)) spos.line X.env=pure true)
  (hs:∀x,foldedSetIterable iter X.env x=pure x:=by intro _;rfl):PS X (.Assign [.Name y py] (.ListComp elt [⟨tg,iter,ifs,0⟩] scope pos) spos) (fun D σ H=>tLC own fr wi g tc te σ H fun v H'=>D.nx (σ.set i (some v)) H'):=by
 intro pins s σ H D I h
 obtain⟨cl,ecl,cl1,cl2⟩:=Qu (env:=X.env) (scope:=scope) fun x hx=>I.ok.has x (ok.free x hx)
 rw[exec_Assign_Name_used _ _ _ _ hsw]
 refine wpAny_bind (wpAny_standAt (wpAny_bind ?_))
 show wpAny _ _ (do let _ <- comprehension (.ListComp elt [⟨tg,iter,ifs,0⟩] scope pos) scope X.env _ (newList []) false (eval iter X.env) (some (assign (.Name y py) X.env))) _ _ s
 refine wpAny_bind (wpAny_mono (wpAny_comprehension_free (use := some (assign (.Name y py) X.env)) (Q := fun _ s' => SP X pins D .next s') rfl hs ecl ok.kind ok.names
  (thn (hi pins s σ H _ I h) fun v s1 h1=>thn h1 fun itv s2 h2=>?_)) (fun _ s' hq=>wpAny_pure (wpAny_pure hq)) fun _ _ e=>e)
 obtain⟨it,fp,tn,J,H2,rfl,I2,T,st2,f2,h2⟩:=h2
 refine Og (RR:=fun acc C=>compPost (model X.prog X.w) X.A X.xe (some (assign (.Name y py) X.env)) (fun _ s'=>SP X pins D .next s') acc C) (fun _ _ _=>hc) ok I2 T.g st2 f2 cl1 cl2 (hg cl) (ht cl) (he cl) h2 ?_
 intro D' C s' H' J1 O q
 show wpAny _ _ (assign (.Name y py) X.env (.ref D')) _ _ _
 refine wpAny_assign_Name (L5 J1 hN hiN (.inl hy) (v:=.ref D') rfl (fun s'' J2 sb=>?_) (.inr hy))
 obtain⟨m,hn⟩:=O.ns
 obtain⟨a,sb,ha⟩:=sb
 have nea:C≠a:=by
  rcases ha with ha|ha
  ·rw[ha];exact O.ne
  ·exact fun z=>O.nc y a ha z.symm
 refine⟨m,hn.sameBut sb nea,fun h'' sb'=>?_⟩
 have O2:Own X pins C H' s'':=⟨⟨m,hn.sameBut sb nea⟩,O.hn,O.ne,O.ab,O.nc,O.np⟩
 exact⟨_,H',O2.go J2 sb',q⟩
end
end L2
end
section
namespace DL
open PySem L2 PyProof.Rows
structure KW where
 fr:PySem.W.Frag
 w:World
instance:CoeOut KW PySem.W.Frag:=⟨KW.fr⟩
abbrev JY(X:Cx):KW:=⟨X.K,X.w⟩
def hT(ks:List Int):Int:=reduceHash (Builtin.Tuple.tupleHashOf (ks.map hashInt))
def XZ(a:Addr)(ts:List (List Int×Addr×V))(ep:Nat):Heap->Prop:=fun h=>(a==sysModules)=false/\ts.length<=sizeLine/\(ts.map (·.1)).Nodup /\
 ∃xs:List (List Int×Addr×Value),Paired (fun(t:List Int×Addr×V) (x:List Int×Addr×Value)=>t.1=x.1/\t.2.1=x.2.1/\RelV t.2.2 x.2.2) ts xs /\
  ∃(o:Obj) (es:Array DictEntry),h.get? a=some o/\o.ExactDict/\o.data = .dict es ep/\es.toList=xs.map fun x=>⟨hT x.1,.ref x.2.1,x.2.2⟩
def HD(H:Hp)(a:Addr)(ts:List (List Int×Addr×V)):Prop:=∃ep,H a=some (.ext (XZ a ts ep))
def txK(ts:List (Str×V)):List (Key×V):=ts.map fun t=>(Sum.inr t.1,t.2)
mutual
def Is(K:KW)(H:Hp):PyData->V->Prop
 |.none,v=>v = .non
 |.bool b,v=>v = .bl b
 |.int i,v=>v = .int i
 |.str x,v=>v = .str x
 |.tuple ds,v=>∃a vs,v = .ref a/\SqT K H a vs/\IsL K H ds vs
 |.list ds,v=>∃a vs,v = .ref a/\H a=some (.lst vs)/\IsL K H ds vs
 |.dict kvs,v=>∃a ts,v = .ref a/\HD H a ts/\IsKV K H kvs ts
def IsL(K:KW)(H:Hp):List PyData->List V->Prop
 |[],vs=>vs=[]
 |d::ds,vs=>∃x xs,vs=x::xs/\Is K H d x/\IsL K H ds xs
def IsKV(K:KW)(H:Hp):List (PyData×PyData)->List (List Int×Addr×V)->Prop
 |[],ts=>ts=[]
 |(k,d)::r,ts=>∃t tr,ts=t::tr/\k = .tuple (t.1.map PyData.int)/\SqT K H t.2.1 (t.1.map V.int)/\Is K H d t.2.2/\IsKV K H r tr
end
theorem Same.tup{K:KW}{H H':Hp}{a:Addr}{xs:List V}(e:Same H H')(h:SqT K H a xs):SqT K H' a xs:=by
 rcases h with (h|⟨o,h⟩)|h
 ·exact .inl (.inl (e _ _ h))
 ·exact .inl (.inr ⟨o,e _ _ h⟩)
 ·exact .inr h
def TSm(H H':Hp):Prop:=∀b o,H b=some o->(∀xs,o≠.lst xs)->(∀φ,o≠.ext φ)->H' b=some o
theorem TSm.tup{K:KW}{H H':Hp}{a:Addr}{xs:List V}(e:TSm H H')(h:SqT K H a xs):SqT K H' a xs:=by
 rcases h with (h|⟨o,h⟩)|h
 ·exact .inl (.inl (e _ _ h (fun _ z=>by cases z) fun _ z=>by cases z))
 ·exact .inl (.inr ⟨o,e _ _ h (fun _ z=>by cases z) fun _ z=>by cases z⟩)
 ·exact .inr h
section
variable {K:KW}
mutual
theorem Is.mono{H H':Hp}(s:Same H H'):∀{d:PyData} {v:V},Is K H d v->Is K H' d v
 |.none,_,h=>h
 |.bool _,_,h=>h
 |.int _,_,h=>h
 |.str _,_,h=>h
 |.tuple _,_,⟨a,vs,e,h,l⟩=>⟨a,vs,e,Same.tup s h,IsL.mono s l⟩
 |.list _,_,⟨a,vs,e,h,l⟩=>⟨a,vs,e,s _ _ h,IsL.mono s l⟩
 |.dict _,_,⟨a,ts,e,⟨ep,h⟩,l⟩=>⟨a,ts,e,⟨ep,s _ _ h⟩,IsKV.mono s l⟩
theorem IsL.mono{H H':Hp}(s:Same H H'):∀{ds:List PyData} {vs:List V},IsL K H ds vs->IsL K H' ds vs
 |[],_,h=>h
 |_::_,_,⟨x,xs,e,h,l⟩=>⟨x,xs,e,Is.mono s h,IsL.mono s l⟩
theorem IsKV.mono{H H':Hp}(s:Same H H'):∀{kvs:List (PyData×PyData)} {ts:List (List Int×Addr×V)},IsKV K H kvs ts->IsKV K H' kvs ts
 |[],_,h=>h
 |(_,_)::_,_,⟨t,tr,e,ek,hk,h,l⟩=>⟨t,tr,e,ek,Same.tup s hk,Is.mono s h,IsKV.mono s l⟩
end
mutual
theorem Is.monoT{H H':Hp}(s:TSm H H'):∀{d:PyData} {v:V},Cz d=true->Is K H d v->Is K H' d v
 |.none,_,_,h=>h
 |.bool _,_,_,h=>h
 |.int _,_,_,h=>h
 |.str _,_,_,h=>h
 |.tuple _,_,f,⟨a,vs,e,h,l⟩=>⟨a,vs,e,s.tup h,IsL.monoT s f l⟩
 |.list _,_,f,_=>absurd f eM
 |.dict _,_,f,_=>absurd f eM
theorem IsL.monoT{H H':Hp}(s:TSm H H'):∀{ds:List PyData} {vs:List V},fixDs ds=true->IsL K H ds vs->IsL K H' ds vs
 |[],_,_,h=>h
 |d::ds,_,f,⟨x,xs,e,h,l⟩=>⟨x,xs,e,Is.monoT s (by rw[fixDs,G']at f;exact f.1) h,IsL.monoT s (by rw[fixDs,G']at f;exact f.2) l⟩
end
theorem IsL.length{H:Hp}:∀{ds:List PyData} {vs:List V},IsL K H ds vs->vs.length=ds.length
 |[],_,h=>by rw[show _=[] from h];rfl
 |_::_,_,⟨x,xs,e,_,l⟩=>by rw[e,X',X',IsL.length l]
theorem IsL.get{H:Hp}:∀{ds:List PyData} {vs:List V} {i:Nat} {d:PyData},IsL K H ds vs->ds[i]?=some d->∃v,vs[i]?=some v/\Is K H d v
 |[],_,_,_,_,e=>by simp at e
 |d::ds,_,0,_,⟨x,xs,e,h,l⟩,q=>by
  subst e
  simp at q
  subst q
  exact⟨x,rfl,h⟩
 |d::ds,_,i+1,_,⟨x,xs,e,h,l⟩,q=>by
  subst e
  obtain⟨v,a,b⟩:=IsL.get (i:=i) l (by simpa using q)
  exact⟨v,by simpa using a,b⟩
end
section
variable {X:Cx} {pins:List (Addr×Obj)} {σ:L2.St} {H:Hp} {s:Shared}
mutual
theorem FK(I:Inv X pins σ H s):∀{d:PyData} {v:V} {u:Value},Is (JY X) H d v->RelV v u->∃as,Reads s.heap u d as
 |.none,_,_,h,r=>by subst h;cases r;exact⟨_,.none⟩
 |.bool _,_,_,h,r=>by subst h;cases r;exact⟨_,.bool _⟩
 |.int _,_,_,h,r=>by subst h;obtain⟨t,rfl⟩:=r;exact⟨_,.int _ _⟩
 |.str _,_,_,h,r=>by subst h;obtain⟨t,rfl⟩:=r;exact⟨_,.str _ _⟩
 |.tuple ds,_,_,⟨a,vs,e,h,l⟩,r=>by
  subst e;cases r
  obtain⟨its,rr,⟨o,e,c,n,q⟩,_⟩:=I.tuple h
  obtain⟨as,z⟩:=readsL I l rr
  exact⟨_,.tuple e c q z⟩
 |.list ds,_,_,⟨a,vs,e,h,l⟩,r=>by
  subst e;cases r
  obtain⟨_,its,n,rr,e⟩:=I.hok a _ h
  obtain⟨as,z⟩:=readsL I l rr
  exact⟨_,.list e rfl rfl z⟩
 |.dict kvs,_,_,⟨a,ts,e,⟨ep,h⟩,l⟩,r=>by
  subst e;cases r
  obtain⟨⟨_,_,_,xs,pr,o,es,ho,he,hd,hes⟩,_,_⟩:=(show ObjOk X.prog X.w H s.heap a (.ext (XZ a ts ep)) from I.hok a _ h)
  obtain⟨as,bs,z1,z2⟩:=readsK I l pr
  refine⟨_,.dict ho he.1 hd (as:=as) (bs:=bs) ?_ ?_⟩
  ·rw[hes,fD];exact z1
  ·rw[hes,fD];exact z2
theorem readsL(I:Inv X pins σ H s):∀{ds:List PyData} {vs:List V} {us:List Value},IsL (JY X) H ds vs->Vals vs us->∃as,ReadsAll s.heap us ds as
 |[],_,_,h,r=>by subst h;cases r;exact⟨_,.nil⟩
 |d::ds,_,_,⟨x,xs,e,h,l⟩,r=>by
  subst e
  cases r with
  |cons r1 r2 =>
   obtain⟨as,z⟩:=FK I h r1
   obtain⟨bs,y⟩:=readsL I l r2
   exact⟨_,.cons z y⟩
theorem readsK(I:Inv X pins σ H s):∀{kvs:List (PyData×PyData)} {ts:List (List Int×Addr×V)} {xs:List (List Int×Addr×Value)},IsKV (JY X) H kvs ts->Paired (fun(t:List Int×Addr×V) (x:List Int×Addr×Value)=>t.1=x.1/\t.2.1=x.2.1/\RelV t.2.2 x.2.2) ts xs ->
  ∃as bs,ReadsAll s.heap (xs.map fun x=>Value.ref x.2.1) (kvs.map (·.1)) as/\ReadsAll s.heap (xs.map fun x=>x.2.2) (kvs.map (·.2)) bs
 |[],_,_,h,r=>by subst h;cases r;exact⟨_,_,.nil,.nil⟩
 |(k,d)::kvs,_,_,⟨t,tr,e,ek,hk,h,l⟩,r=>by
  subst e
  cases r with
  |cons r1 r2 =>
   obtain⟨q1,q2,q3⟩:=r1
   obtain⟨as,bs,z1,z2⟩:=readsK I l r2
   obtain⟨cs,z3⟩:=FK I h q3
   obtain⟨its,rr,⟨o,e,c,n,q⟩,_⟩:=I.tuple hk
   subst ek
   have hz:∃ds,ReadsAll s.heap its.toArray.toList (t.1.map PyData.int) ds:=by
    clear hk e q
    generalize t.1=ks at rr
    induction ks generalizing its with
    |nil=>cases rr;exact⟨_,.nil⟩
    |cons k ks ih =>
     cases rr with
     |cons a b =>
      obtain⟨ds,y⟩:=ih _ b
      obtain⟨tk,rfl⟩:=a
      exact⟨_,.cons (.int _ _) y⟩
   obtain⟨ds,y⟩:=hz
   rw[q2]at e
   exact⟨_,_,.cons (.tuple e c q y) z1,.cons z3 z2⟩
end
def Uw(K:KW):R2:=fun x y H Q=>∃d e,Is K H d x/\Is K H e y/\okD d=true/\okD e=true/\Q (.bl (PyData.eqv d e)) H
def Uu(K:KW):R2:=fun x y H Q=>∃d e,Is K H d x/\Is K H e y/\okD d=true/\okD e=true/\Q (.bl (!PyData.eqv d e)) H
theorem Xq(hu:X.A.units+64<cLine):OpR X (compareOp .Eq) (Uw (JY X)):=by
 intro pins s σ H x y v u Q I rx ry h
 obtain⟨d,e,hd,he,od,oe,q⟩:=h
 obtain⟨as,ra⟩:=FK I hd rx
 obtain⟨bs,rb⟩:=FK I he ry
 exact eq_dataH ra rb od oe hu ⟨.bl _,H,I,rfl,q⟩
theorem Xk(hu:X.A.units+64<cLine):OpR X (compareOp .NotEq) (Uu (JY X)):=by
 intro pins s σ H x y v u Q I rx ry h
 obtain⟨d,e,hd,he,od,oe,q⟩:=h
 obtain⟨as,ra⟩:=FK I hd rx
 obtain⟨bs,rb⟩:=FK I he ry
 exact ne_dataH ra rb od oe hu ⟨.bl _,H,I,rfl,q⟩
def O7(K:KW)(neg:Bool):R2:=fun x y H Q=>∃d es,Is K H d x/\(Is K H (.list es) y\/Is K H (.tuple es) y)/\okD d=true/\okD (.list es)=true/\Q (.bl (if neg then !(es.any fun y=>PyData.eqv y d) else es.any fun y=>PyData.eqv y d)) H
theorem Xp(hu:X.A.units+65<cLine):OpR X (compareOp .In) (O7 (JY X) false):=by
 intro pins s σ H x y v u Q I rx ry h
 obtain⟨d,es,hd,he,od,oe,q⟩:=h
 obtain⟨as,ra⟩:=FK I hd rx
 obtain⟨c1,c2⟩:=Ik oe
 have hm:X.A.units+1+min (PyData.depthAll es) d.depth<cLine:=by omega
 rcases he with he|he
 ·obtain⟨bs,rb⟩:=FK I he ry
  exact SeqAt.in_list_reads rb ra c1 (Et od) hm ⟨.bl _,H,I,rfl,q⟩
 ·obtain⟨bs,rb⟩:=FK I he ry
  exact SeqAt.in_tuple_reads rb ra c1 (Et od) hm ⟨.bl _,H,I,rfl,q⟩
theorem RJ(hu:X.A.units+65<cLine):OpR X (compareOp .NotIn) (O7 (JY X) true):=by
 intro pins s σ H x y v u Q I rx ry h
 obtain⟨d,es,hd,he,od,oe,q⟩:=h
 obtain⟨as,ra⟩:=FK I hd rx
 obtain⟨c1,c2⟩:=Ik oe
 have hm:X.A.units+1+min (PyData.depthAll es) d.depth<cLine:=by omega
 rcases he with he|he
 ·obtain⟨bs,rb⟩:=FK I he ry
  exact SeqAt.notIn_list_reads rb ra c1 (Et od) hm ⟨.bl _,H,I,rfl,q⟩
 ·obtain⟨bs,rb⟩:=FK I he ry
  exact SeqAt.notIn_tuple_reads rb ra c1 (Et od) hm ⟨.bl _,H,I,rfl,q⟩
end
end DL
end
section
namespace DL
open PySem L2
inductive L where
 |d (x:PyData)
 |m (xs:List PyData)
 |c (xs:List PyData)
 |k (kvs:List (List Int×PyData))
 |g (x:PyData)
abbrev DS:=List (Option L)
inductive Ow where
 |l (xs:List PyData)
 |t (kvs:List (List Int×PyData))
def Ow.L:Ow->L
 |.l xs=>.m xs
 |.t kvs=>.k kvs
def Lm(kvs:List (List Int×PyData)):List (PyData×PyData):=kvs.map fun p=>(.tuple (p.1.map PyData.int),p.2)
def Ow.D:Ow->PyData
 |.l xs=>.list xs
 |.t kvs=>.dict (Lm kvs)
def Ow.fl:Ow->Bool
 |.l _=>true
 |.t _=>false
theorem Ow.not_d{o:Ow}{x:PyData}:o.L≠.d x:=by cases o<;>exact fun z=>nomatch z
theorem Ow.not_g{o:Ow}{x:PyData}:o.L≠.g x:=by cases o<;>exact fun z=>nomatch z
theorem Ow.not_c{o:Ow}{x:List PyData}:o.L≠.c x:=by cases o<;>exact fun z=>nomatch z
theorem Ow.inj{o p:Ow}(h:o.L=p.L):o=p:=by
 cases o<;>cases p<;>cases h<;>rfl
def IsO(K:KW)(H:Hp):Ow->Addr->HO->Prop
 |.l xs,_,h=>∃vs,h = .lst vs/\IsL K H xs vs
 |.t kvs,a,h=>∃ts,(∃ep,h = .ext (XZ a ts ep))/\IsKV K H (Lm kvs) ts
theorem IsO.mono{K:KW}{H H':Hp}(s:Same H H'):∀{o:Ow} {a:Addr} {h:HO},IsO K H o a h->IsO K H' o a h
 |.l _,_,_,⟨vs,e,l⟩=>⟨vs,e,l.mono s⟩
 |.t _,_,_,⟨ts,e,l⟩=>⟨ts,e,l.mono s⟩
theorem IsO.is{K:KW}{H:Hp}:∀{o:Ow} {a:Addr} {h:HO},IsO K H o a h->H a=some h->Is K H o.D (.ref a)
 |.l _,a,_,⟨vs,e,l⟩,z=>⟨a,vs,rfl,e▸z,l⟩
 |.t _,a,_,⟨ts,⟨ep,e⟩,l⟩,z=>⟨a,ts,rfl,⟨ep,e▸z⟩,l⟩
open Classical in
noncomputable def hid(S:Addr->Prop)(H:Hp):Hp:=fun a=>if S a then none else H a
theorem hid_iff{S:Addr->Prop}{H:Hp}{b:Addr}{o:HO}:hid S H b=some o↔¬S b/\H b=some o:=by
 unfold hid
 by_cases h:S b
 ·rw[if_pos h];exact⟨fun z=>(nomatch z),fun z=>absurd h z.1⟩
 ·rw[if_neg h];exact⟨fun z=>⟨h,z⟩,fun z=>z.2⟩
def Keep(S:Addr->Prop)(H:Hp)(S':Addr->Prop)(H':Hp):Prop:=∀b o,¬S b->H b=some o->¬S' b/\H' b=some o
def Chg(M:Addr->Prop)(H H':Hp):Prop:=∀b o,¬M b->H b=some o->H' b=some o
theorem Keep.same{S S':Addr->Prop}{H H':Hp}(k:Keep S H S' H'):Same (hid S H) (hid S' H'):=fun b o e=>hid_iff.mpr (k b o (hid_iff.mp e).1 (hid_iff.mp e).2)
theorem Keep.refl{S:Addr->Prop}{H:Hp}:Keep S H S H:=fun _ _ h e=>⟨h,e⟩
theorem Keep.trans{S S1 S2:Addr->Prop}{H H1 H2:Hp}(a:Keep S H S1 H1)(b:Keep S1 H1 S2 H2):Keep S H S2 H2:=fun c o h e=>b c o (a c o h e).1 (a c o h e).2
theorem Chg.refl{M:Addr->Prop}{H:Hp}:Chg M H H:=fun _ _ _ e=>e
theorem Chg.trans{M:Addr->Prop}{H H1 H2:Hp}(a:Chg M H H1)(b:Chg M H1 H2):Chg M H H2:=fun c o h e=>b c o h (a c o h e)
theorem Chg.of{M:Addr->Prop}{H H':Hp}(s:Same H H'):Chg M H H':=fun b o _ e=>s b o e
theorem Chg.keep{S M:Addr->Prop}{H H':Hp}(c:Chg M H H')(sub:∀a,M a->S a):Keep S H S H':=fun b o h e=>⟨h,c b o (fun z=>h (sub b z)) e⟩
theorem Same.keep{S:Addr->Prop}{H H':Hp}(s:Same H H'):Keep S H S H':=fun b o h e=>⟨h,s b o e⟩
theorem same_hid{S:Addr->Prop}{H:Hp}:Same (hid S H) H:=fun b o e=>(hid_iff.mp e).2
theorem Ej{S S':Addr->Prop}{H:Hp}(h:∀a,S' a->S a):Same (hid S H) (hid S' H):=Keep.same fun b o n e=>⟨fun z=>n (h b z),e⟩
theorem tsS{H H':Hp}(s:Same H H'):TSm H H':=fun b o e _ _=>s b o e
theorem TSm.refl{H:Hp}:TSm H H:=fun _ _ e _ _=>e
mutual
def Dp(K:KW)(S:Addr->Prop)(H:Hp):PyData->V->List Addr->Prop
 |.none,v,F=>v = .non/\F=[]
 |.bool b,v,F=>v = .bl b/\F=[]
 |.int i,v,F=>v = .int i/\F=[]
 |.str x,v,F=>v = .str x/\F=[]
 |.tuple ds,v,F=>∃a vs,v = .ref a/\SqT K (hid S H) a vs/\DpL K S H ds vs F
 |.list ds,v,F=>∃a vs G,v = .ref a/\F=a::G/\H a=some (.lst vs)/\DpL K S H ds vs G
 |.dict _,_,_=>False
def DpL(K:KW)(S:Addr->Prop)(H:Hp):List PyData->List V->List Addr->Prop
 |[],vs,F=>vs=[]/\F=[]
 |d::ds,vs,F=>∃x xs F1 F2,vs=x::xs/\F=F1++F2/\Dp K S H d x F1/\DpL K S H ds xs F2
end
section
variable {K:KW} {S S':Addr->Prop} {H H':Hp}
mutual
theorem Dp.mono(s:TSm (hid S H) (hid S' H')):∀{d:PyData} {v:V} {F:List Addr},(∀a∈F,H' a=H a)->Dp K S H d v F->Dp K S' H' d v F
 |.none,_,_,_,h=>h
 |.bool _,_,_,_,h=>h
 |.int _,_,_,_,h=>h
 |.str _,_,_,_,h=>h
 |.tuple _,_,_,f,⟨a,vs,e,h,l⟩=>⟨a,vs,e,s.tup h,DpL.mono s f l⟩
 |.list _,_,_,f,⟨a,vs,G,e,e2,h,l⟩=>⟨a,vs,G,e,e2,(f a (by rw[e2];exact F' ..)).trans h,DpL.mono s (fun b hb=>f b (by rw[e2];exact C' _ hb)) l⟩
theorem DpL.mono(s:TSm (hid S H) (hid S' H')):∀{ds:List PyData} {vs:List V} {F:List Addr},(∀a∈F,H' a=H a)->DpL K S H ds vs F->DpL K S' H' ds vs F
 |[],_,_,_,h=>h
 |_::_,_,_,f,⟨x,xs,F1,F2,e,e2,h,l⟩=>⟨x,xs,F1,F2,e,e2,Dp.mono s (fun b hb=>f b (by rw[e2];exact dY _ hb)) h,DpL.mono s (fun b hb=>f b (by rw[e2];exact dW _ hb)) l⟩
end
end
def IsX(K:KW)(H:Hp):List (PyData×PyData)->List (Str×V)->Prop
 |[],ts=>ts=[]
 |(k,d)::r,ts=>∃t tr,ts=t::tr/\k = .str t.1/\Cz d=true/\Is K H d t.2/\IsX K H r tr
theorem IsX.mono{K:KW}{H H':Hp}(s:TSm H H'):∀{kvs:List (PyData×PyData)} {ts:List (Str×V)},IsX K H kvs ts->IsX K H' kvs ts
 |[],_,h=>h
 |(_,_)::_,_,⟨t,tr,e,ek,f,h,l⟩=>⟨t,tr,e,ek,f,Is.monoT s f h,IsX.mono s l⟩
def DpT(K:KW)(S:Addr->Prop)(H:Hp)(d:PyData)(v:V)(F:List Addr):Prop:=match d with
 |.dict kvs=>∃a ts,v = .ref a/\F=[a]/\H a=some (.dK (txK ts))/\IsX K (hid S H) kvs ts
 |d=>Dp K S H d v F
theorem DpT.mono{K:KW}{S S':Addr->Prop}{H H':Hp}{d:PyData}{v:V}{F:List Addr}(s:TSm (hid S H) (hid S' H'))(f:∀a∈F,H' a=H a)(h:DpT K S H d v F):DpT K S' H' d v F:=by
 cases d with
 |dict kvs =>
  obtain⟨a,ts,e,e2,h,l⟩:=(show ∃a ts,v = .ref a/\F=[a]/\H a=some (.dK (txK ts))/\IsX K (hid S H) kvs ts from h)
  exact⟨a,ts,e,e2,(f a (by rw[e2];exact fu a)).trans h,l.mono s⟩
 |_=>exact Dp.mono s f h
def GR(K:KW)(S M:Addr->Prop)(τ:DS)(σ:St)(H:Hp):Prop:=∃φ:Nat->List Addr,∀(i:Nat) (d:PyData),τ[i]?=some (some (.g d)) ->
 (∃v,σ[i]?=some (some v)/\DpT K S H d v (φ i))/\(φ i).Nodup/\(∀a∈φ i,M a)/\(∀(j:Nat) (o:Ow) (a:Addr),τ[j]?=some (some o.L)->σ[j]?=some (some (.ref a))->a∉φ i) /\
  ∀(j:Nat) (d':PyData),j≠i->τ[j]?=some (some (.g d'))->∀a∈φ i,a∉φ j
theorem GR.nil{K:KW}{S M:Addr->Prop}{τ:DS}{σ:St}{H:Hp}(h:∀(i:Nat) (d:PyData),τ[i]?≠some (some (.g d))):GR K S M τ σ H:=⟨fun _=>[],fun i d e=>absurd e (h i d)⟩
theorem GR.to{K:KW}{S M S' M':Addr->Prop}{τ t7:DS}{σ σ':St}{H H':Hp}(g:GR K S M τ σ H)(ht:∀(i:Nat) (d:PyData),t7[i]?=some (some (.g d))->τ[i]?=some (some (.g d))/\σ'[i]?=σ[i]?)
  (ho:∀(j:Nat) (o:Ow) (a:Addr),t7[j]?=some (some o.L)->σ'[j]?=some (some (.ref a))->(∃o':Ow,τ[j]?=some (some o'.L)/\σ[j]?=some (some (.ref a)))\/¬M a)
  (hm:∀a,M a->(∀(j:Nat) (o:Ow),τ[j]?=some (some o.L)->σ[j]?≠some (some (.ref a)))->M' a/\H' a=H a) (ts:TSm (hid S H) (hid S' H')):GR K S' M' t7 σ' H':=by
 obtain⟨φ,g⟩:=g
 refine⟨φ,fun i d e=>?_⟩
 obtain⟨e1,e2⟩:=ht i d e
 obtain⟨⟨v,g1,g2⟩,g3,g4,g5,g6⟩:=g i d e1
 have hm':∀a∈φ i,M' a/\H' a=H a:=fun a ha=>hm a (g4 a ha) fun j o q q2=>g5 j o a q q2 ha
 refine⟨⟨v,e2.trans g1,g2.mono ts fun a ha=>(hm' a ha).2⟩,g3,fun a ha=>(hm' a ha).1,fun j o a q1 q2 ha=>?_,fun j d' hj q=>g6 j d' hj (ht j d' q).1⟩
 rcases ho j o a q1 q2 with ⟨o',z1,z2⟩|z
 ·exact g5 j o' a z1 z2 ha
 ·exact z (g4 a ha)
structure R(K:KW)(S M:Addr->Prop)(τ:DS)(σ:St)(H:Hp):Prop where
 len:σ.length=τ.length
 dat:∀(i:Nat) (x:PyData),τ[i]?=some (some (.d x))->∃v,σ[i]?=some (some v)/\Is K (hid S H) x v
 mt:∀(i:Nat) (o:Ow),τ[i]?=some (some o.L)->∃(a:Addr) (h:HO),σ[i]?=some (some (.ref a))/\M a/\H a=some h/\IsO K (hid S H) o a h
 cst:∀(i:Nat) (xs:List PyData),τ[i]?=some (some (.c xs))->∃(a:Addr) (vs:List V),σ[i]?=some (some (.ref a))/\SqL K (hid S H) a vs/\IsL K (hid S H) xs vs
 inj:∀(i j:Nat) (o p:Ow) (a:Addr),τ[i]?=some (some o.L)->τ[j]?=some (some p.L)->σ[i]?=some (some (.ref a))->σ[j]?=some (some (.ref a))->i=j
 sub:∀a,M a->S a
 ex:∀a,S a->∃o,H a=some o
 gr:GR K S M τ σ H
def Res(K:KW)(fr:Bool)(S:Addr->Prop)(H H':Hp)(d:PyData)(v:V):Prop:=match fr with
 |false=>Is K (hid S H') d v
 |true=>∃(o:Ow) (a:Addr) (h:HO),d=o.D/\v = .ref a/\H a=none/\H' a=some h/\IsO K (hid (fun b=>S b\/b=a) H') o a h
section
variable {K:KW} {S M:Addr->Prop} {τ:DS} {σ:St} {H H':Hp}
theorem R.fresh(r:R K S M τ σ H){a:Addr}(h:H a=none):¬S a:=fun z=>by
 obtain⟨o,e⟩:=r.ex a z
 rw[h]at e;cases e
theorem R.ml(r:R K S M τ σ H)(i:Nat)(xs:List PyData)(e:τ[i]?=some (some (.m xs))):∃(a:Addr) (vs:List V),σ[i]?=some (some (.ref a))/\M a/\H a=some (.lst vs)/\IsL K (hid S H) xs vs:=by
 obtain⟨a,h,h1,h2,h3,vs,rfl,l⟩:=r.mt i (.l xs) e
 exact⟨a,vs,h1,h2,h3,l⟩
theorem R.same(r:R K S M τ σ H)(s:Same H H'):R K S M τ σ H' where
 len:=r.len
 dat:=fun i x e=>let ⟨v,a,b⟩:=r.dat i x e;⟨v,a,b.mono (Same.keep s).same⟩
 mt:=fun i o e=>let ⟨a,h,h1,h2,h3,h4⟩:=r.mt i o e;⟨a,h,h1,h2,s _ _ h3,h4.mono (Same.keep s).same⟩
 cst:=fun i xs e=>let ⟨a,vs,h1,h2,h3⟩:=r.cst i xs e;⟨a,vs,h1,(Same.keep s).same.seq h2,h3.mono (Same.keep s).same⟩
 inj:=r.inj
 sub:=r.sub
 ex:=fun a h=>let ⟨o,e⟩:=r.ex a h;⟨o,s _ _ e⟩
 gr:=r.gr.to (fun i d e=>⟨e,rfl⟩) (fun j o a e q=>.inl ⟨o,e,q⟩) (fun a h _=>⟨h,by obtain⟨o,e⟩:=r.ex a (r.sub a h);rw[e];exact s _ _ e⟩) (tsS (Same.keep s).same)
theorem Res.is{fr:Bool}{d:PyData}{v:V}(h:Res K fr S H H' d v)(f:∀a,H a=none->¬S a):Is K (hid S H') d v:=by
 cases fr with
 |false=>exact h
 |true =>
  obtain⟨o,a,ho,rfl,rfl,h1,h2,h3⟩:=h
  exact IsO.is (h3.mono (Ej fun b z=>.inl z)) (hid_iff.mpr ⟨f a h1,h2⟩)
theorem Res.imp{fr:Bool}{d:PyData}{v:V}(h:Res K fr S H H' d v)(f:∀a,H a=none->¬S a)(fr':Bool)(hf:fr'=true->fr=true):Res K fr' S H H' d v:=by
 cases fr' with
 |false=>exact h.is f
 |true=>rw[hf rfl]at h;exact h
end
abbrev DX:=DS->Option (PyData×DS)
abbrev DT:=DS->Option (Bool×DS)
inductive Ar where
 |d (x:PyData)
 |s (i:Nat)
abbrev DA:=DS->Option (List Ar×DS)
inductive Out where
 |nx (τ:DS)
 |bk (τ:DS)
 |ct (τ:DS)
 |rt (d:PyData) (τ:DS)
abbrev DB:=DS->Option Out
def Like(τ t7:DS):Prop:=t7.length=τ.length/\∀j:Nat,((∀x,t7[j]?=some (some (.d x))↔τ[j]?=some (some (.d x)))/\∀x,t7[j]?=some (some (.c x))↔τ[j]?=some (some (.c x)))/\∀b:Bool,(∃o:Ow,o.fl=b/\t7[j]?=some (some o.L))↔∃o:Ow,o.fl=b/\τ[j]?=some (some o.L)
theorem Like.refl{τ:DS}:Like τ τ:=⟨rfl,fun j=>⟨⟨fun x=>f9,fun x=>f9⟩,fun b=>f9⟩⟩
theorem Like.trans{τ t4 l7:DS}(a:Like τ t4)(b:Like t4 l7):Like τ l7:=⟨b.1.trans a.1,fun j=>⟨⟨fun x=>((b.2 j).1.1 x).trans ((a.2 j).1.1 x),fun x=>((b.2 j).1.2 x).trans ((a.2 j).1.2 x)⟩,fun c=>((b.2 j).2 c).trans ((a.2 j).2 c)⟩⟩
theorem Like.own{τ t7:DS}(a:Like τ t7)(j:Nat):(∃o:Ow,t7[j]?=some (some o.L))↔∃o:Ow,τ[j]?=some (some o.L) :=
 ⟨fun⟨o,h⟩=>let ⟨p,_,q⟩:=((a.2 j).2 o.fl).mp ⟨o,rfl,h⟩;⟨p,q⟩,fun⟨o,h⟩=>let ⟨p,_,q⟩:=((a.2 j).2 o.fl).mpr ⟨o,rfl,h⟩;⟨p,q⟩⟩
theorem Like.ml{τ t7:DS}(a:Like τ t7){j:Nat}{xs:List PyData}(h:t7[j]?=some (some (.m xs))):∃ys,τ[j]?=some (some (.m ys)):=by
 obtain⟨o,e,h⟩:=((a.2 j).2 true).mp ⟨.l xs,rfl,h⟩
 cases o with
 |l ys=>exact⟨ys,h⟩
 |t ys=>cases e
structure E K (t:TE) (fr:Bool) (f:DX):Prop where
 like:∀τ d t7,f τ=some (d,t7)->Like τ t7
 run:∀S M τ σ H (Q:VK) d t7,R K S M τ σ H->f τ=some (d,t7)->(∀v H',R K S M t7 σ H'->Chg M H H'->Res K fr S H H' d v->Q v H')->t σ H Q
structure T K (t:TT) (f:DT):Prop where
 like:∀τ b t7,f τ=some (b,t7)->Like τ t7
 run:∀S M τ σ H (Q:Bool->Hp->Prop) b t7,R K S M τ σ H->f τ=some (b,t7)->(∀H',R K S M t7 σ H'->Chg M H H'->Q b H')->t σ H Q
def WO(K:KW)(S:Addr->Prop)(σ:St)(H:Hp):List Ar->List V->Prop
 |[],vs=>vs=[]
 |.d x::rs,vs=>∃v us,vs=v::us/\Is K (hid S H) x v/\WO K S σ H rs us
 |.s i::rs,vs=>∃v us,vs=v::us/\σ[i]?=some (some v)/\WO K S σ H rs us
structure A K (t:TA) (f:DA):Prop where
 like:∀τ rs t7,f τ=some (rs,t7)->Like τ t7
 run:∀S M τ σ H (Q:List V->Hp->Prop) rs t7,R K S M τ σ H->f τ=some (rs,t7)->(∀vs H',R K S M t7 σ H'->Chg M H H'->WO K S σ H' rs vs->Q vs H')->t σ H Q
structure Frm where
 S:Addr->Prop
 M:Addr->Prop
 H:Hp
 ar:List (Option V)
structure RF(K:KW)(F:Frm)(S M:Addr->Prop)(τ:DS)(σ:St)(H:Hp):Prop where
 r:R K S M τ σ H
 sS:∀a,F.S a->S a
 old:∀b o,F.H b=some o->¬F.M b->H b=some o
 new:∀a,M a->F.M a\/F.H a=none
 fm:∀a,F.M a->M a
 fs:∀a,F.S a->∃o,F.H a=some o
 fsub:∀a,F.M a->F.S a
 snew:∀a,S a->F.S a\/F.H a=none
 par:∀(i:Nat) (v:V),F.ar[i]?=some (some v)->σ[i]?=some (some v)
 pm:∀(i:Nat) (v:V),F.ar[i]?=some (some v)->∃o:Ow,τ[i]?=some (some o.L)
 fma:∀a,F.M a->∃i:Nat,F.ar[i]?=some (some (.ref a))
def Gl(K:KW)(F:Frm)(fr:Bool)(S:Addr->Prop)(H:Hp)(D:Ly):Out->Prop
 |.nx t7=>∀S' M' σ' H',RF K F S' M' t7 σ' H'->Keep S H S' H'->D.nx σ' H'
 |.bk t7=>∀S' M' σ' H',RF K F S' M' t7 σ' H'->Keep S H S' H'->D.bk σ' H'
 |.ct t7=>∀S' M' σ' H',RF K F S' M' t7 σ' H'->Keep S H S' H'->D.ct σ' H'
 |.rt d t7=>∀S' M' σ' H' v,RF K F S' M' t7 σ' H'->Res K fr F.S F.H H' d v->D.rt v H'
def B(K:KW)(np:Nat)(t:TS)(fr:Bool)(f:DB):Prop:=∀(F:Frm) S M τ σ H (D:Ly) out,F.ar.length<=np->RF K F S M τ σ H->f τ=some out->Gl K F fr S H D out->t D σ H
variable {K:KW}
section
variable {S M:Addr->Prop} {τ t7:DS} {σ:St} {H H' H2:Hp}
theorem R.none(r:R K S M τ σ H')(c:Chg M H H'){a:Addr}(h:H' a=Option.none):H a=Option.none:=by
 cases e:H a with
 |none=>rfl
 |some o =>
  exfalso
  by_cases hm:M a
  ·obtain⟨o',e'⟩:=r.ex a (r.sub a hm)
   rw[h]at e';cases e'
  ·have:=c a o hm e
   rw[h]at this;cases this
theorem Res.back{fr:Bool}{d:PyData}{v:V}(h:Res K fr S H' H2 d v)(r:R K S M τ σ H')(c:Chg M H H'):Res K fr S H H2 d v:=by
 cases fr with
 |false=>exact h
 |true =>
  obtain⟨xs,a,vs,e1,e2,h1,h2,h3⟩:=h
  exact⟨xs,a,vs,e1,e2,r.none c h1,h2,h3⟩
theorem R.isr(r:R K S M τ σ H){fr:Bool}{d:PyData}{v:V}(h:Res K fr S H H' d v):Is K (hid S H') d v:=h.is fun _ z=>r.fresh z
end
theorem E.weak{t:TE}{fr:Bool}{f:DX}(h:E K t fr f):E K t false f:=⟨h.like,fun S M τ σ H Q d t7 r e q=>h.run S M τ σ H Q d t7 r e fun v H' r' c res=>q v H' r' c (r.isr res)⟩
def AB(i:Nat)(τ:DS):Option (PyData×DS):=match τ[i]? with
 |some (some (.d x))=>some (x,τ)
 |_=>none
theorem ak{i:Nat}:E K (ID i) false (AB i):=by
 refine⟨fun τ d t7 e=>?_,?_⟩
 ·unfold AB at e;split at e
  ·cases e;exact .refl
  ·cases e
 intro S M τ σ H Q d t7 r e q
 unfold AB at e
 split at e
 ·rename_i x hx
  cases e
  obtain⟨v,h1,h2⟩:=r.dat i _ hx
  exact⟨v,h1,q v H r .refl h2⟩
 ·cases e
def dC(d:PyData)(τ:DS):Option (PyData×DS):=some (d,τ)
theorem e_c{d:PyData}{v:V}(h:∀H,Is K H d v):E K (tC v) false (dC d):=by
 refine⟨fun τ d t7 e=>?_,?_⟩
 ·cases e;exact .refl
 intro S M τ σ H Q d' t7 r e q
 cases e
 exact q v H r .refl (h _)
theorem Wv{i:Int}:E K (tC (.int i)) false (dC (.int i)):=e_c fun _=>rfl
theorem dE{b:Bool}:E K (tC (.bl b)) false (dC (.bool b)):=e_c fun _=>rfl
theorem aq{x:Str}:E K (tC (.str x)) false (dC (.str x)):=e_c fun _=>rfl
theorem av:E K (tC .non) false (dC .none):=e_c fun _=>rfl
def OR(K:KW)(fr:Bool)(r:R2)(F:PyData->PyData->Option PyData):Prop:=∀(S:Addr->Prop) H x y dx dy d (Q:VK),(∀a,H a=none->¬S a)->Is K (hid S H) dx x->Is K (hid S H) dy y->F dx dy=some d->(∀v H',Same H H'->Res K fr S H H' d v->Q v H')->r x y H Q
def dOp(F:PyData->PyData->Option PyData)(a b:DX)(τ:DS):Option (PyData×DS):=(a τ).bind fun p=>(b p.2).bind fun q=>(F p.1 q.1).map fun d=>(d,q.2)
theorem Vj{fr fa fb:Bool}{r:R2}{F:PyData->PyData->Option PyData}{ta tb:TE}{a b:DX}(h:OR K fr r F)(ha:E K ta fa a)(hb:E K tb fb b):E K (tOp r ta tb) fr (dOp F a b):=by
 refine⟨fun τ d t7 e=>?_,?_⟩
 ·unfold dOp at e;obtain⟨⟨x,t4⟩,e1,e⟩:=oB e;obtain⟨⟨y,l7⟩,e2,e⟩:=oB e;obtain⟨z,e3,e⟩:=oM e;cases e;exact(ha.like _ _ _ e1).trans (hb.like _ _ _ e2)
 intro S M τ σ H Q d t7 rr e q
 unfold dOp at e
 obtain⟨⟨x,t4⟩,e1,e⟩:=oB e
 obtain⟨⟨y,l7⟩,e2,e⟩:=oB e
 obtain⟨z,e3,e⟩:=oM e
 cases e
 refine ha.run S M τ σ H _ x t4 rr e1 fun v1 H1 r1 c1 i1=>?_
 refine hb.run S M t4 σ H1 _ y l7 r1 e2 fun v2 H2 r2 c2 i2=>?_
 refine h S H2 v1 v2 x y d _ (fun _=>r2.fresh) ((rr.isr i1).mono (c2.keep r1.sub).same) (r1.isr i2) e3 fun v H' s res=>?_
 exact q v H' (r2.same s) ((c1.trans c2).trans (.of s)) (res.back r2 (c1.trans c2))
def UR(K:KW)(fr:Bool)(r:V->Hp->VK->Prop)(F:PyData->Option PyData):Prop:=∀(S:Addr->Prop) H x dx d (Q:VK),(∀a,H a=none->¬S a)->Is K (hid S H) dx x->F dx=some d->(∀v H',Same H H'->Res K fr S H H' d v->Q v H')->r x H Q
def dUn(F:PyData->Option PyData)(a:DX)(τ:DS):Option (PyData×DS):=(a τ).bind fun p=>(F p.1).map fun d=>(d,p.2)
theorem c6{fr fa:Bool}{r:V->Hp->VK->Prop}{F:PyData->Option PyData}{ta:TE}{a:DX}(h:UR K fr r F)(ha:E K ta fa a):E K (tUn r ta) fr (dUn F a):=by
 refine⟨fun τ d t7 e=>?_,?_⟩
 ·unfold dUn at e;obtain⟨⟨x,t4⟩,e1,e⟩:=oB e;obtain⟨z,e3,e⟩:=oM e;cases e;exact ha.like _ _ _ e1
 intro S M τ σ H Q d t7 rr e q
 unfold dUn at e
 obtain⟨⟨x,t4⟩,e1,e⟩:=oB e
 obtain⟨z,e3,e⟩:=oM e
 cases e
 refine ha.run S M τ σ H _ x _ rr e1 fun v1 H1 r1 c1 i1=>?_
 refine h S H1 v1 x d _ (fun _=>r1.fresh) (rr.isr i1) e3 fun v H' s res=>?_
 exact q v H' (r1.same s) (c1.trans (.of s)) (res.back r1 c1)
def fI(g:Int->Int->PyData):PyData->PyData->Option PyData
 |.int i,.int j=>some (g i j)
 |_,_=>none
def fC(C:Int->Int->Prop)[∀i j,Decidable (C i j)](g:Int->Int->PyData):PyData->PyData->Option PyData
 |.int i,.int j=>if C i j then some (g i j) else none
 |_,_=>none
theorem Vh{g:Int->Int->PyData}{x y d:PyData}(h:fI g x y=some d):∃i j,x = .int i/\y = .int j/\d=g i j:=by
 unfold fI at h
 split at h
 ·exact⟨_,_,rfl,rfl,(E' h).symm⟩
 ·cases h
theorem Vi{C:Int->Int->Prop}[∀i j,Decidable (C i j)]{g:Int->Int->PyData}{x y d:PyData}(h:fC C g x y=some d):∃i j,x = .int i/\y = .int j/\C i j/\d=g i j:=by
 unfold fC at h
 split at h
 ·split at h
  ·rename_i hc;exact⟨_,_,rfl,rfl,hc,(E' h).symm⟩
  ·cases h
 ·cases h
theorem RI{g:Int->Int->V}{g':Int->Int->PyData}(h:∀i j H,Is K H (g' i j) (g i j)):OR K false (rI0 g) (fI g'):=by
 intro S H x y dx dy d Q _ ix iy e q
 obtain⟨i,j,rfl,rfl,rfl⟩:=Vh e
 exact⟨i,j,ix,iy,q _ H (fun _ _ e=>e) (h _ _ _)⟩
theorem VH{C:Int->Int->Prop}[∀i j,Decidable (C i j)]{g:Int->Int->V}{g':Int->Int->PyData}(h:∀i j H,Is K H (g' i j) (g i j)):OR K false (rI C g) (fC C g'):=by
 intro S H x y dx dy d Q _ ix iy e q
 obtain⟨i,j,rfl,rfl,c,rfl⟩:=Vi e
 exact⟨i,j,ix,iy,c,q _ H (fun _ _ e=>e) (h _ _ _)⟩
instance {i j:Int}:Decidable (CMulB i j):=by unfold CMulB CMul Bd;infer_instance
instance {i j:Int}:Decidable (Ou i j):=by unfold Ou Bd;infer_instance
instance {i j:Int}:Decidable (Uj i j):=by unfold Uj;infer_instance
def Af:=fI fun i j=>.int (i+j)
def Am:=fI fun i j=>.int (i-j)
def An:=fC CMulB fun i j=>.int (i*j)
def Ag:=fC Ou fun i j=>.int (i / j)
def Ac:=fC (fun _ j=>0<j) fun i j=>.int (i % j)
def Rk:=fC Uj fun i j=>.int (i ^ j.toNat)
def fLt:=fI fun i j=>.bool (decide (i<j))
def fLe:=fI fun i j=>.bool (decide (i<=j))
def fGt:=fI fun i j=>.bool (decide (j<i))
def fGe:=fI fun i j=>.bool (decide (j<=i))
theorem aO:OR K false (rI0 fun i j=>.int (i+j)) Af:=RI fun _ _ _=>rfl
theorem aB:OR K false (rI0 fun i j=>.int (i-j)) Am:=RI fun _ _ _=>rfl
theorem aE:OR K false (rI CMulB fun i j=>.int (i*j)) An:=VH fun _ _ _=>rfl
theorem aM:OR K false (rI Ou fun i j=>.int (i / j)) Ag:=VH fun _ _ _=>rfl
theorem aF:OR K false (rI (fun _ j=>0<j) fun i j=>.int (i % j)) Ac:=VH fun _ _ _=>rfl
theorem aC:OR K false (rI Uj fun i j=>.int (i ^ j.toNat)) Rk:=VH fun _ _ _=>rfl
theorem cS:OR K false (rI0 fun i j=>.bl (decide (i<j))) fLt:=RI fun _ _ _=>rfl
theorem cW:OR K false (rI0 fun i j=>.bl (decide (i<=j))) fLe:=RI fun _ _ _=>rfl
theorem cX:OR K false (rI0 fun i j=>.bl (decide (j<i))) fGt:=RI fun _ _ _=>rfl
theorem cY:OR K false (rI0 fun i j=>.bl (decide (j<=i))) fGe:=RI fun _ _ _=>rfl
def Bm:PyData->Option PyData
 |.int i=>some (.int (-i))
 |_=>none
theorem ZZ:UR K false (rU fun i=>.int (-i)) Bm:=by
 intro S H x dx d Q _ ix e q
 unfold Bm at e
 split at e
 ·cases e;exact⟨_,ix,q _ H (fun _ _ e=>e) rfl⟩
 ·cases e
def fEq(x y:PyData):Option PyData:=if okD x&&okD y then some (.bool (PyData.eqv x y)) else none
def fNe(x y:PyData):Option PyData:=if okD x&&okD y then some (.bool (!PyData.eqv x y)) else none
theorem cZ:OR K false (Uw K) fEq:=by
 intro S H x y dx dy d Q _ ix iy e q
 unfold fEq at e
 split at e
 ·rename_i h
  rw[G']at h
  cases e
  exact⟨dx,dy,ix.mono same_hid,iy.mono same_hid,h.1,h.2,q _ H (fun _ _ e=>e) rfl⟩
 ·cases e
theorem cR:OR K false (Uu K) fNe:=by
 intro S H x y dx dy d Q _ ix iy e q
 unfold fNe at e
 split at e
 ·rename_i h
  rw[G']at h
  cases e
  exact⟨dx,dy,ix.mono same_hid,iy.mono same_hid,h.1,h.2,q _ H (fun _ _ e=>e) rfl⟩
 ·cases e
def fIn(neg:Bool)(x:PyData):PyData->Option PyData
 |.list es=>if okD x&&okD (.list es) then some (.bool (if neg then !(es.any fun y=>PyData.eqv y x) else es.any fun y=>PyData.eqv y x)) else none
 |.tuple es=>if okD x&&okD (.list es) then some (.bool (if neg then !(es.any fun y=>PyData.eqv y x) else es.any fun y=>PyData.eqv y x)) else none
 |_=>none
theorem aL{neg:Bool}:OR K false (O7 K neg) (fIn neg):=by
 intro S H x y dx dy d Q _ ix iy e q
 unfold fIn at e
 split at e
 ·split at e
  ·rename_i h
   rw[G']at h
   cases e
   exact⟨dx,_,ix.mono same_hid,.inl (iy.mono same_hid),h.1,h.2,q _ H (fun _ _ e=>e) rfl⟩
  ·cases e
 ·split at e
  ·rename_i h
   rw[G']at h
   cases e
   exact⟨dx,_,ix.mono same_hid,.inr (iy.mono same_hid),h.1,h.2,q _ H (fun _ _ e=>e) rfl⟩
  ·cases e
 ·cases e
def Lj:PyData->Bool
 |.none=>true
 |_=>false
def Cs(x y:PyData):Option PyData:=match y with
 |.none=>some (.bool (Lj x))
 |_=>none
def B6(x y:PyData):Option PyData:=match y with
 |.none=>some (.bool (!Lj x))
 |_=>none
theorem Tq{H:Hp}{x:PyData}{v:V}(h:Is K H x v):decide (v=V.non)=Lj x:=by
 cases x with
 |none=>rw[show v = .non from h];rfl
 |bool b=>rw[show v = .bl b from h];rfl
 |int b=>rw[show v = .int b from h];rfl
 |str b=>rw[show v = .str b from h];rfl
 |list b=>obtain⟨a,vs,rfl,_⟩:=h;rfl
 |tuple b=>obtain⟨a,vs,rfl,_⟩:=h;rfl
 |dict b=>obtain⟨a,ts,rfl,_⟩:=h;rfl
theorem aJ:OR K false (fun x y H Q=>y = .non/\Q (.bl (decide (x = .non))) H) Cs:=by
 intro S H x y dx dy d Q _ ix iy e q
 unfold Cs at e
 split at e
 ·cases e
  refine⟨iy,?_⟩
  rw[Tq ix]
  exact q _ H (fun _ _ e=>e) rfl
 ·cases e
theorem Xw:OR K false (fun x y H Q=>y = .non/\Q (.bl (!decide (x = .non))) H) B6:=by
 intro S H x y dx dy d Q _ ix iy e q
 unfold B6 at e
 split at e
 ·cases e
  refine⟨iy,?_⟩
  rw[Tq ix]
  exact q _ H (fun _ _ e=>e) rfl
 ·cases e
def FR:PyData->PyData->Option PyData
 |.list xs,.int i=>atI xs i
 |_,_=>none
def AK:PyData->PyData->Option PyData
 |.tuple xs,.int i=>atI xs i
 |_,_=>none
theorem Pe{H:Hp}{ds:List PyData}{vs:List V}{i:Int}{d:PyData}(h:IsL K H ds vs)(e:atI ds i=some d):∃v,atI vs i=some v/\Is K H d v:=by
 unfold atI at e ⊢
 rw[h.length]
 cases q:ixN ds.length i with
 |none=>rw[q]at e;cases e
 |some j =>
  rw[q]at e
  exact h.get (show ds[j]?=some d from e)
theorem aI:OR K false (Q9 K) FR:=by
 intro S H x y dx dy d Q _ ix iy e q
 unfold FR at e
 split at e
 ·obtain⟨a,vs,rfl,h,l⟩:=ix
  obtain⟨v,h1,h2⟩:=Pe l e
  exact⟨a,vs,_,v,rfl,iy,SqL.of (hid_iff.mp h).2,h1,q _ H (fun _ _ e=>e) h2⟩
 ·cases e
theorem aG:OR K false (Uv K) AK:=by
 intro S H x y dx dy d Q _ ix iy e q
 unfold AK at e
 split at e
 ·obtain⟨a,vs,rfl,h,l⟩:=ix
  obtain⟨v,h1,h2⟩:=Pe l e
  exact⟨a,vs,_,v,rfl,iy,Same.tup same_hid h,h1,q _ H (fun _ _ e=>e) h2⟩
 ·cases e
def Ro:PyData->PyData->Option PyData
 |.list xs,.list ys=>if xs.length+ys.length<=sizeLine then some (.list (xs++ys)) else none
 |_,_=>none
theorem Dl{H:Hp}:∀{xs ys:List PyData} {vs us:List V},IsL K H xs vs->IsL K H ys us->IsL K H (xs++ys) (vs++us)
 |[],_,_,_,h,k=>by rw[show _=[] from h];exact k
 |_::_,_,_,_,⟨x,xs,e,h,l⟩,k=>by subst e;exact⟨x,_,rfl,h,Dl l k⟩
theorem GL{S:Addr->Prop}{H:Hp}{xs:List PyData}{vs:List V}{p:Addr}(hp:H p=none)(l:IsL K (hid S H) xs vs):Res K true S H (upd H p (.lst vs)) (.list xs) (.ref p):=by
 refine⟨.l xs,p,_,rfl,rfl,hp,BB,vs,rfl,l.mono (Keep.same fun b o hn e=>?_)⟩
 have:b≠p:=Aw e hp
 exact⟨fun z=>z.elim hn this,by rw[BL this];exact e⟩
theorem aN:OR K true Zw Ro:=by
 intro S H x y dx dy d Q _ ix iy e q
 unfold Ro at e
 split at e
 ·split at e
  ·rename_i hz
   cases e
   obtain⟨a,vs,rfl,h,l⟩:=ix
   obtain⟨b,us,rfl,h',l'⟩:=iy
   refine⟨a,b,vs,us,rfl,rfl,(hid_iff.mp h).2,(hid_iff.mp h').2,by rw[l.length,l'.length];exact hz,fun p hp=>?_⟩
   exact q _ _ (Bc hp _) (GL hp (Dl l l'))
  ·cases e
 ·cases e
def AI(a:DX)(τ:DS):Option (Bool×DS):=(a τ).bind fun p=>match p.1 with
 |.bool b=>some (b,p.2)
 |_=>none
theorem ES{fr:Bool}{t:TE}{a:DX}(h:E K t fr a):T K (SH t) (AI a):=by
 refine⟨fun τ d t7 e=>?_,?_⟩
 ·unfold AI at e;obtain⟨⟨x,t4⟩,e1,e⟩:=oB e;dsimp only at e;split at e
  ·cases e;exact h.like _ _ _ e1
  ·cases e
 intro S M τ σ H Q b t7 r e q
 unfold AI at e
 obtain⟨⟨x,t4⟩,e1,e⟩:=oB e
 dsimp only at e
 split at e
 ·cases e
  refine h.run S M τ σ H _ _ _ r e1 fun v H' r' c i=>?_
  exact⟨b,(show v = .bl b from r.isr i),q H' r' c⟩
 ·cases e
theorem Zc{fr:Bool}{t:TE}{a:DX}(h:E K t fr a):T K (tB t) (AI a):=ES h
def Av(a b:DT)(τ:DS):Option (Bool×DS):=(a τ).bind fun p=>if p.1=true then b p.2 else some (false,p.2)
def FT(a b:DT)(τ:DS):Option (Bool×DS):=(a τ).bind fun p=>if p.1=true then some (true,p.2) else b p.2
def Bs(a:DT)(τ:DS):Option (Bool×DS):=(a τ).map fun p=>(!p.1,p.2)
theorem Zg{ta tb:TT}{a b:DT}(ha:T K ta a)(hb:T K tb b):T K (Zp ta tb) (Av a b):=by
 refine⟨fun τ d t7 e=>?_,?_⟩
 ·unfold Av at e;obtain⟨⟨c,t4⟩,e1,e⟩:=oB e;cases c with
  |true=>exact(ha.like _ _ _ e1).trans (hb.like _ _ _ e)
  |false=>cases e;exact ha.like _ _ _ e1
 intro S M τ σ H Q k t7 r e q
 unfold Av at e
 obtain⟨⟨c,t4⟩,e1,e⟩:=oB e
 refine ha.run S M τ σ H _ c t4 r e1 fun H1 r1 c1=>?_
 cases c with
 |true=>exact hb.run S M t4 σ H1 _ k t7 r1 e fun H2 r2 c2=>q H2 r2 (c1.trans c2)
 |false=>cases e;exact q H1 r1 c1
theorem cK{ta tb:TT}{a b:DT}(ha:T K ta a)(hb:T K tb b):T K (tOr ta tb) (FT a b):=by
 refine⟨fun τ d t7 e=>?_,?_⟩
 ·unfold FT at e;obtain⟨⟨c,t4⟩,e1,e⟩:=oB e;cases c with
  |false=>exact(ha.like _ _ _ e1).trans (hb.like _ _ _ e)
  |true=>cases e;exact ha.like _ _ _ e1
 intro S M τ σ H Q k t7 r e q
 unfold FT at e
 obtain⟨⟨c,t4⟩,e1,e⟩:=oB e
 refine ha.run S M τ σ H _ c t4 r e1 fun H1 r1 c1=>?_
 cases c with
 |false=>exact hb.run S M t4 σ H1 _ k t7 r1 e fun H2 r2 c2=>q H2 r2 (c1.trans c2)
 |true=>cases e;exact q H1 r1 c1
theorem Ze{ta:TT}{a:DT}(ha:T K ta a):T K (Zm ta) (Bs a):=by
 refine⟨fun τ d t7 e=>?_,?_⟩
 ·unfold Bs at e;obtain⟨⟨c,t4⟩,e1,e⟩:=oM e;cases e;exact ha.like _ _ _ e1
 intro S M τ σ H Q k t7 r e q
 unfold Bs at e
 obtain⟨⟨c,t4⟩,e1,e⟩:=oM e
 cases e
 exact ha.run S M τ σ H _ c _ r e1 fun H1 r1 c1=>q H1 r1 c1
def dIf(c:DT)(a b:DX)(τ:DS):Option (PyData×DS):=(c τ).bind fun p=>if p.1=true then a p.2 else b p.2
theorem a7{fr:Bool}{tc:TT}{ta tb:TE}{c:DT}{a b:DX}(hc:T K tc c)(ha:E K ta fr a)(hb:E K tb fr b):E K (tIf tc ta tb) fr (dIf c a b):=by
 refine⟨fun τ d t7 e=>?_,?_⟩
 ·unfold dIf at e;obtain⟨⟨c,t4⟩,e1,e⟩:=oB e;cases c with
  |true=>exact(hc.like _ _ _ e1).trans (ha.like _ _ _ e)
  |false=>exact(hc.like _ _ _ e1).trans (hb.like _ _ _ e)
 intro S M τ σ H Q d t7 r e q
 unfold dIf at e
 obtain⟨⟨k,t4⟩,e1,e⟩:=oB e
 refine hc.run S M τ σ H _ k t4 r e1 fun H1 r1 c1=>?_
 cases k with
 |true=>exact ha.run S M t4 σ H1 _ d t7 r1 e fun v H2 r2 c2 i=>q v H2 r2 (c1.trans c2) (i.back r1 c1)
 |false=>exact hb.run S M t4 σ H1 _ d t7 r1 e fun v H2 r2 c2 i=>q v H2 r2 (c1.trans c2) (i.back r1 c1)
def By(a b:DX)(τ:DS):Option (PyData×DS):=(AI a τ).bind fun p=>if p.1=true then b p.2 else some (.bool false,p.2)
def dOr(a b:DX)(τ:DS):Option (PyData×DS):=(AI a τ).bind fun p=>if p.1=true then some (.bool true,p.2) else b p.2
def Pq(a:DX)(τ:DS):Option (PyData×DS):=(AI a τ).map fun p=>(.bool (!p.1),p.2)
theorem bB{fa fb:Bool}{ta tb:TE}{a b:DX}(ha:E K ta fa a)(hb:E K tb fb b):E K (WZ ta tb) false (By a b):=by
 refine⟨fun τ d t7 e=>?_,?_⟩
 ·unfold By at e;obtain⟨⟨c,t4⟩,e1,e⟩:=oB e;cases c with
  |true=>exact((ES ha).like _ _ _ e1).trans (hb.like _ _ _ e)
  |false=>cases e;exact(ES ha).like _ _ _ e1
 intro S M τ σ H Q d t7 r e q
 unfold By at e
 obtain⟨⟨k,t4⟩,e1,e⟩:=oB e
 refine(ES ha).run S M τ σ H (fun c H1=>if c=true then tb σ H1 Q else Q (.bl false) H1) k t4 r e1 fun H1 r1 c1=>?_
 cases k with
 |true=>exact hb.weak.run S M t4 σ H1 _ d t7 r1 e fun v H2 r2 c2 i=>q v H2 r2 (c1.trans c2) i
 |false=>cases e;exact q _ H1 r1 c1 rfl
theorem c9{fa fb:Bool}{ta tb:TE}{a b:DX}(ha:E K ta fa a)(hb:E K tb fb b):E K (Zl ta tb) false (dOr a b):=by
 refine⟨fun τ d t7 e=>?_,?_⟩
 ·unfold dOr at e;obtain⟨⟨c,t4⟩,e1,e⟩:=oB e;cases c with
  |false=>exact((ES ha).like _ _ _ e1).trans (hb.like _ _ _ e)
  |true=>cases e;exact(ES ha).like _ _ _ e1
 intro S M τ σ H Q d t7 r e q
 unfold dOr at e
 obtain⟨⟨k,t4⟩,e1,e⟩:=oB e
 refine(ES ha).run S M τ σ H (fun c H1=>if c=true then Q (.bl true) H1 else tb σ H1 Q) k t4 r e1 fun H1 r1 c1=>?_
 cases k with
 |false=>exact hb.weak.run S M t4 σ H1 _ d t7 r1 e fun v H2 r2 c2 i=>q v H2 r2 (c1.trans c2) i
 |true=>cases e;exact q _ H1 r1 c1 rfl
def Aq(F G:PyData->PyData->Option PyData)(a b c:DX)(τ:DS):Option (PyData×DS):=(a τ).bind fun p=>(b p.2).bind fun q=>(F p.1 q.1).bind fun z=>match z with
 |.bool true=>(c q.2).bind fun s=>(G q.1 s.1).map fun d=>(d,s.2)
 |.bool false=>some (.bool false,q.2)
 |_=>none
theorem Qo{fa fb fc:Bool}{r r':R2}{F G:PyData->PyData->Option PyData}{ta tb tc:TE}{a b c:DX}(h:OR K false r F)(h':OR K false r' G)(ha:E K ta fa a)(hb:E K tb fb b)(hc:E K tc fc c):E K (O0 r r' ta tb tc) false (Aq F G a b c):=by
 refine⟨fun τ d t7 e=>?_,?_⟩
 ·unfold Aq at e;obtain⟨⟨x,t4⟩,e1,e⟩:=oB e;obtain⟨⟨y,l7⟩,e2,e⟩:=oB e;obtain⟨z,e3,e⟩:=oB e;split at e
  ·obtain⟨⟨w,p5⟩,e4,e⟩:=oB e;obtain⟨z,e5,e⟩:=oM e;cases e;exact((ha.like _ _ _ e1).trans (hb.like _ _ _ e2)).trans (hc.like _ _ _ e4)
  ·cases e;exact(ha.like _ _ _ e1).trans (hb.like _ _ _ e2)
  ·cases e
 intro S M τ σ H Q d t7 rr e q
 unfold Aq at e
 obtain⟨⟨x,t4⟩,e1,e⟩:=oB e
 obtain⟨⟨y,l7⟩,e2,e⟩:=oB e
 obtain⟨z,e3,e⟩:=oB e
 refine ha.run S M τ σ H _ x t4 rr e1 fun v1 H1 r1 c1 i1=>?_
 refine hb.run S M t4 σ H1 _ y l7 r1 e2 fun v2 H2 r2 c2 i2=>?_
 have j2:=r1.isr i2
 refine h S H2 v1 v2 x y z _ (fun _=>r2.fresh) ((rr.isr i1).mono (c2.keep r1.sub).same) j2 e3 fun v H3 s res=>?_
 have r3:=r2.same s
 have c3:Chg M H H3:=(c1.trans c2).trans (.of s)
 split at e
 ·obtain⟨⟨w,p5⟩,e4,e⟩:=oB e
  obtain⟨z,e5,e⟩:=oM e
  cases e
  refine⟨true,res,?_⟩
  refine hc.run S M l7 σ H3 _ w _ r3 e4 fun v4 H4 r4 c4 i4=>?_
  refine h' S H4 v2 v4 y w d _ (fun _=>r4.fresh) ((j2.mono (Same.keep s).same).mono (c4.keep r3.sub).same) (r3.isr i4) e5 fun v5 H5 s5 res5=>?_
  exact q v5 H5 (r4.same s5) ((c3.trans c4).trans (.of s5)) res5
 ·cases e
  exact⟨false,res,q _ H3 r3 c3 rfl⟩
 ·cases e
variable {K:KW}
def AD(τ:DS):Option (List Ar×DS):=some ([],τ)
def AA(a:DX)(r:DA)(τ:DS):Option (List Ar×DS):=(a τ).bind fun p=>(r p.2).map fun q=>(.d p.1::q.1,q.2)
theorem Wz:A K LO AD:=by
 refine⟨fun τ d t7 e=>?_,?_⟩
 ·cases e;exact .refl
 intro S M τ σ H Q rs t7 r e q
 cases e
 exact q [] H r .refl rfl
theorem ZQ{fr:Bool}{te:TE}{t:TA}{a:DX}{f:DA}(ha:E K te fr a)(hr:A K t f):A K (HG te t) (AA a f):=by
 refine⟨fun τ d t7 e=>?_,?_⟩
 ·unfold AA at e
  obtain⟨⟨x,t4⟩,e1,e⟩:=oB e
  obtain⟨⟨y,l7⟩,e2,e⟩:=oM e
  cases e
  exact(ha.like _ _ _ e1).trans (hr.like _ _ _ e2)
 intro S M τ σ H Q rs t7 r e q
 unfold AA at e
 obtain⟨⟨x,t4⟩,e1,e⟩:=oB e
 obtain⟨⟨y,l7⟩,e2,e⟩:=oM e
 cases e
 refine ha.run S M τ σ H _ x t4 r e1 fun v H1 r1 c1 i1=>?_
 refine hr.run S M t4 σ H1 _ y _ r1 e2 fun vs H2 r2 c2 i2=>?_
 exact q (v::vs) H2 r2 (c1.trans c2) ⟨v,vs,rfl,(r.isr i1).mono (c2.keep r1.sub).same,i2⟩
def BA:List Ar->Option (List PyData)
 |[]=>some []
 |.d x::r=>(BA r).map (x::·)
 |.s _::_=>none
theorem Dc{S:Addr->Prop}{σ:St}{H:Hp}:∀{rs:List Ar} {vs:List V} {ds:List PyData},WO K S σ H rs vs->BA rs=some ds->IsL K (hid S H) ds vs
 |[],_,_,h,e=>by cases e;exact h
 |.d x::r,_,_,⟨v,us,e1,h,l⟩,e=>by
  obtain⟨ds,e2,e⟩:=oM e
  cases e
  exact⟨v,us,e1,h,Dc l e2⟩
 |.s _::_,_,_,_,e=>by cases e
def AY(a:DA)(τ:DS):Option (PyData×DS):=(a τ).bind fun p=>(BA p.1).bind fun ds=>if ds.length<=sizeLine then some (.tuple ds,p.2) else none
def Bw(a:DA)(τ:DS):Option (PyData×DS):=(a τ).bind fun p=>(BA p.1).bind fun ds=>if ds.length<=sizeLine then some (.list ds,p.2) else none
theorem ao{t:TA}{a:DA}(ha:A K t a):E K (Zi t) false (AY a):=by
 refine⟨fun τ d t7 e=>?_,?_⟩
 ·unfold AY at e
  obtain⟨⟨x,t4⟩,e1,e⟩:=oB e
  obtain⟨ds,e2,e⟩:=oB e
  split at e
  ·cases e;exact ha.like _ _ _ e1
  ·cases e
 intro S M τ σ H Q d t7 r e q
 unfold AY at e
 obtain⟨⟨x,t4⟩,e1,e⟩:=oB e
 obtain⟨ds,e2,e⟩:=oB e
 split at e
 ·rename_i hz
  cases e
  refine ha.run S M τ σ H _ x _ r e1 fun vs H1 r1 c1 i1=>?_
  have l:=Dc i1 e2
  refine⟨by rw[l.length];exact hz,fun p hp=>?_⟩
  have s:=Bc hp (HO.tup vs)
  exact q _ _ (r1.same s) (c1.trans (.of s)) ⟨p,vs,rfl,SqT.of (hid_iff.mpr ⟨r1.fresh hp,BB⟩),l.mono (Same.keep s).same⟩
 ·cases e
theorem aw{t:TA}{a:DA}(ha:A K t a):E K (XA t) true (Bw a):=by
 refine⟨fun τ d t7 e=>?_,?_⟩
 ·unfold Bw at e
  obtain⟨⟨x,t4⟩,e1,e⟩:=oB e
  obtain⟨ds,e2,e⟩:=oB e
  split at e
  ·cases e;exact ha.like _ _ _ e1
  ·cases e
 intro S M τ σ H Q d t7 r e q
 unfold Bw at e
 obtain⟨⟨x,t4⟩,e1,e⟩:=oB e
 obtain⟨ds,e2,e⟩:=oB e
 split at e
 ·rename_i hz
  cases e
  refine ha.run S M τ σ H _ x _ r e1 fun vs H1 r1 c1 i1=>?_
  have l:=Dc i1 e2
  refine⟨by rw[l.length];exact hz,fun p hp=>?_⟩
  have s:=Bc hp (HO.lst vs)
  exact q _ _ (r1.same s) (c1.trans (.of s)) ((GL hp l).back r1 c1)
 ·cases e
def BR(K:KW)(fr:Bool)(r:List V->Hp->VK->Prop)(F:List PyData->Option PyData):Prop:=∀(S:Addr->Prop) H vs ds d (Q:VK),(∀a,H a=none->¬S a)->IsL K (hid S H) ds vs->F ds=some d->(∀v H',Same H H'->Res K fr S H H' d v->Q v H')->r vs H Q
def Ah(F:List PyData->Option PyData)(a:DA)(τ:DS):Option (PyData×DS):=(a τ).bind fun p=>(BA p.1).bind fun ds=>(F ds).map fun d=>(d,p.2)
theorem bA{fr:Bool}{r:List V->Hp->VK->Prop}{F:List PyData->Option PyData}{t:TA}{a:DA}(h:BR K fr r F)(ha:A K t a):E K (tCB r t) fr (Ah F a):=by
 refine⟨fun τ d t7 e=>?_,?_⟩
 ·unfold Ah at e
  obtain⟨⟨x,t4⟩,e1,e⟩:=oB e
  obtain⟨ds,e2,e⟩:=oB e
  obtain⟨z,e3,e⟩:=oM e
  cases e;exact ha.like _ _ _ e1
 intro S M τ σ H Q d t7 rr e q
 unfold Ah at e
 obtain⟨⟨x,t4⟩,e1,e⟩:=oB e
 obtain⟨ds,e2,e⟩:=oB e
 obtain⟨z,e3,e⟩:=oM e
 cases e
 refine ha.run S M τ σ H _ x _ rr e1 fun vs H1 r1 c1 i1=>?_
 refine h S H1 vs ds d _ (fun _=>r1.fresh) (Dc i1 e2) e3 fun v H' s res=>?_
 exact q v H' (r1.same s) (c1.trans (.of s)) (res.back r1 c1)
def spD(K:KW)(G:List L->Option (PyData×List L))(fr:Bool):Sp:=fun vs H Q _=>∃(S M:Addr->Prop) (ls:List L) (r:PyData) (ls':List L),R K S M (ls.map some) (vs.map some) H/\G ls=some (r,ls') /\
 ∀v H',R K S M (ls'.map some) (vs.map some) H'->Chg M H H'->Res K fr S H H' r v->Q v H'
theorem Sb{S M:Addr->Prop}{τ:DS}{σ:St}{H:Hp}(r:R K S M τ σ H){ds:List PyData}{vs:List V}(l:IsL K (hid S H) ds vs):R K S (fun _=>False) ((ds.map L.d).map some) (vs.map some) H where
 len:=by rw[B',B',B',l.length]
 dat:=fun i x e=>by
  rw[Z',Z']at e
  cases q:ds[i]? with
  |none=>rw[q]at e;cases e
  |some d =>
   rw[q]at e
   cases e
   obtain⟨v,h1,h2⟩:=l.get q
   exact⟨v,by rw[Z',h1];rfl,h2⟩
 mt:=fun i o e=>by
  rw[Z',Z']at e
  cases q:ds[i]? with
  |none=>rw[q]at e;cases e
  |some d=>rw[q]at e;cases o<;>cases e
 cst:=fun i xs e=>by
  rw[Z',Z']at e
  cases q:ds[i]? with
  |none=>rw[q]at e;cases e
  |some d=>rw[q]at e;cases e
 inj:=fun i j o p a e=>by
  rw[Z',Z']at e
  cases q:ds[i]? with
  |none=>rw[q]at e;cases e
  |some d=>rw[q]at e;cases o<;>cases e
 sub:=fun a h=>h.elim
 ex:=r.ex
 gr:=GR.nil fun i d e=>by
  rw[Z',Z']at e
  cases q:ds[i]? with
  |none=>rw[q]at e;cases e
  |some d=>rw[q]at e;cases e
def AH(G:List L->Option (PyData×List L))(a:DA)(τ:DS):Option (PyData×DS):=(a τ).bind fun p=>(BA p.1).bind fun ds=>(G (ds.map L.d)).map fun q=>(q.1,p.2)
theorem T9{fr:Bool}{G:List L->Option (PyData×List L)}{t:TA}{a:DA}{X:XK}(ha:A K t a):E K (Ii (spD K G fr) [] X t) fr (AH G a):=by
 refine⟨fun τ d t7 e=>?_,?_⟩
 ·unfold AH at e
  obtain⟨⟨x,t4⟩,e1,e⟩:=oB e
  obtain⟨ds,e2,e⟩:=oB e
  obtain⟨z,e3,e⟩:=oM e
  cases e;exact ha.like _ _ _ e1
 intro S M τ σ H Q d t7 rr e q
 unfold AH at e
 obtain⟨⟨x,t4⟩,e1,e⟩:=oB e
 obtain⟨ds,e2,e⟩:=oB e
 obtain⟨⟨z,ls'⟩,e3,e⟩:=oM e
 cases e
 refine ha.run S M τ σ H _ x _ rr e1 fun vs H1 r1 c1 i1=>?_
 have l:=Dc i1 e2
 show spD K G fr (vs++[]) H1 Q X
 rw[dz]
 refine⟨S,fun _=>False,ds.map L.d,_,ls',Sb r1 l,e3,fun v H' _ c res=>?_⟩
 have s:Same H1 H':=fun b o e=>c b o (fun z=>z) e
 exact q v H' (r1.same s) (c1.trans (.of s)) (res.back r1 c1)
theorem Jj{a b:Ow}(h:some (some a.L)=some (some b.L)):a=b:=Ow.inj (E' (E' h))
theorem R.setO{S M:Addr->Prop}{τ:DS}{σ:St}{H H':Hp}(r:R K S M τ σ H){i:Nat}{a:Addr}{w w':Ow}{h:HO}(hi:τ[i]?=some (some w.L))(ha:σ[i]?=some (some (.ref a)))
  (c:Chg (fun b=>b=a) H H') (h':H' a=some h) (l:IsO K (hid S H') w' a h):R K S M (τ.set i (some w'.L)) σ H':=by
 have hlt:i<τ.length:=(R'.mp hi).1
 have Sa:S a:=by
  obtain⟨b,us,h1,h2,_⟩:=r.mt i w hi
  rw[ha]at h1;cases h1
  exact r.sub _ h2
 have k:Keep S H S H':=c.keep fun b e=>by subst e;exact Sa
 have ne:∀j,j≠i->(τ.set i (some w'.L))[j]?=τ[j]?:=fun j hj=>dZ (Ne.symm hj)
 have se:(τ.set i (some w'.L))[i]?=some (some w'.L):=dX hlt
 refine⟨by rw[eK];exact r.len,fun j x e=>?_,fun j ys e=>?_,fun j x e=>?_,fun j1 j2 ys zs b e1 e2 f1 f2=>?_,r.sub,fun b hb=>?_,r.gr.to (fun j d e=>?_) (fun j o b e q=>?_) (fun b hb hn=>⟨hb,?_⟩) (tsS k.same)⟩
 ·by_cases hj:j=i
  ·subst hj;rw[se]at e;exact absurd (E' (E' e)) Ow.not_d
  ·rw[ne j hj]at e
   obtain⟨v,h1,h2⟩:=r.dat j x e
   exact⟨v,h1,h2.mono k.same⟩
 ·by_cases hj:j=i
  ·subst hj
   rw[se]at e
   obtain rfl:=Ow.inj (E' (E' e))
   obtain⟨b,us,h1,h2,_⟩:=r.mt j w hi
   rw[ha]at h1;cases h1
   exact⟨a,h,ha,h2,h',l⟩
  ·rw[ne j hj]at e
   obtain⟨b,us,h1,h2,h3,h4⟩:=r.mt j ys e
   refine⟨b,us,h1,h2,c b _ (fun z=>?_) h3,h4.mono k.same⟩
   subst z
   exact hj (r.inj j i ys w b e hi h1 ha)
 ·by_cases hj:j=i
  ·subst hj;rw[se]at e;exact absurd (E' (E' e)) Ow.not_c
  ·rw[ne j hj]at e
   obtain⟨b,us,h1,h2,h3⟩:=r.cst j x e
   exact⟨b,us,h1,k.same.seq h2,h3.mono k.same⟩
 ·have g:∀(j:Nat) (ys:Ow),(τ.set i (some w'.L))[j]?=some (some ys.L)->∃zs:Ow,τ[j]?=some (some zs.L):=fun j ys e=>by
   by_cases hj:j=i
   ·subst hj;exact⟨_,hi⟩
   ·rw[ne j hj]at e;exact⟨_,e⟩
  obtain⟨_,g1⟩:=g j1 ys e1
  obtain⟨_,g2⟩:=g j2 zs e2
  exact r.inj _ _ _ _ b g1 g2 f1 f2
 ·by_cases e:b=a
  ·subst e;exact⟨_,h'⟩
  ·obtain⟨o,q⟩:=r.ex b hb
   exact⟨o,c b o e q⟩
 ·by_cases hj:j=i
  ·subst hj;rw[se]at e;exact absurd (E' (E' e)) Ow.not_g
  ·rw[ne j hj]at e;exact⟨e,rfl⟩
 ·by_cases hj:j=i
  ·subst hj;exact .inl ⟨w,hi,q⟩
  ·rw[ne j hj]at e;exact .inl ⟨o,e,q⟩
 ·obtain⟨o,e⟩:=r.ex b (r.sub b hb)
  rw[e];exact c b o (fun z=>hn i w hi (by rw[z];exact ha)) e
theorem R.setM{S M:Addr->Prop}{τ:DS}{σ:St}{H H':Hp}(r:R K S M τ σ H){i:Nat}{a:Addr}{xs xs':List PyData}{vs:List V}(hi:τ[i]?=some (some (.m xs)))(ha:σ[i]?=some (some (.ref a)))
  (c:Chg (fun b=>b=a) H H') (h':H' a=some (.lst vs)) (l:IsL K (hid S H') xs' vs):R K S M (τ.set i (some (.m xs'))) σ H':=r.setO (w:=.l xs) (w':=.l xs') hi ha c h' ⟨vs,rfl,l⟩
theorem RU{τ:DS}{i:Nat}{w w':Ow}(hi:τ[i]?=some (some w.L))(hf:w.fl=w'.fl):Like τ (τ.set i (some w'.L)):=by
 have hlt:i<τ.length:=(R'.mp hi).1
 refine⟨by rw[eK],fun j=>?_⟩
 by_cases hj:j=i
 ·subst hj
  rw[dX hlt,hi]
  exact⟨⟨fun x=>⟨fun z=>absurd (E' (E' z)) Ow.not_d,fun z=>absurd (E' (E' z)) Ow.not_d⟩,fun x=>⟨fun z=>absurd (E' (E' z)) Ow.not_c,fun z=>absurd (E' (E' z)) Ow.not_c⟩⟩,fun b=>⟨fun⟨o,h1,h2⟩=>⟨w,by rw[hf,Jj h2];exact h1,rfl⟩,fun⟨o,h1,h2⟩=>⟨w',by rw[<- hf,Jj h2];exact h1,rfl⟩⟩⟩
 ·rw[dZ (Ne.symm hj)]
  exact⟨⟨fun x=>f9,fun x=>f9⟩,fun b=>f9⟩
theorem RV{τ:DS}{i:Nat}{xs xs':List PyData}(hi:τ[i]?=some (some (.m xs))):Like τ (τ.set i (some (.m xs'))):=RU (w:=.l xs) (w':=.l xs') hi rfl
def Gv(i:Nat)(G:List L->Option (PyData×List L))(a:DA)(τ:DS):Option (PyData×DS):=(a τ).bind fun p=>(BA p.1).bind fun ds=>match p.2[i]? with
 |some (some (.m xs))=>(G (.m xs::ds.map L.d)).bind fun q=>match q.2 with
  |.m xs'::_=>some (q.1,p.2.set i (some (.m xs')))
  |_=>none
 |some (some (.k xs))=>(G (.k xs::ds.map L.d)).bind fun q=>match q.2 with
  |.k xs'::_=>some (q.1,p.2.set i (some (.k xs')))
  |_=>none
 |_=>none
def okM:Option L->Bool
 |some (.m xs)=>fixDs xs
 |some (.k kvs)=>fixDs (kvs.map (·.2))
 |_=>true
theorem IsKV.monoT{H H':Hp}(s:TSm H H'):∀{kvs:List (List Int×PyData)} {ts:List (List Int×Addr×V)},fixDs (kvs.map (·.2))=true->IsKV K H (Lm kvs) ts->IsKV K H' (Lm kvs) ts
 |[],_,_,h=>h
 |(k,d)::kvs,_,f,⟨t,tr,e,ek,hk,h,l⟩=>by
  rw[U',fixDs,G']at f
  exact⟨t,tr,e,ek,s.tup hk,Is.monoT s f.1 h,IsKV.monoT s (kvs:=kvs) f.2 l⟩
theorem IsO.monoT{H H':Hp}(s:TSm H H'):∀{o:Ow} {a:Addr} {h:HO},okM (some o.L)=true->IsO K H o a h->IsO K H' o a h
 |.l _,_,_,f,⟨vs,e,l⟩=>⟨vs,e,l.monoT s f⟩
 |.t _,_,_,f,⟨ts,e,l⟩=>⟨ts,e,IsKV.monoT s f l⟩
def OwH(h:HO):Prop:=(∃vs,h = .lst vs)\/∃φ,h = .ext φ
theorem IsO.ho{H:Hp}:∀{o:Ow} {a:Addr} {h:HO},IsO K H o a h->OwH h
 |.l _,_,_,⟨vs,e,_⟩=>.inl ⟨vs,e⟩
 |.t _,_,_,⟨ts,⟨ep,e⟩,_⟩=>.inr ⟨_,e⟩
def DN(i:Nat)(f:DX)(τ:DS):Option (PyData×DS):=match τ[i]? with
 |some (some (.m xs))=>(f (τ.set i (some (.d (.list xs))))).bind fun q=>if Cz q.1&&q.2.all okM then some (q.1,q.2.set i (some (.m xs))) else none
 |some (some (.k xs))=>(f (τ.set i (some (.d (.dict (Lm xs)))))).bind fun q=>if Cz q.1&&q.2.all okM then some (q.1,q.2.set i (some (.k xs))) else none
 |_=>none
theorem ML{i:Nat}{f:DX}{τ:DS}{d:PyData}{t7:DS}(e:DN i f τ=some (d,t7)):∃w t4,τ[i]?=some (some (Ow.L w))/\f (τ.set i (some (.d w.D)))=some (d,t4)/\Cz d=true/\t4.all okM=true/\t7=t4.set i (some w.L):=by
 unfold DN at e
 split at e
 ·rename_i xs hx
  obtain⟨⟨z,t4⟩,e1,e⟩:=oB e
  dsimp only at e
  split at e
  ·rename_i h
   rw[G']at h
   cases e
   exact⟨.l xs,t4,hx,e1,h.1,h.2,rfl⟩
  ·cases e
 ·rename_i xs hx
  obtain⟨⟨z,t4⟩,e1,e⟩:=oB e
  dsimp only at e
  split at e
  ·rename_i h
   rw[G']at h
   cases e
   exact⟨.t xs,t4,hx,e1,h.1,h.2,rfl⟩
  ·cases e
 ·cases e
theorem GI{S S':Addr->Prop}{H:Hp}(h:∀a,S' a->S a\/∃o,H a=some o/\OwH o):TSm (hid S H) (hid S' H):=fun b o e nl ne=>by
 obtain⟨e1,e2⟩:=hid_iff.mp e
 refine hid_iff.mpr ⟨fun z=>?_,e2⟩
 rcases h b z with z|⟨o',z,⟨vs,rfl⟩|⟨φ,rfl⟩⟩
 ·exact e1 z
 ·rw[e2]at z;cases z;exact nl _ rfl
 ·rw[e2]at z;cases z;exact ne _ rfl
theorem frz{S M:Addr->Prop}{τ:DS}{σ:St}{H:Hp}(r:R K S M τ σ H){i:Nat}{w:Ow}{p:Addr}(hi:τ[i]?=some (some w.L))(hp:σ[i]?=some (some (.ref p))) :
  R K (fun b=>S b/\b≠p) (fun b=>M b/\b≠p) (τ.set i (some (.d w.D))) σ H:=by
 have hlt:i<τ.length:=(R'.mp hi).1
 have ne:∀j,j≠i->(τ.set i (some (.d w.D)))[j]?=τ[j]?:=fun j hj=>dZ (Ne.symm hj)
 have se:(τ.set i (some (.d w.D)))[i]?=some (some (.d w.D)):=dX hlt
 have k:Same (hid S H) (hid (fun b=>S b/\b≠p) H):=Ej fun a z=>z.1
 have mn:∀(j:Nat) (ys:Ow),(τ.set i (some (.d w.D)))[j]?=some (some ys.L)->j≠i/\τ[j]?=some (some ys.L):=fun j ys e=>by
  by_cases hj:j=i
  ·subst hj;rw[se]at e;exact absurd (E' (E' e)).symm Ow.not_d
  ·rw[ne j hj]at e;exact⟨hj,e⟩
 have cs:∀(j:Nat) (ys:List PyData),(τ.set i (some (.d w.D)))[j]?=some (some (.c ys))->τ[j]?=some (some (.c ys)):=fun j ys e=>by
  by_cases hj:j=i
  ·subst hj;rw[se]at e;cases e
  ·rw[ne j hj]at e;exact e
 refine⟨by rw[eK];exact r.len,fun j x e=>?_,fun j ys e=>?_,fun j ys e=>let ⟨a,vs,h1,h2,h3⟩:=r.cst j ys (cs j ys e);⟨a,vs,h1,k.seq h2,h3.mono k⟩,fun j1 j2 ys zs b e1 e2 f1 f2=>?_,fun a h=>⟨r.sub a h.1,h.2⟩,fun a h=>r.ex a h.1,r.gr.to (fun j d e=>?_) (fun j o b e q=>.inl ⟨o,(mn j o e).2,q⟩) (fun b hb hn=>⟨⟨hb,fun z=>hn i w hi (by rw[z];exact hp)⟩,rfl⟩) (tsS k)⟩
 ·by_cases hj:j=i
  ·subst hj
   rw[se]at e
   cases e
   obtain⟨b,us,h1,h2,h3,h4⟩:=r.mt j w hi
   rw[hp]at h1;cases h1
   exact⟨_,hp,IsO.is (h4.mono k) (hid_iff.mpr ⟨fun z=>z.2 rfl,h3⟩)⟩
  ·rw[ne j hj]at e
   obtain⟨v,h1,h2⟩:=r.dat j x e
   exact⟨v,h1,h2.mono k⟩
 ·obtain⟨hj,e⟩:=mn j ys e
  obtain⟨b,us,h1,h2,h3,h4⟩:=r.mt j ys e
  refine⟨b,us,h1,⟨h2,fun z=>?_⟩,h3,h4.mono k⟩
  subst z
  exact hj (r.inj j i ys w b e hi h1 hp)
 ·exact r.inj j1 j2 ys zs b (mn _ _ e1).2 (mn _ _ e2).2 f1 f2
 ·by_cases hj:j=i
  ·subst hj;rw[se]at e;cases e
  ·rw[ne j hj]at e;exact⟨e,rfl⟩
theorem R5{S M:Addr->Prop}{τ t4:DS}{σ:St}{H H':Hp}(r:R K S M τ σ H){i:Nat}{w:Ow}{p:Addr}(hi:τ[i]?=some (some w.L))(hp:σ[i]?=some (some (.ref p)))
  (r1:R K (fun b=>S b/\b≠p) (fun b=>M b/\b≠p) t4 σ H') (lk:Like (τ.set i (some (.d w.D))) t4) (c:Chg (fun b=>M b/\b≠p) H H') (ok:t4.all okM=true):R K S M (t4.set i (some w.L)) σ H':=by
 have hlt:i<τ.length:=(R'.mp hi).1
 have hl1:t4.length=τ.length:=by have:=lk.1;rw[eK]at this;exact this
 have hlt1:i<t4.length:=by omega
 have ne:∀j,j≠i->(t4.set i (some w.L))[j]?=t4[j]?:=fun j hj=>dZ (Ne.symm hj)
 have se:(t4.set i (some w.L))[i]?=some (some w.L):=dX hlt1
 have ne0:∀j,j≠i->(τ.set i (some (.d w.D)))[j]?=τ[j]?:=fun j hj=>dZ (Ne.symm hj)
 obtain⟨b0,us,hb0,h2,h3,h4⟩:=r.mt i w hi
 rw[hp]at hb0;cases hb0
 have h3':H' p=some us:=c p _ (fun z=>z.2 rfl) h3
 have c':Chg M H H':=fun b o hn e=>c b o (fun z=>hn z.1) e
 have k:Keep S H S H':=c'.keep r.sub
 have ts:TSm (hid (fun b=>S b/\b≠p) H') (hid S H'):=GI fun a z=>by
  by_cases e:a=p
  ·subst e;exact .inr ⟨_,h3',h4.ho⟩
  ·exact .inl ⟨z,e⟩
 have mm:∀(j:Nat) (ys:Ow),j≠i->t4[j]?=some (some ys.L)->∃zs:Ow,τ[j]?=some (some zs.L):=fun j ys hj e=>by
  obtain⟨zs,q⟩:=(lk.own j).mp ⟨_,e⟩
  rw[ne0 j hj]at q
  exact⟨zs,q⟩
 have cs:∀(j:Nat) (ys:List PyData),(t4.set i (some w.L))[j]?=some (some (.c ys))->τ[j]?=some (some (.c ys)):=fun j ys e=>by
  by_cases hj:j=i
  ·subst hj;rw[se]at e;exact absurd (E' (E' e)) Ow.not_c
  ·rw[ne j hj]at e
   have:=((lk.2 j).1.2 ys).mp e
   rw[ne0 j hj]at this
   exact this
 refine⟨by rw[eK];exact r1.len,fun j x e=>?_,fun j ys e=>?_,fun j ys e=>let ⟨a,vs,h1,h2,h3⟩:=r.cst j ys (cs j ys e);⟨a,vs,h1,k.same.seq h2,h3.mono k.same⟩,fun j1 j2 ys zs b e1 e2 f1 f2=>?_,r.sub,fun a h=>?_,r1.gr.to (fun j d e=>?_) (fun j o b e q=>?_) (fun b hb hn=>⟨hb.1,rfl⟩) ts⟩
 ·by_cases hj:j=i
  ·subst hj;rw[se]at e;exact absurd (E' (E' e)) Ow.not_d
  ·rw[ne j hj]at e
   have:=((lk.2 j).1.1 x).mp e
   rw[ne0 j hj]at this
   obtain⟨v,h5,h6⟩:=r.dat j x this
   exact⟨v,h5,h6.mono k.same⟩
 ·by_cases hj:j=i
  ·subst hj
   rw[se]at e
   obtain rfl:=Jj e
   exact⟨p,us,hp,h2,h3',h4.mono k.same⟩
  ·rw[ne j hj]at e
   obtain⟨b,ws,h5,h6,h7,h8⟩:=r1.mt j ys e
   have fx:okM (some ys.L)=true:=eS.mp ok (some ys.L) (du e)
   exact⟨b,ws,h5,h6.1,h7,h8.monoT ts fx⟩
 ·have g:∀(j:Nat) (ys:Ow),(t4.set i (some w.L))[j]?=some (some ys.L)->∃zs:Ow,τ[j]?=some (some zs.L):=fun j ys e=>by
   by_cases hj:j=i
   ·subst hj;exact⟨_,hi⟩
   ·rw[ne j hj]at e;exact mm j ys hj e
  obtain⟨_,g1⟩:=g j1 ys e1
  obtain⟨_,g2⟩:=g j2 zs e2
  exact r.inj _ _ _ _ b g1 g2 f1 f2
 ·by_cases e:a=p
  ·subst e;exact⟨_,h3'⟩
  ·exact r1.ex a ⟨h,e⟩
 ·by_cases hj:j=i
  ·subst hj;rw[se]at e;exact absurd (E' (E' e)) Ow.not_g
  ·rw[ne j hj]at e;exact⟨e,rfl⟩
 ·by_cases hj:j=i
  ·subst hj
   rw[hp]at q;cases q
   exact .inr fun z=>z.2 rfl
  ·rw[ne j hj]at e;exact .inl ⟨o,e,q⟩
theorem Kp{τ t4:DS}{i:Nat}{w:Ow}(hi:τ[i]?=some (some w.L))(lk:Like (τ.set i (some (.d w.D))) t4):Like τ (t4.set i (some w.L)):=by
 have hlt:i<τ.length:=(R'.mp hi).1
 have hl1:t4.length=τ.length:=by have:=lk.1;rw[eK]at this;exact this
 refine⟨by rw[eK];exact hl1,fun j=>?_⟩
 by_cases hj:j=i
 ·subst hj
  rw[dX (by omega),hi]
  exact⟨⟨fun x=>f9,fun x=>f9⟩,fun b=>f9⟩
 ·have:=lk.2 j
  rw[dZ (Ne.symm hj)]at this ⊢
  exact this
theorem a9{i:Nat}{fr:Bool}{t:TE}{f:DX}(h:E K t fr f):E K t false (DN i f):=by
 refine⟨fun τ d t7 e=>?_,?_⟩
 ·obtain⟨xs,t4,e1,e2,_,_,rfl⟩:=ML e
  exact Kp e1 (h.like _ _ _ e2)
 intro S M τ σ H Q d t7 r e q
 obtain⟨xs,t4,e1,e2,fx,ok,rfl⟩:=ML e
 obtain⟨p,us,hp,hM,hl,ll⟩:=r.mt i xs e1
 refine h.weak.run _ _ _ σ H _ d t4 (frz r e1 hp) e2 fun v H' r' c res=>?_
 have r2:=R5 r e1 hp r' (h.like _ _ _ e2) c ok
 refine q v H' r2 (fun b o hn e=>c b o (fun z=>hn z.1) e) ?_
 have h3':H' p=some us:=c p _ (fun z=>z.2 rfl) hl
 exact Is.monoT (GI fun a z => by
  by_cases e:a=p
  ·subst e;exact .inr ⟨_,h3',ll.ho⟩
  ·exact .inl ⟨z,e⟩) fx (show Is K (hid (fun b=>S b/\b≠p) H') d v from res)
def EJ(i:Nat)(f:DX)(τ:DS):Option (PyData×DS):=match τ[i]? with
 |some (some (.m xs))=>(f (τ.set i (some (.d (.list xs))))).bind fun q=>match q.1 with
  |.list ys=>if fixDs ys&&q.2.all okM then some (q.1,q.2.set i (some (.m xs))) else none
  |_=>none
 |some (some (.k xs))=>(f (τ.set i (some (.d (.dict (Lm xs)))))).bind fun q=>match q.1 with
  |.list ys=>if fixDs ys&&q.2.all okM then some (q.1,q.2.set i (some (.k xs))) else none
  |_=>none
 |_=>none
theorem K6{i:Nat}{f:DX}{τ:DS}{d:PyData}{t7:DS}(e:EJ i f τ=some (d,t7)):∃w t4 ys,τ[i]?=some (some (Ow.L w))/\f (τ.set i (some (.d w.D)))=some (d,t4)/\d = .list ys/\fixDs ys=true/\t4.all okM=true/\t7=t4.set i (some w.L):=by
 unfold EJ at e
 split at e
 ·rename_i xs hx
  obtain⟨⟨z,t4⟩,e1,e⟩:=oB e
  dsimp only at e
  split at e
  ·split at e
   ·rename_i h
    rw[G']at h
    cases e
    exact⟨.l xs,t4,_,hx,e1,rfl,h.1,h.2,rfl⟩
   ·cases e
  ·cases e
 ·rename_i xs hx
  obtain⟨⟨z,t4⟩,e1,e⟩:=oB e
  dsimp only at e
  split at e
  ·split at e
   ·rename_i h
    rw[G']at h
    cases e
    exact⟨.t xs,t4,_,hx,e1,rfl,h.1,h.2,rfl⟩
   ·cases e
  ·cases e
 ·cases e
theorem Ow.D_list{o:Ow}{ys:List PyData}(h:PyData.list ys=o.D):o = .l ys:=by
 cases o with
 |l xs=>cases h;rfl
 |t kvs=>cases h
theorem YL{i:Nat}{t:TE}{f:DX}(h:E K t true f):E K t true (EJ i f):=by
 refine⟨fun τ d t7 e=>?_,?_⟩
 ·obtain⟨xs,t4,ys,e1,e2,_,_,_,rfl⟩:=K6 e
  exact Kp e1 (h.like _ _ _ e2)
 intro S M τ σ H Q d t7 r e q
 obtain⟨xs,t4,ys,e1,e2,rfl,fx,ok,rfl⟩:=K6 e
 obtain⟨p,us,hp,hM,hl,ll⟩:=r.mt i xs e1
 refine h.run _ _ _ σ H _ _ t4 (frz r e1 hp) e2 fun v H' r' c res=>?_
 have r2:=R5 r e1 hp r' (h.like _ _ _ e2) c ok
 refine q v H' r2 (fun b o hn e=>c b o (fun z=>hn z.1) e) ?_
 have h3':H' p=some us:=c p _ (fun z=>z.2 rfl) hl
 obtain⟨o,a,vs,e3,rfl,h5,h6,h7⟩:=res
 obtain rfl:=Ow.D_list e3
 refine⟨.l ys,a,vs,rfl,rfl,h5,h6,IsO.monoT (GI fun b z=>?_) fx h7⟩
 rcases z with z|z
 ·by_cases e:b=p
  ·subst e;exact .inr ⟨_,h3',ll.ho⟩
  ·exact .inl (.inl ⟨z,e⟩)
 ·exact .inl (.inr z)
variable {K:KW}
def cI(K:KW)(S:Addr->Prop)(J:It)(H:Hp)(ds:List PyData):Prop:=∀(S2:Addr->Prop) (H2:Hp),Keep S H S2 H2->(∀(i:Nat) (d:PyData),ds[i]?=some d->J.go i H2/\∀x H3,J.yld i H2 x H3->H3=H2/\Is K (hid S2 H2) d x)/\∀i,ds.length<=i->J.stop i H2
abbrev DI:=DS->Option (List PyData×DS)
structure IT(K:KW)(wi:TI)(f:DI):Prop where
 like:∀τ ds t7,f τ=some (ds,t7)->Like τ t7
 run:∀S M τ σ H (Q:It->Hp->Prop) ds t7,R K S M τ σ H->f τ=some (ds,t7)->(∀J H',R K S M t7 σ H'->Chg M H H'->cI K S J H' ds->Q J H')->wi σ H Q
def dIL(f:DX)(τ:DS):Option (List PyData×DS):=(f τ).bind fun p=>match p.1 with
 |.list ds=>some (ds,p.2)
 |_=>none
def dIT(f:DX)(τ:DS):Option (List PyData×DS):=(f τ).bind fun p=>match p.1 with
 |.tuple ds=>some (ds,p.2)
 |_=>none
theorem VZ{fr:Bool}{t:TE}{f:DX}(h:E K t fr f):IT K (Qk K t) (dIL f):=by
 refine⟨fun τ d t7 e=>?_,?_⟩
 ·unfold dIL at e
  obtain⟨⟨x,t4⟩,e1,e⟩:=oB e
  dsimp only at e
  split at e
  ·cases e;exact h.like _ _ _ e1
  ·cases e
 intro S M τ σ H Q ds t7 r e q
 unfold dIL at e
 obtain⟨⟨x,t4⟩,e1,e⟩:=oB e
 dsimp only at e
 split at e
 ·cases e
  refine h.weak.run S M τ σ H _ _ _ r e1 fun v H1 r1 c1 i1=>?_
  have i1':Is K (hid S H1) (.list ds) v:=i1
  obtain⟨a,vs,rfl,hl,ll⟩:=i1'
  refine⟨a,rfl,⟨vs,SqL.of (hid_iff.mp hl).2⟩,q _ H1 r1 c1 fun S2 H2 k=>?_⟩
  have hl2:=k.same _ _ hl
  have ll2:=ll.mono k.same
  refine⟨fun i d e=>?_,fun i hi=>⟨vs,SqL.of (hid_iff.mp hl2).2,by rw[ll.length];exact hi⟩⟩
  obtain⟨u,h1,h2⟩:=ll2.get e
  refine⟨⟨vs,u,SqL.of (hid_iff.mp hl2).2,h1⟩,fun x H3 y=>⟨y.1,?_⟩⟩
  have:=y.2 vs (SqL.of (hid_iff.mp hl2).2)
  rw[h1]at this;cases this
  exact h2
 ·cases e
def Fi(lo:Int)(n:Nat):List PyData:=(List.range n).map fun(k:Nat)=>PyData.int (lo+(k:Int))
theorem SY{S:Addr->Prop}{H:Hp}{lo:Int}{n:Nat}:cI K S (Itr lo n) H (Fi lo n):=by
 intro S2 H2 k
 refine⟨fun i d e=>?_,fun i hi=>?_⟩
 ·unfold Fi at e
  rw[Z']at e
  by_cases hi:i<n
  ·rw[List.getElem?_range hi]at e
   cases e
   exact⟨hi,fun x H3 y=>⟨y.1,y.2⟩⟩
  ·rw[gD (by simpa using hi)]at e
   cases e
 ·unfold Fi at hi
  rw[B',eW]at hi
  exact hi
def dR1(a:DA)(τ:DS):Option (List PyData×DS):=(a τ).bind fun p=>(BA p.1).bind fun ds=>match ds with
 |[.int j]=>if -(2 ^ 62)<=j/\j<2 ^ 62 then some (Fi 0 j.toNat,p.2) else none
 |_=>none
def dR2(a:DA)(τ:DS):Option (List PyData×DS):=(a τ).bind fun p=>(BA p.1).bind fun ds=>match ds with
 |[.int i,.int j]=>if -(2 ^ 62)<=i/\i<2 ^ 62/\-(2 ^ 62)<=j/\j<2 ^ 62 then some (Fi i (j-i).toNat,p.2) else none
 |_=>none
theorem Ra{t:TA}{a:DA}(ha:A K t a):IT K (Wl t) (dR1 a):=by
 refine⟨fun τ d t7 e=>?_,?_⟩
 ·unfold dR1 at e
  obtain⟨⟨x,t4⟩,e1,e⟩:=oB e
  obtain⟨ds,e2,e⟩:=oB e
  split at e
  ·split at e
   ·cases e;exact ha.like _ _ _ e1
   ·cases e
  ·cases e
 intro S M τ σ H Q ds t7 r e q
 unfold dR1 at e
 obtain⟨⟨x,t4⟩,e1,e⟩:=oB e
 obtain⟨ds',e2,e⟩:=oB e
 split at e
 ·split at e
  ·rename_i j hj
   cases e
   refine ha.run S M τ σ H _ x _ r e1 fun vs H1 r1 c1 i1=>?_
   obtain⟨v,us,rfl,iv,iu⟩:=Dc i1 e2
   cases (show us=[] from iu)
   exact⟨j,by rw[show v = .int j from iv],hj.1,hj.2,q _ H1 r1 c1 SY⟩
  ·cases e
 ·cases e
abbrev DG:=PyData->DS->Option DS
def MSame(τ t7:DS):Prop:=t7.length=τ.length/\∀(j:Nat) (o:Ow),t7[j]?=some (some o.L)↔τ[j]?=some (some o.L)
theorem MSame.refl{τ:DS}:MSame τ τ:=⟨rfl,fun _ _=>f9⟩
theorem MSame.trans{τ t4 l7:DS}(a:MSame τ t4)(b:MSame t4 l7):MSame τ l7:=⟨b.1.trans a.1,fun j xs=>(b.2 j xs).trans (a.2 j xs)⟩
structure TG1 K (g:TG) (f:DG):Prop where
 ms:∀d τ t7,f d τ=some t7->MSame τ t7
 run:∀S M τ σ H v d t7 (Q:St->Hp->Prop),R K S M τ σ H->Is K (hid S H) d v->f d τ=some t7->(∀σ',R K S M t7 σ' H->(∀(j:Nat) (o:Ow),τ[j]?=some (some o.L)->σ'[j]?=σ[j]?)->Q σ' H)->g v σ H Q
structure TG2 K (g:TGs) (f:List PyData->DS->Option DS):Prop where
 ms:∀d τ t7,f d τ=some t7->MSame τ t7
 run:∀S M τ σ H vs ds t7 (Q:St->Hp->Prop),R K S M τ σ H->IsL K (hid S H) ds vs->f ds τ=some t7->(∀σ',R K S M t7 σ' H->(∀(j:Nat) (o:Ow),τ[j]?=some (some o.L)->σ'[j]?=σ[j]?)->Q σ' H)->g vs σ H Q
def dN(i:Nat)(d:PyData)(τ:DS):Option DS:=match τ[i]? with
 |some (some (.m _))=>none
 |some (some (.k _))=>none
 |some _=>some (τ.set i (some (.d d)))
 |none=>none
theorem Qq{i:Nat}{d:PyData}{τ t7:DS}(e:dN i d τ=some t7):i<τ.length/\(∀o:Ow,τ[i]?≠some (some o.L))/\t7=τ.set i (some (.d d)):=by
 unfold dN at e
 split at e
 ·cases e
 ·cases e
 ·rename_i o hn hk ho
  cases e
  refine⟨(R'.mp ho).1,fun xs z=>?_,rfl⟩
  rw[ho]at z
  cases xs with
  |l xs=>exact hn xs (E' z)
  |t xs=>exact hk xs (E' z)
 ·cases e
theorem R.setD{S M:Addr->Prop}{τ:DS}{σ:St}{H:Hp}(r:R K S M τ σ H){i:Nat}{d:PyData}{v:V}(hi:i<τ.length)(hm:∀o:Ow,τ[i]?≠some (some o.L))(iv:Is K (hid S H) d v):R K S M (τ.set i (some (.d d))) (σ.set i (some v)) H:=by
 have hs:i<σ.length:=by rw[r.len];exact hi
 have ne:∀j,j≠i->(τ.set i (some (.d d)))[j]?=τ[j]?:=fun j hj=>dZ (Ne.symm hj)
 have ne':∀j,j≠i->(σ.set i (some v))[j]?=σ[j]?:=fun j hj=>dZ (Ne.symm hj)
 have mn:∀(j:Nat) (ys:Ow),(τ.set i (some (.d d)))[j]?=some (some ys.L)->j≠i/\τ[j]?=some (some ys.L):=fun j ys e=>by
  by_cases hj:j=i
  ·subst hj;rw[dX hi]at e;exact absurd (E' (E' e)).symm Ow.not_d
  ·rw[ne j hj]at e;exact⟨hj,e⟩
 refine⟨by rw[eK,eK];exact r.len,fun j x e=>?_,fun j xs e=>?_,fun j xs e=>?_,fun j1 j2 ys zs b e1 e2 f1 f2=>?_,r.sub,r.ex,r.gr.to (fun j x e=>?_) (fun j o b e q=>.inl ⟨o,(mn j o e).2,by rw[ne' j (mn j o e).1]at q;exact q⟩) (fun b hb hn=>⟨hb,rfl⟩) .refl⟩
 ·by_cases hj:j=i
  ·subst hj
   rw[dX hi]at e
   cases e
   exact⟨v,dX hs,iv⟩
  ·rw[ne j hj]at e
   rw[ne' j hj]
   exact r.dat j x e
 ·obtain⟨hj,e⟩:=mn j xs e
  rw[ne' j hj]
  exact r.mt j xs e
 ·by_cases hj:j=i
  ·subst hj;rw[dX hi]at e;cases e
  ·rw[ne j hj]at e
   rw[ne' j hj]
   exact r.cst j xs e
 ·obtain⟨h1,e1⟩:=mn j1 ys e1
  obtain⟨h2,e2⟩:=mn j2 zs e2
  rw[ne' _ h1]at f1
  rw[ne' _ h2]at f2
  exact r.inj _ _ _ _ b e1 e2 f1 f2
 ·by_cases hj:j=i
  ·subst hj;rw[dX hi]at e;cases e
  ·rw[ne j hj]at e;exact⟨e,ne' j hj⟩
theorem VS{τ:DS}{i:Nat}{d:PyData}(hi:i<τ.length)(hm:∀o:Ow,τ[i]?≠some (some o.L)):MSame τ (τ.set i (some (.d d))):=by
 refine⟨by rw[eK],fun j xs=>?_⟩
 by_cases hj:j=i
 ·subst hj
  rw[dX hi]
  exact⟨fun z=>absurd (E' (E' z)).symm Ow.not_d,fun z=>absurd z (hm xs)⟩
 ·rw[dZ (Ne.symm hj)]
theorem Gp{i:Nat}:TG1 K (JN i) (dN i):=by
 refine⟨fun d τ t7 e=>?_,?_⟩
 ·obtain⟨h1,h2,rfl⟩:=Qq e
  exact VS h1 h2
 intro S M τ σ H v d t7 Q r iv e q
 obtain⟨h1,h2,rfl⟩:=Qq e
 refine q _ (r.setD h1 h2 iv) fun j xs ej=>?_
 have:j≠i:=fun z=>h2 xs (by rw[<- z];exact ej)
 exact dZ (Ne.symm this)
def A0:List PyData->DS->Option DS
 |[],τ=>some τ
 |_::_,_=>none
def AW(f:DG)(g:List PyData->DS->Option DS):List PyData->DS->Option DS
 |d::ds,τ=>(f d τ).bind fun t4=>g ds t4
 |[],_=>none
theorem YC:TG2 K af A0:=by
 refine⟨fun d τ t7 e=>?_,?_⟩
 ·cases d with
  |nil=>cases e;exact .refl
  |cons _ _=>cases e
 intro S M τ σ H vs ds t7 Q r iv e q
 cases ds with
 |nil=>cases e;exact⟨iv,q σ r fun _ _ _=>rfl⟩
 |cons _ _=>cases e
theorem Ve{t:TG}{u:TGs}{f:DG}{g:List PyData->DS->Option DS}(h1:TG1 K t f)(h2:TG2 K u g):TG2 K (Ws t u) (AW f g):=by
 refine⟨fun d τ t7 e=>?_,?_⟩
 ·cases d with
  |nil=>cases e
  |cons d ds =>
   obtain⟨t4,e1,e⟩:=oB e
   exact(h1.ms _ _ _ e1).trans (h2.ms _ _ _ e)
 intro S M τ σ H vs ds t7 Q r iv e q
 cases ds with
 |nil=>cases e
 |cons d ds =>
  obtain⟨t4,e1,e⟩:=oB e
  obtain⟨v,us,rfl,iv,iu⟩:=iv
  refine⟨v,us,rfl,h1.run S M τ σ H v d t4 _ r iv e1 fun σ1 r1 k1=>?_⟩
  refine h2.run S M t4 σ1 H us ds t7 _ r1 iu e fun σ2 r2 k2=>?_
  refine q σ2 r2 fun j xs hj=>?_
  rw[k2 j xs (((h1.ms _ _ _ e1).2 j xs).mpr hj),k1 j xs hj]
def dGT(g:List PyData->DS->Option DS)(d:PyData)(τ:DS):Option DS:=match d with
 |.tuple ds=>g ds τ
 |_=>none
theorem ae{n:Nat}{u:TGs}{g:List PyData->DS->Option DS}(h:TG2 K u g)(hn:∀ds τ t7,g ds τ=some t7->ds.length=n):TG1 K (Vf K n u) (dGT g):=by
 refine⟨fun d τ t7 e=>?_,?_⟩
 ·unfold dGT at e
  split at e
  ·exact h.ms _ _ _ e
  ·cases e
 intro S M τ σ H v d t7 Q r iv e q
 unfold dGT at e
 split at e
 ·obtain⟨a,vs,rfl,hl,ll⟩:=iv
  exact⟨a,vs,rfl,Same.tup same_hid hl,by rw[ll.length];exact hn _ _ _ e,h.run S M τ σ H vs _ t7 Q r ll e q⟩
 ·cases e
theorem QW:∀(ds:List PyData) (τ t7:DS),A0 ds τ=some t7->ds.length=0
 |[],_,_,_=>rfl
 |_::_,_,_,e=>by cases e
theorem OF{n:Nat}{f:DG}{g:List PyData->DS->Option DS}(h:∀ds τ t7,g ds τ=some t7->ds.length=n):∀(ds:List PyData) (τ t7:DS),AW f g ds τ=some t7->ds.length=n+1
 |[],_,_,e=>by cases e
 |d::ds,τ,t7,e=>by
  obtain⟨t4,e1,e⟩:=oB e
  rw[X',h _ _ _ e]
def C5(g:DG)(c:DT)(e:DX):List PyData->List PyData->DS->Option (List PyData×DS)
 |[],acc,τ=>some (acc,τ)
 |d::ds,acc,τ=>(g d τ).bind fun t4=>(c t4).bind fun p=>if p.1=true then (e p.2).bind fun q=>C5 g c e ds (acc++[q.1]) q.2 else C5 g c e ds acc p.2
def noG:Option L->Option L
 |some (.g _)=>none
 |o=>o
def LA(own:Nat)(fr:List Nat)(τ:DS):DS:=List.replicate own none++fr.map fun j=>noG (τ[j]?).join
theorem OA{o:Option L}{l:L}(h:noG o=some l):o=some l/\∀x,l≠.g x:=by
 unfold noG at h
 split at h
 ·cases h
 ·rename_i hn
  exact⟨h,fun x z=>hn x (by rw[h,z])⟩
def isM(τ:DS)(j:Nat):Bool:=match τ[j]? with
 |some (some (.m _))=>true
 |some (some (.k _))=>true
 |_=>false
theorem isM_iff{τ:DS}{j:Nat}:isM τ j=true↔∃o:Ow,τ[j]?=some (some o.L):=by
 unfold isM
 split
 ·rename_i xs h;exact⟨fun _=>⟨.l xs,h⟩,fun _=>rfl⟩
 ·rename_i xs h;exact⟨fun _=>⟨.t xs,h⟩,fun _=>rfl⟩
 ·rename_i h1 h2
  exact ⟨fun z => (nomatch z), fun ⟨o, z⟩ => by
   cases o with
   |l xs=>exact absurd z (h1 xs)
   |t xs=>exact absurd z (h2 xs)⟩
def dLC(own:Nat)(fr:List Nat)(it:DI)(g:DG)(c:DT)(e:DX)(τ:DS):Option (PyData×DS):=(it τ).bind fun p=>if p.1.length<=sizeLine/\(fr.all fun j=>!isM p.2 j)=true then (C5 g c e p.1 [] (LA own fr p.2)).map fun q=>(.list q.1,p.2) else none
theorem Hy{own:Nat}{fr:List Nat}{τ:DS}{i:Nat}{l:L}(h:(LA own fr τ)[i]?=some (some l)):∃k j,i=own+k/\fr[k]?=some j/\τ[j]?=some (some l):=by
 unfold LA at h
 by_cases hi:i<own
 ·rw[dw (by simpa using hi),eX,if_pos hi]at h
  cases h
 ·rw[dh (by simpa using hi),fK,Z']at h
  cases e:fr[i-own]? with
  |none=>rw[e]at h;cases h
  |some j =>
   rw[e]at h
   simp only[Option.map_some,Option.some.injEq]at h
   refine⟨i-own,j,by omega,e,?_⟩
   replace h:=(OA h).1
   cases q:τ[j]? with
   |none=>rw[q]at h;cases h
   |some o=>rw[q]at h;cases o with
    |none=>cases h
    |some u=>cases h;rfl
theorem ZG{own:Nat}{fr:List Nat}{τ:DS}(i:Nat)(d:PyData):(LA own fr τ)[i]?≠some (some (.g d)):=fun h=>by
 unfold LA at h
 by_cases hi:i<own
 ·rw[dw (by simpa using hi),eX,if_pos hi]at h
  cases h
 ·rw[dh (by simpa using hi),fK,Z']at h
  cases e:fr[i-own]? with
  |none=>rw[e]at h;cases h
  |some j =>
   rw[e]at h
   simp only[Option.map_some,Option.some.injEq]at h
   exact(OA h).2 d rfl
theorem UU{own:Nat}{fr:List Nat}{σ:St}{k j:Nat}{v:V}(e:fr[k]?=some j)(h:σ[j]?=some (some v)):(blk own fr σ)[own+k]?=some (some v):=by
 unfold blk
 rw[dh (by simp),fK,Z',show own+k-own=k by omega,e]
 show some (σ[j]?).join=_
 rw[h];rfl
theorem OL{H:Hp}{xs:List PyData}{vs:List V}{d:PyData}{v:V}(l:IsL K H xs vs)(i:Is K H d v):IsL K H (xs++[d]) (vs++[v]):=Dl l ⟨v,[],rfl,i,rfl⟩
theorem dB{own:Nat}{fr:List Nat}{wi:TI}{it:DI}{tg:TG}{g:DG}{tc:TT}{c:DT}{te:TE}{e:DX}{fe:Bool}(hi:IT K wi it)(hg:TG1 K tg g)(hc:T K tc c)(he:E K te fe e):E K (tLC own fr wi tg tc te) true (dLC own fr it g c e):=by
 refine⟨fun τ d t7 e=>?_,?_⟩
 ·unfold dLC at e
  obtain⟨⟨x,t4⟩,e1,e⟩:=oB e
  split at e
  ·obtain⟨z,e3,e⟩:=oM e
   cases e;exact hi.like _ _ _ e1
  ·cases e
 intro S M τ σ H Q d t7 r ee q
 unfold dLC at ee
 obtain⟨⟨ds,t4⟩,e1,ee⟩:=oB ee
 split at ee
 ·rename_i hz
  obtain⟨hz,hnm⟩:=hz
  have hz:ds.length<=sizeLine:=hz
  obtain⟨⟨acc,l9⟩,e3,ee⟩:=oM ee
  obtain⟨rfl,rfl⟩:d = .list acc/\t7=t4:=by cases ee;exact⟨rfl,rfl⟩
  refine hi.run S M τ σ H _ ds _ r e1 fun J H1 r1 c1 iJ=>?_
  intro D hD
  -- nothing of the def may be changed in the block
  refine⟨fun i m ys σ' H'=>∃p7 acc',R K (fun b=>S b\/b=D) (fun _=>False) p7 σ' H'/\Keep S H1 (fun b=>S b\/b=D) H'/\Chg (fun b=>b=D) H1 H'/\IsL K (hid (fun b=>S b\/b=D) H') acc' ys/\H' D=some (.lst ys)/\ys.length<=i/\i<=ds.length/\m=ds.length-i/\C5 g c e (ds.drop i) acc' p7=some (acc,l9),?_,?_⟩
  ·have s:=Bc hD (HO.lst [])
   have k:Keep S H1 (fun b=>S b\/b=D) (upd H1 D (.lst [])):=fun b o hn e=>by
    have:=Aw e hD
    exact⟨fun z=>z.elim hn this,s b o e⟩
   refine⟨ds.length,LA own fr t7,[],⟨?_,?_,?_,?_,?_,fun a h=>h.elim,?_,GR.nil ZG⟩,k,.of s,rfl,BB,J' _,eA _,by simp,by simpa using e3⟩
   ·unfold blk LA;simp
   ·intro i x e
    obtain⟨kk,j,rfl,ej,et⟩:=Hy e
    obtain⟨v,h1,h2⟩:=r1.dat j x et
    exact⟨v,UU ej h1,h2.mono k.same⟩
   ·intro i xs e
    obtain⟨kk,j,rfl,ej,et⟩:=Hy e
    have:=eS.mp hnm j (du ej)
    rw[isM_iff.mpr ⟨xs,et⟩]at this
    cases this
   ·intro i x e
    obtain⟨kk,j,rfl,ej,et⟩:=Hy e
    obtain⟨a,vs,h1,h2,h3⟩:=r1.cst j x et
    exact⟨a,vs,UU ej h1,k.same.seq h2,h3.mono k.same⟩
   ·intro i j xs ys a e
    obtain⟨kk,j',rfl,ej,et⟩:=Hy e
    have:=eS.mp hnm j' (du ej)
    rw[isM_iff.mpr ⟨xs,et⟩]at this
    cases this
   ·rintro a (h|rfl)
    ·obtain⟨o,e⟩:=r1.ex a h
     exact⟨o,s _ _ e⟩
    ·exact⟨_,BB⟩
  ·rintro i m ys σ' H' ⟨p7,acc',rb,k,ch,la,hHD,hyl,hil,rfl,hl⟩
   obtain⟨I1,I2⟩:=iJ _ _ k
   by_cases hlt:i<ds.length
   ·right
    have ed:ds[i]?=some ds[i]:=eG hlt
    obtain⟨go,yl⟩:=I1 i _ ed
    refine⟨go,fun x H2 y=>?_⟩
    obtain⟨rfl,ix⟩:=yl x H2 y
    rw[gM hlt,C5]at hl
    obtain⟨l7,e2,hl⟩:=oB hl
    obtain⟨⟨b,p4⟩,e4,hl⟩:=oB hl
    refine hg.run _ _ p7 σ' H2 x _ l7 _ rb ix e2 fun σ3 r3 k3=>?_
    refine hc.run _ _ l7 σ3 H2 _ b p4 r3 e4 fun H4 r4 c4=>?_
    have s4:Same H2 H4:=fun b o e=>c4 b o (fun z=>z) e
    cases b with
    |false =>
     rw[if_neg eM]
     exact⟨ds.length-(i+1),by omega,p4,acc',r4,k.trans (Same.keep s4),ch.trans (.of s4),la.mono (Same.keep s4).same,s4 _ _ hHD,by omega,hlt,rfl,hl⟩
    |true =>
     rw[if_pos rfl]
     rw[if_pos rfl]at hl
     obtain⟨⟨z,p6⟩,e5,hl⟩:=oB hl
     refine he.weak.run _ _ p4 σ3 H4 _ z p6 r4 e5 fun v H5 r5 c5 i5=>?_
     have s5:Same H2 H5:=s4.trans fun b o e=>c5 b o (fun z=>z) e
     have hD5:=s5 _ _ hHD
     refine⟨hD5,by omega,ds.length-(i+1),by omega,p6,acc'++[z],?_,?_,?_,?_,BB,by rw[L',gk];omega,hlt,rfl,hl⟩
     ·have kk:Keep (fun b=>S b\/b=D) H5 (fun b=>S b\/b=D) (upd H5 D (.lst (ys++[v]))):=fun b o hn e=>⟨hn,by rw[BL (fun z=>hn (.inr z))];exact e⟩
      refine⟨r5.len,fun j x e=>let ⟨u,a,b⟩:=r5.dat j x e;⟨u,a,b.mono kk.same⟩,fun j xs e=>let ⟨_,_,_,h,_⟩:=r5.mt j xs e;h.elim,fun j xs e=>let ⟨a,vs,h1,h2,h3⟩:=r5.cst j xs e;⟨a,vs,h1,kk.same.seq h2,h3.mono kk.same⟩,r5.inj,fun _ h=>h.elim,fun a h=>?_,r5.gr.to (fun i d e=>⟨e,rfl⟩) (fun j o a e q=>.inl ⟨o,e,q⟩) (fun a h _=>h.elim) (tsS kk.same)⟩
      by_cases e:a=D
      ·subst e;exact⟨_,BB⟩
      ·obtain⟨o,q⟩:=r5.ex a h
       exact⟨o,by rw[BL e];exact q⟩
     ·refine k.trans fun b o hn e=>⟨hn,?_⟩
      rw[BL (fun z=>hn (.inr z))]
      exact s5 _ _ e
     ·refine ch.trans fun b o hn e=>?_
      rw[BL hn]
      exact s5 _ _ e
     ·refine(OL (la.mono (Same.keep s5).same) i5).mono (Keep.same fun b o hn e=>⟨hn,?_⟩)
      rw[BL (fun z=>hn (.inr z))]
      exact e
   ·left
    have e:i=ds.length:=by omega
    subst e
    rw[List.drop_length,C5]at hl
    cases hl
    refine⟨I2 _ (J' _),?_⟩
    have s:Same H1 H':=fun b o e=>ch b o (Aw e hD) e
    refine q _ H' (r1.same s) (c1.trans (.of s)) ⟨.l acc,D,_,rfl,rfl,r1.none c1 hD,hHD,ys,rfl,la⟩
 ·cases ee
variable {K:KW}
variable {K:KW}
def Br(i:Nat)(f:DX)(τ:DS):Option (PyData×DS):=(f τ).bind fun p=>match p.2[i]?,p.1 with
 |some (some (.c xs)),.int k=>(atI xs k).map fun d=>(d,p.2)
 |_,_=>none
theorem ay{i:Nat}{fr:Bool}{tb:TE}{f:DX}(h:E K tb fr f):E K (tOp (Q9 K) (ID i) tb) false (Br i f):=by
 refine⟨fun τ d t7 e=>?_,?_⟩
 ·unfold Br at e
  obtain⟨⟨x,t4⟩,e1,e⟩:=oB e
  dsimp only at e
  split at e
  ·obtain⟨z,e3,e⟩:=oM e
   cases e;exact h.like _ _ _ e1
  ·cases e
 intro S M τ σ H Q d t7 r e q
 unfold Br at e
 obtain⟨⟨x,t4⟩,e1,e⟩:=oB e
 dsimp only at e
 split at e
 ·rename_i xs k hx
  obtain⟨z,e3,e⟩:=oM e
  cases e
  obtain⟨a,vs,ha,_⟩:=r.cst i xs ((((h.like _ _ _ e1).2 i).1.2 xs).mp hx)
  refine⟨.ref a,ha,h.weak.run S M τ σ H _ _ _ r e1 fun v H1 r1 c1 i1=>?_⟩
  obtain⟨a',vs',ha',h2,h3⟩:=r1.cst i xs hx
  rw[ha]at ha';cases ha'
  obtain⟨u,h4,h5⟩:=Pe h3 e3
  exact⟨a,vs',k,u,rfl,i1,same_hid.seq h2,h4,q u H1 r1 c1 h5⟩
 ·cases e
def A2(i:Nat)(τ:DS):Option (PyData×DS):=match τ[i]? with
 |some (some (.c xs))=>some (.int xs.length,τ)
 |_=>none
theorem YK{i:Nat}:E K (tCB (fun xs H Q=>∃x n,xs=[x]/\Rv K x H n/\Q (.int n) H) (HG (ID i) LO)) false (A2 i):=by
 refine⟨fun τ d t7 e=>?_,?_⟩
 ·unfold A2 at e
  split at e
  ·cases e;exact .refl
  ·cases e
 intro S M τ σ H Q d t7 r e q
 unfold A2 at e
 split at e
 ·rename_i xs hx
  cases e
  obtain⟨a,vs,ha,h2,h3⟩:=r.cst i xs hx
  refine⟨.ref a,ha,.ref a,vs.length,rfl,.inl ⟨vs,same_hid.seq h2,rfl⟩,?_⟩
  exact q _ H r .refl (by rw[h3.length];rfl)
 ·cases e
def Ab(i:Nat)(G:List L->Option (PyData×List L))(a:DA)(τ:DS):Option (PyData×DS):=(a τ).bind fun p=>(BA p.1).bind fun ds=>match p.2[i]? with
 |some (some (.c xs))=>(G (.c xs::ds.map L.d)).map fun q=>(q.1,p.2)
 |_=>none
theorem Vk{i:Nat}{fr:Bool}{G:List L->Option (PyData×List L)}{t:TA}{a:DA}{X:XK}(ha:A K t a):E K (Ii (spD K G fr) [] X (HG (ID i) t)) fr (Ab i G a):=by
 refine⟨fun τ d t7 e=>?_,?_⟩
 ·unfold Ab at e
  obtain⟨⟨x,t4⟩,e1,e⟩:=oB e
  obtain⟨ds,e2,e⟩:=oB e
  dsimp only at e
  split at e
  ·obtain⟨z,e3,e⟩:=oM e
   cases e;exact ha.like _ _ _ e1
  ·cases e
 intro S M τ σ H Q d t7 rr e q
 unfold Ab at e
 obtain⟨⟨x,t4⟩,e1,e⟩:=oB e
 obtain⟨ds,e2,e⟩:=oB e
 dsimp only at e
 split at e
 ·rename_i xs hx
  obtain⟨⟨z,ls'⟩,e3,e⟩:=oM e
  cases e
  obtain⟨p,us,hp,_⟩:=rr.cst i xs ((((ha.like _ _ _ e1).2 i).1.2 xs).mp hx)
  refine⟨.ref p,hp,ha.run S M τ σ H _ x _ rr e1 fun vs H1 r1 c1 i1=>?_⟩
  have l:=Dc i1 e2
  obtain⟨p',us',hp',h2,h3⟩:=r1.cst i xs hx
  rw[hp]at hp';cases hp'
  show spD K G fr ((.ref p::vs)++[]) H1 Q X
  rw[dz]
  have ra:=Sb r1 l
  refine⟨S,fun _=>False,.c xs::ds.map L.d,_,ls',⟨?_,?_,?_,?_,?_,fun _ h=>h.elim,r1.ex,GR.nil ?_⟩,e3,fun v H' _ c res=>?_⟩
  ·have:=ra.len
   simp only[List.length_map,List.map_cons,List.length_cons]at this ⊢
   omega
  ·intro j x e
   cases j with
   |zero=>cases e
   |succ j=>exact ra.dat j x (by simpa using e)
  ·intro j ys e
   cases j with
   |zero=>exact absurd (E' (E' e)).symm Ow.not_c
   |succ j=>obtain⟨_,_,_,h,_⟩:=ra.mt j ys (by simpa using e);exact h.elim
  ·intro j ys e
   cases j with
   |zero=>cases e;exact⟨p,us',rfl,h2,h3⟩
   |succ j=>exact ra.cst j ys (by simpa using e)
  ·intro j k ys ws b e1 e2 _ _
   cases j with
   |zero=>exact absurd (E' (E' e1)).symm Ow.not_c
   |succ j=>obtain⟨_,_,_,h,_⟩:=ra.mt j ys (by simpa using e1);exact h.elim
  ·intro j x e
   cases j with
   |zero=>cases e
   |succ j =>
    rw[U',List.getElem?_cons_succ,Z',Z']at e
    cases q:ds[j]? with
    |none=>rw[q]at e;cases e
    |some d=>rw[q]at e;cases e
  ·have s:Same H1 H':=fun b o e=>c b o (fun z=>z) e
   exact q v H' (r1.same s) (c1.trans (.of s)) (res.back r1 c1)
 ·cases e
section
variable {F:Frm} {S M:Addr->Prop} {τ t7:DS} {σ:St} {H H':Hp}
theorem RF.step(f:RF K F S M τ σ H)(r':R K S M t7 σ H')(c:Chg M H H')(lk:Like τ t7):RF K F S M t7 σ H' where
 r:=r'
 sS:=f.sS
 old:=fun b o e n=>c b o (fun z=>(f.new b z).elim n fun q=>by rw[q]at e;cases e) (f.old b o e n)
 new:=f.new
 fm:=f.fm
 fs:=f.fs
 fsub:=f.fsub
 snew:=f.snew
 par:=f.par
 pm:=fun i v e=>let ⟨xs,h⟩:=f.pm i v e;(lk.own i).mpr ⟨xs,h⟩
 fma:=f.fma
theorem RF.stay(f:RF K F S M τ σ H){σ':St}(r':R K S M t7 σ' H)(ms:MSame τ t7)(k:∀(j:Nat) (o:Ow),τ[j]?=some (some o.L)->σ'[j]?=σ[j]?):RF K F S M t7 σ' H where
 r:=r'
 sS:=f.sS
 old:=f.old
 new:=f.new
 fm:=f.fm
 fs:=f.fs
 fsub:=f.fsub
 snew:=f.snew
 par:=fun i v e=>by
  obtain⟨xs,h⟩:=f.pm i v e
  rw[k i xs h]
  exact f.par i v e
 pm:=fun i v e=>let ⟨xs,h⟩:=f.pm i v e;⟨xs,(ms.2 i xs).mpr h⟩
 fma:=f.fma
theorem RF.hnone(f:RF K F S M τ σ H){a:Addr}(h:H a=none):F.H a=none:=by
 cases e:F.H a with
 |none=>rfl
 |some o =>
  exfalso
  by_cases hm:F.M a
  ·obtain⟨o',e'⟩:=f.r.ex a (f.sS a (f.fsub a hm))
   rw[h]at e';cases e'
  ·have:=f.old a o e hm
   rw[h]at this;cases this
theorem RF.res(f:RF K F S M τ σ H){fr:Bool}{d:PyData}{v:V}(h:Res K fr S H H' d v):Res K fr F.S F.H H' d v:=by
 cases fr with
 |false=>exact Is.mono (Ej f.sS) h
 |true =>
  obtain⟨xs,a,vs,e1,e2,h1,h2,h3⟩:=h
  exact⟨xs,a,vs,e1,e2,f.hnone h1,h2,h3.mono (Ej fun b z=>z.elim (fun z=>.inl (f.sS b z)) .inr)⟩
end
variable {np:Nat}
def AN(e:DX)(g:DG)(τ:DS):Option Out:=(e τ).bind fun p=>(g p.1 p.2).map .nx
theorem UX{fr fe:Bool}{te:TE}{tg:TG}{e:DX}{g:DG}(he:E K te fe e)(hg:TG1 K tg g):B K np (MT te tg) fr (AN e g):=by
 intro F S M τ σ H D out hnp f ee q
 unfold AN at ee
 obtain⟨⟨x,t4⟩,e1,ee⟩:=oB ee
 obtain⟨l7,e2,ee⟩:=oM ee
 cases ee
 refine he.weak.run S M τ σ H _ x t4 f.r e1 fun v H1 r1 c1 i1=>?_
 refine hg.run S M t4 σ H1 v x l7 _ r1 i1 e2 fun σ' r2 k=>?_
 exact q S M σ' H1 ((f.step r1 c1 (he.like _ _ _ e1)).stay r2 (hg.ms _ _ _ e2) k) (c1.keep f.r.sub)
theorem bu{fr fe:Bool}{te:TE}{i:Nat}{e:DX}(he:E K te fe e):B K np (fun D σ H=>te σ H fun v H'=>D.nx (σ.set i (some v)) H') fr (AN e (dN i)):=UX (tg:=JN i) he Gp
def EU(np i:Nat)(τ:DS):Option Out:=if np<=i/\i<τ.length then some (.nx (τ.set i (some (.m [])))) else none
def tkP:List (PyData×PyData)->Option (List (List Int×PyData))
 |[]=>some []
 |(.tuple ks,d)::r=>(tkI ks).bind fun k=>(tkP r).map ((k,d)::·)
 |_=>none
where tkI:List PyData->Option (List Int)
 |[]=>some []
 |.int i::r=>(tkI r).map (i::·)
 |_=>none
theorem P7:∀(k:List Int),tkP.tkI (k.map PyData.int)=some k
 |[]=>rfl
 |i::k=>by rw[U',tkP.tkI,P7 k];rfl
theorem P6:∀(m:List (List Int×PyData)),tkP (Lm m)=some m
 |[]=>rfl
 |(k,d)::m=>by
  have:=P6 m
  show(tkP.tkI (k.map PyData.int)).bind _=_
  rw[P7]
  show((tkP (Lm m)).map _)=_
  rw[this];rfl
theorem ZV{o:Ow}{kvs:List (PyData×PyData)}{m:List (List Int×PyData)}(h:PyData.dict kvs=o.D)(e:tkP kvs=some m):o = .t m:=by
 cases o with
 |l xs=>cases h
 |t m'=>cases h;rw[P6]at e;cases e;rfl
def Fw(np i:Nat)(e:DX)(τ:DS):Option Out:=(e τ).bind fun p=>match p.1 with
 |.list xs=>if np<=i/\i<p.2.length/\p.2.all okM=true then some (.nx (p.2.set i (some (.m xs)))) else none
 |.dict kvs=>(tkP kvs).bind fun m=>if np<=i/\i<p.2.length/\p.2.all okM=true then some (.nx (p.2.set i (some (.k m)))) else none
 |_=>none
theorem RF.newM{F:Frm}{S M:Addr->Prop}{τ:DS}{σ:St}{H:Hp}(f:RF K F S M τ σ H){a:Addr}{i:Nat}{xs:Ow}{vs:HO}(hi:i<τ.length)(hnp:F.ar.length<=i)(hS:S a)(hM:¬M a)(hF:F.H a=none)(h':H a=some vs)
  (l:IsO K (hid S H) xs a vs):RF K F S (fun b=>M b\/b=a) (τ.set i (some xs.L)) (σ.set i (some (.ref a))) H:=by
 have hs:i<σ.length:=by rw[f.r.len];exact hi
 have ne:∀j,j≠i->(τ.set i (some xs.L))[j]?=τ[j]?:=fun j hj=>dZ (Ne.symm hj)
 have ne':∀j,j≠i->(σ.set i (some (V.ref a)))[j]?=σ[j]?:=fun j hj=>dZ (Ne.symm hj)
 have se:(τ.set i (some xs.L))[i]?=some (some xs.L):=dX hi
 have se':(σ.set i (some (V.ref a)))[i]?=some (some (.ref a)):=dX hs
 have Ma:∀(j:Nat) (ys:Ow) (b:Addr),j≠i->τ[j]?=some (some ys.L)->σ[j]?=some (some (.ref b))->b≠a:=fun j ys b hj e e' z=>by
  obtain⟨b',us,h1,h2,_⟩:=f.r.mt j ys e
  rw[e']at h1;cases h1
  subst z
  exact hM h2
 refine⟨⟨by rw[eK,eK];exact f.r.len,fun j x e=>?_,fun j ys e=>?_,fun j ys e=>?_,fun j1 j2 ys zs b e1 e2 f1 f2=>?_,fun b h=>h.elim (f.r.sub b) fun z=>by rw[z];exact hS,f.r.ex,f.r.gr.to (fun j x e=>?_) (fun j o b e q=>?_) (fun b hb _=>⟨.inl hb,rfl⟩) .refl⟩,f.sS,f.old,fun b h=>h.elim (f.new b) fun z=>.inr (by rw[z];exact hF),fun b h=>.inl (f.fm b h),f.fs,f.fsub,f.snew,fun j v e=>?_,fun j v e=>?_,f.fma⟩
 ·by_cases hj:j=i
  ·subst hj;rw[se]at e;exact absurd (E' (E' e)) Ow.not_d
  ·rw[ne j hj]at e
   rw[ne' j hj]
   exact f.r.dat j x e
 ·by_cases hj:j=i
  ·subst hj
   rw[se]at e
   obtain rfl:=Jj e
   exact⟨a,vs,se',.inr rfl,h',l⟩
  ·rw[ne j hj]at e
   rw[ne' j hj]
   obtain⟨b,us,h1,h2,h3,h4⟩:=f.r.mt j ys e
   exact⟨b,us,h1,.inl h2,h3,h4⟩
 ·by_cases hj:j=i
  ·subst hj;rw[se]at e;exact absurd (E' (E' e)) Ow.not_c
  ·rw[ne j hj]at e
   rw[ne' j hj]
   exact f.r.cst j ys e
 ·by_cases h1:j1=i
  ·by_cases h2:j2=i
   ·rw[h1,h2]
   ·exfalso
    subst h1
    rw[se']at f1;cases f1
    rw[ne j2 h2]at e2
    rw[ne' j2 h2]at f2
    exact Ma j2 zs _ h2 e2 f2 rfl
  ·by_cases h2:j2=i
   ·exfalso
    subst h2
    rw[se']at f2;cases f2
    rw[ne j1 h1]at e1
    rw[ne' j1 h1]at f1
    exact Ma j1 ys _ h1 e1 f1 rfl
   ·rw[ne j1 h1]at e1
    rw[ne' j1 h1]at f1
    rw[ne j2 h2]at e2
    rw[ne' j2 h2]at f2
    exact f.r.inj _ _ _ _ b e1 e2 f1 f2
 ·by_cases hj:j=i
  ·subst hj;rw[se]at e;exact absurd (E' (E' e)) Ow.not_g
  ·rw[ne j hj]at e;exact⟨e,ne' j hj⟩
 ·by_cases hj:j=i
  ·subst hj;rw[se']at q;cases q;exact .inr hM
  ·rw[ne j hj]at e;rw[ne' j hj]at q;exact .inl ⟨o,e,q⟩
 ·have:j≠i:=fun z=>by
   subst z
   have:=(R'.mp e).1
   omega
  rw[ne' j this]
  exact f.par j v e
 ·have:j≠i:=fun z=>by
   subst z
   have:=(R'.mp e).1
   omega
  rw[ne j this]
  exact f.pm j v e
theorem RF.hide{F:Frm}{S M:Addr->Prop}{τ:DS}{σ:St}{H H':Hp}(f:RF K F S M τ σ H){a:Addr}(s:Same H H')(ha:H a=none)(h':∃o,H' a=some o):RF K F (fun b=>S b\/b=a) M τ σ H':=by
 have k:Keep S H (fun b=>S b\/b=a) H':=fun b o hn e=>⟨fun z=>z.elim hn (Aw e ha),s b o e⟩
 refine ⟨⟨f.r.len, fun j x e => let ⟨v, h1, h2⟩ := f.r.dat j x e; ⟨v, h1, h2.mono k.same⟩, fun j x e => let ⟨b, vs, h1, h2, h3, h4⟩ := f.r.mt j x e; ⟨b, vs, h1, h2, s _ _ h3, h4.mono k.same⟩,
  fun j x e=>let ⟨b,vs,h1,h2,h3⟩:=f.r.cst j x e;⟨b,vs,h1,k.same.seq h2,h3.mono k.same⟩,f.r.inj,fun b h=>.inl (f.r.sub b h),fun b h=>?_,f.r.gr.to (fun i d e=>⟨e,rfl⟩) (fun j o a e q=>.inl ⟨o,e,q⟩) (fun a h _=>⟨h,by obtain⟨o,e⟩:=f.r.ex a (f.r.sub a h);rw[e];exact s _ _ e⟩) (tsS k.same)⟩,fun b h=>.inl (f.sS b h),fun b o e n=>s _ _ (f.old b o e n),f.new,f.fm,f.fs,f.fsub,fun b h=>h.elim (f.snew b) fun z=>.inr (by rw[z];exact f.hnone ha),f.par,f.pm,f.fma⟩
 rcases h with h|h
 ·obtain⟨o,e⟩:=f.r.ex b h
  exact⟨o,s _ _ e⟩
 ·rw[h];exact h'
theorem RF.hideE{F:Frm}{S M:Addr->Prop}{τ t4:DS}{σ:St}{H H':Hp}(f:RF K F S M τ σ H){a:Addr}(r1:R K S M t4 σ H')(c:Chg M H H')(lk:Like τ t4)(ok:t4.all okM=true)(ha:H a=none)(h':∃o,H' a=some o/\OwH o):RF K F (fun b=>S b\/b=a) M t4 σ H':=by
 have f1:=f.step r1 c lk
 have k:Keep S H (fun b=>S b\/b=a) H':=fun b o hn e=>⟨fun z=>z.elim hn (Aw e ha),c b o (fun z=>hn (f.r.sub b z)) e⟩
 have ts:TSm (hid S H') (hid (fun b=>S b\/b=a) H'):=GI fun b z=>z.elim .inl fun z=>by subst z;exact .inr h'
 refine⟨⟨r1.len,fun j x e=>?_,fun j x e=>?_,fun j x e=>?_,r1.inj,fun b h=>.inl (f.r.sub b h),fun b h=>?_,r1.gr.to (fun i d e=>⟨e,rfl⟩) (fun j o a e q=>.inl ⟨o,e,q⟩) (fun a h _=>⟨h,rfl⟩) ts⟩,fun b h=>.inl (f.sS b h),f1.old,f.new,f.fm,f.fs,f.fsub,fun b h=>h.elim (f.snew b) fun z=>.inr (by rw[z];exact f.hnone ha),f.par,f1.pm,f.fma⟩
 ·obtain⟨v,h1,h2⟩:=f.r.dat j x (((lk.2 j).1.1 x).mp e)
  exact⟨v,h1,h2.mono k.same⟩
 ·obtain⟨b,vs,h1,h2,h3,h4⟩:=r1.mt j x e
  exact⟨b,vs,h1,h2,h3,h4.monoT ts (eS.mp ok (some x.L) (du e))⟩
 ·obtain⟨b,vs,h1,h2,h3⟩:=f.r.cst j x (((lk.2 j).1.2 x).mp e)
  exact⟨b,vs,h1,k.same.seq h2,h3.mono k.same⟩
 ·rcases h with h|h
  ·exact r1.ex b h
  ·obtain⟨vs,e,_⟩:=h'
   rw[h];exact⟨_,e⟩
theorem br{fr:Bool}{i:Nat}:B K np (MT (XA LO) (JN i)) fr (EU np i):=by
 intro F S M τ σ H D out hnp f ee q
 unfold EU at ee
 split at ee
 ·rename_i hi
  cases ee
  refine⟨eA _,fun a ha=>?_⟩
  have s:=Bc ha (HO.lst [])
  have f1:=f.hide s ha ⟨_,BB⟩
  have hM:¬M a:=fun z=>f.r.fresh ha (f.r.sub a z)
  exact q _ _ _ _ (f1.newM (xs:=.l []) hi.2 (eE hnp hi.1) (.inr rfl) hM (f.hnone ha) BB ⟨[],rfl,rfl⟩) fun b o hn e=>⟨fun z=>z.elim hn (Aw e ha),s b o e⟩
 ·cases ee
theorem ZI{fr:Bool}{i:Nat}{te:TE}{e:DX}(he:E K te true e):B K np (MT te (JN i)) fr (Fw np i e):=by
 intro F S M τ σ H D out hnp f ee q
 unfold Fw at ee
 obtain⟨⟨x,t4⟩,e1,ee⟩:=oB ee
 dsimp only at ee
 split at ee
 ·split at ee
  ·rename_i xs hi
   cases ee
   refine he.run S M τ σ H _ _ t4 f.r e1 fun v H1 r1 c1 i1=>?_
   obtain⟨ys,a,vs,e2,rfl,h1,h2,h3⟩:=i1
   obtain rfl:=Ow.D_list e2
   have f1:=f.hideE r1 c1 (he.like _ _ _ e1) hi.2.2 h1 ⟨_,h2,h3.ho⟩
   have hM:¬M a:=fun z=>f.r.fresh h1 (f.r.sub a z)
   exact q _ _ _ _ (f1.newM (xs:=.l _) hi.2.1 (eE hnp hi.1) (.inr rfl) hM (f.hnone h1) h2 h3) fun b o hn e=>⟨fun z=>z.elim hn (Aw e h1),c1 b o (fun z=>hn (f.r.sub b z)) e⟩
  ·cases ee
 ·obtain⟨m,em,ee⟩:=oB ee
  split at ee
  ·rename_i hi
   cases ee
   refine he.run S M τ σ H _ _ t4 f.r e1 fun v H1 r1 c1 i1=>?_
   obtain⟨ys,a,vs,e2,rfl,h1,h2,h3⟩:=i1
   obtain rfl:=ZV e2 em
   have f1:=f.hideE r1 c1 (he.like _ _ _ e1) hi.2.2 h1 ⟨_,h2,h3.ho⟩
   have hM:¬M a:=fun z=>f.r.fresh h1 (f.r.sub a z)
   exact q _ _ _ _ (f1.newM (xs:=.t _) hi.2.1 (eE hnp hi.1) (.inr rfl) hM (f.hnone h1) h2 h3) fun b o hn e=>⟨fun z=>z.elim hn (Aw e h1),c1 b o (fun z=>hn (f.r.sub b z)) e⟩
  ·cases ee
 ·cases ee
def AQ(e:DX)(τ:DS):Option Out:=(e τ).map fun p=>.rt p.1 p.2
theorem bo{fr fe:Bool}{te:TE}{e:DX}(he:E K te fe e)(hf:fr=true->fe=true):B K np (W9 te) fr (AQ e):=by
 intro F S M τ σ H D out hnp f ee q
 unfold AQ at ee
 obtain⟨⟨x,t4⟩,e1,ee⟩:=oM ee
 cases ee
 refine he.run S M τ σ H _ x t4 f.r e1 fun v H1 r1 c1 i1=>?_
 exact q S M σ H1 v (f.step r1 c1 (he.like _ _ _ e1)) (f.res (i1.imp (fun _=>f.r.fresh) fr hf))
def C2(np i:Nat)(τ:DS):Option Out:=match τ[i]? with
 |some (some (.m xs))=>if np<=i then some (.rt (.list xs) τ) else none
 |some (some (.k xs))=>if np<=i then some (.rt (.dict (Lm xs)) τ) else none
 |_=>none
theorem Pp{np i:Nat}{τ:DS}{out:Out}(e:C2 np i τ=some out):∃w,τ[i]?=some (some (Ow.L w))/\np<=i/\out = .rt w.D τ:=by
 unfold C2 at e
 split at e
 ·rename_i xs hx
  split at e
  ·rename_i h;cases e;exact⟨.l xs,hx,h,rfl⟩
  ·cases e
 ·rename_i xs hx
  split at e
  ·rename_i h;cases e;exact⟨.t xs,hx,h,rfl⟩
  ·cases e
 ·cases e
theorem ZJ{fr:Bool}{i:Nat}:B K np (W9 (ID i)) fr (C2 np i):=by
 intro F S M τ σ H D out hnp f ee q
 obtain⟨xs,hx,hi,rfl⟩:=Pp ee
 obtain⟨a,vs,h1,h2,h3,h4⟩:=f.r.mt i xs hx
 refine⟨_,h1,q S M σ H _ f ?_⟩
 have hF:F.H a=none:=by
  rcases f.new a h2 with z|z
  ·exfalso
   obtain⟨j,hj⟩:=f.fma a z
   obtain⟨ys,hy⟩:=f.pm j _ hj
   have e:=f.r.inj j i ys xs a hy hx (f.par j _ hj) h1
   have:=(R'.mp hj).1
   omega
  ·exact z
 have res:Res K true F.S F.H H xs.D (.ref a):=⟨xs,a,vs,rfl,rfl,hF,h3,h4.mono (Ej fun b z=>z.elim (f.sS b) fun z=>by rw[z];exact f.r.sub a h2)⟩
 refine res.imp (fun b hb=>?_) fr fun _=>rfl
 intro z
 obtain⟨o,e⟩:=f.fs b z
 rw[hb]at e;cases e
def K5(τ:DS):Option Out:=some (.rt .none τ)
def A3(e:DX)(τ:DS):Option Out:=(e τ).map fun p=>.nx p.2
theorem ZM{fr fe:Bool}{te:TE}{e:DX}(he:E K te fe e):B K np (WY te) fr (A3 e):=by
 intro F S M τ σ H D out hnp f ee q
 unfold A3 at ee
 obtain⟨⟨x,t4⟩,e1,ee⟩:=oM ee
 cases ee
 refine he.run S M τ σ H _ x t4 f.r e1 fun v H1 r1 c1 i1=>?_
 exact q S M σ H1 (f.step r1 c1 (he.like _ _ _ e1)) (c1.keep f.r.sub)
def dMt(i:Nat)(G:List PyData->List PyData->Option (PyData×List PyData))(a:DA)(τ:DS):Option (PyData×DS):=(a τ).bind fun p=>(BA p.1).bind fun ds=>match p.2[i]? with
 |some (some (.m xs))=>(G xs ds).map fun q=>(q.1,p.2.set i (some (.m q.2)))
 |_=>none
def MR(K:KW)(r:V->List V->Hp->VK->Prop)(G:List PyData->List PyData->Option (PyData×List PyData)):Prop:=∀(S:Addr->Prop) H a vs us xs ds d xs' (Q:VK),S a->H a=some (.lst vs)->IsL K (hid S H) xs vs->IsL K (hid S H) ds us->G xs ds=some (d,xs') ->
 (∀v vs',Is K (hid S H) d v->IsL K (hid S H) xs' vs'->Q v (upd H a (.lst vs')))->r (.ref a) us H Q
theorem NA{S:Addr->Prop}{H:Hp}{a:Addr}{o:HO}(h:S a):hid S (upd H a o)=hid S H:=by
 funext b
 unfold hid
 by_cases z:S b
 ·rw[if_pos z,if_pos z]
 ·rw[if_neg z,if_neg z,BL (fun e=>z (by rw[e];exact h))]
theorem Ob{i:Nat}{G:List PyData->List PyData->Option (PyData×List PyData)}{a:DA}{τ t7:DS}{d:PyData}(e:dMt i G a τ=some (d,t7)):∃rs t4 ds xs xs',a τ=some (rs,t4)/\BA rs=some ds/\t4[i]?=some (some (.m xs))/\G xs ds=some (d,xs')/\t7=t4.set i (some (.m xs')):=by
 unfold dMt at e
 obtain⟨⟨x,t4⟩,e1,e⟩:=oB e
 obtain⟨ds,e2,e⟩:=oB e
 dsimp only at e
 split at e
 ·rename_i xs hx
  obtain⟨⟨z,zs⟩,e3,e⟩:=oM e
  cases e
  exact⟨x,t4,ds,xs,zs,e1,e2,hx,e3,rfl⟩
 ·cases e
theorem dA{i:Nat}{r:V->List V->Hp->VK->Prop}{G:List PyData->List PyData->Option (PyData×List PyData)}{t:TA}{a:DA}(h:MR K r G)(ha:A K t a):E K (tBM K "list" r (ID i) t) false (dMt i G a):=by
 refine⟨fun τ d t7 e=>?_,?_⟩
 ·obtain⟨rs,t4,ds,xs,xs',e1,e2,e3,e4,rfl⟩:=Ob e
  exact(ha.like _ _ _ e1).trans (RV e3)
 intro S M τ σ H Q d t7 rr e q
 obtain⟨rs,t4,ds,xs,xs',e1,e2,e3,e4,rfl⟩:=Ob e
 have lk:=ha.like _ _ _ e1
 obtain⟨zs,hz⟩:=lk.ml e3
 obtain⟨p,us,hp,hM,hl0,_⟩:=rr.ml i zs hz
 refine⟨.ref p,hp,.inl ⟨rfl,us,SqL.of hl0⟩,?_⟩
 refine ha.run S M τ σ H _ rs _ rr e1 fun vs H1 r1 c1 i1=>?_
 have l:=Dc i1 e2
 obtain⟨p',us',hp',hM',hl,ll⟩:=r1.ml i xs e3
 rw[hp]at hp';cases hp'
 have Sp:=r1.sub p hM'
 refine h S H1 p us' vs xs ds d xs' _ Sp hl ll l e4 fun v vs' iv il=>?_
 have c:Chg (fun b=>b=p) H1 (upd H1 p (.lst vs')):=fun b o hn e=>by rw[BL hn];exact e
 refine q v _ (r1.setM e3 hp c BB (by rw[NA Sp];exact il)) (c1.trans fun b o hn e=>c b o (fun z=>hn (by subst z;exact hM')) e) ?_
 show Is K (hid S _) d v
 rw[NA Sp];exact iv
def Ap:List PyData->List PyData->Option (PyData×List PyData)
 |xs,[d]=>if xs.length<sizeLine then some (.none,xs++[d]) else none
 |_,_=>none
theorem Tb:MR K QM Ap:=by
 intro S H a vs us xs ds d xs' Q Sa hl ll l e q
 unfold Ap at e
 split at e
 ·split at e
  ·rename_i d0 hz
   cases e
   obtain⟨v,us',rfl,iv,iu⟩:=l
   cases (show us'=[] from iu)
   exact⟨a,vs,v,rfl,rfl,hl,by rw[ll.length];exact hz,q _ _ rfl (OL ll iv)⟩
  ·cases e
 ·cases e
def BZ:List PyData->List PyData->Option (PyData×List PyData)
 |xs,[.list ys]=>if xs.length+ys.length<=sizeLine then some (.none,xs++ys) else none
 |_,_=>none
theorem Ta:MR K QK BZ:=by
 intro S H a vs us xs ds d xs' Q Sa hl ll l e q
 unfold BZ at e
 split at e
 ·split at e
  ·rename_i ys hz
   cases e
   obtain⟨v,us',rfl,⟨b,ws,rfl,hb,lb⟩,iu⟩:=l
   cases (show us'=[] from iu)
   exact⟨a,b,vs,ws,rfl,rfl,hl,(hid_iff.mp hb).2,by rw[ll.length,lb.length];exact hz,q _ _ rfl (Dl ll lb)⟩
  ·cases e
 ·cases e
def Gr:List PyData->List PyData->Option (PyData×List PyData)
 |_,[]=>some (.none,[])
 |_,_=>none
def K4(i:Nat)(e k:DX)(τ:DS):Option Out:=(e τ).bind fun p=>(k p.2).bind fun q=>match q.2[i]?,q.1 with
 |some (some (.m xs)),.int n=>(ixN xs.length n).map fun j=>.nx (q.2.set i (some (.m (xs.set j p.1))))
 |_,_=>none
theorem Gl.trans{F:Frm}{fr:Bool}{S S1:Addr->Prop}{H H1:Hp}{D:Ly}{o:Out}(k:Keep S H S1 H1)(h:Gl K F fr S H D o):Gl K F fr S1 H1 D o:=by
 cases o with
 |nx τ=>exact fun S' M' σ' H' r k'=>h S' M' σ' H' r (k.trans k')
 |bk τ=>exact fun S' M' σ' H' r k'=>h S' M' σ' H' r (k.trans k')
 |ct τ=>exact fun S' M' σ' H' r k'=>h S' M' σ' H' r (k.trans k')
 |rt d τ=>exact fun S' M' σ' H' v r k'=>h S' M' σ' H' v r k'
def AU(τ:DS):Option Out:=some (.nx τ)
theorem bq{fr:Bool}:B K np WW fr AU:=by
 intro F S M τ σ H D out hnp f ee q
 cases ee
 exact q S M σ H f .refl
def AM(a b:DB)(τ:DS):Option Out:=(a τ).bind fun o=>match o with
 |.nx t7=>b t7
 |o=>some o
theorem bj{fr:Bool}{t u:TS}{a b:DB}(ha:B K np t fr a)(hb:B K np u fr b):B K np (Zj t u) fr (AM a b):=by
 intro F S M τ σ H D out hnp f ee q
 unfold AM at ee
 obtain⟨o,e1,ee⟩:=oB ee
 refine ha F S M τ σ H _ o hnp f e1 ?_
 cases o with
 |nx t4=>exact fun S' M' σ' H' r k=>hb F S' M' t4 σ' H' D out hnp r ee (q.trans k)
 |bk t4=>cases ee;exact q
 |ct t4=>cases ee;exact q
 |rt d t4=>cases ee;exact q
def AR(c:DT)(a b:DB)(τ:DS):Option Out:=(c τ).bind fun p=>if p.1=true then a p.2 else b p.2
theorem dR{fr:Bool}{tc:TT}{t u:TS}{c:DT}{a b:DB}(hc:T K tc c)(ha:B K np t fr a)(hb:B K np u fr b):B K np (Zn tc t u) fr (AR c a b):=by
 intro F S M τ σ H D out hnp f ee q
 unfold AR at ee
 obtain⟨⟨k,t4⟩,e1,ee⟩:=oB ee
 refine hc.run S M τ σ H _ k t4 f.r e1 fun H1 r1 c1=>?_
 have f1:=f.step r1 c1 (hc.like _ _ _ e1)
 cases k with
 |true=>exact ha F S M t4 σ H1 D out hnp f1 ee (q.trans (c1.keep f.r.sub))
 |false=>exact hb F S M t4 σ H1 D out hnp f1 ee (q.trans (c1.keep f.r.sub))
def Pw(τ:DS):Option Out:=some (.bk τ)
def Pu(τ:DS):Option Out:=some (.ct τ)
def EV:DB:=fun _=>none
theorem WI{fr:Bool}:B K np SI fr EV:=by
 intro F S M τ σ H D out hnp f ee q
 cases ee
def Ay(g:DG)(b:DB):List PyData->DS->Option Out
 |[],τ=>some (.nx τ)
 |d::ds,τ=>(g d τ).bind fun t4=>(b t4).bind fun o=>match o with
  |.nx l7=>Ay g b ds l7
  |.ct l7=>Ay g b ds l7
  |.bk l7=>some (.nx l7)
  |.rt d l7=>some (.rt d l7)
def Bh(it:DI)(g:DG)(b:DB)(τ:DS):Option Out:=(it τ).bind fun p=>Ay g b p.1 p.2
theorem bw{fr:Bool}{wi:TI}{tg:TG}{tb:TS}{it:DI}{g:DG}{b:DB}(hi:IT K wi it)(hg:TG1 K tg g)(hb:B K np tb fr b):B K np (Zo wi tg tb) fr (Bh it g b):=by
 intro F S M τ σ H D out hnp f ee q
 unfold Bh at ee
 obtain⟨⟨ds,t4⟩,e1,ee⟩:=oB ee
 refine hi.run S M τ σ H _ ds t4 f.r e1 fun J H1 r1 c1 iJ=>?_
 have f1:=f.step r1 c1 (hi.like _ _ _ e1)
 have q1:=q.trans (c1.keep f.r.sub)
 refine⟨fun i m σ' H'=>m=ds.length-i/\i<=ds.length/\∃S' M' t7,RF K F S' M' t7 σ' H'/\Keep S H1 S' H'/\Ay g b (ds.drop i) t7=some out,⟨ds.length,by simp,eA _,S,M,t4,f1,.refl,by simpa using ee⟩,?_⟩
 rintro i m σ' H' ⟨rfl,hil,S',M',t7,f',k',hl⟩
 obtain⟨I1,I2⟩:=iJ _ _ k'
 by_cases hlt:i<ds.length
 ·right
  have ed:ds[i]?=some ds[i]:=eG hlt
  obtain⟨go,yl⟩:=I1 i _ ed
  refine⟨go,fun σ2 H2=>∃S2 M2 l7,RF K F S2 M2 l7 σ2 H2/\Keep S H1 S2 H2/\Ay g b (ds.drop (i+1)) l7=some out,fun σ2 H2 h=>⟨ds.length-(i+1),by omega,rfl,hlt,h⟩,fun x H2 y=>?_⟩
  obtain⟨rfl,ix⟩:=yl x H2 y
  rw[gM hlt,Ay]at hl
  obtain⟨l7,e2,hl⟩:=oB hl
  obtain⟨o,e3,hl⟩:=oB hl
  refine hg.run S' M' t7 σ' H2 x _ l7 _ f'.r ix e2 fun σ3 r3 k3=>?_
  have f3:=f'.stay r3 (hg.ms _ _ _ e2) k3
  refine hb F S' M' l7 σ3 H2 _ o hnp f3 e3 ?_
  cases o with
  |nx p5=>exact fun S4 M4 σ4 H4 f4 k4=>⟨S4,M4,p5,f4,k'.trans k4,hl⟩
  |ct p5=>exact fun S4 M4 σ4 H4 f4 k4=>⟨S4,M4,p5,f4,k'.trans k4,hl⟩
  |bk p5=>cases hl;exact fun S4 M4 σ4 H4 f4 k4=>q1 S4 M4 σ4 H4 f4 (k'.trans k4)
  |rt d p5=>cases hl;exact fun S4 M4 σ4 H4 v f4 k4=>q1 S4 M4 σ4 H4 v f4 k4
 ·left
  have e:i=ds.length:=by omega
  subst e
  rw[List.drop_length,Ay]at hl
  cases hl
  exact⟨I2 _ (J' _),q1 S' M' σ' H' f' k'⟩
def dWh(c:DT)(b:DB):Nat->DS->Option Out
 |0,_=>none
 | n + 1, τ => (c τ).bind fun p => if p.1 = true then (b p.2).bind fun o => (match o with
   |.nx l7=>dWh c b n l7
   |.ct l7=>dWh c b n l7
   |.bk l7=>some (.nx l7)
   |.rt d l7=>some (.rt d l7)) else some (.nx p.2)
def Fv(n:DS->Nat)(c:DT)(b:DB)(τ:DS):Option Out:=dWh c b (n τ) τ
theorem WH{fr:Bool}{n:DS->Nat}{tc:TT}{tb:TS}{c:DT}{b:DB}(hc:T K tc c)(hb:B K np tb fr b):B K np (SG tc tb) fr (Fv n c b):=by
 intro F S M τ σ H D out hnp f ee q
 unfold Fv at ee
 refine⟨fun m σ' H'=>∃S' M' t7,RF K F S' M' t7 σ' H'/\Keep S H S' H'/\dWh c b m t7=some out,⟨n τ,S,M,τ,f,.refl,ee⟩,?_⟩
 rintro m σ' H' ⟨S',M',t7,f',k',hl⟩
 cases m with
 |zero=>cases hl
 |succ m =>
  rw[dWh]at hl
  obtain⟨⟨k,t4⟩,e1,hl⟩:=oB hl
  refine hc.run S' M' t7 σ' H' _ k t4 f'.r e1 fun H1 r1 c1=>?_
  have f1:=f'.step r1 c1 (hc.like _ _ _ e1)
  have k1:=k'.trans (c1.keep f'.r.sub)
  cases k with
  |false =>
   rw[if_neg eM]at hl ⊢
   cases hl
   exact q S' M' σ' H1 f1 k1
  |true =>
   rw[if_pos rfl]at hl ⊢
   obtain⟨o,e3,hl⟩:=oB hl
   refine⟨fun σ2 H2=>∃S2 M2 l7,RF K F S2 M2 l7 σ2 H2/\Keep S H S2 H2/\dWh c b m l7=some out,fun σ2 H2 h=>⟨m,fw _,h⟩,?_⟩
   refine hb F S' M' t4 σ' H1 _ o hnp f1 e3 ?_
   cases o with
   |nx p5=>exact fun S4 M4 σ4 H4 f4 k4=>⟨S4,M4,p5,f4,k1.trans k4,hl⟩
   |ct p5=>exact fun S4 M4 σ4 H4 f4 k4=>⟨S4,M4,p5,f4,k1.trans k4,hl⟩
   |bk p5=>cases hl;exact fun S4 M4 σ4 H4 f4 k4=>q S4 M4 σ4 H4 f4 (k1.trans k4)
   |rt d p5=>cases hl;exact fun S4 M4 σ4 H4 v f4 k4=>q S4 M4 σ4 H4 v f4 k4
def fin:List L->DS->Option (List L)
 |[],_=>some []
 |.d x::ls,_::τ=>(fin ls τ).map (.d x::·)
 |.c x::ls,_::τ=>(fin ls τ).map (.c x::·)
 |.m _::ls,some (.m xs)::τ=>(fin ls τ).map (.m xs::·)
 |.k _::ls,some (.k xs)::τ=>(fin ls τ).map (.k xs::·)
 |_,_=>none
def Aa(fr:Bool)(np nl:Nat)(b:DB)(ls:List L):Option (PyData×List L):=if ls.length=np then (b (ls.map some++List.replicate nl none)).bind fun o=>match o with
  |.nx τ=>if fr=true then none else (fin ls τ).map fun ls'=>(.none,ls')
  |.rt d τ=>(fin ls τ).map fun ls'=>(d,ls')
  |_=>none
 else none
theorem DZ:∀{ls:List L} {τ:DS} {ls':List L} {i:Nat} {l:L},fin ls τ=some ls'->ls'[i]?=some l->match l with
  |.d x=>ls[i]?=some (.d x)
  |.c x=>ls[i]?=some (.c x)
  |.m xs=>(∃ys,ls[i]?=some (.m ys))/\τ[i]?=some (some (.m xs))
  |.k xs=>(∃ys,ls[i]?=some (.k ys))/\τ[i]?=some (some (.k xs))
  |.g _=>False
 |[],_,_,_,_,h,e=>by cases h;simp at e
 |.d x::ls,o::τ,_,i,l,h,e=>by
  obtain⟨zs,h1,h⟩:=oM h
  subst h
  cases i with
  |zero=>cases e;rfl
  |succ i =>
   have:=DZ (i:=i) (l:=l) h1 (by simpa using e)
   cases l<;>simpa using this
 |.c x::ls,o::τ,_,i,l,h,e=>by
  obtain⟨zs,h1,h⟩:=oM h
  subst h
  cases i with
  |zero=>cases e;rfl
  |succ i =>
   have:=DZ (i:=i) (l:=l) h1 (by simpa using e)
   cases l<;>simpa using this
 |.m x::ls,some (.m xs)::τ,_,i,l,h,e=>by
  obtain⟨zs,h1,h⟩:=oM h
  subst h
  cases i with
  |zero=>cases e;exact⟨⟨_,rfl⟩,rfl⟩
  |succ i =>
   have:=DZ (i:=i) (l:=l) h1 (by simpa using e)
   cases l<;>simpa using this
 |.k x::ls,some (.k xs)::τ,_,i,l,h,e=>by
  obtain⟨zs,h1,h⟩:=oM h
  subst h
  cases i with
  |zero=>cases e;exact⟨⟨_,rfl⟩,rfl⟩
  |succ i =>
   have:=DZ (i:=i) (l:=l) h1 (by simpa using e)
   cases l<;>simpa using this
theorem Hw:∀{ls:List L} {τ:DS} {ls':List L},fin ls τ=some ls'->ls'.length=ls.length
 |[],_,_,h=>by cases h;rfl
 |.d x::ls,o::τ,_,h=>by
  obtain⟨zs,h1,h⟩:=oM h
  subst h
  rw[X',X',Hw h1]
 |.c x::ls,o::τ,_,h=>by
  obtain⟨zs,h1,h⟩:=oM h
  subst h
  rw[X',X',Hw h1]
 |.m x::ls,some (.m xs)::τ,_,h=>by
  obtain⟨zs,h1,h⟩:=oM h
  subst h
  rw[X',X',Hw h1]
 |.k x::ls,some (.k xs)::τ,_,h=>by
  obtain⟨zs,h1,h⟩:=oM h
  subst h
  rw[X',X',Hw h1]
theorem MK:∀{ls:List L} {τ:DS} {ls':List L},fin ls τ=some ls'->∀(i:Nat) (d:PyData),ls[i]?≠some (.g d)
 |[],_,_,_,i,d=>by simp
 |.d x::ls,o::τ,_,h,i,d=>by
  obtain⟨zs,h1,h⟩:=oM h
  cases i with
  |zero=>simp
  |succ i=>simpa using MK h1 i d
 |.c x::ls,o::τ,_,h,i,d=>by
  obtain⟨zs,h1,h⟩:=oM h
  cases i with
  |zero=>simp
  |succ i=>simpa using MK h1 i d
 |.m x::ls,some (.m xs)::τ,_,h,i,d=>by
  obtain⟨zs,h1,h⟩:=oM h
  cases i with
  |zero=>simp
  |succ i=>simpa using MK h1 i d
 |.k x::ls,some (.k xs)::τ,_,h,i,d=>by
  obtain⟨zs,h1,h⟩:=oM h
  cases i with
  |zero=>simp
  |succ i=>simpa using MK h1 i d
theorem NG{ls:List L}{τ:DS}{ls':List L}{i:Nat}{x:Ow}(h:fin ls τ=some ls')(e:ls'[i]?=some x.L):(∃ys:Ow,ls[i]?=some ys.L)/\τ[i]?=some (some x.L):=by
 cases x with
 |l xs=>obtain⟨⟨ys,h1⟩,h2⟩:=DZ h e;exact⟨⟨.l ys,h1⟩,h2⟩
 |t xs=>obtain⟨⟨ys,h1⟩,h2⟩:=DZ h e;exact⟨⟨.t ys,h1⟩,h2⟩
theorem B7{α β:Type}{f:α->β}{xs:List α}{i:Nat}{y:β}(h:(xs.map f)[i]?=some y):∃x,xs[i]?=some x/\f x=y:=by
 rw[Z']at h
 cases e:xs[i]? with
 |none=>rw[e]at h;cases h
 |some x=>rw[e]at h;exact⟨x,rfl,E' h⟩
theorem YI{G:List L->Option (PyData×List L)}{fr:Bool}{vs:List V}{H:Hp}{Q:VK}{X:XK}{np:Nat}(hG:∀ls r,G ls=some r->ls.length=np)(h:spD K G fr vs H Q X):vs.length=np:=by
 obtain⟨S,M,ls,r,ls',hR,e,_⟩:=h
 have:=hR.len
 rw[B',B']at this
 rw[this,hG _ _ e]
theorem Oc{fr:Bool}{np nl:Nat}{b:DB}:∀ls r,Aa fr np nl b ls=some r->ls.length=np:=fun ls r h=>by
 unfold Aa at h
 split at h
 ·assumption
 ·cases h
theorem YH{np nl:Nat}{t:TS}{fr:Bool}{b:DB}{N:List Str}{vs:List V}{H:Hp}{Q:VK}{X:XK}(hb:B K np t fr b)(hN:N.length=np+nl)(h:spD K (Aa fr np nl b) fr vs H Q X):t { nx:=fun _ H'=>Q .non H',rt:=Q } (L2.start N vs) H:=by
 obtain⟨S,M,ls,r,ls',hR,e,q⟩:=h
 have hlen:=Oc _ _ e
 have hvl:vs.length=ls.length:=by have:=hR.len;rw[B',B']at this;exact this
 unfold Aa at e
 rw[if_pos hlen]at e
 obtain⟨o,e1,e⟩:=oB e
 have est:L2.start N vs=vs.map some++List.replicate nl none:=by
  unfold L2.start
  rw[hN,hvl,hlen,Nat.add_sub_cancel_left]
 rw[est]
 -- the entry
 have lsm:∀(i:Nat) (l:L),(ls.map some++List.replicate nl none:DS)[i]?=some (some l)->ls[i]?=some l:=fun i l h=>by
  by_cases hi:i<ls.length
  ·rw[dw (by rw[B'];exact hi)]at h
   obtain⟨x,h1,h2⟩:=B7 h
   cases h2;exact h1
  ·rw[dh (by rw[B'];omega),eX]at h
   split at h<;>cases h
 have vsm:∀(i:Nat) (v:V),(vs.map some)[i]?=some (some v)->(vs.map some++List.replicate nl none:St)[i]?=some (some v):=fun i v h=>by
  rw[dw (R'.mp h).1];exact h
 have vsb:∀(i:Nat) (v:V),(vs.map some++List.replicate nl none:St)[i]?=some (some v)->(vs.map some)[i]?=some (some v):=fun i v h=>by
  by_cases hi:i<(vs.map some).length
  ·rw[dw hi]at h;exact h
  ·rw[dh (by omega),eX]at h
   split at h<;>cases h
 have lm:∀(i:Nat) (l:L),ls[i]?=some l->(ls.map some)[i]?=some (some l):=fun i l h=>by rw[Z',h];rfl
 let Mx:Addr->Prop:=fun a=>∃(i:Nat) (xs:Ow),ls[i]?=some xs.L/\vs[i]?=some (.ref a)
 let ar:List (Option V):=(ls.zip vs).map fun p=>match p.1 with
  |.m _=>some p.2
  |.k _=>some p.2
  |_=>none
 have arg:∀(i:Nat) (v:V),ar[i]?=some (some v)->∃xs:Ow,ls[i]?=some xs.L/\vs[i]?=some v:=fun i v h=>by
  obtain⟨⟨l,u⟩,h1,h2⟩:=B7 h
  rw[gN]at h1
  cases l with
  |d x=>cases h2
  |c x=>cases h2
  |m xs=>cases h2;exact⟨.l xs,h1.1,h1.2⟩
  |k xs=>cases h2;exact⟨.t xs,h1.1,h1.2⟩
  |g x=>cases h2
 have gar:∀(i:Nat) (xs:Ow) (v:V),ls[i]?=some xs.L->vs[i]?=some v->ar[i]?=some (some v):=fun i xs v h1 h2=>by
  show((ls.zip vs).map _)[i]?=_
  rw[Z',(gN (z:=(xs.L,v))).mpr ⟨h1,h2⟩]
  cases xs<;>rfl
 have Msub:∀a,Mx a->M a:=fun a ⟨i,xs,h1,h2⟩=>by
  obtain⟨b',us,h3,h4,_⟩:=hR.mt i xs (lm i _ h1)
  rw[Z',h2]at h3
  cases h3;exact h4
 have hng:∀(i:Nat) (d:PyData),ls[i]?≠some (.g d):=by
  cases o with
  |nx t7 =>
   cases fr with
   |false=>obtain⟨ls1,e2,_⟩:=oM e;exact MK e2
   |true=>cases e
  |bk t7=>cases e
  |ct t7=>cases e
  |rt d t7=>obtain⟨ls1,e2,_⟩:=oM e;exact MK e2
 have f0:RF K ⟨S,Mx,H,ar⟩ S Mx (ls.map some++List.replicate nl none) (vs.map some++List.replicate nl none) H:=by
  refine ⟨⟨by simp [hvl], fun i x h => ?_, fun i x h => ?_, fun i x h => ?_, fun i j xs ys a h1 h2 h3 h4 => hR.inj i j xs ys a (lm _ _ (lsm _ _ h1)) (lm _ _ (lsm _ _ h2)) (vsb _ _ h3) (vsb _ _ h4), fun a h => hR.sub a (Msub a h), hR.ex, GR.nil fun i d h => hng i d (lsm i _ h)⟩,
   fun a h=>h,fun b o h _=>h,fun a h=>.inl h,fun a h=>h,hR.ex,fun a h=>hR.sub a (Msub a h),fun a h=>.inl h,fun i v h=>?_,fun i v h=>?_,fun a ⟨i,xs,h1,h2⟩=>⟨i,gar i xs _ h1 h2⟩⟩
  ·obtain⟨v,h1,h2⟩:=hR.dat i x (lm _ _ (lsm _ _ h))
   exact⟨v,vsm _ _ h1,h2⟩
  ·obtain⟨a,us,h1,h2,h3,h4⟩:=hR.mt i x (lm _ _ (lsm _ _ h))
   refine⟨a,us,vsm _ _ h1,⟨i,x,lsm _ _ h,?_⟩,h3,h4⟩
   obtain⟨v,h5,h6⟩:=B7 h1
   cases h6;exact h5
  ·obtain⟨a,us,h1,h2⟩:=hR.cst i x (lm _ _ (lsm _ _ h))
   exact⟨a,us,vsm _ _ h1,h2⟩
  ·obtain⟨xs,h1,h2⟩:=arg i v h
   exact vsm _ _ (by rw[Z',h2];rfl)
  ·obtain⟨xs,h1,h2⟩:=arg i v h
   refine⟨xs,?_⟩
   rw[dw (by rw[B'];exact(R'.mp h1).1)]
   exact lm _ _ h1
 have hnp:ar.length<=np:=by
  show((ls.zip vs).map _).length<=np
  rw[B',List.length_zip]
  omega
 -- the end
 have done:∀{S' M' t7 σ' H' d v} {ls1:List L},RF K ⟨S,Mx,H,ar⟩ S' M' t7 σ' H'->fin ls t7=some ls1->(r,ls')=(d,ls1)->Res K fr S H H' d v->Q v H':=fun {S' M' t7 σ' H' d v ls1} f hf er res=>by
  cases er
  have k:Keep S H S H':=fun b o hn e=>⟨hn,f.old b o e fun z=>hn (hR.sub b (Msub b z))⟩
  refine q v H' ⟨?_,fun i x h=>?_,fun i x h=>?_,fun i x h=>?_,fun i j xs ys a h1 h2 h3 h4=>?_,hR.sub,fun a h=>f.r.ex a (f.sS a h),GR.nil fun i d h=>?_⟩ (fun b o hn e=>f.old b o e fun z=>hn (Msub b z)) res
  ·rw[B',B',Hw hf,hvl]
  ·obtain⟨l,h1,h2⟩:=B7 h
   cases h2
   have:=DZ hf h1
   obtain⟨v,h3,h4⟩:=hR.dat i x (lm _ _ this)
   exact⟨v,h3,h4.mono k.same⟩
  ·obtain⟨l,h1,h2⟩:=B7 h
   cases h2
   obtain⟨⟨ys,h3⟩,h4⟩:=NG hf h1
   obtain⟨a,us,h5,h6,h7,h8⟩:=f.r.mt i x h4
   obtain⟨b,ws,g1,g2,_⟩:=hR.mt i ys (lm _ _ h3)
   obtain⟨u,g3,g4⟩:=B7 g1
   cases g4
   have:=f.par i _ (gar i ys _ h3 g3)
   rw[h5]at this;cases this
   exact⟨a,us,g1,g2,h7,h8.mono (Ej f.sS)⟩
  ·obtain⟨l,h1,h2⟩:=B7 h
   cases h2
   have:=DZ hf h1
   obtain⟨a,us,h3,h4,h5⟩:=hR.cst i x (lm _ _ this)
   exact⟨a,us,h3,k.same.seq h4,h5.mono k.same⟩
  ·obtain⟨l1,g1,g2⟩:=B7 h1
   obtain⟨l2,g3,g4⟩:=B7 h2
   cases g2;cases g4
   obtain⟨⟨zs,h5⟩,_⟩:=NG hf g1
   obtain⟨⟨ws,h6⟩,_⟩:=NG hf g3
   exact hR.inj i j zs ws a (lm _ _ h5) (lm _ _ h6) h3 h4
  ·obtain⟨l,h1,h2⟩:=B7 h
   cases h2
   exact DZ hf h1
 refine hb ⟨S,Mx,H,ar⟩ S Mx _ _ H _ o hnp f0 e1 ?_
 cases o with
 |nx t7 =>
  cases fr with
  |false =>
   obtain⟨ls1,e2,e⟩:=oM e
   intro S' M' σ' H' f k
   exact done f e2 e.symm rfl
  |true=>cases e
 |bk t7=>cases e
 |ct t7=>cases e
 |rt d t7 =>
  obtain⟨ls1,e2,e⟩:=oM e
  intro S' M' σ' H' v f res
  exact done f e2 e.symm res
end DL
end
section
namespace DL
open PySem L2 PyProof.Rows
variable {K:KW}
def BO:List PyData->Option PyData
 |[.list xs]=>some (.int xs.length)
 |[.tuple xs]=>some (.int xs.length)
 |[.str x]=>if x.length<=sizeLine then some (.int x.length) else none
 |_=>none
theorem bg:BR K false (fun xs H Q=>∃x n,xs=[x]/\Rv K x H n/\Q (.int n) H) BO:=by
 intro S H vs ds d Q _ l e q
 unfold BO at e
 split at e
 ·cases e
  obtain⟨v,us,rfl,⟨a,ws,rfl,h,lw⟩,iu⟩:=l
  cases (show us=[] from iu)
  exact⟨_,ws.length,rfl,.inl ⟨ws,SqL.of (hid_iff.mp h).2,rfl⟩,q _ H (fun _ _ e=>e) (by rw[lw.length];rfl)⟩
 ·cases e
  obtain⟨v,us,rfl,⟨a,ws,rfl,h,lw⟩,iu⟩:=l
  cases (show us=[] from iu)
  exact⟨_,ws.length,rfl,.inr ⟨ws,Same.tup same_hid h,rfl⟩,q _ H (fun _ _ e=>e) (by rw[lw.length];rfl)⟩
 ·split at e
  ·rename_i hz
   cases e
   obtain⟨v,us,rfl,iv,iu⟩:=l
   cases (show us=[] from iu)
   cases (show v = .str _ from iv)
   exact⟨_,_,rfl,⟨hz,rfl⟩,q _ H (fun _ _ e=>e) rfl⟩
  ·cases e
 ·cases e
def f1(g:Int->Int):List PyData->Option PyData
 |[.int i]=>some (.int (g i))
 |_=>none
def f2(g:Int->Int->Int):List PyData->Option PyData
 |[.int i,.int j]=>some (.int (g i j))
 |_=>none
theorem c_1{g:Int->Int}:BR K false (fun xs H Q=>∃i,xs=[.int i]/\Q (.int (g i)) H) (f1 g):=by
 intro S H vs ds d Q _ l e q
 unfold f1 at e
 split at e
 ·cases e
  obtain⟨v,us,rfl,iv,iu⟩:=l
  cases (show us=[] from iu)
  cases (show v = .int _ from iv)
  exact⟨_,rfl,q _ H (fun _ _ e=>e) rfl⟩
 ·cases e
theorem c_2{g:Int->Int->Int}:BR K false (fun xs H Q=>∃i j,xs=[.int i,.int j]/\Q (.int (g i j)) H) (f2 g):=by
 intro S H vs ds d Q _ l e q
 unfold f2 at e
 split at e
 ·cases e
  obtain⟨v,us,rfl,iv,w,us',rfl,iw,iu⟩:=l
  cases (show us'=[] from iu)
  cases (show v = .int _ from iv)
  cases (show w = .int _ from iw)
  exact⟨_,_,rfl,q _ H (fun _ _ e=>e) rfl⟩
 ·cases e
def GY:=f1 fun i=>if i<0 then -i else i
def Ft:=f2 fun i j=>if j>i then j else i
def K0:=f2 fun i j=>if j<i then j else i
theorem bh:BR K false (fun xs H Q=>∃i,xs=[.int i]/\Q (.int (if i<0 then -i else i)) H) GY:=c_1
theorem ZD:BR K false (fun xs H Q=>∃i j,xs=[.int i,.int j]/\Q (.int (if j>i then j else i)) H) Ft:=c_2
def K1:List PyData->Option PyData
 |[.int i]=>some (.int i)
 |[.bool b]=>some (.int (if b then 1 else 0))
 |_=>none
def Ts:List PyData->Option (List Int)
 |[]=>some []
 |.int i::r=>(Ts r).map (i::·)
 |_::_=>none
theorem Qj{H:Hp}:∀{ds:List PyData} {vs:List V} {ns:List Int},IsL K H ds vs->Ts ds=some ns->vs=ns.map V.int
 |[],_,_,h,e=>by cases e;exact h
 |.int i::r,_,_,⟨v,us,e1,iv,l⟩,e=>by
  obtain⟨ms,e2,e⟩:=oM e
  subst e
  cases (show v = .int i from iv)
  rw[e1,Qj l e2]
  rfl
 |.none::_,_,_,_,e=>by cases e
 |.bool _::_,_,_,_,e=>by cases e
 |.str _::_,_,_,_,e=>by cases e
 |.list _::_,_,_,_,e=>by cases e
 |.tuple _::_,_,_,_,e=>by cases e
 |.dict _::_,_,_,_,e=>by cases e
def Cr:List PyData->Option PyData
 |[.list xs]=>some (.list xs)
 |[.tuple xs]=>some (.list xs)
 |_=>none
theorem ZE:BR K true (fun xs H Q=>∃p ys,xs=[.ref p]/\(SqL K H p ys\/SqT K H p ys)/\∀l,H l=none->Q (.ref l) (upd H l (.lst ys))) Cr:=by
 intro S H vs ds d Q _ l e q
 unfold Cr at e
 split at e
 ·cases e
  obtain⟨v,us,rfl,⟨a,ws,rfl,h,lw⟩,iu⟩:=l
  cases (show us=[] from iu)
  exact⟨a,ws,rfl,.inl (SqL.of (hid_iff.mp h).2),fun p hp=>q _ _ (Bc hp _) (GL hp lw)⟩
 ·cases e
  obtain⟨v,us,rfl,⟨a,ws,rfl,h,lw⟩,iu⟩:=l
  cases (show us=[] from iu)
  exact⟨a,ws,rfl,.inr (Same.tup same_hid h),fun p hp=>q _ _ (Bc hp _) (GL hp lw)⟩
 ·cases e
def tyN:PyData->String
 |.none=>"NoneType"
 |.bool _=>"bool"
 |.int _=>"int"
 |.str _=>"str"
 |.list _=>"list"
 |.tuple _=>"tuple"
 |.dict _=>"dict"
def cu(T t:String):Bool:=t==T||(T=="int"&&t=="bool")
def cv(T:String)(d:PyData):Bool:=cu T (tyN d)
def cJ(T:String):Bool:=["int","bool","str","list","tuple"].contains T
def Pr(T:String)(a:DX)(τ:DS):Option (PyData×DS):=(a τ).bind fun p=>if cJ T then some (.bool (cv T p.1),p.2) else none
def BY(i j:Nat)(a:DA)(τ:DS):Option Out:=(a τ).bind fun p=>(BA p.1).bind fun ds=>match ds with
 |[x,y]=>(dN i x p.2).bind fun t4=>(dN j y t4).map .nx
 |_=>none
theorem bp{np:Nat}{fr:Bool}{i j:Nat}{ta:TA}{a:DA}(ha:A K ta a):B K np (Zk i j ta) fr (BY i j a):=by
 intro F S M τ σ H D out hnp f ee q
 unfold BY at ee
 obtain⟨⟨x,t4⟩,e1,ee⟩:=oB ee
 obtain⟨ds,e2,ee⟩:=oB ee
 split at ee
 ·rename_i x y
  obtain⟨l7,e3,ee⟩:=oB ee
  obtain⟨p4,e4,ee⟩:=oM ee
  cases ee
  refine ha.run S M τ σ H _ _ t4 f.r e1 fun vs H1 r1 c1 i1=>?_
  obtain⟨v,us,rfl,iv,w,us',rfl,iw,iu⟩:=Dc i1 e2
  cases (show us'=[] from iu)
  refine⟨v,w,rfl,?_⟩
  have f1:=f.step r1 c1 (ha.like _ _ _ e1)
  refine(Gp (K:=K) (i:=i)).run S M t4 σ H1 v x l7 (fun σ' H'=>D.nx (σ'.set j (some w)) H') r1 iv e3 fun σ2 r2 k2=>?_
  have f2:=f1.stay r2 ((Gp (K:=K) (i:=i)).ms _ _ _ e3) k2
  refine(Gp (K:=K) (i:=j)).run S M l7 σ2 H1 w y p4 (fun σ' H'=>D.nx σ' H') r2 iw e4 fun σ3 r3 k3=>?_
  exact q S M σ3 H1 (f2.stay r3 ((Gp (K:=K) (i:=j)).ms _ _ _ e4) k3) (c1.keep f.r.sub)
 ·cases ee
end DL
end
section
namespace DL
open PySem L2
variable {K:KW}
def Bt(i:Nat)(f:DT)(τ:DS):Option (Bool×DS):=match τ[i]? with
 |some (some (.m xs))=>(f (τ.set i (some (.d (.list xs))))).bind fun q=>if q.2.all okM then some (q.1,q.2.set i (some (.m xs))) else none
 |some (some (.k xs))=>(f (τ.set i (some (.d (.dict (Lm xs)))))).bind fun q=>if q.2.all okM then some (q.1,q.2.set i (some (.k xs))) else none
 |_=>none
theorem K3{i:Nat}{f:DT}{τ:DS}{d:Bool}{t7:DS}(e:Bt i f τ=some (d,t7)):∃w t4,τ[i]?=some (some (Ow.L w))/\f (τ.set i (some (.d w.D)))=some (d,t4)/\t4.all okM=true/\t7=t4.set i (some w.L):=by
 unfold Bt at e
 split at e
 ·rename_i xs hx
  obtain⟨⟨z,t4⟩,e1,e⟩:=oB e
  dsimp only at e
  split at e
  ·rename_i h
   cases e
   exact⟨.l xs,t4,hx,e1,h,rfl⟩
  ·cases e
 ·rename_i xs hx
  obtain⟨⟨z,t4⟩,e1,e⟩:=oB e
  dsimp only at e
  split at e
  ·rename_i h
   cases e
   exact⟨.t xs,t4,hx,e1,h,rfl⟩
  ·cases e
 ·cases e
theorem Zf{i:Nat}{t:TT}{f:DT}(h:T K t f):T K t (Bt i f):=by
 refine⟨fun τ d t7 e=>?_,?_⟩
 ·obtain⟨xs,t4,e1,e2,_,rfl⟩:=K3 e
  exact Kp e1 (h.like _ _ _ e2)
 intro S M τ σ H Q d t7 r e q
 obtain⟨xs,t4,e1,e2,ok,rfl⟩:=K3 e
 obtain⟨p,us,hp,hM,hl,ll⟩:=r.mt i xs e1
 refine h.run _ _ _ σ H _ d t4 (frz r e1 hp) e2 fun H' r' c=>?_
 exact q H' (R5 r e1 hp r' (h.like _ _ _ e2) c ok) (fun b o hn e=>c b o (fun z=>hn z.1) e)
def Cu(τ:DS):Option (Bool×DS):=some (true,τ)
theorem Zb:T K Zh Cu:=by
 refine⟨fun τ d t7 e=>?_,?_⟩
 ·cases e;exact .refl
 intro S M τ σ H Q d t7 r e q
 cases e
 exact q H r .refl
def Td(N':List Str)(own:Nat)(fr:List Nat)(scope:Scope)(N:List Str)(sc:Scope):Bool :=
 (scope.kind==.function)&&decide (N'.length=own+fr.length)&&(scope.names.all fun y=>y.2 != .cell)&&(scope.names.all fun y=>y.2 != .local||scope.names.lookup y.1==some .local) &&
 (scope.names.all fun y=>y.2 != .free||sc.names.lookup y.1==some .cell||sc.names.lookup y.1==some .free) &&
 (fr.zipIdx.all fun p=>match N'[own+p.2]?,N[p.1]? with|some x,some y=>decide (x=y)&&scope.names.lookup x==some .free|_,_=>false)
theorem aU{X:Cx}{N':List Str}{own:Nat}{fr:List Nat}{scope:Scope}{N:List Str}{sc:Scope}(hN:X.N=N)(hs:X.env.scope=sc)(h:Td N' own fr scope N sc=true):Rw X N' own fr scope:=by
 unfold Td at h
 simp only[Bool.and_eq_true]at h
 obtain⟨⟨⟨⟨⟨h1,h2⟩,h3⟩,h4⟩,h5⟩,h6⟩:=h
 subst hN hs
 refine⟨eq_of_beq h1,of_decide_eq_true h2,fun y hy=>?_,fun y hy e=>?_,fun x hx=>?_,fun k j e=>?_⟩
 ·have:=eS.mp h3 y hy
  intro z
  rw[z]at this
  simp at this
 ·have:=eS.mp h4 y hy
  rw[e]at this
  simpa using this
 ·have:=eS.mp h5 _ hx
  simpa using this
 ·have hm:(j,k)∈fr.zipIdx:=by
   rw[List.mem_zipIdx_iff_getElem?]
   exact e
  have:=eS.mp h6 _ hm
  dsimp only at this
  split at this
  ·rename_i x y hx hy
   rw[G']at this
   have e1:x=y:=of_decide_eq_true this.1
   subst e1
   exact⟨x,hx,hy,eq_of_beq this.2⟩
  ·cases this
theorem Aj{τ:DS}:fin [] τ=some []:=by cases τ<;>rfl
theorem BI{x:PyData}{ls:List L}{o:Option L}{τ:DS}:fin (.d x::ls) (o::τ)=(fin ls τ).map (.d x::·):=rfl
theorem BJ{x:List PyData}{ls:List L}{o:Option L}{τ:DS}:fin (.c x::ls) (o::τ)=(fin ls τ).map (.c x::·):=rfl
theorem BH{x xs:List PyData}{ls:List L}{τ:DS}:fin (.m x::ls) (some (.m xs)::τ)=(fin ls τ).map (.m xs::·):=rfl
theorem AV{fr:Bool}{np nl:Nat}{b:DB}{ls ls':List L}{d:PyData}{τ:DS}(h:b (ls.map some++List.replicate nl none)=some (.rt d τ))(hl:ls.length=np)(hf:fin ls τ=some ls'):Aa fr np nl b ls=some (d,ls'):=by
 unfold Aa
 rw[if_pos hl,h]
 show(fin ls τ).map _=_
 rw[hf]
 rfl
theorem AE{a b:DB}{τ t4:DS}(h:a τ=some (.nx t4)):AM a b τ=b t4:=by
 unfold AM
 rw[h]
 rfl
theorem Ad{a b:DB}{τ t4:DS}{d:PyData}(h:a τ=some (.rt d t4)):AM a b τ=some (.rt d t4):=by
 unfold AM
 rw[h]
 rfl
theorem AX{e:DX}{g:DG}{τ t4 l7:DS}{d:PyData}(h:e τ=some (d,t4))(k:g d t4=some l7):AN e g τ=some (.nx l7):=by
 unfold AN
 rw[h]
 show(g d t4).map _=_
 rw[k]
 rfl
theorem AZ{e:DX}{τ t4:DS}{d:PyData}(h:e τ=some (d,t4)):AQ e τ=some (.rt d t4):=by
 unfold AQ
 rw[h]
 rfl
theorem Au{c:DT}{a b:DB}{τ t4:DS}(h:c τ=some (true,t4)):AR c a b τ=a t4:=by
 unfold AR
 rw[h]
 rfl
theorem As{c:DT}{a b:DB}{τ t4:DS}(h:c τ=some (false,t4)):AR c a b τ=b t4:=by
 unfold AR
 rw[h]
 rfl
theorem CH{G:List L->Option (PyData×List L)}{a:DA}{τ t4:DS}{rs:List Ar}{ds:List PyData}{r:PyData}{ls:List L}(h:a τ=some (rs,t4))(k:BA rs=some ds)(g:G (ds.map L.d)=some (r,ls)):AH G a τ=some (r,t4):=by
 unfold AH
 rw[h]
 show(BA rs).bind _=_
 rw[k]
 show(G (ds.map L.d)).map _=_
 rw[g]
 rfl
theorem Dr{i:Nat}{G:List L->Option (PyData×List L)}{a:DA}{τ t4:DS}{rs:List Ar}{ds:List PyData}{r:PyData}{ls:List L}{xs:List PyData}(h:a τ=some (rs,t4))(k:BA rs=some ds)(m:t4[i]?=some (some (.c xs)))(g:G (.c xs::ds.map L.d)=some (r,ls)):Ab i G a τ=some (r,t4):=by
 unfold Ab
 rw[h]
 show(BA rs).bind _=_
 rw[k]
 show(match t4[i]? with|some (some (.c xs))=>_|_=>_)=_
 rw[m]
 show(G (.c xs::ds.map L.d)).map _=_
 rw[g]
 rfl
theorem BN{it:DI}{g:DG}{b:DB}{τ t4:DS}{ds:List PyData}(h:it τ=some (ds,t4)):Bh it g b τ=Ay g b ds t4:=by
 unfold Bh
 rw[h]
 rfl
theorem MG{α:Type}{enc:α->PyData}{g:DG}{b:DB}(J:List α->DS->Prop):∀{xs pre:List α} {τ:DS},J pre τ->(∀x pre τ,x∈xs->J pre τ->∃t4 l7,g (enc x) τ=some t4/\b t4=some (.nx l7)/\J (pre++[x]) l7)->∃t7,Ay g b (xs.map enc) τ=some (.nx t7)/\J (pre++xs) t7
 |[],pre,τ,h0,_=>⟨τ,rfl,by rw[dz];exact h0⟩
 |x::xs,pre,τ,h0,h=>by
  obtain⟨t4,l7,e1,e2,h1⟩:=h x pre τ F' h0
  obtain⟨t7,e3,h3⟩:=MG J (xs:=xs) (pre:=pre++[x]) (τ:=l7) h1 (fun y p t hy hj=>h y p t (C' _ hy) hj)
  refine⟨t7,?_,by rw[fP]at h3;exact h3⟩
  rw[U',Ay,e1]
  show(b t4).bind _=_
  rw[e2]
  exact e3
theorem Hn{α:Type}{enc:α->PyData}{g:DG}{c:DT}{e:DX}(J:DS->Prop)(p:α->Bool)(f:α->PyData):∀{xs:List α} {acc:List PyData} {τ:DS},J τ ->
  (∀x τ,x∈xs->J τ->∃t4 l7,g (enc x) τ=some t4/\c t4=some (p x,l7)/\(p x=false->J l7)/\(p x=true->∃p4,e l7=some (f x,p4)/\J p4))->∃t7,C5 g c e (xs.map enc) acc τ=some (acc++(xs.filter p).map f,t7)
 |[],acc,τ,h0,_=>⟨τ,by simp[C5]⟩
 |x::xs,acc,τ,h0,h=>by
  obtain⟨t4,l7,e1,e2,hf,ht⟩:=h x τ F' h0
  have hr:∀y t,y∈xs->J t->_:=fun y t hy hj=>h y t (C' _ hy) hj
  cases hp:p x with
  |false =>
   obtain⟨t7,e3⟩:=Hn J p f (xs:=xs) (acc:=acc) (τ:=l7) (hf hp) hr
   refine⟨t7,?_⟩
   rw[U',C5,e1]
   show(c t4).bind _=_
   rw[e2,hp]
   show C5 g c e (xs.map enc) acc l7=_
   rw[e3,fT,hp]
   rfl
  |true =>
   obtain⟨p4,e4,h4⟩:=ht hp
   obtain⟨t7,e3⟩:=Hn J p f (xs:=xs) (acc:=acc++[f x]) (τ:=p4) h4 hr
   refine⟨t7,?_⟩
   rw[U',C5,e1]
   show(c t4).bind _=_
   rw[e2,hp]
   show(e l7).bind _=_
   rw[e4]
   show C5 g c e (xs.map enc) (acc++[f x]) p4=_
   rw[e3,fT,hp,fP]
   rfl
theorem Pl{own:Nat}{fr:List Nat}{it:DI}{g:DG}{c:DT}{e:DX}{τ t4 l9:DS}{ds acc:List PyData}(h:it τ=some (ds,t4))(hz:ds.length<=sizeLine)(hm:(fr.all fun j=>!isM t4 j)=true)(hl:C5 g c e ds [] (LA own fr t4)=some (acc,l9)):dLC own fr it g c e τ=some (.list acc,t4):=by
 unfold dLC
 rw[h]
 show(if ds.length<=sizeLine/\(fr.all fun j=>!isM t4 j)=true then _ else _)=_
 rw[if_pos ⟨hz,hm⟩,hl]
 rfl
theorem sz{n:Nat}(h:n<=1000):n<=sizeLine:=eE h (by decide)
theorem sz'{n:Nat}(h:n<=1000):(n<=sizeLine)=True:=eq_true (sz h)
theorem UW{m:Int}(h0:0<m)(h1:m<10 ^ 70):Bd 8000 m:=by
 have:Bd 240 m:=Bd.of (m:=10 ^ 70) (by omega) (by omega) (by decide)
 exact this.mono (by decide)
theorem UG{K:KW}{H:Hp}{a:Addr}{xs:List V}(h:SqL K H a xs):SqL K (hid (fun _=>False) H) a xs:=Same.seq (fun b o e=>hid_iff.mpr ⟨fun z=>z,e⟩) h
theorem OM{K:KW}{H:Hp}:∀ns:List Int,IsL K H (ns.map PyData.int) (ns.map V.int)
 |[]=>rfl
 |_::ns=>⟨_,_,rfl,rfl,OM ns⟩
structure Enc{α:Type}[DecidableEq α](enc:α->PyData):Prop where
 eqv:∀a b,PyData.eqv (enc a) (enc b)=decide (a=b)
 can:∀a,(enc a).canLay0=true
 dep:∀a,(enc a).depth<=20
 fix:∀a,Cz (enc a)=true
section
variable {α:Type} [DecidableEq α] {enc:α->PyData}
theorem Enc.ok(h:Enc enc)(a:α):okD (enc a)=true:=by
 unfold okD SeqAt.shaped
 rw[G']
 exact⟨h.can a,decide_eq_true (eE (h.dep a) (by decide))⟩
theorem Enc.canL(h:Enc enc):∀xs:List α,PyData.canLayAll0 (xs.map enc)=true
 |[]=>rfl
 |x::xs=>by
  rw[U',PyData.canLayAll0,h.can,Enc.canL h xs];rfl
theorem Enc.depL(h:Enc enc):∀xs:List α,PyData.depthAll (xs.map enc)<=20
 |[]=>eA _
 |x::xs=>by
  rw[U',PyData.depthAll]
  have:=h.dep x
  have:=Enc.depL h xs
  omega
theorem Enc.okL(h:Enc enc)(xs:List α):okD (.list (xs.map enc))=true:=by
 unfold okD SeqAt.shaped
 rw[G',PyData.canLay0,PyData.depth]
 exact⟨h.canL xs,decide_eq_true (by have:=h.depL xs;omega)⟩
theorem Enc.eqvL(h:Enc enc):∀xs ys:List α,PyData.eqvAll (xs.map enc) (ys.map enc)=decide (xs=ys)
 |[],[]=>rfl
 |[],_::_=>rfl
 |_::_,[]=>rfl
 |x::xs,y::ys=>by
  rw[U',U',PyData.eqvAll,h.eqv,Enc.eqvL h xs ys]
  by_cases e:x=y
  ·subst e
   by_cases e':xs=ys
   ·subst e';simp
   ·simp[e']
  ·simp[e]
theorem Enc.eqL(h:Enc enc)(xs ys:List α):PyData.eqv (.list (xs.map enc)) (.list (ys.map enc))=decide (xs=ys):=by
 rw[PyData.eqv];exact h.eqvL xs ys
theorem Enc.any(h:Enc enc)(x:α):∀xs:List α,((xs.map enc).any fun y=>PyData.eqv y (enc x))=decide (x∈xs)
 |[]=>by simp
 |y::ys=>by
  rw[U',gn,h.eqv,Enc.any h x ys]
  by_cases e:y=x
  ·subst e;simp
  ·have:¬x=y:=fun z=>e z.symm
   simp[e,this]
theorem Enc.fixL(h:Enc enc):∀xs:List α,fixDs (xs.map enc)=true
 |[]=>rfl
 |x::xs=>by rw[U',fixDs,h.fix,Enc.fixL h xs];rfl
theorem Enc.fEq(h:Enc enc)(a b:α):DL.fEq (enc a) (enc b)=some (.bool (decide (a=b))):=by
 unfold DL.fEq;rw[h.ok,h.ok,h.eqv];rfl
theorem Enc.fNe(h:Enc enc)(a b:α):DL.fNe (enc a) (enc b)=some (.bool (!decide (a=b))):=by
 unfold DL.fNe;rw[h.ok,h.ok,h.eqv];rfl
theorem Enc.fNeL(h:Enc enc)(a b:List α):DL.fNe (.list (a.map enc)) (.list (b.map enc))=some (.bool (!decide (a=b))):=by
 unfold DL.fNe;rw[h.okL,h.okL,h.eqL];rfl
theorem Enc.fIn(h:Enc enc)(a:α)(xs:List α):DL.fIn false (enc a) (.list (xs.map enc))=some (.bool (decide (a∈xs))):=by
 simp only[DL.fIn,h.ok,h.okL,h.any,Bool.and_self,if_true,Bool.false_eq_true,if_false]
theorem Enc.fNotIn(h:Enc enc)(a:α)(xs:List α):DL.fIn true (enc a) (.list (xs.map enc))=some (.bool (!decide (a∈xs))):=by
 simp only[DL.fIn,h.ok,h.okL,h.any,Bool.and_self,if_true]
end
theorem encI:Enc (α:=Int) PyData.int:=⟨fun a b=>by rw[PyData.eqv];by_cases h:a=b<;>simp[h],fun _=>rfl,fun _=>by rw[PyData.depth];decide,fun _=>rfl⟩
def ec(p:Int×Int):PyData:=.tuple [.int p.1,.int p.2]
theorem encC:Enc ec:=by
 refine⟨fun a b=>?_,fun _=>rfl,fun a=>?_,fun _=>rfl⟩
 ·unfold ec
  simp only[PyData.eqv,PyData.eqvAll,Bool.and_true]
  obtain⟨a1,a2⟩:=a
  obtain⟨b1,b2⟩:=b
  by_cases h1:a1=b1
  ·by_cases h2:a2=b2<;>simp[h1,h2]
  ·simp[h1]
 ·unfold ec;simp[PyData.depth,PyData.depthAll]
structure Bx where
 x:Int
 y:Int
 w:Int
 h:Int
 deriving DecidableEq
def eb(b:Bx):PyData:=.tuple [.int b.x,.int b.y,.int b.w,.int b.h]
def rng(lo:Int)(n:Nat):List Int:=(List.range n).map fun(k:Nat)=>lo+(k:Int)
theorem ME(lo:Int)(n:Nat):Fi lo n=(rng lo n).map PyData.int:=by
 unfold Fi rng
 rw[fD]
 rfl
theorem Eu(lo:Int)(n:Nat):(rng lo n).length=n:=by unfold rng;simp
theorem mem_rng{lo v n:Int}:v∈rng lo n.toNat↔lo<=v/\v<lo+n:=by
 unfold rng
 rw[df]
 constructor
 ·rintro⟨k,hk,rfl⟩
  rw[eQ]at hk
  omega
 ·rintro⟨h1,h2⟩
  exact⟨(v-lo).toNat,by rw[eQ];omega,by omega⟩
theorem J0{α:Type}{R:α->α->Prop}(as:∀a b,R a b->¬R b a):∀{l1 l2:List α},l1.Pairwise R->l2.Pairwise R->(∀x,x∈l1↔x∈l2)->l1=l2
 |[],[],_,_,_=>rfl
 |[],y::_,_,_,h=>by have:=(h y).mpr F';simp at this
 |x::_,[],_,_,h=>by have:=(h x).mp F';simp at this
 |x::xs,y::ys,h1,h2,h=>by
  rw[gA]at h1 h2
  have ir:∀a,¬R a a:=fun a z=>as a a z z
  have e:x=y:=by
   rcases P'.mp ((h x).mp F')with e|e
   ·exact e
   ·rcases P'.mp ((h y).mpr F')with e'|e'
    ·exact e'.symm
    ·exact absurd (h1.1 y e') (as _ _ (h2.1 x e))
  subst e
  congr 1
  refine J0 as h1.2 h2.2 fun z=>?_
  constructor
  ·intro hz
   rcases P'.mp ((h z).mp (C' _ hz))with e|e
   ·subst e;exact absurd (h1.1 z hz) (ir z)
   ·exact e
  ·intro hz
   rcases P'.mp ((h z).mpr (C' _ hz))with e|e
   ·subst e;exact absurd (h2.1 z hz) (ir z)
   ·exact e
abbrev Cl:=Int×Int
def cM(x v:Int)(w:Nat):List Cl:=(rng x w).map fun u=>(u,v)
def cells(b:Bx):List Cl:=(rng b.y b.h.toNat).flatMap fun v=>cM b.x v b.w.toNat
def inB(b:Bx)(p:Cl):Prop:=b.x<=p.1/\p.1<b.x+b.w/\b.y<=p.2/\p.2<b.y+b.h
instance {b:Bx} {p:Cl}:Decidable (inB b p):=by unfold inB;infer_instance
def nM(o:Option L):Prop:=(∀xs,o≠some (.m xs))/\∀xs,o≠some (.k xs)
theorem Ai:nM none:=⟨fun xs z=>(nomatch z),fun xs z=>(nomatch z)⟩
theorem BC{x:PyData}:nM (some (.d x)):=⟨fun xs z=>(nomatch z),fun xs z=>(nomatch z)⟩
theorem BE{i:Nat}{d:PyData}{τ:DS}{o:Option L}(h:τ[i]?=some o)(hn:nM o):dN i d τ=some (τ.set i (some (.d d))):=by
 unfold dN
 rw[h]
 cases o with
 |none=>rfl
 |some l=>cases l with
  |m xs=>exact absurd rfl (hn.1 xs)
  |k xs=>exact absurd rfl (hn.2 xs)
  |d x=>rfl
  |c x=>rfl
  |g x=>rfl
variable {K:KW}
def isC(τ:DS)(j:Nat):Bool:=match τ[j]? with
 |some (some (.c _))=>true
 |_=>false
def dAS(i:Nat)(r:DA)(τ:DS):Option (List Ar×DS):=if (isM τ i||isC τ i)=true then (r τ).map fun q=>(.s i::q.1,q.2) else none
def mkL(τ:DS):List Ar->Option (List L)
 |[]=>some []
 |.d x::r=>(mkL τ r).map (.d x::·)
 |.s i::r=>match τ[i]? with
  |some (some (.m xs))=>(mkL τ r).map (.m xs::·)
  |some (some (.c xs))=>(mkL τ r).map (.c xs::·)
  |_=>none
def nMb:L->Bool
 |.m _=>false
 |.k _=>false
 |_=>true
def Gu(k i:Nat)(G:List L->Option (PyData×List L))(a:DA)(τ:DS):Option (PyData×DS):=(a τ).bind fun p=>(mkL p.2 p.1).bind fun ls=>match p.1[k]?,ls[k]? with
 |some (.s j),some (.m _)=>if j=i/\(ls.set k (.d .none)).all nMb=true then (G ls).bind fun q=>match q.2[k]? with
   |some (.m xs)=>some (q.1,p.2.set i (some (.m xs)))
   |_=>none
  else none
 |_,_=>none
theorem JK{α:Type}{enc:α->PyData}{g:DG}{b:DB}{all:List α}(J:List α->DS->Prop)(h:∀pre x post τ,all=pre++x::post->J pre τ->∃t4 l7,g (enc x) τ=some t4/\b t4=some (.nx l7)/\J (pre++[x]) l7) :
  ∀{xs pre:List α} {τ:DS},all=pre++xs->J pre τ->∃t7,Ay g b (xs.map enc) τ=some (.nx t7)/\J all t7
 |[],pre,τ,e,h0=>⟨τ,rfl,by rw[e,dz];exact h0⟩
 |x::xs,pre,τ,e,h0=>by
  obtain⟨t4,l7,e1,e2,h1⟩:=h pre x xs τ e h0
  obtain⟨t7,e3,h3⟩:=JK J h (xs:=xs) (pre:=pre++[x]) (τ:=l7) (by rw[e,fP];rfl) h1
  refine⟨t7,?_,h3⟩
  rw[U',Ay,e1]
  show(b t4).bind _=_
  rw[e2]
  exact e3
theorem A1{α:Type}{enc:α->PyData}{g:DG}{b:DB}{xs:List α}{τ:DS}(J:List α->DS->Prop)(h0:J [] τ)(h:∀pre x post τ,xs=pre++x::post->J pre τ->∃t4 l7,g (enc x) τ=some t4/\b t4=some (.nx l7)/\J (pre++[x]) l7) :
  ∃t7,Ay g b (xs.map enc) τ=some (.nx t7)/\J xs t7:=JK J h (pre:=[]) rfl h0
theorem Eb{n:Int}{τ t4:DS}{a:DA}(h:a τ=some ([.d (.int n)],t4))(h0:-100000<=n)(h1:n<=100000):dR1 a τ=some ((rng 0 n.toNat).map PyData.int,t4):=by
 unfold dR1
 rw[h]
 show(if -(2 ^ 62)<=n/\n<2 ^ 62 then some (Fi 0 n.toNat,t4) else none)=_
 rw[if_pos (by omega),ME]
theorem Bu{α:Type}{xs pre post:List α}{x:α}(e:xs=pre++x::post):pre.length<xs.length:=by rw[e,L',X'];omega
theorem Q5{α:Type}{xs pre post:List α}{x:α}(e:xs=pre++x::post):x∈xs:=by rw[e];exact dW _ F'
end DL
end
section
namespace DL
open PySem PySem.Spec L2 PyProof.Rows
section
variable {prog:Program} {w:World} {A:Around} {s:Shared} {R:Result->Shared->Prop}
variable {I:Addr} {fp wr:List Addr} {G:Array GenState->Array GenState->Prop} {n:Nat} {P:Nat->Value->Prop} {St:Nat->Shared->Prop}
end
section
variable {prog:Program} {w:World} {A:Around} {E:Value->Shared->Prop} {s:Shared}
variable {I:Addr} {fp wr:List Addr} {G:Array GenState->Array GenState->Prop} {n:Nat} {P:Nat->Value->Prop} {St:Nat->Shared->Prop}
end
theorem UT:bootBuiltins "reversed"=some (.type "reversed"):=by decide +kernel
variable {K:KW}
def Po(f:DX)(τ:DS):Option (PyData×DS):=(f τ).bind fun p=>match p.1 with
 |.list xs=>some (.list xs.reverse,p.2)
 |_=>none
theorem Dk:okM none=true:=rfl
theorem Kh{x:PyData}:okM (some (.d x))=true:=rfl
theorem Ki{x:List PyData}:okM (some (.c x))=true:=rfl
theorem Kg{x:List PyData}:okM (some (.m x))=fixDs x:=rfl
theorem Fj{o:Option L}(h:nM o):okM o=true:=by
 cases o with
 |none=>rfl
 |some l=>cases l with
  |m xs=>exact absurd rfl (h.1 xs)
  |k xs=>exact absurd rfl (h.2 xs)
  |d x=>rfl
  |c x=>rfl
  |g x=>rfl
end DL
end
section
namespace Srt
open PySem PySem.W PyProof.Rows
def Gd(n:Nat)(r:Nat->Nat->Bool){α:Type}:KasT α->(α->Prop)->Prop
 |.ret a,Q=>Q a
 |.ask i j k,Q=>i<n/\j<n/\Gd n r (k (r i j)) Q
variable {n:Nat} {r:Nat->Nat->Bool}
theorem EI{α:Type}{Q Q':α->Prop}(h:∀a,Q a->Q' a):∀{t:KasT α},Gd n r t Q->Gd n r t Q'
 |.ret a,g=>h a g
 |.ask i j k,⟨a,b,g⟩=>⟨a,b,EI h g⟩
theorem GQ{α β:Type}{f:α->KasT β}{Q:β->Prop}:∀{t:KasT α},Gd n r t (fun a=>Gd n r (f a) Q)->Gd n r (t.bind f) Q
 |.ret a,g=>g
 |.ask i j k,⟨a,b,g⟩=>⟨a,b,GQ g⟩
theorem Wo{α:Type}{cmp:Nat->Nat->(Bool->Shared->Prop)->Shared->Prop}{Q:α->Prop}{s:Shared}(hc:∀i j C,i<n->j<n->C (r i j) s->cmp i j C s):∀{t:KasT α} {R:α->Shared->Prop},Gd n r t Q->(∀a,Q a->R a s)->t.kasWp cmp R s
 |.ret a,R,g,h=>h a g
 |.ask i j k,R,⟨a,b,g⟩,h=>hc i j _ a b (Wo hc g h)
structure Ord(n:Nat)(r:Nat->Nat->Bool):Prop where
 irr:∀i,i<n->r i i=false
 tr:∀i j k,i<n->j<n->k<n->r i j=true->r j k=true->r i k=true
 tot:∀i j,i<n->j<n->i≠j->r i j=false->r j i=true
structure Arr(n:Nat)(p:Array Nat):Prop where
 sz:p.size=n
 lt:∀a,a<n->p.getD a 0<n
 inj:∀a b,a<n->b<n->p.getD a 0=p.getD b 0->a=b
 pm:p.Perm (List.toArray (List.range n))
def Up(r:Nat->Nat->Bool)(p:Array Nat)(k:Nat):Prop:=∀a b,a<b->b<k->r (p.getD a 0) (p.getD b 0)=true
def Dn(r:Nat->Nat->Bool)(p:Array Nat)(k:Nat):Prop:=∀a b,a<b->b<k->r (p.getD b 0) (p.getD a 0)=true
theorem Uk(O:Ord n r){p:Array Nat}(A:Arr n p){k:Nat}(hk:1<=k)(hn:k<n)(u:Up r p k)(h:r (p.getD k 0) (p.getD (k-1) 0)=false):Up r p (k+1):=by
 have h1:r (p.getD (k-1) 0) (p.getD k 0)=true:=O.tot _ _ (A.lt _ hn) (A.lt _ (by omega)) (fun z=>by have:=A.inj _ _ hn (by omega) z;omega) h
 intro a b hab hb
 by_cases e:b=k
 ·subst e
  by_cases e2:a=b-1
  ·subst e2;exact h1
  ·exact O.tr _ _ _ (A.lt _ (by omega)) (A.lt _ (by omega)) (A.lt _ hn) (u a (b-1) (by omega) (by omega)) h1
 ·exact u a b hab (by omega)
theorem Qp(O:Ord n r){p:Array Nat}(A:Arr n p){k:Nat}(hk:1<=k)(hn:k<n)(u:Dn r p k)(h1:r (p.getD k 0) (p.getD (k-1) 0)=true):Dn r p (k+1):=by
 intro a b hab hb
 by_cases e:b=k
 ·subst e
  by_cases e2:a=b-1
  ·subst e2;exact h1
  ·exact O.tr _ _ _ (A.lt _ hn) (A.lt _ (by omega)) (A.lt _ (by omega)) h1 (u a (b-1) (by omega) (by omega))
 ·exact u a b hab (by omega)
theorem asc(O:Ord n r){p:Array Nat}(A:Arr n p):∀(f k:Nat),1<=k->k+f<=n->Up r p k->Gd n r (kas_asc p f k) fun m=>k<=m/\m<=k+f/\Up r p m/\(m<k+f->r (p.getD m 0) (p.getD (m-1) 0)=true)
 |0,k,h1,h2,u=>⟨J' _,by omega,u,by omega⟩
 |f+1,k,h1,h2,u=>by
  refine⟨A.lt _ (by omega),A.lt _ (by omega),?_⟩
  cases c:r (p.getD k 0) (p.getD (k-1) 0) with
  |true=>exact⟨J' _,by omega,u,fun _=>c⟩
  |false =>
   show Gd n r (kas_asc p f (k+1)) _
   refine EI ?_ (asc O A f (k+1) (by omega) (by omega) (Uk O A h1 (by omega) u c))
   rintro m ⟨h3,h4,h5,h6⟩
   exact⟨by omega,by omega,h5,fun z=>h6 (by omega)⟩
theorem bC(O:Ord n r){p:Array Nat}(A:Arr n p):∀(f k:Nat),1<=k->k+f<=n->Dn r p k->Gd n r (kas_desc f p k 0) fun x=>x.1=p/\x.2.2=0/\k<=x.2.1/\x.2.1<=k+f/\Dn r p x.2.1
 |0,k,h1,h2,u=>⟨rfl,rfl,J' _,by show k<=k+0;omega,u⟩
 |f+1,k,h1,h2,u=>by
  refine⟨A.lt _ (by omega),A.lt _ (by omega),?_⟩
  cases c:r (p.getD k 0) (p.getD (k-1) 0) with
  |true =>
   show Gd n r (kas_desc f p (k+1) 0) _
   refine EI ?_ (bC O A f (k+1) (by omega) (by omega) (Qp O A h1 (by omega) u c))
   rintro m ⟨h3,h4,h5,h6,h7⟩
   exact⟨h3,h4,by omega,by omega,h7⟩
  |false =>
   refine⟨A.lt _ (by omega),A.lt _ (by omega),?_⟩
   have h3:r (p.getD (k-1) 0) (p.getD k 0)=true:=O.tot _ _ (A.lt _ (by omega)) (A.lt _ (by omega)) (fun z=>by have:=A.inj _ _ (by omega) (by omega) z;omega) c
   rw[h3]
   exact⟨rfl,rfl,J' _,by show k<=k+(f+1);omega,u⟩
theorem ND{p q:Array Nat}{a b:Nat}(h:q[a]?=p[b]?):q.getD a 0=p.getD b 0:=by
 rw[eJ,eJ,h]
theorem Hb{p:Array Nat}{k:Nat}(hk:k<=p.size)(a:Nat):(kas_rev p 0 k).getD a 0=p.getD (if a<k then k-1-a else a) 0:=by
 have e:=getElem?_mirror_all (i:=0) hk a
 unfold kas_rev
 refine ND (e.trans ?_)
 by_cases h:a<k
 ·rw[if_pos ⟨eA _,h⟩,if_pos h];congr 1;omega
 ·rw[if_neg (fun z=>h z.2),if_neg h]
theorem Qz{p:Array Nat}(A:Arr n p){k:Nat}(hk:k<=n):Arr n (kas_rev p 0 k):=by
 have hz:=A.sz
 refine⟨by unfold kas_rev;rw[mirror_size,hz],fun a ha=>?_,fun a b ha hb e=>?_,?_⟩
 ·rw[Hb (by omega)]
  refine A.lt _ ?_
  split<;>omega
 ·rw[Hb (by omega),Hb (by omega)]at e
  have:=A.inj _ _ (by split<;>omega) (by split<;>omega) e
  split at this<;>split at this<;>omega
 ·exact(mirror_perm _ _ _ _).trans A.pm
theorem W4{p:Array Nat}(A:Arr n p){k:Nat}(hk:k<=n)(d:Dn r p k):Up r (kas_rev p 0 k) k:=by
 have hz:=A.sz
 intro a b hab hb
 rw[Hb (by omega),Hb (by omega),if_pos (by omega),if_pos hb]
 exact d _ _ (by omega) (by omega)
def Res(n:Nat)(r:Nat->Nat->Bool)(x:Nat×Array Nat):Prop:=Arr n x.2/\1<=x.1/\x.1<=n/\Up r x.2 x.1
theorem Za(O:Ord n r){p:Array Nat}(A:Arr n p){k:Nat}(h1:1<=k)(hk:k<=n)(d:Dn r p k):Gd n r (kas_tail3 k n p) (Res n r):=by
 unfold kas_tail3
 refine GQ (EI ?_ (asc O (Qz A hk) (n-k) k h1 (by omega) (W4 A hk d)))
 rintro m ⟨h3,h4,h5,_⟩
 exact⟨Qz A hk,by show 1<=m;omega,by show m<=n;omega,h5⟩
theorem bF(O:Ord n r){p:Array Nat}(A:Arr n p)(h1:1<=n):Gd n r (kas_count n p) (Res n r):=by
 unfold kas_count
 refine GQ (EI ?_ (asc O A (n-1) 1 (J' _) (by omega) (fun a b h h'=>by omega)))
 rintro m ⟨h3,h4,h5,h6⟩
 by_cases e:m=n
 ·rw[if_pos (by simpa using e)]
  exact⟨A,by show 1<=m;omega,by show m<=n;omega,h5⟩
 ·rw[if_neg (by simpa using e)]
  by_cases hm:m>1
  ·rw[if_pos hm]
   refine⟨A.lt _ (by omega),A.lt _ (by omega),?_⟩
   rw[h5 0 (m-1) (by omega) (by omega)]
   exact⟨A,by show 1<=m;omega,by show m<=n;omega,h5⟩
  ·rw[if_neg hm]
   have hm1:m=1:=by omega
   subst hm1
   have c:=h6 (by omega)
   unfold kas_descPart
   refine GQ (EI ?_ (bC O A (n-2) 2 (by omega) (by omega) (Qp O A (k:=1) (by omega) (by omega) (fun a b h h'=>by omega) c)))
   rintro⟨q,k,z⟩ ⟨rfl,rfl,h7,h8,h9⟩
   dsimp only at *
   rw[if_neg (by omega)]
   exact Za O A (by omega) (by omega) h9
theorem place(O:Ord n r){p:Array Nat}(A:Arr n p){k:Nat}(hk:k<n)(u:Up r p k):∀(f a b:Nat),b-a<=f->a<=b->b<=k->(∀c,c<a->r (p.getD c 0) (p.getD k 0)=true)->(∀c,b<=c->c<k->r (p.getD k 0) (p.getD c 0)=true) ->
  Gd n r (kas_place p k f a b) fun l=>l<=k/\(∀c,c<l->r (p.getD c 0) (p.getD k 0)=true)/\(∀c,l<=c->c<k->r (p.getD k 0) (p.getD c 0)=true)
 |0,a,b,hf,hab,hb,h1,h2=>⟨by omega,h1,fun c hc hk=>h2 c (by omega) hk⟩
 |f+1,a,b,hf,hab,hb,h1,h2=>by
  unfold kas_place
  by_cases e:a≥b
  ·rw[if_pos e]
   exact⟨by omega,h1,fun c hc hk=>h2 c (by omega) hk⟩
  ·rw[if_neg e]
   refine⟨A.lt _ hk,A.lt _ (by omega),?_⟩
   have hm:(a+b) / 2<b:=by omega
   have hm2:a<=(a+b) / 2:=by omega
   generalize (a+b) / 2=m at *
   cases c:r (p.getD k 0) (p.getD m 0) with
   |true =>
    refine place O A hk u f a m (by omega) (by omega) (by omega) h1 fun d hd hdk=>?_
    by_cases e2:d=m
    ·subst e2;exact c
    ·exact O.tr _ _ _ (A.lt _ hk) (A.lt _ (by omega)) (A.lt _ (by omega)) c (u m d (by omega) hdk)
   |false =>
    have c':r (p.getD m 0) (p.getD k 0)=true:=O.tot _ _ (A.lt _ hk) (A.lt _ (by omega)) (fun z=>by have:=A.inj _ _ hk (by omega) z;omega) c
    refine place O A hk u f (m+1) b (by omega) (by omega) hb (fun d hd=>?_) h2
    by_cases e2:d=m
    ·subst e2;exact c'
    ·exact O.tr _ _ _ (A.lt _ (by omega)) (A.lt _ (by omega)) (A.lt _ hk) (u d m (by omega) (by omega)) c'
theorem WB{p:Array Nat}{k l:Nat}(hk:k<p.size)(hl:l<=k)(a:Nat):(bubble p k (k-l)).getD a 0=p.getD (if a=l then k else if l<a/\a<=k then a-1 else a) 0:=by
 have e:=getElem?_bubble hk (k-l) (by omega) a
 refine ND (e.trans ?_)
 rw[show k-(k-l)=l by omega]
 split
 ·rfl
 ·split<;>rfl
theorem bin(O:Ord n r):∀(f:Nat) {p:Array Nat} {k:Nat},Arr n p->k+f=n->Up r p k->Gd n r (kas_bin f p k) fun q=>Arr n q/\Up r q n
 |0,p,k,A,h,u=>⟨A,by rw[<- h];exact u⟩
 |f+1,p,k,A,h,u=>by
  unfold kas_bin
  refine GQ (EI ?_ (place O A (by omega) u k 0 k (by omega) (by omega) (J' _) (fun c h=>by omega) (fun c h h'=>by omega)))
  rintro l ⟨h1,h2,h3⟩
  have hz:=A.sz
  have g:=fun a=>WB (p:=p) (k:=k) (l:=l) (by omega) h1 a
  have A':Arr n (bubble p k (k-l)):=by
   refine⟨by rw[bubble_size,hz],fun a ha=>?_,fun a b ha hb e=>?_,(bubble_perm _ _ _).trans A.pm⟩
   ·rw[g]
    refine A.lt _ ?_
    split
    ·omega
    ·split<;>omega
   ·rw[g,g]at e
    have:=A.inj _ _ (by split<;>first|omega|(split<;>omega)) (by split<;>first|omega|(split<;>omega)) e
    split at this<;>split at this<;>(try split at this)<;>(try split at this)<;>omega
  refine bin O f A' (by omega) fun a b hab hb=>?_
  rw[g,g]
  by_cases ea:a=l
  ·rw[if_pos ea,if_neg (by omega),if_pos (by omega)]
   exact h3 _ (by omega) (by omega)
  ·rw[if_neg ea]
   by_cases eb:b=l
   ·rw[if_pos eb,if_neg (by omega)]
    exact h2 _ (by omega)
   ·rw[if_neg eb]
    by_cases ca:l<a/\a<=k
    ·rw[if_pos ca,if_pos (by omega)]
     exact u _ _ (by omega) (by omega)
    ·rw[if_neg ca]
     by_cases cb:l<b/\b<=k
     ·rw[if_pos cb]
      exact u _ _ (by omega) (by omega)
     ·rw[if_neg cb]
      exact u _ _ (by omega) (by omega)
theorem MS:Arr n (List.toArray (List.range n)):=by
 have g:∀a,a<n->(List.toArray (List.range n)).getD a 0=a:=fun a ha=>by
  rw[eJ]
  simp[ha]
 refine⟨by simp,fun a ha=>by rw[g a ha];exact ha,fun a b ha hb e=>by rw[g a ha,g b hb]at e;exact e,.refl _⟩
theorem sort(O:Ord n r)(h1:1<=n):Gd n r (kas_sort n) fun q=>Arr n q/\Up r q n:=by
 unfold kas_sort
 refine GQ (EI ?_ (bF O MS h1))
 rintro⟨m,p⟩ ⟨A,h2,h3,u⟩
 dsimp only at *
 by_cases e:m<n
 ·rw[if_pos e]
  exact bin O _ A (by omega) (by rw[show max m 1=m by omega];exact u)
 ·rw[if_neg e]
  exact⟨A,by rw[show n=m by omega];exact u⟩
end Srt
end
section
namespace Srt
open PySem PySem.W PyProof.Rows HT
theorem lex_irr:∀(x:List Int),lexLt x x=false
 |[]=>rfl
 |a::x=>by rw[E5,if_pos rfl];exact lex_irr x
theorem lex_tr:∀{x y z:List Int},lexLt x y=true->lexLt y z=true->lexLt x z=true
 |[],[],_,h,_=>by cases h
 |[],_::_,[],_,h=>by cases h
 |[],_::_,_::_,_,_=>rfl
 |_::_,[],_,h,_=>by cases h
 |_::_,_::_,[],_,h=>by cases h
 |a::x,b::y,c::z,h,h'=>by
  rw[E5]at *
  by_cases e:a=b
  ·rw[if_pos e]at h
   by_cases e2:b=c
   ·rw[if_pos e2]at h'
    rw[if_pos (e.trans e2)]
    exact lex_tr h h'
   ·rw[if_neg e2]at h'
    rw[if_neg (by omega)]
    simp only[decide_eq_true_eq]at *
    omega
  ·rw[if_neg e]at h
   simp only[decide_eq_true_eq]at h
   by_cases e2:b=c
   ·rw[if_neg (by omega)]
    simp only[decide_eq_true_eq]
    omega
   ·rw[if_neg e2]at h'
    simp only[decide_eq_true_eq]at h'
    rw[if_neg (by omega)]
    simp only[decide_eq_true_eq]
    omega
theorem lex_tot:∀{x y:List Int},x≠y->lexLt x y=false->lexLt y x=true
 |[],[],h,_=>absurd rfl h
 |[],_::_,_,h=>by cases h
 |_::_,[],_,_=>rfl
 |a::x,b::y,h,h'=>by
  rw[E5]at *
  by_cases e:a=b
  ·rw[if_pos e]at h'
   rw[if_pos e.symm]
   exact lex_tot (fun z=>h (by rw[e,z])) h'
  ·rw[if_neg e]at h'
   rw[if_neg (fun z=>e z.symm)]
   simp only[decide_eq_true_eq,decide_eq_false_iff_not]at *
   omega
def lexr(ks:List (List Int))(i j:Nat):Bool:=lexLt (ks.getD i []) (ks.getD j [])
theorem PY{ks:List (List Int)}(h:ks.Nodup){i j:Nat}(hi:i<ks.length)(hj:j<ks.length)(e:ks.getD i []=ks.getD j []):i=j:=by
 rw[eY,eY,eG hi,eG hj]at e
 have e:ks[i]=ks[j]:=e
 have P:=gO.mp h
 rcases gX i j with q|q|q
 ·exact absurd e (P i j hi hj q)
 ·exact q
 ·exact absurd e.symm (P j i hj hi q)
theorem VG{ks:List (List Int)}(h:ks.Nodup):Ord ks.length (lexr ks) :=
 ⟨fun i _=>lex_irr _,fun i j k _ _ _ a b=>lex_tr a b,fun i j hi hj ne e=>lex_tot (fun z=>ne (PY h hi hj z)) e⟩
def Tp(h:Heap)(d:Nat):List Value->List (List Int)->Prop
 |[],[]=>True
 |v::vs,k::ks=>(∃a its,v = .ref a/\IsTup h a its/\IntsAre its.toList k/\k.length=d+1)/\Tp h d vs ks
 |_,_=>False
theorem Tp.get{h:Heap}{d:Nat}:∀{vs:List Value} {ks:List (List Int)} {i:Nat},Tp h d vs ks->i<vs.length->∃a its,vs.getD i Value.none = .ref a/\IsTup h a its/\IntsAre its.toList (ks.getD i [])/\(ks.getD i []).length=d+1
 |[],_,_,_,hi=>absurd hi (eP _)
 |_::_,[],_,t,_=>t.elim
 |v::vs,k::ks,0,t,_=>t.1
 |v::vs,k::ks,i+1,t,hi=>by
  rw[List.getD_cons_succ,List.getD_cons_succ]
  exact Tp.get t.2 (by simpa using hi)
theorem Tp.mono{h h':Heap}{d:Nat}(k:∀b o,h.get? b=some o->h'.get? b=some o):∀{vs:List Value} {ks:List (List Int)},Tp h d vs ks->Tp h' d vs ks
 |[],[],_=>trivial
 |_::_,_::_,⟨⟨a,its,e,⟨o,ho,hc,n,hd⟩,hi,hl⟩,t⟩=>⟨⟨a,its,e,⟨o,k _ _ ho,hc,n,hd⟩,hi,hl⟩,t.mono k⟩
 |[],_::_,t=>t.elim
 |_::_,[],t=>t.elim
theorem Tp.kat{h:Heap}{d:Nat}:∀{vs:List Value} {ks:List (List Int)},Tp h d vs ks->∃fs,KatTups h vs fs/\fs.length=vs.length/\∀v∈fs,∃n t,v=Value.int n t
 |[],[],_=>⟨[],.nil,rfl,fun v h=>by simp at h⟩
 |v::vs,k::ks,⟨⟨a,its,e,⟨o,ho,hc,n,hd⟩,hi,hl⟩,t⟩=>by
  obtain⟨fs,h1,h2,h3⟩:=t.kat
  subst e
  obtain⟨f,hf,m,u,rfl⟩:∃f,its[0]?=some f/\∃m u,f=Value.int m u:=by
   obtain⟨l⟩:=its
   cases hi with
   |nil=>simp at hl
   |cons m u r=>exact⟨_,rfl,m,u,rfl⟩
  exact ⟨Value.int m u :: fs, .cons ho hc hd hf h1, by rw [X', X', h2], fun v hv => by
   rcases P'.mp hv with rfl|hv
   ·exact⟨m,u,rfl⟩
   ·exact h3 v hv⟩
 |[],_::_,t=>t.elim
 |_::_,[],t=>t.elim
section
variable {prog:Program} {w:World} {A:Around} {E:Value->Shared->Prop} {s:Shared}
theorem aS{Q:Bool->Shared->Prop}:∀{ns ms:List Int} {vs ws:List Value} (i:Nat),IntsAre vs ns->IntsAre ws ms->ns.length=ms.length->Q (lexLt ns ms) s->KatLex prog w A true false Q (vs.zip ws) i s
 |[],[],_,_,i,.nil,.nil,_,q=>kat_nil q
 |[],_::_,_,_,_,_,_,hl,_=>by simp at hl
 |_::_,[],_,_,_,_,_,hl,_=>by simp at hl
 |n::ns,m::ms,_,_,i,.cons _ t hi,.cons _ u hj,hl,q=>by
  rw[E5]at q
  show KatLex prog w A true false Q ((Value.int n t,Value.int m u)::List.zip _ _) i s
  refine kat_cons (wpAny_eqBool_int ?_)
  by_cases e:n=m
  ·rw[if_pos e]at q
   rw[show(n==m)=true by simpa using e]
   exact kat_yes (aS (i+1) hi hj (by simpa using hl) q)
  ·rw[if_neg e]at q
   rw[show(n==m)=false by simpa using e]
   refine kat_no ?_
   cases i with
   |zero=>exact oneLt_int q
   |succ i =>
    refine kat_one _ _ (PyProof.Rows.lt_int ?_)
    exact q
theorem WK{d:Nat}{vs:List Value}{ks:List (List Int)}(t:Tp s.heap d vs ks)(i j:Nat)(C:Bool->Shared->Prop)(hi:i<vs.length)(hj:j<vs.length)(h:C (lexr ks i j) s):kas_ask prog w A (tuples' true) vs i j C s:=by
 obtain⟨a,its,e1,⟨o,ho,hc,n,hd⟩,i1,l1⟩:=t.get hi
 obtain⟨b,its2,e2,⟨o2,ho2,hc2,n2,hd2⟩,i2,l2⟩:=t.get hj
 unfold kas_ask
 rw[e1,e2]
 refine kat_lt ho hd ho2 hd2 ?_
 have z1:=i1.length
 have z2:=i2.length
 rw[fj]at z1 z2
 rw[show decide (its.size<its2.size)=false by simp only[decide_eq_false_iff_not];omega]
 exact aS 0 i1 i2 (by omega) h
theorem keptA{h:Heap}{a:Addr}{o1 o2:Obj}{f:Obj->Obj}{b:Addr}{o:Obj}(ha:h.get? b=some o)(hb:b≠a):(((h.update a f).push o1).push o2).get? b=some o:=by
 have hlt:=Y' ha
 rw[gY _ _ _ (by rw[size_push',gm];exact dm (fX hlt)),gY _ _ _ (by rw[gm];exact dm hlt),Heap.get?_update_ne _ _ _ _ hb]
 exact ha
theorem RH:∀{vs:List Value},vs.length<2->(vs.toArray.zip vs.toArray).map (·.2)=List.toArray ((List.toArray (List.range vs.length)).toList.map fun i=>vs.getD i Value.none)
 |[],_=>by simp
 |[x],_=>by simp
 |_::_::_,h=>by simp at h;omega
theorem list_sortT{a:Addr}{d:Nat}{vs:List Value}{ks:List (List Int)}{n:Nat}{P:PySem.Fin->Shared->Prop}(ho:s.heap.get? a=some (seqObj "list" vs.toArray n))(h64:vs.length<64)(hn:ks.Nodup)(hkl:ks.length=vs.length)
  (t:Tp (((s.heap.update a (Obj.mapSeq fun _=>(#[]:Array Value))).push (seqObj "tuple" vs.toArray 0)).push (seqObj "list" #[] 0)) d vs ks)
  (h:∀q:Array Nat,Arr vs.length q->Up (lexr ks) q vs.length->P (.done (.ret .none)) { s with heap:=sortedHeap s.heap a vs (List.toArray (q.toList.map fun i=>vs.getD i Value.none)) }) :
  wpAny (model prog w) A (Builtin.«list.sort» ⟨[.ref a],[]⟩) P E s:=by
 have ha:a<s.heap.objs.size:=Y' ho
 rw[list_sort_plain]
 refine wpAny_bind (listItems_at ho rfl ?_)
 refine wpAny_bind (listUpdate_at ho rfl ?_ (by rw[dj,sizeLine_eq];omega) (eA _))
 obtain⟨e1,ho1⟩:∃e1,(s.heap.update a (Obj.mapSeq fun _=>(#[]:Array Value))).get? a=some (seqObj "list" #[] e1):=⟨_,get?_update_seq ho (fun _=>#[])⟩
 refine wpAny_bind (seqEpoch_at ho1 rfl ?_)
 refine wpAny_bind (wpAny_newTuple ?_ (by show vs.length<=_;rw[sizeLine_eq];omega))
 refine wpAny_bind (wpAny_newList ?_ (eA _))
 refine wpAny_holding ?_
 have ho6:(((s.heap.update a (Obj.mapSeq fun _=>(#[]:Array Value))).push (seqObj "tuple" vs.toArray 0)).push (seqObj "list" #[] 0)).get? a=some (seqObj "list" #[] e1):=by
  rw[gY _ _ _ (by rw[size_push',gm];exact dm (fX ha)),gY _ _ _ (by rw[gm];exact dm ha)]
  exact ho1
 show wpAny (model prog w) A _ P E { s with heap:=((s.heap.update a (Obj.mapSeq fun _=>(#[]:Array Value))).push (seqObj "tuple" vs.toArray 0)).push (seqObj "list" #[] 0) }
 dsimp only
 have hsz:vs.toArray.size=vs.length:=by simp
 by_cases h2:vs.toArray.size<2
 ·rw[if_pos h2,if_pos h2]
  refine wpAny_bind (wpAny_pure ?_)
  rw[StateT.run_pure]
  refine wpAny_bind (wpAny_pure ?_)
  dsimp only
  refine wpAny_bind (seqEpoch_at ho6 rfl ?_)
  have hout:(arrOf (SortSt.mk' general' (vs.toArray.zip vs.toArray) #[] 7 none)).map (·.2)=List.toArray ((List.toArray (List.range vs.length)).toList.map fun i=>vs.getD i Value.none):=by
   exact RH (by omega)
  rw[hout]
  refine wpAny_bind (listUpdate_at ho6 rfl ?_ (eA _) (by rw[dj,B',sizeLine_eq];simp;omega))
  simp only[bne_self_eq_false,Bool.false_eq_true,if_false]
  refine wpAny_pure (h _ MS fun x y hxy hy=>?_)
  omega
 ·rw[if_neg h2,if_neg h2]
  obtain⟨fs,k1,k2,k3⟩:=t.kat
  refine wpAny_bind (kat_kind (s:={ s with heap:=((s.heap.update a (Obj.mapSeq fun _=>(#[]:Array Value))).push (seqObj "tuple" vs.toArray 0)).push (seqObj "list" #[] 0) }) (T:=.type "int") k1 (by omega) (fun v hv=>by obtain⟨n,u,rfl⟩:=k3 v hv;exact Looks.of_pure rfl) (by decide) ?_)
  have hT:(Value.type "int" != Value.type "tuple")=true:=by decide
  rw[hT]
  have wp:=Wo (n:=vs.length) (r:=lexr ks) (cmp:=kas_ask prog w A (tuples' true) vs) (s:={ s with heap:=((s.heap.update a (Obj.mapSeq fun _=>(#[]:Array Value))).push (seqObj "tuple" vs.toArray 0)).push (seqObj "list" #[] 0) }) (R:=fun q s'=>Arr vs.length q/\Up (lexr ks) q vs.length/\s'={ s with heap:=((s.heap.update a (Obj.mapSeq fun _=>(#[]:Array Value))).push (seqObj "tuple" vs.toArray 0)).push (seqObj "list" #[] 0) }) (fun i j C hi hj hC=>WK t i j C hi hj hC) (sort (by rw[<- hkl];exact VG hn) (by omega)) (fun q hq=>⟨hq.1,hq.2,rfl⟩)
  refine wpAny_bind (wpAny_mono (kat_run (E := E) (Q := fun st' s' => ∃ p : Array Nat, p.size = vs.length /\ arrOf st' = p.map (kas_item (vs.toArray.zip vs.toArray)) /\ failedOf st' = none /\ Arr vs.length p /\ Up (lexr ks) p vs.length /\ s' = { s with heap := ((s.heap.update a (Obj.mapSeq fun _ => (#[] : Array Value))).push (seqObj "tuple" vs.toArray 0)).push (seqObj "list" #[] 0) })
   rfl (by omega) h64 (fun p' st' s' a1 a2 a3 a4=>⟨p',a1,a2,a3,a4⟩) wp) ?_ fun _ _ e=>e)
  rintro⟨⟨⟩,st'⟩ s' ⟨p,hp,har,hf,hA,hU,rfl⟩
  dsimp only
  have hout:=kat_snds rfl har
  rw[hout]
  refine wpAny_bind (seqEpoch_at ho6 rfl ?_)
  refine wpAny_bind (listUpdate_at ho6 rfl ?_ (eA _) (by rw[dj,B',fj,hp,sizeLine_eq];omega))
  rw[hf]
  simp only[bne_self_eq_false,Bool.false_eq_true,if_false]
  exact wpAny_pure (h p hA hU)
end
end Srt
end
section
namespace DL
open PySem L2 PyProof.Rows
variable {K:KW}
theorem L0:∀{zs:List (Addr×List Int)} {us:List Value},Vals (zs.map fun z=>V.ref z.1) us->us=zs.map fun z=>Value.ref z.1
 |[],_,h=>by cases h;rfl
 |z::zs,_,h=>by
  cases h with
  |cons r t=>rw[L0 t,show _=Value.ref z.1 from r];rfl
theorem HE:∀(zs:List (Addr×List Int)),Vals (zs.map fun z=>V.ref z.1) (zs.map fun z=>Value.ref z.1)
 |[]=>.nil
 |z::zs=>.cons rfl (HE zs)
theorem WT{X:Cx}{pins:List (Addr×Obj)}{σ:L2.St}{H:Hp}{s:Shared}(I:Inv X pins σ H s){d:Nat}:∀{zs:List (Addr×List Int)},(∀z∈zs,SqT X.K H z.1 (z.2.map V.int)/\z.2.length=d+1)->Srt.Tp s.heap d (zs.map fun z=>Value.ref z.1) (zs.map (·.2))
 |[],_=>trivial
 |z::zs,h=>by
  obtain⟨h1,h2⟩:=h z F'
  obtain⟨its,r1,p1,_⟩:=I.tuple h1
  exact⟨⟨z.1,its.toArray,rfl,p1,Kr r1,h2⟩,WT I fun y hy=>h y (C' _ hy)⟩
theorem TZ{α β:Type}(f:α->β)(l:List α)(i:Nat)(a:α):(l.map f).getD i (f a)=f (l.getD i a):=by
 rw[eY,eY,Z']
 cases l[i]?<;>rfl
theorem O5{α:Type}(l:List α)(a:α):(List.range l.length).map (fun i=>l.getD i a)=l:=by
 apply List.ext_getElem
 ·simp
 ·intro i h1 h2
  simp[List.getD_eq_getElem?_getD,h2]
def Qa:List PyData->Option (List (List Int))
 |[]=>some []
 |.tuple ds::r=>(Ts ds).bind fun k=>(Qa r).map (k::·)
 |_::_=>none
def W7(k:List Int):PyData:=.tuple (k.map .int)
def Rf(k:List Int):List (List Int)->List (List Int)
 |[]=>[k]
 |x::r=>if HT.lexLt k x=true then k::x::r else x::Rf k r
def NW:List (List Int)->List (List Int)
 |[]=>[]
 |k::r=>Rf k (NW r)
theorem IU(k:List Int):∀(l:List (List Int)),(Rf k l).Perm (k::l)
 |[]=>.refl _
 |x::r=>by
  unfold Rf
  split
  ·exact .refl _
  ·exact((IU k r).cons x).trans (.swap k x r)
theorem IE:∀(l:List (List Int)),(NW l).Perm l
 |[]=>.refl _
 |k::r=>(IU k (NW r)).trans ((IE r).cons k)
theorem JM{k:List Int}:∀{l:List (List Int)},l.Pairwise (fun x y=>HT.lexLt x y=true)->k∉l->(Rf k l).Pairwise (fun x y=>HT.lexLt x y=true)
 |[],_,_=>List.pairwise_singleton _ _
 |x::r,h,hn=>by
  obtain⟨h1,h2⟩:=gA.mp h
  unfold Rf
  split
  ·rename_i c
   refine gA.mpr ⟨fun y hy=>?_,h⟩
   rcases P'.mp hy with rfl|hy
   ·exact c
   ·exact Srt.lex_tr c (h1 y hy)
  ·rename_i c
   have c':HT.lexLt x k=true:=Srt.lex_tot (fun z=>hn (by rw[z];exact F')) (by simpa using c)
   refine gA.mpr ⟨fun y hy=>?_,JM h2 fun z=>hn (C' _ z)⟩
   rcases P'.mp ((IU k r).mem_iff.mp hy)with rfl|hy
   ·exact c'
   ·exact h1 y hy
theorem Ij:∀{l:List (List Int)},l.Nodup->(NW l).Pairwise (fun x y=>HT.lexLt x y=true)
 |[],_=>.nil
 |k::r,h=>by
  obtain⟨h1,h2⟩:=eC.mp h
  exact JM (Ij h2) fun z=>h1 ((IE r).mem_iff.mp z)
theorem Ul{l m:List (List Int)}(hn:l.Nodup)(h:m.Pairwise (fun x y=>HT.lexLt x y=true))(hm:∀x,x∈m↔x∈l):NW l=m :=
 J0 (R:=fun x y=>HT.lexLt x y=true) (fun a b h1 h2=>by have:=Srt.lex_tr h1 h2;rw[Srt.lex_irr]at this;cases this) (Ij hn) h fun x=>((IE l).mem_iff).trans (hm x).symm
theorem QZ{H:Hp}:∀{ds:List PyData} {vs:List V} {ks:List (List Int)},IsL K H ds vs->Qa ds=some ks->∃zs:List (Addr×List Int),vs=zs.map (fun z=>V.ref z.1)/\ks=zs.map (·.2)/\∀z∈zs,SqT K H z.1 (z.2.map V.int)
 |[],_,_,h,e=>by cases e;exact⟨[],h,rfl,fun z hz=>by simp at hz⟩
 |.tuple ds::r,_,_,⟨v,us,e1,⟨a,ws,e2,hs,lw⟩,l⟩,e=>by
  obtain⟨k,ek,e⟩:=oB e
  obtain⟨ms,em,e⟩:=oM e
  subst e e1 e2
  obtain⟨zs,h1,h2,h3⟩:=QZ l em
  subst h1 h2
  rw[Qj lw ek]at hs
  exact ⟨(a, k) :: zs, rfl, rfl, fun z hz => by
   rcases P'.mp hz with rfl|hz
   ·exact hs
   ·exact h3 z hz⟩
 |.none::_,_,_,_,e=>by cases e
 |.bool _::_,_,_,_,e=>by cases e
 |.int _::_,_,_,_,e=>by cases e
 |.str _::_,_,_,_,e=>by cases e
 |.list _::_,_,_,_,e=>by cases e
 |.dict _::_,_,_,_,e=>by cases e
theorem Qh{H:Hp}:∀(k:List Int),IsL K H (k.map .int) (k.map V.int)
 |[]=>rfl
 |i::k=>⟨_,_,rfl,rfl,Qh k⟩
theorem Qg{H:Hp}:∀{zs:List (Addr×List Int)},(∀z∈zs,SqT K H z.1 (z.2.map V.int))->IsL K H ((zs.map (·.2)).map W7) (zs.map fun z=>V.ref z.1)
 |[],_=>rfl
 |z::zs,h=>⟨_,_,rfl,⟨z.1,_,rfl,h z F',Qh _⟩,Qg fun y hy=>h y (C' _ hy)⟩
end DL
end
section
namespace DL
open PySem L2
variable {K:KW}
abbrev DO:=DS->Option (Option Int×DS)
structure OO(K:KW)(t:TO)(f:DO):Prop where
 like:∀τ b t7,f τ=some (b,t7)->Like τ t7
 run:∀S M τ σ H (Q:Option Int->Hp->Prop) b t7,R K S M τ σ H->f τ=some (b,t7)->(∀H',R K S M t7 σ H'->Chg M H H'->Q b H')->t σ H Q
def CK:DO:=fun τ=>some (none,τ)
def dPt(f:DX):DO:=fun τ=>(f τ).bind fun p=>match p.1 with
 |.int i=>some (some i,p.2)
 |_=>none
theorem aD:OO K P8 CK:=⟨fun τ b t7 e=>by cases e;exact Like.refl,fun S M τ σ H Q b t7 r e q=>by cases e;exact q H r Chg.refl⟩
theorem cP{fr:Bool}{t:TE}{f:DX}(h:E K t fr f):OO K (WU t) (dPt f):=by
 refine⟨fun τ b t7 e=>?_,?_⟩
 ·unfold dPt at e
  obtain⟨⟨x,t4⟩,e1,e⟩:=oB e
  dsimp only at e
  split at e
  ·cases e;exact h.like _ _ _ e1
  ·cases e
 intro S M τ σ H Q b t7 r e q
 unfold dPt at e
 obtain⟨⟨x,t4⟩,e1,e⟩:=oB e
 dsimp only at e
 split at e
 ·rename_i i
  cases e
  refine h.run S M τ σ H _ _ _ r e1 fun v H' r' c iv=>?_
  exact⟨i,(show v = .int i from r.isr iv),q H' r' c⟩
 ·cases e
def Lq(xs:List PyData)(lo hi:Option Int):List PyData:=(xs.drop (HT.sIx xs.length 0 lo)).take (HT.sIx xs.length xs.length hi-HT.sIx xs.length 0 lo)
theorem ON{H:Hp}:∀{xs:List PyData} {vs:List V} (n:Nat),IsL K H xs vs->IsL K H (xs.drop n) (vs.drop n)
 |_,_,0,h=>h
 |[],_,n+1,h=>by rw[show _=[] from h];rfl
 |x::xs,_,n+1,⟨v,us,e,_,l⟩=>by subst e;exact ON n l
theorem OK{H:Hp}:∀{xs:List PyData} {vs:List V} (n:Nat),IsL K H xs vs->IsL K H (xs.take n) (vs.take n)
 |_,_,0,h=>rfl
 |[],_,n+1,h=>by rw[show _=[] from h];rfl
 |x::xs,_,n+1,⟨v,us,e,i,l⟩=>by subst e;exact⟨v,_,rfl,i,OK n l⟩
theorem Qf{H:Hp}{xs:List PyData}{vs:List V}{lo hi:Option Int}(h:IsL K H xs vs):IsL K H (Lq xs lo hi) (Lp vs lo hi):=by
 unfold Lq Lp
 rw[h.length]
 exact OK _ (ON _ h)
def dSl(f:DX)(lo hi:DO)(τ:DS):Option (PyData×DS):=(f τ).bind fun p=>(lo p.2).bind fun l=>(hi l.2).bind fun u=>match p.1 with
 |.list xs=>some (.list (Lq xs l.1 u.1),u.2)
 |_=>none
theorem c8{fr:Bool}{te:TE}{tl th:TO}{f:DX}{lo hi:DO}(h:E K te fr f)(hl:OO K tl lo)(hh:OO K th hi):E K (tSl (XH K) te tl th) true (dSl f lo hi):=by
 refine⟨fun τ d t7 e=>?_,?_⟩
 ·unfold dSl at e
  obtain⟨⟨x,t4⟩,e1,e⟩:=oB e
  obtain⟨⟨l,l7⟩,e2,e⟩:=oB e
  obtain⟨⟨u,p4⟩,e3,e⟩:=oB e
  dsimp only at e
  split at e
  ·cases e;exact((h.like _ _ _ e1).trans (hl.like _ _ _ e2)).trans (hh.like _ _ _ e3)
  ·cases e
 intro S M τ σ H Q d t7 r e q
 unfold dSl at e
 obtain⟨⟨x,t4⟩,e1,e⟩:=oB e
 obtain⟨⟨l,l7⟩,e2,e⟩:=oB e
 obtain⟨⟨u,p4⟩,e3,e⟩:=oB e
 dsimp only at e e2 e3
 cases x with
 |list xs =>
  cases e
  refine h.run S M τ σ H _ _ _ r e1 fun v1 H1 r1 c1 i1=>?_
  refine hl.run S M t4 σ H1 _ _ _ r1 e2 fun H2 r2 c2=>?_
  refine hh.run S M l7 σ H2 _ _ _ r2 e3 fun H3 r3 c3=>?_
  have i1':Is K (hid S H3) (.list xs) v1:=((r.isr i1).mono (c2.keep r1.sub).same).mono (c3.keep r2.sub).same
  obtain⟨a,vs,rfl,ha,la⟩:=i1'
  refine⟨a,vs,rfl,SqL.of (hid_iff.mp ha).2,fun p hp=>?_⟩
  have s:=Bc hp (HO.lst (Lp vs l u))
  exact q _ _ (r3.same s) (((c1.trans c2).trans c3).trans (.of s)) ((GL hp (Qf la)).back r3 ((c1.trans c2).trans c3))
 |_=>cases e
end DL
end
section
namespace L2
open PySem PySem.Spec PyProof.Rows
section
variable {X:Cx} {pins:List (Addr×Obj)} {σ:L2.St} {H:Hp} {s:Shared}
end
section
variable {X:Cx} {elts:List Expr} {tp:Pos}
end
end L2
end
section
namespace DL
open PySem L2
variable {K:KW}
end DL
end
section
namespace DL
open PySem L2 PyProof.Rows
variable {K:KW}
end DL
end
section
namespace DL
open PySem L2
variable {K:KW}
end DL
end
section
namespace Stb
open PySem
def F:Nat->Nat->Nat
 |0,x=>x
 |n+1,x=>F n (5*x+1)
theorem Ui:∀(a b x:Nat),F (a+b) x=F b (F a x)
 |0,b,x=>by rw[Nat.zero_add];rfl
 |a+1,b,x=>by rw[show a+1+b=(a+b)+1 by omega];exact Ui a b _
theorem F4:∀(n x:Nat),4*F n x+1=5 ^ n*(4*x+1)
 |0,x=>by simp[F]
 |n+1,x=>by
  rw[F,F4 n,gZ,Nat.mul_assoc]
  congr 1
  omega
theorem ai:∀k:Nat,∃q,5 ^ (2 ^ k)=1+2 ^ k*(4*(2*q+1))
 |0=>⟨0,by decide⟩
 |k+1=>by
  obtain⟨q,e⟩:=ai k
  refine⟨q+2 ^ k*((2*q+1)*(2*q+1)),?_⟩
  rw[gZ 2 k,Nat.pow_mul,e]
  generalize 2 ^ k=P
  grind
theorem F2k(k z:Nat):∃r,F (2 ^ k) z=z+2 ^ k*(2*r+1):=by
 obtain⟨q,e⟩:=ai k
 have h:=F4 (2 ^ k) z
 rw[e]at h
 refine⟨4*q*z+q+2*z,?_⟩
 generalize 2 ^ k=P at *
 generalize F P z=f at *
 grind
theorem hit:∀(k x y:Nat),∃n,n<2 ^ k/\F n x % 2 ^ k=y % 2 ^ k
 |0,x,y=>⟨0,by decide,by simp[Nat.mod_one]⟩
 |k+1,x,y=>by
  obtain⟨n,hn,e⟩:=hit k x y
  have hp:2 ^ (k+1)=2 ^ k+2 ^ k:=by rw[gZ];omega
  by_cases c:F n x % 2 ^ (k+1)=y % 2 ^ (k+1)
  ·exact⟨n,by omega,c⟩
  ·refine⟨n+2 ^ k,by omega,?_⟩
   rw[Ui]
   obtain⟨r,er⟩:=F2k k (F n x)
   rw[er]
   have h1:F n x % 2 ^ (k+1) % 2 ^ k=y % 2 ^ (k+1) % 2 ^ k:=by
    rw[Nat.mod_mod_of_dvd _ ⟨2,by rw[gZ]⟩,Nat.mod_mod_of_dvd _ ⟨2,by rw[gZ]⟩];exact e
   have e2:F n x+2 ^ k*(2*r+1)=F n x+2 ^ k+2 ^ (k+1)*r:=by
    rw[hp];generalize 2 ^ k=P;grind
   rw[e2,Nat.add_mul_mod_self_left,Nat.add_mod]
   have hP:0<2 ^ k:=Nat.pow_pos (by decide)
   rw[hp]at *
   generalize 2 ^ k=P at *
   have l1:=hX (F n x) (show P+P>0 by omega)
   have l2:=hX y (show P+P>0 by omega)
   generalize F n x % (P+P)=a at *
   generalize y % (P+P)=b at *
   rw[gH (show P<P+P by omega)]
   have m1:=Nat.div_add_mod a P
   have m2:=Nat.div_add_mod b P
   rw[h1]at m1
   have d1:a / P<2:=Nat.div_lt_of_lt_mul (show a<P*2 by rw[Nat.mul_two];exact l1)
   have d2:b / P<2:=Nat.div_lt_of_lt_mul (show b<P*2 by rw[Nat.mul_two];exact l2)
   generalize a / P=u at *
   generalize b / P=v at *
   generalize b % P=w at *
   have c1:u=0\/u=1:=by omega
   have c2:v=0\/v=1:=by omega
   rcases c1 with c1|c1<;>rcases c2 with c2|c2<;>rw[c1]at m1<;>rw[c2]at m2<;>simp only[Nat.mul_zero,Nat.mul_one,Nat.zero_add]at m1 m2
   ·exact absurd (m1.symm.trans m2) c
   ·rw[gH (by omega)];omega
   ·rw[show a+P=b+(P+P) by omega,Nat.add_mod_right,gH (by omega)]
   ·exact absurd (m1.symm.trans m2) c
end Stb
end
section
namespace Stb
open PySem SetTable
def st(m:Nat)(h:Int):Probe:={ j:=bits h % (m+1),more:=runEnd m (bits h % (m+1))-bits h % (m+1),i:=bits h % (m+1),perturb:=bits h,dummy:=none }
def ad(m:Nat)(p:Probe):Probe :=
 if p.more>0 then { p with j:=p.j+1,more:=p.more-1 } else
 { p with j:=(leap m p.i p.perturb).1,more:=runEnd m (leap m p.i p.perturb).1-(leap m p.i p.perturb).1,i:=(leap m p.i p.perturb).1,perturb:=(leap m p.i p.perturb).2 }
def it(m:Nat)(h:Int):Nat->Probe
 |0=>st m h
 |n+1=>ad m (it m h n)
def pt(m:Nat)(h:Int)(n:Nat):Nat:=(it m h n).j
theorem MC{m i:Nat}(h:i<=m):runEnd m i<=m:=by unfold runEnd;split<;>omega
theorem GO{m i:Nat}:i<=runEnd m i:=by unfold runEnd;split<;>omega
theorem SS{m i:Nat}:runEnd m i<=i+9:=by unfold runEnd;split<;>omega
theorem QY(m i p:Nat):(leap m i p).1<=m:=gc (hX _ (g7 m))
structure Okp(m:Nat)(p:Probe):Prop where
 i:p.i<=m
 j:p.j+p.more=runEnd m p.i
 d:p.dummy=none
theorem Xt(m:Nat)(h:Int):Okp m (st m h):=by
 have e:bits h % (m+1)<=m:=gc (hX _ (g7 m))
 refine⟨e,?_,rfl⟩
 have:=@GO m (bits h % (m+1))
 show bits h % (m+1)+(runEnd m (bits h % (m+1))-bits h % (m+1))=_
 show _=runEnd m (bits h % (m+1))
 omega
theorem Xu{m:Nat}{p:Probe}(o:Okp m p):Okp m (ad m p):=by
 unfold ad
 by_cases c:p.more>0
 ·rw[if_pos c]
  refine⟨o.i,?_,o.d⟩
  have:=o.j
  show p.j+1+(p.more-1)=runEnd m p.i
  omega
 ·rw[if_neg c]
  refine⟨QY _ _ _,?_,o.d⟩
  have:=@GO m (leap m p.i p.perturb).1
  show(leap m p.i p.perturb).1+(runEnd m (leap m p.i p.perturb).1-(leap m p.i p.perturb).1)=runEnd m (leap m p.i p.perturb).1
  omega
theorem PN(m:Nat)(h:Int):∀n,Okp m (it m h n)
 |0=>Xt m h
 |n+1=>Xu (PN m h n)
theorem Wf(m:Nat)(h:Int)(n:Nat):pt m h n<=m:=by
 have o:=PN m h n
 have:=MC o.i
 have:=o.j
 unfold pt;omega
def R(m:Nat)(h:Int):Nat->Nat×Nat
 |0=>(bits h % (m+1),bits h)
 |r+1=>leap m (R m h r).1 (R m h r).2
def rd(m:Nat)(x:Nat×Nat)(k:Nat):Probe:={ j:=x.1+k,more:=runEnd m x.1-x.1-k,i:=x.1,perturb:=x.2,dummy:=none }
def N(m:Nat)(h:Int):Nat->Nat
 |0=>0
 |r+1=>N m h r+(runEnd m (R m h r).1-(R m h r).1)+1
theorem cB(m:Nat)(h:Int):∀r,(R m h r).1<=m
 |0=>gc (hX _ (g7 m))
 |r+1=>QY _ _ _
theorem Ks{m:Nat}{h:Int}{n:Nat}{x:Nat×Nat}(e:it m h n=rd m x 0):∀k,k<=runEnd m x.1-x.1->it m h (n+k)=rd m x k
 |0,_=>e
 |k+1,hk=>by
  show ad m (it m h (n+k))=_
  rw[Ks e k (by omega)]
  unfold ad rd
  rw[if_pos (by show runEnd m x.1-x.1-k>0;omega)]
  show Probe.mk (x.1+k+1) (runEnd m x.1-x.1-k-1) x.1 x.2 none=Probe.mk (x.1+(k+1)) (runEnd m x.1-x.1-(k+1)) x.1 x.2 none
  rw[Nat.sub_sub,Nat.add_assoc]
theorem YA(m:Nat)(h:Int):∀r,it m h (N m h r)=rd m (R m h r) 0
 |0=>rfl
 |r+1=>by
  show ad m (it m h (N m h r+(runEnd m (R m h r).1-(R m h r).1)))=_
  rw[Ks (YA m h r) _ (J' _)]
  unfold ad rd
  rw[if_neg (by show ¬(runEnd m (R m h r).1-(R m h r).1-(runEnd m (R m h r).1-(R m h r).1)>0);omega)]
  rfl
theorem cO(m:Nat)(h:Int)(r:Nat):pt m h (N m h r)=(R m h r).1:=by unfold pt;rw[YA];rfl
theorem Hc{m:Nat}{h:Int}{r k:Nat}(hk:k<=runEnd m (R m h r).1-(R m h r).1):pt m h (N m h r+k)=(R m h r).1+k:=by
 unfold pt;rw[Ks (YA m h r) k hk];rfl
theorem cG(m:Nat)(h:Int):∀r,N m h r<=10*r
 |0=>J' _
 |r+1=>by
  have a:=cG m h r
  have b:=@SS m (R m h r).1
  have c:=@GO m (R m h r).1
  show N m h r+(runEnd m (R m h r).1-(R m h r).1)+1<=_
  omega
theorem Ue(m:Nat)(h:Int):∀r,(R m h r).2=bits h / 32 ^ r
 |0=>by show bits h=_;simp
 |r+1=>by
  show(R m h r).2 / 32=_
  rw[Ue m h r,Nat.div_div_eq_div_mul,gZ]
theorem WE(h:Int):bits h<2 ^ 64:=by
 unfold bits
 have a:=fE h (show(2 ^ 64:Int)≠0 by decide)
 have b:=e6 h (show(0:Int)<2 ^ 64 by decide)
 have:(2:Int) ^ 64=18446744073709551616:=by decide
 have:(2:Nat) ^ 64=18446744073709551616:=by decide
 omega
theorem ZR(m:Nat)(h:Int)(n:Nat):(R m h (13+n)).2=0:=by
 rw[Ue]
 refine Nat.div_eq_of_lt (de (WE h) ?_)
 rw[Nat.pow_add]
 exact eE (by decide) (Nat.le_mul_of_pos_right _ (Nat.pow_pos (by decide)))
theorem ZU(n x:Nat):F (n+1) x=5*F n x+1:=by rw[Ui n 1];rfl
theorem Ug(m:Nat)(h:Int):∀n,(R m h (12+n)).1=F n (R m h 12).1 % (m+1)
 |0=>by
  show(R m h 12).1=(R m h 12).1 % (m+1)
  rw[gH (Nat.lt_succ_of_le (cB m h 12))]
 |n+1=>by
  have z:=ZR m h n
  rw[show 13+n=(12+n)+1 by omega]at z
  have z:(R m h (12+n)).2 / 32=0:=z
  show((R m h (12+n)).1*5+1+(R m h (12+n)).2 / 32) % (m+1)=_
  rw[z,Ug m h n,ZU,Nat.add_zero,gJ 5,Nat.add_mod,Nat.mul_mod,Nat.mod_mod,<- Nat.mul_mod,<- Nat.add_mod]
theorem MD{m k:Nat}(hm:m+1=2 ^ k)(h:Int){y:Nat}(hy:y<=m):∃r,r<=12+m/\(R m h r).1=y:=by
 obtain⟨n,hn,e⟩:=hit k (R m h 12).1 y
 refine⟨12+n,by omega,?_⟩
 rw[Ug,hm,e]
 exact gH (by omega)
theorem XS{m k:Nat}(hm:m+1=2 ^ k)(h:Int){y:Nat}(hy:y<=m):∃n,n<=10*(m+12)/\pt m h n=y:=by
 obtain⟨r,hr,e⟩:=MD hm h hy
 refine⟨N m h r,?_,(cO m h r).trans e⟩
 have:=cG m h r
 omega
def Rising(xs:Array Nat):Prop:=xs.toList.Pairwise (·<·)
theorem Rising.lt{xs:Array Nat}(r:Rising xs){a b:Nat}(hab:a<b)(hb:b<xs.size):xs.getD a 0<xs.getD b 0:=by
 have P:=gO.mp r a b (by simpa using g8 hab hb) (by simpa using hb) hab
 have ha:=g8 hab hb
 simpa[Array.getD,ha,hb] using P
theorem LB{xs:Array Nat}(r:Rising xs)(j:Nat):∀(f lo hi:Nat),lo<=hi->hi<=xs.size->hi-lo<=f->(∀a,a<lo->xs.getD a 0<j)->(∀a,hi<=a->a<xs.size->j<=xs.getD a 0) ->
  below.go xs j f lo hi<=xs.size/\(∀a,a<below.go xs j f lo hi->xs.getD a 0<j)/\(∀a,below.go xs j f lo hi<=a->a<xs.size->j<=xs.getD a 0)
 |0,lo,hi,h1,h2,h3,h4,h5=>by
  have:lo=hi:=by omega
  subst this
  exact⟨h2,h4,h5⟩
 |f+1,lo,hi,h1,h2,h3,h4,h5=>by
  unfold below.go
  by_cases c:lo<hi
  ·rw[if_pos c]
   show(if xs.getD ((lo+hi) / 2) j<j then below.go xs j f ((lo+hi) / 2+1) hi else below.go xs j f lo ((lo+hi) / 2))<=_/\(∀a,a<(if xs.getD ((lo+hi) / 2) j<j then below.go xs j f ((lo+hi) / 2+1) hi else below.go xs j f lo ((lo+hi) / 2))->_)/\(∀a,(if xs.getD ((lo+hi) / 2) j<j then below.go xs j f ((lo+hi) / 2+1) hi else below.go xs j f lo ((lo+hi) / 2))<=a->_)
   have hm:(lo+hi) / 2<xs.size:=by omega
   have e:xs.getD ((lo+hi) / 2) j=xs.getD ((lo+hi) / 2) 0:=by simp[Array.getD,hm]
   rw[e]
   by_cases d:xs.getD ((lo+hi) / 2) 0<j
   ·rw[if_pos d]
    refine LB r j f _ hi (by omega) h2 (by omega) (fun a ha=>?_) h5
    rcases eN a ((lo+hi) / 2)with q|q
    ·exact g8 (r.lt q hm) d
    ·rw[show a=(lo+hi) / 2 by omega];exact d
   ·rw[if_neg d]
    refine LB r j f lo _ (by omega) (by omega) (by omega) h4 (fun a ha hs=>?_)
    rcases eN ((lo+hi) / 2) a with q|q
    ·have:=r.lt q hs;omega
    ·rw[show a=(lo+hi) / 2 by omega];omega
  ·rw[if_neg c]
   have:lo=hi:=by omega
   subst this
   exact⟨h2,h4,h5⟩
theorem Gw{xs:Array Nat}(r:Rising xs)(j:Nat):below xs j<=xs.size/\(∀a,a<below xs j->xs.getD a 0<j)/\(∀a,below xs j<=a->a<xs.size->j<=xs.getD a 0) :=
 LB r j xs.size 0 xs.size (eA _) (J' _) (by omega) (fun a h=>absurd h (eP a)) (fun a h h'=>absurd h (by omega))
theorem T6{xs:Array Nat}{a:Nat}(h:a<xs.size):xs[a]?=some (xs.getD a 0):=by simp[Array.getD,h]
theorem IY{xs:Array Nat}(r:Rising xs){j:Nat}(h:j∈xs.toList):xs[below xs j]?=some j:=by
 obtain⟨a,ha,e⟩:=gQ h
 have ha':a<xs.size:=by simpa using ha
 have ea:xs.getD a 0=j:=by simpa[Array.getD,ha'] using e
 obtain⟨b1,b2,b3⟩:=Gw r j
 have h1:¬a<below xs j:=fun c=>by have:=b2 a c;omega
 have h2:¬below xs j<a:=fun c=>by
  have:=b3 _ (J' _) (g8 c ha')
  have:=r.lt c ha'
  omega
 have:below xs j=a:=by omega
 rw[this,T6 ha',ea]
theorem Lh{xs:Array Nat}{j:Nat}(h:j∉xs.toList):xs[below xs j]?≠some j:=by
 intro e
 exact h (by rw[fF];exact Array.mem_of_getElem? e)
theorem J3{t:SetTable}(r:Rising t.place){j:Nat}(h:j∈t.place.toList):t.slot j = .live (below t.place j):=by
 unfold SetTable.slot
 have:=IY r h
 simp[this]
theorem SM{t:SetTable}(hd:t.dummies=#[]){j:Nat}(h:j∉t.place.toList):t.slot j = .empty:=by
 unfold SetTable.slot
 have:=Lh h
 simp[this,hd,SetTable.has]
theorem Bv{α:Type}(xs:Array α)(p:Nat)(x:α):(insertAt xs p x).toList=xs.toList.take p++x::xs.toList.drop p:=by
 unfold insertAt
 simp[Array.toList_extract,List.extract]
 exact List.take_of_length_le (by simp)
theorem E1{α:Type}(xs:Array α)(p:Nat)(x y:α):y∈(insertAt xs p x).toList↔y=x\/y∈xs.toList:=by
 rw[Bv]
 have:xs.toList=xs.toList.take p++xs.toList.drop p:=(e9 p _).symm
 constructor
 ·intro h
  rcases fB.mp h with h|h
  ·exact .inr (fY h)
  ·rcases P'.mp h with h|h
   ·exact .inl h
   ·exact .inr (List.mem_of_mem_drop h)
 ·rintro(h|h)
  ·subst h;exact dW _ F'
  ·rw[this]at h
   rcases fB.mp h with h|h
   ·exact dY _ h
   ·exact dW _ (C' _ h)
theorem C9{α:Type}(xs:Array α)(p:Nat)(x:α):(insertAt xs p x).size=xs.size+1:=by
 have:(insertAt xs p x).toList.length=xs.toList.length+1:=by
  rw[Bv,L',X']
  have:=congrArg List.length (e9 p xs.toList)
  rw[L']at this
  omega
 simpa using this
theorem LV{α:Type}(xs:Array α)(p:Nat)(x:α):(insertAt xs p x).toList.Perm (x::xs.toList):=by
 rw[Bv]
 refine iG.trans ?_
 rw[e9]
theorem LU{xs:Array Nat}(r:Rising xs){j:Nat}(h:j∉xs.toList):Rising (insertAt xs (below xs j) j):=by
  unfold Rising
  rw[Bv]
  obtain⟨b1,b2,b3⟩:=Gw r j
  have r':(xs.toList.take (below xs j)++xs.toList.drop (below xs j)).Pairwise (·<·):=by rw[e9];exact r
  obtain⟨p1,p2,p3⟩:=List.pairwise_append.mp r'
  have lo:∀a∈xs.toList.take (below xs j),a<j:=by
    intro a ha
    obtain⟨i,hi,e⟩:=gQ ha
    rw[ft]at hi
    have hi' : i < xs.size := by have : i < xs.toList.length := by omega
                                 simpa using this
    have:=b2 i (by omega)
    rw[List.getElem_take]at e
    have e':xs.getD i 0=a:=by simpa[Array.getD,hi'] using e
    omega
  have hi:∀a∈xs.toList.drop (below xs j),j<a:=by
    intro a ha
    obtain⟨i,hi,e⟩:=gQ ha
    rw[iF]at hi
    rw[List.getElem_drop]at e
    have hl:xs.toList.length=xs.size:=by simp
    have hi':below xs j+i<xs.size:=by omega
    have:=b3 (below xs j+i) (by omega) hi'
    have e':xs.getD (below xs j+i) 0=a:=by simpa[Array.getD,hi'] using e
    have:a≠j:=fun z=>h (by rw[<- z];exact List.mem_of_mem_drop ha)
    omega
  refine List.pairwise_append.mpr ⟨p1,gA.mpr ⟨hi,p2⟩,fun a ha b hb=>?_⟩
  rcases P'.mp hb with rfl|hb
  · exact lo a ha
  · exact p3 a ha b hb
theorem Gi:∀{xs ys:List Nat},xs.Nodup->(∀x∈xs,x∈ys)->xs.length<=ys.length
 |[],ys,_,_=>eA _
 |x::xs,ys,n,s=>by
  have hx:=s x F'
  obtain⟨n1,n2⟩:=eC.mp n
  have := Gi (ys := ys.erase x) n2 (fun y hy => by
   have:y≠x:=fun e=>n1 (e▸hy)
   exact(List.mem_erase_of_ne this).mpr (s y (C' _ hy)))
  rw[List.length_erase_of_mem hx]at this
  have:0<ys.length:=List.length_pos_of_mem hx
  simp only[List.length_cons]
  omega
theorem Wa{m:Nat}{ps:List Nat}(h:ps.length<=m):∃y,y<=m/\y∉ps:=by
 by_cases c:∃y,y<=m/\y∉ps
 ·exact c
 ·have : (List.range (m + 1)).length <= ps.length := Gi List.nodup_range (fun x hx => by
   by_cases d:x∈ps
   ·exact d
   ·exact absurd ⟨x,gc (eQ.mp hx),d⟩ c)
  rw[eW]at this
  omega
def Fst(m:Nat)(ps:List Nat)(h:Int)(n:Nat):Prop:=pt m h n∉ps/\∀k,k<n->pt m h k∈ps
theorem aT{P:Nat->Prop}(h:∃n,P n):∃n,P n/\∀k,k<n->¬P k:=by
 obtain⟨n,hn⟩:=h
 induction n using Nat.strongRecOn with
 |_ n ih =>
  by_cases c:∃k,k<n/\P k
  ·obtain⟨k,h1,h2⟩:=c;exact ih k h1 h2
  ·exact⟨n,hn,fun k hk hp=>c ⟨k,hk,hp⟩⟩
theorem YF{m k:Nat}(hm:m+1=2 ^ k){ps:List Nat}(hl:ps.length<=m)(h:Int):∃n,n<=10*(m+12)/\Fst m ps h n:=by
 obtain⟨y,hy,hn⟩:=Wa hl
 obtain⟨n,h1,h2⟩:=XS hm h hy
 obtain⟨n',h3,h4⟩:=aT (P:=fun n=>pt m h n∉ps) ⟨n,by rw[h2];exact hn⟩
 refine⟨n',?_,h3,fun k hk=>gP (h4 k hk)⟩
 rcases eN n n' with q|q
 ·exact absurd (by rw[h2];exact hn) (h4 n q)
 ·omega
def Way(m:Nat)(ps:List Nat)(h:Int)(j:Nat):Prop:=∃n,pt m h n=j/\∀k,k<n->pt m h k∈ps
theorem Way.mono{m:Nat}{ps qs:List Nat}{h:Int}{j:Nat}(w:Way m ps h j)(s:∀x∈ps,x∈qs):Way m qs h j:=by
 obtain⟨n,e,a⟩:=w
 exact⟨n,e,fun k hk=>s _ (a k hk)⟩
def Msk(m:Nat):Prop:=m=7\/m=31\/m=127\/m=511\/m=2047\/m=8191
theorem Msk.pow{m:Nat}(h:Msk m):∃k,m+1=2 ^ k:=by
 rcases h with h|h|h|h|h|h<;>subst h
 ·exact⟨3,by decide⟩
 ·exact⟨5,by decide⟩
 ·exact⟨7,by decide⟩
 ·exact⟨9,by decide⟩
 ·exact⟨11,by decide⟩
 ·exact⟨13,by decide⟩
theorem Msk.le{m:Nat}(h:Msk m):m<=8191:=by
 rcases h with h|h|h|h|h|h<;>subst h<;>decide
theorem Msk.odd{m:Nat}(h:Msk m):m % 2=1:=by
 rcases h with h|h|h|h|h|h<;>subst h<;>decide
structure Inv0(t:SetTable)(es:Array (Int×Value)):Prop where
 msk:Msk t.mask
 dum:t.dummies=#[]
 rise:Rising t.place
 le:∀j∈t.place.toList,j<=t.mask
 size:t.place.size=es.size
 room:t.place.size<=t.mask
 way:∀q∈t.place.toList.zip es.toList,Way t.mask t.place.toList q.2.1 q.1
structure Inv(t:SetTable)(es:Array (Int×Value)):Prop extends Inv0 t es where
 full:t.place.size*5<t.mask*3
theorem Rc(fi mo:Nat)(led:Bool):Inv (SetTable.fresh fi mo led) #[] :=
 ⟨⟨.inl rfl,rfl,List.Pairwise.nil,fun j h=>(fy h).elim,rfl,eA _,fun q h=>(fy h).elim⟩,by show 0*5<7*3;decide⟩
theorem Inv0.fill{t:SetTable}{es:Array (Int×Value)}(I:Inv0 t es):t.fill=es.size:=by
 unfold SetTable.fill;rw[I.dum,I.size];rfl
theorem Nk{t:SetTable}(rs:Rising t.place)(hd:t.dummies=#[])(hash:Nat->Int){h:Int}{e:Nat}(hF:Fst t.mask t.place.toList h e) :
  ∀(f n:Nat),n<=e->e-n<f ->
   (probe.go t hash h f (it t.mask h n)=some (.empty (pt t.mask h e) none)/\∀k,n<=k->k<e->hash (below t.place (pt t.mask h k))≠h) \/
   ∃k,n<=k/\k<e/\hash (below t.place (pt t.mask h k))=h/\probe.go t hash h f (it t.mask h n)=some (.candidate (pt t.mask h k) (below t.place (pt t.mask h k)) (it t.mask h (k+1)))/\∀k',n<=k'->k'<k->hash (below t.place (pt t.mask h k'))≠h
 |0,n,h1,h2=>absurd h2 (eP _)
 |f+1,n,h1,h2=>by
  unfold probe.go
  have hdn:(it t.mask h n).dummy=none:=(PN t.mask h n).d
  rcases eN n e with q|q
  ·have hm:=hF.2 n q
   have es:t.slot (it t.mask h n).j = .live (below t.place (pt t.mask h n)):=J3 rs hm
   rw[es]
   by_cases c:hash (below t.place (pt t.mask h n))=h
   ·refine .inr ⟨n,J' _,q,c,?_,fun k' a b=>absurd a (by omega)⟩
    show(if (hash (below t.place (pt t.mask h n))==h)=true then _ else _)=_
    rw[if_pos (by rw[c];exact beq_self_eq_true _)]
    rfl
   ·have e2:(if (hash (below t.place (pt t.mask h n))==h)=true then some (Met.candidate (it t.mask h n).j (below t.place (pt t.mask h n)) (t.advance (it t.mask h n))) else probe.go t hash h f (t.advance (it t.mask h n)))=probe.go t hash h f (it t.mask h (n+1)):=by
     rw[if_neg (by simpa using c)];rfl
    rcases Nk rs hd hash hF f (n+1) q (by omega)with ⟨a,b⟩|⟨k,a,b,c',d,e'⟩
    ·refine .inl ⟨e2.trans a,fun k hk hk'=>?_⟩
     rcases eN n k with z|z
     ·exact b k z hk'
     ·rw[show k=n by omega];exact c
    ·refine .inr ⟨k,by omega,b,c',e2.trans d,fun k' hk hk'=>?_⟩
     rcases eN n k' with z|z
     ·exact e' k' z hk'
     ·rw[show k'=n by omega];exact c
  ·have:n=e:=by omega
   subst this
   have es:t.slot (it t.mask h n).j = .empty:=SM hd hF.1
   rw[es]
   refine .inl ⟨?_,fun k a b=>absurd a (by omega)⟩
   show some (Met.empty (it t.mask h n).j (it t.mask h n).dummy)=_
   rw[hdn];rfl
theorem Ov{α β:Type}(xs:Array α)(ys:Array β)(e:xs.size=ys.size)(p:Nat)(x:α)(y:β)(q:α×β)(h:q∈(insertAt xs p x).toList.zip (insertAt ys p y).toList):q=(x,y)\/q∈xs.toList.zip ys.toList:=by
 rw[Bv,Bv]at h
 have el:(xs.toList.take p).length=(ys.toList.take p).length:=by
  rw[ft,ft];simp[e]
 rw[List.zip_append el,List.zip_cons_cons]at h
 have w:xs.toList.zip ys.toList=(xs.toList.take p).zip (ys.toList.take p)++(xs.toList.drop p).zip (ys.toList.drop p):=by
  rw[<- List.zip_append el,e9,e9]
 rw[w]
 rcases fB.mp h with h|h
 ·exact .inr (dY _ h)
 ·rcases P'.mp h with h|h
  ·exact .inl h
  ·exact .inr (dW _ h)
theorem XN{t:SetTable}(hd:t.dummies=#[])(j:Nat):t.put j=({ t with place:=insertAt t.place (below t.place j) j },below t.place j):=by
 unfold SetTable.put
 have:has t.dummies j=false:=by rw[hd];simp[SetTable.has]
 simp[this]
theorem Vb{t:SetTable}{es:Array (Int×Value)}(I:Inv t es){h:Int}{x:Value}{n:Nat}(hF:Fst t.mask t.place.toList h n) :
  Inv0 { t with place:=insertAt t.place (below t.place (pt t.mask h n)) (pt t.mask h n) } (insertAt es (below t.place (pt t.mask h n)) (h,x)):=by
 have f:=I.full
 refine⟨I.msk,I.dum,LU I.rise hF.1,fun j hj=>?_,?_,?_,fun q hq=>?_⟩
 ·rcases(E1 _ _ _ _).mp hj with e|e
  ·rw[e];exact Wf _ _ _
  ·exact I.le j e
 ·rw[C9,C9,I.size]
 ·show(insertAt t.place _ _).size<=t.mask
  rw[C9];omega
 ·have sub:∀z∈t.place.toList,z∈(insertAt t.place (below t.place (pt t.mask h n)) (pt t.mask h n)).toList:=fun z hz=>(E1 _ _ _ _).mpr (.inr hz)
  rcases Ov _ _ I.size _ _ _ q hq with e|e
  ·subst e
   exact⟨n,rfl,fun k hk=>sub _ (hF.2 k hk)⟩
  ·exact(I.way q e).mono sub
theorem VT{t:SetTable}{es:Array (Int×Value)}(I:Inv0 t es){h:Int}{e:Nat}(hF:Fst t.mask t.place.toList h e){i:Nat}{x:Value}(hi:es[i]?=some (h,x)):∃k,k<e/\below t.place (pt t.mask h k)=i:=by
 have hs:i<es.size:=(fH.mp hi).1
 have hp:i<t.place.size:=by rw[I.size];exact hs
 have hm:(t.place[i],(h,x))∈t.place.toList.zip es.toList:=by
  refine fL.mpr ⟨i,?_⟩
  rw[gN]
  refine⟨by simp[hp],by rw[fM];exact hi⟩
 obtain⟨n,e1,e2⟩:=I.way _ hm
 have e1:pt t.mask h n=t.place[i]:=e1
 have hj:pt t.mask h n∈t.place.toList:=by rw[e1];simp
 have hne:n<e:=by
  rcases eN n e with q|q
  ·exact q
  ·rcases eN e n with q'|q'
   ·exact absurd (e2 e q') hF.1
   ·rw[show n=e by omega]at hj;exact absurd hj hF.1
 refine⟨n,hne,?_⟩
 have b:=IY I.rise hj
 rw[e1]at b ⊢
 have b1:=(fH.mp b)
 obtain⟨b2,b3⟩:=b1
 rcases gX (below t.place t.place[i]) i with q|q|q
 ·have:=I.rise.lt q hp
  simp[Array.getD,hp,b2]at this
  omega
 ·exact q
 ·have:=I.rise.lt q b2
  simp[Array.getD,hp,b2]at this
  omega
structure Own(m:Nat)(ps:List Nat)(ow:Array (Option Nat)):Prop where
 sz:ow.size=m+1
 nd:ps.Nodup
 le:∀j∈ps,j<=m
 yes:∀(i j:Nat),ps[i]?=some j->ow[j]?=some (some i)
 no:∀(j:Nat),j<=m->j∉ps->ow[j]?=some none
theorem Own.none_iff{m:Nat}{ps:List Nat}{ow:Array (Option Nat)}(O:Own m ps ow){j:Nat}(h:j<=m):(ow.getD j (some 0)).isNone=true↔j∉ps:=by
 by_cases c:j∈ps
 ·obtain⟨i,hi⟩:=fL.mp c
  have:=O.yes i j hi
  rw[eJ,this]
  simp[c]
 ·have:=O.no j h c
  rw[eJ,this]
  simp[c]
theorem MJ{m:Nat}{ps:List Nat}{ow:Array (Option Nat)}(O:Own m ps ow)(h:Int):∀(f r:Nat),(∀k,k<N m h r->pt m h k∈ps)->(∃r',r<=r'/\r'<r+f/\(R m h r').1∉ps) ->
  ∃n,layClean.free m ow f (R m h r).1 (R m h r).2=some (pt m h n)/\Fst m ps h n
 |0,r,_,⟨r',a,b,_⟩=>absurd b (by omega)
 |f+1,r,hb,⟨r',a,b,c⟩=>by
  unfold layClean.free
  have hR:=cB m h r
  have hl:=@GO m (R m h r).1
  have hu:=MC hR
  cases e:(List.range (runEnd m (R m h r).1+1-(R m h r).1)).find? fun k=>(ow.getD ((R m h r).1+k) (some 0)).isNone with
  |some k =>
   obtain⟨e1,e2,e3⟩:=List.find?_range_eq_some.mp e
   have e2:=eQ.mp e2
   have hk:k<=runEnd m (R m h r).1-(R m h r).1:=by omega
   refine⟨N m h r+k,?_,?_,fun k' hk'=>?_⟩
   ·show some ((R m h r).1+k)=_
    rw[Hc hk]
   ·rw[Hc hk];exact(O.none_iff (by omega)).mp e1
   ·rcases eN k' (N m h r)with q|q
    ·exact hb k' q
    ·have e4:=e3 (k'-N m h r) (by omega)
     have hk2:k'-N m h r<=runEnd m (R m h r).1-(R m h r).1:=by omega
     have e5:=Hc (h:=h) (r:=r) hk2
     rw[show N m h r+(k'-N m h r)=k' by omega]at e5
     rw[e5]
     refine gP fun z=>?_
     have:=(O.none_iff (j:=(R m h r).1+(k'-N m h r)) (by omega)).mpr z
     rw[this]at e4;cases e4
  |none =>
   have e3:=hZ.mp e
   have all:∀k,k<=runEnd m (R m h r).1-(R m h r).1->(R m h r).1+k∈ps:=fun k hk=>by
    refine gP fun z=>?_
    exact e3 k (eQ.mpr (by omega)) ((O.none_iff (j:=(R m h r).1+k) (by omega)).mpr z)
   have hb':∀k,k<N m h (r+1)->pt m h k∈ps:=fun k hk=>by
    rcases eN k (N m h r)with q|q
    ·exact hb k q
    ·have hk:k<N m h r+(runEnd m (R m h r).1-(R m h r).1)+1:=hk
     have e5:=Hc (m:=m) (h:=h) (r:=r) (k:=k-N m h r) (by omega)
     rw[show N m h r+(k-N m h r)=k by omega]at e5
     rw[e5]
     exact all _ (by omega)
   have hr':r≠r':=fun z=>by subst z;exact c (by simpa using all 0 (eA _))
   exact MJ O h f (r+1) hb' ⟨r',by omega,by omega,c⟩
theorem VE{m:Nat}{ps:List Nat}{ow:Array (Option Nat)}(O:Own m ps ow){j:Nat}(hj:j<=m)(hn:j∉ps):Own m (ps++[j]) (ow.setIfInBounds j (some ps.length)):=by
 refine⟨by simp[O.sz],?_,?_,?_,?_⟩
 ·refine iD.mpr ⟨O.nd,by simp,fun a ha b hb=>?_⟩
  simp at hb
  rw[hb];exact fun z=>hn (z▸ha)
 ·intro x hx
  rcases fB.mp hx with hx|hx
  ·exact O.le x hx
  ·simp at hx;rw[hx];exact hj
 ·intro i x hx
  rcases gX i ps.length with q|q|q
  ·rw[dw q]at hx
   have:x≠j:=fun z=>hn (z▸du hx)
   rw[gj (fun z=>this z.symm)]
   exact O.yes i x hx
  ·subst q
   rw[dh (J' _)]at hx
   simp at hx
   rw[<- hx,Array.getElem?_setIfInBounds_self_of_lt (by rw[O.sz];omega)]
  ·rw[dh (by omega)]at hx
   have:[j][i-ps.length]?=none:=gD (by simp;omega)
   rw[this]at hx;cases hx
 ·intro x hx hxn
  have h1:x∉ps:=fun z=>hxn (dY _ z)
  have h2:x≠j:=fun z=>hxn (dW _ (by simp[z]))
  rw[gj (fun z=>h2 z.symm)]
  exact O.no x hx h1
theorem VF(m:Nat):Own m [] (Array.replicate (m+1) none) :=
 ⟨by simp,gG,fun j h=>(fy h).elim,fun i j h=>(by cases h),fun j h _=>by rw[Array.getElem?_replicate,if_pos (by omega)]⟩
abbrev Jn(m:Nat)(acc:Option (Array (Option Nat)×Nat))(h:Int):Option (Array (Option Nat)×Nat):=do
  let (owner,k) <- acc
  let j <- layClean.free m owner (turns m) (bits h % (m+1)) (bits h)
  pure (owner.setIfInBounds j (some k),k+1)
theorem OG{m kk:Nat}(hm:m+1=2 ^ kk):∀(hs done:List Int) (ps:List Nat) (ow:Array (Option Nat)),Own m ps ow->ps.length=done.length->done.length+hs.length<=m ->
  (∀(i:Nat) h (j:Nat),done[i]?=some h->ps[i]?=some j->Way m ps h j) ->
  ∃ps' ow',hs.foldl (Jn m) (some (ow,ps.length))=some (ow',ps'.length)/\Own m ps' ow'/\ps'.length=done.length+hs.length/\(∀(i:Nat) h (j:Nat),(done++hs)[i]?=some h->ps'[i]?=some j->Way m ps' h j)
 |[],done,ps,ow,O,hl,hb,hw=>⟨ps,ow,rfl,O,hl,by rw[dz];exact hw⟩
 |h::hs,done,ps,ow,O,hl,hb,hw=>by
  simp only[List.length_cons]at hb
  obtain⟨y,hy,hyn⟩:=Wa (m:=m) (ps:=ps) (by omega)
  obtain⟨r,hr,e⟩:=MD hm h hy
  obtain⟨n,ef,hF⟩:=MJ O h (turns m) 0 (fun k hk=>absurd hk (eP k)) ⟨r,eA _,by unfold turns;omega,by rw[e];exact hyn⟩
  have ef:layClean.free m ow (turns m) (bits h % (m+1)) (bits h)=some (pt m h n):=ef
  have es:Jn m (some (ow,ps.length)) h=some (ow.setIfInBounds (pt m h n) (some ps.length),(ps++[pt m h n]).length):=by
   show(layClean.free m ow (turns m) (bits h % (m+1)) (bits h)).bind _=_
   rw[ef];simp
  have O':=VE O (Wf m h n) hF.1
  obtain ⟨ps', ow', a, b, c, d⟩ := OG hm hs (done ++ [h]) (ps ++ [pt m h n]) _ O' (by simp [hl]) (by simp; omega) (fun i h' j h1 h2 => by
   have sub:∀z∈ps,z∈ps++[pt m h n]:=fun z hz=>dY _ hz
   rcases gX i done.length with q|q|q
   ·rw[dw q]at h1
    rw[dw (by omega)]at h2
    exact(hw i h' j h1 h2).mono sub
   ·subst q
    rw[dh (J' _)]at h1
    rw[dh (by omega),hl]at h2
    simp at h1 h2
    subst h1;subst h2
    exact⟨n,rfl,fun k hk=>sub _ (hF.2 k hk)⟩
   ·rw[dh (by omega)]at h1
    have:[h][i-done.length]?=none:=gD (by simp;omega)
    rw[this]at h1;cases h1)
  refine⟨ps',ow',?_,b,by rw[c];simp;omega,by rw[fP]at d;exact d⟩
  rw[iI,es];exact a
theorem OH(m:Nat)(hs:Array Int):layClean m hs=(hs.toList.foldl (Jn m) (some (Array.replicate (m+1) none,0))).map (·.1):=by
 unfold layClean
 rw[Array.foldl_toList]
theorem Q8{α:Type}(xs:List α):(List.range xs.length).filterMap (fun i=>xs[i]?)=xs:=by
 induction xs with
 |nil=>rfl
 |cons x xs ih =>
  rw[X',List.range_succ_eq_map,fh]
  simp only[List.getElem?_cons_zero]
  rw[List.filterMap_map]
  exact congrArg (x::·) ih
theorem RY{m kk:Nat}(hm:m+1=2 ^ kk)(hk:Msk m)(fi mo:Nat)(led plain:Bool)(es:Array (Int×Value))(hl:es.size<=m) :
  ∃t' order,laid m fi mo led plain (es.map (·.1))=some (t',order)/\t'.led=led/\t'.mask=m/\t'.plain=plain/\Inv0 t' (order.filterMap (es[·]?))/\(order.filterMap (es[·]?)).toList.Perm es.toList:=by
 obtain⟨ps,ow,a,O,c,d⟩:=OG hm (es.map (·.1)).toList [] [] _ (VF m) rfl (by simpa using hl) (fun i h j h1=>by cases h1)
 have hc:layClean m (es.map (·.1))=some ow:=by
  rw[OH]
  have a:List.foldl (Jn m) (some (Array.replicate (m+1) none,0)) (es.map (·.1)).toList=some (ow,ps.length):=a
  rw[a];rfl
 have hpl:ps.length=es.size:=by rw[c];simp
 let live:=(List.range (m+1)).filterMap fun j=>(ow.getD j none).map (j,·)
 have hlive:∀j i,(j,i)∈live↔ps[i]?=some j:=by
  intro j i
  constructor
  ·intro h
   obtain⟨j',h1,h2⟩:=gS.mp h
   have h1:=eQ.mp h1
   obtain⟨i',h3,h4⟩:=oM h2
   obtain⟨rfl,rfl⟩:=Prod.mk.inj h4
   by_cases q:j'∈ps
   ·obtain⟨i2,q2⟩:=fL.mp q
    have:=O.yes i2 j' q2
    rw[eJ,this]at h3
    simp at h3
    rw[<- h3];exact q2
   ·have:=O.no j' (by omega) q
    rw[eJ,this]at h3
    simp at h3
  ·intro h
   refine gS.mpr ⟨j,eQ.mpr (Nat.lt_succ_of_le (O.le j (du h))),?_⟩
   rw[eJ,O.yes i j h];rfl
 have hr1:(live.map (·.1)).Pairwise (·<·):=by
  rw[gd]
  refine List.pairwise_filterMap.mpr ((List.pairwise_lt_range).imp ?_)
  intro a b hab x hx y hy
  obtain⟨_,_,rfl⟩:=oM hx
  obtain⟨_,_,rfl⟩:=oM hy
  exact hab
 have hnd:(live.map (·.2)).Nodup:=by
  show(live.map (·.2)).Pairwise (·≠·)
  rw[gd]
  have:live.Pairwise (fun x y=>x.1<y.1):=gd.mp hr1
  refine(List.Pairwise.and_mem.mp this).imp ?_
  rintro⟨x1,x2⟩ ⟨y1,y2⟩ ⟨hx,hy,hlt⟩ e
  have e:x2=y2:=e
  have hx:=(hlive _ _).mp hx
  have hy:=(hlive _ _).mp hy
  rw[e,hy]at hx
  have:y1=x1:=E' hx
  have hlt:x1<y1:=hlt
  omega
 have hperm:(live.map (·.2)).Perm (List.range es.size):=by
  refine(iA hnd List.nodup_range).mpr fun i=>?_
  constructor
  ·intro h
   obtain⟨⟨j,i'⟩,h1,rfl⟩:=df.mp h
   have:=(hlive _ _).mp h1
   rw[<- hpl]
   exact eQ.mpr (R'.mp this).1
  ·intro h
   have h:=eQ.mp h
   rw[<- hpl]at h
   exact df.mpr ⟨(ps[i],i),(hlive _ _).mpr (eG h),rfl⟩
 have hes:(((live.map (·.2)).toArray).filterMap (es[·]?)).toList=(live.map (·.2)).filterMap (fun i=>es.toList[i]?):=by
  simp
 have hp2:(((live.map (·.2)).toArray).filterMap (es[·]?)).toList.Perm es.toList:=by
  rw[hes]
  refine(hperm.filterMap _).trans ?_
  have:=Q8 es.toList
  rw[show es.toList.length=es.size by simp]at this
  rw[this]
 have hzip:∀(l:List (Nat×Nat)),(∀x∈l,x.2<es.size)->∀q∈(l.map (·.1)).zip ((l.map (·.2)).filterMap (fun i=>es.toList[i]?)),∃i,(q.1,i)∈l/\es.toList[i]?=some q.2:=by
  intro l
  induction l with
  |nil=>intro _ q hq;simp at hq
  |cons x l ih =>
   intro hx q hq
   have h1:=hx x F'
   have e:es.toList[x.2]?=some es.toList[x.2]:=eG (by simpa using h1)
   rw[U',U',fh,e]at hq
   rcases P'.mp hq with rfl|hq
   ·exact⟨x.2,F',e⟩
   ·obtain⟨i,a1,a2⟩:=ih (fun y hy=>hx y (C' _ hy)) q hq
    exact⟨i,C' _ a1,a2⟩
 have hmem:∀j,j∈live.map (·.1)↔j∈ps:=fun j=>by
  constructor
  ·intro h
   obtain⟨⟨j',i⟩,h1,rfl⟩:=df.mp h
   exact du ((hlive _ _).mp h1)
  ·intro h
   obtain⟨i,hi⟩:=fL.mp h
   exact df.mpr ⟨(j,i),(hlive _ _).mpr hi,rfl⟩
 have hlen:live.length=es.size:=by
  have:=hperm.length_eq
  simpa using this
 refine⟨{ mask:=m,place:=(live.map (·.1)).toArray,dummies:=#[],finger:=fi,led,moves:=mo,plain },(live.map (·.2)).toArray,?_,rfl,rfl,rfl,⟨hk,rfl,hr1,?_,?_,?_,?_⟩,hp2⟩
 ·unfold laid;rw[hc];rfl
 ·intro j hj;exact O.le j ((hmem j).mp hj)
 ·have:=hp2.length_eq
  simp only[Array.length_toList]at this
  rw[this]
  show(live.map (·.1)).toArray.size=_
  simp[hlen]
 ·show(live.map (·.1)).toArray.size<=m
  simp[hlen,hl]
 ·intro q hq
  rw[hes]at hq
  obtain ⟨i, a1, a2⟩ := hzip live (fun x hx => by
   have:=(R'.mp ((hlive x.1 x.2).mp hx)).1
   omega) q hq
  have h1:=(hlive _ _).mp a1
  have w:=d i q.2.1 q.1 (by simp at a2 ⊢;rw[a2];exact⟨_,rfl⟩) h1
  exact w.mono fun z hz=>(hmem z).mpr hz
theorem Ni{t:SetTable}{es:Array (Int×Value)}(I:Inv0 t es)(hb:es.size<=4914)(hf:t.tooFull=true)(hpre:(es.size-1)*5<t.mask*3) :
  sizeAbove (grown es.size)<=8192/\∃t' order,t.relaid (es.map (·.1)) (grown es.size)=some (t',order)/\t'.led=t.led/\t'.plain=t.plain/\Inv t' (order.filterMap (es[·]?))/\(order.filterMap (es[·]?)).toList.Perm es.toList:=by
 have hfull:es.size*5≥t.mask*3:=by
  unfold SetTable.tooFull at hf
  rw[I.fill]at hf
  exact of_decide_eq_true hf
 have key:∃m',sizeAbove (grown es.size)-1=m'/\Msk m'/\es.size*5<m'*3/\sizeAbove (grown es.size)<=8192:=by
  rcases I.msk with q|q|q|q|q|q<;>rw[q]at hfull hpre
  ·rw[show es.size=5 by omega];exact⟨31,by decide,.inr (.inl rfl),by decide,by decide⟩
  ·rw[show es.size=19 by omega];exact⟨127,by decide,.inr (.inr (.inl rfl)),by decide,by decide⟩
  ·rw[show es.size=77 by omega];exact⟨511,by decide,.inr (.inr (.inr (.inl rfl))),by decide,by decide⟩
  ·rw[show es.size=307 by omega];exact⟨2047,by decide,.inr (.inr (.inr (.inr (.inl rfl)))),by decide,by decide⟩
  ·rw[show es.size=1229 by omega];exact⟨8191,by decide,.inr (.inr (.inr (.inr (.inr rfl)))),by decide,by decide⟩
  ·omega
 obtain⟨m',e,hk,hr,hs⟩:=key
 refine⟨hs,?_⟩
 obtain⟨kk,hm⟩:=hk.pow
 unfold SetTable.relaid
 rw[e]
 obtain⟨t',order,a1,a2,a3,a4,a5,a6⟩:=RY hm hk t.finger (t.movedTo m') t.led t.plain es (by omega)
 refine⟨t',order,a1,a2,a4,⟨a5,?_⟩,a6⟩
 have h1:=a5.size
 have h2:=a6.length_eq
 simp only[Array.length_toList]at h2
 rw[a3];omega
end Stb
end
section
namespace Stb
open PySem PyProof.Rows SetTable
section
variable {prog:Program} {w:World} {A:Around} {E:Value->Shared->Prop} {s:Shared}
abbrev TK(prog:Program)(w:World)(h:Heap)(ks:List Int)(b:Addr):Prop:=IsTupleKey (intKind prog w) h ks b
abbrev hsh(prog:Program)(w:World)(ks:List Int):Int:=tupleKeyHash (intKind prog w) ks
theorem items_int{ks:List Int}{vs:List Value}(h:ItemsAre (intKind prog w) ks vs):∀v∈vs,∃n t,v = .int n t:=by
 induction h with
 |nil=>intro v hv;simp at hv
 |@cons k v' ks vs h1 _ ih =>
  intro v hv
  rcases P'.mp hv with rfl|hv
  ·cases v with
   |int n t=>exact⟨n,t,rfl⟩
   |_=>exact absurd h1 (by simp[intKind,Value.isInt])
  ·exact ih v hv
theorem N8(d:Nat)(n:Int)(t:Tok):ofAClassStatement d (.int n t)=pure false:=by
 unfold ofAClassStatement;rfl
theorem Gg{ks:List Int}{a:Addr}{Q:Bool->Shared->Prop}(hk:TK prog w s.heap ks a)(h:Q false s):wpAny (model prog w) A (ofAClassStatement 8 (.ref a)) Q E s:=by
 have hT:=hk.typeIs
 obtain⟨o,items,n,ho,hc,hd,hi⟩:=hk
 unfold ofAClassStatement
 refine wpAny_bind (wpAny_typeOf hT ?_)
 dsimp only
 have e:("tuple"=="tuple")=true:=by decide
 rw[if_pos e]
 refine wpAny_bind (wpAny_pure ?_)
 simp only[Bool.not_true,Bool.false_eq_true,if_false]
 refine wpAny_bind (wpAny_seqItems ho hd ?_)
 dsimp only
 refine wpAny_bind ?_
 rw[<- Array.forIn_toList]
 refine wpAny_forIn_list _ (fun Cn r s'=>r.1=none/\s'=s/\∀v∈Cn,∃n t,v=Value.int n t) _ ?_ ?_ _ _ ⟨rfl,rfl,items_int hi⟩
 ·rintro v Cn r s' ⟨hr,rfl,hall⟩
  obtain⟨n,t,rfl⟩:=hall v F'
  rw[N8]
  refine wpAny_bind (wpAny_pure ?_)
  simp only[Bool.false_eq_true,if_false]
  exact wpAny_pure ⟨rfl,rfl,fun u hu'=>hall u (C' _ hu')⟩
 ·rintro⟨r1,r2⟩ s' ⟨hr,rfl,_⟩
  simp only at hr
  subst hr
  exact wpAny_pure h
theorem O1{ks:List Int}{a:Addr}{ys:List Value}{Q:Bool->Shared->Prop}(hk:TK prog w s.heap ks a)(hy:∀y∈ys,∃b ks',y = .ref b/\TK prog w s.heap ks' b)(h:Q false s):wpAny (model prog w) A (searchCouldBeSeen (.ref a) ys) Q E s:=by
 unfold searchCouldBeSeen
 refine wpAny_bind ?_
 refine wpAny_forIn_list _ (fun Cn r s'=>r.1=none/\s'=s/\∀y∈Cn,∃b ks',y = .ref b/\TK prog w s.heap ks' b) _ ?_ ?_ _ _ ⟨rfl,rfl,hy⟩
 ·rintro v Cn r s' ⟨hr,rfl,hall⟩
  obtain⟨b,ks',rfl,hb⟩:=hall v F'
  dsimp only
  split
  ·exact wpAny_pure ⟨rfl,rfl,fun u hu'=>hall u (C' _ hu')⟩
  ·refine wpAny_bind (wpAny_eqIsQuiet_tuple hk ?_)
   simp only[Bool.not_true,Bool.false_eq_true,if_false]
   refine wpAny_bind (wpAny_eqIsQuiet_tuple hb ?_)
   simp only[Bool.not_true,Bool.false_eq_true,if_false]
   refine wpAny_bind (Gg hk ?_)
   simp only[Bool.false_eq_true,if_false]
   refine wpAny_bind (Gg hb ?_)
   simp only[Bool.false_eq_true,if_false]
   exact wpAny_pure ⟨rfl,rfl,fun u hu'=>hall u (C' _ hu')⟩
 ·rintro⟨r1,r2⟩ s' ⟨hr,rfl,_⟩
  simp only at hr
  subst hr
  exact wpAny_pure h
theorem Ls{ks:List Int}{a:Addr}{Q:Bool->Shared->Prop}(hk:TK prog w s.heap ks a)(h:Q true s):wpAny (model prog w) A (hashByValue 8 (.ref a)) Q E s:=by
 have hT:=hk.typeIs
 obtain⟨o,items,n,ho,hc,hd,hi⟩:=hk
 unfold hashByValue
 refine wpAny_bind (wpAny_specialOf hT F.slot_tuple_hash.lookup ?_)
 dsimp only
 refine wpAny_bind (wpAny_seqItems ho hd ?_)
 show wpAny _ _ (forIn items _ _ >>= _) _ _ s
 refine wpAny_bind ?_
 rw[<- Array.forIn_toList]
 refine wpAny_forIn_list _ (fun Cn r s'=>r.1=none/\s'=s/\∀v∈Cn,∃n t,v=Value.int n t) _ ?_ ?_ _ _ ⟨rfl,rfl,items_int hi⟩
 ·rintro v Cn r s' ⟨hr,rfl,hall⟩
  obtain⟨n,t,rfl⟩:=hall v F'
  have e:hashByValue 7 (.int n t)=pure true:=by unfold hashByValue;rfl
  rw[e]
  refine wpAny_bind (wpAny_pure ?_)
  simp only[Bool.not_true,Bool.false_eq_true,if_false]
  exact wpAny_pure ⟨rfl,rfl,fun u hu'=>hall u (C' _ hu')⟩
 ·rintro⟨r1,r2⟩ s' ⟨hr,rfl,_⟩
  simp only at hr
  subst hr
  exact wpAny_pure h
end
def iv:Value->Int
 |.int n _=>n
 |_=>0
def tk(h:Heap):Value->List Int
 |.ref b=>match h.get? b with
  |some o=>match o.data with
   |.seq items _=>items.toList.map iv
   |_=>[]
  |none=>[]
 |_=>[]
section
variable {prog:Program} {w:World} {A:Around} {E:Value->Shared->Prop} {s:Shared}
theorem To{ks:List Int}{vs:List Value}(h:ItemsAre (intKind prog w) ks vs):vs.map iv=ks:=by
 induction h with
 |nil=>rfl
 |@cons k v' ks vs h1 h2 ih =>
  rw[U',ih]
  obtain⟨n,t,rfl⟩:=items_int (.cons h1 h2) v' F'
  have:n=k:=by simpa[intKind,Value.isInt] using h1
  rw[this.symm];rfl
theorem tk_eq{h:Heap}{ks:List Int}{b:Addr}(k:TK prog w h ks b):tk h (.ref b)=ks:=by
 obtain⟨o,items,n,ho,hc,hd,hi⟩:=k
 show (match h.get? b with
  |some o=>match o.data with
   |.seq items _=>items.toList.map iv
   |_=>[]
  |none=>[])=ks
 rw[ho]
 dsimp only
 rw[hd]
 exact To hi
structure TSet(prog:Program)(w:World)(B:Addr->Prop)(h:Heap)(t:SetTable)(es:Array (Int×Value))(S:List (List Int)):Prop where
 inv:Inv t es
 ent:∀e∈es.toList,∃b ks,e=(hsh prog w ks,Value.ref b)/\TK prog w h ks b/\B b
 nd:S.Nodup
 perm:(es.toList.map fun e=>tk h e.2).Perm S
theorem Inv.fits{t:SetTable}{es:Array (Int×Value)}(I:Inv0 t es):t.fits es.size=true:=by
 unfold SetTable.fits
 rw[I.fill,I.size]
 have:=I.room
 have:=I.size
 simp
 omega
theorem Inv0.even{t:SetTable}{es:Array (Int×Value)}(I:Inv0 t es):t.gaveWay=false:=by
 unfold SetTable.gaveWay
 rw[I.msk.odd];rfl
theorem Jq{es:Array (Int×Value)}{i:Nat}{e:Int×Value}(h:es[i]?=some e):((es[i]?.map (·.1)).getD 0)=e.1:=by rw[h];rfl
theorem J5(t:SetTable):t.sameMemory t.moves t.mask=some true:=by unfold SetTable.sameMemory;simp
theorem O3{B:Addr->Prop}{a b:Addr}{o:Obj}{es:Array (Int×Value)}{ep:Nat}{t:SetTable}{ks:List Int}{S:List (List Int)}{Q:SetFound->Shared->Prop}
  (ho:s.heap.get? a=some o) (hd:o.data = .set es ep t) (T:TSet prog w B s.heap t es S) (hk:TK prog w s.heap ks b) (hu:A.units<cLine) {e:Nat}
  (hF:Fst t.mask t.place.toList (hsh prog w ks) e) (he:e<=10*(t.mask+12)) (q1:ks∈S->Q (.there none) s) (q2:ks∉S->Q (.free (pt t.mask (hsh prog w ks) e) false) s) :
  ∀(f n:Nat) (stand:Option Probe),n<=e->e-n<f->stand.getD (t.probeStart (hsh prog w ks))=it t.mask (hsh prog w ks) n ->
   (∀k,k<n->∀x,es[below t.place (pt t.mask (hsh prog w ks) k)]?=some x->x.1=hsh prog w ks->tk s.heap x.2≠ks) ->
   wpAny (model prog w) A (setSearchFrom a (.ref b) (hsh prog w ks) true f stand) Q E s
 |0,n,stand,h1,h2,_,_=>absurd h2 (eP _)
 |f+1,n,stand,h1,h2,h3,h4=>by
  have I:=T.inv.toInv0
  have hf:=Inv.fits I
  unfold setSearchFrom
  refine wpAny_bind (wpAny_setState_of ho hd hf ?_)
  dsimp only
  rw[I.even,h3]
  simp only[Bool.false_eq_true,if_false]
  have slotEnt:∀k,k<e->∃x,es[below t.place (pt t.mask (hsh prog w ks) k)]?=some x:=fun k hk=>by
   have hm:=IY I.rise (hF.2 k hk)
   have:=(fH.mp hm).1
   rw[I.size]at this
   exact⟨_,eR this⟩
  rcases Nk I.rise I.dum (fun i=>((es[i]?.map (·.1)).getD 0)) hF (10*turns t.mask) n h1 (by unfold turns;omega)with ⟨e1,e2⟩|⟨k,k1,k2,k3,k4,k5⟩
  ·have e1:t.probe (fun i=>((es[i]?.map (·.1)).getD 0)) (hsh prog w ks) (it t.mask (hsh prog w ks) n)=_:=e1
   show wpAny _ _ (match t.probe (fun i=>((es[i]?.map (·.1)).getD 0)) (hsh prog w ks) (it t.mask (hsh prog w ks) n) with|some met=>_|_=>_) _ _ _
   rw[e1]
   refine wpAny_pure (q2 fun hS=>?_)
   have hm:=T.perm.mem_iff.mpr hS
   obtain⟨x,hx,ex⟩:=df.mp hm
   obtain⟨b',ks',rfl,hb',_⟩:=T.ent x hx
   have ek:ks'=ks:=by rw[<- ex];exact(tk_eq hb').symm
   subst ek
   obtain⟨i,hi⟩:=fL.mp hx
   rw[fM]at hi
   obtain⟨k,hke,ei⟩:=VT I hF hi
   rcases eN k n with q|q
   ·exact h4 k q _ (by rw[ei];exact hi) rfl (tk_eq hb')
   ·exact e2 k q hke (by rw[ei];exact Jq hi)
  ·have k4:t.probe (fun i=>((es[i]?.map (·.1)).getD 0)) (hsh prog w ks) (it t.mask (hsh prog w ks) n)=_:=k4
   show wpAny _ _ (match t.probe (fun i=>((es[i]?.map (·.1)).getD 0)) (hsh prog w ks) (it t.mask (hsh prog w ks) n) with|some met=>_|_=>_) _ _ _
   rw[k4]
   dsimp only
   obtain⟨x,hx⟩:=slotEnt k k2
   have hxm:x∈es.toList:=by rw[fF];exact Array.mem_of_getElem? hx
   obtain⟨b',ks',rfl,hb',_⟩:=T.ent x hxm
   have hh:hsh prog w ks'=hsh prog w ks:=by have:=Jq hx;rw[<- k3];exact this.symm
   cases hl:t.led with
   |true =>
    simp only[Bool.not_true,Bool.false_eq_true,if_false]
    rw[hx]
    dsimp only
    refine wpAny_bind (wpAny_holding (wpAny_eqBool_tuple hu hb' hk ?_))
    refine wpAny_bind (wpAny_setState_of ho hd hf ?_)
    dsimp only
    by_cases c:ks'=ks
    ·subst c
     rw[decide_eq_true rfl]
     simp only[Bool.and_self,if_true]
     refine wpAny_pure (q1 ?_)
     exact T.perm.mem_iff.mp (df.mpr ⟨_,hxm,tk_eq hb'⟩)
    ·rw[decide_eq_false c]
     simp only[Bool.and_false,Bool.false_eq_true,if_false]
     rw[J5]
     dsimp only
     simp only[if_true]
     rw[J3 I.rise (hF.2 k k2)]
     dsimp only
     rw[hx]
     dsimp only
     refine wpAny_bind (wpAny_isSame_ref_self ?_)
     refine wpAny_bind (wpAny_pure ?_)
     simp only[if_true]
     refine O3 ho hd T hk hu hF he q1 q2 f (k+1) _ k2 (by omega) rfl fun k' hk' y hy1 hy2=>?_
     rcases eN k' n with q|q
     ·exact h4 k' q y hy1 hy2
     ·rcases eN k' k with q'|q'
      ·exact absurd ((Jq hy1).trans hy2) (k5 k' q q')
      ·have:k'=k:=by omega
       subst this
       rw[hx]at hy1
       obtain rfl:=E' hy1
       rw[show tk s.heap (hsh prog w ks',Value.ref b').2=ks' from tk_eq hb']
       exact c
   |false =>
    simp only[Bool.not_false,if_true]
    refine wpAny_bind (O1 hk ?_ ?_)
    ·intro y hy
     obtain⟨z,hz,rfl⟩:=df.mp hy
     have hz':z∈es.toList:=by
      have:=(fF).mp hz
      rw[fF]
      exact(Array.mem_filter.mp this).1
     obtain⟨b2,ks2,rfl,h2,_⟩:=T.ent z hz'
     exact⟨b2,ks2,rfl,h2⟩
    ·simp only[Bool.false_eq_true,if_false]
     rw[hx]
     dsimp only
     refine wpAny_bind (wpAny_holding (wpAny_eqBool_tuple hu hb' hk ?_))
     refine wpAny_bind (wpAny_setState_of ho hd hf ?_)
     dsimp only
     by_cases c:ks'=ks
     ·subst c
      rw[decide_eq_true rfl]
      simp only[Bool.and_self,if_true]
      refine wpAny_pure (q1 ?_)
      exact T.perm.mem_iff.mp (df.mpr ⟨_,hxm,tk_eq hb'⟩)
     ·rw[decide_eq_false c]
      simp only[Bool.and_false,Bool.false_eq_true,if_false]
      rw[J5]
      dsimp only
      simp only[if_true]
      rw[J3 I.rise (hF.2 k k2)]
      dsimp only
      rw[hx]
      dsimp only
      refine wpAny_bind (wpAny_isSame_ref_self ?_)
      refine wpAny_bind (wpAny_pure ?_)
      simp only[if_true]
      refine O3 ho hd T hk hu hF he q1 q2 f (k+1) _ k2 (by omega) rfl fun k' hk' y hy1 hy2=>?_
      rcases eN k' n with q|q
      ·exact h4 k' q y hy1 hy2
      ·rcases eN k' k with q'|q'
       ·exact absurd ((Jq hy1).trans hy2) (k5 k' q q')
       ·have:k'=k:=by omega
        subst this
        rw[hx]at hy1
        obtain rfl:=E' hy1
        rw[show tk s.heap (hsh prog w ks',Value.ref b').2=ks' from tk_eq hb']
        exact c
end
section
variable {prog:Program} {w:World} {A:Around} {E:Value->Shared->Prop} {s:Shared}
def ins(S:List (List Int))(k:List Int):List (List Int):=if k∈S then S else S++[k]
theorem TSet.keep{B:Addr->Prop}{h h':Heap}{t:SetTable}{es:Array (Int×Value)}{S:List (List Int)}(T:TSet prog w B h t es S)(k:∀b ks,TK prog w h ks b->TK prog w h' ks b):TSet prog w B h' t es S:=by
 refine⟨T.inv,fun e he=>?_,T.nd,?_⟩
 ·obtain⟨b,ks,e1,e2,e3⟩:=T.ent e he
  exact⟨b,ks,e1,k b ks e2,e3⟩
 ·have:es.toList.map (fun e=>tk h' e.2)=es.toList.map (fun e=>tk h e.2):=fQ fun e he=>by
   obtain⟨b,ks,rfl,e2,_⟩:=T.ent e he
   rw[tk_eq e2,tk_eq (k b ks e2)]
  rw[this];exact T.perm
theorem IG:(8192:Nat)<=sizeLine:=by rw[sizeLine_eq];decide
theorem add{B:Addr->Prop}{a b:Addr}{o:Obj}{es:Array (Int×Value)}{ep:Nat}{t:SetTable}{ks:List Int}{S:List (List Int)}{Q:Bool->Shared->Prop}
  {h0:Heap} (ext:∀b ks,TK prog w h0 ks b->TK prog w s.heap ks b) (ho:s.heap.get? a=some o) (hd:o.data = .set es ep t) (T:TSet prog w B h0 t es S) (hk:TK prog w h0 ks b) (hB:B b) (hu:A.units<cLine) (hb:S.length<4914)
  (h:∀r h' es' ep' t',Heap.SameBut a s.heap h'->h'.get? a=some { o with data:=.set es' ep' t' }->TSet prog w B h0 t' es' (ins S ks)->t'.led=t.led->t'.plain=t.plain->Q r { s with heap:=h' }) :
  wpAny (model prog w) A (setAddHashed a (.ref b) (hsh prog w ks)) Q E s:=by
 have I:=T.inv.toInv0
 have hf:=Inv.fits I
 have hsz:es.size=S.length:=by have:=T.perm.length_eq;simpa using this
 unfold setAddHashed setAddHashedIn
 refine wpAny_holding (wpAny_bind (wpAny_setState_of ho hd hf ?_))
 dsimp only
 have hsc:byScan (.ref b) es=false:=by unfold byScan;simp[Value.scannable]
 rw[hsc]
 simp only[Bool.false_eq_true,if_false]
 obtain⟨kk,hm⟩:=I.msk.pow
 obtain⟨e,he,hF⟩:=YF hm (ps:=t.place.toList) (by simpa using I.room) (hsh prog w ks)
 have hle:=I.msk.le
 refine wpAny_bind (m:=setSearch a (.ref b) (hsh prog w ks) true) (O3 ho hd (T.keep ext) (ext _ _ hk) hu hF he (fun hS=>?_) (fun hS=>?_) 100000 0 none (eA _) (by omega) rfl (fun k hk=>absurd hk (eP k)))
 ·dsimp only
  refine wpAny_pure ?_
  have:=h false s.heap es ep t (Heap.SameBut.refl a s.heap) (by rw[ho,<- hd]) (by unfold ins;rw[if_pos hS];exact T) rfl rfl
  exact this
 ·dsimp only
  refine wpAny_bind (wpAny_setState_of ho hd hf ?_)
  dsimp only
  rw[XN I.dum]
  dsimp only
  have I1:=Vb T.inv (x:=Value.ref b) hF
  generalize hp:below t.place (pt t.mask (hsh prog w ks) e)=p at I1 ⊢
  have hs1:(insertAt es p (hsh prog w ks,Value.ref b)).size=es.size+1:=C9 _ _ _
  have step : ∀ t1, ({ t with place := insertAt t.place p (pt t.mask (hsh prog w ks) e) } : SetTable) = t1 -> wpAny (model prog w) A (do
    storeSet a (insertAt es p (hsh prog w ks,Value.ref b)) t1
    if (!false&&t1.tooFull)=true then do
      setRelay a (grown (es.size+1))
      pure true
     else pure true) Q E s:=by
   intro t1 ht
   have I1:=ht▸I1
   have hled:t1.led=t.led:=by rw[<- ht]
   have hpl:t1.plain=t.plain:=by rw[<- ht]
   have hmk:t1.mask=t.mask:=by rw[<- ht]
   have hperm1:((insertAt es p (hsh prog w ks,Value.ref b)).toList.map fun e=>tk h0 e.2).Perm (ins S ks):=by
    refine((LV es p (hsh prog w ks,Value.ref b)).map _).trans ?_
    rw[U',show tk h0 (hsh prog w ks,Value.ref b).2=ks from tk_eq hk]
    unfold ins;rw[if_neg hS]
    exact(T.perm.cons ks).trans (iB ks S).symm
   have hent1:∀x∈(insertAt es p (hsh prog w ks,Value.ref b)).toList,∃b' ks',x=(hsh prog w ks',Value.ref b')/\TK prog w h0 ks' b'/\B b':=fun x hx=>by
    rcases(E1 _ _ _ _).mp hx with rfl|hx
    ·exact⟨b,ks,rfl,hk,hB⟩
    ·exact T.ent x hx
   have hnd1:(ins S ks).Nodup:=by
    unfold ins;rw[if_neg hS]
    exact(iB ks S).nodup_iff.mpr (eC.mpr ⟨hS,T.nd⟩)
   refine wpAny_bind (wpAny_storeSet_of ho hd ?_ (by rw[hs1];have:=IG;omega))
   have hg:(s.heap.update a (Obj.putSet (insertAt es p (hsh prog w ks,Value.ref b)) t1)).get? a=some { o with data:=.set (insertAt es p (hsh prog w ks,Value.ref b)) (ep+1) t1 }:=by
    have:=fN (Obj.putSet (insertAt es p (hsh prog w ks,Value.ref b)) t1) ho (by rw[putSet_of _ t1 hd];rfl)
    rw[putSet_of _ t1 hd]at this;exact this
   have hsb:=fk s.heap a (Obj.putSet (insertAt es p (hsh prog w ks,Value.ref b)) t1)
   cases hfull:t1.tooFull with
   |false =>
    simp only[Bool.not_false,Bool.and_false,Bool.false_eq_true,if_false]
    refine wpAny_pure (h true _ _ (ep+1) t1 hsb hg ?_ hled hpl)
    have T1:TSet prog w B h0 t1 (insertAt es p (hsh prog w ks,Value.ref b)) (ins S ks):=by
     refine⟨⟨I1,?_⟩,hent1,hnd1,hperm1⟩
     have hfl:=I1.fill
     unfold SetTable.tooFull at hfull
     rw[hfl]at hfull
     have:=of_decide_eq_false hfull
     rw[I1.size];omega
    exact T1
   |true =>
    simp only[Bool.not_false,Bool.and_self,if_true]
    have hpre:((insertAt es p (hsh prog w ks,Value.ref b)).size-1)*5<t1.mask*3:=by
     rw[hs1,hmk];have:=T.inv.full;rw[I.size]at this;simpa using this
    obtain⟨r0,t2,order,r1,r2,r3,r4,r5⟩:=Ni I1 (by rw[hs1];omega) hfull hpre
    unfold setRelay
    refine wpAny_bind (wpAny_bind (wpAny_setState_of hg rfl (Inv.fits I1) ?_))
    dsimp only
    rw[<- hs1]
    rw[if_neg (by have:=IG;omega)]
    rw[r1]
    have hz2:=r5.length_eq
    simp only[Array.length_toList]at hz2
    refine wpAny_bind ?_
    show wpAny _ _ (if ((order.filterMap ((insertAt es p (hsh prog w ks,Value.ref b))[·]?)).size != (insertAt es p (hsh prog w ks,Value.ref b)).size)=true then _ else _) _ _ _
    rw[if_neg (by rw[hz2];simp)]
    refine wpAny_pure ?_
    dsimp only
    refine wpAny_storeSet_of hg rfl ?_ (by rw[hz2,hs1];have:=IG;omega)
    refine wpAny_pure ?_
    have hg2:((s.heap.update a (Obj.putSet (insertAt es p (hsh prog w ks,Value.ref b)) t1)).update a (Obj.putSet (order.filterMap ((insertAt es p (hsh prog w ks,Value.ref b))[·]?)) t2)).get? a=some { o with data:=.set (order.filterMap ((insertAt es p (hsh prog w ks,Value.ref b))[·]?)) (ep+1+1) t2 }:=by
     have:=fN (Obj.putSet (order.filterMap ((insertAt es p (hsh prog w ks,Value.ref b))[·]?)) t2) hg (by rw[putSet_of _ t2 rfl];rfl)
     rw[putSet_of _ t2 rfl]at this;exact this
    have hsb2:=hsb.trans (fk (s.heap.update a (Obj.putSet (insertAt es p (hsh prog w ks,Value.ref b)) t1)) a (Obj.putSet (order.filterMap ((insertAt es p (hsh prog w ks,Value.ref b))[·]?)) t2))
    refine h true _ _ (ep+1+1) t2 hsb2 hg2 ?_ (r2.trans hled) (r3.trans hpl)
    have T2:TSet prog w B h0 t2 (order.filterMap ((insertAt es p (hsh prog w ks,Value.ref b))[·]?)) (ins S ks) :=
     ⟨r4,fun x hx=>hent1 x (r5.mem_iff.mp hx),hnd1,(r5.map _).trans hperm1⟩
    exact T2
  cases hpv:t.plain with
  |true =>
   simp only[if_true]
   refine wpAny_bind (Ls (ext _ _ hk) ?_)
   simp only[if_true]
   exact step _ (by rw[hpv])
  |false =>
   simp only[Bool.false_eq_true,if_false]
   refine wpAny_bind (wpAny_pure ?_)
   simp only[if_true]
   exact step _ (by rw[hpv])
end
def dd(val:Nat->List Int):Nat->List (List Int)
 |0=>[]
 |i+1=>ins (dd val i) (val i)
theorem UC(val:Nat->List Int):∀i,(dd val i).length<=i
 |0=>J' _
 |i+1=>by
  have:=UC val i
  show(ins (dd val i) (val i)).length<=_
  unfold ins
  split
  ·omega
  ·rw[L'];simp;omega
section
variable {prog:Program} {w:World} {A:Around} {R:Result->Shared->Prop} {I:Addr} {fp wr:List Addr} {G:Array GenState->Array GenState->Prop} {n:Nat} {P:Nat->Value->Prop} {St:Nat->Shared->Prop}
def Q0(prog:Program)(w:World)(B:Addr->Prop)(h0 h:Heap)(S:Addr)(o:Obj)(led:Bool)(X:List (List Int)):Prop:=∃es ep t,h.get? S=some { o with data:=.set es ep t }/\TSet prog w B h0 t es X/\t.led=led/\t.plain=true
theorem TK.at{h0 h:Heap}(k:∀b o,h0.get? b=some o->h.get? b=some o){ks:List Int}{b:Addr}(x:TK prog w h0 ks b):TK prog w h ks b:=by
 obtain⟨o',items,n,ho',hc,hd',hi⟩:=x
 exact⟨o',items,n,k _ _ ho',hc,hd',hi⟩
theorem aR{B:Addr->Prop}(W:WalksS prog w A.in1 I fp wr G n P St)(S:Addr)(hSf:S∉fp)(h0:Heap)(o:Obj)(led:Bool)(hS0:h0.get? S=none)(hw0:∀b∈wr,h0.get? b=none)
  (val:Nat->List Int) (hval:∀i v,P i v->∃b,v = .ref b/\TK prog w h0 (val i) b/\B b) (hb:n<4914) (hu:A.in1.units<cLine) :
  ∀(k i:Nat) (s:Shared),n-i=k->i<=n->St i s->(∀b o,h0.get? b=some o->s.heap.get? b=some o) ->
   Q0 prog w B h0 s.heap S o led (dd val i) ->
   (∀s',Moved (S::wr) G s s'->Q0 prog w B h0 s'.heap S o led (dd val n)->R (.ok (.ret .none)) s') ->
   codeAny (model prog w) A (.builtin "set.update.loop" ⟨[.ref S,.ref I],[]⟩) R s:=by
 have hSw:S∉wr:=fun h=>hSf (W.sub _ h)
 have hsub:∀b∈wr,b∈S::wr:=fun b hb=>C' _ hb
 have notW:∀{b o},h0.get? b=some o->b∉wr:=fun e z=>by rw[hw0 _ z]at e;cases e
 have notS:∀{b o},h0.get? b=some o->b≠S:=fun e z=>by rw[z,hS0]at e;cases e
 intro k
 induction k with
 |zero =>
  intro i s hk hi hst h0s hS hR
  have hin:i=n:=by omega
  subst hin
  refine codeAny_builtin F.entry_set_update_loop ?_
  rw[fZ F.plain_set_update_loop _]
  show wpAny _ A.in1 (pyNext (.ref I) >>= _) _ _ s
  refine wpAny_bind (W.done s _ _ hst fun s' hm=>?_)
  show wpAny _ A.in1 (ret Value.none) _ _ s'
  obtain⟨es,ep,t,e1,e2,e3,e4⟩:=hS
  exact wpAny_pure (hR s' (hm.mono hsub) ⟨es,ep,t,hm.heap S _ hSw e1,e2,e3,e4⟩)
 |succ k ih =>
  intro i s hk hi hst h0s hS hR
  have hlt:i<n:=by omega
  refine codeAny_builtin F.entry_set_update_loop ?_
  rw[fZ F.plain_set_update_loop _]
  show wpAny _ A.in1 (pyNext (.ref I) >>= _) _ _ s
  refine wpAny_bind (W.item i s _ _ hlt hst fun v s' hP hst' hm=>?_)
  obtain⟨b,rfl,hkb,hBb⟩:=hval i v hP
  obtain⟨es,ep,t,e1,e2,e3,e4⟩:=hS
  have e1':=hm.heap S _ hSw e1
  have h0s':∀b o,h0.get? b=some o->s'.heap.get? b=some o:=fun b o e=>hm.heap b _ (notW e) (h0s b o e)
  show wpAny _ A.in1 (holding [Value.ref b] (setAdd S (.ref b)) >>= _) _ _ s'
  refine wpAny_bind (wpAny_holding ?_)
  unfold setAdd
  refine wpAny_holding ?_
  refine wpAny_bind (wpAny_pyHash_tuple hu (TK.at h0s' hkb) ?_)
  refine add (s:={ s' with toks:=s'.toks+((val i).length+1) }) (h0:=h0) (fun b ks z=>TK.at h0s' z) e1' rfl e2 hkb hBb hu (by have:=UC val i;omega) fun r h' es' ep' t' hsb hg T' hl hp=>?_
  have h0h:∀b o,h0.get? b=some o->h'.get? b=some o:=fun b o e=>by rw[hsb.2 b (notS e)];exact h0s' b o e
  refine wpAny_pure ⟨plainId_quiet F.plain_set_update_loop _,ih (i+1) _ (by omega) hlt (W.frame _ s' _ _ hst' (Nat.le_add_right _ _) fun b hb o e=>?_) h0h ⟨es',ep',t',hg,T',hl.trans e3,hp.trans e4⟩ fun s'' hm'' hS''=>?_⟩
  ·rw[hsb.2 b (fun h:b=S=>hSf (by rw[<- h];exact hb))];exact e
  ·refine hR s'' (Moved.trans W.gtrans ((hm.mono hsub).then_heap (Nat.le_add_right _ _) fun b o hb e=>?_) hm'') hS''
   rw[hsb.2 b (fun h:b=S=>hb (by rw[h];exact F'))];exact e
end
section
variable {prog:Program} {w:World} {A:Around} {E:Value->Shared->Prop} {s:Shared}
abbrev led0(w:World):Bool:=!(w.params.followText "set-order")
abbrev setO(led:Bool):Obj:={ cls:=.type "set",dict:=none,data:=.set #[] 0 (.fresh 0 0 led) }
theorem UJ(a:Value){Q₁:Value->Shared->Prop}(h:Q₁ (.ref s.heap.objs.size) { s with heap:=s.heap.push (setO (led0 w)) }) :
  codeAny (model prog w) A (.call (.builtin "set.__new__") ⟨[.type "set",a],[]⟩) (wants Q₁ E) s:=by
 refine codeAny_of_tree ?_
 show wpAny _ A.in1 (do checkBuiltinCall "set.__new__" ⟨[.type "set",a],[]⟩;again (.builtin "set.__new__" ⟨[.type "set",a],[]⟩)) _ _ s
 refine wpAny_bind (wpAny_of_eq (F.newCall_set_1 a) (wpAny_pure ⟨plainId_quiet F.plain_set_new _,codeAny_builtin F.entry_set_new ?_⟩))
 rw[fZ F.plain_set_new _]
 unfold Builtin.«set.__new__» Builtin.Frozenset.newClass
 have hsub:=sub_set_self
 obtain⟨hp,g,d,tk,os⟩:=s
 dsimp only
 wp_walk
 refine wpAny_askSetting (wpAny_pure ?_)
 dsimp only
 simp only[newObj]
 refine wpAny_bind (wpAny_alloc (wpAny_pure ?_))
 exact wpAny_pure h
set_option maxHeartbeats 3200000 in
theorem call_set{B:Addr->Prop}{l:Addr}{items:Array Value}{val:Nat->List Int}{Q:Value->Shared->Prop}
  (hh:A.handled=none) (hu:A.units+8<cLine) (hl:s.heap.IsList l items) (hv:∀i v,items[i]?=some v->∃b,v = .ref b/\TK prog w s.heap (val i) b/\B b) (hb:items.size<4914)
  (h : ∀ (h' : Heap) (tk : Nat) (o : Obj), o.cls = .type "set" -> Q0 prog w B s.heap h' s.heap.objs.size o (led0 w) (dd val items.size) ->
   (∀b o,s.heap.get? b=some o->h'.get? b=some o)->Q (.ref s.heap.objs.size) { s with heap:=h',toks:=tk }) :
  wpAny (model prog w) A (call (.type "set") [.ref l]) Q E s:=by
 obtain⟨c,tl,hmro⟩:=F.called_set.mro
 have hmade:=F.called_set.made
 have hsub:=F.called_set.sub
 refine wpAny_call (codeAny_of_tree ?_)
 show wpAny _ _ (callAny (.type "set") _) _ _ _
 refine wpAny_pure ⟨Code.quiet_builtin _ (by decide +kernel),codeAny_builtin F.entry_type_call ?_⟩
 rw[Around.under_plain (weight_type_call_type "set" [.ref l] []) rfl]
 have h1:=F.called_set.notType
 have h2:=F.called_set.canCreate
 have hct:=F.typeCall_set_1 (.ref l)
 repeat (any_goals (first|assumption|wp_step))
 refine codeAny_mono (UJ (.ref l) (E:=E) (Q₁:=fun obj s₁=>obj = .ref s.heap.objs.size/\s₁={ s with heap:=s.heap.push (setO (led0 w)) }) ⟨rfl,rfl⟩) fun r s₁ hr=>?_
 cases r with
 |error e=>exact hr
 |ok fl =>
  cases fl with
  |ret obj =>
   obtain⟨rfl,rfl⟩:=hr
   have hS:(s.heap.push (setO (led0 w))).get? s.heap.objs.size=some (setO (led0 w)):=dn _ rfl
   have hT:Shared.TypeIs { s with heap:=s.heap.push (setO (led0 w)) } (.ref s.heap.objs.size) "set":=⟨_,hS,rfl⟩
   have hli:=F.called_set.init.lookup
   have hbi:=F.called_set.init.bind (.ref s.heap.objs.size)
   repeat (any_goals (first|assumption|wp_step))
   refine codeAny_mono (codeAny_call_builtin (R := wants (fun r s₂ => r = .none /\ ∃ h' tk, s₂ = { s with heap := h', toks := tk } /\
     Q0 prog w B s.heap h' s.heap.objs.size (setO (led0 w)) (led0 w) (dd val items.size) /\
     (∀b o,s.heap.get? b=some o->h'.get? b=some o)) E) F.called_set.init.plain F.entry_set_init (check_set_init_1 hT ?_)) fun r₂ s₂ hr₂=>?_
   ·obtain⟨ol,hol,hcl,nl,hdl⟩:=hl
    obtain⟨ocls,odict,odata,oslots⟩:=ol
    simp only at hcl hdl
    subst hcl;subst hdl
    have hol':(s.heap.push (setO (led0 w))).get? l=some { cls:=.type "list",dict:=odict,data:=.seq items nl,slots:=oslots }:=K' _ hol
    have hsls:=F.sub_list_set
    have hslf:=F.sub_list_frozenset
    have hne:(Value.type "list"==Value.type "dict")=false:=by decide
    have hl1:(s.heap.push (setO (led0 w))).IsList l items:=⟨_,hol',rfl,nl,rfl⟩
    unfold Builtin.«set.__init__» noKeywords Builtin.Frozenset.updateFrom
    generalize hPI:pyIter=PI
    wp_walk
    subst hPI
    refine wpAny_pyIter_list hl1 ?_
    refine wpAny_bind (wpAny_runValue ?_)
    have hlS:l<s.heap.objs.size:=Y' hol
    have hh3:A.in1.in1.in1.handled=none:=by simp[hh]
    have hneI:l≠(s.heap.push (setO (led0 w))).objs.size:=by
     rw[iC];exact dm (fX hlS)
    have hSf:s.heap.objs.size∉[(s.heap.push (setO (led0 w))).objs.size,l]:=by
     rw[iC];simp only[List.mem_cons,List.mem_singleton,List.not_mem_nil,or_false,not_or]
     exact⟨dm (fw _),f7 hlS⟩
    have hnone:∀{a:Addr},s.heap.objs.size<=a->s.heap.get? a=none:=fun {a} ha=>by
     cases q:s.heap.get? a with
     |none=>rfl
     |some o'=>exact absurd (Y' q) (Nat.not_lt.mpr ha)
    have W:=(Walks.list hh3 _ l hneI items).toS (prog:=prog) (w:=w)
    refine aR W s.heap.objs.size hSf s.heap (setO (led0 w)) (led0 w) (hnone (J' _)) ?hw val hv hb ?hu (items.size-0) 0 _ (by omega) (eA _)
     ⟨⟨_,dn _ rfl,rfl,rfl⟩,(hl1.push _)⟩ ?hk ?hS0 ?hR
    case hw =>
     intro b hb
     rw[dq.mp hb,iC]
     exact hnone (Nat.le_succ _)
    case hu=>simp only[Around.in1_units];omega
    case hk=>exact fun b o e=>K' _ (K' _ e)
    case hS0 =>
     refine⟨#[],0,.fresh 0 0 (led0 w),K' _ hS,⟨Rc 0 0 (led0 w),fun e he=>(fy he).elim,gG,List.Perm.nil⟩,rfl,rfl⟩
    case hR =>
     intro s' hm hS'
     obtain⟨h',g',d',tk',os'⟩:=s'
     have eg:g'=s.gens:=hm.gens
     have ed:d'=s.drawn:=hm.drawn
     have eo:os'=s.os:=hm.os
     subst eg;subst ed;subst eo
     show wpAny _ _ _ _ _ _
     refine wpAny_pure ?_
     show wpAny _ _ (ret Value.none) _ _ _
     refine wpAny_pure ⟨rfl,h',tk',rfl,hS',fun b o e=>?_⟩
     refine hm.heap b o ?_ (K' _ (K' _ e))
     have hb:=Y' e
     simp only[List.mem_cons,List.mem_singleton,List.not_mem_nil,or_false,not_or,Heap.size_push]
     exact⟨dm hb,dm (fX hb)⟩
   ·cases r₂ with
    |error e=>exact hr₂
    |ok fl₂ =>
     cases fl₂ with
     |ret r =>
      obtain⟨rfl,h',tk,rfl,hS',hk'⟩:=hr₂
      repeat (any_goals (first|assumption|wp_step))
      exact h _ _ _ rfl hS' hk'
     |_=>exact hr₂.elim
  |_=>exact hr.elim
end
theorem KU:Manifest.owners.lookup (String.ofList ['r','o','t','a','r','e','t','i','_','t','e','s'].reverse)=some Manifest.sig_set_iterator:=by kernel_rfl
theorem slot_seti_next:Slot "set_iterator" "__next__" "set_iterator.__next__" :=
 .of (owner:="set_iterator") (n:="__next__") (by rw[typeLookup_type,builtinLookup_eq_fast];kernel_rfl) (by decide +kernel) (by decide +kernel) (by decide +kernel)
  (by first|exact .inl (by decide +kernel)|exact .inr (by decide +kernel)) (by rw[isSubtype_type];kernel_rfl)
theorem FO:entryFor table "set_iterator.__next__"=some Builtin.«set_iterator.__next__»:=entryFor_of_tree (by kernel_rfl)
theorem F5(a:Value):argsOk "set_iterator.__next__" ⟨[a],[]⟩:=by
 unfold argsOk;rw[signature?_of (id:="set_iterator.__next__") (n:=['_','_','t','x','e','n','_','_']) (o:=['r','o','t','a','r','e','t','i','_','t','e','s']) (by kernel_rfl) KU];kernel_rfl
theorem FU:Slot "set_iterator" "__iter__" "set_iterator.__iter__" :=
 .of (owner:="set_iterator") (n:="__iter__") (by rw[typeLookup_type,builtinLookup_eq_fast];kernel_rfl) (by decide +kernel) (by decide +kernel) (by decide +kernel)
  (by first|exact .inl (by decide +kernel)|exact .inr (by decide +kernel)) (by rw[isSubtype_type];kernel_rfl)
theorem Jb:entryFor table "set_iterator.__iter__"=some Builtin.«dict_keyiterator.__iter__»:=entryFor_alias (id':="dict_keyiterator.__iter__") (by kernel_rfl) rfl (by decide +kernel) (by kernel_rfl)
theorem LD(a:Value):argsOk "set_iterator.__iter__" ⟨[a],[]⟩:=by
 unfold argsOk;rw[signature?_of (id:="set_iterator.__iter__") (n:=['_','_','r','e','t','i','_','_']) (o:=['r','o','t','a','r','e','t','i','_','t','e','s']) (by kernel_rfl) KU];kernel_rfl
theorem K2:entryFor table "set.__iter__"=some Builtin.«frozenset.__iter__»:=entryFor_alias (id':="frozenset.__iter__") (by kernel_rfl) rfl (by decide +kernel) (by kernel_rfl)
section
variable {prog:Program} {w:World} {A:Around} {E:Value->Shared->Prop} {s:Shared}
abbrev byT(w:World):Bool:=w.params.followText "set-order"
theorem IC{M:Model}{Q:Bool->Shared->Prop}(h:Q (M.w.params.followText "set-order") s):wpAny M A setsByText Q E s:=by
 unfold setsByText
 exact wpAny_bind (wpAny_askSetting (wpAny_pure h))
abbrev itO(sl k n ep:Nat)(S:Addr):Obj:={ cls:=.type "set_iterator",data:=.fields #[.int (sl:Int) 0,.int (k:Int) 0,.ref S,.int (n:Int) 0,.int (ep:Int) 0] }
theorem Tn{S:Addr}{o:Obj}{es:Array (Int×Value)}{ep:Nat}{t:SetTable}{Q:Value->Shared->Prop}(hc:o.cls = .type "set")(hS:s.heap.get? S=some { o with data:=.set es ep t })(I:Inv0 t es)(hp:t.plain=true)
  (h:Q (.ref s.heap.objs.size) { s with heap:=s.heap.push (itO 0 0 es.size ep S) }):wpAny (model prog w) A (pyIter (.ref S)) Q E s:=by
 have hT:s.TypeIs (.ref S) "set":=⟨_,hS,hc⟩
 have hf:=Inv.fits I
 refine wpAny_pyIter_slot hT F.slot_set_iter (wpAny_call_entry F.slot_set_iter hT K2 ?_ (F.args_set_iter_1 _))
 unfold Builtin.«frozenset.__iter__»
 refine wpAny_bind (m:=Builtin.Frozenset.slot0 "__iter__" ⟨[.ref S],[]⟩) (wpAny_pure ?_)
 unfold Builtin.Frozenset.sizeOf setEntries
 refine wpAny_bind (wpAny_bind (wpAny_bind (wpAny_setState_of hS rfl hf (wpAny_pure (wpAny_pure ?_)))))
 unfold setDrawn
 refine wpAny_bind (wpAny_bind (wpAny_setState_of hS rfl hf ?_))
 refine wpAny_bind (IC (wpAny_pure ?_))
 have hdr:(!(model prog w).w.params.followText "set-order"&&(!t.plain&&decide (es.size>1)))=false:=by rw[hp];simp
 show wpAny _ _ (if (!(model prog w).w.params.followText "set-order"&&(!t.plain&&decide (es.size>1)))=true then _ else _) _ _ _
 rw[hdr]
 simp only[Bool.false_eq_true,if_false]
 refine wpAny_bind (wpAny_pure ?_)
 unfold setEpoch
 refine wpAny_bind (wpAny_bind (wpAny_setState_of hS rfl hf (wpAny_pure ?_)))
 refine wpAny_bind (wpAny_newObj_type (wpAny_pure ⟨_,rfl,"set_iterator",_,⟨_,dn _ rfl,rfl⟩,slot_seti_next.lookup,?_⟩))
 exact h
end
theorem Pk{α:Type}{xs:List α}{i:Nat}(h:i<xs.length):(xs[i]::xs.eraseIdx i).Perm xs:=by
 rw[List.eraseIdx_eq_take_drop_succ]
 refine iG.symm.trans ?_
 rw[<- gM h,e9]
theorem QQ{α:Type}(next:Nat->Nat):∀(f k:Nat) (left:List α) (out:Array α),left.length=f->∃l',(pickOrder.go next f k left out).toList=out.toList++l'/\l'.Perm left
 |0,k,left,out,h=>⟨[],by simp[pickOrder.go],by rw[gu h]⟩
 |f+1,k,left,out,h=>by
  unfold pickOrder.go
  have hlt:next k % left.length<left.length:=hX _ (by omega)
  rw[eG hlt]
  dsimp only
  obtain⟨l',e1,e2⟩:=QQ next f (k+1) (left.eraseIdx (next k % left.length)) (out.push left[next k % left.length]) (by rw[List.length_eraseIdx,if_pos hlt];omega)
  refine⟨left[next k % left.length]::l',by rw[e1];simp,?_⟩
  exact(e2.cons _).trans (Pk hlt)
theorem RB{α:Type}(next:Nat->Nat)(xs:Array α):(pickOrder next xs).toList.Perm xs.toList:=by
 obtain⟨l',e1,e2⟩:=QQ next xs.size 0 xs.toList #[] (by simp)
 unfold pickOrder
 rw[e1];simpa using e2
section
variable {prog:Program} {w:World} {A:Around} {E:Value->Shared->Prop} {s:Shared}
def eord(w:World)(S:Addr)(ep:Nat)(es:Array (Int×Value)):Array (Int×Value):=if byT w=true then pickOrder (w.params.setOrder S ep) es else es
def slt(w:World)(t:SetTable)(k:Nat):Nat:=if byT w=true then 0 else if k=0 then 0 else t.place.getD (k-1) 0+1
theorem eord_perm(S:Addr)(ep:Nat)(es:Array (Int×Value)):(eord w S ep es).toList.Perm es.toList:=by
 unfold eord;split
 ·exact RB _ _
 ·exact List.Perm.refl _
theorem IW(S:Addr)(ep:Nat)(es:Array (Int×Value)):(eord w S ep es).size=es.size:=by
 have:=(eord_perm (w:=w) S ep es).length_eq
 simpa using this
theorem Ru{t:SetTable}(r:Rising t.place)(hb:byT w=false){k:Nat}(hk:k<=t.place.size):below t.place (slt w t k)=k:=by
 obtain⟨b1,b2,b3⟩:=Gw r (slt w t k)
 have e:slt w t k=if k=0 then 0 else t.place.getD (k-1) 0+1:=by unfold slt;rw[hb];simp
 generalize below t.place (slt w t k)=b at *
 rw[e]at b2 b3
 by_cases h0:k=0
 ·subst h0
  rcases hV b with q|q
  ·exact q
  ·have:=b2 0 q;simp at this
 ·rw[if_neg h0]at b2 b3
  have g1:¬b<=k-1:=fun z=>by have:=b3 (k-1) z (by omega);omega
  have g2:¬k<b:=fun z=>by
   have:=b2 k z
   have:=r.lt (a:=k-1) (b:=k) (by omega) (by omega)
   omega
  omega
theorem Nc{S:Addr}{o:Obj}{es:Array (Int×Value)}{ep:Nat}{t:SetTable}{Q:Option (Value×Nat)->Shared->Prop}(hS:s.heap.get? S=some { o with data:=.set es ep t })(I:Inv0 t es)(hp:t.plain=true)(hl:t.led=led0 w)
  {k:Nat} (hk:k<=es.size) (h:Q ((eord w S ep es)[k]?.map fun e=>(e.2,slt w t (k+1))) s):wpAny (model prog w) A (setNext S (slt w t k) k ep) Q E s:=by
 have hf:=Inv.fits I
 unfold setNext
 refine wpAny_bind (wpAny_setState_of hS rfl hf ?_)
 dsimp only
 refine wpAny_bind (IC ?_)
 show wpAny _ _ (if byT w=true then _ else _) _ _ _
 cases hb:byT w with
 |true =>
  simp only[if_true,bne_self_eq_false,Bool.false_eq_true,if_false]
  unfold setWalk
  refine wpAny_bind (wpAny_bind (wpAny_setState_of hS rfl hf ?_))
  dsimp only
  refine wpAny_bind (IC ?_)
  show wpAny _ _ (if byT w=true then _ else _) _ _ _
  rw[hb]
  simp only[if_true]
  refine wpAny_bind (wpAny_askSetting (wpAny_pure (wpAny_pure ?_)))
  have e1:slt w t k=0:=by unfold slt;rw[hb];rfl
  have e2:slt w t (k+1)=0:=by unfold slt;rw[hb];rfl
  have e3:eord w S ep es=pickOrder (w.params.setOrder S ep) es:=by unfold eord;rw[hb];rfl
  rw[e2,e3]at h
  rw[e1]
  exact h
 |false =>
  simp only[Bool.false_eq_true,if_false]
  have hdr:(!t.plain&&decide (es.size>1))=false:=by rw[hp];rfl
  show wpAny _ _ (if (!t.plain&&decide (es.size>1))=true then _ else _) _ _ _
  rw[hdr]
  simp only[Bool.false_eq_true,if_false]
  have hled:(!t.led&&!es.isEmpty)=false:=by rw[hl];simp only[led0];rw[show w.params.followText "set-order"=false from hb];rfl
  refine wpAny_bind (m:=if (!t.led&&!es.isEmpty)=true then unsupported "set:maker-not-led" else pure ()) ?_
  rw[hled]
  simp only[Bool.false_eq_true,if_false]
  refine wpAny_pure ?_
  rw[Ru I.rise hb (by rw[I.size];exact hk)]
  have e3:eord w S ep es=es:=by unfold eord;rw[hb];rfl
  rw[e3]at h
  rcases eN k es.size with q|q
  ·have q':k<t.place.size:=by rw[I.size];exact q
   rw[eR q]at h ⊢
   rw[eR q']
   have e2:slt w t (k+1)=t.place[k]+1:=by unfold slt;rw[hb];simp[Array.getD,q']
   rw[e2]at h
   exact wpAny_pure h
  ·have q':t.place.size<=k:=by rw[I.size];exact q
   rw[gB q]at h ⊢
   exact wpAny_pure h
end
section
variable {prog:Program} {w:World} {A:Around} {E:Value->Shared->Prop} {s:Shared}
def WM(w:World)(h:Heap)(J S:Addr)(o:Obj)(es:Array (Int×Value))(ep:Nat)(t:SetTable)(k:Nat):Prop :=
 (∃oj,h.get? J=some oj/\oj.cls = .type "set_iterator"/\oj.data = .fields #[.int (slt w t k:Int) 0,.int (k:Int) 0,.ref S,.int (es.size:Int) 0,.int (ep:Int) 0])/\h.get? S=some { o with data:=.set es ep t }
theorem RP{J S:Addr}{o:Obj}{es:Array (Int×Value)}{ep:Nat}{t:SetTable}{k:Nat}{Q:Option Value->Shared->Prop}(hne:S≠J)(st:WM w s.heap J S o es ep t k)(I:Inv0 t es)(hp:t.plain=true)(hl:t.led=led0 w)
  (hk:k<es.size) (h:∀e h',(eord w S ep es)[k]?=some e->WM w h' J S o es ep t (k+1)->Heap.SameBut J s.heap h'->Q (some e.2) { s with heap:=h' }):wpAny (model prog w) A (pyNext (.ref J)) Q E s:=by
 obtain⟨⟨oj,hoj,hc,hd⟩,hS⟩:=st
 have hT:s.TypeIs (.ref J) "set_iterator":=⟨_,hoj,hc⟩
 have hf:=Inv.fits I
 unfold pyNext
 refine wpAny_bind (wpAny_attempt (wpAny_callSpecial?_slot (name := Str.ofString "__next__") hT slot_seti_next
  (wpAny_call_entry slot_seti_next hT FO ?_ (F5 _))))
 unfold Builtin.«set_iterator.__next__»
 refine wpAny_bind (m:=slotArgs "__next__" 0 ⟨[.ref J],[]⟩) (wpAny_pure ?_)
 dsimp only
 refine wpAny_bind (wpAny_fieldsOf hoj hd ?_)
 dsimp only
 unfold setEntries
 refine wpAny_bind (wpAny_bind (wpAny_setState_of hS rfl hf (wpAny_pure ?_)))
 simp only[bne_self_eq_false,Bool.false_eq_true,if_false,Int.toNat_natCast]
 obtain⟨e,he⟩:∃e,(eord w S ep es)[k]?=some e:=⟨_,eR (by rw[IW];exact hk)⟩
 refine wpAny_bind (Nc hS I hp hl (f6 hk) ?_)
 rw[he]
 dsimp only[Option.map]
 refine wpAny_bind (wpAny_setField hoj hd (by simp) ?_)
 have ho1:=fN (Obj.mapFields (·.setIfInBounds 0 (rawInt (slt w t (k+1):Int)))) hoj (Obj.isFreed_of_fields (gT hd _))
 have hd1:=gT hd (·.setIfInBounds 0 (rawInt (slt w t (k+1):Int)))
 refine wpAny_bind (wpAny_setField ho1 hd1 (by simp) ?_)
 have ho2:=fN (Obj.mapFields (·.setIfInBounds 1 (rawInt ((k:Int)+1)))) ho1 (Obj.isFreed_of_fields (gT hd1 _))
 have hd2:=gT hd1 (·.setIfInBounds 1 (rawInt ((k:Int)+1)))
 have hs1:=fk s.heap J (Obj.mapFields (·.setIfInBounds 0 (rawInt (slt w t (k+1):Int))))
 have hs2:=hs1.trans (fk (s.heap.update J (Obj.mapFields (·.setIfInBounds 0 (rawInt (slt w t (k+1):Int))))) J (Obj.mapFields (·.setIfInBounds 1 (rawInt ((k:Int)+1)))))
 refine wpAny_pure ⟨_,rfl,wpAny_pure (h e _ he ⟨⟨_,ho2,?_,?_⟩,?_⟩ hs2)⟩
 ·rw[Obj.cls_mapFields,Obj.cls_mapFields];exact hc
 ·rw[hd2];simp[rawInt]
 ·rw[hs2.2 S hne];exact hS
theorem TR{J S:Addr}{o:Obj}{es:Array (Int×Value)}{ep:Nat}{t:SetTable}{Q:Option Value->Shared->Prop}(hh:A.handled=none)(st:WM w s.heap J S o es ep t es.size)(I:Inv0 t es)(hp:t.plain=true)(hl:t.led=led0 w)
  (h:∀h',Heap.ExtBut J s.heap h'->Q none { s with heap:=h' }):wpAny (model prog w) A (pyNext (.ref J)) Q E s:=by
 obtain⟨⟨oj,hoj,hc,hd⟩,hS⟩:=st
 have hT:s.TypeIs (.ref J) "set_iterator":=⟨_,hoj,hc⟩
 have hf:=Inv.fits I
 unfold pyNext
 refine wpAny_bind (wpAny_attempt (wpAny_callSpecial?_slot (name := Str.ofString "__next__") hT slot_seti_next
  (wpAny_call_entry slot_seti_next hT FO ?_ (F5 _))))
 unfold Builtin.«set_iterator.__next__»
 refine wpAny_bind (m:=slotArgs "__next__" 0 ⟨[.ref J],[]⟩) (wpAny_pure ?_)
 dsimp only
 refine wpAny_bind (wpAny_fieldsOf hoj hd ?_)
 dsimp only
 unfold setEntries
 refine wpAny_bind (wpAny_bind (wpAny_setState_of hS rfl hf (wpAny_pure ?_)))
 simp only[bne_self_eq_false,Bool.false_eq_true,if_false,Int.toNat_natCast]
 refine wpAny_bind (Nc hS I hp hl (J' _) ?_)
 rw[gB (by rw[IW];exact J' _)]
 dsimp only[Option.map]
 refine wpAny_bind (wpAny_setField hoj hd (by simp) ?_)
 refine wpAny_bind (m:=newExc (.type "StopIteration") []) ?_
 simp only[newExc,newTuple]
 refine wpAny_bind (wpAny_newObj_type ?_ (by size_fits))
 refine wpAny_bind (m:=firstArgMember _ _) (wpAny_of_eq (a:=Value.none) (by first|rfl|(simp only[firstArgMember];rfl)) ?_)
 refine wpAny_newObj_type ?_ (by size_fits)
 simp only[raiseNew]
 refine wpAny_bind (wpAny_handled ?_)
 rw[show A.in1.handled=none from hh]
 refine wpAny_bind (wpAny_pure (wpAny_throw ?_))
 refine wpAny_bind (wpAny_isInstance (T:="StopIteration") (b:=true) ⟨_,dn _ rfl,rfl⟩ isSubtype_stop ?_)
 exact wpAny_pure (h _ (((fk ..).extBut.push _).push _))
theorem Q1(hh:A.handled=none)(J S:Addr)(hne:S≠J)(o:Obj)(es:Array (Int×Value))(ep:Nat)(t:SetTable)(I:Inv0 t es)(hp:t.plain=true)(hl:t.led=led0 w) :
  Walks prog w A J [J,S] [J] es.size (fun i v=>∃e,(eord w S ep es)[i]?=some e/\v=e.2) (fun i h=>WM w h J S o es ep t i) where
 sub:=fun b hb=>by simp at hb;simp[hb]
 frame:=fun i h h' st hk=>by
  obtain⟨⟨oj,hoj,hc,hd⟩,hS⟩:=st
  exact⟨⟨oj,hk J (by simp) _ hoj,hc,hd⟩,hk S (by simp) _ hS⟩
 item:=fun i s Q E hi st hQ=>RP hne st I hp hl hi fun e h' he st' hs'=>hQ _ h' s.toks ⟨e,he,rfl⟩ st' fun b ob hb eb=>hs'.extBut b ob (fun z=>hb (by simp[z])) eb
 done:=fun s Q E st hQ=>TR hh st I hp hl fun h' he'=>hQ h' s.toks fun b ob hb eb=>he' b ob (fun z=>hb (by simp[z])) eb
 self:=fun i s Q E st hQ=>by
  obtain⟨⟨oj,hoj,hc,hd⟩,hS⟩:=st
  have hT:s.TypeIs (.ref J) "set_iterator":=⟨_,hoj,hc⟩
  refine wpAny_pyIter_slot hT FU (wpAny_call_entry FU hT Jb ?_ (LD _))
  show wpAny _ _ (ret (.ref J)) _ _ s
  exact wpAny_pure ⟨_,rfl,"set_iterator",_,hT,slot_seti_next.lookup,hQ⟩
end
theorem MW:typeLookup (.type "set") "__len__"=pure (some (.builtin "set.__len__")):=by rw[typeLookup_type,builtinLookup_eq_fast];kernel_rfl
section
variable {prog:Program} {w:World} {A:Around} {E:Value->Shared->Prop} {s:Shared}
abbrev lo0:Obj:={ cls:=.type "list",data:=.seq ([]:List Value).toArray }
set_option maxHeartbeats 2000000 in
theorem collect_set{S:Addr}{o:Obj}{es:Array (Int×Value)}{ep:Nat}{t:SetTable}{Q:List Value->Shared->Prop}(hh:A.handled=none)(hc:o.cls = .type "set")(hS:s.heap.get? S=some { o with data:=.set es ep t })(I:Inv0 t es)(hp:t.plain=true)(hl:t.led=led0 w)(hn:es.size<=sizeLine)
  (h:∀(h':Heap) tk,s.heap.objs.size<h'.objs.size->(∀b ob,s.heap.get? b=some ob->h'.get? b=some ob)->Q ((eord w S ep es).toList.map (·.2)) { s with heap:=h',toks:=tk }):wpAny (model prog w) A (collect (.ref S)) Q E s:=by
 have hSlt:=Y' hS
 unfold collect
 refine wpAny_bind (wpAny_runValue (codeAny_builtin F.entry_proto_collect ?_))
 rw[fZ F.plain_proto_collect _]
 show wpAny _ A.in1 (newList [] >>= fun l=>again (.builtin "list.__iadd__" ⟨[l,.ref S],[]⟩)) _ _ s
 refine wpAny_bind (wpAny_newObj_type ?_)
 refine wpAny_pure ⟨plainId_quiet F.plain_list_iadd _,codeAny_builtin F.entry_list_iadd ?_⟩
 rw[fZ F.plain_list_iadd _]
 have hS1:(s.heap.push lo0).get? S=some { o with data:=.set es ep t }:=K' _ hS
 have hT1:Shared.TypeIs { s with heap:=s.heap.push lo0 } (.ref S) "set":=⟨_,hS1,hc⟩
 show wpAny _ A.in1 (Builtin.List.listExtendWith (.ref s.heap.objs.size) (.ref S) (.ref s.heap.objs.size)) _ _ _
 unfold Builtin.List.listExtendWith
 refine wpAny_bind (wpAny_typeOf hT1 ?_)
 have h1:Builtin.List.listSameRef (.ref s.heap.objs.size) (.ref S)=false:=by simp[Builtin.List.listSameRef];exact f7 hSlt
 have h2:(Value.type "set"==Value.type "list")=false:=by decide
 have h3:(Value.type "set"==Value.type "tuple")=false:=by decide
 simp only[h1,h2,h3,Bool.or_false,Bool.false_eq_true,if_false]
 refine wpAny_bind (Tn hc hS1 I hp ?_)
 have hS2:((s.heap.push lo0).push (itO 0 0 es.size ep S)).get? S=some { o with data:=.set es ep t }:=K' _ hS1
 have hT2:Shared.TypeIs { s with heap:=(s.heap.push lo0).push (itO 0 0 es.size ep S) } (.ref S) "set":=⟨_,hS2,hc⟩
 have hL2:((s.heap.push lo0).push (itO 0 0 es.size ep S)).get? s.heap.objs.size=some lo0:=K' _ (dn _ rfl)
 have hJ2:((s.heap.push lo0).push (itO 0 0 es.size ep S)).get? (s.heap.push lo0).objs.size=some (itO 0 0 es.size ep S):=dn _ rfl
 have hJn:(s.heap.push lo0).objs.size=s.heap.objs.size+1:=iC ..
 refine wpAny_bind (wpAny_holding ?_)
 unfold Builtin.List.listLengthHint
 refine wpAny_bind (wpAny_specialOf hT2 MW ?_)
 dsimp only
 rw[show splitId "set.__len__"=some ("set","__len__") by decide +kernel]
 dsimp only
 refine wpAny_bind (wpAny_isInstance (b:=true) hT2 sub_set_self ?_)
 simp only[Bool.not_true,Bool.false_eq_true,if_false]
 rw[if_pos (by decide +kernel)]
 refine wpAny_bind (wpAny_typeOf hT2 (wpAny_pure ?_))
 rw[if_pos (by decide +kernel)]
 show wpAny _ A.in1 (rule "list.extend.makes-room" >>= fun _ => Builtin.List.listTouch (.ref s.heap.objs.size) >>= fun _ =>
  again (.builtin "list.extend.loop" ⟨[.ref s.heap.objs.size,.ref (s.heap.push lo0).objs.size,.ref s.heap.objs.size],[]⟩)) _ _ _
 refine wpAny_bind (wpAny_rule ?_)
 refine wpAny_bind ?_
 show wpAny _ A.in1 (updateSeq s.heap.objs.size (·.push .none) >>= fun _=>updateSeq s.heap.objs.size (·.pop)) _ _ _
 refine wpAny_bind (wpAny_updateSeq hL2 rfl ?_)
 have hL3:=fN (Obj.mapSeq (·.push Value.none)) hL2 rfl
 refine wpAny_updateSeq hL3 rfl ?_
 have hL4:=fN (Obj.mapSeq (·.pop)) hL3 rfl
 have oth:∀b ob,b≠s.heap.objs.size->((s.heap.push lo0).push (itO 0 0 es.size ep S)).get? b=some ob ->
   ((((s.heap.push lo0).push (itO 0 0 es.size ep S)).update s.heap.objs.size (Obj.mapSeq (·.push Value.none))).update s.heap.objs.size (Obj.mapSeq (·.pop))).get? b=some ob :=
  fun b ob hb e=>(gW _ _ (Ne.symm hb)).trans ((gW _ _ (Ne.symm hb)).trans e)
 have hne:S≠(s.heap.push lo0).objs.size:=by rw[hJn];exact dm (fX hSlt)
 have hJne:(s.heap.push lo0).objs.size≠s.heap.objs.size:=by rw[hJn];exact f7 (fw _)
 have hSf:s.heap.objs.size∉[(s.heap.push lo0).objs.size,S]:=by
  simp only[List.mem_cons,List.mem_singleton,List.not_mem_nil,or_false,not_or]
  exact⟨Ne.symm hJne,f7 hSlt⟩
 have W:=(Q1 (prog:=prog) (w:=w) (A:=A.in1) (by simpa using hh) (s.heap.push lo0).objs.size S hne o es ep t I hp hl).toS
 have z0:slt w t 0=0:=by unfold slt;split<;>rfl
 refine wpAny_pure ⟨plainId_quiet F.plain_extend_loop _, codeAny_extend_loopS W hn _ hSf _ es.size 0 _ _ _ rfl (eA _)
  ⟨⟨_,oth _ _ hJne hJ2,rfl,by rw[z0]⟩,oth _ _ (dm hSlt) hS2⟩ hL4 (ItemsOf.nil _) fun s' acc' c' hm hS' hacc=>?_⟩
 show wpAny _ A (load s.heap.objs.size >>= _) _ _ s'
 refine wpAny_bind (wpAny_load hS' ?_)
 have el:acc'.toList=(eord w S ep es).toList.map (·.2):=by
  refine List.ext_getElem? fun i=>?_
  rcases eN i es.size with q|q
  ·have q1:i<acc'.size:=by rw[hacc.1];exact q
   obtain⟨e,e1,e2⟩:=hacc.2 i acc'[i] (eR q1)
   rw[fM,eR q1,Z',fM,e1,e2];rfl
  ·rw[fM,gB (by rw[hacc.1];exact q),gD (by simp[IW];exact q)]
 show wpAny _ _ (pure acc'.toList) _ _ _
 rw[el]
 obtain⟨h',g',d',tk',os'⟩:=s'
 have eg:g'=s.gens:=hm.gens
 have ed:d'=s.drawn:=hm.drawn
 have eo:os'=s.os:=hm.os
 subst eg;subst ed;subst eo
 refine wpAny_pure (h h' tk' (Y' hS') fun b ob e=>?_)
 have hb:=Y' e
 refine hm.heap b ob ?_ (oth b ob (dm hb) (K' _ (K' _ e)))
 rw[hJn]
 simp only[List.mem_cons,List.mem_singleton,List.not_mem_nil,or_false,not_or]
 exact⟨dm hb,dm (fX hb)⟩
end
end Stb
end
section
namespace DL
open PySem L2 PyProof.Rows
variable {K:PySem.W.Frag}
theorem OJ{prog:Program}{w:World}:∀{vs:List Value} {ns:List Int},IntsAre vs ns->ItemsAre (intKind prog w) ns vs
 |_,_,.nil=>.nil
 |_,_,.cons _ _ h=>.cons (by simp[intKind,Value.isInt]) (OJ h)
theorem Ti{X:Cx}{pins:List (Addr×Obj)}{σ:L2.St}{H:Hp}{s:Shared}(I:Inv X pins σ H s){b:Addr}{k:List Int}(h:SqT X.K H b (k.map V.int)):Stb.TK X.prog X.w s.heap k b:=by
 obtain⟨its,r1,⟨o,e,c,n,q⟩,_⟩:=I.tuple h
 exact⟨o,its.toArray,n,e,c,q,by simpa using OJ (Kr r1)⟩
def Nm(w:World)(p:Addr)(bs:List Addr):Heap->Prop:=fun h=>∃(o:Obj) (es:Array (Int×Value)) (ep:Nat) (t:SetTable),o.cls = .type "set"/\h.get? p=some { o with data:=.set es ep t }/\Stb.Inv0 t es/\t.plain=true/\t.led=Stb.led0 w/\(es.toList.map (·.2)).Perm (bs.map Value.ref)
def Sd(K:PySem.W.Frag)(w:World):List V->Hp->VK->Prop:=fun xs H Q=>∃(a:Addr) (zs:List (Addr×List Int)),xs=[.ref a]/\SqL K H a (zs.map fun z=>V.ref z.1)/\(∀z∈zs,SqT K H z.1 (z.2.map V.int))/\zs.length<4914 /\
 ∀(p:Addr) (zs':List (Addr×List Int)),H p=none->(∀z∈zs',z∈zs)->(zs'.map (·.2)).Nodup->(∀k,k∈zs'.map (·.2)↔k∈zs.map (·.2))->Q (.ref p) (upd H p (.ext (Nm w p (zs'.map (·.1)))))
theorem UB{val:Nat->List Int}{k:List Int}:∀{n:Nat},k∈Stb.dd val n↔∃i,i<n/\val i=k
 |0=>⟨fun h=>(fy h).elim,fun⟨i,h,_⟩=>absurd h (eP i)⟩
 |n+1=>by
  show k∈Stb.ins (Stb.dd val n) (val n)↔_
  have ih:=UB (val:=val) (k:=k) (n:=n)
  have e:k∈Stb.ins (Stb.dd val n) (val n)↔k∈Stb.dd val n\/k=val n:=by
   unfold Stb.ins
   split
   ·rename_i c
    exact⟨.inl,fun z=>z.elim id fun q=>q▸c⟩
   ·simp
  rw[e,ih]
  constructor
  ·rintro(⟨i,h1,h2⟩|h)
   ·exact⟨i,by omega,h2⟩
   ·exact⟨n,by omega,h.symm⟩
  ·rintro⟨i,h1,h2⟩
   rcases eN i n with q|q
   ·exact .inl ⟨i,q,h2⟩
   ·rw[show i=n by omega]at h2;exact .inr h2.symm
theorem QP{h:Heap}{P:Program}{w:World}{zs:List (Addr×List Int)}(hk:∀z∈zs,Stb.TK P w h z.2 z.1):∀{l:List (Int×Value)},(∀e∈l,∃b ks,e=(Stb.hsh P w ks,Value.ref b)/\Stb.TK P w h ks b/\∃z∈zs,z.1=b) ->
  ∃zs':List (Addr×List Int),(∀z∈zs',z∈zs)/\l.map (·.2)=(zs'.map (·.1)).map Value.ref/\zs'.map (·.2)=l.map fun e=>Stb.tk h e.2
 |[],_=>⟨[],fun z hz=>(fy hz).elim,rfl,rfl⟩
 |e::l,hl=>by
  obtain⟨zs',a1,a2,a3⟩:=QP hk (l:=l) fun x hx=>hl x (C' _ hx)
  obtain⟨b,ks,rfl,h2,z,hz,rfl⟩:=hl e F'
  have ek:ks=z.2:=h2.inj (hk z hz)
  subst ek
  refine⟨z::zs',fun y hy=>?_,?_,?_⟩
  ·rcases P'.mp hy with rfl|hy
   ·exact hz
   ·exact a1 y hy
  ·rw[U',a2];rfl
  ·rw[U',U',a3,show Stb.tk h (Stb.hsh P w z.2,Value.ref z.1).2=z.2 from Stb.tk_eq h2]
theorem Rq{X:Cx}(hc:X.calm=true)(hu:X.A.units+64<cLine):DM X (.type "set") (Sd X.K X.w):=by
 intro pins s σ H xs us Q I r h
 obtain⟨a,zs,rfl,hq,ht,hz,q⟩:=h
 obtain⟨u,rfl,ru⟩:=Jz r
 cases ru
 obtain⟨its,rv,pl,_⟩:=I.list hq
 have e:=L0 rv
 subst e
 have hsz:(zs.map fun z=>Value.ref z.1).toArray.size=zs.length:=by simp
 refine Stb.call_set (B:=fun b=>∃z∈zs,z.1=b) (val:=fun i=>(zs.getD i (0,[])).2) (I.ok.hd hc) (by omega) pl.isList (fun i v hv=>?_) (by rw[hsz];exact hz) fun h' tk o ho hS keep=>?_
 ·have hi:i<zs.length:=by
   have:=(fH.mp hv).1
   rwa [hsz]at this
  have ev:v=Value.ref zs[i].1:=by
   simp[hi]at hv
   exact hv.symm
  refine⟨zs[i].1,ev,?_,zs[i],fU hi,rfl⟩
  have:=Ti I (ht zs[i] (fU hi))
  simpa[eY,hi] using this
 ·rw[hsz]at hS
  obtain⟨es,ep,t,e1,e2,e3,e4⟩:=hS
  obtain⟨zs',hz1,hz2,hz3⟩:=QP (fun z hz=>Ti I (ht z hz)) e2.ent
  have pm:(zs'.map (·.2)).Perm (Stb.dd (fun i=>(zs.getD i (0,[])).2) zs.length):=by rw[hz3];exact e2.perm
  have hp:h'.get? s.heap.objs.size=some { o with data:=.set es ep t }:=e1
  refine⟨.ref s.heap.objs.size,_,I.laid (a:=s.heap.objs.size) (o:=.ext (Nm X.w s.heap.objs.size (zs'.map (·.1)))) (t':=tk) keep (J' _) ?_,rfl,q s.heap.objs.size zs' (I.hok.fresh (J' _)) hz1 (pm.nodup_iff.mpr e2.nd) fun k=>?_⟩
  ·refine⟨⟨o,es,ep,t,ho,hp,e2.inv.toInv0,e4,e3,by rw[hz2]⟩,⟨_,hp⟩,fun h1 h2 f k=>?_⟩
   obtain⟨o',es',ep',t',f1,f2,f3⟩:=f
   exact⟨o',es',ep',t',f1,k _ f2,f3⟩
  ·rw[pm.mem_iff,UB]
   constructor
   ·rintro⟨i,hi,rfl⟩
    refine df.mpr ⟨zs[i],fU hi,?_⟩
    simp[List.getD_eq_getElem?_getD,hi]
   ·intro hk
    obtain⟨z,hz',rfl⟩:=df.mp hk
    obtain⟨i,hi,rfl⟩:=gQ hz'
    exact⟨i,hi,by simp[List.getD_eq_getElem?_getD,hi]⟩
def O6(K:PySem.W.Frag)(w:World):List V->Hp->VK->Prop:=fun xs H Q=>∃(p:Addr) (zs:List (Addr×List Int)) (d:Nat),xs=[.ref p]/\H p=some (.ext (Nm w p (zs.map (·.1))))/\(∀z∈zs,SqT K H z.1 (z.2.map V.int)/\z.2.length=d+1)/\(zs.map (·.2)).Nodup/\zs.length<64 /\
 ∀(q:Addr) (zs':List (Addr×List Int)),H q=none->zs'.Perm zs->(zs'.map (·.2)).Pairwise (fun x y=>HT.lexLt x y=true)->Q (.ref q) (upd H q (.lst (zs'.map fun z=>V.ref z.1)))
theorem Hd{α β:Type}{f:α->β}:∀{l:List β} {m:List α},l.Perm (m.map f)->∃m':List α,m'.Perm m/\l=m'.map f
 | [], m, h => ⟨[], by
   have:=h.length_eq
   rw[B']at this
   rw[gu this.symm],rfl⟩
 |y::l,m,h=>by
  have hy:y∈m.map f:=h.mem_iff.mp F'
  obtain⟨x,hx,rfl⟩:=df.mp hy
  obtain⟨s,t,rfl⟩:=gC hx
  have p:(s++x::t).Perm (x::(s++t)):=iG
  have h2:l.Perm ((s++t).map f):=(h.trans (p.map f)).cons_inv
  obtain⟨m',a1,a2⟩:=Hd h2
  exact⟨x::m',(a1.cons x).trans p.symm,by rw[a2];rfl⟩
theorem Pz{X:Cx}(hc:X.calm=true):DM X (.builtin "sorted") (O6 X.K X.w):=by
 intro pins s σ H xs us Q I r h
 obtain⟨p,zs,d,rfl,hp,ht,hn,hz,q⟩:=h
 obtain⟨u,rfl,ru⟩:=Jz r
 cases ru
 obtain⟨⟨o,es,ep,t,ho,hS,iv,hpl,hled,pm⟩,_,_⟩:=(show ObjOk X.prog X.w H s.heap p (.ext (Nm X.w p (zs.map (·.1)))) from I.hok p _ hp)
 have hsz:es.size=zs.length:=by have:=pm.length_eq;simpa using this
 have pm2:((Stb.eord X.w p ep es).toList.map (·.2)).Perm (zs.map fun z=>Value.ref z.1):=by
  refine((Stb.eord_perm p ep es).map _).trans (pm.trans ?_)
  rw[fD];exact List.Perm.refl _
 obtain⟨ys,py,ey⟩:=Hd pm2
 have hy64:ys.length<64:=by rw[py.length_eq];exact hz
 refine Calls.call_function_entry kind_sorted plain_sorted entry_sorted (args_sorted1 _) ?_
 unfold Builtin.«sorted»
 refine wpAny_bind (m:=checkCount "sorted" 1 1 _) (wpAny_pure ?_)
 refine wpAny_bind (Stb.collect_set (by simpa using I.ok.hd hc) ho hS iv hpl hled (by rw[hsz,sizeLine_eq];omega) fun h1 tk hlt keep=>?_)
 rw[ey]
 refine wpAny_bind (wpAny_newList ?_ (by rw[B',sizeLine_eq];omega))
 generalize hh2:h1.push (seqObj "list" (ys.map fun z=>Value.ref z.1).toArray 0)=h2
 have hoL:h2.get? h1.objs.size=some (seqObj "list" (ys.map fun z=>Value.ref z.1).toArray 0):=by rw[<- hh2];exact dn _ rfl
 have keep2:∀b ob,s.heap.get? b=some ob->h2.get? b=some ob/\b≠h1.objs.size:=fun b ob e=>by
  have e1:=keep b ob e
  refine⟨by rw[<- hh2];exact K' _ e1,dm (Y' e1)⟩
 have tp:Srt.Tp s.heap d (ys.map fun z=>Value.ref z.1) (ys.map (·.2)):=WT I fun z hz'=>ht z (py.mem_iff.mp hz')
 have nd:(ys.map (·.2)).Nodup:=((py.map (·.2)).nodup_iff).mpr hn
 show wpAny _ _ _ _ _ { s with heap:=h2,toks:=tk }
 have t2:Srt.Tp (((h2.update h1.objs.size (Obj.mapSeq fun _=>(#[]:Array Value))).push (seqObj "tuple" (ys.map fun z=>Value.ref z.1).toArray 0)).push (seqObj "list" #[] 0)) d (ys.map fun z=>Value.ref z.1) (ys.map (·.2)) :=
  tp.mono fun b ob e=>Srt.keptA (keep2 b ob e).1 (keep2 b ob e).2
 refine wpAny_bind (wpAny_holding (wpAny_call_entry slot_list_sort ⟨_,hoL,rfl⟩ entry_list_sort (Srt.list_sortT (d:=d) (ks:=ys.map (·.2)) (s:={ s with heap:=h2,toks:=tk }) hoL (by rw[B'];exact hy64) nd (by rw[B',B']) t2 fun pq hA hU=>⟨_,rfl,?_⟩) (args_list_sort _)))
 refine wpAny_pure ⟨_,rfl,?_⟩
 have hlen:(ys.map fun z=>Value.ref z.1).length=ys.length:=by simp
 rw[hlen]at hA hU
 have pmq:pq.toList.Perm (List.range ys.length):=by
  have:=hA.pm.toList
  simpa using this
 have mem:∀i∈pq.toList,i<ys.length:=fun i hi=>eQ.mp (pmq.mem_iff.mp hi)
 have eo:(pq.toList.map fun i=>(ys.map fun z=>Value.ref z.1).getD i Value.none)=(pq.toList.map fun i=>ys.getD i (0,[])).map fun z=>Value.ref z.1:=by
  rw[fD]
  refine fQ fun i hi=>?_
  have:=mem i hi
  simp[List.getD_eq_getElem?_getD,this]
 rw[eo]
 obtain⟨c,hcc⟩:=sortedHeap_at (out:=List.toArray ((pq.toList.map fun i=>ys.getD i (0,[])).map fun z=>Value.ref z.1)) hoL
 have perm:(pq.toList.map fun i=>ys.getD i (0,[])).Perm ys:=by
  have:=pmq.map fun i=>ys.getD i (0,[])
  rw[O5]at this
  exact this
 have hl2:=perm.length_eq
 have fresh:s.heap.objs.size<=h1.objs.size:=f6 hlt
 refine⟨.ref h1.objs.size,_,I.laid (t':=tk) (o:=.lst ((pq.toList.map fun i=>ys.getD i (0,[])).map fun z=>V.ref z.1)) (fun b ob e=>?_) fresh ?_,rfl,q h1.objs.size (pq.toList.map fun i=>ys.getD i (0,[])) (I.hok.fresh fresh) (perm.trans py) ?_⟩
 ·rw[sortedHeap_old (keep2 b ob e).2 (Y' (keep2 b ob e).1)];exact(keep2 b ob e).1
 ·exact⟨by rw[B',hl2];exact eE (f6 hy64) (by decide),_,c,HE _,hcc⟩
 ·rw[gO]
  intro i j hi hj hij
  simp only[List.length_map,Array.length_toList]at hi hj
  have sz:=hA.sz
  have:=hU i j hij (by omega)
  unfold Srt.lexr at this
  have g:∀(k:Nat) (hk:k<pq.size),(ys.map (·.2)).getD (pq.getD k 0) []=(ys.getD (pq.toList[k]'(by rw[fj];exact hk)) (0,[])).2:=fun k hk=>by
   have e1:pq.getD k 0=pq.toList[k]'(by rw[fj];exact hk):=by simp[Array.getD,hk]
   rw[e1]
   exact TZ (·.2) ys _ (0,[])
  rw[g i hi,g j hj]at this
  simpa using this
variable {K:KW}
def FL:List (List Int)->List (List Int)
 |[]=>[]
 |k::r=>if k∈r then FL r else k::FL r
theorem mem_once{k:List Int}:∀{l:List (List Int)},k∈FL l↔k∈l
 |[]=>f9
 |x::r=>by
  have ih:=mem_once (k:=k) (l:=r)
  unfold FL
  split
  ·rename_i c
   rw[ih]
   exact⟨C' _,fun z=>(P'.mp z).elim (fun e=>e▸c) id⟩
  ·rw[P',P',ih]
theorem Ey:∀(l:List (List Int)),(FL l).Nodup
 |[]=>gG
 |x::r=>by
  unfold FL
  split
  ·exact Ey r
  ·rename_i c
   exact eC.mpr ⟨fun z=>c (mem_once.mp z),Ey r⟩
def dSS(f:DX)(τ:DS):Option (PyData×DS):=(f τ).bind fun p=>match p.1 with
 |.list xs=>(Qa xs).bind fun ks=>if ks.length<4000/\(FL ks).length<64/\(∀k∈ks,k.length=((ks.headD [])).length)/\1<=(ks.headD [0]).length then some (.list ((NW (FL ks)).map W7),p.2) else none
 |_=>none
theorem OZ{f:DX}{τ t7:DS}{d:PyData}(e:dSS f τ=some (d,t7)):∃xs ks,f τ=some (.list xs,t7)/\Qa xs=some ks/\ks.length<4000/\(FL ks).length<64/\(∀k∈ks,k.length=((ks.headD [])).length)/\1<=(ks.headD [0]).length/\d = .list ((NW (FL ks)).map W7):=by
 unfold dSS at e
 obtain⟨⟨x,t4⟩,e1,e⟩:=oB e
 dsimp only at e
 split at e
 ·rename_i xs
  obtain⟨ks,e2,e⟩:=oB e
  split at e
  ·rename_i hc
   cases e
   exact⟨xs,ks,e1,e2,hc.1,hc.2.1,hc.2.2.1,hc.2.2.2,rfl⟩
  ·cases e
 ·cases e
theorem c7{w:World}{fr:Bool}{te:TE}{f:DX}(h:E K te fr f):E K (tCB (O6 K w) (HG (tCB (Sd K w) (HG te LO)) LO)) true (dSS f):=by
 refine⟨fun τ d t7 e=>?_,?_⟩
 ·obtain⟨xs,ks,e1,_⟩:=OZ e
  exact h.like _ _ _ e1
 intro S M τ σ H Q d t7 r e q
 obtain⟨xs,ks,e1,e2,l1,l2,l3,l4,rfl⟩:=OZ e
 refine h.run S M τ σ H _ _ _ r e1 fun v H1 r1 c1 res=>?_
 obtain⟨a,vs,rfl,hv,lv⟩:=r.isr res
 obtain⟨zs,rfl,rfl,hz⟩:=QZ lv e2
 rw[B']at l1
 refine⟨a,zs,rfl,SqL.of (hid_iff.mp hv).2,fun z hz'=>Same.tup same_hid (hz z hz'),by omega,fun p zs' hp hsub hnd hmem=>?_⟩
 have s1:Same H1 (upd H1 p (.ext (Nm w p (zs'.map (·.1))))):=Bc hp _
 have pm:(zs'.map (·.2)).Perm (FL (zs.map (·.2))):=(iA hnd (Ey _)).mpr fun k=>(hmem k).trans mem_once.symm
 have hl:=pm.length_eq
 rw[B']at hl
 refine⟨p,zs',((zs.map (·.2)).headD [0]).length-1,rfl,(by unfold upd;rw[if_pos rfl]),fun z hz'=>⟨Same.tup s1 (Same.tup same_hid (hz z (hsub z hz'))),?_⟩,hnd,by omega,fun p2 zs2 hp2 pm2 sr=>?_⟩
 ·have:=l3 z.2 (df.mpr ⟨z,hsub z hz',rfl⟩)
  cases zs with
  |nil=>exact absurd (hsub z hz') (by simp)
  |cons y ys =>
   simp only[List.map_cons,List.headD_cons]at *
   omega
 ·have e3:NW (FL (zs.map (·.2)))=zs2.map (·.2):=Ul (Ey _) sr fun x=>((pm2.map (·.2)).mem_iff).trans pm.mem_iff
  rw[e3]at q
  have r1':=r1.same s1
  have c1':Chg M H (upd H1 p (.ext (Nm w p (zs'.map (·.1))))):=c1.trans (.of s1)
  have s2:Same (upd H1 p (.ext (Nm w p (zs'.map (·.1))))) (upd (upd H1 p (.ext (Nm w p (zs'.map (·.1))))) p2 (.lst (zs2.map fun z=>V.ref z.1))):=Bc hp2 _
  refine q _ _ (r1'.same s2) (c1'.trans (.of s2)) ((GL hp2 (Qg fun z hz'=>?_)).back r1' c1')
  exact Same.tup (Same.keep s1).same (hz z (hsub z (pm2.mem_iff.mp hz')))
end DL
end
section
namespace DL
open PySem L2
def Wu(i:Nat)(τ:DS):Nat:=match τ[i]? with
 |some (some (.d (.int s)))=>s.toNat+1
 |_=>0
end DL
end
section
namespace Dwk
open PySem
variable {prog:Program} {w:World} {A:Around} {E:Value->Shared->Prop} {s:Shared}
end Dwk
end
section
namespace DL
open PySem L2 PyProof.Rows
variable {K:PySem.W.Frag}
section
variable {X:Cx} {pins:List (Addr×Obj)} {σ:L2.St} {H:Hp} {s:Shared}
end
variable {K:KW}
def FN:PyData->PyData->Option PyData
 |.tuple (x::xs),.tuple (y::ys)=>if xs.length+ys.length+2<=sizeLine then some (.tuple (x::xs++y::ys)) else none
 |_,_=>none
theorem Xx:OR K false (QL K) FN:=by
 intro S H x y dx dy d Q hS ix iy e q
 unfold FN at e
 split at e
 ·rename_i x1 xs y1 ys
  split at e
  ·rename_i hz
   cases e
   obtain⟨a,vs,rfl,ha,la⟩:=ix
   obtain⟨b,us,rfl,hb,lb⟩:=iy
   have l1:=la.length
   have l2:=lb.length
   rw[X']at l1 l2
   refine⟨a,b,vs,us,rfl,rfl,Same.tup same_hid ha,Same.tup same_hid hb,fun z=>(by subst z;cases l1),by omega,fun z=>(by subst z;cases l2),fun _ p hp=>?_⟩
   have s:=Bc hp (HO.tup (vs++us))
   refine q _ _ s ⟨p,vs++us,rfl,.inl (.inl (hid_iff.mpr ⟨hS p hp,BB⟩)),?_⟩
   exact(Dl la lb).mono (Same.keep s).same
  ·cases e
 ·cases e
end DL
end
section
namespace DL
open PySem L2
variable {K:KW}
end DL
end
section
namespace L2
open PySem
def Itv(K:PySem.W.Frag)(a:Addr)(n:Nat):It :=
 ⟨fun i H=>∃xs x,SqL K H a xs/\xs.length=n/\i<n/\xs[n-1-i]?=some x,fun i H x H'=>H'=H/\∀xs,SqL K H a xs->xs[n-1-i]?=some x,fun i _=>n<=i⟩
theorem R7{P:Program}{w:World}{K:PySem.W.Frag}{tg:Expr}(a it:Addr)(n:Nat):Turn P w K tg (Itv K a n) [it] it (fun i h=>h.IsRevIter it a ((n:Int)-1-i)/\i<=n) where
 mem:=by simp
 obj:=fun i h st b hb=>by
  have e:b=it:=by simpa using hb
  subst e
  obtain⟨⟨o,e,c,d⟩,_⟩:=st
  exact⟨o,e,fun v z=>by rw[d]at z;cases z⟩
 keep:=fun i h h' st k=>⟨st.1.at fun o e=>k it (by simp) o e,st.2⟩
 item:=by
  intro X hP hw hK hc i pins s σ H E I hf st hg
  subst hP hw hK
  obtain⟨xs,x,hq,hn,hi,hx⟩:=hg
  obtain⟨its,rv,p,hz⟩:=I.list hq
  obtain⟨u,hu,ru⟩:=rv.get hx
  obtain⟨f0,f1,f2,f3,f4,f5⟩:=hf it (by simp)
  have e0:((n:Int)-1-i)=((n-1-i:Nat):Int):=by omega
  have st1:s.heap.IsRevIter it a ((n-1-i:Nat):Int):=by rw[<- e0];exact st.1
  refine wpAny_pyNext_rev_item st1 p.isList (x:=u) (by simpa using hu) fun h' st' sb=>?_
  have st2:h'.IsRevIter it a ((n:Int)-1-(i+1:Nat)):=by
   have e1:((n:Int)-1-(i+1:Nat))=((n-1-i:Nat):Int)-1:=by omega
   rw[e1];exact st'
  have I1:Inv X pins σ H { s with heap:=h' }:=I.turned (t':=s.toks) (fun b o hb e=>(sb.2 b hb).trans e) f0 f1 f3 f4 f5
  obtain⟨o,e,c,d⟩:=id st'
  exact⟨u,rfl,Qm (s:={ s with heap:=h' }) e c d (by decide) ⟨x,H,I1,ru,⟨rfl,fun ys hy=>by rw[I.list_inj hy hq];exact hx⟩,⟨st2,hi⟩,fun b hb=>(hf b hb).1⟩⟩
 done:=by
  intro X hP hw hK hc i pins s σ H E I hf st hg
  subst hP hw hK
  have hg:n=i:=Nat.le_antisymm hg st.2
  subst hg
  obtain⟨f0,f1,f2,f3,f4,f5⟩:=hf it (by simp)
  have st1:s.heap.IsRevIter it a (-1):=by
   have e:(-1:Int)=(n:Int)-1-n:=by omega
   rw[e];exact st.1
  exact wpAny_pyNext_rev_end (I.ok.hd hc) st1 fun h' eb=>⟨rfl,I.turned (t':=s.toks) (fun b o hb e=>eb b o hb e) f0 f1 f3 f4 f5⟩
 self:=fun _ _ _ _ _ st h=>wpAny_pyIter_revIter st.1 h
def Vd(K:PySem.W.Frag)(tl:TE):TI:=fun σ H R=>tl σ H fun x H1=>∃a xs,x = .ref a/\SqL K H1 a xs/\R (Itv K a xs.length) H1
theorem XY{X:Cx}{tg e:Expr}{te:TE}{p2 pos2:Pos}(he:PE X e te)(hg2:L2.Gl X "reversed")(hm2:X.mg "reversed"=none)(hb2:bootBuiltins "reversed"=some (.type "reversed"))
  (hn2:("reversed":Str)≠"__name__") (hd2:(("reversed":Str)==("__debug__":Str))=false) (hs:starEach [e] X.env=[(false,eval e X.env)]:=by rfl) :
  PI X tg (.Call (.Name "reversed" p2) [e] [] pos2) (Vd X.K te):=by
 intro pins s σ H R I h
 refine wpAny_Call_Name_kw (M5 I hg2 hm2 hb2 ?_ hn2 hd2)
 refine gF ?_ (by rw[hs];rfl) rfl
 rw[hs]
 show wpAny _ _ (spliced ((false,eval e X.env)::backTo pos2 [])) _ _ s
 refine Calls.spliced_cons (thn (he pins s σ H _ I h) fun u s1 ⟨x,H1,I1,r1,q1⟩=>?_)
 refine Calls.spliced_nil ?_
 obtain⟨a,xs,rfl,hq,q⟩:=q1
 cases r1
 obtain⟨its,rv,pl,hz⟩:=I1.list hq
 have hl:=pl.isList
 refine call_reversed_list hl ?_
 have hit:(s1.heap.push (revObj a ((its.toArray.size:Int)-1))).IsRevIter s1.heap.objs.size a ((its.toArray.size:Int)-1):=⟨_,dn _ rfl,rfl,rfl⟩
 refine wpAny_pyIter_revIter hit ?_
 have hlen:=rv.length
 refine⟨s1.heap.objs.size,[s1.heap.objs.size],_,_,H1,rfl,I1.kept (t':=s1.toks) fun b o e=>K' _ e,R7 a _ xs.length,?_,fun b hb=>?_,q⟩
 ·have e:((xs.length:Int)-1-(0:Nat))=(its.toArray.size:Int)-1:=by rw[dj];omega
  exact⟨by rw[e];exact hit,eA _⟩
 ·have e:b=s1.heap.objs.size:=by simpa using hb
  subst e
  exact I1.fpOk (J' _) (I1.hok.fresh (J' _))
end L2
namespace DL
open PySem L2
variable {K:KW}
def dIV(f:DX)(τ:DS):Option (List PyData×DS):=(f τ).bind fun p=>match p.1 with
 |.list ds=>some (ds.reverse,p.2)
 |_=>none
theorem X9{fr:Bool}{t:TE}{f:DX}(h:E K t fr f):IT K (Vd K t) (dIV f):=by
 refine⟨fun τ d t7 e=>?_,?_⟩
 ·unfold dIV at e
  obtain⟨⟨x,t4⟩,e1,e⟩:=oB e
  dsimp only at e
  split at e
  ·cases e;exact h.like _ _ _ e1
  ·cases e
 intro S M τ σ H Q ds t7 r e q
 unfold dIV at e
 obtain⟨⟨x,t4⟩,e1,e⟩:=oB e
 dsimp only at e
 split at e
 ·rename_i xs
  cases e
  refine h.weak.run S M τ σ H _ _ _ r e1 fun v H1 r1 c1 i1=>?_
  have i1':Is K (hid S H1) (.list xs) v:=i1
  obtain⟨a,vs,rfl,hl,ll⟩:=i1'
  have hlen:=ll.length
  refine⟨a,vs,rfl,SqL.of (hid_iff.mp hl).2,q _ H1 r1 c1 fun S2 H2 k=>?_⟩
  have hl2:=SqL.of (K:=K) (hid_iff.mp (k.same _ _ hl)).2
  have ll2:=ll.mono k.same
  refine⟨fun i d e=>?_,fun i hi=>?_⟩
  ·have hi:i<xs.length:=by
    have:=(R'.mp e).1
    rwa [e8]at this
   have e':xs[xs.length-1-i]?=some d:=by rw[List.getElem?_reverse hi]at e;exact e
   obtain⟨u,h1,h2⟩:=ll2.get e'
   rw[<- hlen]at h1
   refine⟨⟨vs,u,hl2,rfl,by omega,h1⟩,fun y H3 z=>⟨z.1,?_⟩⟩
   have:=z.2 vs hl2
   rw[h1]at this;cases this
   exact h2
  ·show vs.length<=i
   rw[e8]at hi
   omega
 ·cases e
end DL
end
section
namespace EnG
open PySem PyProof.Rows
section
variable {prog:Program} {w:World} {A:Around} {E:Value->Shared->Prop} {s:Shared}
end
end EnG
namespace EnG
open PySem PyProof.Rows
open Sem (wp)
open AutoSeq1 (wpAny_loadPart')
section
variable {prog:Program} {w:World} {A:Around} {E:Value->Shared->Prop} {s:Shared}
end
end EnG
namespace L2
open PySem PySem.Spec PyProof.Rows EnG
section
variable {X:Cx} {elts:List Expr} {tp:Pos}
end
end L2
end
section
namespace DL
open PySem L2 PyProof.Rows
variable {K:KW}
def Fu:PyData->PyData->Option PyData
 |.str x,.str y=>if x.length+y.length<=sizeLine then some (.str (x++y)) else none
 |_,_=>none
theorem Xy:OR K false (fun x y H Q=>∃i j,x = .str i/\y = .str j/\i.length+j.length<=sizeLine/\Q (.str (i++j)) H) Fu:=by
 intro S H x y dx dy d Q _ ix iy e q
 unfold Fu at e
 split at e
 ·split at e
  ·rename_i hz
   cases e
   cases (show x = .str _ from ix)
   cases (show y = .str _ from iy)
   exact⟨_,_,rfl,rfl,hz,q _ H (fun _ _ e=>e) rfl⟩
  ·cases e
 ·cases e
def Dm:PyData->PyData->Option PyData
 |.str z,.int i=>if z.length<=sizeLine then (atI z.cps.toList i).map fun c=>.str ⟨#[c]⟩ else none
 |_,_=>none
theorem aH:OR K false Zu Dm:=by
 intro S H x y dx dy d Q _ ix iy e q
 unfold Dm at e
 split at e
 ·split at e
  ·rename_i hz
   obtain⟨c,e1,rfl⟩:=oM e
   cases (show x = .str _ from ix)
   cases (show y = .int _ from iy)
   exact⟨_,_,c,rfl,rfl,hz,e1,q _ H (fun _ _ e=>e) rfl⟩
  ·cases e
 ·cases e
def Kz:List PyData->Option PyData
 |[.list xs]=>some (.tuple xs)
 |[.tuple xs]=>some (.tuple xs)
 |_=>none
theorem WA:BR K false (fun xs H Q=>∃p ys,xs=[.ref p]/\((SqL K H p ys/\∀l,H l=none->Q (.ref l) (upd H l (.tup ys)))\/(SqT K H p ys/\Q (.ref p) H))) Kz:=by
 intro S H vs ds d Q hS l e q
 unfold Kz at e
 split at e
 ·cases e
  obtain⟨v,us,rfl,⟨a,ws,rfl,h,lw⟩,iu⟩:=l
  cases (show us=[] from iu)
  refine⟨a,ws,rfl,.inl ⟨SqL.of (hid_iff.mp h).2,fun p hp=>?_⟩⟩
  have s:=Bc hp (HO.tup ws)
  exact q _ _ s ⟨p,ws,rfl,.inl (.inl (hid_iff.mpr ⟨hS p hp,BB⟩)),lw.mono (Same.keep s).same⟩
 ·cases e
  obtain⟨v,us,rfl,⟨a,ws,rfl,h,lw⟩,iu⟩:=l
  cases (show us=[] from iu)
  exact⟨a,ws,rfl,.inr ⟨Same.tup same_hid h,q _ H (fun _ _ e=>e) ⟨a,ws,rfl,h,lw⟩⟩⟩
 ·cases e
end DL
end
section
namespace L2
open PySem PySem.Spec PyProof.Rows
section
variable {X:Cx} {pos:Pos}
end
end L2
namespace DL
open PySem L2
variable {K:KW}
variable {K:KW}
end DL
end
section
namespace L2
open PySem PySem.Spec PyProof.Rows
section
variable {X:Cx}
end
end L2
namespace DL
open PySem L2 PyProof.Rows
variable {K:KW}
end DL
end
section
namespace L2
open PySem PySem.Spec PyProof.Rows
def cF(o:Obj):Prop:=∃vs,o.data = .fields vs/\vs[2]?=some Value.none
def XAt(N:Addr->Prop)(h:Heap)(e:Addr)(C:Addr)(fl:Value):Prop :=
 ∃oe vs T oT ts,h.get? e=some oe/\(oe.cls = .ref C/\oe.dict=none/\cF oe)/\oe.data = .fields vs/\vs[1]?=some (.ref T)/\N T/\T≠e/\h.get? T=some oT/\oT.data = .fields ts/\ts[3]?=some fl
section
variable {M:Model} {A:Around} {E:Value->Shared->Prop} {s:Shared} {N:Addr->Prop} {base:Heap} {env:Env} {outer:List Env} {L e C:Addr} {Q:Unit->Shared->Prop}
end
def Nw(h:Heap)(H:Hp):Addr->Prop:=fun b=>h.get? b=none/\H b=none
def CXr(P:Program)(w:World):CXT:=fun outer H s E e s'=>∃(ea C:Addr) (H':Hp),e = .ref ea/\s'.os=s.os/\AllBare s'.gens/\Un (frs outer) [] H H' s.heap s'.heap/\HOk P w H' s'.heap/\Nw s.heap H' ea/\XAt (Nw s.heap H') s'.heap ea C .none/\E (.ref C) none H'
def Ud(X:Cx)(C:Addr)(E:XK):Prop:=∀(pins:List (Addr×Obj)) (σ:St) (H:Hp) (s:Shared) (h':Heap) (e:Addr) (vs:List Value),Inv X pins σ H s->Heap.MadeExcOf s.heap h' e (.ref C) vs->E (.ref C) none H->X.xe (.ref e) { s with heap:=h' }
section
variable {X:Cx} {pins:List (Addr×Obj)} {σ:St} {H H':Hp} {s s3:Shared} {ea C:Addr} {fl:Value}
end
section
variable {X:Cx} {k:Nat} {f C D':Addr} {fd:FuncData} {ps:List Str} {sp:Sp} {x cn:Str} {p pos p1 np hp p2:Pos} {e:Expr} {es:List Expr} {t:TA} {b₀:Stmt} {suite:List Stmt} {ts:Addr->TS}
end
end L2
end
section
namespace L2
open PySem PySem.Spec PyProof.Rows PySem.W
section
variable {prog:Program} {w:World} {A:Around} {E:Value->Shared->Prop} {s:Shared} {K:Frag} {x C:Addr} {ox:Obj}
end
section
variable {X:Cx} {ea C:Addr} {oe:Obj}
end
end L2
end
section
namespace L2
open PySem PySem.Spec PyProof.Rows
section
variable {X:Cx} {k i:Nat} {f C D':Addr} {fd:FuncData} {ps:List Str} {sp:Sp} {x cn n:Str} {p pos p1 np hp p2:Pos} {e:Expr} {es:List Expr} {t:TA} {b₀:Stmt} {suite:List Stmt} {ts:Addr->TS}
end
end L2
namespace DL
open PySem L2
instance {i j:Int}:Decidable (W3 i j):=by unfold W3 Bd;infer_instance
end DL
end
section
namespace L2
open PySem PySem.Spec PyProof.Rows
def Its(x:Str):It:=⟨fun i _=>i<x.cps.size,fun i H v H'=>∃c,x.cps[i]?=some c/\H'=H/\v = .str ⟨#[c]⟩,fun i _=>x.cps.size<=i⟩
theorem L3{P:Program}{w:World}{K:PySem.W.Frag}{tg:Expr}(x:Str)(t:Tok)(it:Addr)(n:String)
  (hn:["enumerate","zip","dict_itemiterator","dict_reverseitemiterator","odict_iterator","itertools.zip_longest","itertools.pairwise"].contains n=false)
  (nx : ∀ {A : Around} {E : Value -> Shared -> Prop} {s : Shared} {i c : Nat} {Q : Option Value -> Shared -> Prop}, s.heap.IsStrIter it n x t i -> x.cps[i]? = some c ->
   (∀h',h'.IsStrIter it n x t (i+1)->Heap.SameBut it s.heap h'->Q (some (.str ⟨#[c]⟩ s.toks)) { s with heap:=h',toks:=s.toks+1 })->wpAny (model P w) A (pyNext (.ref it)) Q E s)
  (en : ∀ {A : Around} {E : Value -> Shared -> Prop} {s : Shared} {i : Nat} {Q : Option Value -> Shared -> Prop}, A.handled = none -> s.heap.IsStrIter it n x t i -> x.cps[i]? = none ->
   (∀h',Heap.ExtBut it s.heap h'->Q none { s with heap:=h' })->wpAny (model P w) A (pyNext (.ref it)) Q E s)
  (sf:∀{A:Around} {E:Value->Shared->Prop} {s:Shared} {i:Nat} {Q:Value->Shared->Prop},s.heap.IsStrIter it n x t i->Q (.ref it) s->wpAny (model P w) A (pyIter (.ref it)) Q E s) :
  Turn P w K tg (Its x) [it] it (fun i h=>h.IsStrIter it n x t i) where
 mem:=by simp
 obj:=fun i h st b hb=>by
  have e:b=it:=by simpa using hb
  subst e
  obtain⟨o,e,c,d⟩:=st
  exact⟨o,e,fun v z=>by rw[d]at z;cases z⟩
 keep:=fun i h h' st k=>let ⟨o,e,r⟩:=st;⟨o,k it (by simp) o e,r⟩
 item:=by
  intro X hP hw hK hc i pins s σ H E I hf st hg
  subst hP hw hK
  have hlt:i<x.cps.size:=hg
  have hx:x.cps[i]?=some x.cps[i]:=eR hlt
  obtain⟨f0,f1,f2,f3,f4,f5⟩:=hf it (by simp)
  refine nx st hx fun h' st' sb=>?_
  have I1:Inv X pins σ H { s with heap:=h',toks:=s.toks+1 }:=I.turned (fun b o hb e=>(sb.2 b hb).trans e) f0 f1 f3 f4 f5
  obtain⟨o,e,c,d⟩:=id st'
  exact⟨_,rfl,Qm (s:={ s with heap:=h',toks:=s.toks+1 }) e c d hn ⟨.str ⟨#[x.cps[i]]⟩,H,I1,⟨_,rfl⟩,⟨_,hx,rfl,rfl⟩,st',fun b hb=>(hf b hb).1⟩⟩
 done:=by
  intro X hP hw hK hc i pins s σ H E I hf st hg
  subst hP hw hK
  obtain⟨f0,f1,f2,f3,f4,f5⟩:=hf it (by simp)
  exact en (I.ok.hd hc) st (gB hg) fun h' eb=>⟨rfl,I.turned (t':=s.toks) (fun b o hb e=>eb b o hb e) f0 f1 f3 f4 f5⟩
 self:=fun _ _ _ _ _ st h=>sf st h
theorem R6{P:Program}{w:World}{K:PySem.W.Frag}{tg:Expr}(x:Str)(t:Tok)(it:Addr):Turn P w K tg (Its x) [it] it (fun i h=>h.IsStrIter it (strIterType x) x t i):=by
 unfold strIterType
 split
 ·exact L3 x t it _ (by decide) (fun a b c=>wpAny_pyNext_ascii_item a b c) (fun a b c d=>wpAny_pyNext_ascii_end a b c d) (fun a b=>wpAny_pyIter_striter_ascii a b)
 ·exact L3 x t it _ (by decide) (fun a b c=>wpAny_pyNext_wide_item a b c) (fun a b c d=>wpAny_pyNext_wide_end a b c d) (fun a b=>wpAny_pyIter_striter_wide a b)
def aa(tl:TE):TI:=fun σ H R=>tl σ H fun v H1=>∃x,v = .str x/\R (Its x) H1
theorem XX{X:Cx}{tg l:Expr}{tl:TE}(hl:PE X l tl):PI X tg l (aa tl):=by
 intro pins s σ H R I h
 refine thn (hl pins s σ H _ I h) fun v s1 ⟨x,H1,I1,r1,q1⟩=>?_
 obtain⟨z,rfl,q⟩:=q1
 obtain⟨t,rfl⟩:=r1
 refine wpAny_pyIter_strU ?_
 refine⟨s1.heap.objs.size,[s1.heap.objs.size],_,_,H1,rfl,I1.kept (t':=s1.toks) fun b o e=>K' _ e,R6 z t _,⟨_,dn _ rfl,rfl,rfl⟩,fun b hb=>?_,q⟩
 have e:b=s1.heap.objs.size:=by simpa using hb
 subst e
 exact I1.fpOk (J' _) (I1.hok.fresh (J' _))
def XI:V->List V->Hp->VK->Prop:=fun x xs H Q=>∃a b i Cn,x = .str a/\xs=[.str b]/\Builtin.Str.occurrences a b 0 a.length 1=i::Cn/\Q (.int (i:Nat)) H
theorem TX{X:Cx}:MtR X "str.index" XI:=by
 intro pins s σ H x xs v us Q I rx rs h
 obtain⟨a,b,i,Cn,rfl,rfl,ho,q⟩:=h
 obtain⟨t,rfl⟩:=rx
 obtain⟨u,rfl,ru⟩:=Jz rs
 obtain⟨t',rfl⟩:=ru
 exact SC.index ho ⟨.int i,H,I.tok _,⟨_,rfl⟩,q⟩
end L2
namespace DL
open PySem L2 PyProof.Rows
variable {K:KW}
def chD(x:Str):List PyData:=x.cps.toList.map fun c=>.str ⟨#[c]⟩
def dIS(f:DX)(τ:DS):Option (List PyData×DS):=(f τ).bind fun p=>match p.1 with
 |.str x=>some (chD x,p.2)
 |_=>none
theorem X8{fr:Bool}{t:TE}{f:DX}(h:E K t fr f):IT K (aa t) (dIS f):=by
 refine⟨fun τ d t7 e=>?_,?_⟩
 ·unfold dIS at e
  obtain⟨⟨x,t4⟩,e1,e⟩:=oB e
  dsimp only at e
  split at e
  ·cases e;exact h.like _ _ _ e1
  ·cases e
 intro S M τ σ H Q ds t7 r e q
 unfold dIS at e
 obtain⟨⟨x,t4⟩,e1,e⟩:=oB e
 dsimp only at e
 split at e
 ·rename_i z
  cases e
  refine h.weak.run S M τ σ H _ _ _ r e1 fun v H1 r1 c1 i1=>?_
  cases (show v = .str z from i1)
  refine⟨z,rfl,q _ H1 r1 c1 fun S2 H2 k=>⟨fun i d e=>?_,fun i hi=>?_⟩⟩
  ·unfold chD at e
   rw[Z',fM]at e
   obtain⟨c,hc,rfl⟩:=oM e
   refine⟨(fH.mp hc).1,fun x H3 ⟨c',hc',h1,h2⟩=>⟨h1,?_⟩⟩
   rw[hc]at hc';cases hc'
   exact h2
  ·show z.cps.size<=i
   unfold chD at hi
   simpa using hi
 ·cases e
def Rn:PyData->PyData->Option PyData
 |.str a,.str b=>match Builtin.Str.occurrences a b 0 a.length 1 with
  |i::_=>some (.int (i:Nat))
  |[]=>none
 |_,_=>none
theorem Rm{x y d:PyData}(h:Rn x y=some d):∃u w i Cn,x = .str u/\y = .str w/\Builtin.Str.occurrences u w 0 u.length 1=i::Cn/\d = .int (i:Nat):=by
 unfold Rn at h
 split at h
 ·split at h
  ·rename_i u w _ i Cn ho
   exact⟨u,w,i,Cn,rfl,rfl,ho,(E' h).symm⟩
  ·cases h
 ·cases h
theorem a8{fa fb:Bool}{ta tb:TE}{a b:DX}(ha:E K ta fa a)(hb:E K tb fb b):E K (tBM K "str" XI ta (HG tb LO)) false (dOp Rn a b):=by
 refine⟨fun τ d t7 e=>?_,?_⟩
 ·unfold dOp at e
  obtain⟨⟨x,t4⟩,e1,e⟩:=oB e
  obtain⟨⟨y,l7⟩,e2,e⟩:=oB e
  obtain⟨z,e3,e⟩:=oM e
  cases e
  exact(ha.like _ _ _ e1).trans (hb.like _ _ _ e2)
 intro S M τ σ H Q d t7 r e q
 unfold dOp at e
 obtain⟨⟨x,t4⟩,e1,e⟩:=oB e
 obtain⟨⟨y,l7⟩,e2,e⟩:=oB e
 obtain⟨z,e3,e⟩:=oM e
 cases e
 obtain⟨u,w,i,Cn,rfl,rfl,ho,rfl⟩:=Rm e3
 refine ha.weak.run S M τ σ H _ _ _ r e1 fun v H1 r1 c1 i1=>?_
 cases (show v = .str u from i1)
 refine⟨rfl,hb.weak.run S M _ σ H1 _ _ _ r1 e2 fun v2 H2 r2 c2 i2=>?_⟩
 cases (show v2 = .str w from i2)
 exact⟨u,w,i,Cn,rfl,rfl,ho,q _ H2 r2 (c1.trans c2) rfl⟩
def Rl:PyData->PyData->Option PyData
 |.str i,.str j=>some (.bool (!(Builtin.Str.occurrences j i 0 j.length 1).isEmpty))
 |_,_=>none
theorem aK:OR K false (fun x y H Q=>∃i j,x = .str i/\y = .str j/\Q (.bl (!(Builtin.Str.occurrences j i 0 j.length 1).isEmpty)) H) Rl:=by
 intro S H x y dx dy d Q _ ix iy e q
 unfold Rl at e
 split at e
 ·rename_i i j
  cases e
  exact⟨i,j,ix,iy,q _ H (fun _ _ e=>e) rfl⟩
 ·cases e
mutual
def BK(K:KW):PyData->Value->Bool
 |.int i,.int j _=>decide (i=j)
 |.str x,.str y _=>decide (x=y)
 |.tuple ds,.ref a=>match K.fr.lookup a with
  |some ⟨.type "tuple",_,.seq its _,_⟩=>decide (its.size<=1000)&&constInL K ds its.toList
  |_=>false
 |_,_=>false
def constInL(K:KW):List PyData->List Value->Bool
 |[],[]=>true
 |d::ds,v::vs=>BK K d v&&constInL K ds vs
 |_,_=>false
end
mutual
theorem K9:∀{d:PyData} {u:Value},BK K d u=true->∃v,RelV v u/\∀H,Is K H d v
 |.int i,u,h=>by
  cases u<;>first|(unfold BK at h;cases h;done)|(unfold BK at h;cases of_decide_eq_true h;exact⟨.int i,⟨_,rfl⟩,fun _=>rfl⟩)
 |.str x,u,h=>by
  cases u<;>first|(unfold BK at h;cases h;done)|(unfold BK at h;cases of_decide_eq_true h;exact⟨.str x,⟨_,rfl⟩,fun _=>rfl⟩)
 |.tuple ds,.ref a,h=>by
  unfold BK at h
  split at h
  ·rename_i dd its n sl ho
   obtain⟨h1,h2⟩:=Bool.and_eq_true_iff.mp h
   obtain⟨vs,r,hl⟩:=constL_is h2
   exact⟨.ref a,rfl,fun H=>⟨a,vs,rfl,.inr ⟨_,its,n,ho,rfl,rfl,eE (of_decide_eq_true h1) (by decide),r⟩,hl H⟩⟩
  ·cases h
 |.tuple ds,.none,h=>by unfold BK at h;cases h
 |.tuple ds,.bool _,h=>by unfold BK at h;cases h
 |.tuple ds,.int _ _,h=>by unfold BK at h;cases h
 |.tuple ds,.str _ _,h=>by unfold BK at h;cases h
 |.none,u,h=>by cases u<;>(unfold BK at h;cases h)
 |.bool _,u,h=>by cases u<;>(unfold BK at h;cases h)
 |.list _,u,h=>by cases u<;>(unfold BK at h;cases h)
 |.dict _,u,h=>by cases u<;>(unfold BK at h;cases h)
theorem constL_is:∀{ds:List PyData} {us:List Value},constInL K ds us=true->∃vs,Vals vs us/\∀H,IsL K H ds vs
 |[],[],_=>⟨[],.nil,fun _=>rfl⟩
 |d::ds,u::us,h=>by
  unfold constInL at h
  obtain⟨h1,h2⟩:=Bool.and_eq_true_iff.mp h
  obtain⟨v,r,i⟩:=K9 h1
  obtain⟨vs,rs,is⟩:=constL_is h2
  exact⟨v::vs,.cons r rs,fun H=>⟨v,vs,rfl,i H,is H⟩⟩
 |[],_::_,h=>by cases h
 |_::_,[],h=>by cases h
end
def KdL(K:KW)(w:World):List DictEntry->List (Str×PyData)->Prop
 |[],[]=>True
 |e::es,p::tb=>(∃t,e.key = .str p.1 t)/\e.hash=hashStr w p.1/\BK K p.2 e.val=true/\KdL K w es tb
 |_,_=>False
structure KD(K:KW)(w:World)(a:Addr)(tb:List (Str×PyData)):Prop where
 ex:∃es n,K.fr.lookup a=some ⟨.type "dict",none,.dict es n,#[]⟩/\KdL K w es.toList tb
def NU:List (Str×PyData)->Str->Option PyData
 |[],_=>none
 |p::r,k=>if p.1=k then some p.2 else NU r k
theorem Fp{k x:Str}{t:Tok}:Value.isStrOf k (.str x t)=decide (k=x):=by
 unfold Value.isStrOf
 by_cases h:k=x
 ·subst h
  rw[decide_eq_true rfl]
  first|exact beq_self_eq_true _|simp
 ·rw[decide_eq_false h]
  first|exact beq_eq_false_iff_ne.mpr (Ne.symm h)|(simp;exact Ne.symm h)
theorem Qc{w:World}:∀{es:List DictEntry} {tb:List (Str×PyData)},KdL K w es tb->∀e∈es,∃k,Value.isStrOf k e.key=true/\e.hash=hashStr w k
 |[],_,_,e,h=>nomatch h
 |x::es,[],h,_,_=>h.elim
 |x::es,p::tb,⟨⟨t,hk⟩,hh,_,r⟩,e,h=>by
  rcases P'.mp h with rfl|h
  ·exact⟨p.1,by rw[hk,Fp];exact decide_eq_true rfl,hh⟩
  ·exact Qc r e h
theorem Qd{w:World}{k:Str}{d:PyData}:∀{es:List DictEntry} {tb:List (Str×PyData)},KdL K w es tb->NU tb k=some d->∃u,(es.find? fun e=>Value.isStrOf k e.key).map (·.val)=some u/\BK K d u=true
 |[],[],_,h=>by cases h
 |[],_::_,h,_=>h.elim
 |_::_,[],h,_=>h.elim
 |x::es,p::tb,⟨⟨t,hk⟩,hh,hc,r⟩,h=>by
  unfold NU at h
  rw[List.find?_cons,hk,Fp]
  by_cases e:p.1=k
  ·rw[if_pos e]at h
   cases h
   rw[decide_eq_true e.symm]
   exact⟨_,rfl,hc⟩
  ·rw[if_neg e]at h
   rw[decide_eq_false (Ne.symm e)]
   exact Qd r h
def rKd(K:KW)(a:Addr)(tb:List (Str×PyData)):R2:=fun x y H Q=>x = .ref a/\∃k d,y = .str k/\NU tb k=some d/\∀v,(∀H',Is K H' d v)->Q v H
theorem aY{X:Cx}{a:Addr}{tb:List (Str×PyData)}(kd:KD (JY X) X.w a tb):IxR X (rKd (JY X) a tb):=by
 intro value slice pins s σ H x y v u Q I rx ry h hs
 obtain⟨rfl,k,d,rfl,hg,q⟩:=h
 cases rx
 obtain⟨t,rfl⟩:=ry
 obtain⟨es,n,lk,hL⟩:=kd.ex
 obtain⟨z,hz,hc⟩:=Qd hL hg
 obtain⟨zv,rz,iz⟩:=K9 hc
 have ho:=I.kIn _ _ lk
 have hm:s.heap.MapOf (strKind X.prog X.w) a (fun k=>findBy Value.isStrOf es k):=⟨_,es,n,ho,⟨rfl,rfl,rfl⟩,rfl,fun e he=>Qc hL e (fF.mpr he),fun _=>rfl⟩
 refine tail_any hm.typeIs PySem.F.slot_dict_getitem.lookup (wpAny_getItem_of (k:=k) (key:=.str k t) (by show Value.isStrOf k (.str k t)=true;rw[Fp];exact decide_eq_true rfl) hm (v:=z) ?_ ⟨zv,H,I.tok _,rz,q zv iz⟩) hs
 show findBy Value.isStrOf es k=some z
 unfold findBy
 rw[<- Array.find?_toList]
 exact hz
def dKd(tb:List (Str×PyData))(f:DX)(τ:DS):Option (PyData×DS):=(f τ).bind fun p=>match p.1 with
 |.str k=>(NU tb k).map fun d=>(d,p.2)
 |_=>none
theorem dD{fa:Bool}{a:Addr}{tb:List (Str×PyData)}{t:TE}{f:DX}(h:E K t fa f):E K (tOp (rKd K a tb) (tC (.ref a)) t) false (dKd tb f):=by
 refine⟨fun τ d t7 e=>?_,?_⟩
 ·unfold dKd at e
  obtain⟨⟨x,t4⟩,e1,e⟩:=oB e
  dsimp only at e
  split at e
  ·obtain⟨z,e3,e⟩:=oM e
   cases e
   exact h.like _ _ _ e1
  ·cases e
 intro S M τ σ H Q d t7 r e q
 unfold dKd at e
 obtain⟨⟨x,t4⟩,e1,e⟩:=oB e
 dsimp only at e
 split at e
 ·rename_i k
  obtain⟨z,e3,e⟩:=oM e
  cases e
  refine h.weak.run S M τ σ H _ _ _ r e1 fun v H1 r1 c1 i1=>?_
  cases (show v = .str k from i1)
  exact⟨rfl,k,_,rfl,e3,fun v hv=>q v H1 r1 c1 (hv _)⟩
 ·cases e
end DL
end
section
namespace DL
open PySem L2
variable {K:KW}
section
variable {S S':Addr->Prop} {H:Hp}
mutual
theorem Dp.is(k:TSm (hid S H) (hid S' H)):∀{d:PyData} {v:V} {F:List Addr},(∀a∈F,¬S' a)->Dp K S H d v F->Is K (hid S' H) d v
 |.none,_,_,_,h=>h.1
 |.bool _,_,_,_,h=>h.1
 |.int _,_,_,_,h=>h.1
 |.str _,_,_,_,h=>h.1
 |.tuple _,_,_,f,⟨a,vs,e,h,l⟩=>⟨a,vs,e,k.tup h,DpL.is k f l⟩
 |.list _,_,_,f,⟨a,vs,G,e,e2,h,l⟩=>⟨a,vs,e,hid_iff.mpr ⟨f a (by rw[e2];exact F' ..),h⟩,DpL.is k (fun b hb=>f b (by rw[e2];exact C' _ hb)) l⟩
theorem DpL.is(k:TSm (hid S H) (hid S' H)):∀{ds:List PyData} {vs:List V} {F:List Addr},(∀a∈F,¬S' a)->DpL K S H ds vs F->IsL K (hid S' H) ds vs
 |[],_,_,_,h=>h.1
 |_::_,_,_,f,⟨x,xs,F1,F2,e,e2,h,l⟩=>⟨x,xs,e,Dp.is k (fun b hb=>f b (by rw[e2];exact dY _ hb)) h,DpL.is k (fun b hb=>f b (by rw[e2];exact dW _ hb)) l⟩
end
mutual
theorem Dp.lst:∀{d:PyData} {v:V} {F:List Addr},Dp K S H d v F->∀a∈F,∃vs,H a=some (.lst vs)
 |.none,_,_,h,a,q=>by rw[h.2]at q;cases q
 |.bool _,_,_,h,a,q=>by rw[h.2]at q;cases q
 |.int _,_,_,h,a,q=>by rw[h.2]at q;cases q
 |.str _,_,_,h,a,q=>by rw[h.2]at q;cases q
 |.tuple _,_,_,⟨_,vs,e,h,l⟩,a,q=>DpL.lst l a q
 |.list _,_,_,⟨b,vs,G,e,e2,h,l⟩,a,q=>by
  rw[e2]at q
  rcases P'.mp q with rfl|q
  ·exact⟨vs,h⟩
  ·exact DpL.lst l a q
theorem DpL.lst:∀{ds:List PyData} {vs:List V} {F:List Addr},DpL K S H ds vs F->∀a∈F,∃vs,H a=some (.lst vs)
 |[],_,_,h,a,q=>by rw[h.2]at q;cases q
 |_::_,_,_,⟨x,xs,F1,F2,e,e2,h,l⟩,a,q=>by
  rw[e2]at q
  rcases fB.mp q with q|q
  ·exact Dp.lst h a q
  ·exact DpL.lst l a q
end
mutual
theorem Dp.fix:∀{d:PyData} {v:V},Cz d=true->Is K (hid S H) d v->Dp K S H d v []
 |.none,_,_,h=>⟨h,rfl⟩
 |.bool _,_,_,h=>⟨h,rfl⟩
 |.int _,_,_,h=>⟨h,rfl⟩
 |.str _,_,_,h=>⟨h,rfl⟩
 |.tuple _,_,f,⟨a,vs,e,h,l⟩=>⟨a,vs,e,h,DpL.fix f l⟩
 |.list _,_,f,_=>absurd f eM
 |.dict _,_,f,_=>absurd f eM
theorem DpL.fix:∀{ds:List PyData} {vs:List V},fixDs ds=true->IsL K (hid S H) ds vs->DpL K S H ds vs []
 |[],_,_,h=>⟨h,rfl⟩
 |_::_,_,f,⟨x,xs,e,h,l⟩=>⟨x,xs,[],[],e,rfl,Dp.fix (by rw[fixDs,G']at f;exact f.1) h,DpL.fix (by rw[fixDs,G']at f;exact f.2) l⟩
end
mutual
theorem Dp.unfix:∀{d:PyData} {v:V} {F:List Addr},Cz d=true->Dp K S H d v F->F=[]/\Is K (hid S H) d v
 |.none,_,_,_,h=>⟨h.2,h.1⟩
 |.bool _,_,_,_,h=>⟨h.2,h.1⟩
 |.int _,_,_,_,h=>⟨h.2,h.1⟩
 |.str _,_,_,_,h=>⟨h.2,h.1⟩
 |.tuple _,_,_,f,⟨a,vs,e,h,l⟩=>let ⟨z,y⟩:=DpL.unfix f l;⟨z,a,vs,e,h,y⟩
 |.list _,_,_,f,_=>absurd f eM
 |.dict _,_,_,f,_=>absurd f eM
theorem DpL.unfix:∀{ds:List PyData} {vs:List V} {F:List Addr},fixDs ds=true->DpL K S H ds vs F->F=[]/\IsL K (hid S H) ds vs
 |[],_,_,_,h=>⟨h.2,h.1⟩
 |_::_,_,_,f,⟨x,xs,F1,F2,e,e2,h,l⟩=>by
  rw[fixDs,G']at f
  obtain⟨rfl,y1⟩:=Dp.unfix f.1 h
  obtain⟨rfl,y2⟩:=DpL.unfix f.2 l
  exact⟨e2,x,xs,e,y1,y2⟩
end
end
def mem(F:List Addr)(b:Addr):Prop:=b∈F
variable {K:KW}
theorem RF.newG{F:Frm}{S M:Addr->Prop}{τ:DS}{σ:St}{H:Hp}(f:RF K F S M τ σ H){X:List Addr}{i:Nat}{d:PyData}{v:V}(hi:i<τ.length)(hnp:F.ar.length<=i)(hS:∀a∈X,S a)(hM:∀a∈X,¬M a)(hF:∀a∈X,F.H a=none)(hn:X.Nodup)
  (h:DpT K S H d v X):RF K F S (fun b=>M b\/b∈X) (τ.set i (some (.g d))) (σ.set i (some v)) H:=by
 have hs:i<σ.length:=by rw[f.r.len];exact hi
 have ne:∀j,j≠i->(τ.set i (some (.g d)))[j]?=τ[j]?:=fun j hj=>dZ (Ne.symm hj)
 have ne':∀j,j≠i->(σ.set i (some v))[j]?=σ[j]?:=fun j hj=>dZ (Ne.symm hj)
 have se:(τ.set i (some (.g d)))[i]?=some (some (.g d)):=dX hi
 have se':(σ.set i (some v))[i]?=some (some v):=dX hs
 have own:∀(j:Nat) (ys:Ow),(τ.set i (some (.g d)))[j]?=some (some ys.L)->j≠i/\τ[j]?=some (some ys.L):=fun j ys e=>by
  by_cases hj:j=i
  ·subst hj;rw[se]at e;exact absurd (E' (E' e)).symm Ow.not_g
  ·rw[ne j hj]at e;exact⟨hj,e⟩
 have jn:∀{j:Nat} {v:V},F.ar[j]?=some (some v)->j≠i:=fun {j v} e z=>by
  subst z
  have:=(R'.mp e).1
  omega
 refine⟨⟨by rw[eK,eK];exact f.r.len,fun j x e=>?_,fun j ys e=>?_,fun j ys e=>?_,fun j1 j2 ys zs b e1 e2 f1 f2=>?_,fun b h=>h.elim (f.r.sub b) (hS b),f.r.ex,?_⟩,f.sS,f.old,fun b h=>h.elim (f.new b) fun z=>.inr (hF b z),fun b h=>.inl (f.fm b h),f.fs,f.fsub,f.snew,fun j v e=>?_,fun j v e=>?_,f.fma⟩
 ·by_cases hj:j=i
  ·subst hj;rw[se]at e;cases e
  ·rw[ne j hj]at e
   rw[ne' j hj]
   exact f.r.dat j x e
 ·obtain⟨hj,e⟩:=own j ys e
  rw[ne' j hj]
  obtain⟨b,us,h1,h2,h3,h4⟩:=f.r.mt j ys e
  exact⟨b,us,h1,.inl h2,h3,h4⟩
 ·by_cases hj:j=i
  ·subst hj;rw[se]at e;cases e
  ·rw[ne j hj]at e
   rw[ne' j hj]
   exact f.r.cst j ys e
 ·obtain⟨h1,e1⟩:=own _ _ e1
  obtain⟨h2,e2⟩:=own _ _ e2
  rw[ne' j1 h1]at f1
  rw[ne' j2 h2]at f2
  exact f.r.inj _ _ _ _ b e1 e2 f1 f2
 ·obtain⟨φ,g⟩:=f.r.gr
  refine⟨fun j=>if j=i then X else φ j,fun j x e=>?_⟩
  by_cases hj:j=i
  ·subst hj
   rw[se]at e;cases e
   simp only[if_true]
   refine⟨⟨v,se',h⟩,hn,fun a ha=>.inr ha,fun j' o a z1 z2 ha=>?_,fun j' x' hj' z a ha=>?_⟩
   ·obtain⟨q1,q2⟩:=own j' o z1
    rw[ne' j' q1]at z2
    obtain⟨b,us,h1,h2,_⟩:=f.r.mt j' o q2
    rw[z2]at h1;cases h1
    exact hM a ha h2
   ·rw[if_neg hj']
    intro hq
    rw[ne j' hj']at z
    obtain⟨_,_,q4,_,_⟩:=g j' x' z
    exact hM a ha (q4 a hq)
  ·dsimp only
   simp only[if_neg hj]
   rw[ne j hj]at e
   obtain⟨⟨v',q1,q2⟩,q3,q4,q5,q6⟩:=g j x e
   refine⟨⟨v',by rw[ne' j hj];exact q1,q2⟩,q3,fun a ha=>.inl (q4 a ha),fun j' o a z1 z2=>?_,fun j' x' hj' z a ha=>?_⟩
   ·obtain⟨w1,w2⟩:=own j' o z1
    rw[ne' j' w1]at z2
    exact q5 j' o a w2 z2
   ·by_cases hj2:j'=i
    ·rw[if_pos hj2];exact fun hq=>hM a hq (q4 a ha)
    ·rw[if_neg hj2]
     rw[ne j' hj2]at z
     exact q6 j' x' hj' z a ha
 ·rw[ne' j (jn e)]
  exact f.par j v e
 ·rw[ne j (jn e)]
  exact f.pm j v e
variable {np:Nat}
variable {K:KW}
variable {K:KW}
variable {K:KW}
def ET(f:DX)(lo hi:DO)(τ:DS):Option (PyData×DS):=(f τ).bind fun p=>(lo p.2).bind fun l=>(hi l.2).bind fun u=>match p.1 with
 |.tuple xs=>if HT.sIx xs.length 0 l.1=0/\HT.sIx xs.length xs.length u.1=xs.length then none else some (.tuple (Lq xs l.1 u.1),u.2)
 |_=>none
theorem au{fr:Bool}{te:TE}{tl th:TO}{f:DX}{lo hi:DO}(h:E K te fr f)(hl:OO K tl lo)(hh:OO K th hi):E K (tSl (XG K) te tl th) false (ET f lo hi):=by
 refine⟨fun τ d t7 e=>?_,?_⟩
 ·unfold ET at e
  obtain⟨⟨x,t4⟩,e1,e⟩:=oB e
  obtain⟨⟨l,l7⟩,e2,e⟩:=oB e
  obtain⟨⟨u,p4⟩,e3,e⟩:=oB e
  dsimp only at e
  split at e
  ·split at e
   ·cases e
   ·cases e;exact((h.like _ _ _ e1).trans (hl.like _ _ _ e2)).trans (hh.like _ _ _ e3)
  ·cases e
 intro S M τ σ H Q d t7 r e q
 unfold ET at e
 obtain⟨⟨x,t4⟩,e1,e⟩:=oB e
 obtain⟨⟨l,l7⟩,e2,e⟩:=oB e
 obtain⟨⟨u,p4⟩,e3,e⟩:=oB e
 dsimp only at e e2 e3
 cases x with
 |tuple xs =>
  dsimp only at e
  split at e
  ·cases e
  ·rename_i hw
   cases e
   refine h.run S M τ σ H _ _ _ r e1 fun v1 H1 r1 c1 i1=>?_
   refine hl.run S M t4 σ H1 _ _ _ r1 e2 fun H2 r2 c2=>?_
   refine hh.run S M l7 σ H2 _ _ _ r2 e3 fun H3 r3 c3=>?_
   have i1':Is K (hid S H3) (.tuple xs) v1:=((r.isr i1).mono (c2.keep r1.sub).same).mono (c3.keep r2.sub).same
   obtain⟨a,vs,rfl,ha,la⟩:=i1'
   refine⟨a,vs,rfl,Same.tup same_hid ha,by rw[la.length];exact hw,fun p hp=>?_⟩
   have s:=Bc hp (HO.tup (Lp vs l u))
   exact q _ _ (r3.same s) (((c1.trans c2).trans c3).trans (.of s)) ⟨p,_,rfl,SqT.of (hid_iff.mpr ⟨r3.fresh hp,BB⟩),(Qf la).mono (Same.keep s).same⟩
 |_=>cases e
end DL
end
section
namespace DL
open PySem L2 PyProof.Rows
def Ja:List (Str×V)->Str->Option V
 |[],_=>none
 |t::r,k=>if t.1=k then some t.2 else Ja r k
def KR(ts:List (Str×V))(k:Str)(v:V):List (Str×V):=if ts.any (fun t=>decide (t.1=k))=true then ts.map (fun t=>if t.1=k then (t.1,v) else t) else ts++[(k,v)]
theorem Ky{k:Str}:∀{ts:List (Str×V)} {vs:List (Key×Value)},KV (txK ts) vs->(match Ja ts k with
  |some v=>∃u,valueAt vs (Sum.inr k)=some u/\RelV v u
  |none=>valueAt vs (Sum.inr k)=none)
 |[],vs,h=>by cases (show Paired _ [] vs from h);rfl
 |t::ts,vs,h=>by
  cases (show Paired _ ((Sum.inr t.1,t.2)::txK ts) vs from h) with
  |@cons _ q _ qs h1 h2 =>
   obtain⟨e1,e2⟩:=h1
   have ih:=Ky (k:=k) (ts:=ts) h2
   unfold Ja
   by_cases e:t.1=k
   ·rw[if_pos e]
    have e':q.1=Sum.inr k:=by rw[<- e1,e]
    exact⟨q.2,by simp[valueAt,List.find?_cons,e'],e2⟩
   ·rw[if_neg e]
    have e':¬q.1=Sum.inr k:=fun z=>e (by have:=e1.trans z;exact iM this)
    have:valueAt (q::qs) (Sum.inr k)=valueAt qs (Sum.inr k):=by simp[valueAt,List.find?_cons,e']
    rw[this];exact ih
theorem Va{k:Str}{ts:List (Str×V)}{vs:List (Key×Value)}(h:KV (txK ts) vs):(valueAt vs (Sum.inr k)).isSome=(Ja ts k).isSome:=by
 have g:=Ky (k:=k) h
 cases e:Ja ts k with
 |none=>rw[e]at g;rw[show valueAt vs (Sum.inr k)=none from g];rfl
 |some v=>rw[e]at g;obtain⟨u,hu,_⟩:=g;rw[hu];rfl
theorem b8{k:Str}:∀{ts:List (Str×V)} {vs:List (Key×Value)},KV (txK ts) vs->(vs.any fun kv=>decide (kv.1=Sum.inr k))=ts.any fun t=>decide (t.1=k)
 |[],vs,h=>by cases (show Paired _ [] vs from h);rfl
 |t::ts,vs,h=>by
  cases (show Paired _ ((Sum.inr t.1,t.2)::txK ts) vs from h) with
  |@cons _ q _ qs h1 h2 =>
   rw[gn,gn,b8 (k:=k) (ts:=ts) h2,<- h1.1]
   congr 1
   by_cases e:t.1=k
   ·rw[e];simp
   ·rw[decide_eq_false e,decide_eq_false (fun z=>e (iM z))]
theorem aP{k:Str}{v:V}{u:Value}(hv:RelV v u):∀{ts:List (Str×V)} {vs:List (Key×Value)},KV (txK ts) vs->KV (txK (ts.map fun t=>if t.1=k then (t.1,v) else t)) (vs.map fun kv=>if kv.1=Sum.inr k then (kv.1,u) else kv)
 |[],vs,h=>by cases (show Paired _ [] vs from h);exact .nil
 |t::ts,vs,h=>by
  cases (show Paired _ ((Sum.inr t.1,t.2)::txK ts) vs from h) with
  |@cons _ q _ qs h1 h2 =>
   refine .cons ?_ (aP hv (ts:=ts) h2)
   obtain⟨e1,e2⟩:=h1
   dsimp only at e1 e2 ⊢
   by_cases e:t.1=k
   ·rw[if_pos e,if_pos (by rw[<- e1,e])];exact⟨e1,hv⟩
   ·rw[if_neg e,if_neg (fun z=>e (iM (e1.trans z)))];exact⟨e1,e2⟩
theorem bz{k:Str}{v:V}{u:Value}(hv:RelV v u):∀{ts:List (Str×V)} {vs:List (Key×Value)},KV (txK ts) vs->KV (txK (ts++[(k,v)])) (vs++[(Sum.inr k,u)])
 |[],vs,h=>by cases (show Paired _ [] vs from h);exact .cons ⟨rfl,hv⟩ .nil
 |t::ts,vs,h=>by
  cases (show Paired _ ((Sum.inr t.1,t.2)::txK ts) vs from h) with
  |@cons _ q _ qs h1 h2=>exact .cons h1 (bz hv (ts:=ts) h2)
theorem Sf{k:Str}{v:V}{u:Value}{ts:List (Str×V)}{vs:List (Key×Value)}(hv:RelV v u)(h:KV (txK ts) vs):KV (txK (KR ts k v)) (stored vs (Sum.inr k) u):=by
 unfold KR stored
 rw[b8 h]
 split
 ·exact aP hv h
 ·exact bz hv h
theorem cc{ts:List (Str×V)}{vs:List (Key×Value)}(h:KV (txK ts) vs):ts.length=vs.length:=by
 have:=Paired.length h
 unfold txK at this
 rw[B']at this
 exact this
theorem Sg(ts:List (Str×V))(k:Str)(v:V):(KR ts k v).length<=ts.length+1:=by
 unfold KR
 split
 ·rw[B'];omega
 ·rw[L'];exact J' _
section
variable {X:Cx} {pins:List (Addr×Obj)} {σ:L2.St} {H:Hp} {s:Shared}
theorem UA(I:Inv X pins σ H s){a:Addr}{ts:List (Str×V)}(h:H a=some (.dK (txK ts))):ts.length<=sizeLine/\(a==sysModules)=false/\∃vs,KV (txK ts) vs/\s.heap.DictOf (Hl X.prog X.w) a vs:=by
 obtain⟨h1,h2,vs,h3,h4⟩:=(show ObjOk X.prog X.w H s.heap a (.dK (txK ts)) from I.hok a _ h)
 refine⟨?_,h2,vs,h3,h4⟩
 unfold txK at h1
 rw[B']at h1
 exact h1
end
theorem M8{P:Program}{w:World}{k:Str}{u:Value}(h:RelV (.str k) u):(Hl P w).is (Sum.inr k) u=true:=by
 obtain⟨t,rfl⟩:=h
 exact OD P w k t
def Zt:R2:=fun x y H Q=>∃a ts k v,x = .ref a/\y = .str k/\H a=some (.dK (txK ts))/\Ja ts k=some v/\Q v H
theorem cq{X:Cx}:IxR X Zt:=by
 intro value slice pins s σ H x y v u Q I rx ry h hs
 obtain⟨a,ts,k,z,rfl,rfl,hq,e,q⟩:=h
 cases rx
 obtain⟨h1,h2,vs,pr,dd⟩:=UA I hq
 have g:=Ky (k:=k) pr
 rw[e]at g
 obtain⟨p,hp,rp⟩:=g
 exact tail_any dd.mapOf.typeIs PySem.F.slot_dict_getitem.lookup (wpAny_getItem_of (M8 ry) dd.mapOf hp ⟨z,H,I.tok _,rp,q⟩) hs
def Zv(neg:Bool):R2:=fun y x H Q=>∃a ts k,x = .ref a/\y = .str k/\H a=some (.dK (txK ts))/\Q (.bl (neg != (Ja ts k).isSome)) H
theorem Xo{X:Cx}:OpR X (compareOp .In) (Zv false):=by
 intro pins s σ H x y v u Q I rx ry h
 obtain⟨a,ts,k,rfl,rfl,hq,q⟩:=h
 cases ry
 obtain⟨h1,h2,vs,pr,dd⟩:=UA I hq
 refine wpAny_in_of (M8 rx) h2 dd.mapOf ?_
 rw[Va pr]
 exact⟨.bl _,H,I.tok _,rfl,by simpa using q⟩
def We:V->V->V->Hp->(Hp->Prop)->Prop:=fun o i v H Q=>∃a ts k,o = .ref a/\i = .str k/\H a=some (.dK (txK ts))/\ts.length<sizeLine/\Q (upd H a (.dK (txK (KR ts k v))))
theorem Zs{X:Cx}:ZS X We:=by
 intro pins s σ H o i v ov iv u Q I ro ri rv h
 obtain⟨a,ts,k,rfl,rfl,hq,hl,q⟩:=h
 cases ro
 obtain⟨h1,h2,vs,pr,dd⟩:=UA I hq
 have hz:vs.length<=sizeLine:=by rw[<- cc pr];exact h1
 refine wpAny_setItem_pairs (hsz:=hz) (M8 ri) dd fun h' dd' hs=>⟨_,?_,q⟩
 have he:∃q,h'.get? a=some q:=let ⟨q,_,_,hq,_⟩:=dd';⟨q,hq⟩
 refine I.write (x:=a) (e:=a) (by rw[hq];exact True.intro) (.inl rfl) (fun c z hc e=>(hs.2 c hc).trans e) he ?_
 have hl2:=Sg ts k v
 exact⟨by unfold txK;rw[B'];omega,h2,_,Sf rv pr,dd'⟩
def WX:TE:=fun _ H Q=>∀p,H p=none->Q (.ref p) (upd H p (.dK (txK [])))
theorem VA{X:Cx}{pos:Pos}:PE X (.Dict [] [] pos) WX:=fun pins s σ H Q I h=>by
 have hb:sysModules<s.heap.objs.size:=g8 (by decide) (show mainGlobals<s.heap.objs.size from(I.mod.glob.keeps I.bk).lt)
 refine wpAny_Dict_empty ⟨.ref s.heap.objs.size,_,I.laid (a:=s.heap.objs.size) (o:=.dK (txK [])) (t':=s.toks) (fun _ _ q=>K' _ q) (J' _) ?_,rfl,h _ (I.hok.fresh (J' _))⟩
 exact⟨eA _,beq_eq_false_iff_ne.mpr (Ne.symm (dm hb)),[],.nil,Heap.DictOf.new s.heap⟩
end DL
end
section
namespace DL
open PySem L2
variable {K:KW}
theorem LL{S M:Addr->Prop}{τ:DS}{σ:St}{H:Hp}(r:R K S M τ σ H){i:Nat}{d:PyData}(hi:τ[i]?=some (some (.g d))) :
  ∃v F,σ[i]?=some (some v)/\DpT K S H d v F/\(∀a∈F,M a)/\∀(H':Hp) (d':PyData),Chg (fun b=>b∈F) H H'->(∀a∈F,∃o,H' a=some o)->DpT K S H' d' v F->R K S M (τ.set i (some (.g d'))) σ H':=by
 obtain⟨φ,g⟩:=r.gr
 obtain⟨⟨v,g1,g2⟩,g3,g4,g5,g6⟩:=g i d hi
 refine⟨v,φ i,g1,g2,g4,fun H' d' c ho hd=>?_⟩
 have hlt:i<τ.length:=(R'.mp hi).1
 have ne:∀j,j≠i->(τ.set i (some (.g d')))[j]?=τ[j]?:=fun j hj=>dZ (Ne.symm hj)
 have se:(τ.set i (some (.g d')))[i]?=some (some (.g d')):=dX hlt
 have k:Keep S H S H':=c.keep fun b hb=>r.sub b (g4 b hb)
 have own:∀(j:Nat) (ys:Ow),(τ.set i (some (.g d')))[j]?=some (some ys.L)->j≠i/\τ[j]?=some (some ys.L):=fun j ys e=>by
  by_cases hj:j=i
  ·subst hj;rw[se]at e;exact absurd (E' (E' e)).symm Ow.not_g
  ·rw[ne j hj]at e;exact⟨hj,e⟩
 refine⟨by rw[eK];exact r.len,fun j x e=>?_,fun j ys e=>?_,fun j ys e=>?_,fun j1 j2 ys zs b e1 e2 f1 f2=>r.inj _ _ _ _ b (own _ _ e1).2 (own _ _ e2).2 f1 f2,r.sub,fun a h=>?_,?_⟩
 ·by_cases hj:j=i
  ·subst hj;rw[se]at e;cases e
  ·rw[ne j hj]at e
   obtain⟨u,h1,h2⟩:=r.dat j x e
   exact⟨u,h1,h2.mono k.same⟩
 ·obtain⟨hj,e⟩:=own j ys e
  obtain⟨b,us,h1,h2,h3,h4⟩:=r.mt j ys e
  exact⟨b,us,h1,h2,c b _ (g5 j ys b e h1) h3,h4.mono k.same⟩
 ·by_cases hj:j=i
  ·subst hj;rw[se]at e;cases e
  ·rw[ne j hj]at e
   obtain⟨b,us,h1,h2,h3⟩:=r.cst j ys e
   exact⟨b,us,h1,k.same.seq h2,h3.mono k.same⟩
 ·by_cases hb:a∈φ i
  ·exact ho a hb
  ·obtain⟨o,e⟩:=r.ex a h
   exact⟨o,c a o hb e⟩
 ·refine⟨φ,fun j x e=>?_⟩
  by_cases hj:j=i
  ·subst hj
   rw[se]at e;cases e
   refine⟨⟨v,g1,hd⟩,g3,g4,fun j' o a z1 z2=>g5 j' o a (own j' o z1).2 z2,fun j' x' hj' z=>?_⟩
   rw[ne j' hj']at z
   exact g6 j' x' hj' z
  ·rw[ne j hj]at e
   obtain⟨⟨v',q1,q2⟩,q3,q4,q5,q6⟩:=g j x e
   have on:∀a∈φ j,H' a=H a:=fun a ha=>by
    obtain⟨o,e'⟩:=r.ex a (r.sub a (q4 a ha))
    rw[e'];exact c a o (fun z=>q6 i d (Ne.symm hj) hi a ha z) e'
   refine⟨⟨v',q1,q2.mono (tsS k.same) on⟩,q3,q4,fun j' o a z1 z2=>q5 j' o a (own j' o z1).2 z2,fun j' x' hj' z=>?_⟩
   by_cases hj2:j'=i
   ·subst hj2;exact q6 j' d hj' hi
   ·rw[ne j' hj2]at z;exact q6 j' x' hj' z
def Oa(np i:Nat)(τ:DS):Option Out:=if np<=i/\i<τ.length then some (.nx (τ.set i (some (.g (.dict []))))) else none
theorem ZL{np:Nat}{fr:Bool}{i:Nat}:B K np (MT WX (JN i)) fr (Oa np i):=by
 intro F S M τ σ H D out hnp f ee q
 unfold Oa at ee
 split at ee
 ·rename_i hi
  cases ee
  intro a ha
  have s:=Bc ha (HO.dK (txK []))
  have f1:=f.hide s ha ⟨_,BB⟩
  have hM:¬M a:=fun z=>f.r.fresh ha (f.r.sub a z)
  refine q _ _ _ _ (f1.newG (X:=[a]) hi.2 (eE hnp hi.1) (fun b hb=>.inr (dq.mp hb)) (fun b hb=>by rw[dq.mp hb];exact hM) (fun b hb=>by rw[dq.mp hb];exact f.hnone ha) (by simp) ⟨a,[],rfl,rfl,BB,rfl⟩) fun b o hn e=>⟨fun z=>z.elim hn (Aw e ha),s b o e⟩
 ·cases ee
def Gn:List (PyData×PyData)->Str->Option PyData
 |[],_=>none
 |(.str x,d)::r,k=>if x=k then some d else Gn r k
 |_::r,k=>Gn r k
theorem NC{H:Hp}{k:Str}:∀{kvs:List (PyData×PyData)} {ts:List (Str×V)},IsX K H kvs ts->(match Gn kvs k with
  |some d=>∃v,Ja ts k=some v/\Is K H d v/\Cz d=true
  |none=>Ja ts k=none)
 |[],_,h=>by rw[show _=[] from h];rfl
 |(_,d)::r,_,⟨t,tr,e,ek,f,h,l⟩=>by
  subst e ek
  have ih:=NC (k:=k) l
  unfold Gn Ja
  by_cases e:t.1=k
  ·rw[if_pos e,if_pos e];exact⟨t.2,rfl,h,f⟩
  ·rw[if_neg e,if_neg e];exact ih
def Ln(i:Nat)(f:DX)(τ:DS):Option (PyData×DS):=match τ[i]? with
 |some (some (.g (.dict _)))=>(f τ).bind fun p=>match p.1,p.2[i]? with
  |.str k,some (some (.g (.dict kvs)))=>(Gn kvs k).map fun d=>(d,p.2)
  |_,_=>none
 |_=>none
theorem ax{i:Nat}{fr:Bool}{tb:TE}{f:DX}(h:E K tb fr f):E K (tOp Zt (ID i) tb) false (Ln i f):=by
 refine⟨fun τ d t7 e=>?_,?_⟩
 ·unfold Ln at e
  split at e
  ·obtain⟨⟨x,t4⟩,e1,e⟩:=oB e
   dsimp only at e
   split at e
   ·obtain⟨z,e3,e⟩:=oM e
    cases e;exact h.like _ _ _ e1
   ·cases e
  ·cases e
 intro S M τ σ H Q d t7 r e q
 unfold Ln at e
 split at e
 ·rename_i kv0 h0
  obtain⟨⟨x,t4⟩,e1,e⟩:=oB e
  dsimp only at e
  split at e
  ·rename_i k kvs hk
   obtain⟨z,e3,e⟩:=oM e
   cases e
   obtain⟨v0,F0,hv0,_⟩:=LL r h0
   refine⟨v0,hv0,h.weak.run S M τ σ H _ _ _ r e1 fun u H1 r1 c1 i1=>?_⟩
   obtain⟨v1,F1,hv1,⟨a,ts,ea,_,hH,l⟩,_⟩:=LL r1 hk
   rw[hv0]at hv1;cases hv1
   subst ea
   have g:=NC (k:=k) l
   rw[e3]at g
   obtain⟨v,gv,iv,_⟩:=g
   exact⟨a,ts,k,v,rfl,i1,hH,gv,q v H1 r1 c1 iv⟩
  ·cases e
 ·cases e
def Lo(neg:Bool)(f:DX)(i:Nat)(τ:DS):Option (PyData×DS):=(f τ).bind fun p=>match p.1,p.2[i]? with
 |.str k,some (some (.g (.dict kvs)))=>some (.bool (neg != (Gn kvs k).isSome),p.2)
 |_,_=>none
theorem az{neg:Bool}{i:Nat}{fr:Bool}{ta:TE}{f:DX}(h:E K ta fr f):E K (tOp (Zv neg) ta (ID i)) false (Lo neg f i):=by
 refine⟨fun τ d t7 e=>?_,?_⟩
 ·unfold Lo at e
  obtain⟨⟨x,t4⟩,e1,e⟩:=oB e
  dsimp only at e
  split at e
  ·cases e;exact h.like _ _ _ e1
  ·cases e
 intro S M τ σ H Q d t7 r e q
 unfold Lo at e
 obtain⟨⟨x,t4⟩,e1,e⟩:=oB e
 dsimp only at e
 split at e
 ·rename_i k kvs hk
  cases e
  refine h.weak.run S M τ σ H _ _ _ r e1 fun u H1 r1 c1 i1=>?_
  obtain⟨v1,F1,hv1,⟨a,ts,ea,_,hH,l⟩,_⟩:=LL r1 hk
  subst ea
  have g:=NC (k:=k) l
  have eq:(Ja ts k).isSome=(Gn kvs k).isSome:=by
   cases z:Gn kvs k with
   |none=>rw[z]at g;rw[show Ja ts k=none from g];rfl
   |some y=>rw[z]at g;obtain⟨v,gv,_⟩:=g;rw[gv];rfl
  refine⟨.ref a,hv1,a,ts,k,rfl,i1,hH,?_⟩
  rw[eq]
  exact q _ H1 r1 c1 rfl
 ·cases e
def O9(kvs:List (PyData×PyData))(k:Str)(d:PyData):List (PyData×PyData):=if (Gn kvs k).isSome=true then kvs.map (fun p=>match p with
  |(.str x,y)=>if x=k then (.str x,d) else (.str x,y)
  |p=>p) else kvs++[(.str k,d)]
theorem b9{H:Hp}{k:Str}:∀{kvs:List (PyData×PyData)} {ts:List (Str×V)},IsX K H kvs ts->(ts.any fun t=>decide (t.1=k))=(Gn kvs k).isSome
 |[],_,h=>by rw[show _=[] from h];rfl
 |(_,d)::r,_,⟨t,tr,e,ek,f,h,l⟩=>by
  subst e ek
  unfold Gn
  rw[gn,b9 (k:=k) l]
  by_cases e:t.1=k
  ·rw[if_pos e,decide_eq_true e];rfl
  ·rw[if_neg e,decide_eq_false e,Bool.false_or]
theorem aQ{H:Hp}{k:Str}{d:PyData}{v:V}(fd:Cz d=true)(hv:Is K H d v):∀{kvs:List (PyData×PyData)} {ts:List (Str×V)},IsX K H kvs ts->IsX K H (kvs.map fun p=>match p with
  |(.str x,y)=>if x=k then (.str x,d) else (.str x,y)
  |p=>p) (ts.map fun t=>if t.1=k then (t.1,v) else t)
 |[],_,h=>by rw[show _=[] from h];rfl
 |(_,y)::r,_,⟨t,tr,e,ek,f,h,l⟩=>by
  subst e ek
  have ih:=aQ (k:=k) fd hv l
  rw[U',U']
  dsimp only
  by_cases e:t.1=k
  ·rw[if_pos e,if_pos e];exact⟨_,_,rfl,rfl,fd,hv,ih⟩
  ·rw[if_neg e,if_neg e];exact⟨_,_,rfl,rfl,f,h,ih⟩
theorem b7{H:Hp}{k:Str}{d:PyData}{v:V}(fd:Cz d=true)(hv:Is K H d v):∀{kvs:List (PyData×PyData)} {ts:List (Str×V)},IsX K H kvs ts->IsX K H (kvs++[(.str k,d)]) (ts++[(k,v)])
 |[],_,h=>by rw[show _=[] from h];exact⟨_,_,rfl,rfl,fd,hv,rfl⟩
 |(_,y)::r,_,⟨t,tr,e,ek,f,h,l⟩=>by
  subst e ek
  exact⟨_,_,rfl,rfl,f,h,b7 fd hv l⟩
theorem Uy{H:Hp}{k:Str}{d:PyData}{v:V}{kvs:List (PyData×PyData)}{ts:List (Str×V)}(fd:Cz d=true)(hv:Is K H d v)(h:IsX K H kvs ts):IsX K H (O9 kvs k d) (KR ts k v):=by
 unfold O9 KR
 rw[b9 h]
 split
 ·exact aQ fd hv h
 ·exact b7 fd hv h
theorem QX{H:Hp}:∀{kvs:List (PyData×PyData)} {ts:List (Str×V)},IsX K H kvs ts->ts.length=kvs.length
 |[],_,h=>by rw[show _=[] from h];rfl
 |(_,_)::_,_,⟨t,tr,e,_,_,_,l⟩=>by subst e;rw[X',X',QX l]
def Hx(i:Nat)(e k:DX)(τ:DS):Option Out:=(e τ).bind fun p=>match p.2[i]? with
 |some (some (.g (.dict _)))=>(k p.2).bind fun q=>match q.1,q.2[i]? with
  |.str x,some (some (.g (.dict kvs)))=>if Cz p.1=true/\kvs.length<sizeLine then some (.nx (q.2.set i (some (.g (.dict (O9 kvs x p.1)))))) else none
  |_,_=>none
 |_=>none
theorem ZK{np:Nat}{fr f1 f2:Bool}{i:Nat}{te tk:TE}{e k:DX}(he:E K te f1 e)(hk:E K tk f2 k):B K np (MT te (YD (ID i) tk We)) fr (Hx i e k):=by
 intro F S M τ σ H D out hnp f ee q
 unfold Hx at ee
 obtain⟨⟨x,t4⟩,e1,ee⟩:=oB ee
 dsimp only at ee
 split at ee
 ·rename_i kv0 h0
  obtain⟨⟨y,l7⟩,e2,ee⟩:=oB ee
  dsimp only at ee
  split at ee
  ·rename_i z kvs h2
   split at ee
   ·rename_i hc
    cases ee
    refine he.weak.run S M τ σ H _ x t4 f.r e1 fun v H1 r1 c1 i1=>?_
    obtain⟨v0,F0,hv0,_⟩:=LL r1 h0
    refine⟨v0,hv0,hk.weak.run S M t4 σ H1 _ _ l7 r1 e2 fun u H2 r2 c2 i2=>?_⟩
    obtain⟨v1,F1,hv1,⟨a,ts,ea,eF,hH,l⟩,hM,go⟩:=LL r2 h2
    rw[hv0]at hv1;cases hv1
    subst ea eF
    have Sa:S a:=r2.sub a (hM a (fu a))
    refine⟨a,ts,z,rfl,i2,hH,by rw[QX l];exact hc.2,?_⟩
    have iv:Is K (hid S H2) x v:=Is.mono (c2.keep r1.sub).same i1
    have c3:Chg (fun b=>b∈[a]) H2 (upd H2 a (.dK (txK (KR ts z v)))):=fun b o hn e=>by rw[BL (fun w=>hn (by rw[w];exact fu a))];exact e
    have r3:=go (upd H2 a (.dK (txK (KR ts z v)))) (.dict (O9 kvs z x)) c3 (fun b hb=>by rw[dq.mp hb];exact⟨_,BB⟩) ⟨a,KR ts z v,rfl,rfl,BB,by rw[NA Sa];exact Uy hc.1 iv l⟩
    have c4:Chg M H (upd H2 a (.dK (txK (KR ts z v)))):=(c1.trans c2).trans fun b o hn e=>c3 b o (fun w=>hn (by rw[dq.mp w];exact hM a (fu a))) e
    have lk:=(he.like _ _ _ e1).trans (hk.like _ _ _ e2)
    refine q S M σ _ ⟨r3,f.sS,fun b o e n=>c4 b o (fun w=>(f.new b w).elim n fun y=>by rw[y]at e;cases e) (f.old b o e n),f.new,f.fm,f.fs,f.fsub,f.snew,f.par,fun j v' e=>?_,f.fma⟩ (c4.keep f.r.sub)
    obtain⟨o,ho'⟩:=f.pm j v' e
    obtain⟨o2,h2'⟩:=(lk.own j).mpr ⟨o,ho'⟩
    have hj:j≠i:=fun w=>by subst w;rw[h2]at h2';exact Ow.not_g (E' (E' h2')).symm
    exact⟨o2,by rw[dZ (Ne.symm hj)];exact h2'⟩
   ·cases ee
  ·cases ee
 ·cases ee
end DL
namespace L2
open PySem
theorem RG{X:Cx}{k:Nat}{ps:List Str}{sp:Sp}{x:Str}{p pos:Pos}(C:Cal X.prog X.w X.K X.mg X.base k x ps sp)(hr:Room k X.A)(hg:Gl X x)(hdb:(x==("__debug__":Str))=false:=by decide):PE X (.Call (.Name x p) [] [] pos) (Ii sp [] E0 LO):=by
 obtain⟨f,fd,F,b,kp,m⟩:=C.ex
 exact Sz F hr hg m kp b .nil Wh hdb
end L2
end
section
namespace DL
open PySem L2
variable {K:KW}
variable {K:KW} {np:Nat}
variable {K:KW}
end DL
end
section
namespace DL
open PySem L2 PyProof.Rows
variable {K:KW}
end DL
end
section
namespace L2
open PySem PySem.Spec PyProof.Rows
section
variable {X:Cx} {a b:Expr} {p pos:Pos} {e:Expr} {es:List Expr} {te:TE} {t:TA}
end
end L2
namespace DL
open PySem L2 PyProof.Rows
variable {K:KW}
abbrev Mir:=List L->Option (PyData×List L)
inductive TMs (T:Addr->Mir->Prop):List (Str×Addr)->List (Str×Mir)->Prop
 |nil:TMs T [] []
 |cons {k:Str} {f:Addr} {G:Mir} {tb:List (Str×Addr)} {tm:List (Str×Mir)} (h:T f G) (r:TMs T tb tm):TMs T ((k,f)::tb) ((k,G)::tm)
end DL
end
section
namespace DL
open PySem L2
variable {K:KW} {np:Nat}
variable {K:KW} {np:Nat}
variable {K:KW} {np:Nat}
def gtP:List Nat->PyData->Option PyData
 |[],d=>some d
 |k::π,.list ds=>(ds[k]?).bind (gtP π)
 |k::π,.tuple ds=>(ds[k]?).bind (gtP π)
 |_::_,_=>none
def stP(x:PyData):List Nat->PyData->PyData
 |[],_=>x
 |k::π,.list ds=>.list (ds.set k (stP x π (ds.getD k .none)))
 |k::π,.tuple ds=>.tuple (ds.set k (stP x π (ds.getD k .none)))
 |_::_,d=>d
theorem ND{α:Type}{xs:List α}{k:Nat}{c z:α}(h:xs[k]?=some c):xs.getD k z=c:=by
 rw[eY,h];rfl
def cH(K:KW)(S:Addr->Prop)(H:Hp)(F:List Addr)(d:PyData)(v:V)(π:List Nat)(d':PyData)(u:V):Prop:=∃Fy,Dp K S H d' u Fy/\(∀a∈Fy,a∈F)/\Fy.Nodup/\((π=[]->u=v/\d'=d)/\(π≠[]->∀ds,d = .list ds->∀a,v = .ref a->a∉Fy)) /\
 ∀(H':Hp) (x:PyData) (Fx:List Addr),TSm (hid S H) (hid S H')->(∀a∈F,a∉Fy->H' a=H a)->Dp K S H' x u Fx->(∀a∈Fx,a∈Fy)->Fx.Nodup->∃F3,(∀a∈F3,a∈F)/\F3.Nodup/\Dp K S H' (stP x π d) v F3
abbrev DP:=PyData->DS->Option (List Nat×PyData×DS)
structure PT(K:KW)(r:Nat)(t:TE)(g:DP):Prop where
 like:∀d τ π d' t7,g d τ=some (π,d',t7)->Like τ t7
 gp:∀d τ π d' t7,g d τ=some (π,d',t7)->∀π0 dr,gtP π0 dr=some d->gtP (π0++π) dr=some d'
 run:∀(S M:Addr->Prop) τ σ H (Q:VK) dr v F π0 d0 u0 π d' t7,R K (fun b=>S b/\b∉F) (fun b=>M b/\b∉F) τ σ H->σ[r]?=some (some u0)->(∀a∈F,∃vs,H a=some (.lst vs))->(∀a,M a->S a)->gtP π0 dr=some d0->cH K S H F dr v π0 d0 u0->g d0 τ=some (π,d',t7) ->
  (∀u H',R K (fun b=>S b/\b∉F) (fun b=>M b/\b∉F) t7 σ H'->Chg (fun b=>M b/\b∉F) H H'->cH K S H' F dr v (π0++π) d' u->Q u H')->t σ H Q
variable {K:KW} {np:Nat}
end DL
end
section
namespace L2
open PySem DL
end L2
namespace DL
open PySem L2
variable {K:KW}
end DL
end
section
namespace Duh
open PySem
section
variable {K:Type} [DecidableEq K]
end
section
variable {prog:Program} {w:World} {K:Type} [DecidableEq K] {knd:HeapKind prog w K} {A:Around} {E:Value->Shared->Prop} {s:Shared}
end
end Duh
end
section
namespace DL
open PySem L2 PyProof.Rows
variable {K:KW}
instance (l:List Int):Decidable l.Nodup:=inferInstance
end DL
end
section
namespace DL
open PySem L2
variable {K:KW} {np:Nat}
theorem VR{n i:Nat}{x:L}:(List.replicate n (none:Option L))[i]?≠some (some x):=by
 intro e
 rw[eX]at e
 split at e<;>cases e
variable {K:KW} {np:Nat}
theorem cC{S:Addr->Prop}{τ:DS}{σ:St}{H:Hp}(hl:σ.length=τ.length)(hd:∀(i:Nat) (l:L),τ[i]?=some (some l)->∃x v,l = .d x/\σ[i]?=some (some v)/\Is K (hid S H) x v)(hs:∀a,S a->∃o,H a=some o):R K S (fun _=>False) τ σ H:=by
 have own:∀(i:Nat) (o:Ow),τ[i]?≠some (some o.L):=fun i o e=>by
  obtain⟨x,v,z,_⟩:=hd i _ e
  exact Ow.not_d z
 refine⟨hl,fun i z e=>?_,fun i o e=>absurd e (own i o),fun i z e=>?_,fun i j o p a e=>absurd e (own i o),fun _ h=>h.elim,hs,GR.nil fun i z e=>?_⟩
 ·obtain⟨x,v,y,h1,h2⟩:=hd i _ e
  cases y;exact⟨v,h1,h2⟩
 ·obtain⟨x,v,y,_⟩:=hd i _ e
  cases y
 ·obtain⟨x,v,y,_⟩:=hd i _ e
  cases y
theorem Ue{S:Addr->Prop}{H:Hp}{x y:PyData}{v0 v1:V}{tl:List (Option V)}(h0:Is K (hid S H) x v0)(h1:Is K (hid S H) y v1)(hs:∀a,S a->∃o,H a=some o){n:Nat}(hl:tl.length=n):R K S (fun _=>False) (some (.d x)::some (.d y)::List.replicate n none) (some v0::some v1::tl) H :=
 cC (by simp [hl]) (fun i l e => by
  match i,e with
  |0,e=>cases e;exact⟨x,v0,rfl,rfl,h0⟩
  |1,e=>cases e;exact⟨y,v1,rfl,rfl,h1⟩
  |k+2,e=>exact absurd e VR) hs
end DL
end
section
namespace L2
open PySem PySem.Spec PyProof.Rows
def CRg(lo hi st:Int):Prop:=-1000000<=lo/\lo<=1000000/\-1000000<=hi/\hi<=1000000/\0<st/\st<=1000000
end L2
namespace DL
open PySem L2 PyProof.Rows
variable {K:KW}
instance {i j k:Int}:Decidable (CRg i j k):=by unfold CRg;infer_instance
abbrev TP:=L2.St->Hp->(List (Str×V)->Hp->Prop)->Prop
variable {K:KW}
end DL
end
section
namespace L2
open PySem PySem.Spec PyProof.Rows
end L2
namespace DL
open PySem L2 PyProof.Rows
variable {K:KW}
end DL
namespace DL
open PySem L2 PyProof.Rows
end DL
end
section
namespace L2
open PySem PySem.Spec PyProof.Rows
section
variable {prog:Program} {w:World} {A:Around} {E:Value->Shared->Prop} {s:Shared}
end
section
variable {X:Cx} {N':List Str} {own:Nat} {fr:List Nat} {scope:Scope} {elt tg iter:Expr} {ifs:List Expr} {pos:Pos}
end
section
variable {X:Cx} {k i j:Nat} {f ea C D':Addr} {oe:Obj} {fd:FuncData} {ps:List Str} {x cn n y:Str} {p pos p1 np hp p2 py:Pos} {e:Expr} {es:List Expr} {t:TA} {b₀:Stmt} {suite:List Stmt}
end
section
variable {X:Cx} {ea C c1:Addr} {oe:Obj} {b:Bool}
end
end L2
end
section
namespace DL
open PySem L2
variable {K:KW} {np:Nat}
abbrev cE:=Out ⊕ Nat
abbrev DBX:=DS->Option cE
def GlX(K:KW)(Ex:Nat->Hp->Prop)(F:Frm)(fr:Bool)(S:Addr->Prop)(H:Hp)(D:Ly):cE->Prop
 |.inl o=>Gl K F fr S H D o
 |.inr n=>∀H',Same F.H H'->Ex n H'
def BX(K:KW)(np:Nat)(Ex:Nat->Hp->Prop)(t:TS)(fr:Bool)(f:DBX):Prop:=∀(F:Frm) S M τ σ H (D:Ly) out,F.ar.length<=np->(∀a,¬F.M a)->RF K F S M τ σ H->f τ=some out->GlX K Ex F fr S H D out->t D σ H
variable {Ex:Nat->Hp->Prop} {fr:Bool}
end DL
namespace L2
open PySem PySem.Spec PyProof.Rows PySem.W DL
end L2
namespace DL
open PySem L2
section
variable {K:KW} {ea c1 c2:Addr} {oe:Obj} {s1 s2:Str} {b1 b2:Bool} {σ:St} {H:Hp} {Q:VK}
end
end DL
end
section
namespace L2
open PySem PySem.Spec PyProof.Rows
def DF(K:PySem.W.Frag)(x:Str)(st:Stmt)(f:Addr)(fd:FuncData):Prop:=PySem.W.nsIn K mainGlobals x=some (some (.ref f))/\Fun K x x st f fd
section
variable {K:PySem.W.Frag} {x:Str} {st:Stmt} {f:Addr} {fd:FuncData} {h:Heap} {mg:Str->Option Value}
theorem DF.mk{oc:Value}{od an:Option Addr}{osl:Array (Option Value)}{kV doc pm cdv ct:Value}(a:PySem.W.nsIn K mainGlobals x=some (some (.ref f)))(l:K.lookup f=some ⟨oc,od,.func (PySem.W.fnOf x x (DD st) (CZ st) (BW st) .none kV doc pm an cdv ct),osl⟩)(c:PySem.W.codeIn K cdv x=true)(k:PySem.W.keepIn K (.ref f)=true):DF K x st f (PySem.W.fnOf x x (DD st) (CZ st) (BW st) .none kV doc pm an cdv ct):=⟨a,YE l c k⟩
theorem DF.m(d:DF K x st f fd)(X:K.In h)(G:h.Ns mainGlobals mg):mg x=some (.ref f):=gq X G d.1
theorem DF.b{ps:List Str}(d:DF K x st f fd)(h:∀(kV doc pm:Value) (an:Option Addr) (cdv ct:Value) (us:List Value),us.length=ps.length->bindArgs (PySem.W.fnOf x x (DD st) (CZ st) (BW st) .none kV doc pm an cdv ct) ⟨us,[]⟩=pure (ps.zip us)):Binds K fd ps []:=d.2.binds h
theorem DF.cal{P:Program}{w:World}{base:Heap}{k:Nat}{ps:List Str}{sp:Sp}(d:DF K x st f fd)(X:K.In h)(G:h.Ns mainGlobals mg)(o:FnOk P w K mg base CX0 k f fd ps sp)(b:∀(kV doc pm:Value) (an:Option Addr) (cdv ct:Value) (us:List Value),us.length=ps.length->bindArgs (PySem.W.fnOf x x (DD st) (CZ st) (BW st) .none kV doc pm an cdv ct) ⟨us,[]⟩=pure (ps.zip us)):Cal P w K mg base k x ps sp:=Cal.of d.2 o (d.b b) (d.m X G)
end
instance {sc:Scope} {x:Str}:Decidable (Loc sc x):=by unfold Loc;infer_instance
theorem viL{sc:Scope}{x:Str}(h:Loc sc x):Vis sc x:=h.elim Or.inl fun h=>Or.inr (Or.inl h)
end L2
end
section
namespace DL
open PySem L2
structure Ct where
 P:Program
 K:KW
 mg:Str->Option Value
 base:Heap
 k:Nat
 own:Nat
 d:Bool
 N:List Str
 sc:Scope
structure At(Γ:Ct)(X:Cx):Prop where
 p:X.prog=Γ.P
 kw:JY X=Γ.K
 m:X.mg=Γ.mg
 bs:X.base=Γ.base
 n:X.N=Γ.N
 nd:X.N.Nodup
 rm:Room Γ.k X.A
 ca:X.calm=true
 po:PassesOwn (model X.prog X.w) X.A X.env X.xe
 v:∀x∈X.N,Vis X.env.scope x
 l:∀(i:Nat) (x:Str),i<Γ.own->X.N[i]?=some x->Loc X.env.scope x/\(X.fn x=true\/X.env.scope.names.lookup x=some .local)
 ll:∀x:Str,Γ.sc.names.lookup x=some .local->X.env.scope.names.lookup x=some .local
 g:∀x,Γ.sc.names.lookup x=some .globalImplicit->L2.Gl X x
 bk:Γ.d=true->X.env.blockKind = .function
 c:∀x:Str,Γ.sc.names.lookup x=some .cell\/Γ.sc.names.lookup x=some .free->X.env.scope.names.lookup x=some .cell\/X.env.scope.names.lookup x=some .free
section
variable {Γ:Ct} {X:Cx}
theorem At.w(c:At Γ X){p:KW->Prop}(h:p (JY X)):p Γ.K:=c.kw▸h
theorem At.u(c:At Γ X):X.A.units+64<cLine:=c.rm.units
theorem At.u5(c:At Γ X):X.A.units+65<cLine:=by have:=c.rm.un;omega
end
def CE(Γ:Ct)(e:Expr)(fr:Bool)(f:DX):Prop:=∃t,(∀X,At Γ X->PE X e t)/\E Γ.K t fr f
def CT(Γ:Ct)(e:Expr)(f:DT):Prop:=∃t,(∀X,At Γ X->L2.PT X e t)/\T Γ.K t f
def CW(Γ:Ct)(e:Expr)(f:DT):Prop:=∃t,(∀X,At Γ X->PW X e t)/\T Γ.K t f
def CA(Γ:Ct)(es:List Expr)(f:DA):Prop:=∃t,(∀X,At Γ X->PA X es t)/\A Γ.K t f
def CP(Γ:Ct)(e:Option Expr)(f:DO):Prop:=∃t,(∀X,At Γ X->PO X e t)/\OO Γ.K t f
def CI(Γ:Ct)(tg e:Expr)(f:DI):Prop:=∃t,(∀X,At Γ X->PI X tg e t)/\IT Γ.K t f
def CG(Γ:Ct)(e:Expr)(f:DG):Prop:=∃t,(∀X,At Γ X->PG X e t)/\TG1 Γ.K t f
def CGs(Γ:Ct)(es:List Expr)(f:List PyData->DS->Option DS):Prop:=∃t,(∀X,At Γ X->PGs X es t)/\TG2 Γ.K t f/\∀ds τ t7,f ds τ=some t7->ds.length=es.length
def CTs(Γ:Ct)(es:List Expr)(f:DT):Prop:=∃t,(∀X,At Γ X->PTs X es t)/\T Γ.K t f
def CS(Γ:Ct)(np:Nat)(s:Stmt)(fr:Bool)(f:DB):Prop:=∃t,(∀X,At Γ X->PS X s t)/\B Γ.K np t fr f
def CSs(Γ:Ct)(np:Nat)(s:List Stmt)(fr:Bool)(f:DB):Prop:=∃t,(∀X,At Γ X->PSs X s t)/\B Γ.K np t fr f
def CO(Γ:Ct)(op:Value->Value->Sem Value)(fr:Bool)(F:PyData->PyData->Option PyData):Prop:=∃r fr',(∀X,At Γ X->OpR X op r)/\OR Γ.K fr' r F/\(fr=true->fr'=true)
def CIx(Γ:Ct)(F:PyData->PyData->Option PyData):Prop:=∃r,(∀X,At Γ X->IxR X r)/\OR Γ.K false r F
abbrev isB(v:Value):Prop:=(∃i,v = .builtin i)\/∃i,v = .type i
def CBt(Γ:Ct)(x:Str)(fr:Bool)(F:List PyData->Option PyData):Prop:=∃v r fr',isB v/\bootBuiltins x=some v/\(∀X,At Γ X->DM X v r)/\BR Γ.K fr' r F/\(fr=true->fr'=true)
def CM(Γ:Ct)(x:Str)(G:List PyData->List PyData->Option (PyData×List PyData)):Prop:=∃id r,Slot "list" x id/\typeOf (.builtin id)=pure (.type "method_descriptor")/\(∀X,At Γ X->MtR X id r)/\MR Γ.K r G
theorem E.to{K:KW}{t:TE}{f:DX}{fr fr':Bool}(h:E K t fr' f)(z:fr=true->fr'=true):E K t fr f:=by
 cases fr with
 |false=>exact h.weak
 |true=>rw[z rfl]at h;exact h
theorem E.an{K:KW}{t:TE}{f:DX}{fr:Bool}(h:E K t true f):E K t fr f:=h.to fun _=>rfl
theorem OR.wk{K:KW}{r:R2}{F:PyData->PyData->Option PyData}{fr:Bool}(h:OR K fr r F):OR K false r F:=fun S H x y dx dy d Q fr ix iy e q=>h S H x y dx dy d Q fr ix iy e fun v H' s res=>q v H' s (res.is fun a ha=>fr a ha)
section
variable {Γ:Ct} {np:Nat} {fr fa fb fc fe:Bool} {f f' f'':DX} {c c':DT} {g:DA} {a b d e:Expr} {es:List Expr} {pos p p1 p2:Pos}
abbrev dcQ(x:Str):Prop:=(x==("__debug__":Str))=false/\(x==("__classdict__":Str))=false
abbrev glQ(Γ:Ct)(x:Str):Prop:=Γ.sc.names.lookup x=some .globalImplicit/\(x==("__debug__":Str))=false
theorem Yr{i:Nat}{x:Str}(h:Γ.N[i]?=some x:=by walk_at "q")(hd:dcQ x:=by walk_at "dk"):CE Γ (.Name x pos) false (AB i) :=
 ⟨_,fun X c=>Sv (by rw[c.n];exact h) (c.v x (by rw[c.n];exact du h)) hd.1 hd.2,ak⟩
theorem Y1{i:Int}{j}:CE Γ (.Constant (.int i) j pos) false (dC (.int i)):=⟨_,fun _ _=>Xg,Wv⟩
theorem Yt{x:Str}{j}:CE Γ (.Constant (.str x) j pos) false (dC (.str x)):=⟨_,fun _ _=>Xd,aq⟩
theorem Yw{j}:CE Γ (.Constant .none j pos) false (dC .none):=⟨_,fun _ _=>Xf,av⟩
theorem bc{x:Bool}{j}:CE Γ (.Constant (.bool x) j pos) false (dC (.bool x)):=⟨_,fun _ _=>Z5,dE⟩
theorem bZ{x:Str}{i:Int}{t:Tok}(h:Γ.mg x=some (.int i t):=by assumption)(hg:glQ Γ x:=by walk_at "dk"):CE Γ (.Name x pos) false (dC (.int i)):=⟨_,fun X c=>MY (v:=.int i) (c.g x hg.1) (by rw[c.m];exact h) ⟨_,rfl⟩ hg.2,Wv⟩
theorem ba{x:Str}{u:Value}{y:PyData}(h:Γ.mg x=some u/\BK Γ.K y u=true:=by assumption)(hg:glQ Γ x:=by walk_at "dk"):CE Γ (.Name x pos) false (dC y):=by
 obtain⟨v,r,i⟩:=K9 h.2
 exact⟨_,fun X c=>MY (c.g x hg.1) (by rw[c.m];exact h.1) r hg.2,e_c i⟩
theorem bT{op:Operator}{F}(h:CO Γ (binaryOp op) fr F)(ha:CE Γ a false f)(hb:CE Γ b false f'):CE Γ (.BinOp a op b pos) fr (dOp F f f'):=let ⟨_,_,h1,h2,h3⟩:=h;let ⟨_,a1,a2⟩:=ha;let ⟨_,b1,b2⟩:=hb;⟨_,fun X c=>Z3 (h1 X c) (a1 X c) (b1 X c),(Vj h2 a2 b2).to h3⟩
theorem Y4{op:CmpOp}{F}(h:CO Γ (compareOp op) fr F)(ha:CE Γ a false f)(hb:CE Γ b false f')(hm:behindInMarks op b=false:=by walk_at "q"):CE Γ (.Compare a [op] [b] pos) fr (dOp F f f'):=let ⟨_,_,h1,h2,h3⟩:=h;let ⟨_,a1,a2⟩:=ha;let ⟨_,b1,b2⟩:=hb;⟨_,fun X c=>VB (h1 X c) (a1 X c) (b1 X c) hm,(Vj h2 a2 b2).to h3⟩
theorem YR{op:CmpOp}{F}(h:CO Γ (compareOp op) false F)(ha:CE Γ a false f)(hb:CE Γ b false f')(hm:behindInMarks op b=false:=by walk_at "q"):CT Γ (.Compare a [op] [b] pos) (AI (dOp F f f')):=let ⟨_,_,h1,h2,_⟩:=h;let ⟨_,a1,a2⟩:=ha;let ⟨_,b1,b2⟩:=hb;⟨_,fun X c=>QO (h1 X c) (a1 X c) (b1 X c) hm,ES (Vj h2 a2 b2)⟩
theorem UN{o o':CmpOp}{F G}(h:CO Γ (compareOp o) false F)(h':CO Γ (compareOp o') false G)(ha:CE Γ a false f)(hb:CE Γ b false f')(hc:CE Γ d false f'')(hm:lastMarks [o,o'] [b,d]=false:=by walk_at "q"):CE Γ (.Compare a [o,o'] [b,d] pos) false (Aq F G f f' f'') :=
 let ⟨_,a0,h1,h2,h3⟩:=h;let ⟨_,b0,i1,i2,i3⟩:=h';let ⟨_,a1,a2⟩:=ha;let ⟨_,b1,b2⟩:=hb;let ⟨_,d1,d2⟩:=hc;⟨_,fun X c=>Sx (h1 X c) (i1 X c) (a1 X c) (b1 X c) (d1 X c) hm,Qo h2.wk i2.wk a2 b2 d2⟩
theorem UD{o o':CmpOp}{F G}(h:CO Γ (compareOp o) false F)(h':CO Γ (compareOp o') false G)(ha:CE Γ a false f)(hb:CE Γ b false f')(hc:CE Γ d false f'')(hm:lastMarks [o,o'] [b,d]=false:=by walk_at "q"):CT Γ (.Compare a [o,o'] [b,d] pos) (AI (Aq F G f f' f'')) :=
 let ⟨_,a0,h1,h2,h3⟩:=h;let ⟨_,b0,i1,i2,i3⟩:=h';let ⟨_,a1,a2⟩:=ha;let ⟨_,b1,b2⟩:=hb;let ⟨_,d1,d2⟩:=hc;⟨_,fun X c=>Sh (h1 X c) (i1 X c) (a1 X c) (b1 X c) (d1 X c) hm,ES (Qo h2.wk i2.wk a2 b2 d2)⟩
theorem Yx(ha:CE Γ a false f):CE Γ (.UnaryOp .USub a pos) false (dUn Bm f):=let ⟨_,a1,a2⟩:=ha;⟨_,fun X c=>Z1 W5 (a1 X c),c6 ZZ a2⟩
theorem Yv{op}(ha:CE Γ a fr f):CE Γ (.BoolOp op [a] pos) fr f:=let ⟨_,a1,a2⟩:=ha;⟨_,fun X c=>Xe (a1 X c),a2⟩
theorem Y7(ha:CE Γ a false f)(hb:CE Γ (.BoolOp .And (b::es) pos) false f'):CE Γ (.BoolOp .And (a::b::es) pos) false (By f f'):=let ⟨_,a1,a2⟩:=ha;let ⟨_,b1,b2⟩:=hb;⟨_,fun X c=>Xh (a1 X c) (b1 X c),bB a2 b2⟩
theorem bS(ha:CE Γ a false f)(hb:CE Γ (.BoolOp .Or (b::es) pos) false f'):CE Γ (.BoolOp .Or (a::b::es) pos) false (dOr f f'):=let ⟨_,a1,a2⟩:=ha;let ⟨_,b1,b2⟩:=hb;⟨_,fun X c=>Z2 (a1 X c) (b1 X c),c9 a2 b2⟩
theorem bY(hc:CT Γ d c)(ha:CE Γ a false f)(hb:CE Γ b false f'):CE Γ (.IfExp d a b pos) false (dIf c f f'):=let ⟨_,c1,c2⟩:=hc;let ⟨_,a1,a2⟩:=ha;let ⟨_,b1,b2⟩:=hb;⟨_,fun X c=>Np (c1 X c) (a1 X c) (b1 X c),a7 c2 a2.weak b2.weak⟩
theorem Y2(hc:CT Γ d c)(ha:CE Γ a true f)(hb:CE Γ b true f'):CE Γ (.IfExp d a b pos) true (dIf c f f'):=let ⟨_,c1,c2⟩:=hc;let ⟨_,a1,a2⟩:=ha;let ⟨_,b1,b2⟩:=hb;⟨_,fun X c=>Np (c1 X c) (a1 X c) (b1 X c),a7 c2 a2 b2⟩
theorem Y5{i:Nat}(h:CE Γ e false f):CE Γ e false (DN i f):=let ⟨_,a1,a2⟩:=h;⟨_,a1,a9 a2⟩
theorem V6{i:Nat}(h:CE Γ e true f):CE Γ e fr (EJ i f):=let ⟨_,a1,a2⟩:=h;⟨_,a1,(YL a2).an⟩
abbrev Ec(e:Expr)(es:List Expr):Prop:=∀env,starEach (e::es) env=(false,eval e env)::starEach es env
theorem ZC:CA Γ [] AD:=⟨_,fun _ _=>IH,Wz⟩
theorem V9(ha:CE Γ e false f)(hb:CA Γ es g)(hs:Ec e es:=by walk_at "q"):CA Γ (e::es) (AA f g):=let ⟨_,a1,a2⟩:=ha;let ⟨_,b1,b2⟩:=hb;⟨_,fun X c=>GN (a1 X c) (b1 X c) (hs _),ZQ a2 b2⟩
theorem Ys{j}(h:CA Γ es g):CE Γ (.Tuple es j pos) false (AY g):=let ⟨_,a1,a2⟩:=h;⟨_,fun X c=>Xc (a1 X c),ao a2⟩
theorem Yy(h:CA Γ es g):CE Γ (.List es pos) fr (Bw g):=let ⟨_,a1,a2⟩:=h;⟨_,fun X c=>Sw (a1 X c),(aw a2).an⟩
theorem bX{F}(h:CIx Γ F)(ha:CE Γ a false f)(hb:CE Γ b false f')(hs:IA b:=by walk_at "q"):CE Γ (.Subscript a b pos) false (dOp F f f'):=let ⟨_,h1,h2⟩:=h;let ⟨_,a1,a2⟩:=ha;let ⟨_,b1,b2⟩:=hb;⟨_,fun X c=>QR (h1 X c) (a1 X c) (b1 X c) hs,Vj h2 a2 b2⟩
abbrev vrQ(Γ:Ct)(i:Nat)(x:Str):Prop:=Γ.N[i]?=some x/\dcQ x
theorem At.var{X:Cx}(c:At Γ X){i:Nat}{x:Str}(h:vrQ Γ i x):PE X (.Name x pos) (ID i):=Sv (by rw[c.n];exact h.1) (c.v x (by rw[c.n];exact du h.1)) h.2.1 h.2.2
theorem Y0{i:Nat}{x:Str}(hb:CE Γ b false f)(h:vrQ Γ i x:=by walk_at "dk")(hs:IA b:=by walk_at "q"):CE Γ (.Subscript (.Name x p) b pos) false (Br i f):=let ⟨_,b1,b2⟩:=hb;⟨_,fun X c=>QR (c.w (p:=fun K=>IxR X (Q9 K)) Qe) (c.var h) (b1 X c) hs,ay b2⟩
theorem Yz{i:Nat}{x:Str}(hb:CE Γ b false f)(h:vrQ Γ i x:=by walk_at "dk")(hs:IA b:=by walk_at "q"):CE Γ (.Subscript (.Name x p) b pos) false (Ln i f):=let ⟨_,b1,b2⟩:=hb;⟨_,fun X c=>QR cq (c.var h) (b1 X c) hs,ax b2⟩
theorem YQ{i:Nat}{x:Str}(ha:CE Γ a false f)(h:vrQ Γ i x:=by walk_at "dk")(hm:behindInMarks .In (.Name x p)=false:=by walk_at "q"):CT Γ (.Compare a [.In] [.Name x p] pos) (AI (Lo false f i)):=let ⟨_,a1,a2⟩:=ha;⟨_,fun X c=>QO Xo (a1 X c) (c.var h) hm,ES (az a2)⟩
abbrev kdQ(Γ:Ct)(x:Str)(tb:List (Str×PyData)):Prop:=∃ad,Γ.mg x=some (.ref ad)/\KD Γ.K Γ.K.w ad tb/\(ad==sysModules)=false
theorem bW{x:Str}{tb:List (Str×PyData)}(hb:CE Γ b false f)(h:kdQ Γ x tb:=by assumption)(hg:glQ Γ x:=by walk_at "dk")(hs:IA b:=by walk_at "q"):CE Γ (.Subscript (.Name x p) b pos) false (dKd tb f):=by
 obtain⟨_,b1,b2⟩:=hb;obtain⟨ad,h1,h2,_⟩:=h
 exact⟨_,fun X c=>QR (r:=rKd Γ.K ad tb) (c.kw▸aY (X:=X) (by have:=c.kw;subst_vars;rw[<- c.kw]at h2;exact h2)) (MY (v:=.ref ad) (c.g x hg.1) (by rw[c.m];exact h1) rfl hg.2) (b1 X c) hs,dD b2⟩
theorem Vw:CP Γ none CK:=⟨_,fun _ _=>U6,aD⟩
theorem Vv(h:CE Γ e false f):CP Γ (some e) (dPt f):=let ⟨_,a1,a2⟩:=h;⟨_,fun X c=>U5 (a1 X c),cP a2⟩
theorem bR{x y:Option Expr}{lo hi:DO}(h:CE Γ e false f)(hl:CP Γ x lo)(hh:CP Γ y hi):CE Γ (.Subscript e (.Slice x y none p) pos) fr (dSl f lo hi):=let ⟨_,a1,a2⟩:=h;let ⟨_,l1,l2⟩:=hl;let ⟨_,h1,h2⟩:=hh;⟨_,fun X c=>Nn (c.w (p:=fun K=>SlR X (XH K)) Uo) (a1 X c) (l1 X c) (h1 X c),(c8 a2 l2 h2).an⟩
theorem Yu{x y:Option Expr}{lo hi:DO}(h:CE Γ e false f)(hl:CP Γ x lo)(hh:CP Γ y hi):CE Γ (.Subscript e (.Slice x y none p) pos) false (ET f lo hi):=let ⟨_,a1,a2⟩:=h;let ⟨_,l1,l2⟩:=hl;let ⟨_,h1,h2⟩:=hh;⟨_,fun X c=>Nn (c.w (p:=fun K=>SlR X (XG K)) XD) (a1 X c) (l1 X c) (h1 X c),au a2 l2 h2⟩
theorem At.cal{X:Cx}(c:At Γ X){k:Nat}{x:Str}{ps:List Str}{sp:Sp}(h:Cal Γ.P Γ.K.w Γ.K Γ.mg Γ.base k x ps sp)(hk:k<=Γ.k):Cal X.prog X.w X.K X.mg X.base Γ.k x ps sp:=by
 have:=c.kw;unfold JY at this;rw[<- this,<- c.p,<- c.m,<- c.bs]at h;exact h.mono hk
abbrev cQ(Γ:Ct)(k:Nat)(x:Str)(ps:List Str)(sp:Sp):Prop:=Cal Γ.P Γ.K.w Γ.K Γ.mg Γ.base k x ps sp
abbrev Kk(es:List Expr)(pos:Pos):Prop:=∀env,(backTo pos (starEach es env)).any (·.1)=false
section
variable {x:Str} {k:Nat} {ps:List Str} {G:Mir} {i:Nat}
theorem Qy{sp:Sp}{t:TA}(C:cQ Γ k x ps sp)(hk:k<=Γ.k)(hg:glQ Γ x)(h:∀X,At Γ X->PA X (e::es) t)(hs:Ec e es)(hp:Kk es pos):∀X,At Γ X->PE X (.Call (.Name x p) (e::es) [] pos) (Ii sp [] E0 t):=fun X c=>Sy (c.cal C hk) c.rm (c.g x hg.1) (h X c) hg.2 (hs _) (hp _)
theorem V5(ha:CA Γ (e::es) g)(C:cQ Γ k x ps (spD Γ.K G fa):=by assumption)(hw:fr=true->fa=true:=by walk_at "fr")(hk:k<=Γ.k:=by walk_at "kk")(hg:glQ Γ x:=by walk_at "dk")(hs:Ec e es:=by walk_at "q")(hp:Kk es pos:=by walk_at "q"):CE Γ (.Call (.Name x p) (e::es) [] pos) fr (AH G g):=let ⟨_,a1,a2⟩:=ha;⟨_,Qy C hk hg a1 hs hp,(T9 a2).to hw⟩
theorem UP(C:cQ Γ k x ps (spD Γ.K G fa):=by assumption)(hw:fr=true->fa=true:=by walk_at "fr")(hk:k<=Γ.k:=by walk_at "kk")(hg:glQ Γ x:=by walk_at "dk"):CE Γ (.Call (.Name x p) [] [] pos) fr (AH G AD):=⟨_,fun X c=>RG (c.cal C hk) c.rm (c.g x hg.1) hg.2,(T9 Wz).to hw⟩
theorem UZ{y:Str}{sp:Sp}{t:TA}(v:vrQ Γ i y)(C:cQ Γ k x ps sp)(hk:k<=Γ.k)(hg:glQ Γ x)(h:∀X,At Γ X->PA X es t)(hs:Ec (.Name y p1) es)(hp:Kk es pos):∀X,At Γ X->PE X (.Call (.Name x p) (.Name y p1::es) [] pos) (Ii sp [] E0 (HG (ID i) t)):=Qy C hk hg (fun X c=>GN (c.var v) (h X c) (hs _)) hs hp
theorem UO{y:Str}(ha:CA Γ es g)(C:cQ Γ k x ps (spD Γ.K G fa):=by assumption)(hw:fr=true->fa=true:=by walk_at "fr")(v:vrQ Γ i y:=by walk_at "dk")(hk:k<=Γ.k:=by walk_at "kk")(hg:glQ Γ x:=by walk_at "dk")(hs:Ec (.Name y p1) es:=by walk_at "q")(hp:Kk es pos:=by walk_at "q"):CE Γ (.Call (.Name x p) (.Name y p1::es) [] pos) fr (Ab i G g):=let ⟨_,a1,a2⟩:=ha;⟨_,UZ v C hk hg a1 hs hp,(Vk a2).to hw⟩
end
abbrev bQ(Γ:Ct)(x:Str)(v:Value):Prop:=Γ.mg x=none/\bootBuiltins x=some v
abbrev gnQ(Γ:Ct)(x:Str):Prop:=glQ Γ x/\x≠"__name__"
theorem Ua{x:Str}{v:Value}{r:List V->Hp->VK->Prop}{t:TA}(hv:(∃i,v = .builtin i)\/∃i,v = .type i)(hc:∀X,At Γ X->DM X v r)(hb:bQ Γ x v)(hg:gnQ Γ x)(h:∀X,At Γ X->PA X (e::es) t)(hs:Ec e es)(hp:Kk es pos):∀X,At Γ X->PE X (.Call (.Name x p) (e::es) [] pos) (tCB r t):=fun X c=>by
 rcases hv with ⟨i,rfl⟩|⟨i,rfl⟩
 ·exact Nq (hc X c) (c.g x hg.1.1) (by rw[c.m];exact hb.1) hb.2 (h X c) hg.2 hg.1.2 (hs _) (hp _)
 ·exact RE (hc X c) (c.g x hg.1.1) (by rw[c.m];exact hb.1) hb.2 (h X c) hg.2 hg.1.2 (hs _) (hp _)
theorem Y6{x:Str}{F:List PyData->Option PyData}(hc:CBt Γ x fr F)(ha:CA Γ (e::es) g)(hz:Γ.mg x=none:=by assumption)(hg:gnQ Γ x:=by walk_at "dk")(hs:Ec e es:=by walk_at "q")(hp:Kk es pos:=by walk_at "q"):CE Γ (.Call (.Name x p) (e::es) [] pos) fr (Ah F g):=let ⟨_,_,_,hv,hb,c1,c2,c3⟩:=hc;let ⟨_,a1,a2⟩:=ha;⟨_,Ua hv c1 ⟨hz,hb⟩ hg a1 hs hp,(bA c2 a2).to c3⟩
theorem V4{i:Nat}{y:Str}(hz:Γ.mg "len"=none:=by assumption)(v:vrQ Γ i y:=by walk_at "dk")(hg:gnQ Γ "len":=by walk_at "dk"):CE Γ (.Call (.Name "len" p) [.Name y p1] [] pos) false (A2 i) :=
 ⟨_,fun X c=>Nq (c.w (p:=fun K=>DM X (.builtin "len") (fun xs H Q=>∃x n,xs=[x]/\Rv K x H n/\Q (.int n) H)) Oj) (c.g _ hg.1.1) (by rw[c.m];exact hz) PySem.boot_len (GN (c.var v) IH) hg.2 hg.1.2,YK⟩
end
section
variable {Γ:Ct} {np:Nat} {fr fa fb fc fe:Bool} {f f' f'':DX} {c c':DT} {g:DA} {a b d e tg:Expr} {es:List Expr} {pos p p1 p2:Pos}
theorem YN(h:CE Γ e false f)(he:∀env whole,isTrue e env whole=(do let v <- whole;standAt e.pos;holding [v] (truthy v)):=by walk_at "q"):CT Γ e (AI f):=let ⟨_,a1,a2⟩:=h;⟨_,fun X c=>XO (a1 X c) (he _),Zc a2⟩
theorem YO(h:CT Γ a c):CT Γ (.UnaryOp .Not a pos) (Bs c):=let ⟨_,a1,a2⟩:=h;⟨_,fun X c=>XQ (a1 X c),Ze a2⟩
theorem dI(h:CW Γ e c):CT Γ e c:=let ⟨_,a1,a2⟩:=h;⟨_,fun X c=>(a1 X c).pt,a2⟩
theorem cw_and1(h:CT Γ a c):CW Γ (.BoolOp .And [a] pos) c:=let ⟨_,a1,a2⟩:=h;⟨_,fun X c=>Ux (a1 X c),a2⟩
theorem cw_or1(h:CT Γ a c):CW Γ (.BoolOp .Or [a] pos) c:=let ⟨_,a1,a2⟩:=h;⟨_,fun X c=>XJ (a1 X c),a2⟩
theorem cw_and(h:CT Γ a c)(h':CW Γ (.BoolOp .And (b::es) pos) c'):CW Γ (.BoolOp .And (a::b::es) pos) (Av c c'):=let ⟨_,a1,a2⟩:=h;let ⟨_,b1,b2⟩:=h';⟨_,fun X c=>XM (a1 X c) (b1 X c),Zg a2 b2⟩
theorem cw_or(h:CT Γ a c)(h':CW Γ (.BoolOp .Or (b::es) pos) c'):CW Γ (.BoolOp .Or (a::b::es) pos) (FT c c'):=let ⟨_,a1,a2⟩:=h;let ⟨_,b1,b2⟩:=h';⟨_,fun X c=>Zx (a1 X c) (b1 X c),cK a2 b2⟩
theorem YS{i:Nat}(h:CT Γ a c):CT Γ a (Bt i c):=let ⟨_,a1,a2⟩:=h;⟨_,a1,Zf a2⟩
theorem V3{i:Nat}{x:Str}(h:Γ.N[i]?=some x:=by walk_at "q")(hi:i<Γ.own:=by walk_at "dk"):CG Γ (.Name x p) (dN i):=⟨_,fun X c=>U9 c.nd (by rw[c.n];exact h) (c.l i x hi (by rw[c.n];exact h)).1 (c.l i x hi (by rw[c.n];exact h)).2,Gp⟩
theorem V2:CGs Γ [] A0:=⟨_,fun _ _=>U8,YC,QW⟩
theorem UM{h1:DG}{h2}(a:CG Γ e h1)(b:CGs Γ es h2)(hs:∀env,(assignEach (e::es) env).map (·.2)=assign e env::(assignEach es env).map (·.2):=by walk_at "q"):CGs Γ (e::es) (AW h1 h2):=let ⟨_,a1,a2⟩:=a;let ⟨_,b1,b2,b3⟩:=b;⟨_,fun X c=>Su (a1 X c) (b1 X c) (hs _),Ve a2 b2,OF b3⟩
theorem Yq{j}{h1}(a:CGs Γ es h1)(hn:∀env,(assignEach es env).length=es.length:=by walk_at "q")(hst:∀env,(assignEach es env).findIdx? (·.1)=none:=by walk_at "q"):CG Γ (.Tuple es j pos) (dGT h1):=let ⟨t,a1,a2,a3⟩:=a;⟨Vf Γ.K es.length t,fun X c=>c.w (p:=fun K=>PG X _ (Vf K es.length t)) (Xa c.ca (a1 X c) (hn _) (hst _)),ae a2 a3⟩
theorem V1(h:CE Γ e false f):CI Γ tg e (dIL f):=let ⟨t,a1,a2⟩:=h;⟨Qk Γ.K t,fun X c=>c.w (p:=fun K=>PI X _ _ (Qk K t)) (U7 (a1 X c)),VZ a2⟩
theorem Yo(h:CE Γ e false f):CI Γ tg e (dIS f):=let ⟨t,a1,a2⟩:=h;⟨_,fun X c=>XX (a1 X c),X8 a2⟩
theorem bO(h:CA Γ [a] g)(hz:Γ.mg "range"=none:=by assumption)(hg:glQ Γ "range":=by walk_at "dk")(hs:Ec a []:=by walk_at "q"):CI Γ tg (.Call (.Name "range" p) [a] [] pos) (dR1 g):=let ⟨t,a1,a2⟩:=h;⟨_,fun X c=>RD (c.g _ hg.1) (by rw[c.m];exact hz) (a1 X c) (hs _),Ra a2⟩
theorem Yp(h:CE Γ e false f)(hz:Γ.mg "reversed"=none:=by assumption)(hg:gnQ Γ "reversed":=by walk_at "dk")(hs:Ec e []:=by walk_at "q"):CI Γ tg (.Call (.Name "reversed" p) [e] [] pos) (dIV f):=let ⟨t,a1,a2⟩:=h;⟨Vd Γ.K t,fun X c=>c.w (p:=fun K=>PI X _ _ (Vd K t)) (XY (a1 X c) (c.g _ hg.1.1) (by rw[c.m];exact hz) UT hg.2 hg.1.2 (hs _)),X9 a2⟩
end
section
variable {Γ:Ct} {np:Nat} {fr fa fb fc fe:Bool} {f f' f'':DX} {c c':DT} {g:DA} {a b d e tg it elt:Expr} {es ifs:List Expr} {pos p p1 p2:Pos}
def tgN:Expr->List Str
 |.Name x _=>[x]
 |.Tuple es _ _=>es.filterMap fun e=>match e with|.Name x _=>some x|_=>none
 |_=>[]
abbrev Ct.blk(Γ:Ct)(own:Nat)(fr:List Nat)(tg:Expr)(sc:Scope):Ct:={ Γ with own:=own,d:=false,N:=tgN tg++fr.map fun j=>Γ.N.getD j "",sc:=sc }
def lcQ(Γ:Ct)(own:Nat)(fr:List Nat)(tg:Expr)(sc:Scope):Bool :=
 let Δ:=Γ.blk own fr tg sc
 Td Δ.N own fr sc Γ.N Γ.sc&&decide Δ.N.Nodup&&((List.range own).all fun i=>match Δ.N[i]? with|some x=>sc.names.lookup x==some .local|none=>false)&&decide (Δ.N.length=own+fr.length)
theorem UY{X:Cx}(c:At Γ X){own:Nat}{fv:List Nat}{sc:Scope}(h:lcQ Γ own fv tg sc=true):Rw X (Γ.blk own fv tg sc).N own fv sc:=by
 unfold lcQ at h
 simp only[Bool.and_eq_true]at h
 have o:=aU (X:={ X with env:={ X.env with scope:=Γ.sc } }) (N:=Γ.N) c.n rfl h.1.1.1
 exact⟨o.kind,o.len,o.cell,o.names,fun x hx=>c.c x (o.free x hx),o.slot⟩
theorem IZ{X:Cx}(c:At Γ X){own:Nat}{fv:List Nat}{sc:Scope}(h:lcQ Γ own fv tg sc=true)(cl:List (Str×Addr))(fp:List Addr)(s3:Shared)(H3:Hp):At (Γ.blk own fv tg sc) (cxC X (Γ.blk own fv tg sc).N sc cl fp s3 H3):=by
 have o:=UY c h
 unfold lcQ at h
 simp only[Bool.and_eq_true,decide_eq_true_eq,List.all_eq_true,List.mem_range]at h
 obtain⟨⟨⟨_,nd⟩,ow⟩,ln⟩:=h
 have ow':∀(i:Nat) (x:Str),i<own->(Γ.blk own fv tg sc).N[i]?=some x->sc.names.lookup x=some .local:=fun i x hi e=>by
  have:=ow i hi;rw[e]at this;exact eq_of_beq this
 refine⟨c.p,c.kw,c.m,c.bs,rfl,nd,c.rm,c.ca,PassesOwn.never,fun x hx=>?_,fun i x hi e=>⟨RT (ow' i x hi e),.inr (Ha (ow' i x hi e))⟩,fun x h=>Ha h,fun x h=>Ut h,fun z=>(nomatch z),fun x h=>?_⟩
 ·obtain⟨i,hi⟩:=fL.mp hx
  by_cases hlt:i<own
  ·exact Q2 (ow' i x hlt hi)
  ·have hl:i<(Γ.blk own fv tg sc).N.length:=(R'.mp hi).1
   obtain⟨k,rfl⟩:∃k,i=own+k:=⟨i-own,by omega⟩
   have hk:k<fv.length:=by have e:(Γ.blk own fv tg sc).N.length=own+fv.length:=ln;omega
   obtain⟨y,h1,_,h3⟩:=o.slot k fv[k] (eG hk)
   rw[show(cxC X (Γ.blk own fv tg sc).N sc cl fp s3 H3).N=(Γ.blk own fv tg sc).N from rfl]at hi
   rw[hi]at h1;cases h1
   exact R4 h3
 ·rcases h with h|h
  ·exact absurd rfl (o.cell _ (fJ h))
  ·exact MX h
theorem Vo:CTs Γ [] Cu:=⟨_,fun _ _=>U1,Zb⟩
theorem Vn(h:CT Γ e c):CTs Γ [e] c:=let ⟨_,a1,a2⟩:=h;⟨_,fun X c=>Uz (a1 X c),a2⟩
def CL(Γ:Ct)(elt tg it:Expr)(ifs:List Expr)(sc:Scope)(fr:Bool)(f:DX):Prop:=∃own fv wi g tc te,lcQ Γ own fv tg sc=true/\(∀X,At Γ X->PI X tg it wi)/\(∀X,At (Γ.blk own fv tg sc) X->PG X tg g)/\(∀X,At (Γ.blk own fv tg sc) X->PTs X ifs tc)/\(∀X,At (Γ.blk own fv tg sc) X->PE X elt te)/\E Γ.K (tLC own fv wi g tc te) fr f
abbrev QT(it:Expr):Prop:=∀env x,foldedSetIterable it env x=pure x
theorem bV{sc:Scope}(h:CL Γ elt tg it ifs sc fr f)(hs:QT it:=by walk_at "q"):CE Γ (.ListComp elt [⟨tg,it,ifs,0⟩] sc pos) fr f:=let ⟨_,_,_,_,_,_,h0,h1,h2,h3,h4,h5⟩:=h;⟨_,fun X c=>Z4 c.ca (UY c h0) (h1 X c) (fun _ _ _ _=>h2 _ (IZ c h0 _ _ _ _)) (fun _ _ _ _=>h3 _ (IZ c h0 _ _ _ _)) (fun _ _ _ _=>h4 _ (IZ c h0 _ _ _ _)) (hs _),h5⟩
section
variable {sc:Scope} {own j:Nat} {fv f1 f2:List Nat} {di:DI} {dg:DG}
theorem dJ(hi:CI Γ tg it di)(hg:CG (Γ.blk own fv tg sc) tg dg)(ht:CTs (Γ.blk own fv tg sc) ifs c)(he:CE (Γ.blk own fv tg sc) elt false f)(h:lcQ Γ own fv tg sc=true:=by walk_at "dk"):CL Γ elt tg it ifs sc fr (dLC own fv di dg c f):=let ⟨_,i1,i2⟩:=hi;let ⟨_,g1,g2⟩:=hg;let ⟨_,t1,t2⟩:=ht;let ⟨_,e1,e2⟩:=he;⟨_,_,_,_,_,_,h,i1,g1,t1,e1,(dB i2 g2 t2 e2).an⟩
end
abbrev bsQ(o:Expr)(m:Str):Prop:=∀env,attributeBase o m env (eval o env)=eval o env
abbrev lnQ(a c:Pos):Prop:=(a.endLine==c.line)=true
abbrev fwQ(es:List Expr)(c:Pos):Prop:=∀env,((backTo c (starEach es env)).all (fun x=>!x.1)&&(backToKw c (keywordEach [] env)).all (fun x=>x.1.isSome)&&decide (es.length+([]:List Keyword).length+(if ([]:List Keyword).isEmpty then 0 else 1)<30))=true
theorem c0{e:Expr}{c:Pos}(hs:Ec e []):fwQ [e] c:=fun env=>by rw[hs];rfl
theorem bU{i:Nat}{x m:Str}{G}(hm:CM Γ m G)(ha:CA Γ (e::es) g)(v:vrQ Γ i x:=by walk_at "dk")(hb:bsQ (.Name x p) m:=by walk_at "q")(hl:lnQ p1 pos:=by walk_at "q")(hw:fwQ (e::es) pos:=by walk_at "q")(hs:Ec e es:=by walk_at "q")(hp:Kk es pos:=by walk_at "q"):CE Γ (.Call (.Attribute (.Name x p) m p1) (e::es) [] pos) false (dMt i G g):=by
 obtain⟨id,r,m1,m2,m3,m4⟩:=hm;obtain⟨t,a1,a2⟩:=ha
 exact⟨_,fun X c=>c.w (p:=fun K=>PE X _ (tBM K "list" r (ID i) t)) (Wg PySem.F.plainAttrs_list m1 m2 (m3 X c) (c.var v) (a1 X c) (hb _) (hw _) hl (hs _) (hp _)),dA m4 a2⟩
theorem Yl:CM Γ "append" Ap:=⟨_,_,PySem.F.slot_list_append,PySem.F.type_list_append,fun _ _=>MF,Tb⟩
theorem Yk:CM Γ "extend" BZ:=⟨_,_,PySem.F.slot_list_extend,PySem.F.type_list_extend,fun _ _=>RQ,Ta⟩
theorem Y3(ha:CE Γ a false f)(hb:CE Γ b false f')(h1:bsQ a "index":=by walk_at "q")(hl:lnQ p1 pos:=by walk_at "q")(hs:Ec b []:=by walk_at "q"):CE Γ (.Call (.Attribute a "index" p1) [b] [] pos) false (dOp Rn f f'):=by
 obtain⟨t,a1,a2⟩:=ha;obtain⟨u,b1,b2⟩:=hb
 exact⟨_,fun X c=>c.w (p:=fun K=>PE X _ (tBM K "str" XI t (HG u LO))) (Wg PySem.F.plainAttrs_str PySem.F.slot_str_index PySem.F.type_str_index TX (a1 X c) (GN (b1 X c) IH (hs _)) (h1 _) (c0 hs _) hl (hs _) rfl),a8 a2 b2⟩
theorem Yj:CO Γ (binaryOp .Add) false Af:=⟨_,_,fun _ _=>Xs,aO,id⟩
theorem Ya:CO Γ (binaryOp .Sub) false Am:=⟨_,_,fun _ _=>Xi,aB,id⟩
theorem Yd:CO Γ (binaryOp .Mult) false An:=⟨_,_,fun _ _=>VJ,aE,id⟩
theorem Yh:CO Γ (binaryOp .FloorDiv) false Ag:=⟨_,_,fun _ _=>S5,aM,id⟩
theorem Ye:CO Γ (binaryOp .Mod) false Ac:=⟨_,_,fun _ _=>Xm,aF,id⟩
theorem Yb:CO Γ (binaryOp .Pow) false Rk:=⟨_,_,fun _ _=>Xj,aC,id⟩
theorem Yi:CO Γ (binaryOp .Add) fr Ro:=⟨_,_,fun _ _=>Xr,aN,fun _=>rfl⟩
theorem Vz:CO Γ (binaryOp .Add) false Fu:=⟨_,_,fun _ _=>PJ,Xy,id⟩
theorem Vy:CO Γ (binaryOp .Add) false FN:=⟨QL Γ.K,_,fun X c=>c.w (p:=fun K=>OpR X _ (QL K)) VL,Xx,id⟩
theorem bH:CO Γ (compareOp .Lt) false fLt:=⟨_,_,fun _ _=>Z6,cS,id⟩
theorem bI:CO Γ (compareOp .LtE) false fLe:=⟨_,_,fun _ _=>Z7,cW,id⟩
theorem bK:CO Γ (compareOp .Gt) false fGt:=⟨_,_,fun _ _=>Z8,cX,id⟩
theorem bL:CO Γ (compareOp .GtE) false fGe:=⟨_,_,fun _ _=>Z9,cY,id⟩
theorem bM:CO Γ (compareOp .Eq) false fEq:=⟨Uw Γ.K,_,fun X c=>c.w (p:=fun K=>OpR X _ (Uw K)) (Xq c.u),cZ,id⟩
theorem bG:CO Γ (compareOp .NotEq) false fNe:=⟨Uu Γ.K,_,fun X c=>c.w (p:=fun K=>OpR X _ (Uu K)) (Xk c.u),cR,id⟩
theorem bJ:CO Γ (compareOp .In) false (fIn false):=⟨O7 Γ.K false,_,fun X c=>c.w (p:=fun K=>OpR X _ (O7 K false)) (Xp c.u5),aL,id⟩
theorem Yc:CO Γ (compareOp .NotIn) false (fIn true):=⟨O7 Γ.K true,_,fun X c=>c.w (p:=fun K=>OpR X _ (O7 K true)) (RJ c.u5),aL,id⟩
theorem Yg:CO Γ (compareOp .In) false Rl:=⟨_,_,fun _ _=>RK,aK,id⟩
theorem Yf:CO Γ (compareOp .Is) false Cs:=⟨_,_,fun _ _=>Xn,aJ,id⟩
theorem Vx:CO Γ (compareOp .IsNot) false B6:=⟨_,_,fun _ _=>VI,Xw,id⟩
theorem dH:CIx Γ FR:=⟨Q9 Γ.K,fun X c=>c.w (p:=fun K=>IxR X (Q9 K)) Qe,aI⟩
theorem dF:CIx Γ AK:=⟨Uv Γ.K,fun X c=>c.w (p:=fun K=>IxR X (Uv K)) X6,aG⟩
theorem dG:CIx Γ Dm:=⟨_,fun _ _=>X7,aH⟩
theorem Y9:CBt Γ "len" false BO:=⟨_,fun xs H Q=>∃x n,xs=[x]/\Rv Γ.K x H n/\Q (.int n) H,_,.inl ⟨_,rfl⟩,PySem.boot_len,fun X c=>c.w (p:=fun K=>DM X (.builtin "len") (fun xs H Q=>∃x n,xs=[x]/\Rv K x H n/\Q (.int n) H)) Oj,bg,id⟩
theorem ZA:CBt Γ "abs" false GY:=⟨_,_,_,.inl ⟨_,rfl⟩,PyProof.Rows.boot_abs,fun _ _=>US,bh,id⟩
theorem V7:CBt Γ "max" false Ft:=⟨_,_,_,.inl ⟨_,rfl⟩,PyProof.Rows.boot_max,fun _ c=>Rr c.ca,ZD,id⟩
theorem V8:CBt Γ "list" fr Cr:=⟨_,fun xs H Q=>∃p ys,xs=[.ref p]/\(SqL Γ.K H p ys\/SqT Γ.K H p ys)/\∀l,H l=none->Q (.ref l) (upd H l (.lst ys)),_,.inr ⟨_,rfl⟩,PySem.Pv.boot_list,fun X c=>c.w (p:=fun K=>DM X _ (fun xs H Q=>∃p ys,xs=[.ref p]/\(SqL K H p ys\/SqT K H p ys)/\∀l,H l=none->Q (.ref l) (upd H l (.lst ys)))) NN,ZE,fun _=>rfl⟩
theorem Y8:CBt Γ "tuple" false Kz:=⟨_,fun xs H Q=>∃p ys,xs=[.ref p]/\((SqL Γ.K H p ys/\∀l,H l=none->Q (.ref l) (upd H l (.tup ys)))\/(SqT Γ.K H p ys/\Q (.ref p) H)),_,.inr ⟨_,rfl⟩,PySem.Pv.boot_tuple,fun X c=>c.w (p:=fun K=>DM X _ (fun xs H Q=>∃p ys,xs=[.ref p]/\((SqL K H p ys/\∀l,H l=none->Q (.ref l) (upd H l (.tup ys)))\/(SqT K H p ys/\Q (.ref p) H)))) Lr,WA,id⟩
theorem bP(h:CE Γ e false f)(hz:Γ.mg "sorted"=none:=by assumption)(hz2:Γ.mg "set"=none:=by assumption)(hg:gnQ Γ "sorted":=by walk_at "dk")(hg2:gnQ Γ "set":=by walk_at "dk")(hs:Ec e []:=by walk_at "q"):CE Γ (.Call (.Name "sorted" p) [.Call (.Name "set" p1) [e] [] p2] [] pos) fr (dSS f):=by
 obtain⟨t,a1,a2⟩:=h
 exact⟨_,Ua (.inl ⟨_,rfl⟩) (fun X c=>c.w (p:=fun K=>DM X _ (O6 K K.w)) (Pz c.ca)) ⟨hz,PyProof.Rows.boot_sorted⟩ hg (fun X c=>GN (Ua (.inr ⟨_,rfl⟩) (fun X c=>c.w (p:=fun K=>DM X _ (Sd K K.w)) (Rq c.ca c.u)) ⟨hz2,PySem.Pv.boot_set⟩ hg2 (fun X c=>GN (a1 X c) IH (hs _)) hs (fun _=>rfl) X c) IH) (fun _=>rfl) (fun _=>rfl),(c7 a2).an⟩
end
end DL
end
section
namespace DL
open PySem L2 PySem.Spec PyProof.Rows
section
variable {Γ:Ct} {np:Nat} {fr fa fb fc fe:Bool} {f f' f'':DX} {c c':DT} {g:DA} {a b d e tg it elt:Expr} {es ifs:List Expr} {pos p p1 p2:Pos} {s:Stmt} {ss ss':List Stmt} {B1 B2:DB} {i j k:Nat} {x y z:Str}
theorem Vp:CSs Γ np [] fr AU:=⟨_,fun _ _=>U3,bq⟩
theorem Qt(h:CS Γ np s fr B1):CSs Γ np [s] fr B1:=let ⟨_,a1,a2⟩:=h;⟨_,fun X c=>U2 (a1 X c),a2⟩
theorem Oe(h:CS Γ np s fr B1)(h':CSs Γ np ss fr B2):CSs Γ np (s::ss) fr (AM B1 B2):=let ⟨_,a1,a2⟩:=h;let ⟨_,b1,b2⟩:=h';⟨_,fun X c=>Si (a1 X c) (b1 X c),bj a2 b2⟩
abbrev stQ(Γ:Ct)(i:Nat)(x:Str):Prop:=Γ.N[i]?=some x/\i<Γ.own
abbrev nSw(e:Expr)(t:Option Expr)(pos:Pos):Prop:=∀env,swapsWith e t pos.line env=pure false
theorem NO{te:TE}(h:∀X,At Γ X->PE X e te)(v:stQ Γ i x)(hs:∀X,At Γ X->swapsWith e (some (.Name x p)) pos.line X.env=pure false):∀X,At Γ X->PS X (.Assign [.Name x p] e pos) (MT te (JN i)):=fun X c=>by
 have hi:X.N[i]?=some x:=by rw[c.n];exact v.1
 exact XT c.nd hi (c.l i x v.2 hi).1 (h X c) (hs X c) (c.l i x v.2 hi).2
theorem YU(h:CE Γ e false f)(v:stQ Γ i x:=by walk_at "dk")(hs:nSw e (some (.Name x p)) pos:=by walk_at "q"):CS Γ np (.Assign [.Name x p] e pos) fr (AN f (dN i)):=let ⟨_,a1,a2⟩:=h;⟨_,NO a1 v fun _ _=>hs _,UX a2 Gp⟩
theorem Vq(h:CE Γ e true f)(v:stQ Γ i x:=by walk_at "dk")(hs:nSw e (some (.Name x p)) pos:=by walk_at "q"):CS Γ np (.Assign [.Name x p] e pos) fr (Fw np i f):=let ⟨_,a1,a2⟩:=h;⟨_,NO a1 v fun _ _=>hs _,ZI a2⟩
theorem YX(v:stQ Γ i x:=by walk_at "dk"):CS Γ np (.Assign [.Name x p] (.List [] p1) pos) fr (EU np i):=⟨_,NO (fun _ _=>Sw IH) v fun _ _=>rfl,br⟩
theorem Vt(v:stQ Γ i x:=by walk_at "dk"):CS Γ np (.Assign [.Name x p] (.Dict [] [] p1) pos) fr (Oa np i):=⟨_,NO (fun _ _=>VA) v fun _ _=>rfl,ZL⟩
abbrev lsQ(Γ:Ct)(i:Nat)(x:Str)(p p1:Pos)(sc:Scope):Prop:=Γ.N[i]?=some x/\Γ.sc.names.lookup x=some .local/\Γ.d=true/\(p.line==p1.line&&!(sc.names.any fun(n,k)=>n==x&&(k==.local||k==.cell)))=true
theorem bx{sc:Scope}{own:Nat}{fv:List Nat}{wi:TI}{g:TG}{tc:TT}{te:TE}(v:lsQ Γ i x p p1 sc)(hf:QT it)(h0:lcQ Γ own fv tg sc=true)(h1:∀X,At Γ X->PI X tg it wi)(h2:∀X,At (Γ.blk own fv tg sc) X->PG X tg g)(h3:∀X,At (Γ.blk own fv tg sc) X->PTs X ifs tc)(h4:∀X,At (Γ.blk own fv tg sc) X->PE X elt te) :
  ∀X,At Γ X->PS X (.Assign [.Name x p] (.ListComp elt [⟨tg,it,ifs,0⟩] sc p1) pos) (fun D σ H=>tLC own fv wi g tc te σ H fun v H'=>D.nx (σ.set i (some v)) H'):=fun X c=>by
 obtain⟨v1,v2,v3,v4⟩:=v
 have hl:=c.ll x v2
 refine Sm c.nd (by rw[c.n];exact v1) hl c.ca (UY c h0) (h1 X c) (fun _ _ _ _=>h2 _ (IZ c h0 _ _ _ _)) (fun _ _ _ _=>h3 _ (IZ c h0 _ _ _ _)) (fun _ _ _ _=>h4 _ (IZ c h0 _ _ _ _)) ?_ (hf _)
 show(pure (X.env.blockKind==.function&&X.env.kindOf x==some .local&&p.line==p1.line&&!(sc.names.any fun(n,k)=>n==x&&(k==.local||k==.cell))):Sem Bool)=pure true
 rw[c.bk v3,show X.env.kindOf x=some .local from hl]
 rw[G']at v4
 rw[v4.1,v4.2];rfl
theorem bD{sc:Scope}(h:CL Γ elt tg it ifs sc false f)(v:lsQ Γ i x p p1 sc:=by walk_at "dk")(hf:QT it:=by walk_at "q"):CS Γ np (.Assign [.Name x p] (.ListComp elt [⟨tg,it,ifs,0⟩] sc p1) pos) fr (AN f (dN i)):=let ⟨_,_,_,_,_,_,h0,h1,h2,h3,h4,h5⟩:=h;⟨_,bx v hf h0 h1 h2 h3 h4,bu h5⟩
abbrev asQ(tg e:Expr)(pos:Pos):Prop:=∀env,swapsWithSole [tg] e pos.line env=pure false/\swappedStores [tg] e env=pure none/\(assignEach [tg] env).map (·.2)=[assign tg env]
theorem YZ{gt:DG}(h:CE Γ e false f)(hg:CG Γ tg gt)(hs:asQ tg e pos:=by walk_at "as"):CS Γ np (.Assign [tg] e pos) fr (AN f gt):=let ⟨_,a1,a2⟩:=h;let ⟨_,b1,b2⟩:=hg;⟨_,fun X c=>Sq (a1 X c) (b1 X c) (hs _).1 (hs _).2.1 (hs _).2.2,UX a2 b2⟩
abbrev sbQ(o i:Expr)(pos:Pos):Prop:=∀env v,assign (.Subscript o i pos) env v=(do
   let ov <- holding [v] (eval o env)
   let iv <- holding [v,ov] (eval i env)
   standAt pos
   holding [v,ov,iv] (setItem ov iv v)
   release [v,ov,iv] [])
theorem ZN{o:Expr}{te to ti:TE}{t:TSet}(h:∀X,At Γ X->PE X e te)(ho:∀X,At Γ X->PE X o to)(hi:∀X,At Γ X->PE X d ti)(ht:∀X,At Γ X->ZS X t)(h1:sbQ o d p)(hs:asQ (.Subscript o d p) e pos):∀X,At Γ X->PS X (.Assign [.Subscript o d p] e pos) (MT te (YD to ti t)):=fun X c=>Sq (h X c) (Xb (ho X c) (hi X c) (ht X c) (h1 _)) (hs _).1 (hs _).2.1 (hs _).2.2
theorem Vs(h:CE Γ e false f)(hk:CE Γ d false f')(v:vrQ Γ i x:=by walk_at "dk")(h1:sbQ (.Name x p1) d p:=by walk_at "q")(hs:asQ (.Subscript (.Name x p1) d p) e pos:=by walk_at "as"):CS Γ np (.Assign [.Subscript (.Name x p1) d p] e pos) fr (Hx i f f'):=let ⟨_,a1,a2⟩:=h;let ⟨_,b1,b2⟩:=hk;⟨_,ZN a1 (fun _ c=>c.var v) b1 (fun _ _=>Zs) h1 hs,ZK a2 b2⟩
abbrev lvQ(Γ:Ct)(i:Nat)(x:Str):Prop:=Γ.N[i]?=some x/\Γ.sc.names.lookup x=some .local
abbrev fdQ(vs:List Expr):Prop:=(vs.any fun|.Starred ..=>true|_=>false)=false/\vs.all (foldedForSure 8)=false/\vs.all (constantsAlone 8)=false
theorem YW{q1 q2 q3 q4:Pos}{k1 k2}(h:CA Γ [a,b] g)(v:lvQ Γ i x/\lvQ Γ j y/\i≠j/\x≠y/\Γ.d=true/\q2.line=q1.line:=by walk_at "dk")(hw:fdQ [a,b]:=by walk_at "fd"):CS Γ np (.Assign [.Tuple [.Name x q1,.Name y q2] k1 q3] (.Tuple [a,b] k2 q4) pos) fr (BY i j g):=by
 obtain⟨t,a1,a2⟩:=h;obtain⟨⟨v1,v2⟩,⟨v3,v4⟩,v5,v6,v7,v8⟩:=v;obtain⟨w1,w2,w3⟩:=hw
 refine⟨_,fun X c=>XU c.ca c.nd (by rw[c.n];exact v1) (by rw[c.n];exact v3) v5 (c.ll x v2) (c.ll y v4) (a1 X c) ?_ rfl,bp a2⟩
 unfold swappedStores
 simp only[c.bk v7,List.length_cons,List.length_nil,w1,w2,w3,List.head?_cons,Option.map_some,Option.getD_some,Expr.pos,List.filterMap_cons,List.filterMap_nil,show X.env.kindOf x=some .local from c.ll x v2,show X.env.kindOf y=some .local from c.ll y v4,v8,beq_self_eq_true,Bool.and_true,Bool.and_self,if_true,List.eraseDups_cons]
 simp[List.eraseDups,List.eraseDupsBy,List.eraseDupsBy.loop,v6,Ne.symm v6]
 intro h
 simp only[List.any_cons,List.any_nil,Bool.or_false,Bool.or_eq_false_iff]at w1
 rcases h with h|h
 ·exact Bool.noConfusion (h.symm.trans w1.1)
 ·exact Bool.noConfusion (h.symm.trans w1.2)
theorem Vu(h:CE Γ e false f)(hs:nSw e none pos:=by walk_at "q"):CS Γ np (.Expr e pos) fr (A3 f):=let ⟨_,a1,a2⟩:=h;⟨_,fun X c=>U4 (a1 X c) (hs _),ZM a2⟩
theorem YV(h:CE Γ e fr f):CS Γ np (.Return (some e) pos) fr (AQ f):=let ⟨_,a1,a2⟩:=h;⟨_,fun X c=>Sn (a1 X c),bo a2 id⟩
theorem Vr(v:vrQ Γ i x:=by walk_at "dk"):CS Γ np (.Return (some (.Name x p)) pos) fr (C2 np i):=⟨_,fun _ c=>Sn (c.var v),ZJ⟩
theorem bE(h:CT Γ e c)(h1:CSs Γ np ss fr B1)(h2:CSs Γ np ss' fr B2):CS Γ np (.If e ss ss' pos) fr (AR c B1 B2):=let ⟨_,a1,a2⟩:=h;let ⟨_,b1,b2⟩:=h1;let ⟨_,d1,d2⟩:=h2;⟨_,fun X c=>Z0 (a1 X c) (b1 X c) (d1 X c),dR a2 b2 d2⟩
theorem UH{n:DS->Nat}(h:CT Γ e c)(h1:CSs Γ np ss fr B1):CS Γ np (.While e ss [] pos) fr (Fv n c B1):=let ⟨_,a1,a2⟩:=h;let ⟨_,b1,b2⟩:=h1;⟨_,fun X c=>Sk c.po (a1 X c) (b1 X c),WH a2 b2⟩
theorem YY{di:DI}{dg:DG}(h:CI Γ tg it di)(hg:CG Γ tg dg)(h1:CSs Γ np ss fr B1)(hs:QT it:=by walk_at "q"):CS Γ np (.For tg it ss [] pos) fr (Bh di dg B1):=let ⟨_,a1,a2⟩:=h;let ⟨_,g1,g2⟩:=hg;let ⟨_,b1,b2⟩:=h1;⟨_,fun X c=>XW c.po c.ca (a1 X c) (g1 X c) (b1 X c) (hs _),bw a2 g2 b2⟩
theorem UI:CS Γ np s fr EV:=⟨_,fun _ _=>So,WI⟩
end
def scB(N ps:List Str)(sc:Scope):Bool:=decide (sc.kind = .function)&&decide (sc.isCoroutine=false)&&decide (sc.isGenerator=false)&&decide N.Nodup&&decide (N.take ps.length=ps)&&(N.all fun x=>decide (Loc sc x))&&(sc.names.all fun y=>decide (y.2≠.free))
theorem XE{N ps:List Str}{sc:Scope}(h:scB N ps sc=true):IB N ps sc/\∀x∈N,Loc sc x:=by
 unfold scB at h
 simp only[Bool.and_eq_true,decide_eq_true_eq,List.all_eq_true]at h
 obtain⟨⟨⟨⟨⟨⟨h1,h2⟩,h3⟩,h4⟩,h5⟩,h6⟩,h7⟩:=h
 exact⟨⟨h1,h2,h3,h4,h5,fun x hx=>h6 x (fY (by rw[h5];exact hx)),h7⟩,h6⟩
theorem ZP{P:Program}{w:World}{K:PySem.W.Frag}{mg:Str->Option Value}{base:Heap}{N ps:List Str}{x:Str}{sc:Scope}{f:Addr}{cd:Value}{A:Around}{outer:List Env}{s:Shared}{H:Hp}{E:XK}{k:Nat}(S:IB N ps sc)(l:∀x∈N,Loc sc x)(hr:Room k (A.deeper (envOfC x sc s.heap.objs.size f cd))):At ⟨P,⟨K,w⟩,mg,base,k,N.length,true,N,sc⟩ (Px CX0 P w K mg base N x sc f cd A outer s H E).nox where
 p:=rfl
 kw:=rfl
 m:=rfl
 bs:=rfl
 n:=rfl
 nd:=S.nd
 rm:=hr
 ca:=rfl
 po:=PassesOwn.never
 v:=fun x hx=>viL (l x hx)
 l:=fun i x _ e=>⟨l x (du e),.inl rfl⟩
 ll:=fun _ h=>h
 g:=fun _ h=>h
 bk:=fun _=>by show Env.blockKind (envOfC x sc s.heap.objs.size f cd)=_;unfold Env.blockKind;rw[show(envOfC x sc s.heap.objs.size f cd).scope.kind = .function from S.kind];rfl
 c:=fun _ h=>h
theorem AS{P:Program}{w:World}{K:PySem.W.Frag}{mg:Str->Option Value}{base:Heap}{x:Str}{st:Stmt}{f:Addr}{fd:FuncData}{ps:List Str}{k np nl:Nat}{fr:Bool}{b:DB}(N:List Str)(F:Fun K x x st f fd)(hb:CSs ⟨P,⟨K,w⟩,mg,base,k,N.length,true,N,BW st⟩ np (CZ st) fr b)(hs:scB N ps (BW st)=true:=by walk_at "dk")(hn:N.length=np+nl/\np=ps.length:=by walk_at "dk"):FnOk P w K mg base CX0 (k+1) f fd ps (spD ⟨K,w⟩ (Aa fr np nl b) fr):=by
 obtain⟨S,l⟩:=XE hs;obtain⟨t,h1,h2⟩:=hb
 exact F.ok S (fun vs H Q E h=>(YI Oc h).trans hn.2) fun cdv A outer s H vs Q E hr h=>⟨t,h1 _ (ZP S l hr),YH h2 hn.1 h⟩
section
variable {Γ:Ct} {np:Nat} {fr fa fb fc fe:Bool} {f f' f'':DX} {c c':DT} {g:DA} {a b d e tg it elt:Expr} {es ifs:List Expr} {pos p p1 p2:Pos} {s:Stmt} {ss ss':List Stmt} {i j k:Nat} {x y z:Str} {cls:Nat->Addr} {B1 B2:DBX}
structure AtR(Γ:Ct)(E:XK)(X:Cx):Prop where
 ra:∀C,Ud X C E
 pa:LM (CXr Γ.P Γ.K.w) X E
def CX(Γ:Ct)(cls:Nat->Addr)(np:Nat)(s:Stmt)(fr:Bool)(f:DBX):Prop:=∀E:XK,∃t,(∀X,At Γ X->AtR Γ E X->PS X s t)/\BX Γ.K np (fun n H=>E (.ref (cls n)) none H) t fr f
section
variable {ps:List Str} {G:List PyData->Option (PyData ⊕ Nat)}
end
end
end DL
end
section
namespace L2
open PySem PySem.Spec PyProof.Rows
def DE(K:PySem.W.Frag)(x:Str)(st:Stmt):Prop:=∃f fd,DF K x st f fd
abbrev bnQ(x:Str)(st:Stmt)(ps:List Str):Prop:=∀(kV doc pm:Value) (an:Option Addr) (cdv ct:Value) (us:List Value),us.length=ps.length->bindArgs (PySem.W.fnOf x x (DD st) (CZ st) (BW st) .none kV doc pm an cdv ct) ⟨us,[]⟩=pure (ps.zip us)
section
variable {P:Program} {w:World} {K:PySem.W.Frag} {x:Str} {st:Stmt} {h base:Heap} {mg:Str->Option Value} {k:Nat} {ps:List Str} {sp:Sp}
theorem DE.cal(d:DE K x st)(X:K.In h)(G:h.Ns mainGlobals mg)(o:∀f fd,Fun K x x st f fd->FnOk P w K mg base CX0 k f fd ps sp)(b:bnQ x st ps:=by trivial):Cal P w K mg base k x ps sp:=let ⟨_,_,d⟩:=d;d.cal X G (o _ _ d.2) b
theorem DE.law{fa:Addr}{y:Str}(d:DE K x st)(X:K.In h)(G:h.Ns mainGlobals mg)(hf:mg x=some (.ref fa))(o:∀base f fd,Fun K x x st f fd->FnOk P w K mg base CX0 k f fd [y] sp)(b:∀(kV doc pm:Value) (an:Option Addr) (cdv ct v:Value),bindArgs (PySem.W.fnOf x x (DD st) (CZ st) (BW st) .none kV doc pm an cdv ct) ⟨[v],[]⟩=pure [(y,v)]:=by intros;rfl) :
  ∃fd:FuncData,(∀(s:Shared) (v:Value),BindsTo s fd ⟨[v],[]⟩ [(y,v)])/\∀base:Heap,K.In base->base.Ns mainGlobals mg->FnOk P w K mg base CX0 k fa fd [y] sp:=by
 obtain⟨f,fd,d⟩:=d
 have e:=hf.symm.trans (d.m X G)
 cases e
 obtain⟨_,⟨⟨oc,od,kV,doc,pm,an,cdv,ct,osl,rfl,lk,hcd⟩,kp⟩⟩:=id d
 exact⟨_,fun s v=>.of_eq (b _ _ _ _ _ _ _),fun base _ _=>o base _ _ d.2⟩
end
end L2
namespace DL
open PySem L2 PySem.Spec PyProof.Rows
structure Zz where
 P:Program
 w:World
 K:PySem.W.Frag
 mg:Str->Option Value
 base:Heap
abbrev Zz.kw(Z:Zz):KW:=⟨Z.K,Z.w⟩
abbrev Clz(Z:Zz)(k:Nat)(x:Str)(ps:List Str)(m:Mir)(fr:Bool):Prop:=Cal Z.P Z.w Z.K Z.mg Z.base k x ps (spD Z.kw m fr)
abbrev zQ(Z:Zz)(x:Str):Prop:=Z.mg x=none
abbrev kiZ(Z:Zz)(x:Str)(i:Int)(t:Tok):Prop:=Z.mg x=some (.int i t)
abbrev kaZ(Z:Zz)(x:Str)(d:PyData)(u:Value):Prop:=Z.mg x=some u/\BK Z.kw d u=true
abbrev kdZ(Z:Zz)(x:Str)(tb:List (Str×PyData)):Prop:=∃ad,Z.mg x=some (.ref ad)/\KD Z.kw Z.w ad tb/\(ad==sysModules)=false
def Dd(Z:Zz)(x:Str)(st:Stmt):Prop:=∃h,Z.K.In h/\h.Ns mainGlobals Z.mg/\DE Z.K x st
section
variable {Z:Zz} {x:Str} {st:Stmt} {k:Nat} {ps:List Str}
theorem Dd.cal{sp:Sp}(d:Dd Z x st)(o:∀f fd,Fun Z.K x x st f fd->FnOk Z.P Z.w Z.K Z.mg Z.base CX0 k f fd ps sp)(b:bnQ x st ps:=by trivial):Cal Z.P Z.w Z.K Z.mg Z.base k x ps sp:=let ⟨_,X,G,d⟩:=d;d.cal X G o b
end
end DL
end
section
namespace L2
open PySem PySem.Spec PyProof.Rows PySem.W DL
section
variable {X:Cx} {k:Nat} {f:Addr} {fd:FuncData} {ps:List Str} {x n cn:Str} {e:Expr} {es:List Expr} {t:TA} {pos p p1 p2 py np hp p9 p0:Pos} {D' C:Addr} {i j:Nat} {b₀:Stmt} {suite:List Stmt}
end
end L2
namespace DL
open PySem L2
end DL
end
section
namespace DL
open PySem L2 PySem.Spec PyProof.Rows
section
variable {Z:Zz} {cls:Nat->Addr} {k:Nat} {x:Str} {ps:List Str} {m:List PyData->Option (PyData ⊕ Nat)} {fr:Bool}
end
section
variable {K:KW} {np:Nat}
end
section
variable {Γ:Ct} {np:Nat} {fr:Bool} {f:DX} {c:DT} {g:DA} {a b e:Expr} {es:List Expr} {pos p p1 p2 p3:Pos} {i k:Nat} {x y m:Str}
variable {go:List PyData->List PyData->Option (List PyData)}
end
end DL
end
section
namespace L2
open PySem PySem.Spec PyProof.Rows
section
variable {X:Cx}
end
end L2
namespace DL
open PySem L2 PySem.Spec PyProof.Rows
section
variable {K:KW}
end
section
variable {Γ:Ct} {fr:Bool} {f f':DX} {a b:Expr} {pos p1:Pos} {m:Str} {F:PyData->PyData->Option PyData}
end
theorem VO{P:Program}{w:World}{K:PySem.W.Frag}{mg:Str->Option Value}{base:Heap}{CX:CXT}{k:Nat}{f:Addr}{fd:FuncData}{ps:List Str}{fr:Bool}{Kw:KW}:FnOk P w K mg base CX k f fd ps (spD Kw (fun _=>none) fr) :=
 ⟨fun _ _ _ _ h=>(let ⟨_,_,_,_,_,_,z,_⟩:=h;absurd z (fun y=>Option.some_ne_none _ y.symm)),fun _ _ _ _ _ _ _ _ _ _ _ _ _ h=>(let ⟨_,_,_,_,_,_,z,_⟩:=h;absurd z (fun y=>Option.some_ne_none _ y.symm))⟩
theorem Ca{Z:Zz}{x:Str}{st:Stmt}{k:Nat}{ps:List Str}{fr:Bool}(d:Dd Z x st)(b:bnQ x st ps:=by trivial):Clz Z k x ps (fun _=>none) fr:=d.cal (fun _ _ _=>VO) b
end DL
end
set_option maxHeartbeats 2000000
namespace My
open PySem L2 DL
local macro_rules|`(tactic| trivial)=>`(tactic| first|rfl|(intro _;rfl)|exact .inl rfl|exact .inr rfl|with_unfolding_all rfl|decide|assumption|(intro _ _ _ _ _ _ us hl;first|(match us,hl with|[_],_=>rfl)|(match us,hl with|[_,_],_=>rfl)|(match us,hl with|[_,_,_],_=>rfl)|(match us,hl with|[_,_,_,_],_=>rfl)|(match us,hl with|[_,_,_,_,_],_=>rfl)|(match us,hl with|[],_=>rfl)))
local macro_rules|`(tactic| walk_at "dk")=>`(tactic| decide +kernel)
local macro_rules|`(⋯)=>`(by trivial)
local macro_rules|`(∅)=>`(by decide +kernel)
def top(i:Nat):Stmt:=PySem.Challenge.pw_scenemend_k36_whole_uncovered.main.body.getD i (.Pass ⟨0,0,0,0⟩)
abbrev JH:Stmt:=top 67
abbrev QI:Stmt:=top 68
abbrev JE:Stmt:=top 74
abbrev JA:Stmt:=top 75
abbrev SQ:Stmt:=top 82
abbrev QH:Stmt:=top 69
abbrev HS:Stmt:=top 73
abbrev HX:Stmt:=top 78
abbrev Ff:Stmt:=top 77
abbrev JB:Stmt:=top 76
abbrev I0:Stmt:=top 79
abbrev JG:Stmt:=top 80
abbrev MA:Stmt:=top 81
abbrev KO:Stmt:=top 83
abbrev HW:Stmt:=top 84
abbrev L7:Stmt:=top 101
abbrev JC:Stmt:=top 102
abbrev HY:Stmt:=top 85
abbrev MB:Stmt:=top 96
abbrev Fg:Stmt:=top 99
abbrev Iz:Stmt:=top 64
abbrev Iq:Stmt:=top 38
abbrev KC:Stmt:=top 39
abbrev Iy:Stmt:=top 41
abbrev HK:Stmt:=top 35
abbrev KL:Stmt:=top 49
abbrev J9:Stmt:=top 34
abbrev KG:Stmt:=top 40
abbrev FZ:Stmt:=top 61
abbrev FH:Stmt:=top 27
abbrev Ir:Stmt:=top 13
abbrev Ea:Stmt:=top 25
abbrev Fd:Stmt:=top 24
abbrev Dj:Stmt:=top 26
abbrev Fb:Stmt:=top 51
abbrev FX:Stmt:=top 62
abbrev GZ:Stmt:=top 14
abbrev HL:Stmt:=top 1
abbrev FW:Stmt:=top 31
abbrev HJ:Stmt:=top 44
abbrev J6:Stmt:=top 45
abbrev KI:Stmt:=top 16
abbrev HR:Stmt:=top 17
abbrev KJ:Stmt:=top 47
abbrev HP:Stmt:=top 60
abbrev HN:Stmt:=top 63
abbrev QE:Stmt:=top 36
abbrev QD:Stmt:=top 37
abbrev FI:Stmt:=top 59
abbrev Gb:Stmt:=top 65
abbrev EZ:Stmt:=top 6
abbrev KN:Stmt:=top 7
abbrev SO:Stmt:=top 8
abbrev QC:Stmt:=top 10
abbrev QF:Stmt:=top 9
abbrev J7:Stmt:=top 22
abbrev Io:Stmt:=top 19
abbrev Ip:Stmt:=top 20
abbrev Ga:Stmt:=top 21
abbrev Iv:Stmt:=top 54
abbrev Ge:Stmt:=top 55
abbrev HM:Stmt:=top 12
abbrev Iw:Stmt:=top 52
abbrev Iu:Stmt:=top 56
abbrev FY:Stmt:=top 53
abbrev J8:Stmt:=top 57
abbrev QG:Stmt:=top 71
abbrev Nd:Stmt:=top 90
abbrev FJ:Stmt:=top 91
abbrev QJ:Stmt:=top 70
abbrev Ng:Stmt:=top 72
abbrev Fe:Stmt:=top 92
abbrev JD:Stmt:=top 87
abbrev JF:Stmt:=top 86
abbrev KQ:Stmt:=top 88
abbrev Nf:Stmt:=top 93
abbrev Gf:Stmt:=top 89
abbrev L8:Stmt:=top 94
abbrev KP:Stmt:=top 98
abbrev L9:Stmt:=top 100
abbrev Wd:Stmt:=top 103
def HF:List (Str×PyData):=[("0",(.str "tolrks")),("1",(.str "rs")),("2",(.str "tmork")),("3",(.str "tmors")),("4",(.str "mlrs")),("5",(.str "tmols")),("6",(.str "tmolks")),("7",(.str "trs")),("8",(.str "tmolrks")),("9",(.str "tmolrs")),("a",(.str "tmlrks")),("b",(.str "molks")),("c",(.str "tolk")),("d",(.str "morks")),("e",(.str "tmolk")),("f",(.str "tmlk")),("-",(.str "m")),("_",(.str ""))]
def Ep:List (Str×PyData):=[("t",(.tuple [(.tuple [(.int 0),(.int 0)]),(.tuple [(.int 1),(.int 0)]),(.tuple [(.int 2),(.int 0)])])),("m",(.tuple [(.tuple [(.int 0),(.int 2)]),(.tuple [(.int 1),(.int 2)]),(.tuple [(.int 2),(.int 2)])])),("o",(.tuple [(.tuple [(.int 0),(.int 4)]),(.tuple [(.int 1),(.int 4)]),(.tuple [(.int 2),(.int 4)])])),("l",(.tuple [(.tuple [(.int 0),(.int 0)]),(.tuple [(.int 0),(.int 1)]),(.tuple [(.int 0),(.int 2)])])),("r",(.tuple [(.tuple [(.int 2),(.int 0)]),(.tuple [(.int 2),(.int 1)]),(.tuple [(.int 2),(.int 2)])])),("k",(.tuple [(.tuple [(.int 0),(.int 2)]),(.tuple [(.int 0),(.int 3)]),(.tuple [(.int 0),(.int 4)])])),("s",(.tuple [(.tuple [(.int 2),(.int 2)]),(.tuple [(.int 2),(.int 3)]),(.tuple [(.int 2),(.int 4)])]))]
def BQ:Mir:=Aa false 2 0 (AM (AR (AI (dOp fLt (AB 1) (A2 0))) (AQ (Br 0 (AB 1))) AU) (AQ (dC (.int 0))))
def ED:Mir:=Aa false 2 6 (AM (AN (AY (AA (dC (.int 48271)) (AA (dC (.int 69621)) (AA (dC (.int 16807)) (AA (dC (.int 39373)) (AA (dC (.int 21401)) (AA (dC (.int 60493)) (AA (dC (.int 87721)) (AA (dC (.int 31337)) AD))))))))) (dN 2)) (AM (AN (AY (AA (dC (.int 99991)) (AA (dC (.int 99989)) (AA (dC (.int 99971)) (AA (dC (.int 99961)) (AA (dC (.int 99929)) (AA (dC (.int 99923)) (AA (dC (.int 99907)) (AA (dC (.int 99901)) AD))))))))) (dN 3)) (AM (AN (Ab 0 BQ (AA (AB 1) AD)) (dN 4)) (AM (AR (AI (dOp fGe (AB 4) (dOp Rk (dC (.int 10)) (dC (.int 18))))) (AQ (AB 4)) AU) (AM (AN (dC (.int 0)) (dN 5)) (AM (Bh (dR1 (AA (dC (.int 60)) AD)) (dN 6) (AM (AN (dOp Af (dOp Af (dOp Ac (Ab 0 BQ (AA (dOp Af (AB 1) (dOp Ac (AB 6) (dC (.int 9)))) AD)) (dOp Rk (dC (.int 10)) (dC (.int 18)))) (dC (.int 1))) (dOp An (AB 6) (AB 6))) (dN 7)) (AN (dOp Af (dOp An (AB 5) (dC (.int 7919))) (dOp Ac (dOp Ac (dOp An (AB 7) (dOp AK (AB 2) (dOp Ac (AB 6) (dC (.int 8))))) (dOp AK (AB 3) (dOp Ac (AB 6) (dC (.int 8))))) (dC (.int 7919)))) (dN 5)))) (AQ (AB 5))))))))
def EC:Mir:=Aa false 1 3 (AM (AN (dC (.str "")) (dN 1)) (AM (AN (dOp Af (dC (.int 1)) (dOp Ac (AB 0) (dC (.int 8)))) (dN 2)) (AM (AN (dOp Ag (AB 0) (dC (.int 8))) (dN 0)) (AM (Bh (dR1 (AA (AB 2) AD)) (dN 3) (AM (AN (dOp Fu (AB 1) (dOp Dm (dC (.str "abcdefghijklmnopqrstuvwxyz0123456789")) (dOp Ac (AB 0) (dC (.int 36))))) (dN 1)) (AN (dOp Ag (AB 0) (dC (.int 36))) (dN 0)))) (AQ (AY (AA (AB 1) (AA (AB 0) AD))))))))
def BP:Mir:=Aa false 1 0 (AM (AR (AI (dOp fEq (dOp Ac (AB 0) (dC (.int 6))) (dC (.int 0)))) (AQ (AY (AA (dOp Am (dOp Ac (dOp Ag (AB 0) (dC (.int 6))) (dC (.int 121))) (dC (.int 60))) (AA (dOp Ag (AB 0) (dC (.int 726))) AD)))) AU) (AQ (AY (AA (dOp Am (dOp Ac (dOp Ag (AB 0) (dC (.int 6))) (dC (.int 12))) (dC (.int 3))) (AA (dOp Ag (AB 0) (dC (.int 72))) AD)))))
def Fo:Mir:=Aa true 2 3 (AM (EU 2 2) (AM (Oa 2 3) (AM (Bh (dIL (AB 0)) (dN 4) (Hx 3 (AB 4) (dOp AK (AB 4) (dC (.int 0))))) (AM (Fv (fun _=>100) (Av (AI (dOp fNe (AB 1) (dC (.str "")))) (AI (Lo false (AB 1) 3))) (AM (A3 (dMt 2 Ap (AA (AB 1) AD))) (AN (dOp AK (Ln 3 (AB 1)) (dC (.int 1))) (dN 1)))) (C2 2 2)))))
def DY:Mir:=Aa false 2 2 (AM (BY 2 3 (AA (Ah GY (AA (AB 0) AD)) (AA (AB 1) AD))) (AM (Fv (Wu 3) (AI (dOp fGt (AB 3) (dC (.int 0)))) (BY 2 3 (AA (AB 3) (AA (dOp Ac (AB 2) (AB 3)) AD)))) (AQ (AY (AA (dOp Ag (AB 0) (AB 2)) (AA (dOp Ag (AB 1) (AB 2)) AD))))))
def Bp:Mir:=Aa false 1 1 (AM (AN (dOp AK (AY (AA (dC (.int 1)) (AA (dC (.int 1)) (AA (dC (.int 2)) (AA (dC (.int 3)) AD))))) (dOp Ac (AB 0) (dC (.int 4)))) (dN 1)) (AM (AR (AI (dOp fEq (dOp Ac (dOp Ag (AB 0) (dC (.int 4))) (dC (.int 4))) (dC (.int 0)))) (AN (dOp Af (dC (.int 1)) (dOp Ac (dOp Ag (AB 0) (dC (.int 16))) (dC (.int 12)))) (dN 1)) AU) (AM (AR (AI (dOp fEq (dOp Ac (dOp Ag (AB 0) (dC (.int 4))) (dC (.int 16))) (dC (.int 1)))) (AN (dOp Af (dC (.int 1)) (dOp Ac (dOp Ag (AB 0) (dC (.int 16))) (dC (.int 12)))) (dN 1)) AU) (AM (AN (dOp Ag (AB 0) (dC (.int 16000))) (dN 0)) (AQ (AY (AA (AH DY (AA (dOp Ac (AB 0) (dOp Af (AB 1) (dC (.int 1)))) (AA (AB 1) AD))) (AA (dOp Ag (AB 0) (dOp Af (AB 1) (dC (.int 1)))) AD))))))))
def CF:Mir:=Aa false 1 2 (AM (AN (AH Bp (AA (AB 0) AD)) (dGT (AW (dN 1) (AW (dN 0) A0)))) (AM (AR (AI (dOp fEq (dOp Ac (AB 0) (dC (.int 3))) (dC (.int 0)))) (AQ (AY (AA (AB 1) (AA (AY (AA (dC (.int 1)) (AA (dC (.int 1)) AD))) (AA (dOp Ag (AB 0) (dC (.int 3))) AD))))) AU) (AM (AN (AH Bp (AA (dOp Ag (AB 0) (dC (.int 3))) AD)) (dGT (AW (dN 2) (AW (dN 0) A0)))) (AQ (AY (AA (AB 1) (AA (AB 2) (AA (AB 0) AD))))))))
def Cp:Mir:=Aa false 1 6 (AM (AN (dOp Af (dC (.int 1)) (dOp Ac (AB 0) (dC (.int 8)))) (dN 1)) (AM (AN (dOp Af (dC (.int 1)) (dOp Ac (dOp Ag (AB 0) (dC (.int 8))) (dC (.int 8)))) (dN 2)) (AM (AN (dOp Ag (AB 0) (dC (.int 64))) (dN 0)) (AM (EU 1 3) (AM (Bh (dR1 (AA (AB 2) AD)) (dN 4) (AM (AN (dC (.str "")) (dN 5)) (AM (Bh (dR1 (AA (AB 1) AD)) (dN 6) (AM (AN (dOp Fu (AB 5) (dOp Dm (dC (.str "#.")) (dOp Ac (AB 0) (dC (.int 2))))) (dN 5)) (AN (dOp Ag (AB 0) (dC (.int 2))) (dN 0)))) (A3 (dMt 3 Ap (AA (AB 5) AD)))))) (AQ (DN 3 (AY (AA (Ah Kz (AA (AB 3) AD)) (AA (AB 0) AD))))))))))
def Bn:Mir:=Aa false 2 0 (AM (AR (AI (dOp fEq (dOp Ac (AB 0) (dC (.int 8))) (dC (.int 0)))) (AQ (AY (AA (dOp Af (dC (.int 1)) (dOp Ac (dOp Ag (AB 0) (dC (.int 8))) (AB 1))) (AA (dOp Ag (dOp Ag (AB 0) (dC (.int 8))) (AB 1)) AD)))) AU) (AQ (AY (AA (dOp Af (dC (.int 1)) (dOp Ac (dOp Ag (AB 0) (dC (.int 8))) (dC (.int 5)))) (AA (dOp Ag (AB 0) (dC (.int 40))) AD)))))
def EA:Mir:=Aa false 1 3 (AM (AN (dC (.str "")) (dN 1)) (AM (AN (dOp Ac (AB 0) (dC (.int 7))) (dN 2)) (AM (AN (dOp Ag (AB 0) (dC (.int 7))) (dN 0)) (AM (Bh (dR1 (AA (AB 2) AD)) (dN 3) (AM (AN (dOp Fu (AB 1) (dOp Dm (dC (.str "0123456789abcdef-_")) (dOp Ac (AB 0) (dC (.int 18))))) (dN 1)) (AN (dOp Ag (AB 0) (dC (.int 18))) (dN 0)))) (AQ (AY (AA (AB 1) (AA (AB 0) AD))))))))
def Ak:Mir:=Aa false 2 9 (AM (AR (AI (dOp (fIn false) (AB 0) (AY (AA (dC (.str "group")) (AA (dC (.str "mask")) AD))))) (AQ (AY (AA (AY AD) (AA (AB 1) AD)))) AU) (AM (AR (AI (dOp fEq (AB 0) (dC (.str "turn")))) (AQ (AY (AA (AY (AA (dOp Ac (AB 1) (dC (.int 4))) (AA (dOp fEq (dOp Ac (dOp Ag (AB 1) (dC (.int 4))) (dC (.int 2))) (dC (.int 1))) AD))) (AA (dOp Ag (AB 1) (dC (.int 8))) AD)))) AU) (AM (AR (AI (dOp fEq (AB 0) (dC (.str "tiles")))) (AM (AN (AY (AA (dOp Af (dC (.int 1)) (dOp Ac (dOp Ac (AB 1) (dC (.int 3))) (dC (.int 2)))) (AA (dOp Af (dC (.int 1)) (dOp Ac (dOp Ac (dOp Ag (AB 1) (dC (.int 3))) (dC (.int 3))) (dC (.int 2)))) (AA (dOp Am (dOp Ac (dOp Ag (AB 1) (dC (.int 9))) (dC (.int 41))) (dC (.int 20))) (AA (dOp Am (dOp Ac (dOp Ag (AB 1) (dC (.int 369))) (dC (.int 41))) (dC (.int 20))) AD))))) (dN 2)) (AM (AR (AI (dOp fGt (dOp Ac (dOp Ag (AB 1) (dC (.int 15129))) (dC (.int 4))) (dC (.int 0)))) (AN (dOp FN (ET (AB 2) CK (dPt (dC (.int 2)))) (AY (AA (dOp Ac (dOp AK (AB 2) (dC (.int 2))) (dC (.int 7))) (AA (dOp Ac (dOp AK (AB 2) (dC (.int 3))) (dC (.int 7))) AD)))) (dN 2)) AU) (AQ (AY (AA (AB 2) (AA (dOp Ag (AB 1) (dC (.int 60516))) AD)))))) AU) (AM (AR (AI (dOp fEq (AB 0) (dC (.str "window")))) (AM (AN (AH Bn (AA (AB 1) (AA (dC (.int 16)) AD))) (dGT (AW (dN 3) (AW (dN 1) A0)))) (AM (AN (AH Bn (AA (AB 1) (AA (dC (.int 16)) AD))) (dGT (AW (dN 4) (AW (dN 1) A0)))) (AM (AN (AH BP (AA (AB 1) AD)) (dGT (AW (dN 5) (AW (dN 1) A0)))) (AM (AN (AH BP (AA (AB 1) AD)) (dGT (AW (dN 6) (AW (dN 1) A0)))) (AQ (AY (AA (AY (AA (AB 3) (AA (AB 4) (AA (AB 5) (AA (AB 6) AD))))) (AA (AB 1) AD)))))))) AU) (AM (AN (AH CF (AA (AB 1) AD)) (dGT (AW (dN 7) (AW (dN 8) (AW (dN 1) A0))))) (AM (AR (AI (dOp fEq (AB 0) (dC (.str "glass")))) (AQ (AY (AA (AY (AA (AB 8) AD)) (AA (AB 1) AD)))) AU) (AM (AR (AI (dOp fEq (AB 0) (dC (.str "plate")))) (AM (AN (AH Bn (AA (AB 1) (AA (dC (.int 6)) AD))) (dGT (AW (dN 3) (AW (dN 1) A0)))) (AM (AN (AH Bn (AA (AB 1) (AA (dC (.int 6)) AD))) (dGT (AW (dN 4) (AW (dN 1) A0)))) (AQ (AY (AA (AY (AA (AB 3) (AA (AB 4) (AA (AB 7) (AA (AB 8) AD))))) (AA (AB 1) AD)))))) AU) (AM (AR (AI (dOp fEq (AB 0) (dC (.str "band")))) (AQ (AY (AA (AY (AA (dOp Am (dOp Ac (AB 1) (dC (.int 25))) (dC (.int 12))) (AA (dOp Am (dOp Ac (dOp Ag (AB 1) (dC (.int 25))) (dC (.int 25))) (dC (.int 12))) (AA (AB 7) (AA (AB 8) AD))))) (AA (dOp Ag (AB 1) (dC (.int 625))) AD)))) AU) (AM (AR (AI (dOp fEq (AB 0) (dC (.str "word")))) (AM (AN (AH EA (AA (AB 1) AD)) (dGT (AW (dN 9) (AW (dN 1) A0)))) (AQ (AY (AA (AY (AA (AB 9) (AA (AB 7) (AA (AB 8) AD)))) (AA (AB 1) AD))))) AU) (AM (AN (AH Cp (AA (AB 1) AD)) (dGT (AW (dN 10) (AW (dN 1) A0)))) (AQ (AY (AA (AY (AA (AB 10) (AA (AB 7) (AA (AB 8) AD)))) (AA (AB 1) AD))))))))))))))
def Bb:Mir:=Aa false 0 1 (AM (AN (AY (AA (dC (.str "plate")) (AA (dC (.str "band")) (AA (dC (.str "word")) (AA (dC (.str "stencil")) (AA (dC (.str "plate")) (AA (dC (.str "stencil")) AD))))))) (dN 0)) (AQ (dOp FN (AB 0) (AY (AA (dC (.str "group")) (AA (dC (.str "glass")) (AA (dC (.str "window")) (AA (dC (.str "turn")) (AA (dC (.str "tiles")) (AA (dC (.str "mask")) AD))))))))))
def C4:Mir:=Aa false 2 10 (AM (AN (AH EC (AA (AB 1) AD)) (dGT (AW (dN 2) (AW (dN 1) A0)))) (AM (Fw 2 3 (Bw (AA (dC (.str "")) AD))) (AM (Bh (dIL (AB 0)) (dN 4) (AR (Av (AI (dOp (fIn false) (dOp AK (AB 4) (dC (.int 5))) (ET (AH Bb AD) (dPt (dC (.int 6))) CK))) (AI (dOp fLt (Ah BO (AA (AH Fo (AA (AB 0) (AA (dOp AK (AB 4) (dC (.int 0))) AD))) AD)) (dC (.int 7))))) (A3 (dMt 3 Ap (AA (dOp AK (AB 4) (dC (.int 0))) AD))) AU)) (AM (AN (DN 3 (dOp FR (AB 3) (dOp Ac (AB 1) (Ah BO (AA (AB 3) AD))))) (dN 5)) (AM (AR (Bt 3 (AI (dOp fEq (dOp Ac (dOp Ag (AB 1) (Ah BO (AA (AB 3) AD))) (dC (.int 2))) (dC (.int 0))))) (AN (DN 3 (dOp FR (AB 3) (dUn Bm (dC (.int 1))))) (dN 5)) AU) (AM (AN (DN 3 (dOp Ag (dOp Ag (AB 1) (Ah BO (AA (AB 3) AD))) (dC (.int 2)))) (dN 1)) (AM (AN (AH BP (AA (AB 1) AD)) (dGT (AW (dN 6) (AW (dN 1) A0)))) (AM (AN (AH BP (AA (AB 1) AD)) (dGT (AW (dN 7) (AW (dN 1) A0)))) (AM (AN (dOp AK (AH Bb AD) (dOp Ac (AB 1) (dC (.int 12)))) (dN 8)) (AM (AN (AH Fo (AA (AB 0) (AA (AB 5) AD))) (dN 9)) (AM (AR (Av (AI (dOp fEq (AB 8) (dC (.str "tiles")))) (AI (dOp fNe (dLC 1 [9] (dIL (AB 0)) (dN 0) (Av (AI (dOp (fIn false) (dOp AK (AB 0) (dC (.int 0))) (AB 1))) (AI (dOp fEq (dOp AK (AB 0) (dC (.int 5))) (dC (.str "tiles"))))) (AB 0)) (Bw AD)))) (AN (dC (.str "group")) (dN 8)) AU) (AM (AN (dOp fGt (dOp Ac (dOp Ag (AB 1) (dC (.int 12))) (dC (.int 8))) (dC (.int 0))) (dN 10)) (AM (AN (AH Ak (AA (AB 8) (AA (dOp Ag (AB 1) (dC (.int 96))) AD))) (dGT (AW (dN 11) (AW (dN 1) A0)))) (AQ (AY (AA (AY (AA (AB 2) (AA (AB 5) (AA (AB 6) (AA (AB 7) (AA (AB 10) (AA (AB 8) (AA (AB 11) AD)))))))) (AA (AB 1) AD)))))))))))))))))
def CD:Mir:=Aa true 3 4 (AM (EU 3 3) (AM (Bh (dR1 (AA (AB 2) AD)) (dN 4) (AM (AN (DN 3 (AH C4 (AA (AB 3) (AA (Ab 0 ED (AA (dOp Af (AB 1) (AB 4)) AD)) AD)))) (dGT (AW (dN 5) (AW (dN 6) A0)))) (AR (Bt 3 (AI (dOp (fIn true) (dOp AK (AB 5) (dC (.int 0))) (dLC 1 [] (dIL (AB 3)) (dN 0) Cu (dOp AK (AB 0) (dC (.int 0))))))) (A3 (dMt 3 Ap (AA (AB 5) AD))) AU))) (C2 3 3)))
def Ef:Mir:=Aa false 1 0 (AM (AR (AI (dOp (fIn false) (dOp AK (AB 0) (dC (.int 5))) (ET (AH Bb AD) (dPt (dC (.int 6))) CK))) (AQ (dOp FN (ET (AB 0) CK (dPt (dC (.int 5)))) (AY (AA (dC (.str "group")) (AA (AY AD) AD))))) AU) (AQ (dOp FN (ET (AB 0) CK (dPt (dC (.int 5)))) (AY (AA (dC (.str "plate")) (AA (AY (AA (dOp Af (dC (.int 1)) (dOp Ac (Ah BO (AA (dOp AK (AB 0) (dC (.int 0))) AD)) (dC (.int 2)))) (AA (dOp Af (dC (.int 1)) (dOp Ac (dOp AK (AB 0) (dC (.int 2))) (dC (.int 2)))) (AA (dOp AK (dOp AK (AB 0) (dC (.int 6))) (dUn Bm (dC (.int 2)))) (AA (dOp AK (dOp AK (AB 0) (dC (.int 6))) (dUn Bm (dC (.int 1)))) AD))))) AD))))))
def Ck:Mir:=Aa true 2 0 (AM (AR (AI (dOp fEq (dOp Ac (dOp Ac (Ab 0 BQ (AA (dC (.int 1)) AD)) (dC (.int 1000003))) (dC (.int 8))) (dC (.int 3)))) (AQ (dLC 1 [] (dIL (Ab 0 CD (AA (dC (.int 1)) (AA (dC (.int 24)) AD)))) (dN 0) Cu (AH Ef (AA (AB 0) AD)))) AU) (AQ (Ab 0 CD (AA (dC (.int 1)) (AA (AB 1) AD)))))
def Cq:Mir:=Aa false 3 2 (AM (AN (AH Bp (AA (dOp Ag (dOp Ag (AB 0) (AB 1)) (AB 2)) AD)) (dGT (AW (dN 3) (AW (dN 4) A0)))) (AQ (AY (AA (dOp Af (dC (.int 1)) (dOp Ac (AB 0) (AB 1))) (AA (dOp Af (dC (.int 1)) (dOp Ac (dOp Ag (AB 0) (AB 1)) (AB 2))) (AA (AB 3) AD))))))
def Ei:Mir:=Aa true 2 3 (AM (Oa 2 2) (AM (Bh (dIL (AB 0)) (dN 3) (Hx 2 (AB 3) (dOp AK (AB 3) (dC (.int 0))))) (AM (EU 2 4) (AM (Fv (fun _=>100) (AI (Lo false (AB 1) 2)) (AM (A3 (dMt 4 Ap (AA (AB 1) AD))) (AN (dOp AK (Ln 2 (AB 1)) (dC (.int 1))) (dN 1)))) (AQ (EJ 4 (dSl (AB 4) (dPt (dC (.int 1))) CK)))))))
def Bk:Mir:=Aa false 2 3 (AM (AN (dOp Ro (Bw (AA (AB 1) AD)) (AH Ei (AA (AB 0) (AA (AB 1) AD)))) (dN 2)) (AM (Bh (dIL (AB 0)) (dN 3) (AR (Av (AI (dOp fEq (dOp AK (AB 3) (dC (.int 5))) (dC (.str "mask")))) (AI (dOp (fIn false) (dOp AK (AB 3) (dC (.int 0))) (AB 2)))) (AM (AN (dLC 1 [3] (dIL (AB 0)) (dN 0) (AI (dOp fEq (dOp AK (AB 0) (dC (.int 1))) (dOp AK (AB 1) (dC (.int 0))))) (dOp AK (AB 0) (dC (.int 0)))) (dN 4)) (AR (Av (AI (dOp fNe (AB 4) (Bw AD))) (AI (dOp (fIn false) (dOp FR (AB 4) (dC (.int 0))) (AB 2)))) (AQ (dC (.bool true))) AU)) AU)) (AQ (dC (.bool false)))))
def D1:Mir:=Aa true 1 2 (AM (EU 1 1) (AM (Bh (dIL (AB 0)) (dN 2) (AR (Bt 1 (AI (dOp (fIn true) (AB 2) (AB 1)))) (A3 (dMt 1 Ap (AA (AB 2) AD))) AU)) (C2 1 1)))
def Be:Mir:=Aa false 1 0 (AQ (dOp AK (AB 0) (dC (.int 4))))
def Ao:Mir:=Aa false 1 0 (AQ (dOp AK (AB 0) (dC (.int 5))))
def Bf:Mir:=Aa false 1 0 (AQ (dOp (fIn false) (AH Ao (AA (AB 0) AD)) (dC (.tuple [(.str "group"),(.str "glass"),(.str "window"),(.str "turn"),(.str "tiles"),(.str "mask")]))))
def E3:Mir:=Aa false 1 0 (AQ (dOp AK (AB 0) (dC (.int 1))))
def BF:Mir:=Aa true 2 0 (AQ (dLC 1 [1] (dIL (AB 0)) (dN 0) (AI (dOp fEq (AH E3 (AA (AB 0) AD)) (AB 1))) (AB 0)))
def B3:Mir:=Aa false 1 0 (AQ (dOp AK (AB 0) (dC (.int 0))))
def Ax:Mir:=Aa false 1 0 (AQ (dOp AK (AB 0) (dC (.int 6))))
def Cd(m_content_kids m_holder_names m_part_names m_content_names:Mir):Mir:=Aa false 4 1 (AM (AN (AH BF (AA (AB 0) (AA (AH B3 (AA (AB 1) AD)) AD))) (dN 4)) (AM (AR (Av (AI (dOp fEq (AH Ao (AA (AB 1) AD)) (dC (.str "glass")))) (AI (dOp fEq (dOp AK (AH Ax (AA (AB 1) AD)) (dC (.int 0))) (AY (AA (dC (.int 0)) (AA (dC (.int 1)) AD)))))) (AQ (Bw AD)) AU) (AM (AR (AI (dOp fNe (AH Ao (AA (AB 1) AD)) (dC (.str "mask")))) (AQ (AB 4)) AU) (AQ (dIf (AI (dOp fGt (Ah BO (AA (AH m_content_names (AA (AB 0) (AA (dSl (AB 4) CK (dPt (dC (.int 1)))) (AA (AB 2) (AA (AB 3) AD))))) AD)) (dC (.int 0)))) (dSl (AB 4) (dPt (dC (.int 1))) CK) (Bw AD))))))
def CY:Mir:=Aa true 4 2 (AM (EU 4 4) (AM (Bh (dR1 (AA (AB 1) AD)) (dN 5) (A3 (dMt 4 BZ (AA (dLC 1 [2,5,3] (dR1 (AA (AB 0) AD)) (dN 0) Cu (AY (AA (dOp An (AB 0) (AB 1)) (AA (dOp An (AB 2) (AB 3)) AD)))) AD)))) (C2 4 4)))
def D0:Mir:=Aa false 4 0 (AQ (By (Aq fLe fLt (dC (.int 0)) (AB 2) (AB 0)) (Aq fLe fLt (dC (.int 0)) (AB 3) (AB 1))))
def Ee:Mir:=Aa false 2 2 (AM (AN (AB 0) (dN 2)) (AM (Bh (dR1 (AA (dOp Ac (AB 1) (dC (.int 4))) AD)) (dN 3) (AN (AY (AA (dUn Bm (dOp AK (AB 2) (dC (.int 1)))) (AA (dOp AK (AB 2) (dC (.int 0))) AD))) (dN 2))) (AQ (AB 2))))
def Fm:Mir:=Aa false 1 0 (AQ (AY (AA (dUn Bm (dOp AK (AB 0) (dC (.int 0)))) (AA (dOp AK (AB 0) (dC (.int 1))) AD))))
def BV:Mir:=Aa false 3 1 (AM (AN (AH Ee (AA (AB 0) (AA (dUn Bm (AB 1)) AD))) (dN 3)) (AQ (dIf (AI (AB 2)) (AH Fm (AA (AB 3) AD)) (AB 3))))
def BU:Mir:=Aa true 3 3 (AM (AN (AH Ao (AA (AB 0) AD)) (dN 3)) (AM (AN (AH Ax (AA (AB 0) AD)) (dN 4)) (AM (AR (AI (dOp fEq (AB 3) (dC (.str "window")))) (AQ (dIf (AI (AH D0 (AA (dOp AK (AB 4) (dC (.int 0))) (AA (dOp AK (AB 4) (dC (.int 1))) (AA (AB 1) (AA (AB 2) AD)))))) (Bw (AA (AY (AA (dOp Af (AB 1) (dOp AK (AB 4) (dC (.int 2)))) (AA (dOp Af (AB 2) (dOp AK (AB 4) (dC (.int 3)))) AD))) AD)) (Bw AD))) AU) (AM (AR (AI (dOp fEq (AB 3) (dC (.str "turn")))) (AQ (Bw (AA (AH BV (AA (AY (AA (AB 1) (AA (AB 2) AD))) (AA (dOp AK (AB 4) (dC (.int 0))) (AA (dOp AK (AB 4) (dC (.int 1))) AD)))) AD))) AU) (AM (AR (AI (dOp fEq (AB 3) (dC (.str "tiles")))) (AM (AN (AH CY (AA (dOp AK (AB 4) (dC (.int 0))) (AA (dOp AK (AB 4) (dC (.int 1))) (AA (dOp AK (AB 4) (dC (.int 2))) (AA (dOp AK (AB 4) (dC (.int 3))) AD))))) (dN 5)) (AQ (dLC 2 [1,2] (dIL (AB 5)) (dGT (AW (dN 0) (AW (dN 1) A0))) Cu (AY (AA (dOp Am (AB 2) (AB 0)) (AA (dOp Am (AB 3) (AB 1)) AD)))))) AU) (AQ (Bw (AA (AY (AA (AB 1) (AA (AB 2) AD))) AD))))))))
def Cb(m_content_kids m_holder_names m_part_names m_content_names:Mir):Mir:=Aa true 4 3 (AM (AN (AH m_content_kids (AA (AB 0) (AA (AB 1) (AA (AB 2) (AA (AB 3) AD))))) (dN 4)) (AM (EU 4 5) (AM (Bh (dIV (AH BU (AA (AB 1) (AA (AB 2) (AA (AB 3) AD))))) (dN 6) (A3 (dMt 5 BZ (AA (AH m_content_names (AA (AB 0) (AA (AB 4) (AA (dOp AK (AB 6) (dC (.int 0))) (AA (dOp AK (AB 6) (dC (.int 1))) AD))))) AD)))) (C2 4 5))))
def Gh:Mir:=Aa false 3 0 (AQ (By (Aq fLe fLt (dC (.int 0)) (AB 2) (Ah BO (AA (AB 0) AD))) (By (Aq fLe fLt (dC (.int 0)) (AB 1) (Ah BO (AA (dOp AK (AB 0) (AB 2)) AD))) (dOp fEq (dOp Dm (dOp AK (AB 0) (AB 2)) (AB 1)) (dC (.str "#"))))))
def Hm:Mir:=Aa true 1 1 (AM (AN (dSS (dLC 2 [] (dIL (AB 0)) (dGT (AW (dN 0) (AW (dN 1) A0))) Cu (AY (AA (AB 1) (AA (AB 0) AD))))) (dN 1)) (AQ (dLC 2 [] (dIL (AB 1)) (dGT (AW (dN 0) (AW (dN 1) A0))) Cu (AY (AA (AB 1) (AA (AB 0) AD))))))
def Fl:Mir:=Aa true 1 2 (AM (EU 1 1) (AM (Bh (dIS (dKd HF (AB 0))) (dN 2) (A3 (dMt 1 BZ (AA (Ah Cr (AA (dKd Ep (AB 2)) AD)) AD)))) (C2 1 1)))
def B9:Mir:=Aa true 1 0 (AQ (AH Hm (AA (AH Fl (AA (AB 0) AD)) AD)))
def Kl:Mir:=Aa false 3 1 (AM (AN (dOp Ag (AB 1) (dC (.int 4))) (dN 3)) (AQ (By (Aq fLe fLt (dC (.int 0)) (AB 3) (Ah BO (AA (AB 0) AD))) (dOp (fIn false) (AY (AA (dOp Am (AB 1) (dOp An (dC (.int 4)) (AB 3))) (AA (AB 2) AD))) (AH B9 (AA (dOp Dm (AB 0) (AB 3)) AD))))))
def Cf:Mir:=Aa false 3 0 (AQ (dOp Ag (dOp Af (dOp An (dOp An (dC (.int 2)) (AB 0)) (AB 2)) (AB 1)) (dOp An (dC (.int 2)) (AB 1))))
def DW:Mir:=Aa true 2 1 (AM (AN (Ah Ft (AA (Ah GY (AA (AB 0) AD)) (AA (Ah GY (AA (AB 1) AD)) AD))) (dN 2)) (AM (AR (AI (dOp fEq (AB 2) (dC (.int 0)))) (AQ (Bw (AA (AY (AA (dC (.int 0)) (AA (dC (.int 0)) AD))) AD))) AU) (AQ (dLC 1 [2,0,1] (dR1 (AA (dOp Af (AB 2) (dC (.int 1))) AD)) (dN 0) Cu (AY (AA (AH Cf (AA (AB 0) (AA (AB 1) (AA (AB 2) AD)))) (AA (AH Cf (AA (AB 0) (AA (AB 1) (AA (AB 3) AD)))) AD)))))))
def BS:Mir:=Aa false 3 2 (AM (AN (AH Ao (AA (AB 0) AD)) (dN 3)) (AM (AN (AH Ax (AA (AB 0) AD)) (dN 4)) (AM (AR (AI (dOp fEq (AB 3) (dC (.str "plate")))) (AQ (AH D0 (AA (dOp AK (AB 4) (dC (.int 0))) (AA (dOp AK (AB 4) (dC (.int 1))) (AA (AB 1) (AA (AB 2) AD)))))) AU) (AM (AR (AI (dOp fEq (AB 3) (dC (.str "band")))) (AQ (dOp (fIn false) (AY (AA (AB 1) (AA (AB 2) AD))) (AH DW (AA (dOp AK (AB 4) (dC (.int 0))) (AA (dOp AK (AB 4) (dC (.int 1))) AD))))) AU) (AM (AR (AI (dOp fEq (AB 3) (dC (.str "word")))) (AQ (AH Kl (AA (dOp AK (AB 4) (dC (.int 0))) (AA (AB 1) (AA (AB 2) AD))))) AU) (AQ (AH Gh (AA (dOp AK (AB 4) (dC (.int 0))) (AA (AB 1) (AA (AB 2) AD))))))))))
def CB:Mir:=Aa true 3 1 (AM (AN (dOp fNe (dOp AK (AH Ax (AA (AB 0) AD)) (dUn Bm (dC (.int 1)))) (AY (AA (dC (.int 0)) (AA (dC (.int 1)) AD)))) (dN 3)) (AQ (dIf (Av (AI (AB 3)) (AI (AH BS (AA (AB 0) (AA (AB 1) (AA (AB 2) AD)))))) (Bw (AA (AH B3 (AA (AB 0) AD)) AD)) (Bw AD))))
def DJ(m_content_kids m_holder_names m_part_names m_content_names:Mir):Mir:=Aa true 4 0 (AQ (dIf (AI (AH Bf (AA (AB 1) AD))) (AH m_holder_names (AA (AB 0) (AA (AB 1) (AA (AB 2) (AA (AB 3) AD))))) (AH CB (AA (AB 1) (AA (AB 2) (AA (AB 3) AD))))))
def DU:Mir:=Aa false 1 0 (AQ (dOp AK (AB 0) (dC (.int 2))))
def DR:Mir:=Aa false 1 0 (AQ (dOp AK (AB 0) (dC (.int 3))))
def CJ(m_content_kids m_holder_names m_part_names m_content_names:Mir):Mir:=Aa true 4 2 (AM (EU 4 4) (AM (Bh (dIV (AB 1)) (dN 5) (AR (AI (AH Be (AA (AB 5) AD))) (A3 (dMt 4 BZ (AA (AH m_part_names (AA (AB 0) (AA (AB 5) (AA (dOp Am (AB 2) (AH DU (AA (AB 5) AD))) (AA (dOp Am (AB 3) (AH DR (AA (AB 5) AD))) AD))))) AD))) AU)) (C2 4 4)))
def AJ:Nat->Nat->Mir
 |0,_=>fun _=>none
 |n+1,0=>Cd (AJ n 0) (AJ n 1) (AJ n 2) (AJ n 3)
 |n+1,1=>Cb (AJ n 0) (AJ n 1) (AJ n 2) (AJ n 3)
 |n+1,2=>DJ (AJ n 0) (AJ n 1) (AJ n 2) (AJ n 3)
 |n+1,3=>CJ (AJ n 0) (AJ n 1) (AJ n 2) (AJ n 3)
 |_+1,_=>fun _=>none
def m_content_kids:Mir:=(AJ 120 0)
def m_holder_names:Mir:=(AJ 120 1)
def m_part_names:Mir:=(AJ 120 2)
def m_content_names:Mir:=(AJ 120 3)
def CQ:Mir:=Aa true 3 0 (AQ (AH D1 (AA (AH m_content_names (AA (AB 0) (AA (AH BF (AA (AB 0) (AA (dC (.str "")) AD))) (AA (AB 1) (AA (AB 2) AD))))) AD)))
def CC:Mir:=Aa false 2 3 (AM (AN (Ah GY (AA (AB 0) AD)) (dN 2)) (AM (AN (Ah GY (AA (AB 1) AD)) (dN 3)) (AM (Fv (Wu 3) (AI (dOp fNe (AB 3) (dC (.int 0)))) (AM (AN (dOp Ac (AB 2) (AB 3)) (dN 4)) (AM (AN (AB 3) (dN 2)) (AN (AB 4) (dN 3))))) (AQ (AB 2)))))
def C3:Mir:=Aa false 2 1 (AM (AR (AI (dOp fEq (AB 1) (dC (.int 0)))) EV AU) (AM (AN (AH CC (AA (AB 0) (AA (AB 1) AD))) (dN 2)) (AM (AR (AI (dOp fLt (AB 1) (dC (.int 0)))) (AN (dUn Bm (AB 2)) (dN 2)) AU) (AQ (AY (AA (dOp Ag (AB 0) (AB 2)) (AA (dOp Ag (AB 1) (AB 2)) AD)))))))
def IQ:Mir:=Aa false 2 0 (AQ (AH C3 (AA (dOp Af (dOp An (dOp AK (AB 0) (dC (.int 0))) (dOp AK (AB 1) (dC (.int 1)))) (dOp An (dOp AK (AB 1) (dC (.int 0))) (dOp AK (AB 0) (dC (.int 1))))) (AA (dOp An (dOp AK (AB 0) (dC (.int 1))) (dOp AK (AB 1) (dC (.int 1)))) AD))))
def CV:Mir:=Aa false 2 0 (AQ (AH C3 (AA (dOp An (dOp AK (AB 0) (dC (.int 0))) (dOp AK (AB 1) (dC (.int 0)))) (AA (dOp An (dOp AK (AB 0) (dC (.int 1))) (dOp AK (AB 1) (dC (.int 1)))) AD))))
def E4:Mir:=Aa false 2 0 (AQ (AH C3 (AA (dOp Am (dOp An (dOp AK (AB 0) (dC (.int 0))) (dOp AK (AB 1) (dC (.int 1)))) (dOp An (dOp AK (AB 1) (dC (.int 0))) (dOp AK (AB 0) (dC (.int 1))))) (AA (dOp An (dOp AK (AB 0) (dC (.int 1))) (dOp AK (AB 1) (dC (.int 1)))) AD))))
def E2:Mir:=Aa false 2 0 (AM (AR (AI (dOp Cs (AB 0) (dC .none))) (AQ (AB 1)) AU) (AQ (AH IQ (AA (dOp AK (AB 0) (dC (.int 0))) (AA (AH CV (AA (AB 1) (AA (AH E4 (AA (AY (AA (dC (.int 1)) (AA (dC (.int 1)) AD))) (AA (dOp AK (AB 0) (dC (.int 1))) AD))) AD))) AD)))))
def Dy:Mir:=Aa false 2 3 (AM (AN (AH E4 (AA (AY (AA (dC (.int 1)) (AA (dC (.int 1)) AD))) (AA (dOp AK (AB 0) (dC (.int 1))) AD))) (dN 2)) (AM (AN (AH IQ (AA (dOp AK (AB 0) (dC (.int 0))) (AA (AH CV (AA (dOp AK (AB 1) (dC (.int 0))) (AA (AB 2) AD))) AD))) (dN 3)) (AM (AN (AH IQ (AA (dOp AK (AB 0) (dC (.int 1))) (AA (AH CV (AA (dOp AK (AB 1) (dC (.int 1))) (AA (AB 2) AD))) AD))) (dN 4)) (AQ (AY (AA (AB 3) (AA (AB 4) AD)))))))
def B0:Mir:=Aa false 2 0 (AM (AR (AI (dOp Cs (AB 0) (dC .none))) (AQ (AB 1)) AU) (AM (AR (AI (dOp Cs (AB 1) (dC .none))) (AQ (AB 0)) AU) (AQ (AH Dy (AA (AB 0) (AA (AB 1) AD))))))
def CN:Mir:=Aa false 2 0 (AM (AR (FT (AI (dOp Cs (AB 0) (dC .none))) (AI (dOp fEq (AB 1) (AY (AA (dC (.int 0)) (AA (dC (.int 1)) AD)))))) (AQ (dC .none)) AU) (AQ (AY (AA (AH CV (AA (dOp AK (AB 0) (dC (.int 0))) (AA (AB 1) AD))) (AA (AH CV (AA (dOp AK (AB 0) (dC (.int 1))) (AA (AB 1) AD))) AD)))))
def Dg(m_mask_spot m_holder_spot m_part_spot m_content_spot:Mir):Mir:=Aa false 4 1 (AM (AN (AH m_content_spot (AA (AB 0) (AA (dSl (AB 1) CK (dPt (dC (.int 1)))) (AA (AB 2) (AA (AB 3) AD))))) (dN 4)) (AM (AR (AI (dOp Cs (AB 4) (dC .none))) (AQ (dC .none)) AU) (AQ (AH CN (AA (AH m_content_spot (AA (AB 0) (AA (dSl (AB 1) (dPt (dC (.int 1))) CK) (AA (AB 2) (AA (AB 3) AD))))) (AA (dOp AK (AB 4) (dC (.int 1))) AD))))))
def Cw(m_mask_spot m_holder_spot m_part_spot m_content_spot:Mir):Mir:=Aa false 4 3 (AM (AN (AH BF (AA (AB 0) (AA (AH B3 (AA (AB 1) AD)) AD))) (dN 4)) (AM (AR (AI (dOp fEq (AH Ao (AA (AB 1) AD)) (dC (.str "mask")))) (AQ (AH m_mask_spot (AA (AB 0) (AA (AB 4) (AA (AB 2) (AA (AB 3) AD)))))) AU) (AM (AN (dC .none) (dN 5)) (AM (Bh (dIL (AH BU (AA (AB 1) (AA (AB 2) (AA (AB 3) AD))))) (dN 6) (AN (AH B0 (AA (AH m_content_spot (AA (AB 0) (AA (AB 4) (AA (dOp AK (AB 6) (dC (.int 0))) (AA (dOp AK (AB 6) (dC (.int 1))) AD))))) (AA (AB 5) AD))) (dN 5))) (AQ (dIf (AI (dOp fEq (AH Ao (AA (AB 1) AD)) (dC (.str "glass")))) (AH CN (AA (AB 5) (AA (dOp AK (AH Ax (AA (AB 1) AD)) (dC (.int 0))) AD))) (AB 5)))))))
def DV:Mir:=Aa false 2 0 (AM (AR (AI (dOp fEq (AB 1) (AY (AA (dC (.int 0)) (AA (dC (.int 1)) AD))))) (AQ (dC .none)) AU) (AQ (AY (AA (AH CV (AA (AB 0) (AA (AB 1) AD))) (AA (AB 1) AD)))))
def Cj:Mir:=Aa false 3 1 (AM (AN (AH Ax (AA (AB 0) AD)) (dN 3)) (AQ (dIf (AI (AH BS (AA (AB 0) (AA (AB 1) (AA (AB 2) AD))))) (AH DV (AA (dOp AK (AB 3) (dUn Bm (dC (.int 2)))) (AA (dOp AK (AB 3) (dUn Bm (dC (.int 1)))) AD))) (dC .none))))
def Df(m_mask_spot m_holder_spot m_part_spot m_content_spot:Mir):Mir:=Aa false 4 0 (AQ (dIf (AI (AH Bf (AA (AB 1) AD))) (AH m_holder_spot (AA (AB 0) (AA (AB 1) (AA (AB 2) (AA (AB 3) AD))))) (AH Cj (AA (AB 1) (AA (AB 2) (AA (AB 3) AD))))))
def Cc(m_mask_spot m_holder_spot m_part_spot m_content_spot:Mir):Mir:=Aa false 4 2 (AM (AN (dC .none) (dN 4)) (AM (Bh (dIL (AB 1)) (dN 5) (AR (AI (AH Be (AA (AB 5) AD))) (AN (AH B0 (AA (AH m_part_spot (AA (AB 0) (AA (AB 5) (AA (dOp Am (AB 2) (AH DU (AA (AB 5) AD))) (AA (dOp Am (AB 3) (AH DR (AA (AB 5) AD))) AD))))) (AA (AB 4) AD))) (dN 4)) AU)) (AQ (AB 4))))
def AL:Nat->Nat->Mir
 |0,_=>fun _=>none
 |n+1,0=>Dg (AL n 0) (AL n 1) (AL n 2) (AL n 3)
 |n+1,1=>Cw (AL n 0) (AL n 1) (AL n 2) (AL n 3)
 |n+1,2=>Df (AL n 0) (AL n 1) (AL n 2) (AL n 3)
 |n+1,3=>Cc (AL n 0) (AL n 1) (AL n 2) (AL n 3)
 |_+1,_=>fun _=>none
def m_mask_spot:Mir:=(AL 120 0)
def m_holder_spot:Mir:=(AL 120 1)
def m_part_spot:Mir:=(AL 120 2)
def m_content_spot:Mir:=(AL 120 3)
def Bo:Mir:=Aa false 4 0 (AQ (AH E2 (AA (AH m_content_spot (AA (AB 0) (AA (AH BF (AA (AB 0) (AA (dC (.str "")) AD))) (AA (AB 2) (AA (AB 3) AD))))) (AA (dOp AK (AB 1) (dC (.int 2))) AD))))
def Bq:Mir:=Aa false 2 0 (AQ (AH DY (AA (dOp An (dOp AK (AB 0) (dC (.int 0))) (dOp AK (AB 1) (dC (.int 0)))) (AA (dOp An (dOp AK (AB 0) (dC (.int 1))) (dOp AK (AB 1) (dC (.int 1)))) AD))))
def Fn:Mir:=Aa false 2 0 (AM (AR (FT (AI (dOp Cs (AB 0) (dC .none))) (AI (dOp fEq (dOp AK (AB 1) (dC (.int 0))) (dC (.int 0))))) (AQ (dC .none)) AU) (AQ (AY (AA (AH Bq (AA (dOp AK (AB 0) (dC (.int 0))) (AA (AB 1) AD))) (AA (AH Bq (AA (dOp AK (AB 0) (dC (.int 1))) (AA (AB 1) AD))) AD)))))
def Bl(m_L_turned_spot m_L_tiles_spot m_L_spot m_L_kids_spot:Mir):Mir:=Aa false 5 1 (AM (Bh (dR1 (AA (dOp AK (AB 2) (dC (.int 0))) AD)) (dN 5) (BY 3 4 (AA (AB 4) (AA (dUn Bm (AB 3)) AD)))) (AM (AR (AI (dOp AK (AB 2) (dC (.int 1)))) (AN (dUn Bm (AB 3)) (dN 3)) AU) (AQ (AH m_L_kids_spot (AA (AB 0) (AA (AB 1) (AA (AB 3) (AA (AB 4) AD))))))))
def EE:Mir:=Aa false 2 0 (AQ (AH DY (AA (dOp Af (dOp An (dOp AK (AB 0) (dC (.int 0))) (dOp AK (AB 1) (dC (.int 1)))) (dOp An (dOp AK (AB 1) (dC (.int 0))) (dOp AK (AB 0) (dC (.int 1))))) (AA (dOp An (dOp AK (AB 0) (dC (.int 1))) (dOp AK (AB 1) (dC (.int 1)))) AD))))
def Eh:Mir:=Aa false 2 1 (AM (AN (AY (AA (dOp Am (dOp AK (dOp AK (AB 0) (dC (.int 1))) (dC (.int 1))) (dOp AK (dOp AK (AB 0) (dC (.int 1))) (dC (.int 0)))) (AA (dOp AK (dOp AK (AB 0) (dC (.int 1))) (dC (.int 1))) AD))) (dN 2)) (AQ (AY (AA (AH EE (AA (dOp AK (AB 0) (dC (.int 0))) (AA (AH Bq (AA (AB 2) (AA (dOp AK (AB 1) (dC (.int 0))) AD))) AD))) (AA (AH EE (AA (dOp AK (AB 0) (dC (.int 1))) (AA (AH Bq (AA (AB 2) (AA (dOp AK (AB 1) (dC (.int 1))) AD))) AD))) AD)))))
def Ce(m_L_turned_spot m_L_tiles_spot m_L_spot m_L_kids_spot:Mir):Mir:=Aa false 5 4 (AM (AN (dC .none) (dN 5)) (AM (Bh (dR1 (AA (dOp AK (AB 2) (dC (.int 1))) AD)) (dN 6) (Bh (dR1 (AA (dOp AK (AB 2) (dC (.int 0))) AD)) (dN 7) (AM (AN (AH m_L_kids_spot (AA (AB 0) (AA (AB 1) (AA (dOp Am (AB 3) (dOp An (AB 7) (dOp AK (AB 2) (dC (.int 2))))) (AA (dOp Am (AB 4) (dOp An (AB 6) (dOp AK (AB 2) (dC (.int 3))))) AD))))) (dN 8)) (AM (AR (Av (AI (dOp B6 (AB 8) (dC .none))) (AI (dOp B6 (AB 5) (dC .none)))) (AN (AH Eh (AA (AB 8) (AA (AB 5) AD))) (dN 8)) AU) (AR (AI (dOp B6 (AB 8) (dC .none))) (AN (AB 8) (dN 5)) AU))))) (AQ (AB 5))))
def EB:Mir:=Aa false 4 2 (AM (AN (Ah Ft (AA (Ah GY (AA (AB 0) AD)) (AA (Ah GY (AA (AB 1) AD)) AD))) (dN 4)) (AM (AR (AI (dOp fEq (AB 4) (dC (.int 0)))) (AQ (By (dOp fEq (AB 2) (dC (.int 0))) (dOp fEq (AB 3) (dC (.int 0))))) AU) (AM (Bh (dR1 (AA (dOp Af (AB 4) (dC (.int 1))) AD)) (dN 5) (AR (Av (AI (dOp fEq (AB 2) (dOp Ag (dOp Af (dOp An (dOp An (dC (.int 2)) (AB 5)) (AB 0)) (AB 4)) (dOp An (dC (.int 2)) (AB 4))))) (AI (dOp fEq (AB 3) (dOp Ag (dOp Af (dOp An (dOp An (dC (.int 2)) (AB 5)) (AB 1)) (AB 4)) (dOp An (dC (.int 2)) (AB 4)))))) (AQ (dC (.bool true))) AU)) (AQ (dC (.bool false))))))
def Cm:Mir:=Aa false 3 3 (AM (AN (dC (.str "0123456789abcdef-_")) (dN 3)) (AM (AN (AY (AA (dC (.str "tolrks")) (AA (dC (.str "rs")) (AA (dC (.str "tmork")) (AA (dC (.str "tmors")) (AA (dC (.str "mlrs")) (AA (dC (.str "tmols")) (AA (dC (.str "tmolks")) (AA (dC (.str "trs")) (AA (dC (.str "tmolrks")) (AA (dC (.str "tmolrs")) AD))))))))))) (dN 4)) (AM (AN (dOp FN (AB 4) (AY (AA (dC (.str "tmlrks")) (AA (dC (.str "molks")) (AA (dC (.str "tolk")) (AA (dC (.str "morks")) (AA (dC (.str "tmolk")) (AA (dC (.str "tmlk")) (AA (dC (.str "m")) (AA (dC (.str "")) AD)))))))))) (dN 4)) (AM (AN (dOp AK (AB 4) (dOp Rn (AB 3) (AB 0))) (dN 5)) (AM (AR (FT (Bs (AI (Aq fLe fLt (dC (.int 0)) (AB 1) (dC (.int 3))))) (Bs (AI (Aq fLe fLt (dC (.int 0)) (AB 2) (dC (.int 5)))))) (AQ (dC (.bool false))) AU) (AM (AR (Av (AI (dOp fEq (dOp Ac (AB 2) (dC (.int 2))) (dC (.int 0)))) (AI (dOp Rl (dOp Dm (dC (.str "tmo")) (dOp Ag (AB 2) (dC (.int 2)))) (AB 5)))) (AQ (dC (.bool true))) AU) (AM (AR (AI (dOp fEq (AB 1) (dC (.int 1)))) (AQ (dC (.bool false))) AU) (AQ (dOr (By (dOp fLt (AB 2) (dC (.int 3))) (dOp Rl (dOp Dm (dC (.str "lr")) (dOp Ag (AB 1) (dC (.int 2)))) (AB 5))) (By (dOp fGt (AB 2) (dC (.int 1))) (dOp Rl (dOp Dm (dC (.str "ks")) (dOp Ag (AB 1) (dC (.int 2)))) (AB 5))))))))))))
def B5:Mir:=Aa false 4 0 (AM (AR (AI (dOp fEq (AB 0) (dC (.str "plate")))) (AQ (By (Aq fLe fLt (dC (.int 0)) (AB 2) (dOp AK (AB 1) (dC (.int 0)))) (Aq fLe fLt (dC (.int 0)) (AB 3) (dOp AK (AB 1) (dC (.int 1)))))) AU) (AM (AR (AI (dOp fEq (AB 0) (dC (.str "band")))) (AQ (AH EB (AA (dOp AK (AB 1) (dC (.int 0))) (AA (dOp AK (AB 1) (dC (.int 1))) (AA (AB 2) (AA (AB 3) AD)))))) AU) (AM (AR (AI (dOp fEq (AB 0) (dC (.str "stencil")))) (AQ (By (Aq fLe fLt (dC (.int 0)) (AB 3) (Ah BO (AA (dOp AK (AB 1) (dC (.int 0))) AD))) (By (Aq fLe fLt (dC (.int 0)) (AB 2) (Ah BO (AA (dOp AK (dOp AK (AB 1) (dC (.int 0))) (dC (.int 0))) AD))) (dOp fEq (dOp Dm (dOp AK (dOp AK (AB 1) (dC (.int 0))) (AB 3)) (AB 2)) (dC (.str "#")))))) AU) (AQ (By (Aq fLe fLt (dC (.int 0)) (AB 2) (dOp An (dC (.int 4)) (Ah BO (AA (dOp AK (AB 1) (dC (.int 0))) AD)))) (AH Cm (AA (dOp Dm (dOp AK (AB 1) (dC (.int 0))) (dOp Ag (AB 2) (dC (.int 4)))) (AA (dOp Ac (AB 2) (dC (.int 4))) (AA (AB 3) AD)))))))))
def En(m_L_turned_spot m_L_tiles_spot m_L_spot m_L_kids_spot:Mir):Mir:=Aa false 4 4 (AM (BY 4 5 (AA (dOp AK (AB 1) (dC (.int 5))) (AA (dOp AK (AB 1) (dC (.int 6))) AD))) (AM (AN (dLC 1 [1] (dIL (AB 0)) (dN 0) (AI (dOp fEq (dOp AK (AB 0) (dC (.int 1))) (dOp AK (AB 1) (dC (.int 0))))) (AB 0)) (dN 6)) (AM (AR (AI (dOp fEq (AB 4) (dC (.str "group")))) (AQ (AH m_L_kids_spot (AA (AB 0) (AA (AB 6) (AA (AB 2) (AA (AB 3) AD)))))) AU) (AM (AR (AI (dOp fEq (AB 4) (dC (.str "glass")))) (AQ (AH Fn (AA (AH m_L_kids_spot (AA (AB 0) (AA (AB 6) (AA (AB 2) (AA (AB 3) AD))))) (AA (dOp AK (AB 5) (dC (.int 0))) AD)))) AU) (AM (AR (AI (dOp fEq (AB 4) (dC (.str "window")))) (AM (AR (FT (Bs (AI (Aq fLe fLt (dC (.int 0)) (AB 2) (dOp AK (AB 5) (dC (.int 0)))))) (Bs (AI (Aq fLe fLt (dC (.int 0)) (AB 3) (dOp AK (AB 5) (dC (.int 1))))))) (AQ (dC .none)) AU) (AQ (AH m_L_kids_spot (AA (AB 0) (AA (AB 6) (AA (dOp Af (AB 2) (dOp AK (AB 5) (dC (.int 2)))) (AA (dOp Af (AB 3) (dOp AK (AB 5) (dC (.int 3)))) AD))))))) AU) (AM (AR (AI (dOp fEq (AB 4) (dC (.str "turn")))) (AQ (AH m_L_turned_spot (AA (AB 0) (AA (AB 6) (AA (AB 5) (AA (AB 2) (AA (AB 3) AD))))))) AU) (AM (AR (AI (dOp fEq (AB 4) (dC (.str "tiles")))) (AQ (AH m_L_tiles_spot (AA (AB 0) (AA (AB 6) (AA (AB 5) (AA (AB 2) (AA (AB 3) AD))))))) AU) (AM (AR (AI (dOp fEq (AB 4) (dC (.str "mask")))) (AM (AN (AH m_L_kids_spot (AA (AB 0) (AA (dSl (AB 6) CK (dPt (dC (.int 1)))) (AA (AB 2) (AA (AB 3) AD))))) (dN 7)) (AM (AR (AI (dOp Cs (AB 7) (dC .none))) (AQ (dC .none)) AU) (AQ (AH Fn (AA (AH m_L_kids_spot (AA (AB 0) (AA (dSl (AB 6) (dPt (dC (.int 1))) CK) (AA (AB 2) (AA (AB 3) AD))))) (AA (dOp AK (AB 7) (dC (.int 1))) AD)))))) AU) (AM (AR (FT (AI (dOp fEq (dOp AK (dOp AK (AB 5) (dUn Bm (dC (.int 1)))) (dC (.int 0))) (dC (.int 0)))) (Bs (AI (AH B5 (AA (AB 4) (AA (AB 5) (AA (AB 2) (AA (AB 3) AD)))))))) (AQ (dC .none)) AU) (AQ (AY (AA (AH Bq (AA (dOp AK (AB 5) (dUn Bm (dC (.int 2)))) (AA (dOp AK (AB 5) (dUn Bm (dC (.int 1)))) AD))) (AA (dOp AK (AB 5) (dUn Bm (dC (.int 1)))) AD)))))))))))))
def Cy(m_L_turned_spot m_L_tiles_spot m_L_spot m_L_kids_spot:Mir):Mir:=Aa false 4 3 (AM (AN (dC .none) (dN 4)) (AM (Bh (dIL (AB 1)) (dN 5) (AM (AN (dC .none) (dN 6)) (AM (AR (AI (dOp AK (AB 5) (dC (.int 4)))) (AN (AH m_L_spot (AA (AB 0) (AA (AB 5) (AA (dOp Am (AB 2) (dOp AK (AB 5) (dC (.int 2)))) (AA (dOp Am (AB 3) (dOp AK (AB 5) (dC (.int 3)))) AD))))) (dN 6)) AU) (AM (AR (Av (AI (dOp B6 (AB 6) (dC .none))) (AI (dOp B6 (AB 4) (dC .none)))) (AN (AH Eh (AA (AB 6) (AA (AB 4) AD))) (dN 6)) AU) (AR (AI (dOp B6 (AB 6) (dC .none))) (AN (AB 6) (dN 4)) AU))))) (AQ (AB 4))))
def AF:Nat->Nat->Mir
 |0,_=>fun _=>none
 |n+1,0=>Bl (AF n 0) (AF n 1) (AF n 2) (AF n 3)
 |n+1,1=>Ce (AF n 0) (AF n 1) (AF n 2) (AF n 3)
 |n+1,2=>En (AF n 0) (AF n 1) (AF n 2) (AF n 3)
 |n+1,3=>Cy (AF n 0) (AF n 1) (AF n 2) (AF n 3)
 |_+1,_=>fun _=>none
def m_L_turned_spot:Mir:=(AF 120 0)
def m_L_tiles_spot:Mir:=(AF 120 1)
def m_L_spot:Mir:=(AF 120 2)
def m_L_kids_spot:Mir:=(AF 120 3)
def Eg:Mir:=Aa false 4 1 (AM (AN (AH m_L_kids_spot (AA (AB 0) (AA (dLC 1 [] (dIL (AB 0)) (dN 0) (AI (dOp fEq (dOp AK (AB 0) (dC (.int 1))) (dC (.str "")))) (AB 0)) (AA (AB 2) (AA (AB 3) AD))))) (dN 4)) (AM (AR (AI (dOp Cs (AB 4) (dC .none))) (AQ (dOp AK (AB 1) (dC (.int 2)))) AU) (AQ (AH EE (AA (dOp AK (AB 4) (dC (.int 0))) (AA (AH Bq (AA (AY (AA (dOp Am (dOp AK (dOp AK (AB 4) (dC (.int 1))) (dC (.int 1))) (dOp AK (dOp AK (AB 4) (dC (.int 1))) (dC (.int 0)))) (AA (dOp AK (dOp AK (AB 4) (dC (.int 1))) (dC (.int 1))) AD))) (AA (dOp AK (AB 1) (dC (.int 2))) AD))) AD))))))
def B4:Mir:=Aa true 2 0 (AQ (dLC 1 [1] (dIL (AB 0)) (dN 0) Cu (dOp FN (dOp FN (ET (AB 0) CK (dPt (dC (.int 4)))) (AY (AA (By (dOp AK (AB 0) (dC (.int 4))) (dOp (fIn true) (dOp AK (AB 0) (dC (.int 0))) (AB 1))) AD))) (ET (AB 0) (dPt (dC (.int 5))) CK))))
def Dh:Mir:=Aa false 5 2 (AM (AN (AH CQ (AA (AB 0) (AA (AB 3) (AA (AB 4) AD)))) (dN 5)) (AM (AN (dLC 1 [5] (dIL (AB 2)) (dN 0) (AI (dOp (fIn true) (AB 0) (AB 1))) (AB 0)) (dN 6)) (AM (AR (AI (dOp fNe (dLC 1 [2] (dIL (AB 5)) (dN 0) (AI (dOp (fIn true) (AB 0) (AB 1))) (AB 0)) (Bw AD))) (AQ (dC (.bool false))) AU) (AM (AR (AI (dOp fNe (AH Bo (AA (AH B4 (AA (AB 0) (AA (AB 5) AD))) (AA (AB 1) (AA (AB 3) (AA (AB 4) AD))))) (dOp AK (AB 1) (dC (.int 2))))) (AQ (dC (.bool false))) AU) (AQ (dOp fEq (AH Bo (AA (AH B4 (AA (AB 0) (AA (AB 6) AD))) (AA (AB 1) (AA (AB 3) (AA (AB 4) AD))))) (AH Eg (AA (AB 0) (AA (AB 1) (AA (AB 3) (AA (AB 4) AD)))))))))))
def Km:Mir:=Aa false 1 7 (AM (AN (Ab 0 ED (AA (dC (.int 0)) AD)) (dN 1)) (AM (AN (Ab 0 Ck (AA (dOp Af (dC (.int 1)) (dOp Ac (AB 1) (dC (.int 6)))) AD)) (dN 2)) (AM (AN (AH Cq (AA (dOp Ag (AB 1) (dC (.int 6))) (AA (dC (.int 5)) (AA (dC (.int 4)) AD)))) (dN 3)) (AM (EU 1 4) (AM (Bh (dIL (AB 2)) (dN 5) (AR (Av (AI (dOp (fIn true) (dOp AK (AB 5) (dC (.int 5))) (ET (AH Bb AD) (dPt (dC (.int 6))) CK))) (Bs (AI (AH Bk (AA (AB 2) (AA (dOp AK (AB 5) (dC (.int 0))) AD)))))) (A3 (dMt 4 Ap (AA (dOp AK (AB 5) (dC (.int 0))) AD))) AU)) (AM (Bh (dR1 (AA (dOp AK (AB 3) (dC (.int 1))) AD)) (dN 6) (Bh (dR1 (AA (dOp AK (AB 3) (dC (.int 0))) AD)) (dN 7) (AR (Bt 4 (Bs (AI (AH Dh (AA (AB 2) (AA (AB 3) (AA (AB 4) (AA (AB 7) (AA (AB 6) AD))))))))) (AQ (dC (.bool false))) AU))) (AQ (dC (.bool true)))))))))
section
variable {P:Program} {w:World} {K:PySem.W.Frag} {mg:Str->Option Value} {base:Heap} {f:Addr} {fd:FuncData}
end
local macro_rules|`(tactic| walk_at "q")=>`(tactic| with_unfolding_all first|rfl|exact fun _=>rfl|exact fun _ _=>rfl)
local macro_rules|`(tactic| walk_at "dk")=>`(tactic| exact of_decide_eq_true (by kernel_rfl))
local macro_rules|`(tactic| walk_at "kk")=>`(tactic| (dsimp only;omega))
local macro_rules|`(tactic| walk_at "as")=>`(tactic| exact fun _=>⟨by with_unfolding_all rfl,by with_unfolding_all rfl,by with_unfolding_all rfl⟩)
local macro_rules|`(tactic| walk_at "fd")=>`(tactic| exact⟨by kernel_rfl,by kernel_rfl,by kernel_rfl⟩)
local macro_rules|`(tactic| walk_at "fr")=>`(tactic| first|exact fun h=>Bool.noConfusion h|exact fun _=>rfl)
local macro_rules|`(tactic| walk_at "ln")=>`(tactic| repeat first|exact QW|refine OF ?_)
local macro_rules|`(tactic| walk_at "rr")=>`(tactic| exact⟨by with_unfolding_all rfl,by with_unfolding_all rfl⟩)
local macro_rules|`(tactic| walk_at "kf")=>`(tactic| assumption)
local macro_rules|`(tactic| walk_at "ce")=>`(tactic| first|(with_reducible exact Yr)|(with_reducible exact Y1)|(with_reducible refine bT ?_ ?_ ?_;walk_at "co";walk_at "ce";walk_at "ce")|(with_reducible refine bX ?_ ?_ ?_;walk_at "cx";walk_at "ce";walk_at "ce")|(with_reducible exact Yt)|(with_reducible refine V5 ?_;walk_at "ca")|(with_reducible refine Y4 ?_ ?_ ?_;walk_at "co";walk_at "ce";walk_at "ce")|(with_reducible refine Ys ?_;walk_at "ca")|(with_reducible refine Y6 ?_ ?_;walk_at "cb";walk_at "ca")|(with_reducible exact bc)|(with_reducible exact Yw)|(with_reducible refine Y5 ?_;walk_at "ce")|(with_reducible refine V6 ?_;walk_at "ce")|(with_reducible refine Yy ?_;walk_at "ca")|(with_reducible refine bU ?_ ?_;walk_at "cm";walk_at "ca")|(with_reducible refine UO ?_;walk_at "ca")|(with_reducible refine bR ?_ ?_ ?_;walk_at "ce";walk_at "cp";walk_at "cp")|(with_reducible refine Yu ?_ ?_ ?_;walk_at "ce";walk_at "cp";walk_at "cp")|(with_reducible refine bV ?_;walk_at "cl")|(with_reducible refine Yv ?_;walk_at "ce")|(with_reducible refine Y7 ?_ ?_;walk_at "ce";walk_at "ce")|(with_reducible refine bS ?_ ?_;walk_at "ce";walk_at "ce")|(with_reducible refine Yx ?_;walk_at "ce")|(with_reducible refine Y2 ?_ ?_ ?_;walk_at "ct";walk_at "ce";walk_at "ce")|(with_reducible refine bY ?_ ?_ ?_;walk_at "ct";walk_at "ce";walk_at "ce")|(with_reducible refine UN ?_ ?_ ?_ ?_ ?_;walk_at "co";walk_at "co";walk_at "ce";walk_at "ce";walk_at "ce")|(with_reducible exact bZ)|(with_reducible exact ba)|(with_reducible refine Y0 ?_;walk_at "ce")|(with_reducible refine Yz ?_;walk_at "ce")|(with_reducible refine bW ?_;walk_at "ce")|(with_reducible exact UP)|(with_reducible exact V4)|(with_reducible refine Y3 ?_ ?_;walk_at "ce";walk_at "ce")|(with_reducible refine bP ?_;walk_at "ce"))
local macro_rules|`(tactic| walk_at "co")=>`(tactic| first|(with_reducible exact Yj)|(with_reducible exact Ya)|(with_reducible exact Ye)|(with_reducible exact Yh)|(with_reducible exact Yd)|(with_reducible exact bM)|(with_reducible exact bG)|(with_reducible exact bH)|(with_reducible exact bI)|(with_reducible exact bK)|(with_reducible exact bL)|(with_reducible exact bJ)|(with_reducible exact Yc)|(with_reducible exact Yi)|(with_reducible exact Vz)|(with_reducible exact Vy)|(with_reducible exact Yf)|(with_reducible exact Vx)|(with_reducible exact Yb)|(with_reducible exact Yg))
local macro_rules|`(tactic| walk_at "cx")=>`(tactic| first|(with_reducible exact dF)|(with_reducible exact dH)|(with_reducible exact dG))
local macro_rules|`(tactic| walk_at "cb")=>`(tactic| first|(with_reducible exact Y9)|(with_reducible exact V8)|(with_reducible exact ZA)|(with_reducible exact V7)|(with_reducible exact Y8))
local macro_rules|`(tactic| walk_at "cm")=>`(tactic| first|(with_reducible exact Yl)|(with_reducible exact Yk))
local macro_rules|`(tactic| walk_at "ca")=>`(tactic| first|(with_reducible exact ZC)|(with_reducible refine V9 ?_ ?_;walk_at "ce";walk_at "ca"))
local macro_rules|`(tactic| walk_at "cp")=>`(tactic| first|(with_reducible exact Vw)|(with_reducible refine Vv ?_;walk_at "ce"))
local macro_rules|`(tactic| walk_at "ct")=>`(tactic| first|(with_reducible refine YR ?_ ?_ ?_;walk_at "co";walk_at "ce";walk_at "ce")|(with_reducible refine YO ?_;walk_at "ct")|(with_reducible refine dI ?_;walk_at "cw")|(with_reducible refine YS ?_;walk_at "ct")|(with_reducible refine UD ?_ ?_ ?_ ?_ ?_;walk_at "co";walk_at "co";walk_at "ce";walk_at "ce";walk_at "ce")|(with_reducible refine YQ ?_;walk_at "ce")|(with_reducible refine YN ?_;walk_at "ce"))
local macro_rules|`(tactic| walk_at "cw")=>`(tactic| first|(with_reducible refine cw_and ?_ ?_;walk_at "ct";walk_at "cw")|(with_reducible refine cw_or ?_ ?_;walk_at "ct";walk_at "cw")|(with_reducible refine cw_and1 ?_;walk_at "ct")|(with_reducible refine cw_or1 ?_;walk_at "ct"))
local macro_rules|`(tactic| walk_at "cg")=>`(tactic| first|(with_reducible exact V3)|(with_reducible refine Yq ?_;walk_at "cgs"))
local macro_rules|`(tactic| walk_at "cgs")=>`(tactic| first|(with_reducible exact V2)|(with_reducible refine UM ?_ ?_;walk_at "cg";walk_at "cgs"))
local macro_rules|`(tactic| walk_at "ci")=>`(tactic| first|(with_reducible refine V1 ?_;walk_at "ce")|(with_reducible refine bO ?_;walk_at "ca")|(with_reducible refine Yo ?_;walk_at "ce")|(with_reducible refine Yp ?_;walk_at "ce"))
local macro_rules|`(tactic| walk_at "cts")=>`(tactic| first|(with_reducible exact Vo)|(with_reducible refine Vn ?_;walk_at "ct"))
local macro_rules|`(tactic| walk_at "cl")=>`(tactic| first|(with_reducible refine dJ ?_ ?_ ?_ ?_;walk_at "ci";walk_at "cg";walk_at "cts";walk_at "ce"))
local macro_rules|`(tactic| walk_at "css")=>`(tactic| first|(with_reducible refine Oe ?_ ?_;walk_at "cs";walk_at "css")|(with_reducible exact Vp)|(with_reducible refine Qt ?_;walk_at "cs"))
local macro_rules|`(tactic| walk_at "cs")=>`(tactic| first|(with_reducible refine YU ?_;walk_at "ce")|(with_reducible refine YV ?_;walk_at "ce")|(with_reducible refine bE ?_ ?_ ?_;walk_at "ct";walk_at "css";walk_at "css")|(with_reducible refine YY ?_ ?_ ?_;walk_at "ci";walk_at "cg";walk_at "css")|(with_reducible refine Vu ?_;walk_at "ce")|(with_reducible refine YZ ?_ ?_;walk_at "ce";walk_at "cg")|(with_reducible refine bD ?_;walk_at "cl")|(with_reducible refine Vq ?_;walk_at "ce")|(with_reducible exact YX)|(with_reducible refine UH ?_ ?_;walk_at "ct";walk_at "css")|(with_reducible exact Vr)|(with_reducible refine YW ?_;walk_at "ca")|(with_reducible refine Vs ?_ ?_;walk_at "ce";walk_at "ce")|(with_reducible exact Vt)|(with_reducible exact UI))
local macro_rules|`(tactic| walk_at "top")=>`(tactic| first|((with_reducible show CSs _ _ _ _ (AM _ _));refine Oe ?_ ?_;walk_at "cs";walk_at "css")|(refine Qt ?_;walk_at "cs"))
local macro_rules|`(tactic|walk_at $s:str)=>match s.getString.splitOn "|" with
 |[k,e]=>do
  let l:=if k=="a" then "Aa,AM,AN,dN,EU,Fw,AQ,C2,K5,A3,dMt,Ap,BZ,Gr,K4,AU,AR,Pw,Pu,EV,Bh,BY,AB,dC,dOp,dUn,fI,Af,Am,fLt,fLe,fGt,fGe,Bm,Lj,Cs,B6,FR,AK,AI,Av,FT,Bs,dIf,By,dOr,Pq,Aq,AD,AA,BA,AY,Bw,Ah,AH,Gv,Ab,Gu,dAS,mkL,nMb,isM,isC,DN,EJ,Bt,Cu,dIL,dIT,dR1,dR2,A0,AW,dGT,Aj,BI,BJ,BH,BO,f1,f2,GY,Ft,K0,K1,Cr,Po,Pr,Br,A2,atI,ixN,Dk,Kh,Ki,Kg,Cz,fixDs,sz',Option.bind_some,Option.bind_none,Option.map_some,Option.map_none,List.map_cons,List.map_nil,List.cons_append,List.nil_append,List.length_cons,List.length_nil,List.getElem?_cons_zero,List.getElem?_cons_succ,List.set_cons_zero,List.set_cons_succ,List.replicate_succ,List.replicate_zero,List.all_cons,List.all_nil,Bool.and_self,Bool.and_true,Bool.true_and,Bool.false_and,Bool.and_false,Bool.or_true,Bool.true_or,Bool.false_or,Bool.or_false,Bool.not_true,Bool.not_false,if_true,if_false,reduceIte,Bool.false_eq_true,Nat.reduceAdd,Nat.reduceLT,Nat.reduceSub,Nat.reduceMul,Int.reduceEq,Int.reduceSub,Int.reduceMul,Int.reducePow,Int.reduceDiv,Int.reduceMod,Nat.reduceLeDiff,Nat.reduceEqDiff,and_self,and_true,true_and,Int.natCast_add,Int.reduceAdd,Int.reduceLT,Int.reduceLE,Int.reduceToNat,Int.reduceNeg,Int.toNat_zero,Int.toNat_one,Int.zero_lt_one,Int.le_refl,Int.reduceNegSucc,Int.cast_ofNat_Int,Nat.zero_add,Nat.add_zero" else "Aa,AM,AN,dN,AQ,AU,AR,BY,AB,dC,dOp,fI,Af,Am,fLt,fLe,fGt,fGe,AK,AI,AD,AA,BA,AY,Ah,AH,Ab,Aj,BI,BJ,BH,Br,A2,atI,ixN,sz',Option.bind_some,Option.map_some,List.map_cons,List.map_nil,List.cons_append,List.nil_append,List.length_cons,List.length_nil,List.getElem?_cons_zero,List.getElem?_cons_succ,List.set_cons_zero,List.set_cons_succ,List.replicate_succ,List.replicate_zero,if_true,if_false,reduceIte,Bool.false_eq_true,Nat.reduceAdd,Nat.reduceLT,Int.reduceAdd,Int.reduceLT,Int.reduceLE,Int.reduceToNat,Nat.reduceLeDiff,and_self,Int.toNat_zero,Int.le_refl,Int.natCast_add,Int.cast_ofNat_Int,Nat.zero_add"
  let xs:=((if e.isEmpty then l else e++","++l).splitOn ",").map fun n=>Lean.mkIdent n.toName
  `(tactic|simp only[$[$(xs.toArray):ident],*])
 |_=>Lean.Macro.throwUnsupported
section
variable {Z:Zz}
abbrev ER(Z:Zz):Prop:=Clz Z 1 "_law_cell_at" ["_law_script","_law_k"] BQ false
abbrev Jx(Z:Zz):Prop:=Clz Z 2 "_law_big" ["_law_script","_law_at"] ED false
abbrev GF(Z:Zz):Prop:=Clz Z 1 "_law_name_of" ["_law_big_here"] EC false
abbrev EO(Z:Zz):Prop:=Clz Z 1 "_law_step_of" ["_law_big_here"] BP false
abbrev P2(Z:Zz):Prop:=Clz Z 1 "_law_up" ["_law_rows","_law_name"] Fo true
abbrev H0(Z:Zz):Prop:=Clz Z 1 "_law_low" ["_law_top","_law_bottom"] DY false
abbrev De(Z:Zz):Prop:=Clz Z 2 "_law_share_of" ["_law_big_here"] Bp false
abbrev FF(Z:Zz):Prop:=Clz Z 3 "_law_paint_of" ["_law_big_here"] CF false
abbrev Dw(Z:Zz):Prop:=Clz Z 1 "_law_stencil_of" ["_law_big_here"] Cp false
abbrev GB(Z:Zz):Prop:=Clz Z 1 "_law_size_of" ["_law_big_here","_law_most"] Bn false
abbrev GA(Z:Zz):Prop:=Clz Z 1 "_law_word_of" ["_law_big_here"] EA false
abbrev GH(Z:Zz):Prop:=Clz Z 4 "_law_data_of" ["_law_kind","_law_big_here"] Ak false
abbrev El(Z:Zz):Prop:=Clz Z 1 "_law_kinds" [] Bb false
abbrev HA(Z:Zz):Prop:=Clz Z 5 "_law_row_of" ["_law_rows","_law_big_here"] C4 false
abbrev FE(Z:Zz):Prop:=Clz Z 6 "_law_scene_of" ["_law_script","_law_first","_law_many"] CD true
abbrev Ia(Z:Zz):Prop:=Clz Z 2 "_law_small" ["_law_row"] Ef false
abbrev GC(Z:Zz):Prop:=Clz Z 7 "_law_rows_by" ["_law_script","_law_many"] Ck true
abbrev FG(Z:Zz):Prop:=Clz Z 3 "_law_floor_of" ["_law_big_here","_law_wide","_law_high"] Cq false
abbrev Ie(Z:Zz):Prop:=Clz Z 1 "_law_chain" ["_law_rows","_law_name"] Ei true
abbrev Dx(Z:Zz):Prop:=Clz Z 2 "_law_in_stencil" ["_law_rows","_law_name"] Bk false
abbrev F8(Z:Zz):Prop:=Clz Z 1 "each_once" ["names"] D1 true
abbrev EL(Z:Zz):Prop:=Clz Z 1 "row_shown" ["row"] Be false
abbrev Cg(Z:Zz):Prop:=Clz Z 1 "row_kind" ["row"] Ao false
abbrev EN(Z:Zz):Prop:=Clz Z 2 "is_holder" ["row"] Bf false
abbrev E7(Z:Zz):Prop:=Clz Z 1 "row_holder" ["row"] E3 false
abbrev C6(Z:Zz):Prop:=Clz Z 2 "kid_rows" ["rows","name"] BF true
abbrev Dt(Z:Zz):Prop:=Clz Z 1 "row_name" ["row"] B3 false
abbrev B8(Z:Zz):Prop:=Clz Z 1 "row_data" ["row"] Ax false
abbrev LI(Z:Zz):Prop:=Clz Z 126 "content_kids" ["rows","row","x","y"] m_content_kids false
abbrev DQ(Z:Zz):Prop:=Clz Z 1 "laying_shifts" ["nx","ny","stepx","stepy"] CY true
abbrev EM(Z:Zz):Prop:=Clz Z 1 "plate_has" ["w","h","x","y"] D0 false
abbrev C8(Z:Zz):Prop:=Clz Z 1 "cell_quartered" ["cell","quarters"] Ee false
abbrev Dv(Z:Zz):Prop:=Clz Z 1 "cell_flipped" ["cell"] Fm false
abbrev Ci(Z:Zz):Prop:=Clz Z 2 "cell_turned_back" ["cell","quarters","flipped"] BV false
abbrev Cv(Z:Zz):Prop:=Clz Z 3 "cells_within" ["row","x","y"] BU true
abbrev LH(Z:Zz):Prop:=Clz Z 126 "holder_names" ["rows","row","x","y"] m_holder_names true
abbrev EX(Z:Zz):Prop:=Clz Z 1 "stencil_has" ["rows","x","y"] Gh false
abbrev E8(Z:Zz):Prop:=Clz Z 1 "row_by_row" ["cells"] Hm true
abbrev Ds(Z:Zz):Prop:=Clz Z 1 "stroke_cells" ["sign"] Fl true
abbrev E6(Z:Zz):Prop:=Clz Z 2 "sign_cells" ["sign"] B9 true
abbrev Gy(Z:Zz):Prop:=Clz Z 3 "word_has" ["text","x","y"] Kl false
abbrev G9(Z:Zz):Prop:=Clz Z 1 "part_way" ["k","n","whole"] Cf false
abbrev FD(Z:Zz):Prop:=Clz Z 2 "band_cells" ["dx","dy"] DW true
abbrev FC(Z:Zz):Prop:=Clz Z 4 "leaf_has" ["row","x","y"] BS false
abbrev FA(Z:Zz):Prop:=Clz Z 5 "leaf_names" ["row","x","y"] CB true
abbrev NS(Z:Zz):Prop:=Clz Z 126 "part_names" ["rows","row","x","y"] m_part_names true
abbrev Jv(Z:Zz):Prop:=Clz Z 1 "row_x" ["row"] DU false
abbrev Ju(Z:Zz):Prop:=Clz Z 1 "row_y" ["row"] DR false
abbrev FP(Z:Zz):Prop:=Clz Z 126 "content_names" ["rows","kids","x","y"] m_content_names true
abbrev EY(Z:Zz):Prop:=Clz Z 127 "parts_under" ["rows","x","y"] CQ true
abbrev C7(Z:Zz):Prop:=Clz Z 1 "common_divisor" ["one","other"] CC false
abbrev Du(Z:Zz):Prop:=Clz Z 2 "fraction" ["top","bottom"] C3 false
abbrev NR(Z:Zz):Prop:=Clz Z 3 "plus" ["one","other"] IQ false
abbrev GU(Z:Zz):Prop:=Clz Z 3 "times" ["one","other"] CV false
abbrev Jw(Z:Zz):Prop:=Clz Z 3 "minus" ["one","other"] E4 false
abbrev Gz(Z:Zz):Prop:=Clz Z 4 "shade_on" ["spot","ground"] E2 false
abbrev F6(Z:Zz):Prop:=Clz Z 4 "spot_over" ["one","other"] Dy false
abbrev EK(Z:Zz):Prop:=Clz Z 5 "spot_laid" ["one","other"] B0 false
abbrev DH(Z:Zz):Prop:=Clz Z 4 "spot_shared" ["spot","share"] CN false
abbrev Oq(Z:Zz):Prop:=Clz Z 126 "mask_spot" ["rows","kids","x","y"] m_mask_spot false
abbrev Lx(Z:Zz):Prop:=Clz Z 126 "holder_spot" ["rows","row","x","y"] m_holder_spot false
abbrev E9(Z:Zz):Prop:=Clz Z 4 "plain_spot" ["shade","share"] DV false
abbrev F7(Z:Zz):Prop:=Clz Z 5 "leaf_spot" ["row","x","y"] Cj false
abbrev Oo(Z:Zz):Prop:=Clz Z 126 "part_spot" ["rows","row","x","y"] m_part_spot false
abbrev F9(Z:Zz):Prop:=Clz Z 126 "content_spot" ["rows","kids","x","y"] m_content_spot false
abbrev G4(Z:Zz):Prop:=Clz Z 127 "shade_at" ["rows","floor","x","y"] Bo false
abbrev GV(Z:Zz):Prop:=Clz Z 2 "_law_mul" ["_law_one","_law_other"] Bq false
abbrev LJ(Z:Zz):Prop:=Clz Z 3 "_law_weak" ["_law_spot_here","_law_share"] Fn false
abbrev Jc(Z:Zz):Prop:=Clz Z 124 "_law_turned_spot" ["_law_rows","_law_kids","_law_data","_law_x","_law_y"] m_L_turned_spot false
abbrev Jy(Z:Zz):Prop:=Clz Z 2 "_law_add" ["_law_one","_law_other"] EE false
abbrev Hz(Z:Zz):Prop:=Clz Z 3 "_law_over" ["_law_one","_law_other"] Eh false
abbrev LK(Z:Zz):Prop:=Clz Z 124 "_law_tiles_spot" ["_law_rows","_law_kids","_law_data","_law_x","_law_y"] m_L_tiles_spot false
abbrev GD(Z:Zz):Prop:=Clz Z 1 "_law_on_band" ["_law_dx","_law_dy","_law_x","_law_y"] EB false
abbrev GG(Z:Zz):Prop:=Clz Z 1 "_law_in_sign" ["_law_sign","_law_x","_law_y"] Cm false
abbrev HC(Z:Zz):Prop:=Clz Z 2 "_law_filled" ["_law_kind","_law_data","_law_x","_law_y"] B5 false
abbrev Uc(Z:Zz):Prop:=Clz Z 124 "_law_spot" ["_law_rows","_law_row","_law_x","_law_y"] m_L_spot false
abbrev Gj(Z:Zz):Prop:=Clz Z 124 "_law_kids_spot" ["_law_rows","_law_kids","_law_x","_law_y"] m_L_kids_spot false
abbrev Ib(Z:Zz):Prop:=Clz Z 125 "_law_shade" ["_law_rows","_law_floor","_law_x","_law_y"] Eg false
abbrev HB(Z:Zz):Prop:=Clz Z 1 "_law_hidden" ["_law_rows","_law_names"] B4 true
abbrev Ic(Z:Zz):Prop:=Clz Z 128 "_law_right" ["_law_rows","_law_floor","_law_leaves","_law_x","_law_y"] Dh false
theorem Mu(d:Dd Z "_law_cell_at" JH)(z_len:zQ Z "len"):ER Z:=d.cal fun _ _ F=>AS ["_law_script","_law_k"] F (by walk_at "top")
theorem Mr(d:Dd Z "_law_name_of" JE)(z_range:zQ Z "range"):GF Z:=d.cal fun _ _ F=>AS ["_law_big_here","_law_name","_law_size","_law_k"] F (by walk_at "top")
theorem Mn(d:Dd Z "_law_step_of" JA) :EO Z:=d.cal fun _ _ F=>AS ["_law_big_here"] F (by walk_at "top")
theorem VP(d:Dd Z "_law_up" SQ) :P2 Z:=d.cal fun _ _ F=>AS ["_law_rows","_law_name","_law_up_here","_law_by_name","_law_row"] F (by walk_at "top")
theorem TF(d:Dd Z "_law_low" QH)(z_abs:zQ Z "abs"):H0 Z:=d.cal fun _ _ F=>AS ["_law_top","_law_bottom","_law_one","_law_other"] F (by walk_at "top")
theorem JW(d:Dd Z "_law_stencil_of" Ff)(z_range:zQ Z "range")(z_tuple:zQ Z "tuple"):Dw Z:=d.cal fun _ _ F=>AS ["_law_big_here","_law_wide","_law_high","_law_rows","_law_j","_law_row","_law_i"] F (by walk_at "top")
theorem Mo(d:Dd Z "_law_size_of" JB) :GB Z:=d.cal fun _ _ F=>AS ["_law_big_here","_law_most"] F (by walk_at "top")
theorem Mm(d:Dd Z "_law_word_of" I0)(z_range:zQ Z "range"):GA Z:=d.cal fun _ _ F=>AS ["_law_big_here","_law_text","_law_size","_law_k"] F (by walk_at "top")
theorem PV(d:Dd Z "_law_kinds" MA) :El Z:=d.cal fun _ _ F=>AS ["_law_leaves"] F (by walk_at "top")
theorem PX(d:Dd Z "_law_chain" MB) :Ie Z:=d.cal fun _ _ F=>AS ["_law_rows","_law_name","_law_by_name","_law_row","_law_chain_here"] F (by walk_at "top")
theorem Ml(d:Dd Z "each_once" Iz) :F8 Z:=d.cal fun _ _ F=>AS ["names","told","name"] F (by walk_at "top")
theorem Me(d:Dd Z "row_shown" Iq) :EL Z:=d.cal fun _ _ F=>AS ["row"] F (by walk_at "top")
theorem Nz(d:Dd Z "row_kind" KC) :Cg Z:=d.cal fun _ _ F=>AS ["row"] F (by walk_at "top")
theorem LX(d:Dd Z "row_holder" HK) :E7 Z:=d.cal fun _ _ F=>AS ["row"] F (by walk_at "top")
theorem Ny(d:Dd Z "row_name" J9) :Dt Z:=d.cal fun _ _ F=>AS ["row"] F (by walk_at "top")
theorem N0(d:Dd Z "row_data" KG) :B8 Z:=d.cal fun _ _ F=>AS ["row"] F (by walk_at "top")
theorem II(d:Dd Z "laying_shifts" FH)(z_range:zQ Z "range"):DQ Z:=d.cal fun _ _ F=>AS ["nx","ny","stepx","stepy","shifts","j"] F (by walk_at "top")
theorem Mf(d:Dd Z "plate_has" Ir) :EM Z:=d.cal fun _ _ F=>AS ["w","h","x","y"] F (by walk_at "top")
theorem Hi(d:Dd Z "cell_quartered" Ea)(z_range:zQ Z "range"):C8 Z:=d.cal fun _ _ F=>AS ["cell","quarters","gone","quarter"] F (by walk_at "top")
theorem JU(d:Dd Z "cell_flipped" Fd) :Dv Z:=d.cal fun _ _ F=>AS ["cell"] F (by walk_at "top")
theorem KZ(d:Dd Z "stencil_has" GZ)(z_len:zQ Z "len"):EX Z:=d.cal fun _ _ F=>AS ["rows","x","y"] F (by walk_at "top")
theorem LY(d:Dd Z "row_by_row" HL)(z_set:zQ Z "set")(z_sorted:zQ Z "sorted"):E8 Z:=d.cal fun _ _ F=>AS ["cells","turned"] F (by walk_at "top")
theorem JP(d:Dd Z "stroke_cells" FW)(z_list:zQ Z "list")(kc_SIGNS:kdZ Z "SIGNS" HF)(kc_STROKES:kdZ Z "STROKES" Ep):Ds Z:=d.cal fun _ _ F=>AS ["sign","cells","stroke"] F (by walk_at "top")
theorem N1(d:Dd Z "part_way" KI) :G9 Z:=d.cal fun _ _ F=>AS ["k","n","whole"] F (by walk_at "top")
theorem S9(d:Dd Z "row_x" QE) :Jv Z:=d.cal fun _ _ F=>AS ["row"] F (by walk_at "top")
theorem S8(d:Dd Z "row_y" QD) :Ju Z:=d.cal fun _ _ F=>AS ["row"] F (by walk_at "top")
theorem Hg(d:Dd Z "common_divisor" EZ)(z_abs:zQ Z "abs"):C7 Z:=d.cal fun _ _ F=>AS ["one","other","big","small","rest"] F (by walk_at "top")
theorem Mq(d:Dd Z "_law_on_band" JD)(z_abs:zQ Z "abs")(z_max:zQ Z "max")(z_range:zQ Z "range"):GD Z:=d.cal fun _ _ F=>AS ["_law_dx","_law_dy","_law_x","_law_y","_law_n","_law_k"] F (by walk_at "top")
theorem Ms(d:Dd Z "_law_in_sign" JF) :GG Z:=d.cal fun _ _ F=>AS ["_law_sign","_law_x","_law_y","_law_signs","_law_strokes","_law_own"] F (by walk_at "top")
theorem N6(d:Dd Z "_law_hidden" KP) :HB Z:=d.cal fun _ _ F=>AS ["_law_rows","_law_names"] F (by walk_at "top")
theorem TH(d:Dd Z "_law_big" QI)(c22:ER Z)(z_range:zQ Z "range"):Jx Z:=d.cal fun _ _ F=>AS ["_law_script","_law_at","_law_by","_law_prime","_law_cell","_law_big_here","_law_k","_law_one"] F (by walk_at "top")
theorem Ld(d:Dd Z "_law_share_of" HS)(c30:H0 Z):De Z:=d.cal fun _ _ F=>AS ["_law_big_here","_law_bottom"] F (by walk_at "top")
theorem PQ(d:Dd Z "_law_small" L7)(c18:El Z)(z_len:zQ Z "len"):Ia Z:=d.cal fun _ _ F=>AS ["_law_row"] F (by walk_at "top")
theorem JX(d:Dd Z "_law_in_stencil" Fg)(c74:Ie Z):Dx Z:=d.cal fun _ _ F=>AS ["_law_rows","_law_name","_law_chain_here","_law_row","_law_kids"] F (by walk_at "top")
theorem Mj(d:Dd Z "is_holder" Iy){uv_HOLDERS:Value}(c04:Cg Z)(kc_HOLDERS:kaZ Z "HOLDERS" (.tuple [(.str "group"),(.str "glass"),(.str "window"),(.str "turn"),(.str "tiles"),(.str "mask")]) uv_HOLDERS):EN Z:=d.cal fun _ _ F=>AS ["row"] F (by walk_at "top")
theorem N3(d:Dd Z "kid_rows" KL)(c42:E7 Z):C6 Z:=d.cal fun _ _ F=>AS ["rows","name"] F (by walk_at "top")
theorem GX(d:Dd Z "cell_turned_back" Dj)(c31:C8 Z)(c35:Dv Z):Ci Z:=d.cal fun _ _ F=>AS ["cell","quarters","flipped","back"] F (by walk_at "top")
theorem LW(d:Dd Z "sign_cells" HJ)(c43:E8 Z)(c36:Ds Z):E6 Z:=d.cal fun _ _ F=>AS ["sign"] F (by walk_at "top")
theorem Lc(d:Dd Z "band_cells" HR)(c66:G9 Z)(z_abs:zQ Z "abs")(z_max:zQ Z "max")(z_range:zQ Z "range"):FD Z:=d.cal fun _ _ F=>AS ["dx","dy","n"] F (by walk_at "top")
theorem N4(d:Dd Z "fraction" KN)(c32:C7 Z):Du Z:=d.cal fun _ _ F=>AS ["top","bottom","divisor"] F (by walk_at "top")
theorem TC(d:Dd Z "_law_mul" QG)(c30:H0 Z):GV Z:=d.cal fun _ _ F=>AS ["_law_one","_law_other"] F (by walk_at "top")
theorem TJ(d:Dd Z "_law_add" QJ)(c30:H0 Z):Jy Z:=d.cal fun _ _ F=>AS ["_law_one","_law_other"] F (by walk_at "top")
theorem N7(d:Dd Z "_law_filled" KQ)(c56:GD Z)(c57:GG Z)(z_len:zQ Z "len"):HC Z:=d.cal fun _ _ F=>AS ["_law_kind","_law_data","_law_x","_law_y"] F (by walk_at "top")
theorem Lf(d:Dd Z "_law_paint_of" HX)(c21:De Z):FF Z:=d.cal fun _ _ F=>AS ["_law_big_here","_law_shade_here","_law_share"] F (by walk_at "top")
theorem Lg(d:Dd Z "_law_floor_of" HY)(c21:De Z):FG Z:=d.cal fun _ _ F=>AS ["_law_big_here","_law_wide","_law_high","_law_ground","_law_rest"] F (by walk_at "top")
theorem JT(d:Dd Z "cells_within" Fb)(c04:Cg Z)(c03:B8 Z)(c23:EM Z)(c28:Ci Z)(c34:DQ Z):Cv Z:=d.cal fun _ _ F=>AS ["row","x","y","kind","data","shifts"] F (by walk_at "top")
theorem Nu(d:Dd Z "word_has" J6){tk_STEP:Tok}(c44:E6 Z)(z_len:zQ Z "len")(kc_STEP:kiZ Z "STEP" 4 tk_STEP):Gy Z:=d.cal fun _ _ F=>AS ["text","x","y","place"] F (by walk_at "top")
theorem VN(d:Dd Z "plus" SO)(c12:Du Z):NR Z:=d.cal fun _ _ F=>AS ["one","other"] F (by walk_at "top")
theorem S7(d:Dd Z "times" QC)(c12:Du Z):GU Z:=d.cal fun _ _ F=>AS ["one","other"] F (by walk_at "top")
theorem TB(d:Dd Z "minus" QF)(c12:Du Z):Jw Z:=d.cal fun _ _ F=>AS ["one","other"] F (by walk_at "top")
theorem RL(d:Dd Z "_law_weak" Nd)(c19:GV Z):LJ Z:=d.cal fun _ _ F=>AS ["_law_spot_here","_law_share"] F (by walk_at "top")
theorem RN(d:Dd Z "_law_over" Ng)(c51:Jy Z)(c19:GV Z):Hz Z:=d.cal fun _ _ F=>AS ["_law_one","_law_other","_law_rest"] F (by walk_at "top")
theorem Mt(d:Dd Z "_law_data_of" JG)(c58:GB Z)(c24:EO Z)(c45:FF Z)(c59:GA Z)(c37:Dw Z):GH Z:=d.cal fun _ _ F=>AS ["_law_kind","_law_big_here","_law_data","_law_w","_law_h","_law_sx","_law_sy","_law_shade_here","_law_share","_law_text","_law_rows"] F (by walk_at "top")
theorem N2(d:Dd Z "leaf_has" KJ)(c04:Cg Z)(c03:B8 Z)(c23:EM Z)(c46:FD Z)(c67:Gy Z)(c40:EX Z):FC Z:=d.cal fun _ _ F=>AS ["row","x","y","kind","data"] F (by walk_at "top")
theorem Nv(d:Dd Z "shade_on" J7)(c68:NR Z)(c20:GU Z)(c52:Jw Z):Gz Z:=d.cal fun _ _ F=>AS ["spot","ground"] F (by walk_at "top")
theorem Mc(d:Dd Z "spot_over" Io)(c52:Jw Z)(c68:NR Z)(c20:GU Z):F6 Z:=d.cal fun _ _ F=>AS ["one","other","through","ink","cover"] F (by walk_at "top")
theorem Ka(d:Dd Z "spot_shared" Ga)(c20:GU Z):DH Z:=d.cal fun _ _ F=>AS ["spot","share"] F (by walk_at "top")
theorem LZ(d:Dd Z "plain_spot" HM)(c20:GU Z):E9 Z:=d.cal fun _ _ F=>AS ["shade","share"] F (by walk_at "top")
theorem N5(d:Dd Z "_law_row_of" KO)(c60:GF Z)(c79:P2 Z)(c18:El Z)(c24:EO Z)(c61:GH Z)(z_len:zQ Z "len"):HA Z:=d.cal fun _ _ F=>AS ["_law_rows","_law_big_here","_law_name","_law_holders","_law_row","_law_holder","_law_x","_law_y","_law_kind","_law_up_here","_law_shown","_law_data"] F (by walk_at "top")
theorem Lb(d:Dd Z "leaf_names" HP)(c03:B8 Z)(c29:FC Z)(c13:Dt Z):FA Z:=d.cal fun _ _ F=>AS ["row","x","y","has_spots"] F (by walk_at "top")
theorem Md(d:Dd Z "spot_laid" Ip)(c62:F6 Z):EK Z:=d.cal fun _ _ F=>AS ["one","other"] F (by walk_at "top")
theorem Mi(d:Dd Z "leaf_spot" Iw)(c03:B8 Z)(c29:FC Z)(c47:E9 Z):F7 Z:=d.cal fun _ _ F=>AS ["row","x","y","data"] F (by walk_at "top")
theorem Le(d:Dd Z "_law_scene_of" HW)(c69:HA Z)(c53:Jx Z)(z_range:zQ Z "range"):FE Z:=d.cal fun _ _ F=>AS ["_law_script","_law_first","_law_many","_law_rows","_law_k","_law_row","_law_big_here"] F (by walk_at "top")
theorem Mp(d:Dd Z "_law_rows_by" JC)(c22:ER Z)(c48:FE Z)(c75:Ia Z):GC Z:=d.cal fun _ _ F=>AS ["_law_script","_law_many"] F (by walk_at "top")
theorem IK{n:Nat}(d:Dd Z "_law_turned_spot" FJ)(c00:Clz Z (4+n) "_law_kids_spot" ["_law_rows","_law_kids","_law_x","_law_y"] (AF n 3) false)(z_range:zQ Z "range"):Clz Z (4+n+1) "_law_turned_spot" ["_law_rows","_law_kids","_law_data","_law_x","_law_y"] (Bl (AF n 0) (AF n 1) (AF n 2) (AF n 3)) false:=d.cal fun _ _ F=>AS ["_law_rows","_law_kids","_law_data","_law_x","_law_y","_law_k"] F (by walk_at "top")
theorem JV{n:Nat}(d:Dd Z "_law_tiles_spot" Fe)(c00:Clz Z (4+n) "_law_kids_spot" ["_law_rows","_law_kids","_law_x","_law_y"] (AF n 3) false)(c39:Hz Z)(z_range:zQ Z "range"):Clz Z (4+n+1) "_law_tiles_spot" ["_law_rows","_law_kids","_law_data","_law_x","_law_y"] (Ce (AF n 0) (AF n 1) (AF n 2) (AF n 3)) false:=d.cal fun _ _ F=>AS ["_law_rows","_law_kids","_law_data","_law_x","_law_y","_law_spot_here","_law_j","_law_i","_law_one"] F (by walk_at "top")
theorem RM{n:Nat}(d:Dd Z "_law_spot" Nf)(c00:Clz Z (4+n) "_law_kids_spot" ["_law_rows","_law_kids","_law_x","_law_y"] (AF n 3) false)(c78:LJ Z)(c05:Clz Z (4+n) "_law_turned_spot" ["_law_rows","_law_kids","_law_data","_law_x","_law_y"] (AF n 0) false)(c07:Clz Z (4+n) "_law_tiles_spot" ["_law_rows","_law_kids","_law_data","_law_x","_law_y"] (AF n 1) false)(c70:HC Z)(c19:GV Z):Clz Z (4+n+1) "_law_spot" ["_law_rows","_law_row","_law_x","_law_y"] (En (AF n 0) (AF n 1) (AF n 2) (AF n 3)) false:=d.cal fun _ _ F=>AS ["_law_rows","_law_row","_law_x","_law_y","_law_kind","_law_data","_law_kids","_law_over_here"] F (by walk_at "top")
theorem Ke{n:Nat}(d:Dd Z "_law_kids_spot" Gf)(c33:Clz Z (4+n) "_law_spot" ["_law_rows","_law_row","_law_x","_law_y"] (AF n 2) false)(c39:Hz Z):Clz Z (4+n+1) "_law_kids_spot" ["_law_rows","_law_kids","_law_x","_law_y"] (Cy (AF n 0) (AF n 1) (AF n 2) (AF n 3)) false:=d.cal fun _ _ F=>AS ["_law_rows","_law_kids","_law_x","_law_y","_law_spot_here","_law_row","_law_one"] F (by walk_at "top")
theorem PR(d:Dd Z "_law_shade" L8)(c00:Gj Z)(c51:Jy Z)(c19:GV Z):Ib Z:=d.cal fun _ _ F=>AS ["_law_rows","_law_floor","_law_x","_law_y","_law_spot_here"] F (by walk_at "top")
theorem JS{n:Nat}(d:Dd Z "content_kids" FZ)(c06:C6 Z)(c13:Dt Z)(c03:B8 Z)(c04:Cg Z)(c01:Clz Z (6+n) "content_names" ["rows","kids","x","y"] (AJ n 3) true)(z_len:zQ Z "len"):Clz Z (6+n+1) "content_kids" ["rows","row","x","y"] (Cd (AJ n 0) (AJ n 1) (AJ n 2) (AJ n 3)) false:=d.cal fun _ _ F=>AS ["rows","row","x","y","kids"] F (by walk_at "top")
theorem JQ{n:Nat}(d:Dd Z "holder_names" FX)(c08:Clz Z (6+n) "content_kids" ["rows","row","x","y"] (AJ n 0) false)(c14:Cv Z)(c01:Clz Z (6+n) "content_names" ["rows","kids","x","y"] (AJ n 3) true)(z_reversed:zQ Z "reversed"):Clz Z (6+n+1) "holder_names" ["rows","row","x","y"] (Cb (AJ n 0) (AJ n 1) (AJ n 2) (AJ n 3)) true:=d.cal fun _ _ F=>AS ["rows","row","x","y","kids","names","cell"] F (by walk_at "top")
theorem La{n:Nat}(d:Dd Z "part_names" HN)(c25:EN Z)(c09:Clz Z (6+n) "holder_names" ["rows","row","x","y"] (AJ n 1) true)(c49:FA Z):Clz Z (6+n+1) "part_names" ["rows","row","x","y"] (DJ (AJ n 0) (AJ n 1) (AJ n 2) (AJ n 3)) true:=d.cal fun _ _ F=>AS ["rows","row","x","y"] F (by walk_at "top")
theorem IJ{n:Nat}(d:Dd Z "content_names" FI)(c26:EL Z)(c11:Clz Z (6+n) "part_names" ["rows","row","x","y"] (AJ n 2) true)(c54:Ju Z)(c55:Jv Z)(z_reversed:zQ Z "reversed"):Clz Z (6+n+1) "content_names" ["rows","kids","x","y"] (CJ (AJ n 0) (AJ n 1) (AJ n 2) (AJ n 3)) true:=d.cal fun _ _ F=>AS ["rows","kids","x","y","names","row"] F (by walk_at "top")
theorem Mh{n:Nat}(d:Dd Z "mask_spot" Iv)(c02:Clz Z (6+n) "content_spot" ["rows","kids","x","y"] (AL n 3) false)(c17:DH Z):Clz Z (6+n+1) "mask_spot" ["rows","kids","x","y"] (Dg (AL n 0) (AL n 1) (AL n 2) (AL n 3)) false:=d.cal fun _ _ F=>AS ["rows","kids","x","y","stencil"] F (by walk_at "top")
theorem Kc{n:Nat}(d:Dd Z "holder_spot" Ge)(c06:C6 Z)(c13:Dt Z)(c04:Cg Z)(c15:Clz Z (6+n) "mask_spot" ["rows","kids","x","y"] (AL n 0) false)(c14:Cv Z)(c27:EK Z)(c02:Clz Z (6+n) "content_spot" ["rows","kids","x","y"] (AL n 3) false)(c17:DH Z)(c03:B8 Z):Clz Z (6+n+1) "holder_spot" ["rows","row","x","y"] (Cw (AL n 0) (AL n 1) (AL n 2) (AL n 3)) false:=d.cal fun _ _ F=>AS ["rows","row","x","y","kids","spot","cell"] F (by walk_at "top")
theorem Mg{n:Nat}(d:Dd Z "part_spot" Iu)(c25:EN Z)(c10:Clz Z (6+n) "holder_spot" ["rows","row","x","y"] (AL n 1) false)(c63:F7 Z):Clz Z (6+n+1) "part_spot" ["rows","row","x","y"] (Df (AL n 0) (AL n 1) (AL n 2) (AL n 3)) false:=d.cal fun _ _ F=>AS ["rows","row","x","y"] F (by walk_at "top")
theorem JR{n:Nat}(d:Dd Z "content_spot" FY)(c26:EL Z)(c27:EK Z)(c16:Clz Z (6+n) "part_spot" ["rows","row","x","y"] (AL n 2) false)(c54:Ju Z)(c55:Jv Z):Clz Z (6+n+1) "content_spot" ["rows","kids","x","y"] (Cc (AL n 0) (AL n 1) (AL n 2) (AL n 3)) false:=d.cal fun _ _ F=>AS ["rows","kids","x","y","spot","row"] F (by walk_at "top")
theorem Kb(d:Dd Z "parts_under" Gb)(c64:F8 Z)(c01:FP Z)(c06:C6 Z):EY Z:=d.cal fun _ _ F=>AS ["rows","x","y"] F (by walk_at "top")
theorem Nx(d:Dd Z "shade_at" J8)(c71:Gz Z)(c02:F9 Z)(c06:C6 Z):G4 Z:=d.cal fun _ _ F=>AS ["rows","floor","x","y"] F (by walk_at "top")
theorem PU(d:Dd Z "_law_right" L9)(c41:EY Z)(c72:G4 Z)(c73:HB Z)(c76:Ib Z):Ic Z:=d.cal fun _ _ F=>AS ["_law_rows","_law_floor","_law_leaves","_law_x","_law_y","_law_under","_law_others"] F (by walk_at "top")
theorem Xv{f:Addr}{fd:FuncData}(F:Fun Z.K "law" "law" Wd f fd)(c53:Jx Z)(c65:GC Z)(c50:FG Z)(c38:Dx Z)(c18:El Z)(c77:Ic Z)(z_range:zQ Z "range"):FnOk Z.P Z.w Z.K Z.mg Z.base CX0 129 f fd ["_law_script"] (spD Z.kw Km false):=AS ["_law_script","_law_first","_law_rows","_law_floor","_law_leaves","_law_row","_law_y","_law_x"] F (by walk_at "top")
end
theorem BM{i j:Int}(h:0<j):Ac (.int i) (.int j)=some (.int (i % j)):=if_pos h
theorem Bj{i j:Int}(h:0<j)(h1:j<10 ^ 70):Ag (.int i) (.int j)=some (.int (i / j)):=if_pos ⟨h,UW h h1⟩
theorem TV{i j:Int}(h:CMulB i j):An (.int i) (.int j)=some (.int (i*j)):=if_pos h
theorem Sr:Rk (.int 10) (.int 18)=some (.int 1000000000000000000):=rfl
theorem Ig{ns:List Int}{k:Int}(h0:0<=k):∃v:Int,BQ [.c (ns.map .int),.d (.int k)]=some (.int v,[.c (ns.map .int),.d (.int k)]):=by
 by_cases h:k<(ns.length:Int)
 ·have hk:k.toNat<ns.length:=by omega
  have e:(ns.map PyData.int)[k.toNat]?=some (.int ns[k.toNat]):=by simp[hk]
  exact⟨ns[k.toNat],by walk_at "b|BQ,List.length_map,h0,h,decide_true,e"⟩
 ·exact⟨0,by walk_at "b|BQ,List.length_map,h0,h,decide_false"⟩
theorem W8{xs:List Int}{k:Int}(h0:0<=k)(h:k<(xs.length:Int)):∃v:Int,atI (xs.map PyData.int) k=some (.int v)/\v∈xs:=by
 have hk:k.toNat<xs.length:=by omega
 refine⟨xs[k.toNat],?_,fU hk⟩
 unfold atI ixN
 rw[B',if_pos h0,if_pos h]
 simp[hk]
def by8:PyData:=.tuple ([48271,69621,16807,39373,21401,60493,87721,31337].map .int)
def pr8:PyData:=.tuple ([99991,99989,99971,99961,99929,99923,99907,99901].map .int)
theorem W2{ns:List Int}{k:Int}(h0:0<=k):∃(v:Int) (ls:List L),ED [.c (ns.map .int),.d (.int k)]=some (.int v,ls):=by
 obtain⟨cell,hc⟩:=Ig (ns:=ns) h0
 by_cases hb:(1000000000000000000:Int)<=cell
 ·exact⟨cell,_,by walk_at "b|ED,hc,Sr,hb,decide_true";rfl⟩
 ·have lp:∃t7,Ay (dN 6) (AM (AN (dOp Af (dOp Af (dOp Ac (Ab 0 BQ (AA (dOp Af (AB 1) (dOp Ac (AB 6) (dC (.int 9)))) AD)) (dOp Rk (dC (.int 10)) (dC (.int 18)))) (dC (.int 1))) (dOp An (AB 6) (AB 6))) (dN 7)) (AN (dOp Af (dOp An (AB 5) (dC (.int 7919))) (dOp Ac (dOp Ac (dOp An (AB 7) (dOp AK (AB 2) (dOp Ac (AB 6) (dC (.int 8))))) (dOp AK (AB 3) (dOp Ac (AB 6) (dC (.int 8))))) (dC (.int 7919)))) (dN 5)))
    ((rng 0 60).map PyData.int) [some (.c (ns.map .int)),some (.d (.int k)),some (.d by8),some (.d pr8),some (.d (.int cell)),some (.d (.int 0)),none,none]=some (.nx t7) /\
    ∃(b:Int) (o1 o2:Option L),nM o1/\nM o2/\t7=[some (.c (ns.map .int)),some (.d (.int k)),some (.d by8),some (.d pr8),some (.d (.int cell)),some (.d (.int b)),o1,o2]:=by
   refine MG (enc:=PyData.int) (pre:=[]) (fun _ τ=>∃(b:Int) (o1 o2:Option L),nM o1/\nM o2/\τ=[some (.c (ns.map .int)),some (.d (.int k)),some (.d by8),some (.d pr8),some (.d (.int cell)),some (.d (.int b)),o1,o2]) ⟨0,none,none,Ai,Ai,rfl⟩ ?_
   rintro j _ τ hj ⟨b,o1,o2,n1,n2,rfl⟩
   have hj':=(mem_rng (n:=60)).mp hj
   have h9:0<=j % 9:=fE _ (by decide)
   obtain⟨c,hc⟩:=Ig (ns:=ns) (k:=k+j % 9) (by omega)
   obtain⟨u1,hu1,m1⟩:=W8 (xs:=[48271,69621,16807,39373,21401,60493,87721,31337]) (k:=j % 8) (fE _ (by decide)) (e6 _ (by decide))
   obtain⟨u2,hu2,m2⟩:=W8 (xs:=[99991,99989,99971,99961,99929,99923,99907,99901]) (k:=j % 8) (fE _ (by decide)) (e6 _ (by decide))
   have hu1':AK by8 (.int (j % 8))=some (.int u1):=hu1
   have hu2':AK pr8 (.int (j % 8))=some (.int u2):=hu2
   have m1':-(2 ^ 64)<u1/\u1<2 ^ 64:=by
    simp only[List.mem_cons,List.not_mem_nil,or_false]at m1
    omega
   have m2':0<u2:=by
    simp only[List.mem_cons,List.not_mem_nil,or_false]at m2
    omega
   have x1:An (.int j) (.int j)=some (.int (j*j)):=TV (.inl (.inl ⟨by omega,by omega⟩))
   have x2:An (.int b) (.int 7919)=some (.int (b*7919)):=TV (.inl (.inr ⟨by decide,by decide⟩))
   have x3:∀z:Int,An (.int z) (.int u1)=some (.int (z*u1)):=fun z=>TV (.inl (.inr m1'))
   have x4:∀z:Int,Ac (.int z) (.int u2)=some (.int (z % u2)):=fun z=>BM m2'
   have x5:∀z:Int,Ac (.int z) (.int 7919)=some (.int (z % 7919)):=fun z=>BM (by decide)
   have x6:∀z:Int,Ac (.int z) (.int 9)=some (.int (z % 9)):=fun z=>BM (by decide)
   have x7:∀z:Int,Ac (.int z) (.int 8)=some (.int (z % 8)):=fun z=>BM (by decide)
   have x8:∀z:Int,Ac (.int z) (.int 1000000000000000000)=some (.int (z % 1000000000000000000)):=fun z=>BM (by decide)
   refine⟨_,[some (.c (ns.map .int)),some (.d (.int k)),some (.d by8),some (.d pr8),some (.d (.int cell)),some (.d (.int (b*7919+(c % 1000000000000000000+1+j*j)*u1 % u2 % 7919))),some (.d (.int j)),some (.d (.int (c % 1000000000000000000+1+j*j)))],BE rfl n1,?_,_,_,_,BC,BC,rfl⟩
   refine(AE (t4:=[some (.c (ns.map .int)),some (.d (.int k)),some (.d by8),some (.d pr8),some (.d (.int cell)),some (.d (.int b)),some (.d (.int j)),some (.d (.int (c % 1000000000000000000+1+j*j)))]) (AX (d:=.int (c % 1000000000000000000+1+j*j)) (t4:=[some (.c (ns.map .int)),some (.d (.int k)),some (.d by8),some (.d pr8),some (.d (.int cell)),some (.d (.int b)),some (.d (.int j)),o2]) ?_ (BE rfl n2))).trans ?_
   ·simp only[dOp,AB,dC,Ab,AA,AD,BA,Af,fI,Sr,hc,x1,x6,x8,List.getElem?_cons_zero,List.getElem?_cons_succ,List.set_cons_zero,List.set_cons_succ,Option.bind_some,Option.map_some,List.map_cons,List.map_nil]
   ·simp only[AN,dN,dOp,AB,dC,Af,fI,hu1',hu2',x2,x3,x4,x5,x7,List.getElem?_cons_zero,List.getElem?_cons_succ,List.set_cons_zero,List.set_cons_succ,Option.bind_some,Option.map_some]
  obtain⟨t7,e,b,o1,o2,n1,n2,rfl⟩:=lp
  refine⟨b,[.c (ns.map .int),.d (.int k)],?_⟩
  have hr:dR1 (AA (dC (.int 60)) AD) [some (.c (ns.map .int)),some (.d (.int k)),some (.d by8),some (.d pr8),some (.d (.int cell)),some (.d (.int 0)),none,none]=some ((rng 0 60).map PyData.int,[some (.c (ns.map .int)),some (.d (.int k)),some (.d by8),some (.d pr8),some (.d (.int cell)),some (.d (.int 0)),none,none]):=by
   rw[<- ME];rfl
  refine AV (τ:=[some (.c (ns.map .int)),some (.d (.int k)),some (.d by8),some (.d pr8),some (.d (.int cell)),some (.d (.int b)),o1,o2]) ?_ rfl rfl
  refine(AE rfl).trans ((AE rfl).trans ((AE (t4:=[some (.c (ns.map .int)),some (.d (.int k)),some (.d by8),some (.d pr8),some (.d (.int cell)),none,none,none]) (AX (Dr (xs:=ns.map .int) rfl rfl rfl hc) rfl)).trans ?_))
  refine(AE (t4:=[some (.c (ns.map .int)),some (.d (.int k)),some (.d by8),some (.d pr8),some (.d (.int cell)),none,none,none]) ?_).trans ((AE (t4:=[some (.c (ns.map .int)),some (.d (.int k)),some (.d by8),some (.d pr8),some (.d (.int cell)),some (.d (.int 0)),none,none]) rfl).trans ((AE ((BN hr).trans e)).trans rfl))
  walk_at "b|Sr,hb,decide_false"
def gI(a b:Int):Int:=(Int.gcd a b:Nat)
theorem T7{a b:Int}(ha:0<=a)(hb:0<b):gI b (a % b)=gI a b:=by
 unfold gI
 rw[gx,gx]
 have e:(a % b).natAbs=a.natAbs % b.natAbs:=by
  rw[Int.natAbs_emod_of_nonneg ha]
 rw[e,Nat.gcd_comm,<- Nat.gcd_rec,Nat.gcd_comm]
theorem Qn{a:Int}(ha:0<=a):gI a 0=a:=by
 unfold gI
 rw[Int.gcd_zero_right]
 omega
theorem Gq{a b:Int}(hb:0<b):0<gI a b:=by
 unfold gI
 have:0<Int.gcd a b:=Int.gcd_pos_of_ne_zero_right _ (by omega)
 omega
theorem Wq{a b:Int}(hb:0<b):gI a b<=b:=by
 exact Int.gcd_le_right a hb
def frm(t b:Int):Cl:=(t / gI t b,b / gI t b)
def FQ(a c:Cl):Cl:=frm (a.1*c.1) (a.2*c.2)
def Gx(i:Int):Int:=if i<0 then -i else i
theorem Ub{i:Int}(h:0<=i):Gx i=i:=by unfold Gx;rw[if_neg (by omega)]
theorem NQ(i:Int):0<=Gx i:=by unfold Gx;split<;>omega
theorem Ph(a b:Int):gI (Gx a) b=gI a b:=by
 unfold gI Gx
 split
 ·rw[Int.neg_gcd]
 ·rfl
structure OkF(s:Cl):Prop where
 lo:0<=s.1
 hi:s.1<=s.2
 b1:1<=s.2
 b2:s.2<=1000
 zero:s.1=0->s=(0,1)
 red:∃t b:Int,0<b/\s=frm t b
theorem Kn{d1 d2:PyData}:∀(n:Nat) (a b:Int),0<=a->0<=b->b.toNat<n ->
  dWh (AI (dOp fGt (AB 3) (dC (.int 0)))) (BY 2 3 (AA (AB 3) (AA (dOp Ac (AB 2) (AB 3)) AD))) n [some (.d d1),some (.d d2),some (.d (.int a)),some (.d (.int b))]=some (.nx [some (.d d1),some (.d d2),some (.d (.int (gI a b))),some (.d (.int 0))])
 |0,a,b,_,_,h=>absurd h (eP _)
 |n+1,a,b,ha,hb,h=>by
  let st:Int->Int->DS:=fun x y=>[some (.d d1),some (.d d2),some (.d (.int x)),some (.d (.int y))]
  have t:AI (dOp fGt (AB 3) (dC (.int 0))) (st a b)=some (decide (0<b),st a b):=rfl
  unfold dWh
  rw[show AI (dOp fGt (AB 3) (dC (.int 0))) [some (.d d1),some (.d d2),some (.d (.int a)),some (.d (.int b))]=some (decide (0<b),st a b) from t]
  by_cases hz:b=0
  ·subst hz
   rw[Qn ha];rfl
  ·have hp:0<b:=by omega
   have md:=e6 a hp
   have mn:=fE a (show b≠0 by omega)
   have e:=Kn (d1:=d1) (d2:=d2) n b (a % b) hb mn (by omega)
   rw[decide_eq_true hp]
   have bd:BY 2 3 (AA (AB 3) (AA (dOp Ac (AB 2) (AB 3)) AD)) (st a b)=some (.nx (st b (a % b))):=by
    have:AA (AB 3) (AA (dOp Ac (AB 2) (AB 3)) AD) (st a b)=some ([.d (.int b),.d (.int (a % b))],st a b):=by
     show(((((Ac (.int a) (.int b)).map fun d=>(d,st a b)).bind fun p=>_).map _))=_
     rw[BM hp];rfl
    unfold BY
    rw[this];rfl
   show((BY _ _ _ (st a b)).bind _)=_
   rw[bd]
   show dWh _ _ n (st b (a % b))=_
   rw[<- T7 ha hp]
   exact e
theorem Xz{t b:Int}(hb:0<b)(hb2:b<10 ^ 70):DY [.d (.int t),.d (.int b)]=some (ec (frm t b),[.d (.int t),.d (.int b)]):=by
 have gp:=Gq (a:=t) hb
 have gl:=Wq (a:=t) hb
 have e:=Kn (d1:=.int t) (d2:=.int b) (b.toNat+1) (Gx t) b (NQ t) (by omega) (fw _)
 rw[Ph]at e
 let st:Option L->Option L->DS:=fun o p=>[some (.d (.int t)),some (.d (.int b)),o,p]
 unfold DY
 refine AV (τ:=st (some (.d (.int (gI t b)))) (some (.d (.int 0)))) ?_ rfl rfl
 refine(AE (t4:=st (some (.d (.int (Gx t)))) (some (.d (.int b)))) rfl).trans ?_
 refine(AE e).trans ?_
 refine AZ (t4:=st (some (.d (.int (gI t b)))) (some (.d (.int 0)))) ?_
 have d1:=Bj (i:=t) gp (by omega)
 have d2:=Bj (i:=b) gp (by omega)
 walk_at "b|st,d1,d2,ec,frm"
theorem T8{t b:Int}(h0:0<=t)(h1:t<=b)(h2:1<=b)(h3:b<=1000):OkF (frm t b):=by
 have gp:=Gq (a:=t) (show 0<b by omega)
 have db:gI t b ∣ b:=by unfold gI;exact Int.gcd_dvd_right ..
 obtain⟨q,hq⟩:=db
 have eb:b / gI t b=q:=g9 (by omega) hq
 have q1:1<=q:=by
  rcases Int.lt_or_le q 1 with z|z
  ·have:gI t b*q<=0:=Int.mul_nonpos_of_nonneg_of_nonpos (by omega) (by omega)
   omega
  ·exact z
 have tl:t / gI t b<=b / gI t b:=Int.ediv_le_ediv gp h1
 have bl:b / gI t b<=b:=Int.ediv_le_self _ (by omega)
 refine⟨Int.ediv_nonneg h0 (by omega),tl,by show 1<=b / gI t b;omega,by show b / gI t b<=1000;omega,fun z=>?_,t,b,by omega,rfl⟩
 have z:t / gI t b=0:=z
 have dt:gI t b ∣ t:=by unfold gI;exact Int.gcd_dvd_left ..
 obtain⟨r,hr⟩:=dt
 have er:t / gI t b=r:=g9 (by omega) hr
 have r0:r=0:=by omega
 have t0:t=0:=by rw[hr,r0,Int.mul_zero]
 have g0:gI t b=b:=by
  rw[t0];unfold gI
  rw[Int.gcd_zero_left];omega
 unfold frm
 rw[g0,t0,Int.zero_ediv,Int.ediv_self (by omega)]
theorem FV(v:Int):∃(s:Cl) (w:Int) (ls:List L),Bp [.d (.int v)]=some (.tuple [ec s,.int w],ls)/\OkF s:=by
 obtain⟨b0,e0,hb0⟩:=W8 (xs:=[1,1,2,3]) (k:=v % 4) (by omega) (by show v % 4<4;omega)
 have hb0:1<=b0/\b0<=1000:=by
  rcases P'.mp hb0 with rfl|hb0
  ·decide
  ·rcases P'.mp hb0 with rfl|hb0
   ·decide
   ·rcases P'.mp hb0 with rfl|hb0
    ·decide
    ·rw[dq.mp hb0];decide
 let st:Int->Option L->DS:=fun x o=>[some (.d (.int x)),o]
 have fin:∀b:Int,1<=b->b<=1000->∃(s:Cl) (w:Int),AM (AN (dOp Ag (AB 0) (dC (.int 16000))) (dN 0)) (AQ (AY (AA (AH DY (AA (dOp Ac (AB 0) (dOp Af (AB 1) (dC (.int 1)))) (AA (AB 1) AD))) (AA (dOp Ag (AB 0) (dOp Af (AB 1) (dC (.int 1)))) AD)))) (st v (some (.d (.int b))))=some (.rt (.tuple [ec s,.int w]) (st (v / 16000) (some (.d (.int b)))))/\OkF s:=fun b h1 h2=>by
  have m0:=fE (v / 16000) (show b+1≠0 by omega)
  have m1:=e6 (v / 16000) (show 0<b+1 by omega)
  refine⟨frm (v / 16000 % (b+1)) b,v / 16000 / (b+1),?_,T8 m0 (by omega) h1 h2⟩
  have l:=Xz (t:=v / 16000 % (b+1)) (b:=b) (by omega) (by omega)
  have d1:=Bj (i:=v) (j:=16000) (by decide) (by decide)
  have d2:=BM (i:=v / 16000) (j:=b+1) (by omega)
  have d3:=Bj (i:=v / 16000) (j:=b+1) (by omega) (by omega)
  walk_at "b|st,l,d1,d2,d3"
 have c2:∀b:Int,1<=b->b<=1000->∃b',1<=b'/\b'<=1000/\AR (AI (dOp fEq (dOp Ac (dOp Ag (AB 0) (dC (.int 4))) (dC (.int 16))) (dC (.int 1)))) (AN (dOp Af (dC (.int 1)) (dOp Ac (dOp Ag (AB 0) (dC (.int 16))) (dC (.int 12)))) (dN 1)) AU (st v (some (.d (.int b))))=some (.nx (st v (some (.d (.int b'))))):=fun b h1 h2=>by
  have d1:=Bj (i:=v) (j:=4) (by decide) (by decide)
  have d2:=BM (i:=v / 4) (j:=16) (by decide)
  have d3:=Bj (i:=v) (j:=16) (by decide) (by decide)
  have d4:=BM (i:=v / 16) (j:=12) (by decide)
  by_cases h:v / 4 % 16=1
  ·refine⟨1+v / 16 % 12,by omega,by omega,?_⟩
   have q:fEq (.int (v / 4 % 16)) (.int 1)=some (.bool true):=by rw[encI.fEq,decide_eq_true h]
   walk_at "b|st,d1,d2,q,d3,d4"
  ·refine⟨b,h1,h2,?_⟩
   have q:fEq (.int (v / 4 % 16)) (.int 1)=some (.bool false):=by rw[encI.fEq,decide_eq_false h]
   walk_at "b|st,d1,d2,q"
 have c1:∀b:Int,1<=b->b<=1000->∃b',1<=b'/\b'<=1000/\AR (AI (dOp fEq (dOp Ac (dOp Ag (AB 0) (dC (.int 4))) (dC (.int 4))) (dC (.int 0)))) (AN (dOp Af (dC (.int 1)) (dOp Ac (dOp Ag (AB 0) (dC (.int 16))) (dC (.int 12)))) (dN 1)) AU (st v (some (.d (.int b))))=some (.nx (st v (some (.d (.int b'))))):=fun b h1 h2=>by
  have d1:=Bj (i:=v) (j:=4) (by decide) (by decide)
  have d2:=BM (i:=v / 4) (j:=4) (by decide)
  have d3:=Bj (i:=v) (j:=16) (by decide) (by decide)
  have d4:=BM (i:=v / 16) (j:=12) (by decide)
  by_cases h:v / 4 % 4=0
  ·refine⟨1+v / 16 % 12,by omega,by omega,?_⟩
   have q:fEq (.int (v / 4 % 4)) (.int 0)=some (.bool true):=by rw[encI.fEq,decide_eq_true h]
   walk_at "b|st,d1,d2,q,d3,d4"
  ·refine⟨b,h1,h2,?_⟩
   have q:fEq (.int (v / 4 % 4)) (.int 0)=some (.bool false):=by rw[encI.fEq,decide_eq_false h]
   walk_at "b|st,d1,d2,q"
 obtain⟨b1,g1,g2,e1⟩:=c1 b0 hb0.1 hb0.2
 obtain⟨b2,g3,g4,e2⟩:=c2 b1 g1 g2
 obtain⟨s,w,e3,hs⟩:=fin b2 g3 g4
 refine⟨s,w,[.d (.int v)],?_,hs⟩
 unfold Bp
 refine AV (τ:=st (v / 16000) (some (.d (.int b2)))) ?_ rfl rfl
 refine(AE (t4:=st v (some (.d (.int b0)))) (AX (d:=.int b0) (t4:=st v none) ?_ rfl)).trans ((AE e1).trans ((AE e2).trans e3))
 have m:=BM (i:=v) (j:=4) (by decide)
 show(((Ac (.int v) (.int 4)).map fun d=>(d,st v none)).bind fun q=>(AK (.tuple ([1,1,2,3].map PyData.int)) q.1).map fun d=>(d,q.2))=_
 rw[m]
 show((atI ([1,1,2,3].map PyData.int) (v % 4)).map fun d=>(d,st v none))=_
 rw[e0];rfl
theorem acc{f:DX}{a:DA}{τ t4 l7:DS}{d:PyData}{rs:List Ar}(h:f τ=some (d,t4))(k:a t4=some (rs,l7)):AA f a τ=some (.d d::rs,l7):=by
 unfold AA
 rw[h]
 show((a t4).map _)=_
 rw[k];rfl
theorem tst{f:DX}{τ t4:DS}{b:Bool}(h:f τ=some (.bool b,t4)):AI f τ=some (b,t4):=by
 unfold AI
 rw[h];rfl
theorem Oz{t:DT}{τ t4:DS}{b:Bool}(h:t τ=some (b,t4)):Bs t τ=some (!b,t4):=by
 unfold Bs
 rw[h];rfl
theorem op2{F:PyData->PyData->Option PyData}{f g:DX}{τ t4 l7:DS}{x y r:PyData}(h:f τ=some (x,t4))(k:g t4=some (y,l7))(e:F x y=some r):dOp F f g τ=some (r,l7):=by
 unfold dOp
 rw[h]
 show((g t4).bind _)=_
 rw[k]
 show((F x y).map _)=_
 rw[e];rfl
theorem oQ{F:PyData->PyData->Option PyData}{f g:DX}{τ l7:DS}{r:PyData}(x y:PyData)(t4:DS)(h:f τ=some (x,t4))(k:g t4=some (y,l7))(e:F x y=some r):dOp F f g τ=some (r,l7):=op2 h k e
theorem cQ{G:List L->Option (PyData × List L)}{a:DA}{τ:DS}{r:PyData}{ls:List L}(t4:DS)(ds:List PyData)(h:a τ=some (ds.map Ar.d,t4))(k:BA (ds.map Ar.d)=some ds)(g:G (ds.map L.d)=some (r,ls)):AH G a τ=some (r,t4):=CH h k g
theorem Jf{i:Nat}{f:DT}{τ t4:DS}{b:Bool}{xs:List PyData}(hi:τ[i]?=some (some (.m xs)))(hf:f (τ.set i (some (.d (.list xs))))=some (b,t4))(hx:t4.all okM=true):Bt i f τ=some (b,t4.set i (some (.m xs))):=by
 unfold Bt
 rw[hi]
 dsimp only
 rw[hf]
 dsimp only[Option.bind]
 rw[if_pos hx]
theorem LN{a b:DT}{τ:DS}{p q:Bool}(h1:a τ=some (p,τ))(h2:b τ=some (q,τ)):Av a b τ=some (p&&q,τ):=by
 unfold Av
 rw[h1]
 cases p with
 |true=>exact h2
 |false=>rfl
theorem Ol{a b:DX}{τ t4:DS}(h:a τ=some (.bool true,t4)):By a b τ=b t4:=by
 unfold By
 rw[tst h];rfl
abbrev Tx:={ s:Str // PyData.strOk s=true }
def eT(t:Tx):PyData:=.str t.1
theorem encT:Enc eT:=by
 refine⟨fun a b=>?_,fun a=>?_,fun a=>?_,fun _=>rfl⟩
 ·unfold eT
  rw[PyData.eqv]
  by_cases h:a=b
  ·subst h;simp
  ·rw[decide_eq_false h]
   exact beq_eq_false_iff_ne.mpr fun z=>h (Subtype.ext z)
 ·show PyData.canLay0 (.str a.1)=true
  rw[PyData.canLay0];exact a.2
 ·show PyData.depth (.str a.1)<=20
  rw[PyData.depth];decide
def t0:Tx:=⟨"",∅⟩
inductive Dz where
 |plate (w h:Int) (a b:Cl)
 |band (w h:Int) (a b:Cl)
 |word (t:Tx) (a b:Cl)
 |stencil (rs:List Tx) (a b:Cl)
 |group
 |glass (a:Cl)
 |window (w h x y:Int)
 |turn (q:Int) (f:Bool)
 |tiles (a b x y:Int)
 |mask
 deriving DecidableEq
def kz:Dz->Nat
 |.plate ..=>0
 |.band ..=>1
 |.word ..=>2
 |.stencil ..=>3
 |.group=>4
 |.glass _=>5
 |.window ..=>6
 |.turn ..=>7
 |.tiles ..=>8
 |.mask=>9
def kS:Nat->Tx
 |0=>⟨"plate",∅⟩
 |1=>⟨"band",∅⟩
 |2=>⟨"word",∅⟩
 |3=>⟨"stencil",∅⟩
 |4=>⟨"group",∅⟩
 |5=>⟨"glass",∅⟩
 |6=>⟨"window",∅⟩
 |7=>⟨"turn",∅⟩
 |8=>⟨"tiles",∅⟩
 |_=>⟨"mask",∅⟩
theorem X5:∀i j:Fin 10,kS i=kS j->i=j:=∅
theorem C1(d:Dz):kz d<10:=by cases d<;>simp[kz]
theorem IS{i j:Nat}(hi:i<10)(hj:j<10)(h:kS i=kS j):i=j:=Fin.mk.inj (X5 ⟨i,hi⟩ ⟨j,hj⟩ h)
def eD:Dz->PyData
 |.plate w h a b=>.tuple [.int w,.int h,ec a,ec b]
 |.band w h a b=>.tuple [.int w,.int h,ec a,ec b]
 |.word t a b=>.tuple [eT t,ec a,ec b]
 |.stencil rs a b=>.tuple [.tuple (rs.map eT),ec a,ec b]
 |.group=>.tuple []
 |.glass a=>.tuple [ec a]
 |.window w h x y=>.tuple [.int w,.int h,.int x,.int y]
 |.turn q f=>.tuple [.int q,.bool f]
 |.tiles a b x y=>.tuple [.int a,.int b,.int x,.int y]
 |.mask=>.tuple []
structure Rz where
 n:Tx
 h:Tx
 x:Int
 y:Int
 s:Bool
 d:Dz
 deriving DecidableEq
def eZ(r:Rz):PyData:=.tuple [eT r.n,eT r.h,.int r.x,.int r.y,.bool r.s,eT (kS (kz r.d)),eD r.d]
theorem ecq(a b:Cl):PyData.eqv (ec a) (ec b)=decide (a=b):=encC.eqv a b
theorem aZ(a b:Int):PyData.eqv (.int a) (.int b)=decide (a=b):=encI.eqv a b
theorem Wy(a b:Bool):PyData.eqv (.bool a) (.bool b)=decide (a=b):=by rw[PyData.eqv];cases a<;>cases b<;>rfl
theorem dP(a b:Int):(a==b)=decide (a=b):=rfl
theorem dQ(a b:Bool):(a==b)=decide (a=b):=by cases a<;>cases b<;>rfl
theorem eDq:∀a b:Dz,kz a=kz b->PyData.eqv (eD a) (eD b)=decide (a=b):=by
 intro a b h
 cases a<;>cases b<;>first
  |(exfalso;simp[kz]at h;done)
  |(simp only[eD,PyData.eqv,PyData.eqvAll,ecq,aZ,Wy,dP,dQ,encT.eqv,encT.eqvL,Bool.and_true,Dz.plate.injEq,Dz.band.injEq,Dz.word.injEq,Dz.stencil.injEq,Dz.glass.injEq,Dz.window.injEq,Dz.turn.injEq,Dz.tiles.injEq,Bool.decide_and,decide_true])
theorem Ww:∀rs:List Tx,PyData.depthAll (rs.map eT)<=1
 |[]=>by rw[List.map_nil,PyData.depthAll];decide
 |r::rs=>by
  have:=Ww rs
  rw[U',PyData.depthAll]
  unfold eT at *
  simp only[PyData.depth]
  omega
theorem encZ:Enc eZ:=by
 refine⟨fun a b=>?_,fun a=>?_,fun a=>?_,fun a=>?_⟩
 ·unfold eZ
  simp only[PyData.eqv,PyData.eqvAll,aZ,Wy,encT.eqv,Bool.and_true]
  obtain⟨a1,a2,a3,a4,a5,a6⟩:=a
  obtain⟨b1,b2,b3,b4,b5,b6⟩:=b
  simp only[Rz.mk.injEq,Bool.decide_and]
  by_cases h:kz a6=kz b6
  ·rw[eDq a6 b6 h,h,decide_eq_true rfl,Bool.true_and]
   simp[Bool.beq_eq_decide_eq]
  ·have h1:kS (kz a6)≠kS (kz b6):=fun z=>h (IS (C1 _) (C1 _) z)
   have h2:a6≠b6:=fun z=>h (by rw[z])
   rw[decide_eq_false h1,decide_eq_false h2]
   simp
 ·show PyData.canLay0 (.tuple _)=true
  simp only[PyData.canLay0,PyData.canLayAll0,encT.can,Bool.true_and,Bool.and_true]
  cases a.d<;>simp only[eD,PyData.canLay0,PyData.canLayAll0,encT.can,encC.can,encT.canL,Bool.true_and,Bool.and_true]
 ·have hc:=encC.dep
  have key:PyData.depth (eD a.d)<=10:=by
   cases a.d with
   |stencil rs x y =>
    have:=Ww rs
    simp only[eD,ec,PyData.depth,PyData.depthAll]
    omega
   |word t x y=>simp[eD,eT,ec,PyData.depth,PyData.depthAll]
   |_=>simp[eD,ec,PyData.depth,PyData.depthAll]
  show PyData.depth (.tuple _)<=20
  simp only[PyData.depth,PyData.depthAll,eT]
  omega
 ·show Cz (.tuple _)=true
  simp only[Cz,fixDs,encT.fix,Bool.true_and,Bool.and_true]
  cases a.d<;>simp only[eD,Cz,fixDs,encT.fix,encC.fix,encT.fixL,Bool.true_and,Bool.and_true]
theorem Jh(n:Nat):(rng 0 n).map PyData.int=(List.range n).map fun(k:Nat)=>PyData.int (k:Int):=by
 unfold rng
 rw[fD]
 refine fQ fun k _=>?_
 show PyData.int (0+(k:Int))=_
 rw[Int.zero_add]
theorem ZF{i:Nat}{f:DX}{τ t4:DS}{d:PyData}{xs:List PyData}(hi:τ[i]?=some (some (.m xs)))(hf:f (τ.set i (some (.d (.list xs))))=some (d,t4))(hx:(Cz d&&t4.all okM)=true):DN i f τ=some (d,t4.set i (some (.m xs))):=by
 unfold DN
 rw[hi]
 show(f _).bind _=_
 rw[hf]
 show(if _ then _ else _)=_
 rw[if_pos hx]
theorem LF{F:List PyData->Option PyData}{f:DX}{τ t4:DS}{d r:PyData}(h:f τ=some (d,t4))(e:F [d]=some r):Ah F (AA f AD) τ=some (r,t4):=by
 unfold Ah
 rw[acc h rfl]
 show((F [d]).map _)=_
 rw[e];rfl
theorem P0{i:Nat}{a:DA}{τ t4:DS}{d:PyData}{xs:List PyData}(h:a τ=some ([.d d],t4))(m:t4[i]?=some (some (.m xs)))(hz:xs.length<900):A3 (dMt i Ap a) τ=some (.nx (t4.set i (some (.m (xs++[d]))))):=by
 have hs:xs.length<sizeLine:=de hz (by decide)
 unfold A3 dMt
 rw[h]
 show((match t4[i]? with|some (some (.m xs))=>_|_=>_):Option (PyData×DS)).map _=_
 rw[m]
 show((if xs.length<sizeLine then some (PyData.none,xs++[d]) else none).map _).map _=_
 rw[if_pos hs]
 rfl
theorem Eo{a:DA}{τ t4:DS}{rs:List Ar}{ds:List PyData}(h:a τ=some (rs,t4))(k:BA rs=some ds)(hz:ds.length<=1000):AY a τ=some (.tuple ds,t4):=by
 unfold AY
 rw[h]
 show(BA rs).bind _=_
 rw[k]
 show(if ds.length<=sizeLine then _ else _)=_
 rw[if_pos (sz hz)]
theorem ZX{c:DT}{b:DB}{n:Nat}{τ t4:DS}(h:c τ=some (false,t4)):dWh c b (n+1) τ=some (.nx t4):=by
 rw[dWh,h];rfl
theorem ZW{c:DT}{b:DB}{n:Nat}{τ t4 l7:DS}(h:c τ=some (true,t4))(k:b t4=some (.nx l7)):dWh c b (n+1) τ=dWh c b n l7:=by
 rw[dWh,h]
 show(b t4).bind _=_
 rw[k];rfl
theorem WC{i:Nat}{f:DX}{τ:DS}{xs:List PyData}{d:PyData}(hi:τ[i]?=some (some (.m xs)))(hf:f (τ.set i (some (.d (.list xs))))=some (d,τ.set i (some (.d (.list xs)))))(hd:Cz d=true)(hok:(τ.set i (some (.d (.list xs)))).all okM=true):DN i f τ=some (d,τ):=by
 unfold DN
 rw[hi]
 dsimp only
 rw[hf]
 dsimp only[Option.bind]
 rw[hd,hok,Bool.and_self,if_pos rfl,List.set_set]
 congr 2
 obtain⟨hlt,he⟩:=R'.mp hi
 rw[<- he,List.set_getElem_self]
theorem dO{i:Nat}{f:DX}{τ:DS}{xs ys:List PyData}(hi:τ[i]?=some (some (.m xs)))(hf:f (τ.set i (some (.d (.list xs))))=some (.list ys,τ.set i (some (.d (.list xs)))))(hd:fixDs ys=true)(hok:(τ.set i (some (.d (.list xs)))).all okM=true):EJ i f τ=some (.list ys,τ):=by
 unfold EJ
 rw[hi]
 dsimp only
 rw[hf]
 dsimp only[Option.bind]
 rw[hd,hok,Bool.and_self,if_pos rfl,List.set_set]
 congr 2
 obtain⟨hlt,he⟩:=R'.mp hi
 rw[<- he,List.set_getElem_self]
def Fq(al s:Str):Prop:=∀c∈s.cps.toList,c∈al.cps.toList
def alN:Str:="abcdefghijklmnopqrstuvwxyz0123456789"
def alW:Str:="0123456789abcdef-_"
def alS:Str:="#."
theorem Jo{al s:Str}(ha:PyData.strOk al=true)(h:Fq al s):PyData.strOk s=true:=by
 unfold PyData.strOk at *
 rw[Array.all_eq_true_iff_forall_mem]at *
 exact fun c hc=>ha c (fF.mp (h c (fF.mpr hc)))
theorem ixA{al:Str}{m:Int}(h0:0<m)(hl:(al.length:Int)=m)(hz:m<=100)(v:Int):∃c,c∈al.cps.toList/\Dm (.str al) (.int (v % m))=some (.str ⟨#[c]⟩):=by
 have hk0:=fE v (show m≠0 by omega)
 have hk1:=e6 v h0
 have e:al.cps.toList.length=al.length:=rfl
 have hk:(v % m).toNat<al.cps.toList.length:=by omega
 refine⟨al.cps.toList[(v % m).toNat],fU hk,?_⟩
 show(if al.length<=sizeLine then _ else _)=_
 rw[if_pos (sz (by omega))]
 unfold atI ixN
 rw[if_pos hk0,if_pos (by omega)]
 show(al.cps.toList[(v % m).toNat]?).map _=_
 rw[eG hk];rfl
theorem bf{s:Str}{c:Nat}(h:s.length<=100):Fu (.str s) (.str ⟨#[c]⟩)=some (.str (s++(⟨#[c]⟩:Str))):=by
 show(if s.length+1<=sizeLine then _ else _)=_
 rw[if_pos (sz (by omega))]
theorem Qx(s:Str)(c:Nat):(s++(⟨#[c]⟩:Str)).length=s.length+1:=by
 show(s.cps++#[c]).size=_
 rw[Array.size_append];rfl
theorem UQ{al s:Str}{c:Nat}(h:Fq al s)(hc:c∈al.cps.toList):Fq al (s++(⟨#[c]⟩:Str)):=by
 intro x hx
 have:x∈(s.cps++#[c]).toList:=hx
 rw[Array.toList_append]at this
 rcases fB.mp this with z|z
 ·exact h x z
 ·rw[dq.mp z];exact hc
theorem Tt(al:Str):Fq al "":=by
 intro c hc
 have:(Str.cps "").toList=[]:=∅
 rw[this]at hc;cases hc
def sgB(al:Str)(m:Int):DB:=AM (AN (dOp Fu (AB 1) (dOp Dm (dC (.str al)) (dOp Ac (AB 0) (dC (.int m))))) (dN 1)) (AN (dOp Ag (AB 0) (dC (.int m))) (dN 0))
theorem QB{al:Str}{m:Int}(h0:0<m)(hl:(al.length:Int)=m)(hz:m<=100)(n:Int)(n0:0<=n)(n1:n<=50)(v:Int):∃(u:Int) (s:Str) (o:Option L),nM o/\(s.length:Int)=n/\Fq al s /\
  Ay (dN 3) (sgB al m) ((rng 0 n.toNat).map PyData.int) [some (.d (.int v)),some (.d (.str "")),some (.d (.int n)),none]=some (.nx [some (.d (.int u)),some (.d (.str s)),some (.d (.int n)),o]):=by
 let st:Int->Str->Option L->DS:=fun u s o=>[some (.d (.int u)),some (.d (.str s)),some (.d (.int n)),o]
 have lp:∃t7,Ay (dN 3) (sgB al m) ((List.range n.toNat).map fun(k:Nat)=>PyData.int (k:Int)) (st v "" none)=some (.nx t7)/\∃u s o,nM o/\s.length=(List.range n.toNat).length/\Fq al s/\t7=st u s o:=by
  refine A1 (fun(pre:List Nat) τ=>∃u s o,nM o/\s.length=pre.length/\Fq al s/\τ=st u s o) ⟨v,"",none,Ai,∅,Tt al,rfl⟩ ?_
  rintro pre k post τ hp ⟨u,s,o,ho,hr,hall,rfl⟩
  have hl':=Bu hp
  rw[eW]at hl'
  let K:Option L:=some (.d (.int (k:Int)))
  obtain⟨c,hc,ej⟩:=ixA h0 hl hz u
  let s':=s++(⟨#[c]⟩:Str)
  have s1:AN (dOp Fu (AB 1) (dOp Dm (dC (.str al)) (dOp Ac (AB 0) (dC (.int m))))) (dN 1) (st u s K)=some (.nx (st u s' K)) :=
   AX (d:=.str s') (t4:=st u s K) (oQ (.str s) (.str ⟨#[c]⟩) (st u s K) rfl (oQ (.str al) (.int (u % m)) (st u s K) rfl (oQ (.int u) (.int m) (st u s K) rfl rfl (BM h0)) ej) (bf (by omega))) rfl
  have s2:AN (dOp Ag (AB 0) (dC (.int m))) (dN 0) (st u s' K)=some (.nx (st (u / m) s' K)) :=
   AX (d:=.int (u / m)) (t4:=st u s' K) (oQ (.int u) (.int m) (st u s' K) rfl rfl (Bj h0 (by omega))) rfl
  exact⟨st u s K,_,BE (o:=o) rfl ho,(AE s1).trans s2,u / m,s',K,BC,by rw[Qx,L',hr];rfl,UQ hall hc,rfl⟩
 obtain⟨t7,e,u,s,o,ho,hl,hall,rfl⟩:=lp
 rw[<- Jh]at e
 rw[eW]at hl
 exact⟨u,s,o,ho,by omega,hall,e⟩
theorem PZ(v:Int):∃(t:Tx) (w:Int) (ls:List L),EC [.d (.int v)]=some (.tuple [eT t,.int w],ls)/\1<=t.1.length/\t.1.length<=8/\Fq alN t.1:=by
 obtain⟨u,s,o,ho,hl,ha,e⟩:=QB (al:=alN) (m:=36) (by decide) ∅ (by decide) (1+v % 8) (by omega) (by omega) (v / 8)
 refine⟨⟨s,Jo ∅ ha⟩,u,[.d (.int v)],?_,by show 1<=s.length;omega,by show s.length<=8;omega,ha⟩
 unfold EC
 let I:Int->Option L:=fun i=>some (.d (.int i))
 let T:Option L:=some (.d (.str ""))
 refine AV (τ:=[I u,some (.d (.str s)),I (1+v % 8),o]) ?_ rfl rfl
 have z2:AN (dOp Af (dC (.int 1)) (dOp Ac (AB 0) (dC (.int 8)))) (dN 2) [I v,T,none,none]=some (.nx [I v,T,I (1+v % 8),none]):=by
  have d:=BM (i:=v) (j:=8) (by decide)
  walk_at "b|I,T,d"
 have z3:AN (dOp Ag (AB 0) (dC (.int 8))) (dN 0) [I v,T,I (1+v % 8),none]=some (.nx [I (v / 8),T,I (1+v % 8),none]):=by
  have d:=Bj (i:=v) (j:=8) (by decide) (by decide)
  walk_at "b|I,T,d"
 refine(AE rfl).trans ((AE z2).trans ((AE z3).trans ?_))
 exact(AE ((BN (Eb (n:=1+v % 8) (t4:=[I (v / 8),T,I (1+v % 8),none]) rfl (by omega) (by omega))).trans e)).trans rfl
theorem Ox(v:Int):∃(t:Tx) (w:Int) (ls:List L),EA [.d (.int v)]=some (.tuple [eT t,.int w],ls)/\t.1.length<=6/\Fq alW t.1:=by
 obtain⟨u,s,o,ho,hl,ha,e⟩:=QB (al:=alW) (m:=18) (by decide) ∅ (by decide) (v % 7) (by omega) (by omega) (v / 7)
 refine⟨⟨s,Jo ∅ ha⟩,u,[.d (.int v)],?_,by show s.length<=6;omega,ha⟩
 unfold EA
 let I:Int->Option L:=fun i=>some (.d (.int i))
 let T:Option L:=some (.d (.str ""))
 refine AV (τ:=[I u,some (.d (.str s)),I (v % 7),o]) ?_ rfl rfl
 have z2:AN (dOp Ac (AB 0) (dC (.int 7))) (dN 2) [I v,T,none,none]=some (.nx [I v,T,I (v % 7),none]):=by
  have d:=BM (i:=v) (j:=7) (by decide)
  walk_at "b|I,T,d"
 have z3:AN (dOp Ag (AB 0) (dC (.int 7))) (dN 0) [I v,T,I (v % 7),none]=some (.nx [I (v / 7),T,I (v % 7),none]):=by
  have d:=Bj (i:=v) (j:=7) (by decide) (by decide)
  walk_at "b|I,T,d"
 refine(AE rfl).trans ((AE z2).trans ((AE z3).trans ?_))
 exact(AE ((BN (Eb (n:=v % 7) (t4:=[I (v / 7),T,I (v % 7),none]) rfl (by omega) (by omega))).trans e)).trans rfl
theorem Er(v:Int):∃(x w:Int) (ls:List L),BP [.d (.int v)]=some (.tuple [.int x,.int w],ls)/\-60<=x/\x<=60:=by
 have d1:=BM (i:=v) (j:=6) (by decide)
 have d2:=Bj (i:=v) (j:=6) (by decide) (by decide)
 have d3:=BM (i:=v / 6) (j:=121) (by decide)
 have d4:=BM (i:=v / 6) (j:=12) (by decide)
 have d5:=Bj (i:=v) (j:=726) (by decide) (by decide)
 have d6:=Bj (i:=v) (j:=72) (by decide) (by decide)
 by_cases h:v % 6=0
 ·refine⟨v / 6 % 121-60,v / 726,[.d (.int v)],?_,by omega,by omega⟩
  have q:fEq (.int (v % 6)) (.int 0)=some (.bool true):=by rw[encI.fEq,decide_eq_true h]
  walk_at "b|BP,d1,d2,d3,d5,q"
 ·refine⟨v / 6 % 12-3,v / 72,[.d (.int v)],?_,by omega,by omega⟩
  have q:fEq (.int (v % 6)) (.int 0)=some (.bool false):=by rw[encI.fEq,decide_eq_false h]
  walk_at "b|BP,d1,d2,d4,d6,q"
theorem Es(v m:Int)(m0:5<=m)(m1:m<=100):∃(x w:Int) (ls:List L),Bn [.d (.int v),.d (.int m)]=some (.tuple [.int x,.int w],ls)/\1<=x/\x<=m:=by
 have d1:=BM (i:=v) (j:=8) (by decide)
 have d2:=Bj (i:=v) (j:=8) (by decide) (by decide)
 have d3:=BM (i:=v / 8) (j:=m) (by omega)
 have d4:=Bj (i:=v / 8) (j:=m) (by omega) (by omega)
 have d5:=BM (i:=v / 8) (j:=5) (by decide)
 have d6:=Bj (i:=v) (j:=40) (by decide) (by decide)
 have g0:=fE (v / 8) (show m≠0 by omega)
 have g1:=e6 (v / 8) (show 0<m by omega)
 by_cases h:v % 8=0
 ·refine⟨1+v / 8 % m,v / 8 / m,[.d (.int v),.d (.int m)],?_,by omega,by omega⟩
  have q:fEq (.int (v % 8)) (.int 0)=some (.bool true):=by rw[encI.fEq,decide_eq_true h]
  walk_at "b|Bn,d1,d2,d3,d4,q"
 ·refine⟨1+v / 8 % 5,v / 40,[.d (.int v),.d (.int m)],?_,by omega,by omega⟩
  have q:fEq (.int (v % 8)) (.int 0)=some (.bool false):=by rw[encI.fEq,decide_eq_false h]
  walk_at "b|Bn,d1,d2,d5,d6,q"
theorem Nr(v:Int):∃(a b:Cl) (w:Int) (ls:List L),CF [.d (.int v)]=some (.tuple [ec a,ec b,.int w],ls)/\OkF a/\OkF b:=by
 obtain⟨a,u,l1,e1,oa⟩:=FV v
 obtain⟨b,w,l2,e2,ob⟩:=FV (u / 3)
 have d1:=BM (i:=u) (j:=3) (by decide)
 have d2:=Bj (i:=u) (j:=3) (by decide) (by decide)
 by_cases h:u % 3=0
 ·refine⟨a,(1,1),u / 3,[.d (.int v)],?_,oa,?_⟩
  ·have q:fEq (.int (u % 3)) (.int 0)=some (.bool true):=by rw[encI.fEq,decide_eq_true h]
   walk_at "a|CF,e1,q,d1,d2"
   rfl
  ·have:=T8 (t:=1) (b:=1) (by decide) (by decide) (by decide) (by decide)
   rwa [show frm 1 1=(1,1) by decide]at this
 ·refine⟨a,b,w,[.d (.int v)],?_,oa,ob⟩
  have q:fEq (.int (u % 3)) (.int 0)=some (.bool false):=by rw[encI.fEq,decide_eq_false h]
  walk_at "a|CF,e1,e2,q,d1,d2"
theorem cz:∀rs:List Tx,fixDs (rs.map eT)=true:=encT.fixL
theorem LP(v:Int):∃(R:List Tx) (w:Nat) (v':Int) (ls:List L),Cp [.d (.int v)]=some (.tuple [.tuple (R.map eT),.int v'],ls)/\1<=R.length/\R.length<=8/\1<=w/\w<=8/\∀r∈R,r.1.length=w/\Fq alS r.1:=by
 generalize hw:(1+v % 8:Int)=W
 generalize hh:(1+v / 8 % 8:Int)=Hh
 have w1:1<=W:=by omega
 have w2:W<=8:=by omega
 have h1:1<=Hh:=by omega
 have h2:Hh<=8:=by omega
 let I:Int->Option L:=fun i=>some (.d (.int i))
 let st:Int->List Tx->Option L->Option L->Option L->DS:=fun u R o4 o5 o6=>[I u,I W,I Hh,some (.m (R.map eT)),o4,o5,o6]
 let S:Str->Option L:=fun r=>some (.d (.str r))
 let Bi:DB:=AM (AN (dOp Fu (AB 5) (dOp Dm (dC (.str "#.")) (dOp Ac (AB 0) (dC (.int 2))))) (dN 5)) (AN (dOp Ag (AB 0) (dC (.int 2))) (dN 0))
 have inner:∀(u:Int) (R:List Tx) (o4 o6:Option L),nM o6->∃t7,Ay (dN 6) Bi ((List.range W.toNat).map fun(k:Nat)=>PyData.int (k:Int)) (st u R o4 (S "") o6)=some (.nx t7)/\∃u' r o,nM o/\r.length=(List.range W.toNat).length/\Fq alS r/\t7=st u' R o4 (S r) o:=by
  intro u R o4 o6 n6
  refine A1 (fun(pre:List Nat) τ=>∃u' r o,nM o/\r.length=pre.length/\Fq alS r/\τ=st u' R o4 (S r) o) ⟨u,"",o6,n6,∅,Tt _,rfl⟩ ?_
  rintro pre k post τ hp ⟨u',r,o,ho,hr,hall,rfl⟩
  have hl:=Bu hp
  rw[eW]at hl
  let K:Option L:=I (k:Int)
  let t4:=st u' R o4 (S r) K
  obtain⟨c,hc,ej⟩:=ixA (al:=alS) (m:=2) (by decide) ∅ (by decide) u'
  let r':=r++(⟨#[c]⟩:Str)
  have s1:AN (dOp Fu (AB 5) (dOp Dm (dC (.str "#.")) (dOp Ac (AB 0) (dC (.int 2))))) (dN 5) t4=some (.nx (st u' R o4 (S r') K)) :=
   AX (d:=.str r') (t4:=t4) (oQ (.str r) (.str ⟨#[c]⟩) t4 rfl (oQ (.str "#.") (.int (u' % 2)) t4 rfl (oQ (.int u') (.int 2) t4 rfl rfl (BM (by decide))) ej) (bf (by omega))) rfl
  have s2:AN (dOp Ag (AB 0) (dC (.int 2))) (dN 0) (st u' R o4 (S r') K)=some (.nx (st (u' / 2) R o4 (S r') K)) :=
   AX (d:=.int (u' / 2)) (t4:=st u' R o4 (S r') K) (oQ (.int u') (.int 2) (st u' R o4 (S r') K) rfl rfl (Bj (by decide) (by decide))) rfl
  exact⟨t4,_,BE (o:=o) rfl ho,(AE s1).trans s2,u' / 2,r',K,BC,by rw[Qx,L',hr];rfl,UQ hall hc,rfl⟩
 have outer:∃t7,Ay (dN 4) (AM (AN (dC (.str "")) (dN 5)) (AM (Bh (dR1 (AA (AB 1) AD)) (dN 6) Bi) (A3 (dMt 3 Ap (AA (AB 5) AD))))) ((List.range Hh.toNat).map fun(k:Nat)=>PyData.int (k:Int)) (st (v / 64) [] none none none)=some (.nx t7)/\∃u R o4 o5 o6,nM o4/\nM o5/\nM o6/\R.length=(List.range Hh.toNat).length/\(∀r∈R,r.1.length=W.toNat/\Fq alS r.1)/\t7=st u R o4 o5 o6:=by
  refine A1 (fun(pre:List Nat) τ=>∃u R o4 o5 o6,nM o4/\nM o5/\nM o6/\R.length=pre.length/\(∀r∈R,r.1.length=W.toNat/\Fq alS r.1)/\τ=st u R o4 o5 o6) ⟨v / 64,[],none,none,none,Ai,Ai,Ai,rfl,(fun r hr=>by cases hr),rfl⟩ ?_
  rintro pre k post τ hp ⟨u,R,o4,o5,o6,n4,n5,n6,hR,hall,rfl⟩
  have hl:=Bu hp
  rw[eW]at hl
  let K:Option L:=I (k:Int)
  have s1:AN (dC (.str "")) (dN 5) (st u R K o5 o6)=some (.nx (st u R K (S "") o6)):=AX (d:=.str "") (t4:=st u R K o5 o6) rfl (BE (o:=o5) rfl n5)
  obtain⟨t7,e,u',r,o,ho,hr,hal,rfl⟩:=inner u R K o6 n6
  rw[<- Jh]at e
  let rt:Tx:=⟨r,Jo ∅ hal⟩
  have s2:Bh (dR1 (AA (AB 1) AD)) (dN 6) Bi (st u R K (S "") o6)=some (.nx (st u' R K (S r) o)):=(BN (Eb (n:=W) (t4:=st u R K (S "") o6) rfl (by omega) (by omega))).trans e
  have s3:A3 (dMt 3 Ap (AA (AB 5) AD)) (st u' R K (S r) o)=some (.nx (st u' (R++[rt]) K (S r) o)):=by
   refine(P0 (i:=3) (d:=eT rt) (xs:=R.map eT) (t4:=st u' R K (S r) o) rfl rfl (by rw[B'];omega)).trans ?_
   show some (Out.nx [_,_,_,some (.m (R.map eT++[eT rt])),_,_,_])=_
   rw[show R.map eT++[eT rt]=(R++[rt]).map eT by rw[eB];rfl]
  refine⟨st u R K o5 o6,st u' (R++[rt]) K (S r) o,BE (o:=o4) rfl n4,(AE s1).trans ((AE s2).trans s3),u',R++[rt],K,S r,o,BC,BC,ho,by rw[L',L',hR];rfl,fun x hx=>?_,rfl⟩
  rcases fB.mp hx with z|z
  ·exact hall x z
  ·rw[dq.mp z]
   rw[eW]at hr
   exact⟨hr,hal⟩
 obtain⟨t7,e,u,R,o4,o5,o6,n4,n5,n6,hR,hall,rfl⟩:=outer
 rw[<- Jh]at e
 rw[eW]at hR
 unfold Cp
 let s0:DS:=[I v,none,none,none,none,none,none]
 let s1:DS:=[I v,I W,none,none,none,none,none]
 let s2:DS:=[I v,I W,I Hh,none,none,none,none]
 let s3:DS:=[I (v / 64),I W,I Hh,none,none,none,none]
 have z1:AN (dOp Af (dC (.int 1)) (dOp Ac (AB 0) (dC (.int 8)))) (dN 1) s0=some (.nx s1) :=
  AX (d:=.int W) (t4:=s0) (oQ (.int 1) (.int (v % 8)) s0 rfl (oQ (.int v) (.int 8) s0 rfl rfl (BM (by decide))) (by rw[<- hw];rfl)) rfl
 have z2:AN (dOp Af (dC (.int 1)) (dOp Ac (dOp Ag (AB 0) (dC (.int 8))) (dC (.int 8)))) (dN 2) s1=some (.nx s2) :=
  AX (d:=.int Hh) (t4:=s1) (oQ (.int 1) (.int (v / 8 % 8)) s1 rfl (oQ (.int (v / 8)) (.int 8) s1 (oQ (.int v) (.int 8) s1 rfl rfl (Bj (by decide) (by decide))) rfl (BM (by decide))) (by rw[<- hh];rfl)) rfl
 have z3:AN (dOp Ag (AB 0) (dC (.int 64))) (dN 0) s2=some (.nx s3) :=
  AX (d:=.int (v / 64)) (t4:=s2) (oQ (.int v) (.int 64) s2 rfl rfl (Bj (by decide) (by decide))) rfl
 have z4:EU 1 3 s3=some (.nx (st (v / 64) [] none none none)):=rfl
 refine⟨R,W.toNat,u,_,AV (τ:=st u R o4 o5 o6) ?_ rfl rfl,by omega,by omega,by omega,by omega,hall⟩
 refine(AE z1).trans ((AE z2).trans ((AE z3).trans ((AE z4).trans ?_)))
 refine(AE ((BN (Eb (n:=Hh) (t4:=st (v / 64) [] none none none) rfl (by omega) (by omega))).trans e)).trans (AZ (t4:=st u R o4 o5 o6) ?_)
 let n9:DS:=[I u,I W,I Hh,some (.d (.list (R.map eT))),o4,o5,o6]
 refine ZF (i:=3) (xs:=R.map eT) (t4:=n9) rfl ?_ ?_
 ·unfold AY
  show((AA (Ah Kz (AA (AB 3) AD)) (AA (AB 0) AD) n9).bind _)=_
  rw[acc (LF (d:=.list (R.map eT)) (r:=.tuple (R.map eT)) rfl rfl) (acc (t4:=n9) (d:=.int u) rfl rfl)]
  rfl
 ·show((fixDs (R.map eT)&&(true&&true))&&(true&&(true&&(true&&(true&&(okM o4&&(okM o5&&(okM o6&&true))))))))=true
  rw[cz,Fj n4,Fj n5,Fj n6];rfl
def Em:Dz->Prop
 |.plate w h a b=>1<=w/\w<=12/\1<=h/\h<=12/\OkF a/\OkF b
 |.band w h a b=>-12<=w/\w<=12/\-12<=h/\h<=12/\OkF a/\OkF b
 |.word t a b=>t.1.length<=6/\Fq alW t.1/\OkF a/\OkF b
 |.stencil R a b=>1<=R.length/\R.length<=8/\(∃w,1<=w/\w<=8/\∀r∈R,r.1.length=w/\Fq alS r.1)/\OkF a/\OkF b
 |.group=>True
 |.glass a=>OkF a
 |.window w h x y=>1<=w/\w<=16/\1<=h/\h<=16/\-60<=x/\x<=60/\-60<=y/\y<=60
 |.turn q _=>0<=q/\q<=3
 |.tiles a b x y=>1<=a/\a<=3/\1<=b/\b<=3/\a*b<=4/\-20<=x/\x<=20/\-20<=y/\y<=20
 |.mask=>True
theorem inT(t:Tx)(ts:List Tx):fIn false (eT t) (.tuple (ts.map eT))=some (.bool (decide (t∈ts))):=by
 simp only[DL.fIn,encT.ok,encT.okL,encT.any,Bool.and_self,if_true,Bool.false_eq_true,if_false]
 exact congrArg (fun b=>some (PyData.bool b)) (decide_eq_decide.mpr f9)
theorem sk{i j:Nat}(hi:i<10)(hj:j<10)(h:i≠j){a:DB}{τ:DS}(e:τ[0]?=some (some (.d (eT (kS i))))):AR (AI (dOp fEq (AB 0) (dC (eT (kS j))))) a AU τ=some (.nx τ):=by
 refine(As (t4:=τ) (tst (oQ (eT (kS i)) (eT (kS j)) τ (by unfold AB;rw[e]) rfl ?_))).trans rfl
 rw[encT.fEq,decide_eq_false fun z=>h (IS hi hj z)]
theorem tk{i:Nat}{a:DB}{τ:DS}(e:τ[0]?=some (some (.d (eT (kS i))))):AR (AI (dOp fEq (AB 0) (dC (eT (kS i))))) a AU τ=a τ:=by
 refine Au (t4:=τ) (tst (oQ (eT (kS i)) (eT (kS i)) τ (by unfold AB;rw[e]) rfl ?_))
 rw[encT.fEq,decide_eq_true rfl]
theorem Pn{i:Nat}(hi:i<10)(v:Int):∃(d:Dz) (w:Int) (ls:List L),Ak [.d (eT (kS i)),.d (.int v)]=some (.tuple [eD d,.int w],ls)/\kz d=i/\Em d:=by
 let I:Int->Option L:=fun i=>some (.d (.int i))
 let K:Option L:=some (.d (eT (kS i)))
 let N:Option L:=none
 let LS:List L:=[.d (eT (kS i)),.d (.int v)]
 let l8:DS:=[K,I v,N,N,N,N,N,N,N,N,N]
 have g1:AI (dOp (fIn false) (AB 0) (AY (AA (dC (.str "group")) (AA (dC (.str "mask")) AD)))) l8=some (decide (kS i∈[kS 4,kS 9]),l8) :=
  tst (oQ (eT (kS i)) (.tuple ([kS 4,kS 9].map eT)) l8 rfl rfl (inT _ _))
 have g0:i≠4->i≠9->∀a:DB,AR (AI (dOp (fIn false) (AB 0) (AY (AA (dC (.str "group")) (AA (dC (.str "mask")) AD))))) a AU l8=some (.nx l8):=fun h4 h9 a=>by
  refine(As (t4:=l8) (g1.trans ?_)).trans rfl
  rw[decide_eq_false]
  intro z
  rcases P'.mp z with z|z
  ·exact h4 (IS hi (by decide) z)
  ·exact h9 (IS hi (by decide) (dq.mp z))
 have g2:i=4\/i=9->Ak [.d (eT (kS i)),.d (.int v)]=some (.tuple [.tuple [],.int v],[.d (eT (kS i)),.d (.int v)]):=fun h=>by
  unfold Ak
  refine AV (τ:=l8) ((Ad ((Au (t4:=l8) (g1.trans ?_)).trans rfl))) rfl rfl
  rw[decide_eq_true]
  rcases h with rfl|rfl
  ·exact F'
  ·exact C' _ F'
 have q1:i=4->∃(d:Dz) (w:Int) (ls:List L),Ak [.d (eT (kS i)),.d (.int v)]=some (.tuple [eD d,.int w],ls)/\kz d=i/\Em d:=fun h=>⟨.group,v,_,g2 (.inl h),by rw[h];rfl,trivial⟩
 have q2:i=9->∃(d:Dz) (w:Int) (ls:List L),Ak [.d (eT (kS i)),.d (.int v)]=some (.tuple [eD d,.int w],ls)/\kz d=i/\Em d:=fun h=>⟨.mask,v,_,g2 (.inr h),by rw[h];rfl,trivial⟩
 by_cases h4:i=4
 ·exact q1 h4
 by_cases h9:i=9
 ·exact q2 h9
 have G0:=g0 h4 h9
 by_cases h7:i=7
 ·subst h7
  have d1:=BM (i:=v) (j:=4) (by decide)
  have d2:=Bj (i:=v) (j:=4) (by decide) (by decide)
  have d3:=BM (i:=v / 4) (j:=2) (by decide)
  have d4:=Bj (i:=v) (j:=8) (by decide) (by decide)
  have d5:fEq (.int (v / 4 % 2)) (.int 1)=some (.bool (decide (v / 4 % 2=1))):=encI.fEq _ _
  refine⟨.turn (v % 4) (decide (v / 4 % 2=1)),v / 8,LS,?_,rfl,by show 0<=v % 4;omega,by show v % 4<=3;omega⟩
  unfold Ak
  refine AV (τ:=l8) ((AE (G0 _)).trans (Ad ((tk (i:=7) (τ:=l8) rfl).trans (AZ (t4:=l8) ?_)))) rfl rfl
  walk_at "b|l8,K,I,N,d1,d2,d3,d4,d5,eD"
 have G1:∀a:DB,AR (AI (dOp fEq (AB 0) (dC (.str "turn")))) a AU l8=some (.nx l8):=fun a=>sk hi (j:=7) (by decide) h7 rfl
 by_cases h8:i=8
 ·subst h8
  have d1:=BM (i:=v) (j:=3) (by decide)
  have d1b:=BM (i:=v % 3) (j:=2) (by decide)
  have d2:=Bj (i:=v) (j:=3) (by decide) (by decide)
  have d3:=BM (i:=v / 3) (j:=3) (by decide)
  have d3b:=BM (i:=v / 3 % 3) (j:=2) (by decide)
  have d4:=Bj (i:=v) (j:=9) (by decide) (by decide)
  have d5:=BM (i:=v / 9) (j:=41) (by decide)
  have d6:=Bj (i:=v) (j:=369) (by decide) (by decide)
  have d7:=BM (i:=v / 369) (j:=41) (by decide)
  have d8:=Bj (i:=v) (j:=15129) (by decide) (by decide)
  have d9:=BM (i:=v / 15129) (j:=4) (by decide)
  have da:=Bj (i:=v) (j:=60516) (by decide) (by decide)
  generalize ha:1+v % 3 % 2=a
  generalize hb:1+v / 3 % 3 % 2=b
  generalize hx:v / 9 % 41-20=x
  generalize hy:v / 369 % 41-20=y
  have hab:a*b<=4:=by
   have h1:a=1\/a=2:=by omega
   have h2:b=1\/b=2:=by omega
   rcases h1 with h1|h1<;>rcases h2 with h2|h2<;>rw[h1,h2]<;>decide
  have db:=BM (i:=x) (j:=7) (by decide)
  have dc:=BM (i:=y) (j:=7) (by decide)
  let T:Int->Int->Option L:=fun x y=>some (.d (.tuple [.int a,.int b,.int x,.int y]))
  let t4:Int->Int->DS:=fun x y=>[K,I v,T x y,N,N,N,N,N,N,N,N]
  have s1:AN (AY (AA (dOp Af (dC (.int 1)) (dOp Ac (dOp Ac (AB 1) (dC (.int 3))) (dC (.int 2)))) (AA (dOp Af (dC (.int 1)) (dOp Ac (dOp Ac (dOp Ag (AB 1) (dC (.int 3))) (dC (.int 3))) (dC (.int 2)))) (AA (dOp Am (dOp Ac (dOp Ag (AB 1) (dC (.int 9))) (dC (.int 41))) (dC (.int 20))) (AA (dOp Am (dOp Ac (dOp Ag (AB 1) (dC (.int 369))) (dC (.int 41))) (dC (.int 20))) AD))))) (dN 2) l8=some (.nx (t4 x y)):=by
   walk_at "b|l8,t4,T,K,I,N,d1,d1b,d2,d3,d3b,d4,d5,d6,d7,ha,hb,hx,hy"
  have fin:∀x y:Int,AQ (AY (AA (AB 2) (AA (dOp Ag (AB 1) (dC (.int 60516))) AD))) (t4 x y)=some (.rt (.tuple [.tuple [.int a,.int b,.int x,.int y],.int (v / 60516)]) (t4 x y)):=fun x y=>by
   walk_at "b|l8,t4,T,K,I,N,da"
  by_cases hp:v / 15129 % 4>0
  ·refine⟨.tiles a b (x % 7) (y % 7),v / 60516,LS,?_,rfl,?_⟩
   ·unfold Ak
    refine AV (τ:=t4 (x % 7) (y % 7)) ((AE (G0 _)).trans ((AE (G1 _)).trans (Ad ((tk (i:=8) (τ:=l8) rfl).trans ((AE s1).trans ((AE (t4:=t4 (x % 7) (y % 7)) ?_).trans (fin _ _))))))) rfl rfl
    refine(Au (t4:=t4 x y) ?_).trans ?_
    ·walk_at "b|t4,T,K,I,N,d8,d9,hp,decide_true"
    ·have e1:ET (AB 2) CK (dPt (dC (.int 2))) (t4 x y)=some (.tuple [.int a,.int b],t4 x y):=rfl
     refine AX (d:=.tuple [.int a,.int b,.int (x % 7),.int (y % 7)]) (t4:=t4 x y) (op2 e1 (y:=.tuple [.int (x % 7),.int (y % 7)]) (l7:=t4 x y) ?_ rfl) rfl
     walk_at "b|t4,T,K,I,N,db,dc"
   ·exact⟨by omega,by omega,by omega,by omega,hab,by omega,by omega,by omega,by omega⟩
  ·refine⟨.tiles a b x y,v / 60516,LS,?_,rfl,?_⟩
   ·unfold Ak
    refine AV (τ:=t4 x y) ((AE (G0 _)).trans ((AE (G1 _)).trans (Ad ((tk (i:=8) (τ:=l8) rfl).trans ((AE s1).trans ((AE (t4:=t4 x y) ?_).trans (fin _ _))))))) rfl rfl
    refine(As (t4:=t4 x y) ?_).trans rfl
    walk_at "b|t4,T,K,I,N,d8,d9,hp,decide_false"
   ·exact⟨by omega,by omega,by omega,by omega,hab,by omega,by omega,by omega,by omega⟩
 have G2:∀a:DB,AR (AI (dOp fEq (AB 0) (dC (.str "tiles")))) a AU l8=some (.nx l8):=fun a=>sk hi (j:=8) (by decide) h8 rfl
 by_cases h6:i=6
 ·subst h6
  obtain⟨w,v1,l1,e1,w0,w1⟩:=Es v 16 (by decide) (by decide)
  obtain⟨h,v2,l2,e2,h0,h1⟩:=Es v1 16 (by decide) (by decide)
  obtain⟨x,v3,l3,e3,x0,x1⟩:=Er v2
  obtain⟨y,v4,l4,e4,y0,y1⟩:=Er v3
  refine⟨.window w h x y,v4,LS,?_,rfl,w0,w1,h0,h1,x0,x1,y0,y1⟩
  unfold Ak
  let st:Int->Option L->Option L->Option L->Option L->DS:=fun v a b c d=>[K,I v,N,a,b,c,d,N,N,N,N]
  refine AV (τ:=st v4 (I w) (I h) (I x) (I y)) ((AE (G0 _)).trans ((AE (G1 _)).trans ((AE (G2 _)).trans (Ad ((tk (i:=6) (τ:=l8) rfl).trans ?_))))) rfl rfl
  refine(AE (t4:=st v1 (I w) N N N) (AX (cQ l8 [.int v,.int 16] rfl rfl e1) rfl)).trans ?_
  refine(AE (t4:=st v2 (I w) (I h) N N) (AX (cQ (st v1 (I w) N N N) [.int v1,.int 16] rfl rfl e2) rfl)).trans ?_
  refine(AE (t4:=st v3 (I w) (I h) (I x) N) (AX (cQ (st v2 (I w) (I h) N N) [.int v2] rfl rfl e3) rfl)).trans ?_
  exact(AE (t4:=st v4 (I w) (I h) (I x) (I y)) (AX (cQ (st v3 (I w) (I h) (I x) N) [.int v3] rfl rfl e4) rfl)).trans rfl
 have G3:∀a:DB,AR (AI (dOp fEq (AB 0) (dC (.str "window")))) a AU l8=some (.nx l8):=fun a=>sk hi (j:=6) (by decide) h6 rfl
 obtain⟨p,q,v',lp,ep,op,oq⟩:=Nr v
 let A:Option L:=some (.d (ec p))
 let B:Option L:=some (.d (ec q))
 let st:Int->Option L->Option L->Option L->Option L->DS:=fun v a b c d=>[K,I v,N,a,b,N,N,A,B,c,d]
 let t4:=st v' N N N N
 have P:AN (AH CF (AA (AB 1) AD)) (dGT (AW (dN 7) (AW (dN 8) (AW (dN 1) A0)))) l8=some (.nx t4):=AX (cQ l8 [.int v] rfl rfl ep) rfl
 by_cases h5:i=5
 ·subst h5
  refine⟨.glass q,v',LS,?_,rfl,oq⟩
  unfold Ak
  exact AV (τ:=t4) ((AE (G0 _)).trans ((AE (G1 _)).trans ((AE (G2 _)).trans ((AE (G3 _)).trans ((AE P).trans (Ad ((tk (i:=5) (τ:=t4) rfl).trans rfl))))))) rfl rfl
 have G5:∀a:DB,AR (AI (dOp fEq (AB 0) (dC (.str "glass")))) a AU t4=some (.nx t4):=fun a=>sk hi (j:=5) (by decide) h5 rfl
 by_cases hh:i=0
 ·subst hh
  obtain⟨w,v1,l1,e1,w0,w1⟩:=Es v' 6 (by decide) (by decide)
  obtain⟨h,v2,l2,e2,h0,h1⟩:=Es v1 6 (by decide) (by decide)
  refine⟨.plate w h p q,v2,LS,?_,rfl,w0,by omega,h0,by omega,op,oq⟩
  unfold Ak
  refine AV (τ:=st v2 (I w) (I h) N N) ((AE (G0 _)).trans ((AE (G1 _)).trans ((AE (G2 _)).trans ((AE (G3 _)).trans ((AE P).trans ((AE (G5 _)).trans (Ad ((tk (i:=0) (τ:=t4) rfl).trans ?_)))))))) rfl rfl
  refine(AE (t4:=st v1 (I w) N N N) (AX (cQ t4 [.int v',.int 6] rfl rfl e1) rfl)).trans ?_
  exact(AE (t4:=st v2 (I w) (I h) N N) (AX (cQ (st v1 (I w) N N N) [.int v1,.int 6] rfl rfl e2) rfl)).trans rfl
 have G6:∀a:DB,AR (AI (dOp fEq (AB 0) (dC (.str "plate")))) a AU t4=some (.nx t4):=fun a=>sk hi (j:=0) (by decide) hh rfl
 by_cases h1:i=1
 ·subst h1
  have d1:=BM (i:=v') (j:=25) (by decide)
  have d2:=Bj (i:=v') (j:=25) (by decide) (by decide)
  have d3:=BM (i:=v' / 25) (j:=25) (by decide)
  have d4:=Bj (i:=v') (j:=625) (by decide) (by decide)
  refine⟨.band (v' % 25-12) (v' / 25 % 25-12) p q,v' / 625,LS,?_,rfl,by omega,by omega,by omega,by omega,op,oq⟩
  unfold Ak
  refine AV (τ:=t4) ((AE (G0 _)).trans ((AE (G1 _)).trans ((AE (G2 _)).trans ((AE (G3 _)).trans ((AE P).trans ((AE (G5 _)).trans ((AE (G6 _)).trans (Ad ((tk (i:=1) (τ:=t4) rfl).trans (AZ (t4:=t4) ?_)))))))))) rfl rfl
  walk_at "b|t4,st,K,I,N,A,B,d1,d2,d3,d4,eD"
 have G7:∀a:DB,AR (AI (dOp fEq (AB 0) (dC (.str "band")))) a AU t4=some (.nx t4):=fun a=>sk hi (j:=1) (by decide) h1 rfl
 by_cases h2:i=2
 ·subst h2
  obtain⟨t,v1,l1,e1,t6,ta⟩:=Ox v'
  refine⟨.word t p q,v1,LS,?_,rfl,t6,ta,op,oq⟩
  unfold Ak
  refine AV (τ:=st v1 N N (some (.d (eT t))) N) ((AE (G0 _)).trans ((AE (G1 _)).trans ((AE (G2 _)).trans ((AE (G3 _)).trans ((AE P).trans ((AE (G5 _)).trans ((AE (G6 _)).trans ((AE (G7 _)).trans (Ad ((tk (i:=2) (τ:=t4) rfl).trans ?_)))))))))) rfl rfl
  exact(AE (t4:=st v1 N N (some (.d (eT t))) N) (AX (cQ t4 [.int v'] rfl rfl e1) rfl)).trans rfl
 have G8:∀a:DB,AR (AI (dOp fEq (AB 0) (dC (.str "word")))) a AU t4=some (.nx t4):=fun a=>sk hi (j:=2) (by decide) h2 rfl
 have h3:i=3:=by omega
 subst h3
 obtain⟨R,w,v1,l1,e1,r1,r2,w1,w2,hr⟩:=LP v'
 refine⟨.stencil R p q,v1,LS,?_,rfl,r1,r2,⟨w,w1,w2,hr⟩,op,oq⟩
 unfold Ak
 refine AV (τ:=st v1 N N N (some (.d (.tuple (R.map eT))))) ((AE (G0 _)).trans ((AE (G1 _)).trans ((AE (G2 _)).trans ((AE (G3 _)).trans ((AE P).trans ((AE (G5 _)).trans ((AE (G6 _)).trans ((AE (G7 _)).trans ((AE (G8 _)).trans ?_))))))))) rfl rfl
 exact(AE (t4:=st v1 N N N (some (.d (.tuple (R.map eT))))) (AX (cQ t4 [.int v'] rfl rfl e1) rfl)).trans rfl
theorem lcg{α:Type}{enc:α->PyData}{rs:List α}{τ:DS}{fr:List Nat}{it:DI}{ex:DS}{c:DT}{e:DX}(p:α->Bool)(f:α->PyData)(h:it τ=some (rs.map enc,τ))(hz:rs.length<=1000)(hm:(fr.all fun j=>!isM τ j)=true)(hb:LA 1 fr τ=none::ex)
  (hc:∀r∈rs,c (some (.d (enc r))::ex)=some (p r,some (.d (enc r))::ex)) (he:∀r∈rs,p r=true->e (some (.d (enc r))::ex)=some (f r,some (.d (enc r))::ex)):dLC 1 fr it (dN 0) c e τ=some (.list ((rs.filter p).map f),τ):=by
 obtain ⟨l9, el⟩ := Hn (enc := enc) (g := dN 0) (c := c) (e := e) (fun τ => ∃ o1, nM o1 /\ τ = o1 :: ex) p f (xs := rs) (acc := []) (τ := none :: ex) ⟨none, Ai, rfl⟩ (by
  rintro x τ hx ⟨o1,n1,rfl⟩
  exact⟨some (.d (enc x))::ex,some (.d (enc x))::ex,BE (o:=o1) rfl n1,hc x hx,fun _=>⟨_,BC,rfl⟩,fun hp=>⟨some (.d (enc x))::ex,he x hx hp,_,BC,rfl⟩⟩)
 rw[gR]at el
 exact Pl (ds:=rs.map enc) (t4:=τ) (l9:=l9) h (by rw[B'];exact sz hz) hm (by rw[hb];exact el)
theorem Ek{α:Type}(l:List α):l.filter (fun _=>true)=l:=List.filter_eq_self.mpr fun _ _=>rfl
structure OkRow(r:Rz):Prop where
 n1:1<=r.n.1.length
 n8:r.n.1.length<=8
 na:Fq alN r.n.1
 x0:-60<=r.x
 x1:r.x<=60
 y0:-60<=r.y
 y1:r.y<=60
 d:Em r.d
def OkR:List Rz->Prop
 |[]=>True
 |r::a=>OkR a/\OkRow r/\(∀q∈a,q.n≠r.n)/\(r.h=t0\/∃q∈a,q.n=r.h)
def hsR:List Rz->Tx->List Tx
 |[],_=>[]
 |r::a,n=>if r.n=n then n::hsR a r.h else hsR a n
def Ll(rs:List Rz)(t:Tx):Option Rz:=rs.find? fun r=>decide (r.n=t)
theorem OkRow.ne{r:Rz}(h:OkRow r):r.n≠t0:=fun z=>by
 have:=h.n1
 rw[z]at this
 exact absurd this ∅
theorem OkR.all{a:List Rz}(ok:OkR a):∀r∈a,OkRow r:=by
 induction a with
 |nil=>intro r hr;cases hr
 |cons q a ih =>
  intro r hr
  rcases P'.mp hr with h|h
  ·rw[h];exact ok.2.1
  ·exact ih ok.1 r h
theorem OkR.suf{p q:List Rz}(ok:OkR (p++q)):OkR q:=by
 induction p with
 |nil=>exact ok
 |cons x p ih=>exact ih ok.1
theorem OkR.inj{a:List Rz}(ok:OkR a):∀r∈a,∀q∈a,r.n=q.n->r=q:=by
 induction a with
 |nil=>intro r hr;cases hr
 |cons x a ih =>
  intro r hr q hq e
  rcases P'.mp hr with h1|h1<;>rcases P'.mp hq with h2|h2
  ·rw[h1,h2]
  ·rw[h1]at e;exact absurd e.symm (ok.2.2.1 q h2)
  ·rw[h2]at e;exact absurd e (ok.2.2.1 r h1)
  ·exact ih ok.1 r h1 q h2 e
theorem Ku:∀{a:List Rz},OkR a->hsR a t0=[]
 |[],_=>rfl
 |r::a,⟨h,o,_⟩=>by
  unfold hsR
  rw[if_neg o.ne];exact Ku h
theorem M9:∀(a:List Rz) (n:Tx),(hsR a n).length<=a.length
 |[],_=>J' _
 |r::a,n=>by
  unfold hsR
  split
  ·have:=M9 a r.h
   simp only[List.length_cons];omega
  ·have:=M9 a n
   simp only[List.length_cons];omega
abbrev OkZ(rs:List Rz):Prop:=OkR rs.reverse
theorem OT{rs:List Rz}(ok:OkZ rs){r:Rz}(hr:r∈rs):Ll rs r.n=some r:=by
 unfold Ll
 cases e:rs.find? fun q=>decide (q.n=r.n) with
 |none=>exact absurd (hZ.mp e r hr) (by simp)
 |some q =>
  have h1:=List.find?_some e
  have h2:=List.mem_of_find?_eq_some e
  rw[OkR.inj ok q (V'.mpr h2) r (V'.mpr hr) (of_decide_eq_true h1)]
theorem OU{rs:List Rz}{n:Tx}(h:∀q∈rs,q.n≠n):Ll rs n=none:=hZ.mpr fun q hq=>by simpa using h q hq
theorem YG{rs:List Rz}(ok:OkZ rs):Ll rs t0=none:=OU fun q hq=>(OkR.all ok q (V'.mpr hq)).ne
def kvZ(rs:List Rz):List (PyData×PyData):=rs.map fun r=>(eT r.n,eZ r)
theorem IV(t:Tx):∀rs:List Rz,Gn (kvZ rs) t.1=(Ll rs t).map eZ
 |[]=>rfl
 |r::rs=>by
  show(if r.n.1=t.1 then some (eZ r) else Gn (kvZ rs) t.1)=_
  unfold Ll
  rw[List.find?_cons]
  by_cases h:r.n=t
  ·rw[if_pos (by rw[h]),decide_eq_true h];rfl
  ·rw[if_neg (fun z=>h (Subtype.ext z)),decide_eq_false h];exact IV t rs
theorem Se{rs:List Rz}{r:Rz}(h:∀q∈rs,q.n≠r.n):O9 (kvZ rs) r.n.1 (eZ r)=kvZ (rs++[r]):=by
 unfold O9
 rw[IV,OU h]
 show(if (none:Option PyData).isSome=true then _ else _)=_
 rw[if_neg (by decide)]
 unfold kvZ
 rw[eB];rfl
theorem NZ{rs pre post:List Rz}{r:Rz}(ok:OkZ rs)(e:rs=pre++r::post):∀q∈pre,q.n≠r.n:=by
 have:OkR (post.reverse++(r::pre.reverse)):=by
  have:=ok
  unfold OkZ at this
  rw[e]at this
  simpa using this
 exact fun q hq=>this.suf.2.2.1 q (V'.mpr hq)
theorem aj(a b:Tx):fNe (eT a) (eT b)=some (.bool (!decide (a=b))):=encT.fNe a b
theorem OY(a b:Tx):fEq (eT a) (eT b)=some (.bool (decide (a=b))):=encT.fEq a b
theorem QN{i:Nat}{e k:DX}{τ t4 l7:DS}{d:PyData}{x:Str}{kv0 kvs:List (PyData×PyData)}(he:e τ=some (d,t4))(h1:t4[i]?=some (some (.g (.dict kv0))))(hk:k t4=some (.str x,l7))(h2:l7[i]?=some (some (.g (.dict kvs))))(hf:Cz d=true)(hz:kvs.length<=1000) :
  Hx i e k τ=some (.nx (l7.set i (some (.g (.dict (O9 kvs x d)))))):=by
 unfold Hx
 rw[he]
 dsimp only[Option.bind]
 rw[h1]
 dsimp only
 rw[hk]
 dsimp only
 rw[h2]
 dsimp only
 rw[if_pos ⟨hf,Nat.lt_of_le_of_lt hz (by decide)⟩]
theorem Tu{i:Nat}{f:DX}{τ t4:DS}{x:Str}{kvs:List (PyData×PyData)}(hf:f τ=some (.str x,t4))(h:t4[i]?=some (some (.g (.dict kvs)))):Lo false f i τ=some (.bool (Gn kvs x).isSome,t4):=by
 unfold Lo
 rw[hf]
 dsimp only[Option.bind]
 rw[h]
 dsimp only
 rw[Bool.false_bne]
theorem Tj{i:Nat}{f:DX}{τ t4:DS}{x:Str}{kv0 kvs:List (PyData×PyData)}{d:PyData}(h0:τ[i]?=some (some (.g (.dict kv0))))(hf:f τ=some (.str x,t4))(h:t4[i]?=some (some (.g (.dict kvs))))(hd:Gn kvs x=some d):Ln i f τ=some (d,t4):=by
 unfold Ln
 rw[h0]
 dsimp only
 rw[hf]
 dsimp only[Option.bind]
 rw[h]
 dsimp only
 rw[hd];rfl
theorem WQ{c:DT}{b:DB}{n:Nat}{τ:DS}{o:Option Out}(h:dWh c b n τ=o):Fv (fun _=>n) c b τ=o:=h
theorem WS{rs:List Rz}(ok:OkZ rs)(hl:rs.length<=40){a:Tx}(ha:a=t0\/∃q∈rs,q.n=a):∃ls,Fo [.d (.list (rs.map eZ)),.d (eT a)]=some (.list ((hsR rs.reverse a).map eT),ls):=by
 let R:Option L:=some (.d (.list (rs.map eZ)))
 let T:Tx->Option L:=fun a=>some (.d (eT a))
 let M:List Tx->Option L:=fun l=>some (.m (l.map eT))
 let G:List Rz->Option L:=fun l=>some (.g (.dict (kvZ l)))
 let st:List Rz->Option L->DS:=fun l o=>[R,T a,M [],G l,o]
 have lp:∃t7,Ay (dN 4) (Hx 3 (AB 4) (dOp AK (AB 4) (dC (.int 0)))) (rs.map eZ) (st [] none)=some (.nx t7)/\∃o,nM o/\t7=st rs o:=by
  refine A1 (fun pre τ=>∃o,nM o/\τ=st pre o) ⟨none,Ai,rfl⟩ ?_
  rintro pre r post τ e ⟨o,ho,rfl⟩
  have hz:=Bu e
  refine⟨st pre (some (.d (eZ r))),st (pre++[r]) (some (.d (eZ r))),BE (o:=o) rfl ho,?_,_,BC,rfl⟩
  refine(QN (d:=eZ r) (x:=r.n.1) (kv0:=kvZ pre) (kvs:=kvZ pre) (t4:=st pre (some (.d (eZ r)))) (l7:=st pre (some (.d (eZ r)))) rfl rfl (oQ (eZ r) (.int 0) (st pre (some (.d (eZ r)))) rfl rfl rfl) rfl (encZ.fix r) ?_).trans ?_
  ·rw[show(kvZ pre).length=pre.length from B' ..];omega
  ·rw[Se (NZ ok e)];rfl
 obtain⟨t7,e1,o,ho,rfl⟩:=lp
 let C:DT:=Av (AI (dOp fNe (AB 1) (dC (.str "")))) (AI (Lo false (AB 1) 3))
 let B:DB:=AM (A3 (dMt 2 Ap (AA (AB 1) AD))) (AN (dOp AK (Ln 3 (AB 1)) (dC (.int 1))) (dN 1))
 let sw:Tx->List Tx->DS:=fun a l=>[R,T a,M l,G rs,o]
 have cT:∀b l,C (sw b l)=some (!decide (b=t0)&&(Ll rs b).isSome,sw b l):=fun b l=>by
  refine LN (tst (oQ (eT b) (eT t0) (sw b l) rfl rfl (aj b t0))) (tst ?_)
  rw[Tu (x:=b.1) (kvs:=kvZ rs) (t4:=sw b l) rfl rfl,IV,gf]
 have wl:∀(ah post:List Rz) (b:Tx) (l:List Tx) (n:Nat),rs.reverse=post++ah->(b=t0\/∃q∈ah,q.n=b)->ah.length<n->l.length+ah.length<=60->∃b',dWh C B n (sw b l)=some (.nx (sw b' (l++hsR ah b))):=by
  have stop:∀(ah:List Rz) (l:List Tx) (n:Nat),OkR ah->0<n->∃b',dWh C B n (sw t0 l)=some (.nx (sw b' (l++hsR ah t0))):=fun ah l n oa hn=>by
   obtain⟨n,rfl⟩:∃m,n=m+1:=⟨n-1,by omega⟩
   refine⟨t0,?_⟩
   rw[Ku oa,dz]
   refine ZX (t4:=sw t0 l) ?_
   rw[cT,decide_eq_true rfl];rfl
  intro ah
  induction ah with
  |nil =>
   intro post b l n e hb hn _
   rcases hb with rfl|⟨q,hq,_⟩
   ·exact stop [] l n trivial (by omega)
   ·cases hq
  |cons r ah ih =>
   intro post b l n e hb hn hz
   have okr:OkR (r::ah):=(show OkR (post++r::ah) from e▸ok).suf
   rcases hb with rfl|⟨q,hq,hqb⟩
   ·exact stop (r::ah) l n okr (by omega)
   simp only[List.length_cons]at hn hz
   by_cases h:r.n=b
   ·obtain⟨n,rfl⟩:∃m,n=m+1:=⟨n-1,by omega⟩
    have hr:r∈rs:=V'.mp (e▸dW _ F')
    have hf:Ll rs b=some r:=h▸OT ok hr
    obtain⟨b',e2⟩:=ih (post++[r]) r.h (l++[b]) n (by rw[e];simp) okr.2.2.2 (by omega) (by rw[L'];simp only[List.length_cons,List.length_nil];omega)
    refine⟨b',(ZW (t4:=sw b l) (l7:=sw r.h (l++[b])) ?_ ?_).trans (e2.trans ?_)⟩
    ·rw[cT,hf,decide_eq_false (h▸okr.2.1.ne)];rfl
    ·have s1:A3 (dMt 2 Ap (AA (AB 1) AD)) (sw b l)=some (.nx (sw b (l++[b]))):=by
      refine(P0 (i:=2) (d:=eT b) (xs:=l.map eT) (t4:=sw b l) rfl rfl (by rw[B'];omega)).trans ?_
      show some (Out.nx [R,T b,some (.m (l.map eT++[eT b])),G rs,o])=_
      rw[show l.map eT++[eT b]=(l++[b]).map eT by rw[eB];rfl]
     refine(AE s1).trans (AX (d:=eT r.h) (t4:=sw b (l++[b])) (oQ (eZ r) (.int 1) (sw b (l++[b])) (Tj (x:=b.1) (kv0:=kvZ rs) (kvs:=kvZ rs) (t4:=sw b (l++[b])) rfl rfl rfl (by rw[IV,hf];rfl)) rfl rfl) rfl)
    ·rw[show hsR (r::ah) b=b::hsR ah r.h from by rw[hsR,if_pos h],fP]
     rfl
   ·have:∃q∈ah,q.n=b:=by
     rcases P'.mp hq with rfl|hq
     ·exact absurd hqb h
     ·exact⟨q,hq,hqb⟩
    obtain⟨b',e2⟩:=ih (post++[r]) b l n (by rw[e];simp) (.inr this) (by omega) (by omega)
    refine⟨b',e2.trans ?_⟩
    rw[show hsR (r::ah) b=hsR ah b from by rw[hsR,if_neg h]]
 obtain⟨b',e2⟩:=wl rs.reverse [] a [] 100 rfl (ha.imp id fun⟨q,hq,e⟩=>⟨q,V'.mpr hq,e⟩) (by rw[e8];omega) (by rw[e8,iK];omega)
 rw[gR]at e2
 refine⟨[.d (.list (rs.map eZ)),.d (eT a)],?_⟩
 unfold Fo
 refine AV (τ:=sw b' (hsR rs.reverse a)) ?_ rfl rfl
 exact(AE (t4:=[R,T a,M [],none,none]) rfl).trans ((AE (t4:=st [] none) rfl).trans ((AE ((BN (ds:=rs.map eZ) (t4:=st [] none) rfl).trans e1)).trans ((AE (t4:=sw b' (hsR rs.reverse a)) (WQ e2)).trans rfl)))
theorem YM(xs:List PyData):Lq xs (some 1) none=xs.tail:=by
 unfold Lq
 have e:HT.sIx xs.length 0 (some 1)=min 1 xs.length:=by
  show(if (1:Int)<0 then (1+(xs.length:Int)).toNat else min (1:Int).toNat xs.length)=_
  rw[if_neg (by decide)];rfl
 rw[e]
 show(xs.drop (min 1 xs.length)).take (xs.length-min 1 xs.length)=_
 cases xs with
 |nil=>rfl
 |cons x xs =>
  rw[show min 1 (x::xs).length=1 by simp only[List.length_cons];omega]
  show xs.take (xs.length+1-1)=xs
  rw[Nat.add_sub_cancel,List.take_length]
theorem Fh(r:Rz):B3 [.d (eZ r)]=some (eT r.n,[.d (eZ r)]):=rfl
theorem LR(r:Rz):E3 [.d (eZ r)]=some (eT r.h,[.d (eZ r)]):=rfl
theorem Vm(xs:List PyData)(k:Nat):Lq xs none (some (k:Int))=xs.take k:=by
 unfold Lq
 have e:HT.sIx xs.length xs.length (some (k:Int))=min k xs.length:=by
  show(if (k:Int)<0 then ((k:Int)+(xs.length:Int)).toNat else min (k:Int).toNat xs.length)=_
  rw[if_neg (by omega),Int.toNat_natCast]
 rw[e]
 show(xs.drop 0).take (min k xs.length-0)=_
 rw[List.drop_zero,Nat.sub_zero,List.take_eq_take_iff]
 omega
theorem B7{α:Type}{enc:α->PyData}{xs:List α}{k:Int}(h0:0<=k)(h1:k<(xs.length:Int)):∃a,atI (xs.map enc) k=some (enc a)/\xs[k.toNat]?=some a:=by
 have hk:k.toNat<xs.length:=by omega
 refine⟨xs[k.toNat],?_,eG hk⟩
 unfold atI ixN
 rw[B',if_pos h0,if_pos h1]
 simp[hk]
theorem WJ{α:Type}{enc:α->PyData}{xs:List α}(h:0<xs.length):∃a∈xs,atI (xs.map enc) (-1)=some (enc a):=by
 have hk:xs.length-1<xs.length:=by omega
 refine⟨xs[xs.length-1],fU hk,?_⟩
 unfold atI ixN
 rw[B',if_neg (by decide),if_pos (by omega)]
 show(xs.map enc)[((-1:Int)+(xs.length:Int)).toNat]?=_
 rw[show((-1:Int)+(xs.length:Int)).toNat=xs.length-1 by omega]
 simp[hk]
def KH:List Tx:=[kS 4,kS 5,kS 6,kS 7,kS 8,kS 9]
def KA:List Nat:=[0,1,2,3,0,3,4,5,6,7,8,9]
theorem M6{τ:DS}:ET (AH Bb AD) (dPt (dC (.int 6))) CK τ=some (.tuple (KH.map eT),τ):=rfl
theorem M7{i:Nat}(hi:i<10):kS i∈KH↔4<=i:=by
 have:∀i:Fin 10,decide (kS i∈KH)=decide (4<=i.1):=∅
 have:=this ⟨i,hi⟩
 rwa [decide_eq_decide]at this
theorem inL(t:Tx)(ts:List Tx):fIn false (eT t) (.list (ts.map eT))=some (.bool (decide (t∈ts))) :=
 (encT.fIn t ts).trans (congrArg (fun b=>some (PyData.bool b)) (decide_eq_decide.mpr f9))
theorem Tv(t:Tx)(ts:List Tx):fIn true (eT t) (.list (ts.map eT))=some (.bool (!decide (t∈ts))) :=
 (encT.fNotIn t ts).trans (congrArg (fun b=>some (PyData.bool (!b))) (decide_eq_decide.mpr f9))
theorem Ot{rs:List Rz}(ok:OkZ rs)(hl:rs.length<=40)(v:Int):∃(r:Rz) (w:Int) (ls:List L),C4 [.d (.list (rs.map eZ)),.d (.int v)]=some (.tuple [eZ r,.int w],ls)/\OkRow r /\
  (r.h=t0\/∃q∈rs,q.n=r.h/\4<=kz q.d/\(hsR rs.reverse q.n).length<7)/\(kz r.d=8->∀q∈rs,q.n∈hsR rs.reverse r.h->kz q.d≠8):=by
 let D:PyData:=.list (rs.map eZ)
 let R:Option L:=some (.d D)
 let I:Int->Option L:=fun i=>some (.d (.int i))
 let T:Tx->Option L:=fun a=>some (.d (eT a))
 let M:List Tx->Option L:=fun l=>some (.m (l.map eT))
 obtain⟨nm,u,l1,e1,n1,n8,na⟩:=PZ v
 let p:Rz->Bool:=fun r=>decide (kS (kz r.d)∈KH)&&decide (((hsR rs.reverse r.n).length:Int)<7)
 let hsO:List Rz->List Tx:=fun l=>t0::(l.filter p).map (·.n)
 let ex:DS:=[none,none,none,none,none,none]
 let s3:List Tx->Option L->DS:=fun hs o4=>R::I u::T nm::M hs::o4::none::ex
 have lp:∃t7,Ay (dN 4) (AR (Av (AI (dOp (fIn false) (dOp AK (AB 4) (dC (.int 5))) (ET (AH Bb AD) (dPt (dC (.int 6))) CK))) (AI (dOp fLt (Ah BO (AA (AH Fo (AA (AB 0) (AA (dOp AK (AB 4) (dC (.int 0))) AD))) AD)) (dC (.int 7))))) (A3 (dMt 3 Ap (AA (dOp AK (AB 4) (dC (.int 0))) AD))) AU) (rs.map eZ) (s3 (hsO []) none)=some (.nx t7)/\∃o,nM o/\t7=s3 (hsO rs) o:=by
  refine A1 (fun pre τ=>∃o,nM o/\τ=s3 (hsO pre) o) ⟨none,Ai,rfl⟩ ?_
  rintro pre r post τ e ⟨o,ho,rfl⟩
  have hz:=Bu e
  have hr:r∈rs:=Q5 e
  let t4:=s3 (hsO pre) (some (.d (eZ r)))
  obtain⟨lu,eu⟩:=WS ok hl (a:=r.n) (.inr ⟨r,hr,rfl⟩)
  have c1:AI (dOp (fIn false) (dOp AK (AB 4) (dC (.int 5))) (ET (AH Bb AD) (dPt (dC (.int 6))) CK)) t4=some (decide (kS (kz r.d)∈KH),t4) :=
   tst (oQ (eT (kS (kz r.d))) (.tuple (KH.map eT)) t4 (oQ (eZ r) (.int 5) t4 rfl rfl rfl) M6 (inT _ _))
  have c2:AI (dOp fLt (Ah BO (AA (AH Fo (AA (AB 0) (AA (dOp AK (AB 4) (dC (.int 0))) AD))) AD)) (dC (.int 7))) t4=some (decide (((hsR rs.reverse r.n).length:Int)<7),t4):=by
   refine tst (oQ (.int ((hsR rs.reverse r.n).length:Int)) (.int 7) t4 (LF (d:=.list ((hsR rs.reverse r.n).map eT)) (cQ t4 [D,eT r.n] (acc (t4:=t4) rfl (acc (t4:=t4) (oQ (eZ r) (.int 0) t4 rfl rfl rfl) rfl)) rfl eu) ?_) rfl rfl)
   show some (PyData.int (((hsR rs.reverse r.n).map eT).length:Int))=_
   rw[B']
  have c:=LN c1 c2
  refine⟨t4,s3 (hsO (pre++[r])) (some (.d (eZ r))),BE (o:=o) rfl ho,?_,_,BC,rfl⟩
  cases hp:p r with
  |true =>
   refine(Au (t4:=t4) (c.trans (by rw[show(_&&_)=true from hp]))).trans ?_
   have hpl:(pre.filter p).length<=pre.length:=gE ..
   refine(P0 (i:=3) (d:=eT r.n) (xs:=(hsO pre).map eT) (t4:=t4) (acc (t4:=t4) (oQ (eZ r) (.int 0) t4 rfl rfl rfl) rfl) rfl ?_).trans ?_
   ·rw[B']
    show((pre.filter p).map (·.n)).length+1<900
    rw[B'];omega
   ·have:(hsO pre).map eT++[eT r.n]=(hsO (pre++[r])).map eT:=by
     show eT t0::((pre.filter p).map (·.n)).map eT++[eT r.n]=eT t0::(((pre++[r]).filter p).map (·.n)).map eT
     rw[gU,fT,hp]
     simp
    show some (Out.nx (R::I u::T nm::some (.m ((hsO pre).map eT++[eT r.n]))::some (.d (eZ r))::none::ex))=_
    rw[this]
  |false =>
   refine(As (t4:=t4) (c.trans (by rw[show(_&&_)=false from hp]))).trans ?_
   have:hsO (pre++[r])=hsO pre:=by
    show t0::((pre++[r]).filter p).map (·.n)=t0::(pre.filter p).map (·.n)
    rw[gU,fT,hp]
    simp
   rw[this];rfl
 obtain⟨t7,e3,o4,ho4,rfl⟩:=lp
 generalize hhs:hsO rs=hs at e3
 have hs0:0<hs.length:=by rw[<- hhs];exact g7 _
 have hs1:hs.length<=41:=by
  rw[<- hhs]
  show((rs.filter p).map (·.n)).length+1<=41
  have hpl:(rs.filter p).length<=rs.length:=gE ..
  rw[B'];omega
 have hsm:∀h∈hs,h=t0\/∃q∈rs,q.n=h/\4<=kz q.d/\(hsR rs.reverse q.n).length<7:=fun h hh=>by
  rw[<- hhs]at hh
  rcases P'.mp hh with rfl|hh
  ·exact .inl rfl
  ·obtain⟨q,hq,rfl⟩:=df.mp hh
   obtain⟨hq1,hq2⟩:=W'.mp hq
   have hq2:(decide (kS (kz q.d)∈KH)&&decide (((hsR rs.reverse q.n).length:Int)<7))=true:=hq2
   rw[G',decide_eq_true_eq,decide_eq_true_eq,M7 (C1 _)]at hq2
   exact .inr ⟨q,hq1,rfl,hq2.1,by omega⟩
 have okm4:okM o4=true:=Fj ho4
 let s5:Int->Option L->DS:=fun u o5=>R::I u::T nm::M hs::o4::o5::ex
 let b5:Int->Option L->DS:=fun u o5=>R::I u::T nm::some (.d (.list (hs.map eT)))::o4::o5::ex
 have hok:∀u o5,okM o5=true->(b5 u o5).all okM=true:=fun u o5 h=>by
  show(true&&(true&&(true&&(true&&(okM o4&&(okM o5&&true))))))=true
  rw[okm4,h];rfl
 have ln:∀u o5,Ah BO (AA (AB 3) AD) (b5 u o5)=some (.int (hs.length:Int),b5 u o5):=fun u o5=>by
  refine LF (d:=.list (hs.map eT)) (t4:=b5 u o5) rfl ?_
  show some (PyData.int ((hs.map eT).length:Int))=_
  rw[B']
 have n0:(0:Int)<(hs.length:Int):=by omega
 have k0:=fE u (show(hs.length:Int)≠0 by omega)
 have k1:=e6 u n0
 obtain⟨ha,ea,ha2⟩:=B7 (enc:=eT) (xs:=hs) k0 k1
 have ha3:ha∈hs:=du ha2
 have z4:AN (DN 3 (dOp FR (AB 3) (dOp Ac (AB 1) (Ah BO (AA (AB 3) AD))))) (dN 5) (s5 u none)=some (.nx (s5 u (T ha))):=by
  refine AX (d:=eT ha) (t4:=s5 u none) (WC (i:=3) (xs:=hs.map eT) rfl ?_ rfl (hok u none rfl)) rfl
  exact oQ (.list (hs.map eT)) (.int (u % (hs.length:Int))) (b5 u none) rfl (oQ (.int u) (.int (hs.length:Int)) (b5 u none) rfl (ln u none) (BM n0)) ea
 have z5:∃h∈hs,AR (Bt 3 (AI (dOp fEq (dOp Ac (dOp Ag (AB 1) (Ah BO (AA (AB 3) AD))) (dC (.int 2))) (dC (.int 0))))) (AN (DN 3 (dOp FR (AB 3) (dUn Bm (dC (.int 1))))) (dN 5)) AU (s5 u (T ha))=some (.nx (s5 u (T h))):=by
  have c:Bt 3 (AI (dOp fEq (dOp Ac (dOp Ag (AB 1) (Ah BO (AA (AB 3) AD))) (dC (.int 2))) (dC (.int 0)))) (s5 u (T ha))=some (decide (u / (hs.length:Int) % 2=0),s5 u (T ha)):=by
   refine Jf (i:=3) (xs:=hs.map eT) (t4:=b5 u (T ha)) rfl (tst (oQ (.int (u / (hs.length:Int) % 2)) (.int 0) (b5 u (T ha)) (oQ (.int (u / (hs.length:Int))) (.int 2) (b5 u (T ha)) (oQ (.int u) (.int (hs.length:Int)) (b5 u (T ha)) rfl (ln u _) (Bj n0 (by omega))) rfl (BM (by decide))) rfl (encI.fEq _ _))) (hok u _ rfl)
  by_cases h:u / (hs.length:Int) % 2=0
  ·obtain⟨hb,hb1,eb⟩:=WJ (enc:=eT) hs0
   refine⟨hb,hb1,(Au (t4:=s5 u (T ha)) (by rw[c,decide_eq_true h])).trans ?_⟩
   refine AX (d:=eT hb) (t4:=s5 u (T ha)) (WC (i:=3) (xs:=hs.map eT) rfl ?_ rfl (hok u _ rfl)) rfl
   exact oQ (.list (hs.map eT)) (.int (-1)) (b5 u (T ha)) rfl rfl eb
  ·exact⟨ha,ha3,(As (t4:=s5 u (T ha)) (by rw[c,decide_eq_false h])).trans rfl⟩
 obtain⟨h,hh,z5⟩:=z5
 generalize hu2:u / (hs.length:Int) / 2=u2
 have z6:AN (DN 3 (dOp Ag (dOp Ag (AB 1) (Ah BO (AA (AB 3) AD))) (dC (.int 2)))) (dN 1) (s5 u (T h))=some (.nx (s5 u2 (T h))):=by
  refine AX (d:=.int u2) (t4:=s5 u (T h)) (WC (i:=3) (xs:=hs.map eT) rfl ?_ rfl (hok u _ rfl)) rfl
  rw[<- hu2]
  exact oQ (.int (u / (hs.length:Int))) (.int 2) (b5 u (T h)) (oQ (.int u) (.int (hs.length:Int)) (b5 u (T h)) rfl (ln u _) (Bj n0 (by omega))) rfl (Bj (by decide) (by decide))
 obtain⟨x,u3,l3,ex3,x0,x1⟩:=Er u2
 obtain⟨y,u4,l4,ey4,y0,y1⟩:=Er u3
 let s9:Int->Option L->Option L->Option L->Option L->Option L->Option L->DS:=fun u o6 o7 o8 o9 o10 o11=>[R,I u,T nm,M hs,o4,T h,o6,o7,o8,o9,o10,o11]
 have z7:AN (AH BP (AA (AB 1) AD)) (dGT (AW (dN 6) (AW (dN 1) A0))) (s9 u2 none none none none none none)=some (.nx (s9 u3 (I x) none none none none none)) :=
  AX (cQ (s9 u2 none none none none none none) [.int u2] rfl rfl ex3) rfl
 have z8:AN (AH BP (AA (AB 1) AD)) (dGT (AW (dN 7) (AW (dN 1) A0))) (s9 u3 (I x) none none none none none)=some (.nx (s9 u4 (I x) (I y) none none none none)) :=
  AX (cQ (s9 u3 (I x) none none none none none) [.int u3] rfl rfl ey4) rfl
 have m12:Ac (.int u4) (.int 12)=some (.int (u4 % 12)):=BM (by decide)
 obtain⟨j,ej,ej2⟩:=B7 (enc:=fun i=>eT (kS i)) (xs:=KA) (k:=u4 % 12) (by omega) (by show u4 % 12<12;omega)
 have hj:j<10:=by
  have:=du ej2
  have q:∀i∈KA,i<10:=by decide
  exact q j this
 let t8:Nat->DS:=fun j=>s9 u4 (I x) (I y) (T (kS j)) none none none
 have z9:AN (dOp AK (AH Bb AD) (dOp Ac (AB 1) (dC (.int 12)))) (dN 8) (s9 u4 (I x) (I y) none none none none)=some (.nx (t8 j)) :=
  AX (d:=eT (kS j)) (t4:=s9 u4 (I x) (I y) none none none none) (oQ (.tuple (KA.map fun i=>eT (kS i))) (.int (u4 % 12)) (s9 u4 (I x) (I y) none none none none) rfl (oQ (.int u4) (.int 12) (s9 u4 (I x) (I y) none none none none) rfl rfl m12) ej) rfl
 have hup:h=t0\/∃q∈rs,q.n=h:=(hsm h hh).imp id fun⟨q,a,b,_⟩=>⟨q,a,b⟩
 obtain⟨lu,eu⟩:=WS ok hl hup
 let up:=hsR rs.reverse h
 let U:Option L:=some (.d (.list (up.map eT)))
 let ta:Nat->DS:=fun j=>s9 u4 (I x) (I y) (T (kS j)) U none none
 have za:AN (AH Fo (AA (AB 0) (AA (AB 5) AD))) (dN 9) (t8 j)=some (.nx (ta j)) :=
  AX (cQ (t8 j) [D,eT h] rfl rfl eu) rfl
 let pt:Rz->Bool:=fun r=>decide (r.n∈up)&&decide (kS (kz r.d)=kS 8)
 have zb:∃j',j'<10/\(j'=8->rs.filter pt=[])/\AR (Av (AI (dOp fEq (AB 8) (dC (.str "tiles")))) (AI (dOp fNe (dLC 1 [9] (dIL (AB 0)) (dN 0) (Av (AI (dOp (fIn false) (dOp AK (AB 0) (dC (.int 0))) (AB 1))) (AI (dOp fEq (dOp AK (AB 0) (dC (.int 5))) (dC (.str "tiles"))))) (AB 0)) (Bw AD)))) (AN (dC (.str "group")) (dN 8)) AU (ta j)=some (.nx (ta j')):=by
  have c1:AI (dOp fEq (AB 8) (dC (.str "tiles"))) (ta j)=some (decide (kS j=kS 8),ta j):=tst (oQ (eT (kS j)) (eT (kS 8)) (ta j) rfl rfl (OY _ _))
  have lc:dLC 1 [9] (dIL (AB 0)) (dN 0) (Av (AI (dOp (fIn false) (dOp AK (AB 0) (dC (.int 0))) (AB 1))) (AI (dOp fEq (dOp AK (AB 0) (dC (.int 5))) (dC (.str "tiles"))))) (AB 0) (ta j)=some (.list ((rs.filter pt).map eZ),ta j):=by
   refine lcg (enc:=eZ) (rs:=rs) (ex:=[U]) pt eZ rfl (by omega) rfl rfl (fun r hr=>?_) (fun r hr _=>rfl)
   let τ:DS:=[some (.d (eZ r)),U]
   exact LN (τ:=τ) (tst (oQ (eT r.n) (.list (up.map eT)) τ (oQ (eZ r) (.int 0) τ rfl rfl rfl) rfl (inL _ _))) (tst (oQ (eT (kS (kz r.d))) (eT (kS 8)) τ (oQ (eZ r) (.int 5) τ rfl rfl rfl) rfl (OY _ _)))
  have c2:AI (dOp fNe (dLC 1 [9] (dIL (AB 0)) (dN 0) (Av (AI (dOp (fIn false) (dOp AK (AB 0) (dC (.int 0))) (AB 1))) (AI (dOp fEq (dOp AK (AB 0) (dC (.int 5))) (dC (.str "tiles"))))) (AB 0)) (Bw AD)) (ta j)=some (!decide (rs.filter pt=[]),ta j) :=
   tst (oQ (.list ((rs.filter pt).map eZ)) (.list (([]:List Rz).map eZ)) (ta j) lc rfl (encZ.fNeL _ _))
  have c:=LN c1 c2
  by_cases hc:(decide (kS j=kS 8)&&!decide (rs.filter pt=[]))=true
  ·exact⟨4,by decide,fun z=>absurd z (by decide),(Au (t4:=ta j) (by rw[c,hc])).trans rfl⟩
  ·have hc:=Bool.eq_false_iff.mpr hc
   refine⟨j,hj,fun z=>?_,(As (t4:=ta j) (by rw[c,hc])).trans rfl⟩
   rw[z,decide_eq_true rfl,Bool.true_and,Bool.not_eq_false',decide_eq_true_eq]at hc
   exact hc
 obtain⟨k,hk,hk8,zb⟩:=zb
 generalize hsh:decide (u4 / 12 % 8>0)=sh
 let S:Option L:=some (.d (.bool sh))
 have zc:AN (dOp fGt (dOp Ac (dOp Ag (AB 1) (dC (.int 12))) (dC (.int 8))) (dC (.int 0))) (dN 10) (ta k)=some (.nx (s9 u4 (I x) (I y) (T (kS k)) U S none)):=by
  refine AX (d:=.bool sh) (t4:=ta k) (oQ (.int (u4 / 12 % 8)) (.int 0) (ta k) (oQ (.int (u4 / 12)) (.int 8) (ta k) (oQ (.int u4) (.int 12) (ta k) rfl rfl (Bj (by decide) (by decide))) rfl (BM (by decide))) rfl ?_) rfl
  rw[<- hsh];rfl
 obtain⟨d,w,ld,ed,kd,okd⟩:=Pn hk (u4 / 96)
 let tz:DS:=s9 w (I x) (I y) (T (kS k)) U S (some (.d (eD d)))
 have zd:AN (AH Ak (AA (AB 8) (AA (dOp Ag (AB 1) (dC (.int 96))) AD))) (dGT (AW (dN 11) (AW (dN 1) A0))) (s9 u4 (I x) (I y) (T (kS k)) U S none)=some (.nx tz) :=
  AX (cQ (s9 u4 (I x) (I y) (T (kS k)) U S none) [eT (kS k),.int (u4 / 96)] (acc (t4:=s9 u4 (I x) (I y) (T (kS k)) U S none) rfl (acc (oQ (.int u4) (.int 96) (s9 u4 (I x) (I y) (T (kS k)) U S none) rfl rfl (Bj (by decide) (by decide))) rfl)) rfl ed) rfl
 refine⟨⟨nm,h,x,y,sh,d⟩,w,[.d D,.d (.int v)],?_,⟨n1,n8,na,x0,x1,y0,y1,okd⟩,hsm h hh,fun hd8 q hq hqu z=>?_⟩
 ·unfold C4
  refine AV (τ:=tz) ?_ rfl rfl
  refine(AE (t4:=R::I u::T nm::none::none::none::ex) (AX (cQ (R::I v::none::none::none::none::ex) [.int v] rfl rfl e1) rfl)).trans ?_
  refine(AE (t4:=s3 (hsO []) none) rfl).trans ((AE ((BN (ds:=rs.map eZ) (t4:=s3 (hsO []) none) rfl).trans e3)).trans ?_)
  refine(AE z4).trans ((AE z5).trans ((AE z6).trans ((AE z7).trans ((AE z8).trans ((AE z9).trans ((AE za).trans ((AE zb).trans ((AE zc).trans ((AE zd).trans (AZ ?_))))))))))
  have ez:eZ ⟨nm,h,x,y,sh,d⟩ = .tuple [eT nm,eT h,.int x,.int y,.bool sh,eT (kS k),eD d]:=by rw[<- kd];rfl
  rw[ez];rfl
 ·have f:=hk8 (kd▸hd8)
  have : q ∈ rs.filter pt := W'.mpr ⟨hq, by
   show(decide (q.n∈up)&&decide (kS (kz q.d)=kS 8))=true
   rw[decide_eq_true hqu,z,decide_eq_true rfl];rfl⟩
  rw[f]at this;cases this
def VtR:List Rz->Prop
 |[]=>True
 |r::a=>VtR a/\(r.h=t0\/∃q∈a,q.n=r.h/\4<=kz q.d/\(hsR a q.n).length<7)/\(kz r.d=8->∀q∈a,q.n∈hsR a r.h->kz q.d≠8)
theorem Im{ns:List Int}{f m:Int}(f0:0<=f)(m0:0<=m)(m1:m<=24):∃(rs:List Rz) (ls:List L),CD [.c (ns.map .int),.d (.int f),.d (.int m)]=some (.list (rs.map eZ),ls)/\OkZ rs/\VtR rs.reverse/\(rs.length:Int)<=m/\(1<=m->1<=rs.length):=by
 let C:Option L:=some (.c (ns.map .int))
 let I:Int->Option L:=fun i=>some (.d (.int i))
 let st:List Rz->Option L->Option L->Option L->DS:=fun rs o4 o5 o6=>[C,I f,I m,some (.m (rs.map eZ)),o4,o5,o6]
 let bt:List Rz->Option L->Option L->Option L->DS:=fun rs o4 o5 o6=>[C,I f,I m,some (.d (.list (rs.map eZ))),o4,o5,o6]
 have hok:∀rs o4 o5 o6,nM o4->nM o5->nM o6->(bt rs o4 o5 o6).all okM=true:=fun rs o4 o5 o6 h4 h5 h6=>by
  show(true&&(true&&(true&&(true&&(okM o4&&(okM o5&&(okM o6&&true)))))))=true
  rw[Fj h4,Fj h5,Fj h6];rfl
 have lp:∃t7,Ay (dN 4) (AM (AN (DN 3 (AH C4 (AA (AB 3) (AA (Ab 0 ED (AA (dOp Af (AB 1) (AB 4)) AD)) AD)))) (dGT (AW (dN 5) (AW (dN 6) A0)))) (AR (Bt 3 (AI (dOp (fIn true) (dOp AK (AB 5) (dC (.int 0))) (dLC 1 [] (dIL (AB 3)) (dN 0) Cu (dOp AK (AB 0) (dC (.int 0))))))) (A3 (dMt 3 Ap (AA (AB 5) AD))) AU)) ((List.range m.toNat).map fun(k:Nat)=>PyData.int (k:Int)) (st [] none none none)=some (.nx t7)/\∃rs o4 o5 o6,nM o4/\nM o5/\nM o6/\OkZ rs/\VtR rs.reverse/\rs.length<=(List.range m.toNat).length/\(0<(List.range m.toNat).length->0<rs.length)/\t7=st rs o4 o5 o6:=by
  refine A1 (fun(pre:List Nat) τ=>∃rs o4 o5 o6,nM o4/\nM o5/\nM o6/\OkZ rs/\VtR rs.reverse/\rs.length<=pre.length/\(0<pre.length->0<rs.length)/\τ=st rs o4 o5 o6) ⟨[],none,none,none,Ai,Ai,Ai,trivial,trivial,J' _,fun h=>h,rfl⟩ ?_
  rintro pre k post τ e ⟨rs,o4,o5,o6,n4,n5,n6,ok,vt,hle,hpos,rfl⟩
  have hz:=Bu e
  rw[eW]at hz
  have hl:rs.length<=40:=by omega
  let K:Option L:=I (k:Int)
  obtain⟨v,l1,e1⟩:=W2 (ns:=ns) (k:=f+(k:Int)) (by omega)
  obtain⟨r,w,l2,e2,okr,hh,ht⟩:=Ot ok hl v
  let X:Option L:=some (.d (eZ r))
  have z1:AN (DN 3 (AH C4 (AA (AB 3) (AA (Ab 0 ED (AA (dOp Af (AB 1) (AB 4)) AD)) AD)))) (dGT (AW (dN 5) (AW (dN 6) A0))) (st rs K o5 o6)=some (.nx (st rs K X (I w))):=by
   refine AX (d:=.tuple [eZ r,.int w]) (t4:=st rs K o5 o6) (WC (i:=3) (xs:=rs.map eZ) rfl ?_ ?_ (hok rs K o5 o6 BC n5 n6)) ?_
   ·refine cQ (bt rs K o5 o6) [.list (rs.map eZ),.int v] (acc (t4:=bt rs K o5 o6) rfl (acc (t4:=bt rs K o5 o6) (Dr (xs:=ns.map .int) (t4:=bt rs K o5 o6) (rs:=[.d (.int (f+(k:Int)))]) (ds:=[.int (f+(k:Int))]) rfl rfl rfl e1) rfl)) rfl e2
   ·show(Cz (eZ r)&&(true&&true))=true
    rw[encZ.fix];rfl
   ·show(dN 5 (eZ r) (st rs K o5 o6)).bind _=_
    rw[BE (o:=o5) rfl n5]
    show(dN 6 (.int w) (st rs K X o6)).bind _=_
    rw[BE (o:=o6) rfl n6];rfl
  have z2:Bt 3 (AI (dOp (fIn true) (dOp AK (AB 5) (dC (.int 0))) (dLC 1 [] (dIL (AB 3)) (dN 0) Cu (dOp AK (AB 0) (dC (.int 0)))))) (st rs K X (I w))=some (!decide (r.n∈rs.map (·.n)),st rs K X (I w)):=by
   let n9:=bt rs K X (I w)
   have lc:dLC 1 [] (dIL (AB 3)) (dN 0) Cu (dOp AK (AB 0) (dC (.int 0))) n9=some (.list ((rs.map (·.n)).map eT),n9):=by
    have:=lcg (enc:=eZ) (rs:=rs) (τ:=n9) (fr:=[]) (it:=dIL (AB 3)) (ex:=[]) (c:=Cu) (e:=dOp AK (AB 0) (dC (.int 0))) (fun _=>true) (fun r=>eT r.n) rfl (by omega) rfl rfl (fun r _=>rfl) (fun r _ _=>rfl)
    rw[this,Ek,fD];rfl
   exact Jf (i:=3) (xs:=rs.map eZ) (t4:=n9) rfl (tst (oQ (eT r.n) (.list ((rs.map (·.n)).map eT)) n9 (oQ (eZ r) (.int 0) n9 rfl rfl rfl) lc (Tv _ _))) (hok rs K X (I w) BC BC BC)
  by_cases hn:r.n∈rs.map (·.n)
  ·refine⟨st rs K o5 o6,st rs K X (I w),BE (o:=o4) rfl n4,(AE z1).trans ((As (t4:=st rs K X (I w)) (by rw[z2,decide_eq_true hn];rfl)).trans rfl),rs,K,X,I w,BC,BC,BC,ok,vt,by rw[L'];omega,fun _=>by obtain⟨q,hq,_⟩:=df.mp hn;exact List.length_pos_of_mem hq,rfl⟩
  ·have z3:A3 (dMt 3 Ap (AA (AB 5) AD)) (st rs K X (I w))=some (.nx (st (rs++[r]) K X (I w))):=by
    refine(P0 (i:=3) (d:=eZ r) (xs:=rs.map eZ) (t4:=st rs K X (I w)) rfl rfl (by rw[B'];omega)).trans ?_
    show some (Out.nx [C,I f,I m,some (.m (rs.map eZ++[eZ r])),K,X,I w])=_
    rw[show rs.map eZ++[eZ r]=(rs++[r]).map eZ by rw[eB];rfl]
   have er:(rs++[r]).reverse=r::rs.reverse:=by simp
   refine⟨st rs K o5 o6,st (rs++[r]) K X (I w),BE (o:=o4) rfl n4,(AE z1).trans ((Au (t4:=st rs K X (I w)) (by rw[z2,decide_eq_false hn];rfl)).trans z3),rs++[r],K,X,I w,BC,BC,BC,?_,?_,by rw[L',L'];simp only[List.length_cons,List.length_nil];omega,fun _=>by rw[L'];exact g7 _,rfl⟩
   ·show OkR (rs++[r]).reverse
    rw[er]
    exact⟨ok,okr,fun q hq z=>hn (df.mpr ⟨q,V'.mp hq,z⟩),hh.imp id fun⟨q,hq,e,_⟩=>⟨q,V'.mpr hq,e⟩⟩
   ·rw[er]
    exact⟨vt,hh.imp id fun⟨q,hq,e,h4,h7⟩=>⟨q,V'.mpr hq,e,h4,h7⟩,fun h8 q hq=>ht h8 q (V'.mp hq)⟩
 obtain⟨t7,e,rs,o4,o5,o6,n4,n5,n6,ok,vt,hle,hpos,rfl⟩:=lp
 rw[<- Jh]at e
 rw[eW]at hle hpos
 refine⟨rs,[.c (ns.map .int),.d (.int f),.d (.int m)],?_,ok,vt,by omega,fun h=>hpos (by omega)⟩
 unfold CD
 refine AV (τ:=st rs o4 o5 o6) ?_ rfl rfl
 exact(AE (t4:=st [] none none none) rfl).trans ((AE ((BN (Eb (n:=m) (t4:=st [] none none none) rfl (by omega) (by omega))).trans e)).trans rfl)
theorem dg2{i j:Nat}{x y:PyData}{τ:DS}{o p:Option L}(h1:τ[i]?=some o)(n1:nM o)(h2:(τ.set i (some (.d x)))[j]?=some p)(n2:nM p):dGT (AW (dN i) (AW (dN j) A0)) (.tuple [x,y]) τ=some ((τ.set i (some (.d x))).set j (some (.d y))):=by
 show((dN i x τ).bind fun t4=>(dN j y t4).bind fun l7=>some l7)=_
 rw[BE h1 n1]
 show((dN j y _).bind fun l7=>some l7)=_
 rw[BE h2 n2];rfl
theorem Ho(r:Rz):Ao [.d (eZ r)]=some (eT (kS (kz r.d)),[.d (eZ r)]):=rfl
theorem GS(r:Rz):Ax [.d (eZ r)]=some (eD r.d,[.d (eZ r)]):=rfl
theorem Kq{i j:Nat}(hi:i<10)(hj:j<10):fEq (eT (kS i)) (eT (kS j))=some (.bool (decide (i=j))):=by
 rw[OY]
 by_cases h:i=j
 ·rw[decide_eq_true h,decide_eq_true (by rw[h])]
 ·rw[decide_eq_false h,decide_eq_false fun z=>h (IS hi hj z)]
theorem GK{α:Type}(n:Nat):∀l:List α,(l.map fun _=>n).sum=l.length*n
 |[]=>by simp
 |_::l=>by rw[U',fA,GK n l,X',Nat.succ_mul,Nat.add_comm]
def shf(a b x y:Int):List Cl:=(rng 0 b.toNat).flatMap fun j=>(rng 0 a.toNat).map fun i=>(i*x,j*y)
theorem Ur(a b x y:Int):(shf a b x y).length=b.toNat*a.toNat:=by
 unfold shf
 rw[List.length_flatMap]
 have:((rng 0 b.toNat).map fun j=>((rng 0 a.toNat).map fun i=>((i*x,j*y):Cl)).length)=(rng 0 b.toNat).map fun _=>a.toNat:=fQ fun j _=>by rw[B',Eu]
 rw[this,GK,Eu]
theorem Ji{n:Nat}{k:Int}(h:k∈rng 0 n):0<=k/\k<n:=by
 unfold rng at h
 obtain⟨j,hj,rfl⟩:=df.mp h
 have:=eQ.mp hj
 omega
def Qw:PyData->Cl
 |.tuple [.int x,.int y]=>(x,y)
 |_=>(0,0)
def isC:PyData->Bool
 |.tuple [.int _,.int _]=>true
 |_=>false
theorem YB{d:PyData}(h:isC d=true):d=ec (Qw d):=by
 unfold isC at h
 split at h
 ·rfl
 ·cases h
theorem Qi:∀{ds:List PyData},ds.all isC=true->ds=(ds.map Qw).map ec
 |[],_=>rfl
 |d::r,h=>by
  rw[List.all_cons,G']at h
  rw[U',U',<- YB h.1,<- Qi h.2]
theorem cj{α:Type}{f1 f2:α->PyData}{rs:List α}{τ:DS}{fr:List Nat}{it:DI}{ex:DS}{c:DT}{e:DX}(p:α->Bool)(f:α->PyData)(h:it τ=some (rs.map (fun a=>PyData.tuple [f1 a,f2 a]),τ))(hz:rs.length<=1000)(hm:(fr.all fun j=>!isM τ j)=true)(hb:LA 2 fr τ=none::none::ex)
  (hc:∀r∈rs,c (some (.d (f1 r))::some (.d (f2 r))::ex)=some (p r,some (.d (f1 r))::some (.d (f2 r))::ex)) (he:∀r∈rs,p r=true->e (some (.d (f1 r))::some (.d (f2 r))::ex)=some (f r,some (.d (f1 r))::some (.d (f2 r))::ex)):dLC 2 fr it (dGT (AW (dN 0) (AW (dN 1) A0))) c e τ=some (.list ((rs.filter p).map f),τ):=by
 obtain ⟨l9, el⟩ := Hn (enc := fun a => PyData.tuple [f1 a, f2 a]) (g := dGT (AW (dN 0) (AW (dN 1) A0))) (c := c) (e := e) (fun τ => ∃ o1 o2, nM o1 /\ nM o2 /\ τ = o1 :: o2 :: ex) p f (xs := rs) (acc := []) (τ := none :: none :: ex) ⟨none, none, Ai, Ai, rfl⟩ (by
  rintro x τ hx ⟨o1,o2,n1,n2,rfl⟩
  exact⟨some (.d (f1 x))::some (.d (f2 x))::ex,some (.d (f1 x))::some (.d (f2 x))::ex,dg2 (o:=o1) (p:=o2) rfl n1 rfl n2,hc x hx,fun _=>⟨_,_,BC,BC,rfl⟩,fun hp=>⟨some (.d (f1 x))::some (.d (f2 x))::ex,he x hx hp,_,_,BC,BC,rfl⟩⟩)
 rw[gR]at el
 exact Pl (ds:=rs.map _) (t4:=τ) (l9:=l9) h (by rw[B'];exact sz hz) hm (by rw[hb];exact el)
abbrev Sp:=Cl×Cl
def esp(s:Sp):PyData:=.tuple [ec s.1,ec s.2]
def rq(x:Rat):Cl:=(x.num,(x.den:Int))
theorem DC(x:Rat):(0:Int)<x.den:=by have:=x.den_nz;omega
theorem Fs{t:Int}{b:Nat}(hb:b≠0):frm t (b:Int)=rq (Rat.normalize t b hb):=by
 unfold frm rq gI
 rw[Rat.normalize_eq]
 show(t / ((Nat.gcd t.natAbs b:Nat):Int),(b:Int) / ((Nat.gcd t.natAbs b:Nat):Int))=(t / ((t.natAbs.gcd b:Nat):Int),((b / t.natAbs.gcd b:Nat):Int))
 rw[Int.natCast_ediv]
theorem Vg{t b:Int}(hb:0<b):∃x:Rat,frm t b=rq x:=by
 have e:b=((b.toNat:Nat):Int):=by omega
 refine⟨Rat.normalize t b.toNat (by omega),?_⟩
 conv=>lhs;rw[e]
 exact Fs (by omega)
def BdR(n:Nat)(x:Rat):Prop:=Bd n x.num/\Bd n x.den
theorem BdR.mono{m n:Nat}{x:Rat}(h:BdR m x)(k:m<=n):BdR n x:=⟨h.1.mono k,h.2.mono k⟩
theorem BdR.norm{n:Nat}{t:Int}{b:Nat}(hb:b≠0)(h1:Bd n t)(h2:Bd n b):BdR n (Rat.normalize t b hb):=by
 have e:=Fs (t:=t) hb
 have e1:t / gI t b=(Rat.normalize t b hb).num:=congrArg Prod.fst e
 have e2:=congrArg Prod.snd e
 have e2:(b:Int) / gI t b=((Rat.normalize t b hb).den:Int):=e2
 have hp:(0:Int)<b:=by omega
 unfold BdR
 rw[<- e1,<- e2]
 exact⟨h1.ediv (Gq hp),h2.ediv (Gq hp)⟩
theorem Jt(x y:Rat):frm (x.num*y.den+y.num*x.den) (x.den*y.den)=rq (x+y):=by
 rw[Rat.add_def,<- Fs,gy]
theorem Jr(x y:Rat):frm (x.num*y.den-y.num*x.den) (x.den*y.den)=rq (x-y):=by
 rw[Rat.sub_def,<- Fs,gy]
theorem Js(x y:Rat):frm (x.num*y.num) (x.den*y.den)=rq (x*y):=by
 rw[Rat.mul_def,<- Fs,gy]
theorem BdR.one{n:Nat}(h:1<=n):BdR n 1:=⟨Bd.mono (m:=1) (by unfold Bd;decide) h,Bd.mono (m:=1) (by unfold Bd;decide) h⟩
theorem Nt(c:Rat):(((c.den:Int)-c.num,(c.den:Int)):Cl)=rq (1-c):=by
 have g1:Int.gcd ((c.den:Int)-c.num) c.den=1:=by
  have h:Int.gcd c.num c.den=1:=c.reduced
  rw[Int.gcd_comm]at h ⊢
  rw[Int.gcd_self_sub_right]
  exact h
 have e:=Jr 1 c
 rw[<- e]
 have e1:(1:Rat).num*(c.den:Int)-c.num*((1:Rat).den:Int)=(c.den:Int)-c.num:=by
  show(1:Int)*c.den-c.num*1=_
  omega
 have e2:((1:Rat).den:Int)*(c.den:Int)=c.den:=by
  show(1:Int)*c.den=_
  omega
 rw[e1,e2]
 unfold frm gI
 rw[g1]
 show _=(((c.den:Int)-c.num) / 1,(c.den:Int) / 1)
 rw[Int.ediv_one,Int.ediv_one]
theorem Vl{i j:Int}(h:0<j)(k:Bd 8000 j):Ag (.int i) (.int j)=some (.int (i / j)):=if_pos ⟨h,k⟩
theorem Wr{n:Nat}{a b:Int}(h:0<b)(k:Bd n b):Bd n (gI a b):=by
 have h1:=Gq (a:=a) h
 have h2:=Wq (a:=a) h
 unfold Bd at *
 omega
theorem Ed{i j:Int}(h:Bd 4000 i)(k:Bd 4000 j):An (.int i) (.int j)=some (.int (i*j)):=TV (.inr ⟨h.mono (by decide),k.mono (by decide)⟩)
theorem Wk{t b:Int}(hb:0<b)(bb:Bd 8000 b):DY [.d (.int t),.d (.int b)]=some (ec (frm t b),[.d (.int t),.d (.int b)]):=by
 have gp:=Gq (a:=t) hb
 have gb:=Wr (a:=t) hb bb
 have e:=Kn (d1:=.int t) (d2:=.int b) (b.toNat+1) (Gx t) b (NQ t) (by omega) (fw _)
 rw[Ph]at e
 let st:Option L->Option L->DS:=fun o p=>[some (.d (.int t)),some (.d (.int b)),o,p]
 unfold DY
 refine AV (τ:=st (some (.d (.int (gI t b)))) (some (.d (.int 0)))) ?_ rfl rfl
 refine(AE (t4:=st (some (.d (.int (Gx t)))) (some (.d (.int b)))) rfl).trans ?_
 refine(AE e).trans ?_
 refine AZ (t4:=st (some (.d (.int (gI t b)))) (some (.d (.int 0)))) ?_
 have d1:=Vl (i:=t) gp gb
 have d2:=Vl (i:=b) gp gb
 walk_at "b|st,d1,d2,ec,frm"
theorem Hj{c:Cl}(h:OkF c):∃x:Rat,c=rq x/\BdR 10 x:=by
 obtain⟨t,b,hb,e⟩:=h.red
 obtain⟨x,ex⟩:=Vg (t:=t) hb
 have e2:c=rq x:=e.trans ex
 refine⟨x,e2,?_,?_⟩
 ·have:x.num=c.1:=by rw[e2];rfl
  rw[this]
  have:=h.lo;have:=h.hi;have:=h.b2
  exact Bd.of (m:=1000) (by omega) (by omega) (by decide)
 ·have:(x.den:Int)=c.2:=by rw[e2];rfl
  rw[this]
  have:=h.b1;have:=h.b2
  exact Bd.of (m:=1000) (by omega) (by omega) (by decide)
theorem GW{x y:Rat}(h:BdR 3900 x)(k:BdR 3900 y):Bq [.d (ec (rq x)),.d (ec (rq y))]=some (ec (rq (x*y)),[.d (ec (rq x)),.d (ec (rq y))]):=by
 have m1:=Ed (h.1.mono (n:=4000) (by decide)) (k.1.mono (by decide))
 have m2:=Ed (h.2.mono (n:=4000) (by decide)) (k.2.mono (by decide))
 have f:=Wk (t:=x.num*y.num) (b:=x.den*y.den) (iE (DC x) (DC y)) ((h.2.mul k.2).mono (by decide))
 rw[Js]at f
 unfold Bq
 refine AV (τ:=[some (.d (ec (rq x))),some (.d (ec (rq y)))]) (AZ ?_) rfl rfl
 exact CH (t4:=[some (.d (ec (rq x))),some (.d (ec (rq y)))]) (ds:=[.int (x.num*y.num),.int (x.den*y.den)]) (acc (op2 rfl rfl m1) (acc (op2 rfl rfl m2) rfl)) rfl f
abbrev RS:=Rat×Rat
def sq(s:RS):Sp:=(rq s.1,rq s.2)
def BdS(n:Nat)(s:RS):Prop:=BdR n s.1/\BdR n s.2
theorem NT{x y:Rat}(h:BdR 3900 x)(k:BdR 3900 y):EE [.d (ec (rq x)),.d (ec (rq y))]=some (ec (rq (x+y)),[.d (ec (rq x)),.d (ec (rq y))]):=by
 have m1:=Ed (h.1.mono (n:=4000) (by decide)) (k.2.mono (by decide))
 have m2:=Ed (k.1.mono (n:=4000) (by decide)) (h.2.mono (by decide))
 have m3:=Ed (h.2.mono (n:=4000) (by decide)) (k.2.mono (by decide))
 have f:=Wk (t:=x.num*y.den+y.num*x.den) (b:=x.den*y.den) (iE (DC x) (DC y)) ((h.2.mul k.2).mono (by decide))
 rw[Jt]at f
 let τ:DS:=[some (.d (ec (rq x))),some (.d (ec (rq y)))]
 unfold EE
 refine AV (τ:=τ) (AZ ?_) rfl rfl
 exact CH (t4:=τ) (ds:=[.int (x.num*y.den+y.num*x.den),.int (x.den*y.den)]) (acc (op2 (op2 (l7:=τ) rfl rfl m1) (op2 (l7:=τ) rfl rfl m2) rfl) (acc (op2 rfl rfl m3) rfl)) rfl f
def ovr(s t:RS):RS:=(s.1+t.1*(1-s.2),s.2+t.2*(1-s.2))
def Om(a c:Cl):Cl:=frm (a.1*c.2+c.1*a.2) (a.2*c.2)
def NV(c:Cl):Cl:=frm (1*c.2-c.1*1) (1*c.2)
def JJ(s t:Sp):Sp:=(Om s.1 (FQ t.1 (NV s.2)),Om s.2 (FQ t.2 (NV s.2)))
theorem KY(s t:RS):JJ (sq s) (sq t)=sq (ovr s t):=by
 have a:∀c:Rat,NV (rq c)=rq (1-c):=fun c=>Jr 1 c
 have b:∀x y:Rat,FQ (rq x) (rq y)=rq (x*y):=fun x y=>Js x y
 have c:∀x y:Rat,Om (rq x) (rq y)=rq (x+y):=fun x y=>Jt x y
 show(Om (rq s.1) (FQ (rq t.1) (NV (rq s.2))),Om (rq s.2) (FQ (rq t.2) (NV (rq s.2))))=_
 rw[a,b,b,c,c];rfl
def aW(s:Sp):Option Sp->Sp
 |none=>s
 |some t=>JJ s t
def C0:Option Sp->Option Sp->Option Sp
 |none,b=>b
 |some s,b=>some (aW s b)
theorem IP(x y:Rat):FQ (rq x) (rq y)=rq (x*y):=Js x y
def shS(s:Sp)(c:Cl):Sp:=(FQ s.1 c,FQ s.2 c)
theorem QA(u:RS)(y:Rat):shS (sq u) (rq y)=sq (u.1*y,u.2*y):=by
 show(FQ (rq u.1) (rq y),FQ (rq u.2) (rq y))=_
 rw[IP,IP];rfl
theorem SW{x:Rat}{a:Int}{W:Nat}(hW:W≠0)(h:x*(W:Rat)=(a:Rat)):x=Rat.normalize a W hW:=by
 have hW':(W:Rat)≠0:=by
  intro z;exact hW (by exact_mod_cast z)
 rw[Rat.normalize_eq_mkRat,Rat.mkRat_eq_div]
 grind
theorem Co{x:Rat}{a W n:Nat}(h:x*(W:Rat)=(a:Rat))(h1:a<=W)(h0:0<W)(h2:W<2 ^ n):BdR n x:=by
 have e:=SW (x:=x) (a:=(a:Int)) (W:=W) (by omega) (by exact_mod_cast h)
 rw[e]
 exact .norm _ (by unfold Bd;omega) (by unfold Bd;omega)
def WtR(W:Nat)(u:RS):Prop:=∃a b:Nat,u.1*(W:Rat)=(a:Rat)/\u.2*(W:Rat)=(b:Rat)/\a<=b/\b<=W/\0<b
def Wt(n:Nat)(s:Sp):Prop:=∃(u:RS) (W:Nat),s=sq u/\WtR W u/\W<2 ^ n
theorem Wt.mono{m n:Nat}{s:Sp}(h:Wt m s)(k:m<=n):Wt n s:=let ⟨u,W,e,w,l⟩:=h;⟨u,W,e,w,de l (Nat.pow_le_pow_right (by decide) k)⟩
theorem WtR.bd{W n:Nat}{u:RS}(h:WtR W u)(l:W<2 ^ n):BdS n u:=by
 obtain⟨a,b,h1,h2,h3,h4,h5⟩:=h
 exact⟨Co h1 (by omega) (by omega) l,Co h2 h4 (by omega) l⟩
theorem Bz{V W m n:Nat}(h:W<2 ^ n)(k:V<2 ^ m):W*V<2 ^ (n+m):=by
 rw[Nat.pow_add]
 exact Nat.mul_lt_mul'' h k
theorem WtR.thr{W:Nat}{u:RS}(h:WtR W u):∃t:Nat,(1-u.2)*(W:Rat)=(t:Rat)/\t<=W/\∃b:Nat,u.2*(W:Rat)=(b:Rat)/\b+t=W:=by
 obtain⟨a,b,h1,h2,h3,h4,h5⟩:=h
 refine⟨W-b,?_,by omega,b,h2,by omega⟩
 have:((W-b:Nat):Rat)=(W:Rat)-(b:Rat):=by
  have e:W=(W-b)+b:=by omega
  have e2:(W:Rat)=((W-b:Nat):Rat)+(b:Rat):=by rw[<- Rat.natCast_add,<- e]
  grind
 rw[this]
 grind
theorem WtR.over{W V:Nat}{s t:RS}(h:WtR W s)(k:WtR V t):WtR (W*V) (ovr s t):=by
 obtain⟨z,z1,z2,b',z3,z4⟩:=h.thr
 obtain⟨a,b,h1,h2,h3,h4,h5⟩:=h
 obtain⟨c,d,k1,k2,k3,k4,k5⟩:=k
 have eb:b'=b:=by have:=z3.symm.trans h2;exact_mod_cast this
 subst eb
 refine⟨a*V+c*z,b'*V+d*z,?_,?_,?_,?_,?_⟩
 ·unfold ovr;push_cast;grind
 ·unfold ovr;push_cast;grind
 ·exact Nat.add_le_add (eI _ h3) (eI _ k3)
 ·have e:W*V=b'*V+V*z:=by rw[<- z4,Nat.add_mul,gJ z V]
  rw[e]
  exact Nat.add_le_add_left (eI _ k4) _
 ·have:0<b'*V:=fz h5 (by omega)
  omega
theorem Wt.over{n m:Nat}{s t:Sp}(h:Wt n s)(k:Wt m t):Wt (n+m) (JJ s t):=by
 obtain⟨u,W,rfl,w,l⟩:=h
 obtain⟨v,V,rfl,x,y⟩:=k
 exact⟨ovr u v,W*V,KY u v,w.over x,Bz l y⟩
theorem Wt.shs{n m:Nat}{s t:Sp}(h:Wt n s)(k:Wt m t):Wt (n+m) (shS s t.2):=by
 obtain⟨u,W,rfl,⟨a,b,h1,h2,h3,h4,h5⟩,l⟩:=h
 obtain⟨v,V,rfl,⟨c,d,k1,k2,k3,k4,k5⟩,y⟩:=k
 refine⟨_,W*V,QA u v.2,⟨a*d,b*d,?_,?_,eI _ h3,fO h4 k4,fz h5 k5⟩,Bz l y⟩
 ·push_cast;grind
 ·push_cast;grind
theorem WtR.mulq{W:Nat}{u:RS}{y:Rat}{p q:Nat}(h:WtR W u)(e:y*(q:Rat)=(p:Rat))(h1:p<=q)(h0:0<p):WtR (W*q) (u.1*y,u.2*y):=by
 obtain⟨a,b,h1',h2,h3,h4,h5⟩:=h
 refine⟨a*p,b*p,?_,?_,eI _ h3,fO h4 h1,fz h5 h0⟩
 ·push_cast;grind
 ·push_cast;grind
theorem Kj{c:Cl}(h:OkF c):∃(y:Rat) (p q:Nat),c=rq y/\y*(q:Rat)=(p:Rat)/\p<=q/\0<q/\q<=1000/\(c≠(0,1)->0<p):=by
 obtain⟨x,rfl,_⟩:=Hj h
 have lo:=h.lo
 have hi:=h.hi
 have b2:=h.b2
 have b1:=h.b1
 have lo:0<=x.num:=lo
 have hi:x.num<=(x.den:Int):=hi
 have b2:(x.den:Int)<=1000:=b2
 have e:((x.num.toNat:Nat):Int)=x.num:=by omega
 refine⟨x,x.num.toNat,x.den,rfl,?_,by omega,by have:=x.den_nz;omega,by omega,fun hn=>?_⟩
 ·have h1:(x.num:Rat) / (x.den:Rat)=x:=by rw[<- Rat.mkRat_eq_div];exact Rat.mkRat_self x
  have h2:(x.den:Rat)≠0:=by intro z;exact x.den_nz (by exact_mod_cast z)
  have h3:((x.num.toNat:Nat):Rat)=(x.num:Rat):=by rw[<- Rat.intCast_natCast,e]
  rw[h3]
  grind
 ·by_cases z:x.num=0
  ·exact absurd (h.zero z) hn
  ·omega
theorem Wt.shq{n:Nat}{s:Sp}{c:Cl}(h:Wt n s)(k:OkF c)(h0:c≠(0,1)):Wt (n+10) (shS s c):=by
 obtain⟨u,W,rfl,w,l⟩:=h
 obtain⟨y,p,q,rfl,e,h1,h2,h3,h4⟩:=Kj k
 exact⟨_,W*q,QA u y,w.mulq e h1 (h4 h0),Bz l (by omega)⟩
theorem Uh{n m:Nat}{s t:Sp}(h:Wt n s)(k:Wt m t)(hz:n+m<=3900):∃ls,Eh [.d (esp s),.d (esp t)]=some (esp (JJ s t),ls):=by
 obtain⟨s,W,rfl,w,l⟩:=h
 obtain⟨t,V,rfl,x,y⟩:=k
 rw[KY]
 have hb:=w.bd l
 have kb:=x.bd y
 obtain⟨z,z1,z2,_⟩:=w.thr
 obtain⟨a,b,h1,h2,h3,h4,h5⟩:=w
 obtain⟨c,d,k1,k2,k3,k4,k5⟩:=x
 have o:BdR n (1-s.2):=Co z1 z2 (by omega) l
 have b1:BdR (n+m) (t.1*(1-s.2)):=Co (W:=W*V) (a:=c*z) (by push_cast;grind) (by rw[gJ W V];exact fO (by omega) z2) (fz (by omega) (by omega)) (Bz l y)
 have b2:BdR (n+m) (t.2*(1-s.2)):=Co (W:=W*V) (a:=d*z) (by push_cast;grind) (by rw[gJ W V];exact fO (by omega) z2) (fz (by omega) (by omega)) (Bz l y)
 have e1:=GW (x:=1-s.2) (y:=t.1) (o.mono (by omega)) (kb.1.mono (by omega))
 have e3:=GW (x:=1-s.2) (y:=t.2) (o.mono (by omega)) (kb.2.mono (by omega))
 rw[Rat.mul_comm]at e1 e3
 have e2:=NT (x:=s.1) (y:=t.1*(1-s.2)) (hb.1.mono (by omega)) (b1.mono (by omega))
 have e4:=NT (x:=s.2) (y:=t.2*(1-s.2)) (hb.2.mono (by omega)) (b2.mono (by omega))
 let st:Option L->DS:=fun a=>[some (.d (esp (sq s))),some (.d (esp (sq t))),a]
 let F:Rat->Option L:=fun x=>some (.d (ec (rq x)))
 unfold Eh
 refine⟨_,AV (τ:=st (F (1-s.2))) ?_ rfl rfl⟩
 refine(AE (t4:=st (F (1-s.2))) (AX (d:=ec ((s.2.den:Int)-s.2.num,(s.2.den:Int))) (t4:=st none) rfl (by rw[Nt];rfl))).trans ?_
 refine AZ (t4:=st (F (1-s.2))) ?_
 have q1:AH EE (AA (dOp AK (AB 0) (dC (.int 0))) (AA (AH Bq (AA (AB 2) (AA (dOp AK (AB 1) (dC (.int 0))) AD))) AD)) (st (F (1-s.2)))=some (ec (rq (ovr s t).1),st (F (1-s.2))):=cQ (st (F (1-s.2))) [ec (rq s.1),ec (rq (t.1*(1-s.2)))] (acc (t4:=st (F (1-s.2))) rfl (acc (cQ (st (F (1-s.2))) [ec (rq (1-s.2)),ec (rq t.1)] rfl rfl e1) rfl)) rfl e2
 have q2:AH EE (AA (dOp AK (AB 0) (dC (.int 1))) (AA (AH Bq (AA (AB 2) (AA (dOp AK (AB 1) (dC (.int 1))) AD))) AD)) (st (F (1-s.2)))=some (ec (rq (ovr s t).2),st (F (1-s.2))):=cQ (st (F (1-s.2))) [ec (rq s.2),ec (rq (t.2*(1-s.2)))] (acc (t4:=st (F (1-s.2))) rfl (acc (cQ (st (F (1-s.2))) [ec (rq (1-s.2)),ec (rq t.2)] rfl rfl e3) rfl)) rfl e4
 unfold AY
 rw[acc q1 (acc q2 rfl)];rfl
theorem OS{d1 d2:PyData}:∀(n:Nat) (a b:Int) (o:Option L),nM o->0<=a->0<=b->b.toNat<n->∃o',nM o' /\
  dWh (AI (dOp fNe (AB 3) (dC (.int 0)))) (AM (AN (dOp Ac (AB 2) (AB 3)) (dN 4)) (AM (AN (AB 3) (dN 2)) (AN (AB 4) (dN 3)))) n [some (.d d1),some (.d d2),some (.d (.int a)),some (.d (.int b)),o]=some (.nx [some (.d d1),some (.d d2),some (.d (.int (gI a b))),some (.d (.int 0)),o'])
 |0,a,b,o,_,_,_,h=>absurd h (eP _)
 |n+1,a,b,o,ho,ha,hb,h=>by
  let st:Int->Int->Option L->DS:=fun x y z=>[some (.d d1),some (.d d2),some (.d (.int x)),some (.d (.int y)),z]
  have t:AI (dOp fNe (AB 3) (dC (.int 0))) (st a b o)=some (!decide (b=0),st a b o):=by
   show(((fNe (.int b) (.int 0)).map fun d=>(d,st a b o)).bind _)=_
   rw[encI.fNe];rfl
  unfold dWh
  rw[show AI (dOp fNe (AB 3) (dC (.int 0))) [some (.d d1),some (.d d2),some (.d (.int a)),some (.d (.int b)),o]=some (!decide (b=0),st a b o) from t]
  by_cases hz:b=0
  ·subst hz
   exact⟨o,ho,by rw[Qn ha];rfl⟩
  ·have hp:0<b:=by omega
   have md:=e6 a hp
   have mn:=fE a (show b≠0 by omega)
   obtain⟨o',ho',e⟩:=OS (d1:=d1) (d2:=d2) n b (a % b) (some (.d (.int (a % b)))) BC hb mn (by omega)
   refine⟨o',ho',?_⟩
   rw[decide_eq_false hz]
   have bd:AM (AN (dOp Ac (AB 2) (AB 3)) (dN 4)) (AM (AN (AB 3) (dN 2)) (AN (AB 4) (dN 3))) (st a b o)=some (.nx (st b (a % b) (some (.d (.int (a % b)))))):=by
    refine(AE (t4:=st a b (some (.d (.int (a % b))))) (AX (d:=.int (a % b)) (t4:=st a b o) ?_ (BE rfl ho))).trans rfl
    show((Ac (.int a) (.int b)).map fun d=>(d,st a b o))=_
    rw[BM hp];rfl
   show((AM _ _ (st a b o)).bind _)=_
   rw[bd]
   show dWh _ _ n (st b (a % b) _)=_
   rw[<- T7 ha hp]
   exact e
theorem Pm{t b:Int}(hb:0<b):CC [.d (.int t),.d (.int b)]=some (.int (gI t b),[.d (.int t),.d (.int b)]):=by
 obtain⟨o,ho,e⟩:=OS (d1:=.int t) (d2:=.int b) (b.toNat+1) (Gx t) b none Ai (NQ t) (by omega) (fw _)
 rw[Ph]at e
 unfold CC
 refine AV (τ:=[some (.d (.int t)),some (.d (.int b)),some (.d (.int (gI t b))),some (.d (.int 0)),o]) ?_ rfl rfl
 refine(AE (t4:=[some (.d (.int t)),some (.d (.int b)),some (.d (.int (Gx t))),none,none]) rfl).trans ?_
 refine(AE (t4:=[some (.d (.int t)),some (.d (.int b)),some (.d (.int (Gx t))),some (.d (.int b)),none]) ?_).trans ?_
 ·have:Gx b=b:=Ub (by omega)
  show some (Out.nx [_,_,_,some (.d (.int (Gx b))),_])=_
  rw[this]
 ·exact(AE e).trans rfl
theorem Gs{t b:Int}(hb:0<b)(bb:Bd 8000 b):C3 [.d (.int t),.d (.int b)]=some (ec (frm t b),[.d (.int t),.d (.int b)]):=by
 have gp:=Gq (a:=t) hb
 have gb:=Wr (a:=t) hb bb
 let st:Option L->DS:=fun o=>[some (.d (.int t)),some (.d (.int b)),o]
 unfold C3
 refine AV (τ:=st (some (.d (.int (gI t b))))) ?_ rfl rfl
 refine(AE (t4:=st none) ((As (t4:=st none) ?_).trans rfl)).trans ?_
 ·show(((fEq (.int b) (.int 0)).map fun d=>(d,st none)).bind _)=_
  rw[encI.fEq,decide_eq_false (by omega)];rfl
 refine(AE (t4:=st (some (.d (.int (gI t b))))) (AX (CH (t4:=st none) (ds:=[.int t,.int b]) rfl rfl (Pm hb)) rfl)).trans ?_
 refine(AE (t4:=st (some (.d (.int (gI t b))))) ((As (t4:=st (some (.d (.int (gI t b))))) ?_).trans rfl)).trans ?_
 ·show some (decide (b<0),_)=_
  rw[decide_eq_false (by omega)]
 ·refine AZ (t4:=st (some (.d (.int (gI t b))))) ?_
  have d1:=Vl (i:=t) gp gb
  have d2:=Vl (i:=b) gp gb
  walk_at "b|st,d1,d2,ec,frm"
theorem GJ{x y:Rat}(h:BdR 3900 x)(k:BdR 3900 y):CV [.d (ec (rq x)),.d (ec (rq y))]=some (ec (rq (x*y)),[.d (ec (rq x)),.d (ec (rq y))]):=by
 have m1:=Ed (h.1.mono (n:=4000) (by decide)) (k.1.mono (by decide))
 have m2:=Ed (h.2.mono (n:=4000) (by decide)) (k.2.mono (by decide))
 have f:=Gs (t:=x.num*y.num) (b:=x.den*y.den) (iE (DC x) (DC y)) ((h.2.mul k.2).mono (by decide))
 rw[Js]at f
 unfold CV
 refine AV (τ:=[some (.d (ec (rq x))),some (.d (ec (rq y)))]) (AZ ?_) rfl rfl
 exact CH (t4:=[some (.d (ec (rq x))),some (.d (ec (rq y)))]) (ds:=[.int (x.num*y.num),.int (x.den*y.den)]) (acc (op2 rfl rfl m1) (acc (op2 rfl rfl m2) rfl)) rfl f
theorem PF{x y:Rat}(h:BdR 3900 x)(k:BdR 3900 y):IQ [.d (ec (rq x)),.d (ec (rq y))]=some (ec (rq (x+y)),[.d (ec (rq x)),.d (ec (rq y))]):=by
 have m1:=Ed (h.1.mono (n:=4000) (by decide)) (k.2.mono (by decide))
 have m2:=Ed (k.1.mono (n:=4000) (by decide)) (h.2.mono (by decide))
 have m3:=Ed (h.2.mono (n:=4000) (by decide)) (k.2.mono (by decide))
 have f:=Gs (t:=x.num*y.den+y.num*x.den) (b:=x.den*y.den) (iE (DC x) (DC y)) ((h.2.mul k.2).mono (by decide))
 rw[Jt]at f
 let τ:DS:=[some (.d (ec (rq x))),some (.d (ec (rq y)))]
 unfold IQ
 refine AV (τ:=τ) (AZ ?_) rfl rfl
 exact CH (t4:=τ) (ds:=[.int (x.num*y.den+y.num*x.den),.int (x.den*y.den)]) (acc (op2 (op2 (l7:=τ) rfl rfl m1) (op2 (l7:=τ) rfl rfl m2) rfl) (acc (op2 rfl rfl m3) rfl)) rfl f
theorem QU{x y:Rat}(h:BdR 3900 x)(k:BdR 3900 y):E4 [.d (ec (rq x)),.d (ec (rq y))]=some (ec (rq (x-y)),[.d (ec (rq x)),.d (ec (rq y))]):=by
 have m1:=Ed (h.1.mono (n:=4000) (by decide)) (k.2.mono (by decide))
 have m2:=Ed (k.1.mono (n:=4000) (by decide)) (h.2.mono (by decide))
 have m3:=Ed (h.2.mono (n:=4000) (by decide)) (k.2.mono (by decide))
 have f:=Gs (t:=x.num*y.den-y.num*x.den) (b:=x.den*y.den) (iE (DC x) (DC y)) ((h.2.mul k.2).mono (by decide))
 rw[Jr]at f
 let τ:DS:=[some (.d (ec (rq x))),some (.d (ec (rq y)))]
 unfold E4
 refine AV (τ:=τ) (AZ ?_) rfl rfl
 exact CH (t4:=τ) (ds:=[.int (x.num*y.den-y.num*x.den),.int (x.den*y.den)]) (acc (op2 (op2 (l7:=τ) rfl rfl m1) (op2 (l7:=τ) rfl rfl m2) rfl) (acc (op2 rfl rfl m3) rfl)) rfl f
theorem NX{n m:Nat}{s t:Sp}(h:Wt n s)(k:Wt m t)(hz:n+m<=3900):Dy [.d (esp s),.d (esp t)]=some (esp (JJ s t),[.d (esp s),.d (esp t)]):=by
 obtain⟨s,W,rfl,w,l⟩:=h
 obtain⟨t,V,rfl,x,y⟩:=k
 rw[KY]
 have hb:=w.bd l
 have kb:=x.bd y
 obtain⟨z,z1,z2,_⟩:=w.thr
 obtain⟨a,b,h1,h2,h3,h4,h5⟩:=w
 obtain⟨c,d,k1,k2,k3,k4,k5⟩:=x
 have o:BdR n (1-s.2):=Co z1 z2 (by omega) l
 have b1:BdR (n+m) (t.1*(1-s.2)):=Co (W:=W*V) (a:=c*z) (by push_cast;grind) (by rw[gJ W V];exact fO (by omega) z2) (fz (by omega) (by omega)) (Bz l y)
 have b2:BdR (n+m) (t.2*(1-s.2)):=Co (W:=W*V) (a:=d*z) (by push_cast;grind) (by rw[gJ W V];exact fO (by omega) z2) (fz (by omega) (by omega)) (Bz l y)
 have e0:=QU (x:=1) (y:=s.2) (BdR.one (by decide)) (hb.2.mono (by omega))
 have e1:=GJ (x:=t.1) (y:=1-s.2) (kb.1.mono (by omega)) (o.mono (by omega))
 have e2:=PF (x:=s.1) (y:=t.1*(1-s.2)) (hb.1.mono (by omega)) (b1.mono (by omega))
 have e3:=GJ (x:=t.2) (y:=1-s.2) (kb.2.mono (by omega)) (o.mono (by omega))
 have e4:=PF (x:=s.2) (y:=t.2*(1-s.2)) (hb.2.mono (by omega)) (b2.mono (by omega))
 let st:Option L->Option L->Option L->DS:=fun a b c=>[some (.d (esp (sq s))),some (.d (esp (sq t))),a,b,c]
 let F:Rat->Option L:=fun x=>some (.d (ec (rq x)))
 unfold Dy
 refine AV (τ:=st (F (1-s.2)) (F (ovr s t).1) (F (ovr s t).2)) ?_ rfl rfl
 refine(AE (t4:=st (F (1-s.2)) none none) (AX (cQ (st none none none) [ec (rq 1),ec (rq s.2)] rfl rfl e0) rfl)).trans ?_
 refine(AE (t4:=st (F (1-s.2)) (F (ovr s t).1) none) (AX (cQ (st (F (1-s.2)) none none) [ec (rq s.1),ec (rq (t.1*(1-s.2)))] (acc (t4:=st (F (1-s.2)) none none) rfl (acc (cQ (st (F (1-s.2)) none none) [ec (rq t.1),ec (rq (1-s.2))] rfl rfl e1) rfl)) rfl e2) rfl)).trans ?_
 refine(AE (t4:=st (F (1-s.2)) (F (ovr s t).1) (F (ovr s t).2)) (AX (cQ (st (F (1-s.2)) (F (ovr s t).1) none) [ec (rq s.2),ec (rq (t.2*(1-s.2)))] (acc (t4:=st (F (1-s.2)) (F (ovr s t).1) none) rfl (acc (cQ (st (F (1-s.2)) (F (ovr s t).1) none) [ec (rq t.2),ec (rq (1-s.2))] rfl rfl e3) rfl)) rfl e4) rfl)).trans ?_
 rfl
theorem chn{a b c:DX}{τ:DS}{i j k:Int}(h1:a τ=some (.int i,τ))(h2:b τ=some (.int j,τ))(h3:c τ=some (.int k,τ)):Aq fLe fLt a b c τ=some (.bool (decide (i<=j)&&decide (j<k)),τ):=by
 have e1:fLe (.int i) (.int j)=some (.bool (decide (i<=j))):=rfl
 simp only[Aq,h1,h2,Option.bind_some,e1]
 cases decide (i<=j) with
 |false=>rfl
 |true =>
  show((c τ).bind _)=_
  rw[h3];rfl
theorem Lw{a b:DX}{τ:DS}{p q:Bool}(h1:a τ=some (.bool p,τ))(h2:p=true->b τ=some (.bool q,τ)):By a b τ=some (.bool (p&&q),τ):=by
 unfold By
 rw[tst h1]
 cases p with
 |false=>rfl
 |true=>exact h2 rfl
theorem SA{a b:DT}{τ:DS}{p q:Bool}(h1:a τ=some (p,τ))(h2:p=false->b τ=some (q,τ)):FT a b τ=some (p||q,τ):=by
 unfold FT
 rw[h1]
 cases p with
 |true=>rfl
 |false=>exact h2 rfl
def chS(c:Nat):PyData:=.str ⟨#[c]⟩
def sgC(c:Nat):List Cl:=match B9 [.d (chS c)] with
 |some (.list ds,_)=>ds.map Qw
 |_=>[]
def sgT(c:Nat):Bool:=match B9 [.d (chS c)] with
 |some (.list ds,_)=>ds.all isC&&((sgC c).all fun p=>decide (0<=p.2)&&decide (p.2<5))&&(List.range 4).all fun x=>(List.range 5).all fun y=>match Cm [.d (chS c),.d (.int x),.d (.int y)] with
  |some (.bool b,_)=>b==decide (((x:Int),(y:Int))∈sgC c)
  |_=>false
 |_=>false
theorem MV:∀c∈alW.cps.toList,sgT c=true:=∅
def sgO(c:Nat):Bool:=match Rn (.str alW) (chS c) with
 |some (.int i)=>decide (0<=i)&&decide (i<18)
 |_=>false
theorem Us:∀c∈alW.cps.toList,sgO c=true:=∅
theorem Uq{c:Nat}(hc:c∈alW.cps.toList):∃ls,B9 [.d (chS c)]=some (.list ((sgC c).map ec),ls):=by
 have h:=MV c hc
 unfold sgT at h
 split at h
 ·rename_i ds ls e
  rw[G',G']at h
  refine⟨ls,?_⟩
  unfold sgC
  rw[e]
  show some (PyData.list ds,ls)=some (PyData.list ((ds.map Qw).map ec),ls)
  rw[<- Qi h.1.1]
 ·cases h
theorem cL{c:Nat}(hc:c∈alW.cps.toList){p:Cl}(hp:p∈sgC c):0<=p.2/\p.2<5:=by
 have h:=MV c hc
 unfold sgT at h
 split at h
 ·rw[G',G']at h
  simpa using eS.mp h.1.2 p hp
 ·cases h
theorem Pf{c:Nat}(hc:c∈alW.cps.toList){x y:Int}(x0:0<=x)(x4:x<4):∃ls,Cm [.d (chS c),.d (.int x),.d (.int y)]=some (.bool (decide ((x,y)∈sgC c)),ls):=by
 by_cases hy:0<=y/\y<5
 ·have h:=MV c hc
  unfold sgT at h
  split at h
  ·rw[G']at h
   have h1:=eS.mp (eS.mp h.2 x.toNat (eQ.mpr (by omega))) y.toNat (eQ.mpr (by omega))
   have ex:((x.toNat:Nat):Int)=x:=by omega
   have ey:((y.toNat:Nat):Int)=y:=by omega
   rw[ex,ey]at h1
   split at h1
   ·rename_i b ls e
    exact⟨ls,by rw[e,beq_iff_eq.mp h1]⟩
   ·cases h1
  ·cases h
 ·have hn:decide ((x,y)∈sgC c)=false:=decide_eq_false fun z=>hy (cL hc z)
  rw[hn]
  have h:=Us c hc
  unfold sgO at h
  split at h
  ·rename_i i ei
   rw[G',decide_eq_true_eq,decide_eq_true_eq]at h
   let ss:List Str:=["tolrks","rs","tmork","tmors","mlrs","tmols","tmolks","trs","tmolrks","tmolrs","tmlrks","molks","tolk","morks","tmolk","tmlk","m",""]
   obtain⟨s,es,_⟩:=B7 (enc:=PyData.str) (xs:=ss) (k:=i) h.1 (by show i<18;exact h.2)
   let st:Option L->Option L->Option L->DS:=fun p q r=>[some (.d (chS c)),some (.d (.int x)),some (.d (.int y)),p,q,r]
   let A:Option L:=some (.d (.str alW))
   let T1:Option L:=some (.d (.tuple ((ss.take 10).map .str)))
   let T2:Option L:=some (.d (.tuple (ss.map .str)))
   let O:Option L:=some (.d (.str s))
   refine⟨[.d (chS c),.d (.int x),.d (.int y)],?_⟩
   unfold Cm
   refine AV (τ:=st A T2 O) ?_ rfl rfl
   refine(AE (t4:=st A none none) rfl).trans ((AE (t4:=st A T1 none) rfl).trans ((AE (t4:=st A T2 none) rfl).trans ?_))
   refine(AE (t4:=st A T2 O) (AX (t4:=st A T2 none) (op2 (x:=.tuple (ss.map .str)) (y:=.int i) (t4:=st A T2 none) (l7:=st A T2 none) rfl (op2 (x:=.str alW) (y:=chS c) (t4:=st A T2 none) (l7:=st A T2 none) rfl rfl ei) es) rfl)).trans ?_
   have c1:=Oz (tst (chn (τ:=st A T2 O) (a:=dC (.int 0)) (b:=AB 1) (c:=dC (.int 3)) (i:=0) (j:=x) (k:=3) rfl rfl rfl))
   have c2:=Oz (tst (chn (τ:=st A T2 O) (a:=dC (.int 0)) (b:=AB 2) (c:=dC (.int 5)) (i:=0) (j:=y) (k:=5) rfl rfl rfl))
   have c3:=SA c1 fun _=>c2
   have e:(!(decide (0<=x)&&decide (x<3))||!(decide (0<=y)&&decide (y<5)))=true:=by
    rw[show(decide (0<=y)&&decide (y<5))=false by rw[<- fV,G',decide_eq_true_eq,decide_eq_true_eq];exact hy]
    simp
   rw[e]at c3
   exact Ad ((Au c3).trans rfl)
  ·cases h
theorem ZO{xs:List Nat}{k:Int}(h0:0<=k)(h1:k<(xs.length:Int)):∃a∈xs,atI xs k=some a:=by
 have hk:k.toNat<xs.length:=by omega
 refine⟨xs[k.toNat],fU hk,?_⟩
 unfold atI ixN
 rw[if_pos h0,if_pos h1]
 simp[hk]
theorem aX{t:Str}(ht:t.length<=100){k:Int}(h0:0<=k)(h1:k<(t.length:Int)):∃c∈t.cps.toList,Dm (.str t) (.int k)=some (chS c):=by
 obtain⟨c,hc,e⟩:=ZO (xs:=t.cps.toList) h0 h1
 refine⟨c,hc,?_⟩
 show(if t.length<=sizeLine then (atI t.cps.toList k).map _ else none)=_
 rw[if_pos (sz (by omega)),e];rfl
theorem QV{t:Str}(ht:t.length<=100):BO [.str t]=some (.int t.length):=by
 show(if t.length<=sizeLine then _ else none)=_
 rw[if_pos (sz (by omega))]
def ab(i:Int):Int:=if i<0 then -i else i
def nn(dx dy:Int):Int:=if ab dy>ab dx then ab dy else ab dx
def pw(k n d:Int):Int:=(2*k*d+n) / (2*n)
def cl(dx dy k:Int):Cl:=if nn dx dy=0 then (0,0) else (pw k (nn dx dy) dx,pw k (nn dx dy) dy)
def told(dx dy:Int):List Cl:=(rng 0 (nn dx dy+1).toNat).map (cl dx dy)
theorem Wj{dx dy:Int}(h1:-12<=dx)(h2:dx<=12)(h3:-12<=dy)(h4:dy<=12):0<=nn dx dy/\nn dx dy<=12:=by
 unfold nn ab
 repeat' split
 all_goals omega
theorem IM{i j:Int}(h1:-1000<=i)(h2:i<=1000):An (.int i) (.int j)=some (.int (i*j)):=TV (.inl (.inl ⟨by omega,by omega⟩))
theorem JI{k n d:Int}(h1:0<=k)(h2:k<=100)(h3:0<n)(h4:n<=100):Cf [.d (.int k),.d (.int n),.d (.int d)]=some (.int (pw k n d),[.d (.int k),.d (.int n),.d (.int d)]):=by
 simp only[Cf,pw,IM (i:=2) (j:=k) (by omega) (by omega),IM (i:=2*k) (j:=d) (by omega) (by omega),IM (i:=2) (j:=n) (by omega) (by omega),Bj (i:=2*k*d+n) (j:=2*n) (by omega) (by omega),Aa,AM,AN,dN,EU,Fw,AQ,C2,K5,A3,dMt,Ap,BZ,Gr,K4,AU,AR,Pw,Pu,EV,Bh,BY,AB,dC,dOp,dUn,fI,Af,Am,fLt,fLe,fGt,fGe,Bm,Lj,Cs,B6,FR,AK,AI,Av,FT,Bs,dIf,By,dOr,Pq,Aq,AD,AA,BA,AY,Bw,Ah,AH,Gv,Ab,Gu,dAS,mkL,nMb,isM,isC,DN,EJ,Bt,Cu,dIL,dIT,dR1,dR2,A0,AW,dGT,Aj,BI,BJ,BH,BO,f1,f2,GY,Ft,K0,K1,Cr,Po,Pr,Br,A2,atI,ixN,Dk,Kh,Ki,Kg,Cz,fixDs,sz',Option.bind_some,Option.bind_none,Option.map_some,Option.map_none,List.map_cons,List.map_nil,List.cons_append,List.nil_append,List.length_cons,List.length_nil,List.getElem?_cons_zero,List.getElem?_cons_succ,List.set_cons_zero,List.set_cons_succ,List.replicate_succ,List.replicate_zero,List.all_cons,List.all_nil,Bool.and_self,Bool.and_true,Bool.true_and,Bool.false_and,Bool.and_false,Bool.or_true,Bool.true_or,Bool.false_or,Bool.or_false,Bool.not_true,Bool.not_false,if_true,if_false,reduceIte,Bool.false_eq_true,Nat.reduceAdd,Nat.reduceLT,Nat.reduceSub,Nat.reduceMul,Int.reduceEq,Int.reduceSub,Int.reduceMul,Int.reducePow,Int.reduceDiv,Int.reduceMod,Nat.reduceLeDiff,Nat.reduceEqDiff,and_self,and_true,true_and,Int.natCast_add,Int.reduceAdd,Int.reduceLT,Int.reduceLE,Int.reduceToNat,Int.reduceNeg,Int.toNat_zero,Int.toNat_one,Int.zero_lt_one,Int.le_refl,Int.reduceNegSucc,Int.cast_ofNat_Int,Nat.zero_add,Nat.add_zero]
theorem Lu{dx dy:Int}(h1:-12<=dx)(h2:dx<=12)(h3:-12<=dy)(h4:dy<=12):DW [.d (.int dx),.d (.int dy)]=some (.list ((told dx dy).map ec),[.d (.int dx),.d (.int dy)]):=by
 obtain⟨n0,n12⟩:=Wj h1 h2 h3 h4
 have st:(if (if dy<0 then -dy else dy)>(if dx<0 then -dx else dx) then (if dy<0 then -dy else dy) else (if dx<0 then -dx else dx))=nn dx dy:=rfl
 unfold DW
 refine AV (τ:=[some (.d (.int dx)),some (.d (.int dy)),some (.d (.int (nn dx dy)))]) ?_ rfl rfl
 refine(AE (t4:=[some (.d (.int dx)),some (.d (.int dy)),some (.d (.int (nn dx dy)))]) rfl).trans ?_
 by_cases hz:nn dx dy=0
 ·have et:told dx dy=[(0,0)]:=by
   unfold told cl;rw[hz];rfl
  refine Ad ?_
  rw[et,hz]
  rfl
 ·refine(AE (t4:=[some (.d (.int dx)),some (.d (.int dy)),some (.d (.int (nn dx dy)))]) ?_).trans ?_
  ·have:fEq (.int (nn dx dy)) (.int 0)=some (.bool false):=by rw[encI.fEq];simp[hz]
   walk_at "a|this"
  ·obtain ⟨l9, el⟩ := Hn (enc := PyData.int) (g := dN 0) (c := Cu) (e := AY (AA (AH Cf (AA (AB 0) (AA (AB 1) (AA (AB 2) AD)))) (AA (AH Cf (AA (AB 0) (AA (AB 1) (AA (AB 3) AD)))) AD))) (fun τ => ∃ o, nM o /\ τ = [o, some (.d (.int (nn dx dy))), some (.d (.int dx)), some (.d (.int dy))]) (fun _ => true) (fun k => ec (cl dx dy k)) (xs := rng 0 (nn dx dy + 1).toNat) (acc := []) (τ := [none, some (.d (.int (nn dx dy))), some (.d (.int dx)), some (.d (.int dy))]) ⟨none, Ai, rfl⟩ (by
    rintro k τ hk ⟨o,ho,rfl⟩
    have hk:=mem_rng.mp hk
    have ek:cl dx dy k=(pw k (nn dx dy) dx,pw k (nn dx dy) dy):=by unfold cl;rw[if_neg hz]
    refine⟨[some (.d (.int k)),some (.d (.int (nn dx dy))),some (.d (.int dx)),some (.d (.int dy))],[some (.d (.int k)),some (.d (.int (nn dx dy))),some (.d (.int dx)),some (.d (.int dy))],BE rfl ho,rfl,fun _=>⟨_,BC,rfl⟩,fun _=>⟨[some (.d (.int k)),some (.d (.int (nn dx dy))),some (.d (.int dx)),some (.d (.int dy))],?_,_,BC,rfl⟩⟩
    rw[ek]
    simp only[JI (k:=k) (n:=nn dx dy) (d:=dx) (by omega) (by omega) (by omega) (by omega),JI (k:=k) (n:=nn dx dy) (d:=dy) (by omega) (by omega) (by omega) (by omega),ec,Aa,AM,AN,dN,EU,Fw,AQ,C2,K5,A3,dMt,Ap,BZ,Gr,K4,AU,AR,Pw,Pu,EV,Bh,BY,AB,dC,dOp,dUn,fI,Af,Am,fLt,fLe,fGt,fGe,Bm,Lj,Cs,B6,FR,AK,AI,Av,FT,Bs,dIf,By,dOr,Pq,Aq,AD,AA,BA,AY,Bw,Ah,AH,Gv,Ab,Gu,dAS,mkL,nMb,isM,isC,DN,EJ,Bt,Cu,dIL,dIT,dR1,dR2,A0,AW,dGT,Aj,BI,BJ,BH,BO,f1,f2,GY,Ft,K0,K1,Cr,Po,Pr,Br,A2,atI,ixN,Dk,Kh,Ki,Kg,Cz,fixDs,sz',Option.bind_some,Option.bind_none,Option.map_some,Option.map_none,List.map_cons,List.map_nil,List.cons_append,List.nil_append,List.length_cons,List.length_nil,List.getElem?_cons_zero,List.getElem?_cons_succ,List.set_cons_zero,List.set_cons_succ,List.replicate_succ,List.replicate_zero,List.all_cons,List.all_nil,Bool.and_self,Bool.and_true,Bool.true_and,Bool.false_and,Bool.and_false,Bool.or_true,Bool.true_or,Bool.false_or,Bool.or_false,Bool.not_true,Bool.not_false,if_true,if_false,reduceIte,Bool.false_eq_true,Nat.reduceAdd,Nat.reduceLT,Nat.reduceSub,Nat.reduceMul,Int.reduceEq,Int.reduceSub,Int.reduceMul,Int.reducePow,Int.reduceDiv,Int.reduceMod,Nat.reduceLeDiff,Nat.reduceEqDiff,and_self,and_true,true_and,Int.natCast_add,Int.reduceAdd,Int.reduceLT,Int.reduceLE,Int.reduceToNat,Int.reduceNeg,Int.toNat_zero,Int.toNat_one,Int.zero_lt_one,Int.le_refl,Int.reduceNegSucc,Int.cast_ofNat_Int,Nat.zero_add,Nat.add_zero])
   refine AZ (Pl (l9:=l9) (ds:=(rng 0 (nn dx dy+1).toNat).map PyData.int) (Eb (n:=nn dx dy+1) rfl (by omega) (by omega)) (sz (by rw[B',Eu];omega)) rfl ?_)
   have:(told dx dy).map ec=((rng 0 (nn dx dy+1).toNat).filter fun _=>true).map fun k=>ec (cl dx dy k):=by
    unfold told
    rw[List.filter_eq_self.mpr (fun _ _=>rfl),fD];rfl
   rw[this]
   exact el
theorem Ko{α:Type}{enc:α->PyData}{g:DG}{b:DB}{d:PyData}(p:α->Bool)(J:DS->Prop):∀{xs:List α} {τ:DS},J τ->(∀x∈xs,∀τ,J τ->∃t4,g (enc x) τ=some t4/\((p x=true->∃l7,b t4=some (.rt d l7)/\J l7)/\(p x=false->∃l7,b t4=some (.nx l7)/\J l7))) ->
  (xs.any p=true->∃l7,Ay g b (xs.map enc) τ=some (.rt d l7)/\J l7)/\(xs.any p=false->∃l7,Ay g b (xs.map enc) τ=some (.nx l7)/\J l7)
 |[],τ,hJ,_=>⟨fun z=>(nomatch z),fun _=>⟨τ,rfl,hJ⟩⟩
 |x::xs,τ,hJ,h=>by
  obtain⟨t4,e1,h1,h2⟩:=h x F' τ hJ
  rw[gn,U']
  cases hp:p x with
  |true =>
   obtain⟨l7,e2,j2⟩:=h1 hp
   refine⟨fun _=>⟨l7,?_,j2⟩,fun z=>(nomatch z)⟩
   rw[Ay,e1]
   show((b t4).bind _)=_
   rw[e2];rfl
  |false =>
   obtain⟨l7,e2,j2⟩:=h2 hp
   have ih:=Ko p J (xs:=xs) (τ:=l7) j2 fun y hy=>h y (C' _ hy)
   have e:Ay g b (enc x::xs.map enc) τ=Ay g b (xs.map enc) l7:=by
    rw[Ay,e1]
    show((b t4).bind _)=_
    rw[e2];rfl
   rw[e,Bool.false_or]
   exact ih
def PM:DB:=AR (Av (AI (dOp fEq (AB 2) (dOp Ag (dOp Af (dOp An (dOp An (dC (.int 2)) (AB 5)) (AB 0)) (AB 4)) (dOp An (dC (.int 2)) (AB 4))))) (AI (dOp fEq (AB 3) (dOp Ag (dOp Af (dOp An (dOp An (dC (.int 2)) (AB 5)) (AB 1)) (AB 4)) (dOp An (dC (.int 2)) (AB 4)))))) (AQ (dC (.bool true))) AU
theorem PL{dx dy x y:Int}(h1:-12<=dx)(h2:dx<=12)(h3:-12<=dy)(h4:dy<=12):∃ls,EB [.d (.int dx),.d (.int dy),.d (.int x),.d (.int y)]=some (.bool (decide ((x,y)∈told dx dy)),ls):=by
 obtain⟨n0,n12⟩:=Wj h1 h2 h3 h4
 let st:Option L->Option L->DS:=fun n k=>[some (.d (.int dx)),some (.d (.int dy)),some (.d (.int x)),some (.d (.int y)),n,k]
 let N:=some (L.d (.int (nn dx dy)))
 have tz:AI (dOp fEq (AB 4) (dC (.int 0))) (st N none)=some (decide (nn dx dy=0),st N none):=by
  show(((fEq (.int (nn dx dy)) (.int 0)).map fun d=>(d,st N none)).bind _)=_
  rw[encI.fEq];rfl
 unfold EB
 by_cases hz:nn dx dy=0
 ·have et:told dx dy=[(0,0)]:=by
   unfold told cl;rw[hz];rfl
  rw[decide_eq_true hz]at tz
  refine⟨_,AV (τ:=st N none) ?_ rfl rfl⟩
  refine(AE (t4:=st N none) rfl).trans (Ad ((Au tz).trans (AZ (t4:=st N none) ?_)))
  have q1:dOp fEq (AB 2) (dC (.int 0)) (st N none)=some (.bool (decide (x=0)),st N none):=by
   show((fEq (.int x) (.int 0)).map fun d=>(d,st N none))=_
   rw[encI.fEq];rfl
  have q2:dOp fEq (AB 3) (dC (.int 0)) (st N none)=some (.bool (decide (y=0)),st N none):=by
   show((fEq (.int y) (.int 0)).map fun d=>(d,st N none))=_
   rw[encI.fEq];rfl
  rw[et]
  unfold By AI
  rw[q1]
  by_cases hx:x=0
  ·rw[decide_eq_true hx]
   show dOp fEq (AB 3) (dC (.int 0)) (st N none)=_
   rw[q2]
   by_cases hy:y=0
   ·simp[hx,hy]
   ·simp[hx,hy]
  ·rw[decide_eq_false hx]
   show some (PyData.bool false,st N none)=_
   simp[hx]
 ·rw[decide_eq_false hz]at tz
  have lp := Ko (enc := PyData.int) (g := dN 5) (b := PM) (d := .bool true) (fun k => decide (x = pw k (nn dx dy) dx) && decide (y = pw k (nn dx dy) dy)) (fun τ => ∃ o, nM o /\ τ = st N o) (xs := rng 0 (nn dx dy + 1).toNat) (τ := st N none) ⟨none, Ai, rfl⟩ (by
   rintro k hk τ ⟨o,ho,rfl⟩
   have hk:=mem_rng.mp hk
   let τ:=st N (some (.d (.int k)))
   have m1:=IM (i:=2) (j:=k) (by omega) (by omega)
   have m2:=IM (i:=2*k) (j:=dx) (by omega) (by omega)
   have m3:=IM (i:=2*k) (j:=dy) (by omega) (by omega)
   have m4:=IM (i:=2) (j:=nn dx dy) (by omega) (by omega)
   have d1:=Bj (i:=2*k*dx+nn dx dy) (j:=2*nn dx dy) (by omega) (by omega)
   have d2:=Bj (i:=2*k*dy+nn dx dy) (j:=2*nn dx dy) (by omega) (by omega)
   have q1:fEq (.int x) (.int ((2*k*dx+nn dx dy) / (2*nn dx dy)))=some (.bool (decide (x=pw k (nn dx dy) dx))):=encI.fEq _ _
   have q2:fEq (.int y) (.int ((2*k*dy+nn dx dy) / (2*nn dx dy)))=some (.bool (decide (y=pw k (nn dx dy) dy))):=encI.fEq _ _
   have tt:Av (AI (dOp fEq (AB 2) (dOp Ag (dOp Af (dOp An (dOp An (dC (.int 2)) (AB 5)) (AB 0)) (AB 4)) (dOp An (dC (.int 2)) (AB 4))))) (AI (dOp fEq (AB 3) (dOp Ag (dOp Af (dOp An (dOp An (dC (.int 2)) (AB 5)) (AB 1)) (AB 4)) (dOp An (dC (.int 2)) (AB 4))))) τ=some (decide (x=pw k (nn dx dy) dx)&&decide (y=pw k (nn dx dy) dy),τ):=by
    have u1:AI (dOp fEq (AB 2) (dOp Ag (dOp Af (dOp An (dOp An (dC (.int 2)) (AB 5)) (AB 0)) (AB 4)) (dOp An (dC (.int 2)) (AB 4)))) τ=some (decide (x=pw k (nn dx dy) dx),τ):=by
     walk_at "a|τ,N,st,m1,m2,m4,d1,q1"
    have u2:AI (dOp fEq (AB 3) (dOp Ag (dOp Af (dOp An (dOp An (dC (.int 2)) (AB 5)) (AB 1)) (AB 4)) (dOp An (dC (.int 2)) (AB 4)))) τ=some (decide (y=pw k (nn dx dy) dy),τ):=by
     walk_at "a|τ,N,st,m1,m3,m4,d2,q2"
    unfold Av
    rw[u1]
    cases decide (x=pw k (nn dx dy) dx) with
    |true=>exact u2
    |false=>rfl
   refine⟨τ,BE rfl ho,fun hp=>⟨τ,?_,_,BC,rfl⟩,fun hp=>⟨τ,?_,_,BC,rfl⟩⟩
   ·rw[hp]at tt
    exact(Au tt).trans rfl
   ·rw[hp]at tt
    exact(As tt).trans rfl)
  have ea:((rng 0 (nn dx dy+1).toNat).any fun k=>decide (x=pw k (nn dx dy) dx)&&decide (y=pw k (nn dx dy) dy))=decide ((x,y)∈told dx dy):=by
   have:(((rng 0 (nn dx dy+1).toNat).any fun k=>decide (x=pw k (nn dx dy) dx)&&decide (y=pw k (nn dx dy) dy))=true)↔(x,y)∈told dx dy:=by
    rw[List.any_eq_true]
    unfold told
    rw[df]
    constructor
    ·rintro⟨k,hk,e⟩
     rw[G',decide_eq_true_eq,decide_eq_true_eq]at e
     refine⟨k,hk,?_⟩
     unfold cl
     rw[if_neg hz,<- e.1,<- e.2]
    ·rintro⟨k,hk,e⟩
     unfold cl at e
     rw[if_neg hz]at e
     refine⟨k,hk,?_⟩
     rw[G',decide_eq_true_eq,decide_eq_true_eq]
     exact⟨(congrArg Prod.fst e).symm,(congrArg Prod.snd e).symm⟩
   by_cases hm:(x,y)∈told dx dy
   ·rw[this.mpr hm];simp[hm]
   ·have h0:¬_:=fun z=>hm (this.mp z)
    rw[fV]at h0
    rw[h0];simp[hm]
  rw[ea]at lp
  have fe:∀{o:Out},Ay (dN 5) PM ((rng 0 (nn dx dy+1).toNat).map PyData.int) (st N none)=some o->Bh (dR1 (AA (dOp Af (AB 4) (dC (.int 1))) AD)) (dN 5) PM (st N none)=some o:=fun e=>(BN (Eb (n:=nn dx dy+1) (t4:=st N none) rfl (by omega) (by omega))).trans e
  by_cases hm:(x,y)∈told dx dy
  ·obtain⟨l7,e,o,ho,rfl⟩:=lp.1 (by simp[hm])
   refine⟨_,AV (τ:=st N o) ?_ rfl rfl⟩
   refine(AE (t4:=st N none) rfl).trans ((AE ((As tz).trans rfl)).trans ((Ad (fe e)).trans ?_))
   simp[hm]
  ·obtain⟨l7,e,o,ho,rfl⟩:=lp.2 (by simp[hm])
   refine⟨_,AV (τ:=st N o) ?_ rfl rfl⟩
   refine(AE (t4:=st N none) rfl).trans ((AE ((As tz).trans rfl)).trans ((AE (fe e)).trans ?_))
   simp[hm]
   rfl
theorem inC(p:Cl)(l:List Cl):fIn false (ec p) (.list (l.map ec))=some (.bool (decide (p∈l))):=(encC.fIn p l).trans (congrArg (fun b=>some (PyData.bool b)) (decide_eq_decide.mpr f9))
theorem RX{r:Rz}(ok:Em r.d)(hk:kz r.d<4)(x y:Int):∃b l1 l2,BS [.d (eZ r),.d (.int x),.d (.int y)]=some (.bool b,l1)/\B5 [.d (eT (kS (kz r.d))),.d (eD r.d),.d (.int x),.d (.int y)]=some (.bool b,l2):=by
 let X:Option L:=some (.d (.int x))
 let Y:Option L:=some (.d (.int y))
 let K:Option L:=some (.d (eT (kS (kz r.d))))
 let D:Option L:=some (.d (eD r.d))
 let τ:DS:=[some (.d (eZ r)),X,Y,K,D]
 let σ:DS:=[K,D,X,Y]
 have sp:∀{j:Nat} {a:DB},j<10->kz r.d≠j->AR (AI (dOp fEq (AB 3) (dC (eT (kS j))))) a AU τ=some (.nx τ):=fun {j a} hj hn=>by
  refine(As (t4:=τ) (tst (oQ (eT (kS (kz r.d))) (eT (kS j)) τ rfl rfl ?_))).trans rfl
  rw[Kq (C1 _) hj,decide_eq_false hn]
 have tp:∀{j:Nat} {a:DB},j<10->kz r.d=j->AR (AI (dOp fEq (AB 3) (dC (eT (kS j))))) a AU τ=a τ:=fun {j a} hj hn=>by
  refine Au (t4:=τ) (tst (oQ (eT (kS (kz r.d))) (eT (kS j)) τ rfl rfl ?_))
  rw[Kq (C1 _) hj,decide_eq_true hn]
 have sl:∀{j:Nat} {a:DB},j<10->kz r.d≠j->AR (AI (dOp fEq (AB 0) (dC (eT (kS j))))) a AU σ=some (.nx σ):=fun {j a} hj hn=>by
  refine(As (t4:=σ) (tst (oQ (eT (kS (kz r.d))) (eT (kS j)) σ rfl rfl ?_))).trans rfl
  rw[Kq (C1 _) hj,decide_eq_false hn]
 have tl:∀{j:Nat} {a:DB},j<10->kz r.d=j->AR (AI (dOp fEq (AB 0) (dC (eT (kS j))))) a AU σ=a σ:=fun {j a} hj hn=>by
  refine Au (t4:=σ) (tst (oQ (eT (kS (kz r.d))) (eT (kS j)) σ rfl rfl ?_))
  rw[Kq (C1 _) hj,decide_eq_true hn]
 have hp:∀{b:Bool} {B:DB},B τ=some (.rt (.bool b) τ)->Aa false 3 2 (AM (AN (AH Ao (AA (AB 0) AD)) (dN 3)) (AM (AN (AH Ax (AA (AB 0) AD)) (dN 4)) B)) [.d (eZ r),.d (.int x),.d (.int y)]=some (.bool b,[.d (eZ r),.d (.int x),.d (.int y)]):=fun {b B} h =>
  AV (τ:=τ) ((AE (t4:=[some (.d (eZ r)),X,Y,K,none]) (AX (cQ [some (.d (eZ r)),X,Y,none,none] [eZ r] rfl rfl (Ho r)) rfl)).trans ((AE (t4:=τ) (AX (cQ [some (.d (eZ r)),X,Y,K,none] [eZ r] rfl rfl (GS r)) rfl)).trans h)) rfl rfl
 have pI:∀{k:Int} {v:PyData},AK (eD r.d) (.int k)=some v->dOp AK (AB 4) (dC (.int k)) τ=some (v,τ):=fun {k v} q=>oQ (eD r.d) (.int k) τ rfl rfl q
 have lI:∀{k:Int} {v:PyData},AK (eD r.d) (.int k)=some v->dOp AK (AB 1) (dC (.int k)) σ=some (v,σ):=fun {k v} q=>oQ (eD r.d) (.int k) σ rfl rfl q
 suffices h:∃b:Bool,BS [.d (eZ r),.d (.int x),.d (.int y)]=some (.bool b,[.d (eZ r),.d (.int x),.d (.int y)])/\B5 [.d (eT (kS (kz r.d))),.d (eD r.d),.d (.int x),.d (.int y)]=some (.bool b,[.d (eT (kS (kz r.d))),.d (eD r.d),.d (.int x),.d (.int y)]) by
  obtain⟨b,h1,h2⟩:=h
  exact⟨b,_,_,h1,h2⟩
 have hl:∀{b:Bool} {B:DB},B σ=some (.rt (.bool b) σ)->Aa false 4 0 B [.d (eT (kS (kz r.d))),.d (eD r.d),.d (.int x),.d (.int y)]=some (.bool b,[.d (eT (kS (kz r.d))),.d (eD r.d),.d (.int x),.d (.int y)]):=fun {b B} h=>AV (τ:=σ) h rfl rfl
 obtain⟨d,hd⟩:∃d,r.d=d:=⟨_,rfl⟩
 cases d with
 |plate w h a b =>
  have k0:kz r.d=0:=by rw[hd];rfl
  let t:DS:=[some (.d (.int w)),some (.d (.int h)),X,Y]
  have i0:AK (eD r.d) (.int 0)=some (.int w):=by rw[hd];rfl
  have i1:AK (eD r.d) (.int 1)=some (.int h):=by rw[hd];rfl
  refine⟨(decide (0<=x)&&decide (x<w))&&(decide (0<=y)&&decide (y<h)),hp (Ad ((tp (j:=0) (by decide) k0).trans (AZ ?_))),?_⟩
  ·exact cQ τ [.int w,.int h,.int x,.int y] (acc (pI i0) (acc (pI i1) rfl)) rfl (AV (τ:=t) (AZ (Lw (τ:=t) (chn (τ:=t) rfl rfl rfl) fun _=>chn (τ:=t) rfl rfl rfl)) rfl rfl)
  ·exact hl (Ad ((tl (j:=0) (by decide) k0).trans (AZ (Lw (τ:=σ) (chn (τ:=σ) rfl rfl (lI i0)) fun _=>chn (τ:=σ) rfl rfl (lI i1)))))
 |band w h a b =>
  have k0:kz r.d=1:=by rw[hd];rfl
  rw[hd]at ok
  have i0:AK (eD r.d) (.int 0)=some (.int w):=by rw[hd];rfl
  have i1:AK (eD r.d) (.int 1)=some (.int h):=by rw[hd];rfl
  obtain⟨ls,eo⟩:=PL (x:=x) (y:=y) ok.1 ok.2.1 ok.2.2.1 ok.2.2.2.1
  have ep:=Lu ok.1 ok.2.1 ok.2.2.1 ok.2.2.2.1
  refine⟨decide ((x,y)∈told w h),hp ((AE (sp (j:=0) (by decide) (by omega))).trans (Ad ((tp (j:=1) (by decide) k0).trans (AZ ?_)))),?_⟩
  ·exact oQ (ec (x,y)) (.list ((told w h).map ec)) τ rfl (cQ τ [.int w,.int h] (acc (pI i0) (acc (pI i1) rfl)) rfl ep) (inC _ _)
  ·exact hl ((AE (sl (j:=0) (by decide) (by omega))).trans (Ad ((tl (j:=1) (by decide) k0).trans (AZ (cQ σ [.int w,.int h,.int x,.int y] (acc (lI i0) (acc (lI i1) rfl)) rfl eo)))))
 |word t a b =>
  have k0:kz r.d=2:=by rw[hd];rfl
  rw[hd]at ok
  have i0:AK (eD r.d) (.int 0)=some (eT t):=by rw[hd];rfl
  have l6:=ok.1
  have ln:=QV (t:=t.1) (by omega)
  have dv:=Bj (i:=x) (j:=4) (by decide) (by decide)
  have md:=BM (i:=x) (j:=4) (by decide)
  have m4:An (.int 4) (.int (t.1.length:Int))=some (.int (4*(t.1.length:Int))):=IM (by decide) (by decide)
  have m5:An (.int 4) (.int (x / 4))=some (.int (4*(x / 4))):=IM (by decide) (by decide)
  let tt:DS:=[some (.d (eT t)),X,Y,some (.d (.int (x / 4)))]
  have ln1:Ah BO (AA (AB 0) AD) tt=some (.int (t.1.length:Int),tt):=LF (d:=eT t) (t4:=tt) rfl ln
  have c1:Aq fLe fLt (dC (.int 0)) (AB 3) (Ah BO (AA (AB 0) AD)) tt=_:=chn (τ:=tt) (i:=0) (j:=x / 4) rfl rfl ln1
  have ln2:dOp An (dC (.int 4)) (Ah BO (AA (dOp AK (AB 1) (dC (.int 0))) AD)) σ=some (.int (4*(t.1.length:Int)),σ):=oQ (.int 4) (.int (t.1.length:Int)) σ rfl (LF (lI i0) ln) m4
  have c2:Aq fLe fLt (dC (.int 0)) (AB 2) (dOp An (dC (.int 4)) (Ah BO (AA (dOp AK (AB 1) (dC (.int 0))) AD))) σ=_:=chn (τ:=σ) (i:=0) (j:=x) rfl rfl ln2
  have wrap:∀{b:Bool},By (Aq fLe fLt (dC (.int 0)) (AB 3) (Ah BO (AA (AB 0) AD))) (dOp (fIn false) (AY (AA (dOp Am (AB 1) (dOp An (dC (.int 4)) (AB 3))) (AA (AB 2) AD))) (AH B9 (AA (dOp Dm (AB 0) (AB 3)) AD))) tt=some (.bool b,tt)->BS [.d (eZ r),.d (.int x),.d (.int y)]=some (.bool b,[.d (eZ r),.d (.int x),.d (.int y)]):=fun {b} q=>by
   refine hp ((AE (sp (j:=0) (by decide) (by omega))).trans ((AE (sp (j:=1) (by decide) (by omega))).trans (Ad ((tp (j:=2) (by decide) k0).trans (AZ ?_)))))
   refine CH (t4:=τ) (rs:=[.d (eT t),.d (.int x),.d (.int y)]) (ds:=[eT t,.int x,.int y]) (ls:=[.d (eT t),.d (.int x),.d (.int y)]) (acc (pI i0) rfl) rfl (AV (τ:=tt) ?_ rfl rfl)
   exact(AE (t4:=tt) (AX (oQ (.int x) (.int 4) [some (.d (eT t)),X,Y,none] rfl rfl dv) rfl)).trans (AZ q)
  have wrl:∀{b:Bool},By (Aq fLe fLt (dC (.int 0)) (AB 2) (dOp An (dC (.int 4)) (Ah BO (AA (dOp AK (AB 1) (dC (.int 0))) AD)))) (AH Cm (AA (dOp Dm (dOp AK (AB 1) (dC (.int 0))) (dOp Ag (AB 2) (dC (.int 4)))) (AA (dOp Ac (AB 2) (dC (.int 4))) (AA (AB 3) AD)))) σ=some (.bool b,σ)->B5 [.d (eT (kS (kz r.d))),.d (eD r.d),.d (.int x),.d (.int y)]=some (.bool b,[.d (eT (kS (kz r.d))),.d (eD r.d),.d (.int x),.d (.int y)]):=fun {b} q =>
   hl ((AE (sl (j:=0) (by decide) (by omega))).trans ((AE (sl (j:=1) (by decide) (by omega))).trans ((AE (sl (j:=3) (by decide) (by omega))).trans (AZ q))))
  by_cases hx:0<=x/\x<4*(t.1.length:Int)
  ·obtain⟨c,hc,ex⟩:=aX (t:=t.1) (k:=x / 4) (by omega) (by omega) (by omega)
   obtain⟨l1,es⟩:=Uq (ok.2.1 c hc)
   obtain⟨l2,ei⟩:=Pf (ok.2.1 c hc) (x:=x % 4) (y:=y) (by omega) (by omega)
   have b1:(decide ((0:Int)<=x / 4)&&decide (x / 4<(t.1.length:Int)))=true:=by rw[G',decide_eq_true_eq,decide_eq_true_eq];omega
   have b2:(decide ((0:Int)<=x)&&decide (x<4*(t.1.length:Int)))=true:=by rw[G',decide_eq_true_eq,decide_eq_true_eq];exact hx
   rw[b1]at c1
   rw[b2]at c2
   have ex2:x-4*(x / 4)=x % 4:=by omega
   refine⟨decide ((x % 4,y)∈sgC c),wrap ((Ol c1).trans ?_),wrl ((Ol c2).trans ?_)⟩
   ·refine oQ (ec (x % 4,y)) (.list ((sgC c).map ec)) tt ?_ (cQ tt [chS c] (acc (op2 (x:=eT t) (y:=.int (x / 4)) (t4:=tt) (l7:=tt) rfl rfl ex) rfl) rfl es) (inC _ _)
    rw[<- ex2]
    exact Eo (rs:=[.d (.int (x-4*(x / 4))),.d (.int y)]) (t4:=tt) (acc (oQ (.int x) (.int (4*(x / 4))) tt rfl (oQ (.int 4) (.int (x / 4)) tt rfl rfl m5) rfl) rfl) rfl (by show 2<=1000;decide)
   ·exact cQ σ [chS c,.int (x % 4),.int y] (acc (op2 (lI i0) (op2 (x:=.int x) (y:=.int 4) (t4:=σ) (l7:=σ) rfl rfl dv) ex) (acc (op2 (x:=.int x) (y:=.int 4) (t4:=σ) (l7:=σ) rfl rfl md) rfl)) rfl ei
  ·have b1:(decide ((0:Int)<=x / 4)&&decide (x / 4<(t.1.length:Int)))=false:=by rw[<- fV,G',decide_eq_true_eq,decide_eq_true_eq];omega
   have b2:(decide ((0:Int)<=x)&&decide (x<4*(t.1.length:Int)))=false:=by rw[<- fV,G',decide_eq_true_eq,decide_eq_true_eq];exact hx
   rw[b1]at c1
   rw[b2]at c2
   exact⟨false,wrap (Lw (q:=true) c1 (fun z=>by cases z)),wrl (Lw (q:=true) c2 (fun z=>by cases z))⟩
 |stencil R a b =>
  have k0:kz r.d=3:=by rw[hd];rfl
  rw[hd]at ok
  have i0:AK (eD r.d) (.int 0)=some (.tuple (R.map eT)):=by rw[hd];rfl
  obtain⟨R1,R8,⟨w,w1,w8,hr⟩,_⟩:=ok
  let tt:DS:=[some (.d (.tuple (R.map eT))),X,Y]
  have lnR:BO [.tuple (R.map eT)]=some (.int (R.length:Int)):=by
   show some (PyData.int ((R.map eT).length:Int))=_
   rw[B']
  have c1:=chn (τ:=tt) (a:=dC (.int 0)) (b:=AB 2) (c:=Ah BO (AA (AB 0) AD)) (i:=0) (j:=y) rfl rfl (LF (d:=.tuple (R.map eT)) (t4:=tt) rfl lnR)
  have c2:=chn (τ:=σ) (a:=dC (.int 0)) (b:=AB 3) (c:=Ah BO (AA (dOp AK (AB 1) (dC (.int 0))) AD)) (i:=0) (j:=y) rfl rfl (LF (lI i0) lnR)
  have wrap:∀{b:Bool},By (Aq fLe fLt (dC (.int 0)) (AB 2) (Ah BO (AA (AB 0) AD))) (By (Aq fLe fLt (dC (.int 0)) (AB 1) (Ah BO (AA (dOp AK (AB 0) (AB 2)) AD))) (dOp fEq (dOp Dm (dOp AK (AB 0) (AB 2)) (AB 1)) (dC (.str "#")))) tt=some (.bool b,tt)->BS [.d (eZ r),.d (.int x),.d (.int y)]=some (.bool b,[.d (eZ r),.d (.int x),.d (.int y)]):=fun {b} q=>by
   refine hp ((AE (sp (j:=0) (by decide) (by omega))).trans ((AE (sp (j:=1) (by decide) (by omega))).trans ((AE (sp (j:=2) (by decide) (by omega))).trans (AZ ?_))))
   exact CH (t4:=τ) (rs:=[.d (.tuple (R.map eT)),.d (.int x),.d (.int y)]) (ds:=[.tuple (R.map eT),.int x,.int y]) (ls:=[.d (.tuple (R.map eT)),.d (.int x),.d (.int y)]) (acc (pI i0) rfl) rfl (AV (τ:=tt) (AZ q) rfl rfl)
  have wrl:∀{b:Bool},By (Aq fLe fLt (dC (.int 0)) (AB 3) (Ah BO (AA (dOp AK (AB 1) (dC (.int 0))) AD))) (By (Aq fLe fLt (dC (.int 0)) (AB 2) (Ah BO (AA (dOp AK (dOp AK (AB 1) (dC (.int 0))) (dC (.int 0))) AD))) (dOp fEq (dOp Dm (dOp AK (dOp AK (AB 1) (dC (.int 0))) (AB 3)) (AB 2)) (dC (.str "#")))) σ=some (.bool b,σ)->B5 [.d (eT (kS (kz r.d))),.d (eD r.d),.d (.int x),.d (.int y)]=some (.bool b,[.d (eT (kS (kz r.d))),.d (eD r.d),.d (.int x),.d (.int y)]):=fun {b} q =>
   hl ((AE (sl (j:=0) (by decide) (by omega))).trans ((AE (sl (j:=1) (by decide) (by omega))).trans (Ad ((tl (j:=3) (by decide) k0).trans (AZ q)))))
  by_cases hy:0<=y/\y<(R.length:Int)
  ·have b1:(decide ((0:Int)<=y)&&decide (y<(R.length:Int)))=true:=by rw[G',decide_eq_true_eq,decide_eq_true_eq];exact hy
   rw[b1]at c1 c2
   obtain⟨q,eq,hq⟩:=B7 (enc:=eT) (xs:=R) hy.1 hy.2
   obtain⟨q0,eq0,hq0⟩:=B7 (enc:=eT) (xs:=R) (k:=0) (by decide) (by omega)
   have hqm:=hr q (du hq)
   have hqm0:=hr q0 (du hq0)
   have g1:dOp AK (AB 0) (AB 2) tt=some (eT q,tt):=oQ (.tuple (R.map eT)) (.int y) tt rfl rfl eq
   have g2:dOp AK (dOp AK (AB 1) (dC (.int 0))) (AB 3) σ=some (eT q,σ):=op2 (y:=.int y) (l7:=σ) (lI i0) rfl eq
   have g3:dOp AK (dOp AK (AB 1) (dC (.int 0))) (dC (.int 0)) σ=some (eT q0,σ):=op2 (y:=.int 0) (l7:=σ) (lI i0) rfl eq0
   have lq:BO [eT q]=some (.int (w:Int)):=by have:=QV (t:=q.1) (by omega);rw[hqm.1]at this;exact this
   have lq0:BO [eT q0]=some (.int (w:Int)):=by have:=QV (t:=q0.1) (by omega);rw[hqm0.1]at this;exact this
   have d1:=chn (τ:=tt) (a:=dC (.int 0)) (b:=AB 1) (c:=Ah BO (AA (dOp AK (AB 0) (AB 2)) AD)) (i:=0) (j:=x) rfl rfl (LF g1 lq)
   have d2:=chn (τ:=σ) (a:=dC (.int 0)) (b:=AB 2) (c:=Ah BO (AA (dOp AK (dOp AK (AB 1) (dC (.int 0))) (dC (.int 0))) AD)) (i:=0) (j:=x) rfl rfl (LF g3 lq0)
   by_cases hx:0<=x/\x<(w:Int)
   ·have b2:(decide ((0:Int)<=x)&&decide (x<(w:Int)))=true:=by rw[G',decide_eq_true_eq,decide_eq_true_eq];exact hx
    rw[b2]at d1 d2
    obtain⟨c,hc,ex⟩:=aX (t:=q.1) (k:=x) (by omega) hx.1 (by have:=hqm.1;omega)
    have sk : PyData.strOk (⟨#[c]⟩ : Str) = true := Jo (al := alS) ∅ (fun c' h => by
     have:c'=c:=by simpa using h
     rw[this];exact hqm.2 c hc)
    have eqq:=OY ⟨⟨#[c]⟩,sk⟩ ⟨"#",∅⟩
    exact⟨_,wrap ((Ol c1).trans ((Ol d1).trans (op2 (x:=chS c) (y:=.str "#") (l7:=tt) (op2 (y:=.int x) (l7:=tt) g1 rfl ex) rfl eqq))),wrl ((Ol c2).trans ((Ol d2).trans (op2 (x:=chS c) (y:=.str "#") (l7:=σ) (op2 (y:=.int x) (l7:=σ) g2 rfl ex) rfl eqq)))⟩
   ·have b2:(decide ((0:Int)<=x)&&decide (x<(w:Int)))=false:=by rw[<- fV,G',decide_eq_true_eq,decide_eq_true_eq];exact hx
    rw[b2]at d1 d2
    exact⟨false,wrap ((Ol c1).trans (Lw (q:=true) d1 (fun z=>by cases z))),wrl ((Ol c2).trans (Lw (q:=true) d2 (fun z=>by cases z)))⟩
  ·have b1:(decide ((0:Int)<=y)&&decide (y<(R.length:Int)))=false:=by rw[<- fV,G',decide_eq_true_eq,decide_eq_true_eq];exact hy
   rw[b1]at c1 c2
   exact⟨false,wrap (Lw (q:=true) c1 (fun z=>by cases z)),wrl (Lw (q:=true) c2 (fun z=>by cases z))⟩
 |group=>rw[hd]at hk;exact absurd (show 4<4 from hk) (by decide)
 |glass=>rw[hd]at hk;exact absurd (show 5<4 from hk) (by decide)
 |window=>rw[hd]at hk;exact absurd (show 6<4 from hk) (by decide)
 |turn=>rw[hd]at hk;exact absurd (show 7<4 from hk) (by decide)
 |tiles=>rw[hd]at hk;exact absurd (show 8<4 from hk) (by decide)
 |mask=>rw[hd]at hk;exact absurd (show 9<4 from hk) (by decide)
def onF:List Tx->List Tx->List Tx
 |_,[]=>[]
 |S,x::l=>if x∈S then onF S l else x::onF (x::S) l
theorem Wi(S:List Tx)(x:Tx)(l:List Tx):onF S (x::l)=if x∈S then onF S l else x::onF (x::S) l:=rfl
theorem onF_mem:∀{l S:List Tx} {z:Tx},z∈onF S l↔z∈l/\z∉S
 |[],S,z=>by simp[onF]
 |x::l,S,z=>by
  unfold onF
  by_cases h:x∈S
  ·rw[if_pos h,onF_mem]
   constructor
   ·rintro⟨a,b⟩;exact⟨C' _ a,b⟩
   ·rintro⟨a,b⟩
    rcases P'.mp a with rfl|a
    ·exact absurd h b
    ·exact⟨a,b⟩
  ·rw[if_neg h,P',onF_mem]
   constructor
   ·rintro(rfl|⟨a,b⟩)
    ·exact⟨F',h⟩
    ·exact⟨C' _ a,fun w=>b (C' _ w)⟩
   ·rintro⟨a,b⟩
    by_cases e:z=x
    ·exact .inl e
    ·rcases P'.mp a with e'|a
     ·exact absurd e' e
     ·exact .inr ⟨a, fun w => by
       rcases P'.mp w with e'|w
       ·exact e e'
       ·exact b w⟩
theorem Jl:∀{l S T:List Tx},(∀z∈l,z∈S↔z∈T)->onF S l=onF T l
 |[],_,_,_=>rfl
 |x::l,S,T,h=>by
  have hx:=h x F'
  unfold onF
  by_cases e:x∈S
  ·rw[if_pos e,if_pos (hx.mp e)]
   exact Jl fun z hz=>h z (C' _ hz)
  ·rw[if_neg e,if_neg fun w=>e (hx.mpr w)]
   congr 1
   exact Jl fun z hz=>by rw[P',P',h z (C' _ hz)]
theorem Mb:∀{a b S:List Tx},onF S (a++b)=onF S a++onF (a++S) b
 |[],_,_=>rfl
 |x::a,b,S=>by
  rw[List.cons_append,Wi,Wi]
  by_cases e:x∈S
  ·rw[if_pos e,if_pos e,Mb]
   congr 1
   refine Jl fun z _=>?_
   simp only[List.mem_append,List.mem_cons]
   constructor
   ·rintro(h|h)
    ·exact .inl (.inr h)
    ·exact .inr h
   ·rintro((rfl|h)|h)
    ·exact .inr e
    ·exact .inl h
    ·exact .inr h
  ·rw[if_neg e,if_neg e,Mb,List.cons_append]
   congr 2
   refine Jl fun z _=>?_
   simp only[List.mem_append,List.mem_cons]
   constructor
   ·rintro(h|h|h)
    ·exact .inl (.inr h)
    ·exact .inl (.inl h)
    ·exact .inr h
   ·rintro((h|h)|h)
    ·exact .inr (.inl h)
    ·exact .inl h
    ·exact .inr (.inr h)
theorem Jk:∀{l S:List Tx},(onF S l).length<=l.length
 |[],_=>J' _
 |x::l,S=>by
  unfold onF
  have h1:=Jk (l:=l) (S:=S)
  have h2:=Jk (l:=l) (S:=x::S)
  split<;>simp only[List.length_cons]<;>omega
theorem S6(l:List Tx)(x:Tx):onF [] (l++[x])=onF [] l++if x∈l then [] else [x]:=by
 rw[Mb,dz]
 rfl
def Ae:Dz->Cl×Cl
 |.plate _ _ a b=>(a,b)
 |.band _ _ a b=>(a,b)
 |.word _ a b=>(a,b)
 |.stencil _ a b=>(a,b)
 |_=>((0,1),(0,1))
theorem He{d:Dz}(ok:Em d)(hk:kz d<4):OkF (Ae d).1/\OkF (Ae d).2:=by
 cases d with
 |plate w h a b=>exact ok.2.2.2.2
 |band x y a b=>exact ok.2.2.2.2
 |word t a b=>exact ok.2.2
 |stencil R a b=>exact ok.2.2.2
 |_=>exact absurd hk (by simp[kz])
theorem Hf{d:Dz}(hk:kz d<4):AK (eD d) (.int (-2))=some (ec (Ae d).1)/\AK (eD d) (.int (-1))=some (ec (Ae d).2):=by
 cases d with
 |plate w h a b=>exact⟨rfl,rfl⟩
 |band x y a b=>exact⟨rfl,rfl⟩
 |word t a b=>exact⟨rfl,rfl⟩
 |stencil R a b=>exact⟨rfl,rfl⟩
 |_=>exact absurd hk (by simp[kz])
def Gm(r:Rz)(x y:Int):Bool:=match BS [.d (eZ r),.d (.int x),.d (.int y)] with
 |some (.bool b,_)=>b
 |_=>false
theorem Kx{r:Rz}(ok:Em r.d)(hk:kz r.d<4)(x y:Int):(∃ls,BS [.d (eZ r),.d (.int x),.d (.int y)]=some (.bool (Gm r x y),ls))/\∃ls,B5 [.d (eT (kS (kz r.d))),.d (eD r.d),.d (.int x),.d (.int y)]=some (.bool (Gm r x y),ls):=by
 obtain⟨b,l1,l2,e1,e2⟩:=RX ok hk x y
 have:Gm r x y=b:=by unfold Gm;rw[e1]
 rw[this]
 exact⟨⟨l1,e1⟩,l2,e2⟩
abbrev NF:=Rz->Int->Int->List Tx
def qb(q:Int)(f:Bool)(p:Cl):Cl :=
 let c:Cl:=if q=0 then p else if q=1 then (p.2,-p.1) else if q=2 then (-p.1,-p.2) else (-p.2,p.1)
 if f=true then (-c.1,c.2) else c
def Az:Dz->Int->Int->List Cl
 |.window w h a b,x,y=>if ((decide (0<=x)&&decide (x<w))&&(decide (0<=y)&&decide (y<h)))=true then [(x+a,y+b)] else []
 |.turn q f,x,y=>[qb q f (x,y)]
 |.tiles a b dx dy,x,y=>(shf a b dx dy).map fun p=>(x-p.1,y-p.2)
 |_,x,y=>[(x,y)]
def ctN(f:NF)(ks:List Rz)(x y:Int):List Tx:=ks.reverse.flatMap fun k=>if k.s=true then f k (x-k.x) (y-k.y) else []
def Ht(f:NF)(d:Dz)(ks:List Rz)(x y:Int):List Rz:=match d with
 |.glass p=>if p=(0,1) then [] else ks
 |.mask=>if ctN f (ks.take 1) x y=[] then [] else ks.tail
 |_=>ks
def lfN(r:Rz)(x y:Int):List Tx:=if (Ae r.d).2≠(0,1)/\Gm r x y=true then [r.n] else []
def hlN(f:NF)(r:Rz)(ks:List Rz)(x y:Int):List Tx:=(Az r.d x y).reverse.flatMap fun c=>ctN f (Ht f r.d ks x y) c.1 c.2
def ptN(f:NF)(r:Rz)(ks:List Rz)(x y:Int):List Tx:=if 4<=kz r.d then hlN f r ks x y else lfN r x y
def AO(rs:List Rz)(n:Tx):List Rz:=rs.filter fun r=>decide (r.h=n)
def Ba(rs:List Rz):Nat->NF
 |0=>fun _ _ _=>[]
 |n+1=>fun r x y=>ptN (Ba rs n) r (AO rs r.n) x y
theorem Hr(f:NF)(d:Dz)(ks:List Rz)(x y:Int):(Ht f d ks x y).Sublist ks:=by
 unfold Ht
 split
 ·split
  ·exact List.nil_sublist _
  ·exact eL _
 ·split
  ·exact List.nil_sublist _
  ·exact ff _
 ·exact eL _
theorem NJ{f:NF}{ks:List Rz}{x y:Int}{z:Tx}(h:z∈ctN f ks x y):∃k∈ks,∃x' y',z∈f k x' y':=by
 obtain⟨k,hk,hz⟩:=gK.mp h
 split at hz
 ·exact⟨k,V'.mp hk,_,_,hz⟩
 ·cases hz
theorem UE(f:NF)(pre:List Rz)(k:Rz)(x y:Int):ctN f (pre++[k]) x y=(if k.s=true then f k (x-k.x) (y-k.y) else [])++ctN f pre x y:=by
 unfold ctN
 rw[fo,fR,fW,gg]
def EW(d:Dz)(s:Nat):Nat:=if kz d=8 then 4*s+1 else s+1
def DK(r:Rz)(s:Nat):Nat:=if 4<=kz r.d then EW r.d s else 1
def ptS:List Rz->Tx->Nat
 |[],_=>0
 |r::q,h=>(if r.h=h then 1+ptS q r.n else 0)+ptS q h
theorem PB:∀{q:List Rz} {H:List Tx},(q.map (·.n)).Nodup->H.Nodup->(∀h∈H,h∉q.map (·.n))->(H.map (ptS q)).sum<=q.length
 |[],H,_,_,_=>by
  have:H.map (ptS [])=H.map fun _=>0:=fQ fun _ _=>rfl
  rw[this,GK,Nat.mul_zero];exact eA _
 |r::q,H,hq,hH,hd=>by
  rw[U',eC]at hq
  have ih := PB (q := q) (H := r.n :: H) hq.2 (eC.mpr ⟨fun z => hd _ z F', hH⟩) (fun h hh => by
   rcases P'.mp hh with rfl|hh
   ·exact hq.1
   ·exact fun z=>hd h hh (C' _ z))
  rw[U',fA]at ih
  have st:∀(K:List Tx),K.Nodup->(K.map (ptS (r::q))).sum<=(1+ptS q r.n)+(K.map (ptS q)).sum/\(r.h∉K->(K.map (ptS (r::q))).sum=(K.map (ptS q)).sum):=by
   intro K
   induction K with
   |nil=>intro _;exact⟨eA _,fun _=>rfl⟩
   |cons h K ih2 =>
    intro hn
    rw[eC]at hn
    obtain⟨i1,i2⟩:=ih2 hn.2
    rw[U',fA,U',fA]
    have e:ptS (r::q) h=(if r.h=h then 1+ptS q r.n else 0)+ptS q h:=rfl
    rw[e]
    by_cases z:r.h=h
    ·rw[if_pos z]
     have:=i2 (by rw[z];exact hn.1)
     exact⟨by omega,fun y=>absurd (by rw[z];exact F') y⟩
    ·rw[if_neg z]
     exact⟨by omega,fun y=>by have:=i2 fun w=>y (C' _ w);omega⟩
  have:=(st H hH).1
  rw[X'];omega
def ctS:List Rz->Tx->Nat
 |[],_=>0
 |r::q,h=>(if r.h=h then DK r (ctS q r.n) else 0)+ctS q h
def ntS:List Rz->Tx->Prop
 |[],_=>True
 |r::q,h=>(r.h=h->kz r.d≠8/\ntS q r.n)/\ntS q h
def vtS:List Rz->Prop
 |[]=>True
 |r::q=>(kz r.d=8->ntS q r.n)/\vtS q
theorem Qr:∀{q:List Rz} {h:Tx},ntS q h->ctS q h<=ptS q h
 |[],_,_=>J' _
 |r::q,h,⟨a,b⟩=>by
  have ih:=Qr b
  show(if r.h=h then DK r (ctS q r.n) else 0)+ctS q h<=(if r.h=h then 1+ptS q r.n else 0)+ptS q h
  by_cases z:r.h=h
  ·obtain⟨a1,a2⟩:=a z
   have:=Qr a2
   rw[if_pos z,if_pos z]
   have:DK r (ctS q r.n)<=1+ptS q r.n:=by
    unfold DK EW
    rw[if_neg a1]
    split<;>omega
   omega
  ·rw[if_neg z,if_neg z];omega
theorem Od:∀{q:List Rz} {h:Tx},vtS q->ctS q h<=4*ptS q h
 |[],_,_=>eA _
 |r::q,h,⟨a,b⟩=>by
  have ih:=Od (h:=h) b
  show(if r.h=h then DK r (ctS q r.n) else 0)+ctS q h<=4*((if r.h=h then 1+ptS q r.n else 0)+ptS q h)
  by_cases z:r.h=h
  ·rw[if_pos z,if_pos z]
   have:DK r (ctS q r.n)<=4*(1+ptS q r.n):=by
    unfold DK EW
    by_cases y:kz r.d=8
    ·have:=Qr (a y)
     rw[if_pos y]
     split<;>omega
    ·have:=Od (h:=r.n) b
     rw[if_neg y]
     split<;>omega
   omega
  ·rw[if_neg z,if_neg z];omega
theorem VtR.suf{p q:List Rz}(h:VtR (p++q)):VtR q:=by
 induction p with
 |nil=>exact h
 |cons x p ih=>exact ih h.1
theorem TM{x:Rz}(hx:kz x.d=8):∀{q p:List Rz} {y:Tx},OkR (q.reverse++p.reverse)->VtR (q.reverse++p.reverse)->x∈p->(∃z∈p,z.n=y)->x.n∈hsR p.reverse y->ntS q y
 |[],_,_,_,_,_,_,_=>trivial
 |r::q,p,y,ok,vt,hp,hy,hh=>by
  have e:(r::q).reverse++p.reverse=q.reverse++(p++[r]).reverse:=by simp
  rw[e]at ok vt
  have ok1:OkR (r::p.reverse):=by have:=ok.suf;simpa using this
  have vt1:VtR (r::p.reverse):=by have:=vt.suf;simpa using this
  have hn:∀z∈p,z.n≠r.n:=fun z hz=>ok1.2.2.1 z (V'.mpr hz)
  have hr:hsR (p++[r]).reverse y=hsR p.reverse y:=by
   rw[fo,fR,fW]
   obtain⟨z,hz,ez⟩:=hy
   show(if r.n=y then _ else _)=_
   rw[if_neg fun w=>hn z hz (ez.trans w.symm)]
  refine⟨fun z=>⟨fun w=>?_,?_⟩,?_⟩
  ·subst z
   exact vt1.2.2 w x (V'.mpr hp) hh hx
  ·refine TM hx ok vt (dY _ hp) ⟨r,by simp,rfl⟩ ?_
   rw[fo,fR,fW]
   show x.n∈(if r.n=r.n then r.n::hsR p.reverse r.h else _)
   rw[if_pos rfl,z]
   exact C' _ hh
  ·refine TM hx ok vt (dY _ hp) ?_ (by rw[hr];exact hh)
   obtain⟨z,hz,ez⟩:=hy
   exact⟨z,dY _ hz,ez⟩
theorem Ry:∀{q p:List Rz},OkR (q.reverse++p.reverse)->VtR (q.reverse++p.reverse)->vtS q
 |[],_,_,_=>trivial
 |r::q,p,ok,vt=>by
  have e:(r::q).reverse++p.reverse=q.reverse++(p++[r]).reverse:=by simp
  rw[e]at ok vt
  refine⟨fun h=>TM h ok vt (by simp) ⟨r,by simp,rfl⟩ ?_,Ry ok vt⟩
  rw[fo,fR,fW]
  show r.n∈(if r.n=r.n then r.n::hsR p.reverse r.h else _)
  rw[if_pos rfl]
  exact F'
theorem EF{rs:List Rz}(hl:rs.length<=30)(a:Tx):∃ls,BF [.d (.list (rs.map eZ)),.d (eT a)]=some (.list ((AO rs a).map eZ),ls):=by
 let τ:DS:=[some (.d (.list (rs.map eZ))),some (.d (eT a))]
 refine⟨[.d (.list (rs.map eZ)),.d (eT a)],?_⟩
 unfold BF
 refine AV (τ:=τ) (AZ ?_) rfl rfl
 refine lcg (enc:=eZ) (rs:=rs) (ex:=[some (.d (eT a))]) (fun r=>decide (r.h=a)) eZ rfl (by omega) rfl rfl (fun r hr=>?_) (fun r hr _=>rfl)
 let t:DS:=[some (.d (eZ r)),some (.d (eT a))]
 exact tst (oQ (eT r.h) (eT a) t (CH (t4:=t) (ds:=[eZ r]) rfl rfl (LR r)) rfl (OY _ _))
def CU(rs:List Rz):Nat->Rz->Nat
 |0,_=>0
 |n+1,r=>DK r (((AO rs r.n).map (CU rs n)).sum)
def Lv(rs:List Rz)(n:Nat)(r:Rz):Prop:=∃pre post,rs=pre++r::post/\post.length<n
theorem Pd{rs pre post:List Rz}{r:Rz}(ok:OkZ rs)(e:rs=pre++r::post):AO rs r.n=AO post r.n:=by
 have e2:rs.reverse=post.reverse++r::pre.reverse:=by rw[e];simp
 have ok':=ok
 unfold OkZ at ok'
 rw[e2]at ok'
 have ok1:=ok'.suf
 have no:∀k∈pre++[r],k.h≠r.n:=by
  have:∀a:List Rz,OkR a->∀x:Tx,(∀q∈a,q.n≠x)->x≠t0->∀k∈a,k.h≠x:=by
   intro a
   induction a with
   |nil=>intro _ _ _ _ k hk;cases hk
   |cons q a ih =>
    intro o x hx h0 k hk
    rcases P'.mp hk with rfl|hk
    ·rcases o.2.2.2 with z|⟨w,hw,z⟩
     ·rw[z];exact Ne.symm h0
     ·rw[<- z];exact hx w (C' _ hw)
    ·exact ih o.1 x (fun q hq=>hx q (C' _ hq)) h0 k hk
  have hp:=this pre.reverse ok1.1 r.n (fun q hq=>ok1.2.2.1 q hq) ok1.2.1.ne
  intro k hk
  rcases fB.mp hk with hk|hk
  ·exact hp k (V'.mpr hk)
  ·rw[dq.mp hk]
   rcases ok1.2.2.2 with z|⟨w,hw,z⟩
   ·rw[z];exact Ne.symm ok1.2.1.ne
   ·rw[<- z];exact ok1.2.2.1 w hw
 unfold AO
 rw[e,show pre++r::post=(pre++[r])++post by simp,gU,List.filter_eq_nil_iff.mpr (fun k hk=>by simpa using no k hk),gR]
theorem Pc{rs:List Rz}(ok:OkZ rs){n:Nat}{r k:Rz}(h:Lv rs (n+1) r)(hk:k∈AO rs r.n):Lv rs n k:=by
 obtain⟨pre,post,e,hl⟩:=h
 rw[Pd ok e]at hk
 obtain⟨p1,p2,e2⟩:=gC (W'.mp hk).1
 refine⟨pre++r::p1,p2,by rw[e,e2];simp,?_⟩
 rw[e2,L',X']at hl
 omega
theorem Pa{rs:List Rz}{n:Nat}{r:Rz}(h:Lv rs n r):r∈rs:=by
 obtain⟨pre,post,e,_⟩:=h
 rw[e];simp
theorem Pb{rs:List Rz}{n:Nat}(hl:rs.length<=n){r:Rz}(hr:r∈rs):Lv rs n r:=by
 obtain⟨p1,p2,e⟩:=gC hr
 refine⟨p1,p2,e,?_⟩
 rw[e,L',X']at hl
 omega
theorem Py{rs:List Rz}(ok:OkZ rs):∀(n:Nat) (r:Rz) (pre post:List Rz),rs=pre++r::post->post.length<n->CU rs n r=DK r (ctS post r.n)
 |0,_,_,_,_,h=>absurd h (eP _)
 |n+1,r,pre,post,e,hl=>by
  show DK r _=_
  rw[Pd ok e]
  congr 1
  have:∀(q p:List Rz) (x:Tx),rs=p++q->q.length<=n->((AO q x).map (CU rs n)).sum=ctS q x:=by
   intro q
   induction q with
   |nil=>intro p x _ _;rfl
   |cons k q ih =>
    intro p x e2 h2
    rw[X']at h2
    have i:=ih (p++[k]) x (by rw[e2];simp) (by omega)
    have c:=Py ok n k p q e2 (by omega)
    unfold AO at i ⊢
    rw[fT]
    show _=(if k.h=x then DK k (ctS q k.n) else 0)+ctS q x
    by_cases z:k.h=x
    ·rw[if_pos (decide_eq_true z),if_pos z,U',fA,i,c]
    ·rw[if_neg (by simpa using z),if_neg z,i,Nat.zero_add]
  exact this post (pre++[r]) r.n (by rw[e];simp) (by omega)
theorem OB{a:List Rz}(ok:OkR a):(a.map (·.n)).Nodup:=by
 induction a with
 |nil=>exact gG
 |cons r a ih =>
  rw[U',eC]
  refine⟨fun z=>?_,ih ok.1⟩
  obtain⟨q,hq,e⟩:=df.mp z
  exact ok.2.2.1 q hq e
theorem IL{rs:List Rz}(ok:OkZ rs):(rs.map (·.n)).Nodup:=by
 have:=OB ok
 rw[gL]at this
 exact(List.reverse_perm _).nodup_iff.mp this
theorem Tg{rs:List Rz}(ok:OkZ rs)(vt:VtR rs.reverse){n:Nat}(hn:rs.length<=n)(x:Tx)(hx:x=t0\/∃r∈rs,r.n=x):((AO rs x).map (CU rs n)).sum<=4*rs.length:=by
 have vs:vtS rs:=Ry (p:=[]) (by simpa using ok) (by simpa using vt)
 have nd:=IL ok
 have sum:∀(q p:List Rz) (x:Tx),rs=p++q->((AO q x).map (CU rs n)).sum=ctS q x:=by
  intro q
  induction q with
  |nil=>intro p x _;rfl
  |cons k q ih =>
   intro p x e2
   have i:=ih (p++[k]) x (by rw[e2];simp)
   have hl:q.length<n:=by rw[e2,L',X']at hn;omega
   have c:=Py ok n k p q e2 hl
   unfold AO at i ⊢
   rw[fT]
   show _=(if k.h=x then DK k (ctS q k.n) else 0)+ctS q x
   by_cases z:k.h=x
   ·rw[if_pos (decide_eq_true z),if_pos z,U',fA,i,c]
   ·rw[if_neg (by simpa using z),if_neg z,i,Nat.zero_add]
 have one:∀{q:List Rz} {x:Tx},(q.map (·.n)).Nodup->x∉q.map (·.n)->ptS q x<=q.length:=fun {q x} hq hx'=>by
  have:=PB (q:=q) (H:=[x]) hq (eC.mpr ⟨by simp,gG⟩) (fun h hh=>by rw[dq.mp hh];exact hx')
  simpa using this
 rcases hx with rfl|⟨r,hr,rfl⟩
 ·rw[sum rs [] t0 rfl]
  have h1:=Od (h:=t0) vs
  have h2 := one nd (x := t0) (fun z => by
   obtain⟨q,hq,e⟩:=df.mp z
   exact(ok.all q (V'.mpr hq)).ne e)
  omega
 ·obtain⟨p,q,e⟩:=gC hr
  rw[Pd ok e,sum q (p++[r]) r.n (by rw[e];simp)]
  have vq:vtS q:=by
   have:∀(a b:List Rz),vtS (a++b)->vtS b:=by
    intro a
    induction a with
    |nil=>intro b h;exact h
    |cons x a ih=>intro b h;exact ih b h.2
   exact this (p++[r]) q (by rw[e]at vs;simpa using vs)
  have nq:(r.n::q.map (·.n)).Nodup:=by
   rw[e,eB,U']at nd
   exact(iD.mp nd).2.1
  rw[eC]at nq
  have h1:=Od (h:=r.n) vq
  have h2:=one nq.2 nq.1
  have:q.length<=rs.length:=by rw[e,L',X'];omega
  omega
theorem MZ{rs:List Rz}(ok:OkZ rs)(vt:VtR rs.reverse){n:Nat}{r:Rz}(h:Lv rs n r):CU rs n r<=4*rs.length:=by
 obtain⟨pre,post,e,hl⟩:=h
 rw[Py ok n r pre post e hl]
 have vs:vtS rs:=Ry (p:=[]) (by simpa using ok) (by simpa using vt)
 have nd:=IL ok
 have v1:vtS (r::post):=by
  have:∀(a b:List Rz),vtS (a++b)->vtS b:=by
   intro a
   induction a with
   |nil=>intro b h;exact h
   |cons x a ih=>intro b h;exact ih b h.2
  exact this pre _ (by rw[e]at vs;exact vs)
 have n1:((r::post).map (·.n)).Nodup:=by
  rw[e,eB]at nd
  exact(iD.mp nd).2.1
 rw[U',eC]at n1
 have h2:=PB (q:=post) (H:=[r.n]) n1.2 (eC.mpr ⟨by simp,gG⟩) (fun h hh=>by rw[dq.mp hh];exact n1.1)
 have h2:ptS post r.n<=post.length:=by simpa using h2
 have hz:post.length+1<=rs.length:=by rw[e,L',X'];omega
 unfold DK EW
 by_cases y:kz r.d=8
 ·have:=Qr (v1.1 y)
  rw[if_pos y]
  split<;>omega
 ·have:=Od (h:=r.n) v1.2
  rw[if_neg y]
  split<;>omega
theorem Jg{c:Rz->Nat}{a b:List Rz}(h:a.Sublist b):(a.map c).sum<=(b.map c).sum:=by
 induction h with
 |slnil=>exact J' _
 |cons x _ ih=>rw[U',fA];omega
 |cons_cons x _ ih=>rw[U',fA,U',fA];omega
theorem NI{f:NF}{c:Rz->Nat}:∀{ks:List Rz} {x y:Int},(∀k∈ks,∀x y,(f k x y).length<=c k)->(ctN f ks x y).length<=(ks.map c).sum
 |[],_,_,_=>J' _
 |k::ks,x,y,h=>by
  have ih:=NI (ks:=ks) (x:=x) (y:=y) fun q hq=>h q (C' _ hq)
  have hk:=h k F' (x-k.x) (y-k.y)
  unfold ctN at ih ⊢
  rw[List.reverse_cons,fq,L',gh,U',fA]
  split
  ·omega
  ·rw[iK];omega
theorem OX{α:Type}{f:α->List Tx}{n:Nat}:∀{l:List α},(∀a∈l,(f a).length<=n)->(l.flatMap f).length<=n*l.length
 |[],_=>by simp
 |a::l,h=>by
  have:=OX (l:=l) fun b hb=>h b (C' _ hb)
  have:=h a F'
  rw[gg,L',X',Nat.mul_succ];omega
theorem SN{a b x y:Int}(a0:1<=a)(b0:1<=b)(ab:a*b<=4):(shf a b x y).length<=4:=by
 rw[Ur]
 have e:((b.toNat*a.toNat:Nat):Int)=a*b:=by rw[gy,Int.toNat_of_nonneg (by omega),Int.toNat_of_nonneg (by omega),Int.mul_comm]
 omega
theorem IX{d:Dz}(h:kz d≠8)(x y:Int):(Az d x y).length<=1:=by
 cases d with
 |window w v a b =>
  show(if ((decide (0<=x)&&decide (x<w))&&(decide (0<=y)&&decide (y<v)))=true then [(x+a,y+b)] else ([]:List Cl)).length<=1
  split
  ·exact J' _
  ·exact eA _
 |tiles=>exact absurd rfl h
 |_=>exact J' _
theorem NM{d:Dz}(ok:Em d)(h:kz d=8)(x y:Int):(Az d x y).length<=4:=by
 cases d with
 |tiles a b u v =>
  obtain⟨a1,a3,b1,b3,ab,_⟩:=ok
  show(List.map _ _).length<=4
  rw[B']
  exact SN a1 b1 ab
 |_=>simp[kz]at h
theorem XR{f:NF}{c:Rz->Nat}{r:Rz}{ks:List Rz}(ok:Em r.d)(h:∀k∈ks,∀x y,(f k x y).length<=c k)(x y:Int):(ptN f r ks x y).length<=DK r (ks.map c).sum:=by
 unfold ptN DK
 by_cases h4:4<=kz r.d
 ·rw[if_pos h4,if_pos h4]
  have hs:=Hr f r.d ks x y
  have hc:∀p∈(Az r.d x y).reverse,(ctN f (Ht f r.d ks x y) p.1 p.2).length<=(ks.map c).sum:=fun p _=>eE (NI fun k hk=>h k (hs.subset hk)) (Jg hs)
  have:=OX hc
  rw[e8]at this
  unfold hlN EW
  by_cases h8:kz r.d=8
  ·rw[if_pos h8]
   have h4:=NM ok h8 x y
   have:(ks.map c).sum*(Az r.d x y).length<=(ks.map c).sum*4:=gz _ h4
   omega
  ·rw[if_neg h8]
   have h1:=IX h8 x y
   have:(ks.map c).sum*(Az r.d x y).length<=(ks.map c).sum*1:=gz _ h1
   omega
 ·rw[if_neg h4,if_neg h4]
  unfold lfN
  split
  ·exact J' _
  ·exact eA _
section
variable {rs:List Rz}
theorem Jm(ok:OkZ rs):∀(n:Nat) (r:Rz),r∈rs->∀x y,(Ba rs n r x y).length<=CU rs n r
 |0,_,_,_,_=>J' _
 |n+1,r,hr,x,y=>XR (ok.all r (V'.mpr hr)).d (fun k hk=>Jm ok n k (W'.mp hk).1) x y
def Dn:List Rz->Tx->Tx->Prop
 |[],_,_=>False
 |r::q,h,z=>(r.h=h/\(z=r.n\/Dn q r.n z))\/Dn q h z
end
theorem YJ{i:Nat}{a:DA}{τ t4:DS}{rs:List Ar}{xs ys:List PyData}(h:a τ=some (rs,t4))(k:BA rs=some [.list ys])(m:t4[i]?=some (some (.m xs)))(hz:xs.length+ys.length<=900):A3 (dMt i BZ a) τ=some (.nx (t4.set i (some (.m (xs++ys))))):=by
 have hs:xs.length+ys.length<=sizeLine:=sz (eE hz (by decide))
 unfold A3 dMt
 rw[h]
 show(((BA rs).bind _)).map _=_
 rw[k]
 show((match t4[i]? with|some (some (.m xs))=>_|_=>_):Option (PyData×DS)).map _=_
 rw[m]
 show((if xs.length+ys.length<=sizeLine then some (PyData.none,xs++ys) else none).map _).map _=_
 rw[if_pos hs]
 rfl
theorem Q6{a b x y:Int}(a0:1<=a)(a3:a<=3)(b0:1<=b)(b3:b<=3):CY [.d (.int a),.d (.int b),.d (.int x),.d (.int y)]=some (.list ((shf a b x y).map ec),[.d (.int a),.d (.int b),.d (.int x),.d (.int y)]):=by
 let I:Int->Option L:=fun i=>some (.d (.int i))
 let st:List Cl->Option L->DS:=fun l o=>[I a,I b,I x,I y,some (.m (l.map ec)),o]
 let pr:List Int->List Cl:=fun js=>js.flatMap fun j=>(rng 0 a.toNat).map fun i=>(i*x,j*y)
 have lp:∃t7,Ay (dN 5) (A3 (dMt 4 BZ (AA (dLC 1 [2,5,3] (dR1 (AA (AB 0) AD)) (dN 0) Cu (AY (AA (dOp An (AB 0) (AB 1)) (AA (dOp An (AB 2) (AB 3)) AD)))) AD))) ((rng 0 b.toNat).map PyData.int) (st [] none)=some (.nx t7)/\∃o,nM o/\t7=st (pr (rng 0 b.toNat)) o:=by
  refine A1 (fun(pre:List Int) τ=>∃o,nM o/\τ=st (pr pre) o) ⟨none,Ai,rfl⟩ ?_
  rintro pre j post τ e ⟨o,ho,rfl⟩
  have hj:=Ji (n:=b.toNat) (k:=j) (by rw[e];simp)
  have hl:=Bu e
  rw[Eu]at hl
  have hp:(pr pre).length=pre.length*a.toNat:=by
   show(pre.flatMap _).length=_
   rw[List.length_flatMap]
   have:(pre.map fun j=>((rng 0 a.toNat).map fun i=>((i*x,j*y):Cl)).length)=pre.map fun _=>a.toNat:=fQ fun j _=>by rw[B',Eu]
   rw[this,GK]
  have hq:pre.length*a.toNat<=3*3:=fO (by omega) (by omega)
  let t4:=st (pr pre) (I j)
  have lc:dLC 1 [2,5,3] (dR1 (AA (AB 0) AD)) (dN 0) Cu (AY (AA (dOp An (AB 0) (AB 1)) (AA (dOp An (AB 2) (AB 3)) AD))) t4=some (.list (((rng 0 a.toNat).map fun i=>(i*x,j*y)).map ec),t4):=by
   have := lcg (enc := PyData.int) (rs := rng 0 a.toNat) (τ := t4) (fr := [2, 5, 3]) (it := dR1 (AA (AB 0) AD)) (ex := [I x, I j, I y]) (c := Cu) (e := AY (AA (dOp An (AB 0) (AB 1)) (AA (dOp An (AB 2) (AB 3)) AD))) (fun _ => true) (fun i => ec (i * x, j * y)) (Eb (n := a) (t4 := t4) rfl (by omega) (by omega)) (by rw [Eu]; omega) rfl rfl (fun r _ => rfl) (fun i hi _ => by
    have hi:=Ji hi
    have q1:=IM (i:=i) (j:=x) (by omega) (by omega)
    have q2:=IM (i:=j) (j:=y) (by omega) (by omega)
    let t:DS:=[I i,I x,I j,I y]
    exact Eo (rs:=[.d (.int (i*x)),.d (.int (j*y))]) (t4:=t) (acc (t4:=t) (op2 (t4:=t) rfl rfl q1) (acc (t4:=t) (op2 (t4:=t) rfl rfl q2) rfl)) rfl (by show 2<=1000;decide))
   rw[this,Ek,fD];rfl
  refine⟨t4,st (pr (pre++[j])) (I j),BE (o:=o) rfl ho,?_,_,BC,rfl⟩
  have e2:=YJ (i:=4) (rs:=[.d (.list (((rng 0 a.toNat).map fun i=>((i*x,j*y):Cl)).map ec))]) (xs:=(pr pre).map ec) (ys:=((rng 0 a.toNat).map fun i=>((i*x,j*y):Cl)).map ec) (τ:=t4) (t4:=t4) (a:=AA (dLC 1 [2,5,3] (dR1 (AA (AB 0) AD)) (dN 0) Cu (AY (AA (dOp An (AB 0) (AB 1)) (AA (dOp An (AB 2) (AB 3)) AD)))) AD) (acc lc rfl) rfl rfl (by rw[B',B',B',Eu,hp];omega)
  refine e2.trans ?_
  show some (Out.nx [I a,I b,I x,I y,some (.m ((pr pre).map ec++_)),I j])=some (Out.nx (st (pr (pre++[j])) (I j)))
  have:pr (pre++[j])=pr pre++(rng 0 a.toNat).map fun i=>(i*x,j*y):=by
   show(pre++[j]).flatMap _=_
   rw[fq];simp[pr]
  rw[this]
  show _=some (Out.nx [I a,I b,I x,I y,some (.m ((pr pre++_).map ec)),I j])
  rw[eB]
 obtain⟨t7,e,o,ho,rfl⟩:=lp
 unfold CY
 refine AV (τ:=st (shf a b x y) o) ?_ rfl rfl
 exact(AE (t4:=st [] none) rfl).trans ((AE ((BN (Eb (n:=b) (t4:=st [] none) rfl (by omega) (by omega))).trans e)).trans rfl)
section
variable {rs:List Rz}
abbrev RW(rs:List Rz):PyData:=.list (rs.map eZ)
abbrev NL(l:List Tx):PyData:=.list (l.map eT)
theorem Hu(r:Rz):Bf [.d (eZ r)]=some (.bool (decide (4<=kz r.d)),[.d (eZ r)]):=by
 let τ:DS:=[some (.d (eZ r))]
 unfold Bf
 refine AV (τ:=τ) (AZ (oQ (eT (kS (kz r.d))) (.tuple (KH.map eT)) τ (cQ τ [eZ r] rfl rfl (Ho r)) rfl ?_)) rfl rfl
 rw[inT]
 congr 3
 exact propext (M7 (C1 _))
theorem O8{q:Int}(q0:0<=q)(q3:q<=3)(f:Bool)(x y:Int):∃ls,BV [.d (ec (x,y)),.d (.int q),.d (.bool f)]=some (ec (qb q f (x,y)),ls):=by
 have:q=0\/q=1\/q=2\/q=3:=by omega
 rcases this with rfl|rfl|rfl|rfl<;>cases f
 ·exact⟨_,rfl⟩
 ·exact⟨_,rfl⟩
 ·refine⟨[.d (ec (x,y)),.d (.int 1),.d (.bool false)],(show BV [.d (ec (x,y)),.d (.int 1),.d (.bool false)]=some (ec (- -y,-x),[.d (ec (x,y)),.d (.int 1),.d (.bool false)]) from rfl).trans ?_⟩
  rw[Int.neg_neg];rfl
 ·refine⟨[.d (ec (x,y)),.d (.int 1),.d (.bool true)],(show BV [.d (ec (x,y)),.d (.int 1),.d (.bool true)]=some (ec (- - -y,-x),[.d (ec (x,y)),.d (.int 1),.d (.bool true)]) from rfl).trans ?_⟩
  rw[Int.neg_neg];rfl
 ·exact⟨_,rfl⟩
 ·exact⟨_,rfl⟩
 ·exact⟨_,rfl⟩
 ·exact⟨_,rfl⟩
theorem Oh{r:Rz}(ok:Em r.d)(x y:Int):∃ls,BU [.d (eZ r),.d (.int x),.d (.int y)]=some (.list ((Az r.d x y).map ec),ls):=by
 let X:Option L:=some (.d (.int x))
 let Y:Option L:=some (.d (.int y))
 let K:Option L:=some (.d (eT (kS (kz r.d))))
 let D:Option L:=some (.d (eD r.d))
 let st:Option L->DS:=fun o=>[some (.d (eZ r)),X,Y,K,D,o]
 let τ:=st none
 have sp:∀{j:Nat} {a:DB},j<10->kz r.d≠j->AR (AI (dOp fEq (AB 3) (dC (eT (kS j))))) a AU τ=some (.nx τ):=fun {j a} hj hn=>by
  refine(As (t4:=τ) (tst (oQ (eT (kS (kz r.d))) (eT (kS j)) τ rfl rfl ?_))).trans rfl
  rw[Kq (C1 _) hj,decide_eq_false hn]
 have tp:∀{j:Nat} {a:DB},j<10->kz r.d=j->AR (AI (dOp fEq (AB 3) (dC (eT (kS j))))) a AU τ=a τ:=fun {j a} hj hn=>by
  refine Au (t4:=τ) (tst (oQ (eT (kS (kz r.d))) (eT (kS j)) τ rfl rfl ?_))
  rw[Kq (C1 _) hj,decide_eq_true hn]
 have hp:∀{d:PyData} {o:Option L} {B:DB},B τ=some (.rt d (st o))->Aa true 3 3 (AM (AN (AH Ao (AA (AB 0) AD)) (dN 3)) (AM (AN (AH Ax (AA (AB 0) AD)) (dN 4)) B)) [.d (eZ r),.d (.int x),.d (.int y)]=some (d,[.d (eZ r),.d (.int x),.d (.int y)]):=fun {d o B} h =>
  AV (τ:=st o) ((AE (t4:=[some (.d (eZ r)),X,Y,K,none,none]) (AX (cQ [some (.d (eZ r)),X,Y,none,none,none] [eZ r] rfl rfl (Ho r)) rfl)).trans ((AE (t4:=τ) (AX (cQ [some (.d (eZ r)),X,Y,K,none,none] [eZ r] rfl rfl (GS r)) rfl)).trans h)) rfl rfl
 have pI:∀{k:Int} {v:PyData},AK (eD r.d) (.int k)=some v->dOp AK (AB 4) (dC (.int k)) τ=some (v,τ):=fun {k v} q=>oQ (eD r.d) (.int k) τ rfl rfl q
 have oth:kz r.d≠6->kz r.d≠7->kz r.d≠8->Az r.d x y=[(x,y)]->BU [.d (eZ r),.d (.int x),.d (.int y)]=some (.list ((Az r.d x y).map ec),[.d (eZ r),.d (.int x),.d (.int y)]):=fun h6 h7 h8 e=>by
  rw[e]
  exact hp (o:=none) ((AE (sp (j:=6) (by decide) h6)).trans ((AE (sp (j:=7) (by decide) h7)).trans ((AE (sp (j:=8) (by decide) h8)).trans rfl)))
 refine⟨[.d (eZ r),.d (.int x),.d (.int y)],?_⟩
 obtain⟨d,hd⟩:∃d,r.d=d:=⟨_,rfl⟩
 cases d with
 |window w h a b =>
  have k0:kz r.d=6:=by rw[hd];rfl
  have i0:AK (eD r.d) (.int 0)=some (.int w):=by rw[hd];rfl
  have i1:AK (eD r.d) (.int 1)=some (.int h):=by rw[hd];rfl
  have i2:AK (eD r.d) (.int 2)=some (.int a):=by rw[hd];rfl
  have i3:AK (eD r.d) (.int 3)=some (.int b):=by rw[hd];rfl
  let t:DS:=[some (.d (.int w)),some (.d (.int h)),X,Y]
  have e:Az r.d x y=if ((decide (0<=x)&&decide (x<w))&&(decide (0<=y)&&decide (y<h)))=true then [(x+a,y+b)] else []:=by rw[hd];rfl
  have tt:AI (AH D0 (AA (dOp AK (AB 4) (dC (.int 0))) (AA (dOp AK (AB 4) (dC (.int 1))) (AA (AB 1) (AA (AB 2) AD))))) τ=some ((decide (0<=x)&&decide (x<w))&&(decide (0<=y)&&decide (y<h)),τ) :=
   tst (cQ τ [.int w,.int h,.int x,.int y] (acc (pI i0) (acc (pI i1) rfl)) rfl (AV (τ:=t) (AZ (Lw (τ:=t) (chn (τ:=t) rfl rfl rfl) fun _=>chn (τ:=t) rfl rfl rfl)) rfl rfl))
  rw[e]
  refine hp (o:=none) (Ad ((tp (j:=6) (by decide) k0).trans (AZ ?_)))
  unfold dIf
  rw[tt]
  cases ((decide (0<=x)&&decide (x<w))&&(decide (0<=y)&&decide (y<h))) with
  |false=>rfl
  |true =>
   show Bw (AA (AY (AA (dOp Af (AB 1) (dOp AK (AB 4) (dC (.int 2)))) (AA (dOp Af (AB 2) (dOp AK (AB 4) (dC (.int 3)))) AD))) AD) τ=_
   have c2:AY (AA (dOp Af (AB 1) (dOp AK (AB 4) (dC (.int 2)))) (AA (dOp Af (AB 2) (dOp AK (AB 4) (dC (.int 3)))) AD)) τ=some (ec (x+a,y+b),τ):=Eo (rs:=[.d (.int (x+a)),.d (.int (y+b))]) (acc (oQ (.int x) (.int a) τ rfl (pI i2) rfl) (acc (oQ (.int y) (.int b) τ rfl (pI i3) rfl) rfl)) rfl (by show 2<=1000;decide)
   unfold Bw
   rw[acc c2 rfl];rfl
 |turn q f =>
  have k0:kz r.d=7:=by rw[hd];rfl
  rw[hd]at ok
  have i0:AK (eD r.d) (.int 0)=some (.int q):=by rw[hd];rfl
  have i1:AK (eD r.d) (.int 1)=some (.bool f):=by rw[hd];rfl
  obtain⟨ls,eq⟩:=O8 ok.1 ok.2 f x y
  have e:Az r.d x y=[qb q f (x,y)]:=by rw[hd];rfl
  rw[e]
  refine hp (o:=none) ((AE (sp (j:=6) (by decide) (by omega))).trans (Ad ((tp (j:=7) (by decide) k0).trans (AZ ?_))))
  unfold Bw
  rw[acc (cQ τ [ec (x,y),.int q,.bool f] (acc (t4:=τ) rfl (acc (pI i0) (acc (pI i1) rfl))) rfl eq) rfl];rfl
 |tiles a b u v =>
  have k0:kz r.d=8:=by rw[hd];rfl
  rw[hd]at ok
  obtain⟨a1,a3,b1,b3,ab,_⟩:=ok
  have i0:AK (eD r.d) (.int 0)=some (.int a):=by rw[hd];rfl
  have i1:AK (eD r.d) (.int 1)=some (.int b):=by rw[hd];rfl
  have i2:AK (eD r.d) (.int 2)=some (.int u):=by rw[hd];rfl
  have i3:AK (eD r.d) (.int 3)=some (.int v):=by rw[hd];rfl
  have e:Az r.d x y=(shf a b u v).map fun p=>(x-p.1,y-p.2):=by rw[hd];rfl
  let S:Option L:=some (.d (.list ((shf a b u v).map ec)))
  rw[e]
  refine hp (o:=S) ((AE (sp (j:=6) (by decide) (by omega))).trans ((AE (sp (j:=7) (by decide) (by omega))).trans (Ad ((tp (j:=8) (by decide) k0).trans ?_))))
  refine(AE (t4:=st S) (AX (cQ τ [.int a,.int b,.int u,.int v] (acc (pI i0) (acc (pI i1) (acc (pI i2) (acc (pI i3) rfl)))) rfl (Q6 a1 a3 b1 b3)) rfl)).trans (AZ ?_)
  have:=cj (f1:=fun q:Cl=>.int q.1) (f2:=fun q=>.int q.2) (rs:=shf a b u v) (τ:=st S) (fr:=[1,2]) (ex:=[X,Y]) (it:=dIL (AB 5)) (c:=Cu) (e:=AY (AA (dOp Am (AB 2) (AB 0)) (AA (dOp Am (AB 3) (AB 1)) AD))) (fun _=>true) (fun q=>ec (x-q.1,y-q.2)) rfl (by have:=SN (x:=u) (y:=v) a1 b1 ab;omega) rfl rfl (fun _ _=>rfl) (fun q _ _=>rfl)
  rw[Ek]at this
  rw[fD]
  exact this
 |_=>exact oth (by rw[hd];simp[kz]) (by rw[hd];simp[kz]) (by rw[hd];simp[kz]) (by rw[hd];rfl)
theorem Li{r:Rz}(ok:Em r.d)(hk:kz r.d<4)(x y:Int):∃ls,CB [.d (eZ r),.d (.int x),.d (.int y)]=some (NL (lfN r x y),ls):=by
 obtain⟨⟨ls,eh⟩,_⟩:=Kx ok hk x y
 obtain⟨i1,i2⟩:=Hf hk
 let st:Option L->DS:=fun o=>[some (.d (eZ r)),some (.d (.int x)),some (.d (.int y)),o]
 let B:Option L:=some (.d (.bool (!decide ((Ae r.d).2=(0,1)))))
 refine⟨[.d (eZ r),.d (.int x),.d (.int y)],?_⟩
 have x1:dOp AK (AH Ax (AA (AB 0) AD)) (dUn Bm (dC (.int 1))) (st none)=some (ec (Ae r.d).2,st none):=oQ (eD r.d) (.int (-1)) (st none) (cQ (st none) [eZ r] rfl rfl (GS r)) rfl i2
 unfold CB
 refine AV (τ:=st B) ((AE (t4:=st B) (AX (op2 (y:=ec (0,1)) (l7:=st none) x1 rfl (encC.fNe _ _)) rfl)).trans (AZ ?_)) rfl rfl
 have t:=LN (τ:=st B) (a:=AI (AB 3)) (b:=AI (AH BS (AA (AB 0) (AA (AB 1) (AA (AB 2) AD))))) (p:=!decide ((Ae r.d).2=(0,1))) (q:=Gm r x y) rfl (tst (cQ (st B) [eZ r,.int x,.int y] rfl rfl eh))
 unfold dIf
 rw[t]
 unfold lfN
 by_cases h1:(Ae r.d).2=(0,1)
 ·rw[decide_eq_true h1,if_neg (fun w=>w.1 h1)];rfl
 ·rw[decide_eq_false h1]
  cases h2:Gm r x y with
  |false=>rw[if_neg (fun w=>by cases w.2)];rfl
  |true =>
   rw[if_pos ⟨h1,rfl⟩]
   show Bw (AA (AH B3 (AA (AB 0) AD)) AD) (st B)=_
   unfold Bw
   rw[acc (cQ (st B) [eZ r] rfl rfl (Fh r)) rfl];rfl
theorem OW{α:Type}{f:α->List Tx}{l pre post:List α}{a:α}(e:l=pre++a::post)(h:(l.flatMap f).length<=900):(pre.flatMap f).length+(f a).length<=900:=by
 rw[e,fq,gg,L',L']at h;omega
theorem K8{f:NF}{ks:List Rz}{x y:Int}{M0 M1 M2 M3:Mir}(hz:(ctN f ks x y).length<=900)(hM:∀k∈ks,∀x y,∃ls,M2 [.d (RW rs),.d (eZ k),.d (.int x),.d (.int y)]=some (NL (f k x y),ls)) :
  CJ M0 M1 M2 M3 [.d (RW rs),.d (RW ks),.d (.int x),.d (.int y)]=some (NL (ctN f ks x y),[.d (RW rs),.d (RW ks),.d (.int x),.d (.int y)]):=by
 let X:Option L:=some (.d (.int x))
 let Y:Option L:=some (.d (.int y))
 let st:List Tx->Option L->DS:=fun a o=>[some (.d (RW rs)),some (.d (RW ks)),X,Y,some (.m (a.map eT)),o]
 let g:Rz->List Tx:=fun k=>if k.s=true then f k (x-k.x) (y-k.y) else []
 let BD:DB:=AR (AI (AH Be (AA (AB 5) AD))) (A3 (dMt 4 BZ (AA (AH M2 (AA (AB 0) (AA (AB 5) (AA (dOp Am (AB 2) (AH DU (AA (AB 5) AD))) (AA (dOp Am (AB 3) (AH DR (AA (AB 5) AD))) AD))))) AD))) AU
 have lp:∃t7,Ay (dN 5) BD (ks.reverse.map eZ) (st [] none)=some (.nx t7)/\∃o,nM o/\t7=st (ctN f ks x y) o:=by
  refine A1 (fun(pre:List Rz) τ=>∃o,nM o/\τ=st (pre.flatMap g) o) ⟨none,Ai,rfl⟩ ?_
  rintro pre k post τ e ⟨o,ho,rfl⟩
  have hk:k∈ks:=V'.mp (by rw[e];simp)
  have hl:=OW (f:=g) e hz
  let A:=pre.flatMap g
  let t4:=st A (some (.d (eZ k)))
  have t:AI (AH Be (AA (AB 5) AD)) t4=some (k.s,t4):=tst (cQ t4 [eZ k] rfl rfl (show Be [.d (eZ k)]=some (.bool k.s,[.d (eZ k)]) from rfl))
  refine⟨t4,st (A++g k) (some (.d (eZ k))),BE (o:=o) rfl ho,?_,some (.d (eZ k)),BC,?_⟩
  ·show AR _ _ _ t4=_
   have eg:g k=if k.s=true then f k (x-k.x) (y-k.y) else []:=rfl
   rw[eg]at hl ⊢
   cases hs:k.s with
   |false =>
    rw[hs]at t
    rw[if_neg (by decide),dz]
    exact(As t).trans rfl
   |true =>
    rw[hs]at t
    rw[if_pos rfl]
    rw[hs,if_pos rfl]at hl
    obtain⟨ls,em⟩:=hM k hk (x-k.x) (y-k.y)
    have c1:AH M2 (AA (AB 0) (AA (AB 5) (AA (dOp Am (AB 2) (AH DU (AA (AB 5) AD))) (AA (dOp Am (AB 3) (AH DR (AA (AB 5) AD))) AD)))) t4=some (NL (f k (x-k.x) (y-k.y)),t4) :=
     cQ t4 [RW rs,eZ k,.int (x-k.x),.int (y-k.y)] (acc (t4:=t4) rfl (acc (t4:=t4) rfl (acc (oQ (.int x) (.int k.x) t4 rfl (cQ t4 [eZ k] rfl rfl (show DU [.d (eZ k)]=some (.int k.x,[.d (eZ k)]) from rfl)) rfl) (acc (oQ (.int y) (.int k.y) t4 rfl (cQ t4 [eZ k] rfl rfl (show DR [.d (eZ k)]=some (.int k.y,[.d (eZ k)]) from rfl)) rfl) rfl)))) rfl em
    have e3:=YJ (i:=4) (τ:=t4) (t4:=t4) (rs:=[.d (NL (f k (x-k.x) (y-k.y)))]) (xs:=A.map eT) (ys:=(f k (x-k.x) (y-k.y)).map eT) (acc (a:=AD) c1 rfl) rfl rfl (by rw[B',B'];exact hl)
    refine(Au t).trans (e3.trans ?_)
    rw[<- eB];rfl
  ·rw[fq,gh]
 obtain⟨t7,e,o,ho,rfl⟩:=lp
 have it:dIV (AB 1) (st [] none)=some (ks.reverse.map eZ,st [] none):=by
  rw[gL];rfl
 unfold CJ
 refine AV (τ:=st (ctN f ks x y) o) ?_ rfl rfl
 exact(AE (t4:=st [] none) rfl).trans ((AE ((BN it).trans e)).trans rfl)
theorem Hq(l:List Rz){τ:DS}{i:Nat}(h:τ[i]?=some (some (.d (RW l)))):dSl (AB i) CK (dPt (dC (.int 1))) τ=some (RW (l.take 1),τ)/\dSl (AB i) (dPt (dC (.int 1))) CK τ=some (RW l.tail,τ):=by
 have v:AB i τ=some (RW l,τ):=by unfold AB;rw[h]
 constructor
 ·unfold dSl
  rw[v]
  show some (PyData.list (Lq (l.map eZ) none (some ((1:Nat):Int))),τ)=_
  rw[Vm,<- List.map_take]
 ·unfold dSl
  rw[v]
  show some (PyData.list (Lq (l.map eZ) (some 1) none),τ)=_
  rw[YM,<- gs]
theorem UK(hl:rs.length<=30){f:NF}{r:Rz}(ok:Em r.d){x y:Int}{M0 M1 M2 M3:Mir}(hM:∃ls,M3 [.d (RW rs),.d (RW ((AO rs r.n).take 1)),.d (.int x),.d (.int y)]=some (NL (ctN f ((AO rs r.n).take 1) x y),ls)) :
  ∃ls,Cd M0 M1 M2 M3 [.d (RW rs),.d (eZ r),.d (.int x),.d (.int y)]=some (RW (Ht f r.d (AO rs r.n) x y),ls):=by
 obtain⟨lk,ek⟩:=EF hl r.n
 obtain⟨lm,em⟩:=hM
 let ks:=AO rs r.n
 let st:Option L->DS:=fun o=>[some (.d (RW rs)),some (.d (eZ r)),some (.d (.int x)),some (.d (.int y)),o]
 let τ:=st (some (.d (RW ks)))
 have s1:AN (AH BF (AA (AB 0) (AA (AH B3 (AA (AB 1) AD)) AD))) (dN 4) (st none)=some (.nx τ):=AX (cQ (st none) [RW rs,eT r.n] (acc (t4:=st none) rfl (acc (t4:=st none) (cQ (st none) [eZ r] rfl rfl (Fh r)) rfl)) rfl ek) rfl
 have kd:AH Ao (AA (AB 1) AD) τ=some (eT (kS (kz r.d)),τ):=cQ τ [eZ r] rfl rfl (Ho r)
 have dd:AH Ax (AA (AB 1) AD) τ=some (eD r.d,τ):=cQ τ [eZ r] rfl rfl (GS r)
 have g1:AI (dOp fEq (AH Ao (AA (AB 1) AD)) (dC (eT (kS 5)))) τ=some (decide (kz r.d=5),τ):=tst (op2 (y:=eT (kS 5)) kd rfl (Kq (C1 _) (by decide)))
 have g2 : AI (dOp fNe (AH Ao (AA (AB 1) AD)) (dC (eT (kS 9)))) τ = some (!decide (kz r.d = 9), τ) := tst (op2 (y := eT (kS 9)) kd rfl (by
  rw[aj]
  congr 4
  exact propext ⟨fun w=>IS (C1 _) (by decide) w,fun w=>by rw[w]⟩))
 refine⟨[.d (RW rs),.d (eZ r),.d (.int x),.d (.int y)],?_⟩
 unfold Cd
 refine AV (τ:=τ) ((AE s1).trans ?_) rfl rfl
 by_cases h5:kz r.d=5
 ·obtain⟨d,hd⟩:∃d,r.d=d:=⟨_,rfl⟩
  cases d with
  |glass p =>
   have i0:AK (eD r.d) (.int 0)=some (ec p):=by rw[hd];rfl
   have ek:Ht f r.d (AO rs r.n) x y=if p=(0,1) then [] else ks:=by rw[hd];rfl
   rw[decide_eq_true h5]at g1
   have g3:AI (dOp fEq (dOp AK (AH Ax (AA (AB 1) AD)) (dC (.int 0))) (AY (AA (dC (.int 0)) (AA (dC (.int 1)) AD)))) τ=some (decide (p=(0,1)),τ):=tst (op2 (y:=ec (0,1)) (l7:=τ) (op2 (y:=.int 0) (l7:=τ) dd rfl i0) rfl (encC.fEq _ _))
   have g4:=LN g1 g3
   rw[ek]
   by_cases h0:p=(0,1)
   ·rw[decide_eq_true h0]at g4
    rw[if_pos h0]
    exact Ad ((Au g4).trans rfl)
   ·rw[decide_eq_false h0]at g4
    rw[if_neg h0]
    rw[decide_eq_false (by omega)]at g2
    exact(AE ((As g4).trans rfl)).trans (Ad ((Au g2).trans rfl))
  |_=>rw[hd]at h5;simp[kz]at h5
 ·have g4:Av (AI (dOp fEq (AH Ao (AA (AB 1) AD)) (dC (eT (kS 5))))) (AI (dOp fEq (dOp AK (AH Ax (AA (AB 1) AD)) (dC (.int 0))) (AY (AA (dC (.int 0)) (AA (dC (.int 1)) AD))))) τ=some (false,τ):=by
   rw[decide_eq_false h5]at g1
   unfold Av
   rw[g1];rfl
  refine(AE ((As g4).trans rfl)).trans ?_
  by_cases h9:kz r.d=9
  ·have hd:r.d = .mask:=by
    generalize r.d=d at h9
    cases d<;>first|rfl|exact absurd h9 (by simp[kz])
   have ek:Ht f r.d (AO rs r.n) x y=if ctN f (ks.take 1) x y=[] then [] else ks.tail:=by rw[hd];rfl
   rw[decide_eq_true h9]at g2
   rw[ek]
   refine(AE ((As g2).trans rfl)).trans (AZ ?_)
   obtain⟨q1,q2⟩:=Hq ks (τ:=τ) (i:=4) rfl
   have c1:AH M3 (AA (AB 0) (AA (dSl (AB 4) CK (dPt (dC (.int 1)))) (AA (AB 2) (AA (AB 3) AD)))) τ=some (NL (ctN f (ks.take 1) x y),τ):=cQ τ [RW rs,RW (ks.take 1),.int x,.int y] (acc (t4:=τ) rfl (acc q1 rfl)) rfl em
   have t:AI (dOp fGt (Ah BO (AA (AH M3 (AA (AB 0) (AA (dSl (AB 4) CK (dPt (dC (.int 1)))) (AA (AB 2) (AA (AB 3) AD))))) AD)) (dC (.int 0))) τ=some (decide ((0:Int)<((ctN f (ks.take 1) x y).map eT).length),τ):=tst (op2 (x:=.int ((ctN f (ks.take 1) x y).map eT).length) (y:=.int 0) (l7:=τ) (LF c1 rfl) rfl rfl)
   unfold dIf
   rw[t,B']
   by_cases h0:ctN f (ks.take 1) x y=[]
   ·rw[if_pos h0,h0];rfl
   ·rw[if_neg h0,decide_eq_true (by have:=List.length_pos_iff.mpr h0;omega)]
    exact q2
  ·have ek:Ht f r.d (AO rs r.n) x y=ks:=by
    generalize r.d=d at h5 h9
    cases d<;>first|rfl|exact absurd rfl h5|exact absurd rfl h9
   rw[decide_eq_false h9]at g2
   rw[ek]
   exact Ad ((Au g2).trans rfl)
theorem Rh{f:NF}{r:Rz}(ok:Em r.d){ks:List Rz}{x y:Int}{M0 M1 M2 M3:Mir}(hz:(hlN f r ks x y).length<=900)(h0:∃ls,M0 [.d (RW rs),.d (eZ r),.d (.int x),.d (.int y)]=some (RW (Ht f r.d ks x y),ls))(hM:∀x' y',∃ls,(ctN f (Ht f r.d ks x y) x' y').length<=900->M3 [.d (RW rs),.d (RW (Ht f r.d ks x y)),.d (.int x'),.d (.int y')]=some (NL (ctN f (Ht f r.d ks x y) x' y'),ls)) :
  ∃ls,Cb M0 M1 M2 M3 [.d (RW rs),.d (eZ r),.d (.int x),.d (.int y)]=some (NL (hlN f r ks x y),ls):=by
 obtain⟨l0,e0⟩:=h0
 obtain⟨lc,ecc⟩:=Oh ok x y
 let kk:=Ht f r.d ks x y
 let g:Cl->List Tx:=fun c=>ctN f kk c.1 c.2
 let st:Option L->Option L->Option L->DS:=fun k a o=>[some (.d (RW rs)),some (.d (eZ r)),some (.d (.int x)),some (.d (.int y)),k,a,o]
 let K:Option L:=some (.d (RW kk))
 let A:List Tx->Option L:=fun a=>some (.m (a.map eT))
 have lp:∃t7,Ay (dN 6) (A3 (dMt 5 BZ (AA (AH M3 (AA (AB 0) (AA (AB 4) (AA (dOp AK (AB 6) (dC (.int 0))) (AA (dOp AK (AB 6) (dC (.int 1))) AD))))) AD))) ((Az r.d x y).reverse.map ec) (st K (A []) none)=some (.nx t7)/\∃o,nM o/\t7=st K (A (hlN f r ks x y)) o:=by
  refine A1 (fun(pre:List Cl) τ=>∃o,nM o/\τ=st K (A (pre.flatMap g)) o) ⟨none,Ai,rfl⟩ ?_
  rintro pre c post τ e ⟨o,ho,rfl⟩
  have hl:=OW (f:=g) e hz
  obtain⟨ls,em⟩:=hM c.1 c.2
  have em:=em (show(g c).length<=900 by omega)
  let a:=pre.flatMap g
  let t4:=st K (A a) (some (.d (ec c)))
  have c1:AH M3 (AA (AB 0) (AA (AB 4) (AA (dOp AK (AB 6) (dC (.int 0))) (AA (dOp AK (AB 6) (dC (.int 1))) AD)))) t4=some (NL (g c),t4):=cQ t4 [RW rs,RW kk,.int c.1,.int c.2] rfl rfl em
  have e3:=YJ (i:=5) (τ:=t4) (t4:=t4) (rs:=[.d (NL (g c))]) (xs:=a.map eT) (ys:=(g c).map eT) (acc (a:=AD) c1 rfl) rfl rfl (by rw[B',B'];exact hl)
  refine⟨t4,st K (A (a++g c)) (some (.d (ec c))),BE (o:=o) rfl ho,?_,some (.d (ec c)),BC,?_⟩
  ·refine e3.trans ?_
   rw[<- eB];rfl
  ·rw[fq,gh]
 obtain⟨t7,e,o,ho,rfl⟩:=lp
 have it:dIV (AH BU (AA (AB 1) (AA (AB 2) (AA (AB 3) AD)))) (st K (A []) none)=some ((Az r.d x y).reverse.map ec,st K (A []) none):=by
  unfold dIV
  rw[cQ (st K (A []) none) [eZ r,.int x,.int y] rfl rfl ecc,gL];rfl
 refine⟨[.d (RW rs),.d (eZ r),.d (.int x),.d (.int y)],?_⟩
 unfold Cb
 refine AV (τ:=st K (A (hlN f r ks x y)) o) ?_ rfl rfl
 refine(AE (t4:=st K none none) (AX (cQ (st none none none) [RW rs,eZ r,.int x,.int y] rfl rfl e0) rfl)).trans ?_
 exact(AE (t4:=st K (A []) none) rfl).trans ((AE ((BN it).trans e)).trans rfl)
theorem VD{f:NF}{r:Rz}(ok:Em r.d){ks:List Rz}{x y:Int}{M0 M1 M2 M3:Mir}(hM:4<=kz r.d->∃ls,M1 [.d (RW rs),.d (eZ r),.d (.int x),.d (.int y)]=some (NL (hlN f r ks x y),ls)) :
  ∃ls,DJ M0 M1 M2 M3 [.d (RW rs),.d (eZ r),.d (.int x),.d (.int y)]=some (NL (ptN f r ks x y),ls):=by
 let τ:DS:=[some (.d (RW rs)),some (.d (eZ r)),some (.d (.int x)),some (.d (.int y))]
 have t:AI (AH Bf (AA (AB 1) AD)) τ=some (decide (4<=kz r.d),τ):=tst (cQ τ [eZ r] rfl rfl (Hu r))
 refine⟨[.d (RW rs),.d (eZ r),.d (.int x),.d (.int y)],?_⟩
 unfold DJ
 refine AV (τ:=τ) (AZ (t4:=τ) ?_) rfl rfl
 show dIf (AI (AH Bf (AA (AB 1) AD))) (AH M1 (AA (AB 0) (AA (AB 1) (AA (AB 2) (AA (AB 3) AD))))) (AH CB (AA (AB 1) (AA (AB 2) (AA (AB 3) AD)))) τ=_
 unfold dIf ptN
 rw[t]
 by_cases h:4<=kz r.d
 ·rw[decide_eq_true h,if_pos h]
  obtain⟨ls,e⟩:=hM h
  show AH M1 (AA (AB 0) (AA (AB 1) (AA (AB 2) (AA (AB 3) AD)))) τ=_
  exact cQ τ [RW rs,eZ r,.int x,.int y] rfl rfl e
 ·rw[decide_eq_false h,if_neg h]
  obtain⟨ls,e⟩:=Li ok (by omega) x y
  show AH CB (AA (AB 1) (AA (AB 2) (AA (AB 3) AD))) τ=_
  exact cQ τ [eZ r,.int x,.int y] rfl rfl e
theorem OC(ok:OkZ rs)(vt:VtR rs.reverse)(hl:rs.length<=24):∀(n m:Nat) (r:Rz),Lv rs n r->4*n<=m->∀x y,∃ls,AJ m 2 [.d (RW rs),.d (eZ r),.d (.int x),.d (.int y)]=some (NL (Ba rs n r x y),ls)
 |0,_,_,h,_,_,_=>by obtain⟨_,_,_,z⟩:=h;exact absurd z (eP _)
 |n+1,m,r,h,hm,x,y=>by
  obtain⟨m',rfl⟩:∃m',m=m'+4:=⟨m-4,by omega⟩
  have hr:=Pa h
  have okd:=(ok.all r (V'.mpr hr)).d
  have hin:∀k∈AO rs r.n,k∈rs:=fun k hk=>(W'.mp hk).1
  have hlen:=Jm ok (n+1) r hr x y
  have hc:=MZ ok vt h
  have hlen:(ptN (Ba rs n) r (AO rs r.n) x y).length<=900:=by
   have:(Ba rs (n+1) r x y).length<=900:=by omega
   exact this
  refine VD (M0:=AJ (m'+3) 0) (M1:=AJ (m'+3) 1) (M2:=AJ (m'+3) 2) (M3:=AJ (m'+3) 3) okd fun h4=>?_
  have hcs:((AO rs r.n).map (CU rs n)).sum<=900:=by
   have e:CU rs (n+1) r=DK r ((AO rs r.n).map (CU rs n)).sum:=rfl
   rw[e]at hc
   unfold DK EW at hc
   rw[if_pos h4]at hc
   split at hc<;>omega
  have cb:∀{ks:List Rz},ks.Sublist (AO rs r.n)->∀x y,(ctN (Ba rs n) ks x y).length<=900:=fun {ks} hs x y=>by
   have h1:=NI (f:=Ba rs n) (c:=CU rs n) (ks:=ks) (x:=x) (y:=y) (fun k hk=>Jm ok n k (hin k (hs.subset hk)))
   have h2:=Jg (c:=CU rs n) hs
   omega
  have hct:∀(M:Nat),4*n<=M->∀(ks:List Rz),ks.Sublist (AO rs r.n)->∀x' y',∃ls,AJ (M+1) 3 [.d (RW rs),.d (RW ks),.d (.int x'),.d (.int y')]=some (NL (ctN (Ba rs n) ks x' y'),ls):=fun M hM ks hs x' y' =>
   ⟨_,K8 (M0:=AJ M 0) (M1:=AJ M 1) (M2:=AJ M 2) (M3:=AJ M 3) (cb hs x' y') (fun k hk=>OC ok vt hl n M k (Pc ok h (hs.subset hk)) hM)⟩
  have e4:ptN (Ba rs n) r (AO rs r.n) x y=hlN (Ba rs n) r (AO rs r.n) x y:=if_pos h4
  rw[e4]at hlen
  refine Rh (M0:=AJ (m'+2) 0) (M1:=AJ (m'+2) 1) (M2:=AJ (m'+2) 2) (M3:=AJ (m'+2) 3) okd hlen (UK (M0:=AJ (m'+1) 0) (M1:=AJ (m'+1) 1) (M2:=AJ (m'+1) 2) (M3:=AJ (m'+1) 3) (by omega) okd (hct m' (by omega) _ (fG _ _) x y)) fun x' y'=>?_
  obtain⟨ls,e⟩:=hct (m'+1) (by omega) _ (Hr (Ba rs n) r.d (AO rs r.n) x y) x' y'
  exact⟨ls,fun _=>e⟩
end
def eO:Option Sp->PyData
 |none=>.none
 |some s=>esp s
abbrev SF:=Rz->Int->Int->Option Sp
def ctV(f:SF)(ks:List Rz)(x y:Int):Option Sp:=ks.foldl (fun a k=>if k.s=true then C0 (f k (x-k.x) (y-k.y)) a else a) none
def clV(f:SF)(ks:List Rz)(cs:List Cl):Option Sp:=cs.foldl (fun a c=>C0 (ctV f ks c.1 c.2) a) none
def lfV(r:Rz)(x y:Int):Option Sp:=if (Ae r.d).2≠(0,1)/\Gm r x y=true then some (FQ (Ae r.d).1 (Ae r.d).2,(Ae r.d).2) else none
def hlV(f:SF)(r:Rz)(ks:List Rz)(x y:Int):Option Sp:=match r.d with
 |.glass p=>if p=(0,1) then none else (ctV f ks x y).map fun s=>shS s p
 |.mask=>(ctV f (ks.take 1) x y).bind fun t=>(ctV f ks.tail x y).map fun s=>shS s t.2
 |d=>clV f ks (Az d x y)
def ptV(f:SF)(r:Rz)(ks:List Rz)(x y:Int):Option Sp:=if 4<=kz r.d then hlV f r ks x y else lfV r x y
def spS(rs:List Rz):Nat->SF
 |0=>fun _ _ _=>none
 |n+1=>fun r x y=>ptV (spS rs n) r (AO rs r.n) x y
def WV(c:Nat)(o:Option Sp):Prop:=∀s,o=some s->Wt (20*c) s
theorem WV.nil(c:Nat):WV c none:=fun s e=>by cases e
theorem WV.mono{a b:Nat}{o:Option Sp}(h:WV a o)(k:a<=b):WV b o:=fun s e=>(h s e).mono (by omega)
theorem WV.lay{a b:Nat}{p o:Option Sp}(h:WV a p)(k:WV b o):WV (a+b) (C0 p o):=by
 cases p with
 |none=>exact k.mono (by omega)
 |some s =>
  cases o with
  |none=>exact h.mono (by omega)
  |some t =>
   intro u e
   cases e
   exact((h s rfl).over (k t rfl)).mono (by omega)
theorem GP(o:Option Sp):C0 o none=o:=by cases o<;>rfl
theorem Fz(f:SF)(pre:List Rz)(k:Rz)(x y:Int):ctV f (pre++[k]) x y=if k.s=true then C0 (f k (x-k.x) (y-k.y)) (ctV f pre x y) else ctV f pre x y:=by
 unfold ctV
 rw[List.foldl_append];rfl
theorem Dq(f:SF)(ks:List Rz)(cs:List Cl)(c:Cl):clV f ks (cs++[c])=C0 (ctV f ks c.1 c.2) (clV f ks cs):=by
 unfold clV
 rw[List.foldl_append];rfl
theorem Di{α:Type}{P:List α->Prop}(h0:P [])(h:∀l a,P l->P (l++[a]))(l:List α):P l:=by
 have:∀r:List α,P r.reverse:=by
  intro r
  induction r with
  |nil=>exact h0
  |cons a r ih=>rw[List.reverse_cons];exact h _ _ ih
 have:=this l.reverse
 rwa [List.reverse_reverse]at this
theorem K7{f:SF}{c:Rz->Nat}{ks:List Rz}(x y:Int)(h:∀k∈ks,∀x y,WV (c k) (f k x y)):WV (ks.map c).sum (ctV f ks x y):=by
 induction ks using Di with
 |h0=>exact WV.nil _
 |h l k ih =>
  rw[Fz,eB,iL]
  have i:=ih fun q hq=>h q (dY _ hq)
  have hk:=h k (by simp)
  have e:([k].map c).sum=c k:=by simp
  rw[e]
  split
  ·exact((hk _ _).lay i).mono (by omega)
  ·exact i.mono (by omega)
theorem Ym{f:SF}{S:Nat}{ks:List Rz}(cs:List Cl)(h:∀x y,WV S (ctV f ks x y)):WV (cs.length*S) (clV f ks cs):=by
 induction cs using Di with
 |h0=>exact WV.nil _
 |h l c ih =>
  rw[Dq,L',gk,Nat.add_mul,Nat.one_mul]
  exact((h _ _).lay ih).mono (by omega)
theorem cN{f:SF}{c:Rz->Nat}{r:Rz}{ks:List Rz}(ok:Em r.d)(h:∀k∈ks,∀x y,WV (c k) (f k x y))(x y:Int):WV (DK r (ks.map c).sum) (ptV f r ks x y):=by
 unfold ptV DK
 have hc:∀x y,WV (ks.map c).sum (ctV f ks x y):=fun x y=>K7 x y h
 by_cases h4:4<=kz r.d
 ·rw[if_pos h4,if_pos h4]
  have gen:hlV f r ks x y=clV f ks (Az r.d x y)->WV (EW r.d (ks.map c).sum) (hlV f r ks x y):=fun e=>by
   rw[e]
   have w:=Ym (Az r.d x y) hc
   unfold EW
   by_cases h8:kz r.d=8
   ·rw[if_pos h8]
    have:(Az r.d x y).length*(ks.map c).sum<=4*(ks.map c).sum:=eI _ (NM ok h8 x y)
    exact w.mono (by omega)
   ·rw[if_neg h8]
    have:(Az r.d x y).length*(ks.map c).sum<=1*(ks.map c).sum:=eI _ (IX h8 x y)
    exact w.mono (by omega)
  obtain⟨d,hd⟩:∃d,r.d=d:=⟨_,rfl⟩
  cases d with
  |glass p =>
   have e:hlV f r ks x y=if p=(0,1) then none else (ctV f ks x y).map fun s=>shS s p:=by unfold hlV;rw[hd]
   have ed:EW r.d (ks.map c).sum=(ks.map c).sum+1:=if_neg (by rw[hd];show(5:Nat)≠8;decide)
   rw[hd]at ok
   rw[e,ed]
   split
   ·exact WV.nil _
   ·rename_i hp
    intro s es
    obtain⟨s0,e0,rfl⟩:=oM es
    exact((hc x y s0 e0).shq ok hp).mono (by omega)
  |mask =>
   have e:hlV f r ks x y=(ctV f (ks.take 1) x y).bind fun t=>(ctV f ks.tail x y).map fun s=>shS s t.2:=by unfold hlV;rw[hd]
   have ed:EW r.d (ks.map c).sum=(ks.map c).sum+1:=if_neg (by rw[hd];show(9:Nat)≠8;decide)
   rw[e,ed]
   intro s es
   obtain⟨t,et,es⟩:=oB es
   obtain⟨s0,e0,rfl⟩:=oM es
   have w1:=K7 (c:=c) (ks:=ks.take 1) x y (fun k hk=>h k (fY hk)) t et
   have w2:=K7 (c:=c) (ks:=ks.tail) x y (fun k hk=>h k (gw hk)) s0 e0
   have hs:((ks.take 1).map c).sum+(ks.tail.map c).sum=(ks.map c).sum:=by cases ks<;>simp
   exact(w2.shs w1).mono (by omega)
  |_=>exact gen (by unfold hlV;rw[hd])
 ·rw[if_neg h4,if_neg h4]
  unfold lfV
  split
  ·rename_i hp
   intro s e
   cases e
   obtain⟨o1,o2⟩:=He ok (by omega)
   obtain⟨u1,p1,q1,e1,f1,g1,i1,m1,_⟩:=Kj o1
   obtain⟨u2,p2,q2,e2,f2,g2,i2,m2,n2⟩:=Kj o2
   refine⟨(u1*u2,u2),q1*q2,?_,⟨p1*p2,q1*p2,?_,?_,eI _ g1,gz _ g2,fz i1 (n2 hp.1)⟩,?_⟩
   ·rw[e1,e2,IP];rfl
   ·push_cast;grind
   ·push_cast;grind
   ·have:q1*q2<=1000*1000:=fO m1 m2
    have:(1000*1000:Nat)<2 ^ (20*1):=by decide
    omega
  ·exact WV.nil _
theorem Na{rs:List Rz}(ok:OkZ rs):∀(n:Nat) (r:Rz),r∈rs->∀x y,WV (CU rs n r) (spS rs n r x y)
 |0,_,_,_,_=>WV.nil _
 |n+1,r,hr,x,y=>cN (ok.all r (V'.mpr hr)).d (fun k hk=>Na ok n k (W'.mp hk).1) x y
def ne(l:List Tx):Bool:=!l.isEmpty
theorem TU(a b:List Tx):ne (a++b)=(ne a||ne b):=by cases a<;>rfl
theorem ne_nil{l:List Tx}:ne l=false↔l=[]:=by cases l<;>simp[ne]
theorem MH(p o:Option Sp):(C0 p o).isSome=(p.isSome||o.isSome):=by cases p<;>cases o<;>rfl
theorem MM{f:SF}{g:NF}{ks:List Rz}(x y:Int)(h:∀k∈ks,∀x y,(f k x y).isSome=ne (g k x y)):(ctV f ks x y).isSome=ne (ctN g ks x y):=by
 induction ks using Di with
 |h0=>rfl
 |h l k ih =>
  have i:=ih fun q hq=>h q (dY _ hq)
  have hk:=h k (by simp)
  rw[Fz,UE,TU]
  by_cases hs:k.s=true
  ·rw[if_pos hs,if_pos hs,MH,i,hk]
  ·rw[if_neg hs,if_neg hs,i];rfl
theorem bN{f:SF}{g:NF}{ks:List Rz}(cs:List Cl)(h:∀x y,(ctV f ks x y).isSome=ne (ctN g ks x y)):(clV f ks cs).isSome=ne (cs.reverse.flatMap fun c=>ctN g ks c.1 c.2):=by
 induction cs using Di with
 |h0=>rfl
 |h l c ih=>rw[Dq,MH,fo,fR,fW,gg,TU,h,ih]
theorem Zy{f:SF}{g:NF}{r:Rz}{ks:List Rz}(x y:Int)(h:∀k∈ks,∀x y,(f k x y).isSome=ne (g k x y)):(ptV f r ks x y).isSome=ne (ptN g r ks x y):=by
 unfold ptV ptN
 by_cases h4:4<=kz r.d
 ·rw[if_pos h4,if_pos h4]
  obtain⟨d,hd⟩:∃d,r.d=d:=⟨_,rfl⟩
  unfold hlV hlN
  rw[hd]
  cases d with
  |glass p =>
   show(if p=(0,1) then none else (ctV f ks x y).map fun s=>shS s p).isSome=ne (ctN g (if p=(0,1) then [] else ks) x y++[])
   rw[dz]
   split
   ·rfl
   ·rw[gf];exact MM x y h
  |mask =>
   show((ctV f (ks.take 1) x y).bind fun t=>(ctV f ks.tail x y).map fun s=>shS s t.2).isSome=ne (ctN g (if ctN g (ks.take 1) x y=[] then [] else ks.tail) x y++[])
   rw[dz]
   have e1:=MM (ks:=ks.take 1) x y fun k hk=>h k (fY hk)
   have e2:=MM (ks:=ks.tail) x y fun k hk=>h k (gw hk)
   cases hc:ctV f (ks.take 1) x y with
   |none =>
    rw[hc]at e1
    rw[if_pos (ne_nil.mp e1.symm)];rfl
   |some t =>
    rw[hc]at e1
    rw[if_neg fun w=>by rw[w]at e1;cases e1]
    show((ctV f ks.tail x y).map fun s=>shS s t.2).isSome=_
    rw[gf];exact e2
  |_=>exact bN _ fun x y=>MM x y h
 ·rw[if_neg h4,if_neg h4]
  unfold lfV lfN
  split<;>rfl
theorem P9(rs:List Rz):∀(n:Nat) (r:Rz) (x y:Int),(spS rs n r x y).isSome=ne (Ba rs n r x y)
 |0,_,_,_=>rfl
 |n+1,r,x,y=>Zy x y fun k _=>P9 rs n k
def SpO(o:Option Sp)(X:Option (PyData×List L)):Prop:=∃ls:List L,X=some (eO o,ls)
theorem JL(o:Option Sp):Cs (eO o) .none=some (.bool (!o.isSome)):=by cases o<;>rfl
theorem TN(o:Option Sp):B6 (eO o) .none=some (.bool o.isSome):=by cases o<;>rfl
theorem Lz{i:Nat}{τ:DS}{d:PyData}(h:τ[i]?=some (some (.d d))):AB i τ=some (d,τ):=by unfold AB;rw[h]
def X0(i j:Nat):DB:=AM (AR (Av (AI (dOp B6 (AB i) (dC .none))) (AI (dOp B6 (AB j) (dC .none)))) (AN (AH Eh (AA (AB i) (AA (AB j) AD))) (dN i)) AU) (AR (AI (dOp B6 (AB i) (dC .none))) (AN (AB i) (dN j)) AU)
theorem Te{i j:Nat}{st:Option Sp->Option Sp->DS}(hi:∀o p,(st o p)[i]?=some (some (.d (eO p))))(hj:∀o p,(st o p)[j]?=some (some (.d (eO o))))(si:∀o p q,(st o p).set i (some (.d (eO q)))=st o q)(sj:∀o p q,(st o p).set j (some (.d (eO q)))=st q p){o p:Option Sp}{n m:Nat}(wo:WV n o)(wp:WV m p)(hz:m+n<=195):∃p',X0 i j (st o p)=some (.nx (st (C0 p o) p')):=by
 have ti:∀o p,AI (dOp B6 (AB i) (dC .none)) (st o p)=some (p.isSome,st o p):=fun o p=>tst (op2 (y:=.none) (l7:=st o p) (Lz (hi o p)) rfl (TN p))
 have tj:∀o p,AI (dOp B6 (AB j) (dC .none)) (st o p)=some (o.isSome,st o p):=fun o p=>tst (op2 (y:=.none) (l7:=st o p) (Lz (hj o p)) rfl (TN o))
 have ta:=LN (ti o p) (tj o p)
 have fin:∀o s,AR (AI (dOp B6 (AB i) (dC .none))) (AN (AB i) (dN j)) AU (st o (some s))=some (.nx (st (some s) (some s))):=fun o s=>(Au (ti o (some s))).trans (AX (Lz (hi o (some s))) (by rw[BE (hj o (some s)) BC,sj]))
 cases p with
 |none =>
  exact⟨none,(AE (t4:=st o none) ((As ta).trans rfl)).trans ((As (ti o none)).trans rfl)⟩
 |some s =>
  cases o with
  |none=>exact⟨some s,(AE (t4:=st none (some s)) ((As ta).trans rfl)).trans (fin none s)⟩
  |some t =>
   have hs:=wp s rfl
   have ht:=wo t rfl
   obtain⟨ls,eo⟩:=Uh hs ht (by omega)
   refine⟨some (JJ s t),(AE (t4:=st (some t) (some (JJ s t))) ((Au ta).trans (AX (cQ (st (some t) (some s)) [esp s,esp t] (acc (Lz (hi _ _)) (acc (Lz (hj _ _)) rfl)) rfl eo) ?_))).trans (fin (some t) _)⟩
   rw[BE (hi _ _) BC]
   exact congrArg some (si (some t) (some s) (some (JJ s t)))
theorem OI{rs ks:List Rz}{f:SF}{c:Rz->Nat}{M0 M1 M2 M3:Mir}(hz:(ks.map c).sum<=195)(hw:∀k∈ks,∀x y,WV (c k) (f k x y))(hM:∀k∈ks,∀x y,SpO (f k x y) (M2 [.d (RW rs),.d (eZ k),.d (.int x),.d (.int y)]))(x y:Int) :
  SpO (ctV f ks x y) (Cy M0 M1 M2 M3 [.d (RW rs),.d (RW ks),.d (.int x),.d (.int y)]):=by
 let X:Option L:=some (.d (.int x))
 let Y:Option L:=some (.d (.int y))
 let O:Option Sp->Option L:=fun o=>some (.d (eO o))
 let st:Option L->Option L->Option L->DS:=fun o k p=>[some (.d (RW rs)),some (.d (RW ks)),X,Y,o,k,p]
 let BD:DB:=AM (AN (dC .none) (dN 6)) (AM (AR (AI (dOp AK (AB 5) (dC (.int 4)))) (AN (AH M2 (AA (AB 0) (AA (AB 5) (AA (dOp Am (AB 2) (dOp AK (AB 5) (dC (.int 2)))) (AA (dOp Am (AB 3) (dOp AK (AB 5) (dC (.int 3)))) AD))))) (dN 6)) AU) (X0 6 4))
 have lp:∃t7,Ay (dN 5) BD (ks.map eZ) (st (O none) none none)=some (.nx t7)/\∃k p,nM k/\nM p/\t7=st (O (ctV f ks x y)) k p:=by
  refine A1 (fun(pre:List Rz) τ=>∃k p,nM k/\nM p/\τ=st (O (ctV f pre x y)) k p) ⟨none,none,Ai,Ai,rfl⟩ ?_
  rintro pre k post τ e ⟨ok,op,hk,hp,rfl⟩
  let o:=ctV f pre x y
  have wo:WV (pre.map c).sum o:=K7 x y fun q hq=>hw q (by rw[e];exact dY _ hq)
  have hkm:k∈ks:=by rw[e];simp
  have hs:(pre.map c).sum+c k<=195:=by
   rw[e,eB,U',iL,fA]at hz;omega
  let Z:Option L:=some (.d (eZ k))
  have t:AI (dOp AK (AB 5) (dC (.int 4))) (st (O o) Z (O none))=some (k.s,st (O o) Z (O none)):=tst (oQ (eZ k) (.int 4) (st (O o) Z (O none)) rfl rfl rfl)
  let p:Option Sp:=if k.s=true then f k (x-k.x) (y-k.y) else none
  have wp:WV (c k) p:=by
   show WV (c k) (if k.s=true then f k (x-k.x) (y-k.y) else none)
   split
   ·exact hw k hkm _ _
   ·exact WV.nil _
  have e2:AR (AI (dOp AK (AB 5) (dC (.int 4)))) (AN (AH M2 (AA (AB 0) (AA (AB 5) (AA (dOp Am (AB 2) (dOp AK (AB 5) (dC (.int 2)))) (AA (dOp Am (AB 3) (dOp AK (AB 5) (dC (.int 3)))) AD))))) (dN 6)) AU (st (O o) Z (O none))=some (.nx (st (O o) Z (O p))):=by
   show _=some (Out.nx (st (O o) Z (O (if k.s=true then f k (x-k.x) (y-k.y) else none))))
   cases hs':k.s with
   |false =>
    rw[hs']at t
    rw[if_neg (by decide)]
    exact(As t).trans rfl
   |true =>
    rw[hs']at t
    obtain⟨ls,em⟩:=hM k hkm (x-k.x) (y-k.y)
    rw[if_pos rfl]
    exact(Au t).trans (AX (cQ (st (O o) Z (O none)) [RW rs,eZ k,.int (x-k.x),.int (y-k.y)] rfl rfl em) rfl)
  obtain⟨p',e3⟩:=Te (i:=6) (j:=4) (st:=fun o p=>st (O o) Z (O p)) (fun _ _=>rfl) (fun _ _=>rfl) (fun _ _ _=>rfl) (fun _ _ _=>rfl) wo wp (by omega)
  have eo:ctV f (pre++[k]) x y=C0 p o:=by
   rw[Fz]
   show _=C0 (if k.s=true then f k (x-k.x) (y-k.y) else none) (ctV f pre x y)
   split<;>rfl
  refine⟨st (O o) Z op,st (O (C0 p o)) Z (O p'),BE (o:=ok) rfl hk,?_,Z,O p',BC,BC,by rw[eo]⟩
  ·exact(AE (t4:=st (O o) Z (O none)) (AX (t4:=st (O o) Z op) rfl (BE (o:=op) rfl hp))).trans ((AE e2).trans e3)
 obtain⟨t7,e,k,p,hk,hp,rfl⟩:=lp
 refine⟨[.d (RW rs),.d (RW ks),.d (.int x),.d (.int y)],?_⟩
 unfold Cy
 refine AV (τ:=st (O (ctV f ks x y)) k p) ?_ rfl rfl
 exact(AE (t4:=st (O none) none none) rfl).trans ((AE ((BN (ds:=ks.map eZ) (t4:=st (O none) none none) rfl).trans e)).trans rfl)
theorem P5{n:Nat}{o:Option Sp}{y:Rat}(wo:∀s,o=some s->Wt n s)(hn:n<=3900)(hy:BdR 3900 y):∃ls,Fn [.d (eO o),.d (ec (rq y))]=some (eO (if y.num=0 then none else o.map fun s=>shS s (rq y)),ls):=by
 let τ:DS:=[some (.d (eO o)),some (.d (ec (rq y)))]
 refine⟨[.d (eO o),.d (ec (rq y))],?_⟩
 have t1:AI (dOp Cs (AB 0) (dC .none)) τ=some (!o.isSome,τ):=tst (op2 (x:=eO o) (y:=.none) (t4:=τ) (l7:=τ) rfl rfl (JL o))
 have t2:AI (dOp fEq (dOp AK (AB 1) (dC (.int 0))) (dC (.int 0))) τ=some (decide (y.num=0),τ):=tst (op2 (x:=.int y.num) (y:=.int 0) (t4:=τ) (l7:=τ) rfl rfl (encI.fEq _ _))
 have t3:=SA t1 fun _=>t2
 unfold Fn
 refine AV (τ:=τ) ?_ rfl rfl
 cases o with
 |none =>
  have:(if y.num=0 then none else (none:Option Sp).map fun s=>shS s (rq y))=none:=by split<;>rfl
  rw[this]
  exact Ad ((Au t3).trans rfl)
 |some s =>
  by_cases h0:y.num=0
  ·rw[if_pos h0]
   rw[decide_eq_true h0]at t3
   exact Ad ((Au t3).trans rfl)
  ·rw[if_neg h0]
   rw[decide_eq_false h0]at t3
   refine(AE ((As t3).trans rfl)).trans (AZ ?_)
   obtain⟨u,W,rfl,w,l⟩:=wo s rfl
   have hb:=w.bd l
   have e1:=GW (hb.1.mono hn) hy
   have e2:=GW (hb.2.mono hn) hy
   show _=some (esp (shS (sq u) (rq y)),τ)
   rw[QA]
   have q1:AH Bq (AA (dOp AK (AB 0) (dC (.int 0))) (AA (AB 1) AD)) τ=some (ec (rq (u.1*y)),τ):=cQ τ [ec (rq u.1),ec (rq y)] rfl rfl e1
   have q2:AH Bq (AA (dOp AK (AB 0) (dC (.int 1))) (AA (AB 1) AD)) τ=some (ec (rq (u.2*y)),τ):=cQ τ [ec (rq u.2),ec (rq y)] rfl rfl e2
   unfold AY
   rw[acc q1 (acc q2 rfl)];rfl
theorem Wt.pos{n:Nat}{s:Sp}(h:Wt n s):∃v:Rat,s.2=rq v/\BdR n v/\v.num≠0:=by
 obtain⟨u,W,rfl,w,l⟩:=h
 refine⟨u.2,rfl,(w.bd l).2,fun z=>?_⟩
 obtain⟨a,b,h1,h2,h3,h4,h5⟩:=w
 have:u.2=0:=Rat.num_eq_zero.mp z
 rw[this,Rat.zero_mul]at h2
 have:(0:Nat)=b:=by exact_mod_cast h2
 omega
theorem Q3{q:Int}(q0:0<=q)(q3:q<=3){b:Bool}{ks rs:List Rz}{x y:Int}{M0 M1 M2 M3:Mir}{P:Option (PyData×List L)->Prop}(hP:∀d l1 l2,P (some (d,l1))->P (some (d,l2)))(hM:P (M3 [.d (RW rs),.d (RW ks),.d (.int (qb q b (x,y)).1),.d (.int (qb q b (x,y)).2)]))(hS:(M3 [.d (RW rs),.d (RW ks),.d (.int (qb q b (x,y)).1),.d (.int (qb q b (x,y)).2)]).isSome):P (Bl M0 M1 M2 M3 [.d (RW rs),.d (RW ks),.d (eD (.turn q b)),.d (.int x),.d (.int y)]):=by
 obtain⟨⟨d,ls⟩,em⟩:=Option.isSome_iff_exists.mp hS
 let D:Option L:=some (.d (eD (.turn q b)))
 let I:Int->Option L:=fun i=>some (.d (.int i))
 let st:Int->Int->Option L->DS:=fun x y o=>[some (.d (RW rs)),some (.d (RW ks)),D,I x,I y,o]
 obtain⟨o,c,e1,ec⟩:∃(o:Option L) (c:Cl),Bh (dR1 (AA (dOp AK (AB 2) (dC (.int 0))) AD)) (dN 5) (BY 3 4 (AA (AB 4) (AA (dUn Bm (AB 3)) AD))) (st x y none)=some (.nx (st c.1 c.2 o))/\qb q b (x,y)=if b=true then (-c.1,c.2) else c:=by
  have:q=0\/q=1\/q=2\/q=3:=by omega
  rcases this with rfl|rfl|rfl|rfl
  ·exact⟨none,(x,y),rfl,rfl⟩
  ·exact⟨I 0,(y,-x),rfl,rfl⟩
  ·exact⟨I 1,(-x,-y),rfl,rfl⟩
  ·exact⟨I 2,(-y,- -x),rfl,by rw[Int.neg_neg x];rfl⟩
 have hm:=hM
 rw[em]at hm
 have res:∀x' y',(x',y')=qb q b (x,y)->AQ (AH M3 (AA (AB 0) (AA (AB 1) (AA (AB 3) (AA (AB 4) AD))))) (st x' y' o)=some (.rt d (st x' y' o)):=fun x' y' e=>by
  refine AZ (CH (t4:=st x' y' o) (rs:=[.d (RW rs),.d (RW ks),.d (.int x'),.d (.int y')]) (ds:=[RW rs,RW ks,.int x',.int y']) (ls:=ls) rfl rfl ?_)
  rw[<- e]at em
  exact em
 have:∃l2,Bl M0 M1 M2 M3 [.d (RW rs),.d (RW ks),.d (eD (.turn q b)),.d (.int x),.d (.int y)]=some (d,l2):=by
  refine⟨[.d (RW rs),.d (RW ks),.d (eD (.turn q b)),.d (.int x),.d (.int y)],?_⟩
  unfold Bl
  cases b with
  |false =>
   refine AV (τ:=st c.1 c.2 o) ((AE e1).trans ((AE (t4:=st c.1 c.2 o) rfl).trans (res c.1 c.2 ?_))) rfl rfl
   rw[ec];rfl
  |true =>
   refine AV (τ:=st (-c.1) c.2 o) ((AE e1).trans ((AE (t4:=st (-c.1) c.2 o) rfl).trans (res (-c.1) c.2 ?_))) rfl rfl
   rw[ec];rfl
 obtain⟨l2,e⟩:=this
 rw[e]
 exact hP d ls l2 hm
section
variable {rs:List Rz}
def tlV(f:SF)(ks:List Rz)(x y:Int)(cs:List Cl):Option Sp:=clV f ks (cs.map fun p=>(x-p.1,y-p.2))
theorem SD(f:SF)(ks:List Rz)(x y:Int)(cs:List Cl)(p:Cl):tlV f ks x y (cs++[p])=C0 (ctV f ks (x-p.1) (y-p.2)) (tlV f ks x y cs):=by
 unfold tlV
 rw[eB,List.map_singleton,Dq]
theorem SE{a b u v:Int}(a0:1<=a)(a3:a<=3)(b0:1<=b)(b3:b<=3)(ab:a*b<=4){B:DB}
  (J:List Cl->DS->Prop) {l8:DS} (h0:J [] l8)
  (sj:∀cs τ j,J cs τ->∃t4,dN 6 (.int j) τ=some t4/\J cs t4/\AB 6 t4=some (.int j,t4))
  (it:∀cs τ,J cs τ->dR1 (AA (dOp AK (AB 2) (dC (.int 0))) AD) τ=some ((rng 0 a.toNat).map PyData.int,τ))
  (hB:∀cs i j τ,cs.length+1<=4->0<=i->i<a->0<=j->j<b->J cs τ->AB 6 τ=some (.int j,τ)->∃t4 l7,dN 7 (.int i) τ=some t4/\B t4=some (.nx l7)/\J (cs++[(i*u,j*v)]) l7/\AB 6 l7=some (.int j,l7)) :
  ∃t7,Ay (dN 6) (Bh (dR1 (AA (dOp AK (AB 2) (dC (.int 0))) AD)) (dN 7) B) ((rng 0 b.toNat).map PyData.int) l8=some (.nx t7)/\J (shf a b u v) t7:=by
 have hl:=SN (x:=u) (y:=v) a0 b0 ab
 let row:Int->List Int->List Cl:=fun j l=>l.map fun i=>(i*u,j*v)
 let pr:List Int->List Cl:=fun js=>js.flatMap fun j=>row j (rng 0 a.toNat)
 refine A1 (fun(pre:List Int) τ=>J (pr pre) τ) h0 ?_
 rintro pre j post τ e hJ
 have hj:=Ji (n:=b.toNat) (k:=j) (by rw[e];simp)
 have bnd:∀pre2 post2 i,rng 0 a.toNat=pre2++i::post2->(pr pre++row j pre2).length+1<=4:=fun pre2 post2 i e2=>by
  have:shf a b u v=(pr pre++row j pre2)++(i*u,j*v)::(row j post2++pr post):=by
   show pr (rng 0 b.toNat)=_
   rw[e]
   simp only[pr,List.flatMap_append,List.flatMap_cons,e2]
   simp[row]
  rw[this,L',X']at hl
  omega
 obtain⟨t4,en,j1,v1⟩:=sj _ _ j hJ
 have lp2:∃t7,Ay (dN 7) B ((rng 0 a.toNat).map PyData.int) t4=some (.nx t7)/\(J (pr pre++row j (rng 0 a.toNat)) t7/\AB 6 t7=some (.int j,t7)):=by
  refine A1 (fun(pre2:List Int) τ=>J (pr pre++row j pre2) τ/\AB 6 τ=some (.int j,τ)) ⟨by simpa[row] using j1,v1⟩ ?_
  rintro pre2 i post2 τ e2 ⟨hJ2,v2⟩
  have hi:=Ji (n:=a.toNat) (k:=i) (by rw[e2];simp)
  obtain⟨l7,p4,q1,q2,q3,q4⟩:=hB _ i j τ (bnd pre2 post2 i e2) (by omega) (by omega) (by omega) (by omega) hJ2 v2
  refine⟨l7,p4,q1,q2,?_,q4⟩
  have es:row j (pre2++[i])=row j pre2++[(i*u,j*v)]:=by simp[row]
  rw[es,<- fP]
  exact q3
 obtain⟨t7,e3,j3,_⟩:=lp2
 refine⟨t4,t7,en,(BN (it _ _ j1)).trans e3,?_⟩
 have ep:pr (pre++[j])=pr pre++row j (rng 0 a.toNat):=by simp[pr]
 rw[ep]
 exact j3
theorem R9{a b u v:Int}(a0:1<=a)(a3:a<=3)(b0:1<=b)(b3:b<=3)(ab:a*b<=4){ks:List Rz}{f:SF}{S:Nat}{M0 M1 M2 M3:Mir}(hz:4*S<=195)(hw:∀x y,WV S (ctV f ks x y))(hM:∀x y,SpO (ctV f ks x y) (M3 [.d (RW rs),.d (RW ks),.d (.int x),.d (.int y)]))(x y:Int) :
  SpO (tlV f ks x y (shf a b u v)) (Ce M0 M1 M2 M3 [.d (RW rs),.d (RW ks),.d (eD (.tiles a b u v)),.d (.int x),.d (.int y)]):=by
 let D:PyData:=eD (.tiles a b u v)
 let O:Option Sp->Option L:=fun o=>some (.d (eO o))
 let st:Option L->Option L->Option L->Option L->DS:=fun A j i p=>[some (.d (RW rs)),some (.d (RW ks)),some (.d D),some (.d (.int x)),some (.d (.int y)),A,j,i,p]
 let B:DB:=AM (AN (AH M3 (AA (AB 0) (AA (AB 1) (AA (dOp Am (AB 3) (dOp An (AB 7) (dOp AK (AB 2) (dC (.int 2))))) (AA (dOp Am (AB 4) (dOp An (AB 6) (dOp AK (AB 2) (dC (.int 3))))) AD))))) (dN 8)) (X0 8 5)
 let J:List Cl->DS->Prop:=fun cs τ=>∃j i p,nM j/\nM i/\nM p/\τ=st (O (tlV f ks x y cs)) j i p
 obtain⟨t7,e,j,i,p,hj,hi,hp,rfl⟩:=SE (u:=u) (v:=v) a0 a3 b0 b3 ab (B:=B) J (l8:=st (O none) none none none) ⟨none,none,none,Ai,Ai,Ai,rfl⟩
  (by
   rintro cs τ j ⟨oj,oi,op,hj,hi,hp,rfl⟩
   exact⟨st (O (tlV f ks x y cs)) (some (.d (.int j))) oi op,BE (o:=oj) rfl hj,⟨_,oi,op,BC,hi,hp,rfl⟩,rfl⟩)
  (by
   rintro cs τ ⟨oj,oi,op,hj,hi,hp,rfl⟩
   exact Eb (n:=a) (t4:=st (O (tlV f ks x y cs)) oj oi op) rfl (by omega) (by omega))
  (by
   rintro cs i j τ hcs i0 i1 j0 j1 ⟨oj,oi,op,hj,hi,hp,rfl⟩ vj
   let o:=tlV f ks x y cs
   have wo:WV (cs.length*S) o:=by
    have:=Ym (f:=f) (ks:=ks) (cs.map fun p=>((x-p.1,y-p.2):Cl)) hw
    rwa [B']at this
   have ej:oj=some (.d (.int j)):=by
    have:AB 6 (st (O o) oj oi op)=_:=vj
    unfold AB at this
    cases oj with
    |none=>cases this
    |some l=>cases l<;>first|(cases this;rfl)|cases this
   subst ej
   let t4:=st (O o) (some (.d (.int j))) (some (.d (.int i))) op
   have m1:=IM (i:=i) (j:=u) (by omega) (by omega)
   have m2:=IM (i:=j) (j:=v) (by omega) (by omega)
   have f1:dOp Am (AB 3) (dOp An (AB 7) (dOp AK (AB 2) (dC (.int 2)))) t4=some (.int (x-i*u),t4):=oQ (.int x) (.int (i*u)) t4 rfl (oQ (.int i) (.int u) t4 rfl rfl m1) rfl
   have f2:dOp Am (AB 4) (dOp An (AB 6) (dOp AK (AB 2) (dC (.int 3)))) t4=some (.int (y-j*v),t4):=oQ (.int y) (.int (j*v)) t4 rfl (oQ (.int j) (.int v) t4 rfl rfl m2) rfl
   obtain⟨ls,em⟩:=hM (x-i*u) (y-j*v)
   let p:=ctV f ks (x-i*u) (y-j*v)
   have w1:WV S p:=hw _ _
   let st2:Option Sp->Option Sp->DS:=fun o p=>st (O o) (some (.d (.int j))) (some (.d (.int i))) (O p)
   have hsz:S+cs.length*S<=195:=by
    have:(cs.length+1)*S<=4*S:=eI _ hcs
    rw[Nat.succ_mul]at this
    omega
   obtain⟨p',e3⟩:=Te (i:=8) (j:=5) (st:=st2) (fun _ _=>rfl) (fun _ _=>rfl) (fun _ _ _=>rfl) (fun _ _ _=>rfl) wo w1 hsz
   refine⟨t4,st2 (C0 p o) p',BE (o:=oi) rfl hi,?_,⟨some (.d (.int j)),some (.d (.int i)),O p',BC,BC,BC,by rw[SD]⟩,rfl⟩
   exact(AE (t4:=st2 o p) (AX (cQ t4 [RW rs,RW ks,.int (x-i*u),.int (y-j*v)] (acc (t4:=t4) rfl (acc (t4:=t4) rfl (acc f1 (acc f2 rfl)))) rfl em) (BE (o:=op) rfl hp))).trans e3)
 refine⟨[.d (RW rs),.d (RW ks),.d D,.d (.int x),.d (.int y)],?_⟩
 unfold Ce
 refine AV (τ:=st (O (tlV f ks x y (shf a b u v))) j i p) ?_ rfl rfl
 exact(AE (t4:=st (O none) none none none) rfl).trans ((AE ((BN (Eb (n:=b) (t4:=st (O none) none none none) rfl (by omega) (by omega))).trans e)).trans rfl)
end
section
variable {rs:List Rz}
theorem VW{τ:DS}{r:Rz}(hl:rs.length<=30)(h0:τ[0]?=some (some (.d (RW rs))))(h1:τ[1]?=some (some (.d (eZ r)))):dLC 1 [1] (dIL (AB 0)) (dN 0) (AI (dOp fEq (dOp AK (AB 0) (dC (.int 1))) (dOp AK (AB 1) (dC (.int 0))))) (AB 0) τ=some (RW (AO rs r.n),τ):=by
 refine lcg (enc:=eZ) (rs:=rs) (ex:=[some (.d (eZ r))]) (fun k=>decide (k.h=r.n)) eZ ?_ (by omega) ?_ ?_ (fun k _=>?_) (fun k _ _=>rfl)
 ·unfold dIL
  rw[Lz h0];rfl
 ·show(!isM τ 1&&true)=true
  unfold isM
  rw[h1];rfl
 ·unfold LA
  simp[h1]
  rfl
 ·let t:DS:=[some (.d (eZ k)),some (.d (eZ r))]
  exact tst (oQ (eT k.h) (eT r.n) t rfl rfl (OY _ _))
theorem L4{c:Rz->Nat}(ks:List Rz):((ks.take 1).map c).sum+(ks.tail.map c).sum=(ks.map c).sum:=by
 cases ks with
 |nil=>rfl
 |cons k ks=>simp
theorem Um(hl:rs.length<=30){f:SF}{c:Rz->Nat}{r:Rz}(ok:Em r.d){M0 M1 M2 M3:Mir}(x y:Int)(hz:DK r ((AO rs r.n).map c).sum<=190)(hw:∀k∈AO rs r.n,∀x y,WV (c k) (f k x y))
  (hM:4<=kz r.d->∀ks,ks.Sublist (AO rs r.n)->∀x y,SpO (ctV f ks x y) (M3 [.d (RW rs),.d (RW ks),.d (.int x),.d (.int y)]))
  (h0:∀q b,r.d = .turn q b->SpO (ctV f (AO rs r.n) (qb q b (x,y)).1 (qb q b (x,y)).2) (M0 [.d (RW rs),.d (RW (AO rs r.n)),.d (eD (.turn q b)),.d (.int x),.d (.int y)]))
  (h1:∀a b u v,r.d = .tiles a b u v->SpO (tlV f (AO rs r.n) x y (shf a b u v)) (M1 [.d (RW rs),.d (RW (AO rs r.n)),.d (eD (.tiles a b u v)),.d (.int x),.d (.int y)])) :
  SpO (ptV f r (AO rs r.n) x y) (En M0 M1 M2 M3 [.d (RW rs),.d (eZ r),.d (.int x),.d (.int y)]):=by
 let ks:=AO rs r.n
 let S:=(ks.map c).sum
 let X:Option L:=some (.d (.int x))
 let Y:Option L:=some (.d (.int y))
 let T:Option L:=some (.d (eT (kS (kz r.d))))
 let D:Option L:=some (.d (eD r.d))
 let st:Option L->Option L->DS:=fun k o=>[some (.d (RW rs)),some (.d (eZ r)),X,Y,T,D,k,o]
 let K:Option L:=some (.d (RW ks))
 let τ:=st K none
 have sk:∀{j:Nat} {a:DB},j<10->kz r.d≠j->AR (AI (dOp fEq (AB 4) (dC (eT (kS j))))) a AU τ=some (.nx τ):=fun {j a} hj hn=>by
  refine(As (t4:=τ) (tst (oQ (eT (kS (kz r.d))) (eT (kS j)) τ rfl rfl ?_))).trans rfl
  rw[Kq (C1 _) hj,decide_eq_false hn]
 have tk:∀{j:Nat} {a:DB},j<10->kz r.d=j->AR (AI (dOp fEq (AB 4) (dC (eT (kS j))))) a AU τ=a τ:=fun {j a} hj hn=>by
  refine Au (t4:=τ) (tst (oQ (eT (kS (kz r.d))) (eT (kS j)) τ rfl rfl ?_))
  rw[Kq (C1 _) hj,decide_eq_true hn]
 have fin:∀{d:PyData} {o:Option L} {B:DB},B τ=some (.rt d (st K o))->Aa false 4 4 (AM (BY 4 5 (AA (dOp AK (AB 1) (dC (.int 5))) (AA (dOp AK (AB 1) (dC (.int 6))) AD))) (AM (AN (dLC 1 [1] (dIL (AB 0)) (dN 0) (AI (dOp fEq (dOp AK (AB 0) (dC (.int 1))) (dOp AK (AB 1) (dC (.int 0))))) (AB 0)) (dN 6)) B)) [.d (RW rs),.d (eZ r),.d (.int x),.d (.int y)]=some (d,[.d (RW rs),.d (eZ r),.d (.int x),.d (.int y)]):=fun {d o B} h =>
  AV (τ:=st K o) ((AE (t4:=st none none) rfl).trans ((AE (t4:=τ) (AX (VW (τ:=st none none) hl rfl rfl) rfl)).trans h)) rfl rfl
 have pI:∀{k:Int} {v:PyData} {o:Option L},AK (eD r.d) (.int k)=some v->dOp AK (AB 5) (dC (.int k)) (st K o)=some (v,st K o):=fun {k v o} q=>oQ (eD r.d) (.int k) (st K o) rfl rfl q
 have kc:∀{x' y':Int} {o:Option L} {e1 e2:DX} {d:PyData} {ls:List L},e1 (st K o)=some (.int x',st K o)->e2 (st K o)=some (.int y',st K o)->M3 [.d (RW rs),.d (RW ks),.d (.int x'),.d (.int y')]=some (d,ls)->AH M3 (AA (AB 0) (AA (AB 6) (AA e1 (AA e2 AD)))) (st K o)=some (d,st K o):=fun {x' y' o e1 e2 d ls} g1 g2 em =>
  cQ (st K o) [RW rs,RW ks,.int x',.int y'] (acc (t4:=st K o) rfl (acc (t4:=st K o) rfl (acc g1 (acc g2 rfl)))) rfl em
 obtain⟨d,hd⟩:∃d,r.d=d:=⟨_,rfl⟩
 by_cases h4:4<=kz r.d
 ·have hM:=hM h4
  have hw':∀{l:List Rz} (x y:Int),l.Sublist ks->WV (l.map c).sum (ctV f l x y):=fun {l} x y hs=>K7 x y fun k hk=>hw k (hs.subset hk)
  have e4:ptV f r (AO rs r.n) x y=hlV f r ks x y:=if_pos h4
  have ecp:DK r ((AO rs r.n).map c).sum=EW r.d S:=if_pos h4
  rw[ecp]at hz
  rw[e4]
  unfold En
  cases d with
  |group =>
   have k0:kz r.d=4:=by rw[hd];rfl
   have eh:hlV f r ks x y=ctV f ks x y:=by unfold hlV;rw[hd];exact GP _
   obtain⟨ls,em⟩:=hM ks (eL _) x y
   rw[eh]
   exact⟨_,fin (o:=none) (Ad ((tk (j:=4) (by decide) k0).trans (AZ (kc rfl rfl em))))⟩
  |glass p =>
   have k0:kz r.d=5:=by rw[hd];rfl
   rw[hd]at ok
   have ok:OkF p:=ok
   have eh:hlV f r ks x y=if p=(0,1) then none else (ctV f ks x y).map fun s=>shS s p:=by unfold hlV;rw[hd]
   have ed:EW r.d S=S+1:=if_neg (by omega)
   have i0:AK (eD r.d) (.int 0)=some (ec p):=by rw[hd];rfl
   obtain⟨ls,em⟩:=hM ks (eL _) x y
   obtain⟨z,ep,hb⟩:=Hj ok
   rw[ed]at hz
   have h3:WV S (ctV f ks x y):=hw' x y (eL _)
   obtain⟨lw,ew⟩:=P5 (y:=z) h3 (by omega) (hb.mono (by decide))
   have hz1:z.num=p.1:=by rw[ep];rfl
   have eq:(if z.num=0 then none else (ctV f ks x y).map fun s=>shS s (rq z))=if p=(0,1) then none else (ctV f ks x y).map fun s=>shS s p:=by
    by_cases hp:p=(0,1)
    ·rw[if_pos (by rw[hz1,hp]),if_pos hp]
    ·rw[if_neg (fun w=>hp (ok.zero (hz1.symm.trans w))),if_neg hp,<- ep]
   rw[eq,<- ep]at ew
   rw[eh]
   exact⟨_,fin (o:=none) ((AE (sk (j:=4) (by decide) (by omega))).trans (Ad ((tk (j:=5) (by decide) k0).trans (AZ (cQ τ [eO (ctV f ks x y),ec p] (acc (kc (o:=none) rfl rfl em) (acc (pI i0) rfl)) rfl ew)))))⟩
  |window w h a b =>
   have k0:kz r.d=6:=by rw[hd];rfl
   have i0:AK (eD r.d) (.int 0)=some (.int w):=by rw[hd];rfl
   have i1:AK (eD r.d) (.int 1)=some (.int h):=by rw[hd];rfl
   have i2:AK (eD r.d) (.int 2)=some (.int a):=by rw[hd];rfl
   have i3:AK (eD r.d) (.int 3)=some (.int b):=by rw[hd];rfl
   have eh:hlV f r ks x y=clV f ks (if ((decide (0<=x)&&decide (x<w))&&(decide (0<=y)&&decide (y<h)))=true then [((x+a,y+b):Cl)] else []):=by unfold hlV;rw[hd];rfl
   have t:=SA (Oz (tst (chn (τ:=τ) (a:=dC (.int 0)) (b:=AB 2) (i:=0) (j:=x) rfl rfl (pI i0)))) fun _=>Oz (tst (chn (τ:=τ) (a:=dC (.int 0)) (b:=AB 3) (i:=0) (j:=y) rfl rfl (pI i1)))
   rw[<- Bool.not_and]at t
   rw[eh]
   cases hw:((decide (0<=x)&&decide (x<w))&&(decide (0<=y)&&decide (y<h))) with
   |false =>
    rw[hw]at t
    exact⟨_,fin (o:=none) ((AE (sk (j:=4) (by decide) (by omega))).trans ((AE (sk (j:=5) (by decide) (by omega))).trans (Ad ((tk (j:=6) (by decide) k0).trans (Ad ((Au t).trans rfl))))))⟩
   |true =>
    rw[hw]at t
    obtain⟨ls,em⟩:=hM ks (eL _) (x+a) (y+b)
    rw[if_pos rfl,show clV f ks [((x+a,y+b):Cl)]=ctV f ks (x+a) (y+b) from GP _]
    exact⟨_,fin (o:=none) ((AE (sk (j:=4) (by decide) (by omega))).trans ((AE (sk (j:=5) (by decide) (by omega))).trans (Ad ((tk (j:=6) (by decide) k0).trans ((AE ((As t).trans rfl)).trans (AZ (kc (x':=x+a) (y':=y+b) (oQ (.int x) (.int a) τ rfl (pI i2) rfl) (oQ (.int y) (.int b) τ rfl (pI i3) rfl) em)))))))⟩
  |turn q b =>
   have k0:kz r.d=7:=by rw[hd];rfl
   have eh:hlV f r ks x y=ctV f ks (qb q b (x,y)).1 (qb q b (x,y)).2:=by unfold hlV;rw[hd];exact GP _
   obtain⟨ls,em⟩:=h0 q b hd
   rw[<- hd]at em
   rw[eh]
   exact⟨_,fin (o:=none) ((AE (sk (j:=4) (by decide) (by omega))).trans ((AE (sk (j:=5) (by decide) (by omega))).trans ((AE (sk (j:=6) (by decide) (by omega))).trans (Ad ((tk (j:=7) (by decide) k0).trans (AZ (cQ τ [RW rs,RW ks,eD r.d,.int x,.int y] rfl rfl em)))))))⟩
  |tiles a b u v =>
   have k0:kz r.d=8:=by rw[hd];rfl
   obtain⟨ls,em⟩:=h1 a b u v hd
   rw[<- hd]at em
   have eh:hlV f r ks x y=tlV f ks x y (shf a b u v):=by unfold hlV;rw[hd];rfl
   rw[eh]
   exact⟨_,fin (o:=none) ((AE (sk (j:=4) (by decide) (by omega))).trans ((AE (sk (j:=5) (by decide) (by omega))).trans ((AE (sk (j:=6) (by decide) (by omega))).trans ((AE (sk (j:=7) (by decide) (by omega))).trans (Ad ((tk (j:=8) (by decide) k0).trans (AZ (cQ τ [RW rs,RW ks,eD r.d,.int x,.int y] rfl rfl em))))))))⟩
  |mask =>
   have k0:kz r.d=9:=by rw[hd];rfl
   have ed:EW r.d S=S+1:=if_neg (by omega)
   have eh:hlV f r ks x y=(ctV f (ks.take 1) x y).bind fun t=>(ctV f ks.tail x y).map fun s=>shS s t.2:=by unfold hlV;rw[hd]
   have hs:=L4 (c:=c) ks
   have hs:((ks.take 1).map c).sum+(ks.tail.map c).sum=S:=hs
   obtain⟨l1,em1⟩:=hM (ks.take 1) (fG _ _) x y
   obtain⟨l2,em2⟩:=hM ks.tail (ff _) x y
   have a2:=hw' x y (fG 1 ks)
   have b2:=hw' x y (ff ks)
   generalize ctV f (ks.take 1) x y=o1 at em1 a2 eh
   generalize ctV f ks.tail x y=o2 at em2 b2 eh
   rw[ed]at hz
   rw[eh]
   obtain⟨q1,_⟩:=Hq ks (τ:=τ) (i:=6) rfl
   obtain⟨_,q2⟩:=Hq ks (τ:=st K (some (.d (eO o1)))) (i:=6) rfl
   let l7:=st K (some (.d (eO o1)))
   have s1:AN (AH M3 (AA (AB 0) (AA (dSl (AB 6) CK (dPt (dC (.int 1)))) (AA (AB 2) (AA (AB 3) AD))))) (dN 7) τ=some (.nx l7):=AX (cQ τ [RW rs,RW (ks.take 1),.int x,.int y] (acc (t4:=τ) rfl (acc q1 rfl)) rfl em1) rfl
   have t:AI (dOp Cs (AB 7) (dC .none)) l7=some (!o1.isSome,l7):=tst (op2 (x:=eO o1) (y:=.none) (t4:=l7) (l7:=l7) rfl rfl (JL o1))
   have pre:∀{d:PyData} {B C:DB},AM (AR (AI (dOp Cs (AB 7) (dC .none))) (AQ (dC .none)) AU) B l7=some (.rt d l7)->AM (AR (AI (dOp fEq (AB 4) (dC (eT (kS 9))))) (AM (AN (AH M3 (AA (AB 0) (AA (dSl (AB 6) CK (dPt (dC (.int 1)))) (AA (AB 2) (AA (AB 3) AD))))) (dN 7)) (AM (AR (AI (dOp Cs (AB 7) (dC .none))) (AQ (dC .none)) AU) B)) AU) C τ=some (.rt d l7):=fun {d B C} h=>Ad ((tk (j:=9) (by decide) k0).trans ((AE s1).trans h))
   have pre2:∀{d:PyData} {B A4 A5 A6 A7 A8:DB},B τ=some (.rt d l7)->AM (AR (AI (dOp fEq (AB 4) (dC (eT (kS 4))))) A4 AU) (AM (AR (AI (dOp fEq (AB 4) (dC (eT (kS 5))))) A5 AU) (AM (AR (AI (dOp fEq (AB 4) (dC (eT (kS 6))))) A6 AU) (AM (AR (AI (dOp fEq (AB 4) (dC (eT (kS 7))))) A7 AU) (AM (AR (AI (dOp fEq (AB 4) (dC (eT (kS 8))))) A8 AU) B)))) τ=some (.rt d l7):=fun {d B A4 A5 A6 A7 A8} h=>(AE (sk (j:=4) (by decide) (by omega))).trans ((AE (sk (j:=5) (by decide) (by omega))).trans ((AE (sk (j:=6) (by decide) (by omega))).trans ((AE (sk (j:=7) (by decide) (by omega))).trans ((AE (sk (j:=8) (by decide) (by omega))).trans h))))
   cases o1 with
   |none =>
    exact⟨_,fin (o:=some (.d (eO none))) (pre2 (pre (Ad ((Au t).trans rfl))))⟩
   |some t1 =>
    have wt1:=a2 t1 rfl
    obtain⟨v,ev,bv,vn⟩:=wt1.pos
    obtain⟨lw,ew⟩:=P5 (y:=v) b2 (by omega) (bv.mono (by omega))
    rw[if_neg vn,<- ev]at ew
    exact⟨_,fin (o:=some (.d (eO (some t1)))) (pre2 (pre ((AE ((As t).trans rfl)).trans (AZ (cQ l7 [eO o2,ec t1.2] (acc (cQ l7 [RW rs,RW ks.tail,.int x,.int y] (acc (t4:=l7) rfl (acc q2 rfl)) rfl em2) rfl) rfl ew)))))⟩
  |plate=>rw[hd]at h4;exact absurd (show 4<=0 from h4) (by decide)
  |band=>rw[hd]at h4;exact absurd (show 4<=1 from h4) (by decide)
  |word=>rw[hd]at h4;exact absurd (show 4<=2 from h4) (by decide)
  |stencil=>rw[hd]at h4;exact absurd (show 4<=3 from h4) (by decide)
 ·have e4:ptV f r (AO rs r.n) x y=lfV r x y:=if_neg h4
  rw[e4]
  have hk:kz r.d<4:=by omega
  obtain⟨_,ls,ef⟩:=Kx ok hk x y
  obtain⟨j1,j2⟩:=Hf hk
  obtain⟨o1,o2⟩:=He ok hk
  have x1:dOp AK (AB 5) (dUn Bm (dC (.int 2))) τ=some (ec (Ae r.d).1,τ):=oQ (eD r.d) (.int (-2)) τ rfl rfl j1
  have x2:dOp AK (AB 5) (dUn Bm (dC (.int 1))) τ=some (ec (Ae r.d).2,τ):=oQ (eD r.d) (.int (-1)) τ rfl rfl j2
  have t1:AI (dOp fEq (dOp AK (dOp AK (AB 5) (dUn Bm (dC (.int 1)))) (dC (.int 0))) (dC (.int 0))) τ=some (decide ((Ae r.d).2.1=0),τ):=tst (op2 (x:=.int (Ae r.d).2.1) (y:=.int 0) (l7:=τ) (op2 (y:=.int 0) (l7:=τ) x2 rfl rfl) rfl (encI.fEq _ _))
  have t2:Bs (AI (AH B5 (AA (AB 4) (AA (AB 5) (AA (AB 2) (AA (AB 3) AD)))))) τ=some (!Gm r x y,τ):=Oz (tst (cQ τ [eT (kS (kz r.d)),eD r.d,.int x,.int y] rfl rfl ef))
  have t3:=SA t1 fun _=>t2
  have pre2:∀{d:PyData} {B A4 A5 A6 A7 A8 A9:DB},B τ=some (.rt d τ)->AM (AR (AI (dOp fEq (AB 4) (dC (eT (kS 4))))) A4 AU) (AM (AR (AI (dOp fEq (AB 4) (dC (eT (kS 5))))) A5 AU) (AM (AR (AI (dOp fEq (AB 4) (dC (eT (kS 6))))) A6 AU) (AM (AR (AI (dOp fEq (AB 4) (dC (eT (kS 7))))) A7 AU) (AM (AR (AI (dOp fEq (AB 4) (dC (eT (kS 8))))) A8 AU) (AM (AR (AI (dOp fEq (AB 4) (dC (eT (kS 9))))) A9 AU) B))))) τ=some (.rt d τ):=fun {d B A4 A5 A6 A7 A8 A9} h=>(AE (sk (j:=4) (by decide) (by omega))).trans ((AE (sk (j:=5) (by decide) (by omega))).trans ((AE (sk (j:=6) (by decide) (by omega))).trans ((AE (sk (j:=7) (by decide) (by omega))).trans ((AE (sk (j:=8) (by decide) (by omega))).trans ((AE (sk (j:=9) (by decide) (by omega))).trans h)))))
  unfold En lfV
  have z0:(Ae r.d).2.1=0↔(Ae r.d).2=(0,1):=⟨fun w=>o2.zero w,fun w=>by rw[w]⟩
  by_cases hp:(Ae r.d).2=(0,1)
  ·rw[decide_eq_true (z0.mpr hp)]at t3
   rw[if_neg fun w=>w.1 hp]
   exact⟨_,fin (o:=none) (pre2 (Ad ((Au t3).trans rfl)))⟩
  ·rw[decide_eq_false fun w=>hp (z0.mp w)]at t3
   cases hh:Gm r x y with
   |false =>
    rw[hh]at t3
    rw[if_neg fun w=>by cases w.2]
    exact⟨_,fin (o:=none) (pre2 (Ad ((Au t3).trans rfl)))⟩
   |true =>
    rw[hh]at t3
    rw[if_pos ⟨hp,rfl⟩]
    obtain⟨u1,p1,q1,e1,f1,g1,i1,m1,_⟩:=Kj o1
    obtain⟨u2,p2,q2,e2,f2,g2,i2,m2,n2⟩:=Kj o2
    have b1:BdR 10 u1:=Co f1 g1 i1 (by omega)
    have b2:BdR 10 u2:=Co f2 g2 i2 (by omega)
    have em:=GW (b1.mono (n:=3900) (by decide)) (b2.mono (n:=3900) (by decide))
    have ml:AH Bq (AA (dOp AK (AB 5) (dUn Bm (dC (.int 2)))) (AA (dOp AK (AB 5) (dUn Bm (dC (.int 1)))) AD)) τ=some (ec (rq (u1*u2)),τ):=cQ τ [ec (rq u1),ec (rq u2)] (acc (x1.trans (by rw[e1])) (acc (x2.trans (by rw[e2])) rfl)) rfl em
    rw[show FQ (Ae r.d).1 (Ae r.d).2=rq (u1*u2) by rw[e1,e2,IP],e2]
    exact⟨_,fin (o:=none) (pre2 ((AE ((As t3).trans rfl)).trans (AZ (Eo (rs:=[.d (ec (rq (u1*u2))),.d (ec (rq u2))]) (acc ml (acc (x2.trans (by rw[e2])) rfl)) rfl (by show 2<=1000;decide)))))⟩
theorem NY(ok:OkZ rs)(vt:VtR rs.reverse)(hl:rs.length<=24):∀(n m:Nat) (r:Rz),Lv rs n r->3*n<=m->∀x y,SpO (spS rs n r x y) (AF m 2 [.d (RW rs),.d (eZ r),.d (.int x),.d (.int y)])
 |0,_,_,h,_,_,_=>by obtain⟨_,_,_,z⟩:=h;exact absurd z (eP _)
 |n+1,m,r,h,hm,x,y=>by
  obtain⟨m',rfl⟩:∃m',m=m'+3:=⟨m-3,by omega⟩
  have hr:=Pa h
  have okd:=(ok.all r (V'.mpr hr)).d
  have hc:=MZ ok vt h
  have ecl:CU rs (n+1) r=DK r ((AO rs r.n).map (CU rs n)).sum:=rfl
  rw[ecl]at hc
  have hS:4<=kz r.d->((AO rs r.n).map (CU rs n)).sum<=96:=fun h4=>by
   unfold DK EW at hc
   rw[if_pos h4]at hc
   split at hc<;>omega
  have kid:4<=kz r.d->∀M,3*n<=M->∀ks,ks.Sublist (AO rs r.n)->∀x y,SpO (ctV (spS rs n) ks x y) (AF (M+1) 3 [.d (RW rs),.d (RW ks),.d (.int x),.d (.int y)]):=fun h4 M hM ks hs x y=>by
   have:=Jg (c:=CU rs n) hs
   have:=hS h4
   exact OI (M0:=AF M 0) (M1:=AF M 1) (M2:=AF M 2) (M3:=AF M 3) (by omega) (fun k hk=>Na ok n k (W'.mp (hs.subset hk)).1) (fun k hk=>NY ok vt hl n M k (Pc ok h (hs.subset hk)) hM) x y
  refine Um (M0:=AF (m'+2) 0) (M1:=AF (m'+2) 1) (M2:=AF (m'+2) 2) (M3:=AF (m'+2) 3) (by omega) okd x y (by omega) (fun k hk=>Na ok n k (W'.mp hk).1) (fun h4 ks hs=>kid h4 (m'+1) (by omega) ks hs) (fun q b hd=>?_) (fun a b u v hd=>?_)
  ·have h4:4<=kz r.d:=by rw[hd];show 4<=7;decide
   rw[hd]at okd
   have e:=kid h4 m' (by omega) _ (eL _) (qb q b (x,y)).1 (qb q b (x,y)).2
   refine Q3 (M0:=AF (m'+1) 0) (M1:=AF (m'+1) 1) (M2:=AF (m'+1) 2) (M3:=AF (m'+1) 3) okd.1 okd.2 (P:=SpO _) (fun d l1 l2 hp=>?_) e ?_
   ·obtain⟨ls,e1⟩:=hp
    cases e1
    exact⟨l2,rfl⟩
   ·obtain⟨ls,e1⟩:=e
    rw[e1];rfl
  ·have h4:4<=kz r.d:=by rw[hd];show 4<=8;decide
   have k8:kz r.d=8:=by rw[hd];rfl
   unfold DK EW at hc
   rw[if_pos h4,if_pos k8]at hc
   rw[hd]at okd
   obtain⟨a1,a3,b1,b3,ab,_⟩:=okd
   exact R9 (S:=((AO rs r.n).map (CU rs n)).sum) (M0:=AF (m'+1) 0) (M1:=AF (m'+1) 1) (M2:=AF (m'+1) 2) (M3:=AF (m'+1) 3) a1 a3 b1 b3 ab (by omega) (fun x y=>K7 x y fun k hk=>Na ok n k (W'.mp hk).1) (fun x y=>kid h4 m' (by omega) _ (eL _) x y) x y
end
theorem Nl{a b:Nat}{p o:Option Sp}(wp:WV a p)(wo:WV b o)(hz:a+b<=195):∃ls,B0 [.d (eO p),.d (eO o)]=some (eO (C0 p o),ls):=by
 let τ:DS:=[some (.d (eO p)),some (.d (eO o))]
 refine⟨[.d (eO p),.d (eO o)],?_⟩
 have t1:AI (dOp Cs (AB 0) (dC .none)) τ=some (!p.isSome,τ):=tst (op2 (x:=eO p) (y:=.none) (t4:=τ) (l7:=τ) rfl rfl (JL p))
 have t2:AI (dOp Cs (AB 1) (dC .none)) τ=some (!o.isSome,τ):=tst (op2 (x:=eO o) (y:=.none) (t4:=τ) (l7:=τ) rfl rfl (JL o))
 unfold B0
 refine AV (τ:=τ) ?_ rfl rfl
 cases p with
 |none=>exact Ad ((Au t1).trans rfl)
 |some s =>
  cases o with
  |none=>exact(AE ((As t1).trans rfl)).trans (Ad ((Au t2).trans rfl))
  |some t =>
   refine(AE ((As t1).trans rfl)).trans ((AE ((As t2).trans rfl)).trans (AZ ?_))
   exact cQ τ [esp s,esp t] rfl rfl (NX (wp s rfl) (wo t rfl) (by omega))
theorem L6{n:Nat}{o:Option Sp}{y:Rat}(wo:WV n o)(hn:n<=195)(hy:BdR 3900 y):∃ls,CN [.d (eO o),.d (ec (rq y))]=some (eO (if rq y=(0,1) then none else o.map fun s=>shS s (rq y)),ls):=by
 let τ:DS:=[some (.d (eO o)),some (.d (ec (rq y)))]
 refine⟨[.d (eO o),.d (ec (rq y))],?_⟩
 have t1:AI (dOp Cs (AB 0) (dC .none)) τ=some (!o.isSome,τ):=tst (op2 (x:=eO o) (y:=.none) (t4:=τ) (l7:=τ) rfl rfl (JL o))
 have t2:AI (dOp fEq (AB 1) (AY (AA (dC (.int 0)) (AA (dC (.int 1)) AD)))) τ=some (decide (rq y=(0,1)),τ):=tst (op2 (x:=ec (rq y)) (y:=ec (0,1)) (t4:=τ) (l7:=τ) rfl rfl (encC.fEq _ _))
 have t3:=SA t1 fun _=>t2
 unfold CN
 refine AV (τ:=τ) ?_ rfl rfl
 cases o with
 |none =>
  have:(if rq y=(0,1) then none else (none:Option Sp).map fun s=>shS s (rq y))=none:=by split<;>rfl
  rw[this]
  exact Ad ((Au t3).trans rfl)
 |some s =>
  by_cases h0:rq y=(0,1)
  ·rw[if_pos h0]
   rw[decide_eq_true h0]at t3
   exact Ad ((Au t3).trans rfl)
  ·rw[if_neg h0]
   rw[decide_eq_false h0]at t3
   refine(AE ((As t3).trans rfl)).trans (AZ ?_)
   obtain⟨u,W,rfl,w,l⟩:=wo s rfl
   have hb:=w.bd l
   have e1:=GJ (hb.1.mono (n:=3900) (by omega)) hy
   have e2:=GJ (hb.2.mono (n:=3900) (by omega)) hy
   show _=some (esp (shS (sq u) (rq y)),τ)
   rw[QA]
   have q1:AH CV (AA (dOp AK (AB 0) (dC (.int 0))) (AA (AB 1) AD)) τ=some (ec (rq (u.1*y)),τ):=cQ τ [ec (rq u.1),ec (rq y)] rfl rfl e1
   have q2:AH CV (AA (dOp AK (AB 0) (dC (.int 1))) (AA (AB 1) AD)) τ=some (ec (rq (u.2*y)),τ):=cQ τ [ec (rq u.2),ec (rq y)] rfl rfl e2
   unfold AY
   rw[acc q1 (acc q2 rfl)];rfl
theorem Mw{r:Rz}(ok:Em r.d)(hk:kz r.d<4)(x y:Int):∃ls,Cj [.d (eZ r),.d (.int x),.d (.int y)]=some (eO (lfV r x y),ls):=by
 obtain⟨⟨ls,eh⟩,_⟩:=Kx ok hk x y
 obtain⟨i1,i2⟩:=Hf hk
 obtain⟨o1,o2⟩:=He ok hk
 obtain⟨u1,e1,b1⟩:=Hj o1
 obtain⟨u2,e2,b2⟩:=Hj o2
 have em:=GJ (b1.mono (n:=3900) (by decide)) (b2.mono (n:=3900) (by decide))
 rw[<- IP,<- e1,<- e2]at em
 let st:Option L->DS:=fun o=>[some (.d (eZ r)),some (.d (.int x)),some (.d (.int y)),o]
 let τ:=st (some (.d (eD r.d)))
 have t:AI (AH BS (AA (AB 0) (AA (AB 1) (AA (AB 2) AD)))) τ=some (Gm r x y,τ):=tst (cQ τ [eZ r,.int x,.int y] rfl rfl eh)
 have x1:dOp AK (AB 3) (dUn Bm (dC (.int 2))) τ=some (ec (Ae r.d).1,τ):=oQ (eD r.d) (.int (-2)) τ rfl rfl i1
 have x2:dOp AK (AB 3) (dUn Bm (dC (.int 1))) τ=some (ec (Ae r.d).2,τ):=oQ (eD r.d) (.int (-1)) τ rfl rfl i2
 have pl:DV [.d (ec (Ae r.d).1),.d (ec (Ae r.d).2)]=some (eO (if (Ae r.d).2=(0,1) then none else some (FQ (Ae r.d).1 (Ae r.d).2,(Ae r.d).2)),[.d (ec (Ae r.d).1),.d (ec (Ae r.d).2)]):=by
  let σ:DS:=[some (.d (ec (Ae r.d).1)),some (.d (ec (Ae r.d).2))]
  have t2:AI (dOp fEq (AB 1) (AY (AA (dC (.int 0)) (AA (dC (.int 1)) AD)))) σ=some (decide ((Ae r.d).2=(0,1)),σ):=tst (op2 (x:=ec (Ae r.d).2) (y:=ec (0,1)) (t4:=σ) (l7:=σ) rfl rfl (encC.fEq _ _))
  unfold DV
  refine AV (τ:=σ) ?_ rfl rfl
  by_cases h0:(Ae r.d).2=(0,1)
  ·rw[decide_eq_true h0]at t2
   rw[if_pos h0]
   exact Ad ((Au t2).trans rfl)
  ·rw[decide_eq_false h0]at t2
   rw[if_neg h0]
   refine(AE ((As t2).trans rfl)).trans (AZ ?_)
   exact Eo (rs:=[.d (ec (FQ (Ae r.d).1 (Ae r.d).2)),.d (ec (Ae r.d).2)]) (acc (cQ σ [ec (Ae r.d).1,ec (Ae r.d).2] rfl rfl em) rfl) rfl (by show 2<=1000;decide)
 refine⟨[.d (eZ r),.d (.int x),.d (.int y)],?_⟩
 unfold Cj
 refine AV (τ:=τ) ((AE (t4:=τ) (AX (cQ (st none) [eZ r] rfl rfl (GS r)) rfl)).trans (AZ ?_)) rfl rfl
 unfold dIf
 rw[t]
 unfold lfV
 cases h2:Gm r x y with
 |false=>rw[if_neg (fun w=>by cases w.2)];rfl
 |true =>
  have:(if (Ae r.d).2≠(0,1)/\true=true then some (FQ (Ae r.d).1 (Ae r.d).2,(Ae r.d).2) else none)=if (Ae r.d).2=(0,1) then none else some (FQ (Ae r.d).1 (Ae r.d).2,(Ae r.d).2):=by
   by_cases h0:(Ae r.d).2=(0,1)
   ·rw[if_neg (fun w=>w.1 h0),if_pos h0]
   ·rw[if_pos ⟨h0,rfl⟩,if_neg h0]
  rw[this]
  exact CH (a:=AA (dOp AK (AB 3) (dUn Bm (dC (.int 2)))) (AA (dOp AK (AB 3) (dUn Bm (dC (.int 1)))) AD)) (t4:=τ) (rs:=[.d (ec (Ae r.d).1),.d (ec (Ae r.d).2)]) (ds:=[ec (Ae r.d).1,ec (Ae r.d).2]) (acc x1 (acc x2 rfl)) rfl pl
section
variable {rs:List Rz}
theorem Of{ks:List Rz}{f:SF}{c:Rz->Nat}{M0 M1 M2 M3:Mir}(hz:(ks.map c).sum<=195)(hw:∀k∈ks,∀x y,WV (c k) (f k x y))(hM:∀k∈ks,∀x y,SpO (f k x y) (M2 [.d (RW rs),.d (eZ k),.d (.int x),.d (.int y)]))(x y:Int) :
  SpO (ctV f ks x y) (Cc M0 M1 M2 M3 [.d (RW rs),.d (RW ks),.d (.int x),.d (.int y)]):=by
 let X:Option L:=some (.d (.int x))
 let Y:Option L:=some (.d (.int y))
 let O:Option Sp->Option L:=fun o=>some (.d (eO o))
 let st:Option L->Option L->DS:=fun o k=>[some (.d (RW rs)),some (.d (RW ks)),X,Y,o,k]
 let BD:DB:=AR (AI (AH Be (AA (AB 5) AD))) (AN (AH B0 (AA (AH M2 (AA (AB 0) (AA (AB 5) (AA (dOp Am (AB 2) (AH DU (AA (AB 5) AD))) (AA (dOp Am (AB 3) (AH DR (AA (AB 5) AD))) AD))))) (AA (AB 4) AD))) (dN 4)) AU
 have lp:∃t7,Ay (dN 5) BD (ks.map eZ) (st (O none) none)=some (.nx t7)/\∃k,nM k/\t7=st (O (ctV f ks x y)) k:=by
  refine A1 (fun(pre:List Rz) τ=>∃k,nM k/\τ=st (O (ctV f pre x y)) k) ⟨none,Ai,rfl⟩ ?_
  rintro pre k post τ e ⟨ok,hk,rfl⟩
  let o:=ctV f pre x y
  have wo:WV (pre.map c).sum o:=K7 x y fun q hq=>hw q (by rw[e];exact dY _ hq)
  have hkm:k∈ks:=by rw[e];simp
  have hs:(pre.map c).sum+c k<=195:=by
   rw[e,eB,U',iL,fA]at hz;omega
  let Z:Option L:=some (.d (eZ k))
  let t4:=st (O o) Z
  have t:AI (AH Be (AA (AB 5) AD)) t4=some (k.s,t4):=tst (cQ t4 [eZ k] rfl rfl (show Be [.d (eZ k)]=some (.bool k.s,[.d (eZ k)]) from rfl))
  refine⟨t4,st (O (ctV f (pre++[k]) x y)) Z,BE (o:=ok) rfl hk,?_,Z,BC,rfl⟩
  rw[Fz]
  cases hs':k.s with
  |false =>
   rw[hs']at t
   rw[if_neg (by decide)]
   exact(As t).trans rfl
  |true =>
   rw[hs']at t
   rw[if_pos rfl]
   let p:=f k (x-k.x) (y-k.y)
   obtain⟨ls,em⟩:=hM k hkm (x-k.x) (y-k.y)
   obtain⟨ll,el⟩:=Nl (hw k hkm (x-k.x) (y-k.y)) wo (by omega)
   have c1:AH M2 (AA (AB 0) (AA (AB 5) (AA (dOp Am (AB 2) (AH DU (AA (AB 5) AD))) (AA (dOp Am (AB 3) (AH DR (AA (AB 5) AD))) AD)))) t4=some (eO p,t4) :=
    cQ t4 [RW rs,eZ k,.int (x-k.x),.int (y-k.y)] (acc (t4:=t4) rfl (acc (t4:=t4) rfl (acc (oQ (.int x) (.int k.x) t4 rfl (cQ t4 [eZ k] rfl rfl (show DU [.d (eZ k)]=some (.int k.x,[.d (eZ k)]) from rfl)) rfl) (acc (oQ (.int y) (.int k.y) t4 rfl (cQ t4 [eZ k] rfl rfl (show DR [.d (eZ k)]=some (.int k.y,[.d (eZ k)]) from rfl)) rfl) rfl)))) rfl em
   exact(Au t).trans (AX (cQ t4 [eO p,eO o] (acc c1 rfl) rfl el) rfl)
 obtain⟨t7,e,k,hk,rfl⟩:=lp
 refine⟨[.d (RW rs),.d (RW ks),.d (.int x),.d (.int y)],?_⟩
 unfold Cc
 refine AV (τ:=st (O (ctV f ks x y)) k) ?_ rfl rfl
 exact(AE (t4:=st (O none) none) rfl).trans ((AE ((BN (ds:=ks.map eZ) (t4:=st (O none) none) rfl).trans e)).trans rfl)
theorem TY{ks:List Rz}{f:SF}{c:Rz->Nat}{M0 M1 M2 M3:Mir}(x y:Int)(hz:(ks.map c).sum<=190)(hw:∀k∈ks,∀x y,WV (c k) (f k x y))(hM:∀l,l.Sublist ks->SpO (ctV f l x y) (M3 [.d (RW rs),.d (RW l),.d (.int x),.d (.int y)])) :
  SpO ((ctV f (ks.take 1) x y).bind fun t=>(ctV f ks.tail x y).map fun s=>shS s t.2) (Dg M0 M1 M2 M3 [.d (RW rs),.d (RW ks),.d (.int x),.d (.int y)]):=by
 let st:Option L->DS:=fun o=>[some (.d (RW rs)),some (.d (RW ks)),some (.d (.int x)),some (.d (.int y)),o]
 have hs:((ks.take 1).map c).sum+(ks.tail.map c).sum=(ks.map c).sum:=L4 ks
 obtain⟨l1,em1⟩:=hM (ks.take 1) (fG _ _)
 obtain⟨l2,em2⟩:=hM ks.tail (ff _)
 have a2:=K7 (c:=c) (ks:=ks.take 1) x y fun k hk=>hw k (fY hk)
 have b2:=K7 (c:=c) (ks:=ks.tail) x y fun k hk=>hw k (gw hk)
 generalize ctV f (ks.take 1) x y=o1 at em1 a2
 generalize ctV f ks.tail x y=o2 at em2 b2
 obtain⟨q1,_⟩:=Hq ks (τ:=st none) (i:=1) rfl
 obtain⟨_,q2⟩:=Hq ks (τ:=st (some (.d (eO o1)))) (i:=1) rfl
 let l7:=st (some (.d (eO o1)))
 have s1:AN (AH M3 (AA (AB 0) (AA (dSl (AB 1) CK (dPt (dC (.int 1)))) (AA (AB 2) (AA (AB 3) AD))))) (dN 4) (st none)=some (.nx l7):=AX (cQ (st none) [RW rs,RW (ks.take 1),.int x,.int y] (acc (t4:=st none) rfl (acc q1 rfl)) rfl em1) rfl
 have t:AI (dOp Cs (AB 4) (dC .none)) l7=some (!o1.isSome,l7):=tst (op2 (x:=eO o1) (y:=.none) (t4:=l7) (l7:=l7) rfl rfl (JL o1))
 refine⟨[.d (RW rs),.d (RW ks),.d (.int x),.d (.int y)],?_⟩
 unfold Dg
 refine AV (τ:=l7) ((AE s1).trans ?_) rfl rfl
 cases o1 with
 |none=>exact Ad ((Au t).trans rfl)
 |some t1 =>
  have wt1:=a2 t1 rfl
  obtain⟨v,ev,bv,vn⟩:=wt1.pos
  obtain⟨lw,ew⟩:=L6 (y:=v) b2 (by omega) (bv.mono (by omega))
  rw[if_neg (fun w=>vn (congrArg Prod.fst w)),<- ev]at ew
  refine(AE ((As t).trans rfl)).trans (AZ ?_)
  exact cQ l7 [eO o2,ec t1.2] (acc (cQ l7 [RW rs,RW ks.tail,.int x,.int y] (acc (t4:=l7) rfl (acc q2 rfl)) rfl em2) rfl) rfl ew
theorem Tw(hl:rs.length<=30){f:SF}{c:Rz->Nat}{r:Rz}(ok:Em r.d){M0 M1 M2 M3:Mir}(x y:Int)(hz:EW r.d ((AO rs r.n).map c).sum<=190)(hw:∀k∈AO rs r.n,∀x y,WV (c k) (f k x y))
  (h0:SpO ((ctV f ((AO rs r.n).take 1) x y).bind fun t=>(ctV f (AO rs r.n).tail x y).map fun s=>shS s t.2) (M0 [.d (RW rs),.d (RW (AO rs r.n)),.d (.int x),.d (.int y)]))
  (hM:∀x y,SpO (ctV f (AO rs r.n) x y) (M3 [.d (RW rs),.d (RW (AO rs r.n)),.d (.int x),.d (.int y)])) :
  SpO (hlV f r (AO rs r.n) x y) (Cw M0 M1 M2 M3 [.d (RW rs),.d (eZ r),.d (.int x),.d (.int y)]):=by
 obtain⟨lk,ek⟩:=EF hl r.n
 obtain⟨lc,ecc⟩:=Oh ok x y
 let ks:=AO rs r.n
 let S:=(ks.map c).sum
 have hz:EW r.d S<=190:=hz
 have hS:∀x y,WV S (ctV f ks x y):=fun x y=>K7 x y hw
 let O:Option Sp->Option L:=fun o=>some (.d (eO o))
 let K:Option L:=some (.d (RW ks))
 let st:Option L->Option L->Option L->DS:=fun k a o=>[some (.d (RW rs)),some (.d (eZ r)),some (.d (.int x)),some (.d (.int y)),k,a,o]
 have s1:AN (AH BF (AA (AB 0) (AA (AH B3 (AA (AB 1) AD)) AD))) (dN 4) (st none none none)=some (.nx (st K none none)):=AX (cQ (st none none none) [RW rs,eT r.n] (acc (t4:=st none none none) rfl (acc (t4:=st none none none) (cQ (st none none none) [eZ r] rfl rfl (Fh r)) rfl)) rfl ek) rfl
 have kd:∀a o,AH Ao (AA (AB 1) AD) (st K a o)=some (eT (kS (kz r.d)),st K a o):=fun a o=>cQ (st K a o) [eZ r] rfl rfl (Ho r)
 have tq:∀{j:Nat} (a o),j<10->AI (dOp fEq (AH Ao (AA (AB 1) AD)) (dC (eT (kS j)))) (st K a o)=some (decide (kz r.d=j),st K a o):=fun {j} a o hj=>tst (op2 (y:=eT (kS j)) (kd a o) rfl (Kq (C1 _) hj))
 refine⟨[.d (RW rs),.d (eZ r),.d (.int x),.d (.int y)],?_⟩
 unfold Cw
 by_cases h9:kz r.d=9
 ·have hd:r.d = .mask:=by
   generalize r.d=d at h9
   cases d<;>first|rfl|exact absurd h9 (by simp[kz])
  have eh:hlV f r ks x y=(ctV f (ks.take 1) x y).bind fun t=>(ctV f ks.tail x y).map fun s=>shS s t.2:=by unfold hlV;rw[hd]
  have t:=tq (j:=9) none none (by decide)
  rw[decide_eq_true h9]at t
  obtain⟨l0,e0⟩:=h0
  rw[eh]
  exact AV (τ:=st K none none) ((AE s1).trans (Ad ((Au t).trans (AZ (cQ (st K none none) [RW rs,RW ks,.int x,.int y] rfl rfl e0))))) rfl rfl
 have t9:=tq (j:=9) none none (by decide)
 rw[decide_eq_false h9]at t9
 have lcs:(Az r.d x y).length*S<=190:=by
  unfold EW at hz
  by_cases h8:kz r.d=8
  ·rw[if_pos h8]at hz
   have:(Az r.d x y).length*S<=4*S:=eI _ (NM ok h8 x y)
   omega
  ·rw[if_neg h8]at hz
   have:(Az r.d x y).length*S<=1*S:=eI _ (IX h8 x y)
   omega
 have lp:∃t7,Ay (dN 6) (AN (AH B0 (AA (AH M3 (AA (AB 0) (AA (AB 4) (AA (dOp AK (AB 6) (dC (.int 0))) (AA (dOp AK (AB 6) (dC (.int 1))) AD))))) (AA (AB 5) AD))) (dN 5)) ((Az r.d x y).map ec) (st K (O none) none)=some (.nx t7)/\∃o,nM o/\t7=st K (O (clV f ks (Az r.d x y))) o:=by
  refine A1 (fun(pre:List Cl) τ=>∃o,nM o/\τ=st K (O (clV f ks pre)) o) ⟨none,Ai,rfl⟩ ?_
  rintro pre p post τ e ⟨o,ho,rfl⟩
  have hb:(pre.length+1)*S<=190:=by
   have h1:pre.length+1<=(Az r.d x y).length:=by rw[e,L',X'];omega
   have:(pre.length+1)*S<=(Az r.d x y).length*S:=eI _ h1
   omega
  rw[Nat.add_mul,Nat.one_mul]at hb
  let t4:=st K (O (clV f ks pre)) (some (.d (ec p)))
  obtain⟨ls,em⟩:=hM p.1 p.2
  obtain⟨ll,el⟩:=Nl (hS p.1 p.2) (Ym pre hS) (by omega)
  refine⟨t4,st K (O (clV f ks (pre++[p]))) (some (.d (ec p))),BE (o:=o) rfl ho,?_,_,BC,rfl⟩
  rw[Dq]
  have c1:AH M3 (AA (AB 0) (AA (AB 4) (AA (dOp AK (AB 6) (dC (.int 0))) (AA (dOp AK (AB 6) (dC (.int 1))) AD)))) t4=some (eO (ctV f ks p.1 p.2),t4):=cQ t4 [RW rs,RW ks,.int p.1,.int p.2] rfl rfl em
  exact AX (cQ t4 [eO (ctV f ks p.1 p.2),eO (clV f ks pre)] (acc c1 rfl) rfl el) rfl
 obtain⟨t7,e,o,ho,rfl⟩:=lp
 have it:dIL (AH BU (AA (AB 1) (AA (AB 2) (AA (AB 3) AD)))) (st K (O none) none)=some ((Az r.d x y).map ec,st K (O none) none):=by
  unfold dIL
  rw[cQ (st K (O none) none) [eZ r,.int x,.int y] rfl rfl ecc];rfl
 let V:=clV f ks (Az r.d x y)
 let p6:=st K (O V) o
 refine AV (τ:=p6) ((AE s1).trans ((AE ((As t9).trans rfl)).trans ((AE (t4:=st K (O none) none) rfl).trans ((AE ((BN it).trans e)).trans (AZ ?_))))) rfl rfl
 have t5:=tq (j:=5) (O V) o (by decide)
 show dIf _ _ _ p6=_
 unfold dIf
 rw[show AI (dOp fEq (AH Ao (AA (AB 1) AD)) (dC (.str "glass"))) p6=_ from t5]
 by_cases h5:kz r.d=5
 ·rw[decide_eq_true h5]
  obtain⟨d,hd⟩:∃d,r.d=d:=⟨_,rfl⟩
  cases d with
  |glass p =>
   have i0:AK (eD r.d) (.int 0)=some (ec p):=by rw[hd];rfl
   have eV:V=ctV f ks x y:=by
    show clV f ks (Az r.d x y)=_
    rw[hd];exact GP _
   have eh:hlV f r ks x y=if p=(0,1) then none else (ctV f ks x y).map fun s=>shS s p:=by unfold hlV;rw[hd]
   rw[hd]at ok
   obtain⟨z,ep,hb⟩:=Hj ok
   have hz1:S<=190:=by unfold EW at hz;split at hz<;>omega
   obtain⟨lw,ew⟩:=L6 (y:=z) (hS x y) (by omega) (hb.mono (by decide))
   rw[<- ep,<- eh,<- eV]at ew
   exact CH (a:=AA (AB 5) (AA (dOp AK (AH Ax (AA (AB 1) AD)) (dC (.int 0))) AD)) (t4:=p6) (rs:=[.d (eO V),.d (ec p)]) (ds:=[eO V,ec p]) (acc (t4:=p6) rfl (acc (op2 (x:=eD r.d) (y:=.int 0) (t4:=p6) (l7:=p6) (cQ p6 [eZ r] rfl rfl (GS r)) rfl i0) rfl)) rfl ew
  |_=>rw[hd]at h5;simp[kz]at h5
 ·rw[decide_eq_false h5]
  have eh:hlV f r ks x y=V:=by
   show _=clV f ks (Az r.d x y)
   unfold hlV
   generalize r.d=d at h5 h9
   cases d<;>first|rfl|exact absurd rfl h5|exact absurd rfl h9
  rw[eh];rfl
theorem Sj{f:SF}{r:Rz}(ok:Em r.d){ks:List Rz}{x y:Int}{M0 M1 M2 M3:Mir}(hM:4<=kz r.d->SpO (hlV f r ks x y) (M1 [.d (RW rs),.d (eZ r),.d (.int x),.d (.int y)])) :
  SpO (ptV f r ks x y) (Df M0 M1 M2 M3 [.d (RW rs),.d (eZ r),.d (.int x),.d (.int y)]):=by
 let τ:DS:=[some (.d (RW rs)),some (.d (eZ r)),some (.d (.int x)),some (.d (.int y))]
 have t:AI (AH Bf (AA (AB 1) AD)) τ=some (decide (4<=kz r.d),τ):=tst (cQ τ [eZ r] rfl rfl (Hu r))
 refine⟨[.d (RW rs),.d (eZ r),.d (.int x),.d (.int y)],?_⟩
 unfold Df
 refine AV (τ:=τ) (AZ (t4:=τ) ?_) rfl rfl
 show dIf (AI (AH Bf (AA (AB 1) AD))) (AH M1 (AA (AB 0) (AA (AB 1) (AA (AB 2) (AA (AB 3) AD))))) (AH Cj (AA (AB 1) (AA (AB 2) (AA (AB 3) AD)))) τ=_
 unfold dIf ptV
 rw[t]
 by_cases h:4<=kz r.d
 ·rw[decide_eq_true h,if_pos h]
  obtain⟨ls,e⟩:=hM h
  show AH M1 (AA (AB 0) (AA (AB 1) (AA (AB 2) (AA (AB 3) AD)))) τ=_
  exact cQ τ [RW rs,eZ r,.int x,.int y] rfl rfl e
 ·rw[decide_eq_false h,if_neg h]
  obtain⟨ls,e⟩:=Mw ok (by omega) x y
  show AH Cj (AA (AB 1) (AA (AB 2) (AA (AB 3) AD))) τ=_
  exact cQ τ [eZ r,.int x,.int y] rfl rfl e
theorem Nj(ok:OkZ rs)(vt:VtR rs.reverse)(hl:rs.length<=24):∀(n m:Nat) (r:Rz),Lv rs n r->4*n<=m->∀x y,SpO (spS rs n r x y) (AL m 2 [.d (RW rs),.d (eZ r),.d (.int x),.d (.int y)])
 |0,_,_,h,_,_,_=>by obtain⟨_,_,_,z⟩:=h;exact absurd z (eP _)
 |n+1,m,r,h,hm,x,y=>by
  obtain⟨m',rfl⟩:∃m',m=m'+4:=⟨m-4,by omega⟩
  have hr:=Pa h
  have okd:=(ok.all r (V'.mpr hr)).d
  have hc:=MZ ok vt h
  have ecl:CU rs (n+1) r=DK r ((AO rs r.n).map (CU rs n)).sum:=rfl
  rw[ecl]at hc
  have hw:∀k∈AO rs r.n,∀x y,WV (CU rs n k) (spS rs n k x y):=fun k hk=>Na ok n k (W'.mp hk).1
  refine Sj (M0:=AL (m'+3) 0) (M1:=AL (m'+3) 1) (M2:=AL (m'+3) 2) (M3:=AL (m'+3) 3) okd fun h4=>?_
  have hcd:DK r ((AO rs r.n).map (CU rs n)).sum=EW r.d ((AO rs r.n).map (CU rs n)).sum:=if_pos h4
  rw[hcd]at hc
  have hS:((AO rs r.n).map (CU rs n)).sum<=96:=by
   unfold EW at hc
   split at hc<;>omega
  have kid:∀M,4*n<=M->∀ks,ks.Sublist (AO rs r.n)->∀x y,SpO (ctV (spS rs n) ks x y) (AL (M+1) 3 [.d (RW rs),.d (RW ks),.d (.int x),.d (.int y)]):=fun M hM ks hs x y=>by
   have:=Jg (c:=CU rs n) hs
   exact Of (c:=CU rs n) (M0:=AL M 0) (M1:=AL M 1) (M2:=AL M 2) (M3:=AL M 3) (by omega) (fun k hk=>hw k (hs.subset hk)) (fun k hk=>Nj ok vt hl n M k (Pc ok h (hs.subset hk)) hM) x y
  exact Tw (c:=CU rs n) (M0:=AL (m'+2) 0) (M1:=AL (m'+2) 1) (M2:=AL (m'+2) 2) (M3:=AL (m'+2) 3) (by omega) okd x y (by omega) hw
   (TY (c:=CU rs n) (M0:=AL (m'+1) 0) (M1:=AL (m'+1) 1) (M2:=AL (m'+1) 2) (M3:=AL (m'+1) 3) x y (by omega) hw (fun l hs=>kid m' (by omega) l hs x y))
   (fun x y=>kid (m'+1) (by omega) _ (eL _) x y)
end
theorem Tz:∀{a:List Rz},OkR a->∀k∈a,hsR a k.n=k.n::hsR a k.h
 |[],_,k,hk=>by cases hk
 |r::a,ok,k,hk=>by
  have hne:∀q,(q=t0\/∃w∈a,w.n=q)->r.n≠q:=fun q hq e=>by
   rcases hq with rfl|⟨w,hw,e2⟩
   ·exact ok.2.1.ne e
   ·exact ok.2.2.1 w hw (e2.trans e.symm)
  rcases P'.mp hk with rfl|hk
  ·have h1:hsR (k::a) k.n=k.n::hsR a k.h:=if_pos rfl
   have h2:hsR (k::a) k.h=hsR a k.h:=if_neg (hne k.h ok.2.2.2)
   rw[h1,h2]
  ·have h1:hsR (r::a) k.n=hsR a k.n:=if_neg fun e=>ok.2.2.1 k hk e.symm
   have hh:k.h=t0\/∃w∈a,w.n=k.h:=by
    have:∀{b:List Rz},OkR b->∀k∈b,k.h=t0\/∃w∈b,w.n=k.h:=by
     intro b
     induction b with
     |nil=>intro _ k hk;cases hk
     |cons q b ih =>
      intro o k hk
      rcases P'.mp hk with rfl|hk
      ·rcases o.2.2.2 with z|⟨w,hw,e⟩
       ·exact .inl z
       ·exact .inr ⟨w,C' _ hw,e⟩
      ·rcases ih o.1 k hk with z|⟨w,hw,e⟩
       ·exact .inl z
       ·exact .inr ⟨w,C' _ hw,e⟩
    exact this ok.1 k hk
   have h2:hsR (r::a) k.h=hsR a k.h:=if_neg (hne k.h hh)
   rw[h1,h2]
   exact Tz ok.1 k hk
section
variable {rs:List Rz}
def Kt(rs:List Rz)(z:Tx):Bool:=rs.any fun m=>(decide (kz m.d=9)&&decide (m.n∈hsR rs.reverse z))&&match AO rs m.n with
 |[]=>false
 |k::_=>decide (k.n∈hsR rs.reverse z)
def St(rs:List Rz)(k:Rz):Prop:=∃m∈rs,kz m.d=9/\∃l,AO rs m.n=k::l
def Jd(rs:List Rz)(z:Tx):Prop:=∀a∈rs,a.n∈hsR rs.reverse z->¬St rs a
theorem Ih(ok:OkZ rs){a b:Rz}(ha:a∈rs)(hb:b∈rs)(e:a.n=b.n):a=b:=ok.inj a (V'.mpr ha) b (V'.mpr hb) e
theorem Rg(ok:OkZ rs){k:Rz}(hk:k∈rs):hsR rs.reverse k.n=k.n::hsR rs.reverse k.h:=Tz ok k (V'.mpr hk)
theorem Wm(ok:OkZ rs):∀(n:Nat) (z:Tx),(hsR rs.reverse z).length<=n->(z=t0\/∃q∈rs,q.n=z)->∀a∈rs,a.n∈hsR rs.reverse z->a.h=t0\/a.h∈hsR rs.reverse z
 |n,z,hn,hz,a,ha,h=>by
  rcases hz with rfl|⟨q,hq,rfl⟩
  ·rw[Ku ok]at h;cases h
  ·rw[Rg ok hq]at h hn ⊢
   have hq':q.h=t0\/∃w∈rs,w.n=q.h:=by
    obtain⟨p,s,e⟩:=gC (V'.mpr hq)
    have o:=ok
    unfold OkZ at o
    rw[e]at o
    rcases o.suf.2.2.2 with z|⟨w,hw,e2⟩
    ·exact .inl z
    ·exact .inr ⟨w,V'.mp (by rw[e];exact dW _ (C' _ hw)),e2⟩
   rcases P'.mp h with e|h
   ·have:=Ih ok ha hq e
    subst this
    rcases hq' with z|⟨w,hw,e2⟩
    ·exact .inl z
    ·refine .inr (C' _ ?_)
     rw[<- e2,Rg ok hw]
     exact F'
   ·cases n with
    |zero=>simp at hn
    |succ n =>
     rcases Wm ok n q.h (by simpa using hn) hq' a ha h with z|z
     ·exact .inl z
     ·exact .inr (C' _ z)
theorem OQ(ok:OkZ rs){q:Rz}(hq:q∈rs):Kt rs q.n=false↔Jd rs q.n:=by
 unfold Kt
 rw[List.any_eq_false]
 constructor
 ·rintro h a ha hm ⟨m,hmr,h9,l,el⟩
  refine h m hmr ?_
  have hak:a∈AO rs m.n:=by rw[el];exact F'
  have ham:a.h=m.n:=of_decide_eq_true (W'.mp hak).2
  have hmm:m.n∈hsR rs.reverse q.n:=by
   rcases Wm ok _ q.n (J' _) (.inr ⟨q,hq,rfl⟩) a ha hm with z|z
   ·exact absurd (ham.symm.trans z) (ok.all m (V'.mpr hmr)).ne
   ·rw[<- ham];exact z
  rw[el,decide_eq_true h9,decide_eq_true hmm]
  simpa using hm
 ·intro h m hmr w
  rw[G',G']at w
  obtain⟨⟨w1,w2⟩,w3⟩:=w
  cases ek:AO rs m.n with
  |nil=>rw[ek]at w3;cases w3
  |cons k l =>
   rw[ek]at w3
   have hk:k∈rs:=(W'.mp (show k∈AO rs m.n by rw[ek];exact F')).1
   exact h k hk (of_decide_eq_true w3) ⟨m,hmr,of_decide_eq_true w1,l,ek⟩
theorem Th(ok:OkZ rs){r k:Rz}(hk:k∈AO rs r.n):hsR rs.reverse k.n=k.n::hsR rs.reverse r.n:=by
 obtain⟨h1,h2⟩:=W'.mp hk
 rw[Rg ok h1,show k.h=r.n from of_decide_eq_true h2]
theorem Rj(ok:OkZ rs){k:Rz}(hk:k∈AO rs t0):Jd rs k.n:=by
 obtain⟨h1,h2⟩:=W'.mp hk
 have h2:k.h=t0:=of_decide_eq_true h2
 intro a ha hm
 rw[Rg ok h1,h2,Ku ok]at hm
 have:=Ih ok ha h1 (dq.mp hm)
 subst this
 rintro⟨m,hmr,_,l,el⟩
 have:a∈AO rs m.n:=by rw[el];exact F'
 have:a.h=m.n:=of_decide_eq_true (W'.mp this).2
 exact(ok.all m (V'.mpr hmr)).ne (this.symm.trans h2)
theorem T5(ok:OkZ rs){r k:Rz}(hk:k∈AO rs r.n)(hg:Jd rs r.n)(hs:¬St rs k):Jd rs k.n:=by
 intro a ha hm
 rw[Th ok hk]at hm
 rcases P'.mp hm with e|hm
 ·rw[Ih ok ha (W'.mp hk).1 e];exact hs
 ·exact hg a ha hm
theorem WG(ok:OkZ rs){r k:Rz}(hk:k∈AO rs r.n)(hb:¬Jd rs r.n):¬Jd rs k.n:=fun h=>hb fun a ha hm=>h a ha (by rw[Th ok hk];exact C' _ hm)
theorem VV(ok:OkZ rs)(x:Tx):(AO rs x).Nodup:=by
 have:=IL ok
 have:rs.Nodup:=(gd.mp this).imp fun h e=>h (congrArg _ e)
 exact this.filter _
theorem SJ(ok:OkZ rs){k:Rz}(hk:k∈rs)(h:St rs k):¬Jd rs k.n:=fun g=>g k hk (by rw[Rg ok hk];exact F') h
theorem VX(ok:OkZ rs){r k:Rz}(hr:r∈rs){f:NF}{x y:Int}(hk:k∈Ht f r.d (AO rs r.n) x y):¬St rs k:=by
 have hkk:=(Hr f r.d (AO rs r.n) x y).subset hk
 rintro⟨m,hmr,h9,l,el⟩
 have h1:k∈AO rs m.n:=by rw[el];exact F'
 have e:m.n=r.n:=by
  have a1:k.h=m.n:=of_decide_eq_true (W'.mp h1).2
  have a2:k.h=r.n:=of_decide_eq_true (W'.mp hkk).2
  exact a1.symm.trans a2
 have:=Ih ok hmr hr e
 subst this
 have hd:m.d = .mask:=by
  generalize m.d=d at h9
  cases d<;>first|rfl|exact absurd h9 (by simp[kz])
 rw[hd,el]at hk
 have hn:=VV ok m.n
 rw[el,eC]at hn
 have hk:k∈(if ctN f ((k::l).take 1) x y=[] then [] else (k::l).tail):=hk
 split at hk
 ·cases hk
 ·exact hn.1 hk
theorem Hk(ok:OkZ rs):∀(n:Nat) (r:Rz),r∈rs->∀{x y:Int} {z:Tx},z∈Ba rs n r x y->∃q∈rs,q.n=z/\kz q.d<4/\(Jd rs r.n->Jd rs q.n)/\(¬Jd rs r.n->¬Jd rs q.n)
 |0,_,_,_,_,_,h=>by cases h
 |n+1,r,hr,x,y,z,h=>by
  have h:z∈ptN (Ba rs n) r (AO rs r.n) x y:=h
  unfold ptN at h
  split at h
  ·obtain⟨c,_,hz⟩:=gK.mp h
   obtain⟨k,hk,x',y',hz⟩:=NJ hz
   have hkk:=(Hr (Ba rs n) r.d (AO rs r.n) x y).subset hk
   obtain⟨q,h1,h2,h3,h4,h5⟩:=Hk ok n k (W'.mp hkk).1 hz
   exact⟨q,h1,h2,h3,fun g=>h4 (T5 ok hkk g (VX ok hr hk)),fun g=>h5 (WG ok hkk g)⟩
  ·rename_i h4
   unfold lfN at h
   split at h
   ·exact⟨r,hr,(dq.mp h).symm,by omega,id,id⟩
   ·cases h
def hid(H:List Tx)(r:Rz):Rz:={ r with s:=r.s&&!decide (r.n∈H) }
variable {H:List Tx}
theorem Hv(H:List Tx)(x:Tx):AO (rs.map (hid H)) x=(AO rs x).map (hid H):=by
 unfold AO
 rw[List.filter_map];rfl
theorem Wn{r q:Rz}(ok:Em r.d)(hk:kz r.d<4)(e:q.d=r.d)(x y:Int):Gm q x y=Gm r x y:=by
 obtain⟨_,l1,e1⟩:=Kx ok hk x y
 obtain⟨_,l2,e2⟩:=Kx (r:=q) (by rw[e];exact ok) (by rw[e];exact hk) x y
 rw[e]at e2
 have:=e1.symm.trans e2
 have:=congrArg (fun o=>o.map Prod.fst) this
 simp only[Option.map_some,Option.some.injEq,PyData.bool.injEq]at this
 exact this.symm
def HH(rs:List Rz)(H:List Tx):Prop:=∀z∈H,∃q∈rs,q.n=z/\kz q.d<4/\Jd rs q.n
theorem Qs{f g:SF}{h:Rz->Rz}(x y:Int):∀{ks:List Rz},(∀k∈ks,∀a:Option Sp,(if (h k).s=true then C0 (f (h k) (x-(h k).x) (y-(h k).y)) a else a)=if k.s=true then C0 (g k (x-k.x) (y-k.y)) a else a)->ctV f (ks.map h) x y=ctV g ks x y:=by
 intro ks hk
 unfold ctV
 rw[List.foldl_map]
 generalize (none:Option Sp)=a
 induction ks generalizing a with
 |nil=>rfl
 |cons k ks ih =>
  rw[iI,iI,hk k F']
  exact ih (fun q hq=>hk q (C' _ hq)) _
theorem YT{f:SF}(x y:Int):∀{ks:List Rz},(∀k∈ks,k.s=true->f k (x-k.x) (y-k.y)=none)->ctV f ks x y=none:=by
 intro ks hk
 induction ks using Di with
 |h0=>rfl
 |h l k ih =>
  rw[Fz,ih fun q hq=>hk q (dY _ hq)]
  split
  ·rename_i hs;rw[hk k (by simp) hs];rfl
  ·rfl
theorem Yn{f:SF}{ks:List Rz}:∀{cs:List Cl},(∀c∈cs,ctV f ks c.1 c.2=none)->clV f ks cs=none:=by
 intro cs hc
 induction cs using Di with
 |h0=>rfl
 |h l c ih=>rw[Dq,ih fun q hq=>hc q (dY _ hq),hc c (by simp)];rfl
theorem V0{f g:SF}{ks ls:List Rz}:∀{cs:List Cl},(∀c∈cs,ctV f ks c.1 c.2=ctV g ls c.1 c.2)->clV f ks cs=clV g ls cs:=by
 intro cs hc
 induction cs using Di with
 |h0=>rfl
 |h l c ih=>rw[Dq,Dq,ih fun q hq=>hc q (dY _ hq),hc c (by simp)]
theorem XB{n:Nat}{r:Rz}{x y:Int}(h:Ba rs n r x y=[]):spS rs n r x y=none:=by
 have:=P9 rs n r x y
 rw[h]at this
 cases e:spS rs n r x y with
 |none=>rfl
 |some s=>rw[e]at this;cases this
theorem Wx{f:NF}{ks:List Rz}{x y:Int}{P:Tx->Prop}(h:∀z∈ctN f ks x y,P z){k:Rz}(hk:k∈ks)(hs:k.s=true):∀z∈f k (x-k.x) (y-k.y),P z:=fun z hz=>h z (gK.mpr ⟨k,V'.mpr hk,by rw[if_pos hs];exact hz⟩)
theorem T3(ok:OkZ rs)(hH:HH rs H)(n:Nat){ks:List Rz}(hin:∀k∈ks,k∈rs)(x y:Int)(ih:∀k∈ks,∀x y,(∀z∈Ba rs n k x y,z∉H)->spS (rs.map (hid H)) n (hid H k) x y=spS rs n k x y)(hc:∀z∈ctN (Ba rs n) ks x y,z∉H):ctV (spS (rs.map (hid H)) n) (ks.map (hid H)) x y=ctV (spS rs n) ks x y:=by
 refine Qs x y fun k hk a=>?_
 have hkr:=hin k hk
 show(if (k.s&&!decide (k.n∈H))=true then C0 (spS (rs.map (hid H)) n (hid H k) (x-k.x) (y-k.y)) a else a)=_
 cases hsk:k.s with
 |false=>rfl
 |true =>
  have hc':=Wx hc hk hsk
  by_cases hm:k.n∈H
  ·obtain⟨q,hq,eq,k4,_⟩:=hH k.n hm
   have:=Ih ok hq hkr eq
   subst this
   have e0:Ba rs n q (x-q.x) (y-q.y)=[]:=by
    cases n with
    |zero=>rfl
    |succ n =>
     show ptN _ q _ _ _=[]
     have hc':∀z∈ptN (Ba rs n) q (AO rs q.n) (x-q.x) (y-q.y),z∉H:=hc'
     unfold ptN at hc' ⊢
     rw[if_neg (by omega)]at hc' ⊢
     unfold lfN at hc' ⊢
     split
     ·rename_i w
      rw[if_pos w]at hc'
      exact absurd hm (hc' q.n (by simp))
     ·rfl
   rw[decide_eq_true hm,XB e0];rfl
  ·rw[decide_eq_false hm,ih k hk _ _ hc'];rfl
theorem Ql(n:Nat){ks:List Rz}(x y:Int)(ih:∀k∈ks,k.n∉H->∀x y,(∀z∈Ba rs n k x y,z∈H)->spS (rs.map (hid H)) n (hid H k) x y=none)(hc:∀z∈ctN (Ba rs n) ks x y,z∈H):ctV (spS (rs.map (hid H)) n) (ks.map (hid H)) x y=none:=by
 refine YT x y fun k' hk' hs'=>?_
 obtain⟨k,hk,rfl⟩:=df.mp hk'
 have hs':(k.s&&!decide (k.n∈H))=true:=hs'
 rw[G']at hs'
 have hm:k.n∉H:=fun w=>by rw[decide_eq_true w]at hs';cases hs'.2
 exact ih k hk hm _ _ (Wx hc hk hs'.1)
theorem Kv(ok:OkZ rs)(hH:HH rs H):∀(n:Nat) (r:Rz),r∈rs->∀x y,(∀z∈Ba rs n r x y,z∉H)->spS (rs.map (hid H)) n (hid H r) x y=spS rs n r x y
 |0,_,_,_,_,_=>rfl
 |n+1,r,hr,x,y,hz=>by
  have okd:=(ok.all r (V'.mpr hr)).d
  show ptV (spS (rs.map (hid H)) n) (hid H r) (AO (rs.map (hid H)) r.n) x y=ptV (spS rs n) r (AO rs r.n) x y
  rw[Hv]
  have hz:∀z∈ptN (Ba rs n) r (AO rs r.n) x y,z∉H:=hz
  have hin:∀k∈AO rs r.n,k∈rs:=fun k hk=>(W'.mp hk).1
  have ct:∀{ks:List Rz} (x y:Int),ks.Sublist (AO rs r.n)->(∀z∈ctN (Ba rs n) ks x y,z∉H)->ctV (spS (rs.map (hid H)) n) (ks.map (hid H)) x y=ctV (spS rs n) ks x y:=fun {ks} x y hs hc=>T3 ok hH n (fun k hk=>hin k (hs.subset hk)) x y (fun k hk=>Kv ok hH n k (hin k (hs.subset hk))) hc
  unfold ptV
  by_cases h4:4<=kz r.d
  ·rw[if_pos (show 4<=kz (hid H r).d from h4),if_pos h4]
   unfold ptN at hz
   rw[if_pos h4]at hz
   obtain⟨d,hd⟩:∃d,r.d=d:=⟨_,rfl⟩
   have hd':(hid H r).d=d:=hd
   unfold hlN at hz
   unfold hlV
   rw[hd']
   rw[hd]at hz ⊢
   cases d with
   |glass p =>
    have hz:∀z∈ctN (Ba rs n) (if p=(0,1) then [] else AO rs r.n) x y++[],z∉H:=hz
    rw[dz]at hz
    show(if p=(0,1) then none else (ctV _ _ x y).map fun s=>shS s p)=if p=(0,1) then none else (ctV _ _ x y).map fun s=>shS s p
    by_cases hp:p=(0,1)
    ·rw[if_pos hp,if_pos hp]
    ·rw[if_neg hp]at hz
     rw[if_neg hp,if_neg hp,ct x y (eL _) hz]
   |mask =>
    have hz:∀z∈ctN (Ba rs n) (if ctN (Ba rs n) ((AO rs r.n).take 1) x y=[] then [] else (AO rs r.n).tail) x y++[],z∉H:=hz
    rw[dz]at hz
    show((ctV _ (((AO rs r.n).map (hid H)).take 1) x y).bind fun t=>(ctV _ ((AO rs r.n).map (hid H)).tail x y).map fun s=>shS s t.2)=(ctV _ ((AO rs r.n).take 1) x y).bind fun t=>(ctV _ (AO rs r.n).tail x y).map fun s=>shS s t.2
    rw [<- List.map_take, <- gs, ct x y (fG _ _) (fun z hz' w => by
     obtain⟨k,hk,x',y',hk'⟩:=NJ hz'
     have hkk:=(fG 1 (AO rs r.n)).subset hk
     have st:St rs k:=by
      cases ek:AO rs r.n with
      |nil=>rw[ek]at hk;cases hk
      |cons a l =>
       rw[ek]at hk
       have hk:k∈[a]:=hk
       rw[dq.mp hk]
       exact⟨r,hr,by rw[hd];rfl,l,ek⟩
     obtain⟨q,h1,h2,_,_,h5⟩:=Hk ok n k (hin k hkk) hk'
     obtain⟨q',h1',h2',_,g⟩:=hH z w
     have:=Ih ok h1 h1' (h2.trans h2'.symm)
     subst this
     exact h5 (SJ ok (hin k hkk) st) g)]
    have e1:=MM (f:=spS rs n) (g:=Ba rs n) (ks:=(AO rs r.n).take 1) x y fun k _=>P9 rs n k
    cases hc:ctV (spS rs n) ((AO rs r.n).take 1) x y with
    |none=>rfl
    |some t =>
     rw[hc]at e1
     rw[if_neg fun w=>by rw[w]at e1;cases e1]at hz
     rw[ct x y (ff _) hz]
   |_=>exact V0 fun c hc=>ct c.1 c.2 (eL _) fun z hz'=>hz z (gK.mpr ⟨c,V'.mpr hc,hz'⟩)
  ·rw[if_neg (show ¬4<=kz (hid H r).d from h4),if_neg h4]
   unfold lfV
   rw[Wn (q:=hid H r) okd (by omega) rfl];rfl
theorem OP(ok:OkZ rs)(hH:HH rs H):∀(n:Nat) (r:Rz),r∈rs->r.n∉H->∀x y,(∀z∈Ba rs n r x y,z∈H)->spS (rs.map (hid H)) n (hid H r) x y=none
 |0,_,_,_,_,_,_=>rfl
 |n+1,r,hr,hn,x,y,hz=>by
  have okd:=(ok.all r (V'.mpr hr)).d
  show ptV (spS (rs.map (hid H)) n) (hid H r) (AO (rs.map (hid H)) r.n) x y=none
  rw[Hv]
  have hz:∀z∈ptN (Ba rs n) r (AO rs r.n) x y,z∈H:=hz
  have hin:∀k∈AO rs r.n,k∈rs:=fun k hk=>(W'.mp hk).1
  have ct:∀{ks:List Rz} (x y:Int),ks.Sublist (AO rs r.n)->(∀z∈ctN (Ba rs n) ks x y,z∈H)->ctV (spS (rs.map (hid H)) n) (ks.map (hid H)) x y=none:=fun {ks} x y hs hc=>Ql n x y (fun k hk hm=>OP ok hH n k (hin k (hs.subset hk)) hm) hc
  unfold ptV
  by_cases h4:4<=kz r.d
  ·rw[if_pos (show 4<=kz (hid H r).d from h4)]
   unfold ptN at hz
   rw[if_pos h4]at hz
   obtain⟨d,hd⟩:∃d,r.d=d:=⟨_,rfl⟩
   have hd':(hid H r).d=d:=hd
   unfold hlN at hz
   unfold hlV
   rw[hd']
   rw[hd]at hz
   cases d with
   |glass p =>
    have hz:∀z∈ctN (Ba rs n) (if p=(0,1) then [] else AO rs r.n) x y++[],z∈H:=hz
    rw[dz]at hz
    show(if p=(0,1) then none else (ctV _ _ x y).map fun s=>shS s p)=none
    by_cases hp:p=(0,1)
    ·rw[if_pos hp]
    ·rw[if_neg hp]at hz
     rw[if_neg hp,ct x y (eL _) hz];rfl
   |mask =>
    have hz:∀z∈ctN (Ba rs n) (if ctN (Ba rs n) ((AO rs r.n).take 1) x y=[] then [] else (AO rs r.n).tail) x y++[],z∈H:=hz
    rw[dz]at hz
    show((ctV _ (((AO rs r.n).map (hid H)).take 1) x y).bind fun t=>(ctV _ ((AO rs r.n).map (hid H)).tail x y).map fun s=>shS s t.2)=none
    rw[<- List.map_take,<- gs]
    have es:ctV (spS (rs.map (hid H)) n) (((AO rs r.n).take 1).map (hid H)) x y=ctV (spS rs n) ((AO rs r.n).take 1) x y:=by
     refine Qs x y fun k hk a=>?_
     have hkk:=(fG 1 (AO rs r.n)).subset hk
     have st:St rs k:=by
      cases ek:AO rs r.n with
      |nil=>rw[ek]at hk;cases hk
      |cons a l =>
       rw[ek]at hk
       have hk:k∈[a]:=hk
       rw[dq.mp hk]
       exact⟨r,hr,by rw[hd];rfl,l,ek⟩
     have bad:=SJ ok (hin k hkk) st
     have hm:k.n∉H:=fun w=>by
      obtain⟨q',h1',h2',_,g⟩:=hH k.n w
      rw[Ih ok h1' (hin k hkk) h2']at g
      exact bad g
     show(if (k.s&&!decide (k.n∈H))=true then C0 (spS (rs.map (hid H)) n (hid H k) (x-k.x) (y-k.y)) a else a)=_
     rw [decide_eq_false hm, Kv ok hH n k (hin k hkk) _ _ (fun z hz' w => by
      obtain⟨q,h1,h2,_,_,h5⟩:=Hk ok n k (hin k hkk) hz'
      obtain⟨q',h1',h2',_,g⟩:=hH z w
      have:=Ih ok h1 h1' (h2.trans h2'.symm)
      subst this
      exact h5 bad g)]
     cases k.s<;>rfl
    rw[es]
    have e1:=MM (f:=spS rs n) (g:=Ba rs n) (ks:=(AO rs r.n).take 1) x y fun k _=>P9 rs n k
    cases hc:ctV (spS rs n) ((AO rs r.n).take 1) x y with
    |none=>rfl
    |some t =>
     rw[hc]at e1
     rw[if_neg fun w=>by rw[w]at e1;cases e1]at hz
     rw[ct x y (ff _) hz];rfl
   |_=>exact Yn fun c hc=>ct c.1 c.2 (eL _) fun z hz'=>hz z (gK.mpr ⟨c,V'.mpr hc,hz'⟩)
  ·rw[if_neg (show ¬4<=kz (hid H r).d from h4)]
   unfold ptN lfN at hz
   rw[if_neg h4]at hz
   unfold lfV
   rw[Wn (q:=hid H r) okd (by omega) rfl]
   split
   ·rename_i w
    have w:(Ae r.d).2≠(0,1)/\Gm r x y=true:=w
    rw[if_pos w]at hz
    exact absurd (hz r.n (by simp)) hn
   ·rfl
end
section
variable {rs:List Rz}
theorem cy(t:Tx)(ts:List Tx):fIn true (eT t) (.tuple (ts.map eT))=some (.bool (!decide (t∈ts))):=by
 simp only[DL.fIn,encT.ok,encT.okL,encT.any,Bool.and_self,if_true]
 exact congrArg (fun b=>some (PyData.bool (!b))) (decide_eq_decide.mpr f9)
theorem dM(a b:List Tx)(h:a.length+b.length<=900):Ro (NL a) (NL b)=some (NL (a++b)):=by
 show(if (a.map eT).length+(b.map eT).length<=sizeLine then some (PyData.list (a.map eT++b.map eT)) else none)=_
 rw[if_pos (by rw[B',B'];exact sz (by omega)),<- eB]
theorem NH{l:List Tx}(hz:l.length<=800):∃ls,D1 [.d (NL l)]=some (NL (onF [] l),ls):=by
 let st:List Tx->Option L->DS:=fun a o=>[some (.d (NL l)),some (.m (a.map eT)),o]
 have lp:∃t7,Ay (dN 2) (AR (Bt 1 (AI (dOp (fIn true) (AB 2) (AB 1)))) (A3 (dMt 1 Ap (AA (AB 2) AD))) AU) (l.map eT) (st [] none)=some (.nx t7)/\∃o,nM o/\t7=st (onF [] l) o:=by
  refine A1 (fun(pre:List Tx) τ=>∃o,nM o/\τ=st (onF [] pre) o) ⟨none,Ai,rfl⟩ ?_
  rintro pre k post τ e ⟨o,ho,rfl⟩
  have hl:=Bu e
  have h1:=Jk (l:=pre) (S:=[])
  let A:=onF [] pre
  let t4:=st A (some (.d (eT k)))
  have hm:k∈A↔k∈pre:=onF_mem.trans (by simp)
  have t:Bt 1 (AI (dOp (fIn true) (AB 2) (AB 1))) t4=some (!decide (k∈A),t4):=by
   let n9:DS:=[some (.d (NL l)),some (.d (NL A)),some (.d (eT k))]
   refine Jf (i:=1) (xs:=A.map eT) (t4:=n9) rfl (tst (op2 (x:=eT k) (y:=NL A) (t4:=n9) (l7:=n9) rfl rfl (Tv _ _))) ?_
   rfl
  refine⟨t4,st (onF [] (pre++[k])) (some (.d (eT k))),BE (o:=o) rfl ho,?_,_,BC,rfl⟩
  rw[S6]
  by_cases hk:k∈pre
  ·rw[decide_eq_true (hm.mpr hk)]at t
   rw[if_pos hk,dz]
   exact(As t).trans rfl
  ·rw[decide_eq_false fun w=>hk (hm.mp w)]at t
   rw[if_neg hk]
   refine(Au t).trans ((P0 (i:=1) (d:=eT k) (xs:=A.map eT) (t4:=t4) rfl rfl (by rw[B'];show(onF [] pre).length<900;omega)).trans ?_)
   show some (Out.nx [_,some (.m (A.map eT++[eT k])),_])=some (Out.nx (st (A++[k]) (some (.d (eT k)))))
   have:A.map eT++[eT k]=(A++[k]).map eT:=by rw[eB];rfl
   rw[this]
 obtain⟨t7,e,o,ho,rfl⟩:=lp
 refine⟨[.d (NL l)],?_⟩
 unfold D1
 refine AV (τ:=st (onF [] l) o) ?_ rfl rfl
 exact(AE (t4:=st [] none) rfl).trans ((AE ((BN (ds:=l.map eT) (t4:=st [] none) rfl).trans e)).trans rfl)
theorem HZ(ok:OkZ rs)(vt:VtR rs.reverse)(hl:rs.length<=24):((AO rs t0).map (CU rs 24)).sum<=96:=by
 have:=Tg ok vt (n:=24) hl t0 (.inl rfl)
 omega
theorem Nh(ok:OkZ rs)(vt:VtR rs.reverse)(hl:rs.length<=24)(x y:Int):(ctN (Ba rs 24) (AO rs t0) x y).length<=96:=by
 have h1:=NI (f:=Ba rs 24) (c:=CU rs 24) (ks:=AO rs t0) (x:=x) (y:=y) (fun k hk=>Jm ok 24 k (W'.mp hk).1)
 have:=HZ ok vt hl
 omega
theorem S0(ok:OkZ rs)(vt:VtR rs.reverse)(hl:rs.length<=24)(x y:Int):∃ls,CQ [.d (RW rs),.d (.int x),.d (.int y)]=some (NL (onF [] (ctN (Ba rs 24) (AO rs t0) x y)),ls):=by
 obtain⟨lk,ek⟩:=EF (rs:=rs) (by omega) t0
 have hz:=Nh ok vt hl x y
 have ec':=K8 (rs:=rs) (f:=Ba rs 24) (ks:=AO rs t0) (x:=x) (y:=y) (M0:=AJ 119 0) (M1:=AJ 119 1) (M2:=AJ 119 2) (M3:=AJ 119 3) (by omega) (fun k hk=>OC ok vt hl 24 119 k (Pb hl (W'.mp hk).1) (by omega))
 obtain⟨lo,eo⟩:=NH (l:=ctN (Ba rs 24) (AO rs t0) x y) (by omega)
 let τ:DS:=[some (.d (RW rs)),some (.d (.int x)),some (.d (.int y))]
 refine⟨[.d (RW rs),.d (.int x),.d (.int y)],?_⟩
 unfold CQ
 refine AV (τ:=τ) (AZ ?_) rfl rfl
 have c1:AH BF (AA (AB 0) (AA (dC (.str "")) AD)) τ=some (RW (AO rs t0),τ):=cQ τ [RW rs,eT t0] rfl rfl ek
 have c2:AH m_content_names (AA (AB 0) (AA (AH BF (AA (AB 0) (AA (dC (.str "")) AD))) (AA (AB 1) (AA (AB 2) AD)))) τ=some (NL (ctN (Ba rs 24) (AO rs t0) x y),τ):=cQ τ [RW rs,RW (AO rs t0),.int x,.int y] (acc (t4:=τ) rfl (acc c1 rfl)) rfl ec'
 exact cQ τ [NL (ctN (Ba rs 24) (AO rs t0) x y)] (acc (a:=AD) c2 rfl) rfl eo
end
theorem UL{rs:List Rz}(ok:OkZ rs)(hl:rs.length<=40){a:Tx}(ha:∃q∈rs,q.n=a):∃ls,Ei [.d (.list (rs.map eZ)),.d (eT a)]=some (.list ((hsR rs.reverse a).tail.map eT),ls):=by
 let R:Option L:=some (.d (.list (rs.map eZ)))
 let T:Tx->Option L:=fun a=>some (.d (eT a))
 let M:List Tx->Option L:=fun l=>some (.m (l.map eT))
 let G:List Rz->Option L:=fun l=>some (.g (.dict (kvZ l)))
 let st:List Rz->Option L->DS:=fun l o=>[R,T a,G l,o,none]
 have lp:∃t7,Ay (dN 3) (Hx 2 (AB 3) (dOp AK (AB 3) (dC (.int 0)))) (rs.map eZ) (st [] none)=some (.nx t7)/\∃o,nM o/\t7=st rs o:=by
  refine A1 (fun pre τ=>∃o,nM o/\τ=st pre o) ⟨none,Ai,rfl⟩ ?_
  rintro pre r post τ e ⟨o,ho,rfl⟩
  have hz:=Bu e
  refine⟨st pre (some (.d (eZ r))),st (pre++[r]) (some (.d (eZ r))),BE (o:=o) rfl ho,?_,_,BC,rfl⟩
  refine(QN (d:=eZ r) (x:=r.n.1) (kv0:=kvZ pre) (kvs:=kvZ pre) (t4:=st pre (some (.d (eZ r)))) (l7:=st pre (some (.d (eZ r)))) rfl rfl (oQ (eZ r) (.int 0) (st pre (some (.d (eZ r)))) rfl rfl rfl) rfl (encZ.fix r) ?_).trans ?_
  ·rw[show(kvZ pre).length=pre.length from B' ..];omega
  ·rw[Se (NZ ok e)];rfl
 obtain⟨t7,e1,o,ho,rfl⟩:=lp
 let C:DT:=AI (Lo false (AB 1) 2)
 let B:DB:=AM (A3 (dMt 4 Ap (AA (AB 1) AD))) (AN (dOp AK (Ln 2 (AB 1)) (dC (.int 1))) (dN 1))
 let sw:Tx->List Tx->DS:=fun a l=>[R,T a,G rs,o,M l]
 have cT:∀b l,C (sw b l)=some ((Ll rs b).isSome,sw b l):=fun b l=>by
  refine tst ?_
  rw[Tu (x:=b.1) (kvs:=kvZ rs) (t4:=sw b l) rfl rfl,IV,gf]
 have wl:∀(ah post:List Rz) (b:Tx) (l:List Tx) (n:Nat),rs.reverse=post++ah->(b=t0\/∃q∈ah,q.n=b)->ah.length<n->l.length+ah.length<=60->∃b',dWh C B n (sw b l)=some (.nx (sw b' (l++hsR ah b))):=by
  have stop:∀(ah:List Rz) (l:List Tx) (n:Nat),OkR ah->0<n->∃b',dWh C B n (sw t0 l)=some (.nx (sw b' (l++hsR ah t0))):=fun ah l n oa hn=>by
   obtain⟨n,rfl⟩:∃m,n=m+1:=⟨n-1,by omega⟩
   refine⟨t0,?_⟩
   rw[Ku oa,dz]
   refine ZX (t4:=sw t0 l) ?_
   rw[cT,YG ok];rfl
  intro ah
  induction ah with
  |nil =>
   intro post b l n e hb hn _
   rcases hb with rfl|⟨q,hq,_⟩
   ·exact stop [] l n trivial (by omega)
   ·cases hq
  |cons r ah ih =>
   intro post b l n e hb hn hz
   have okr:OkR (r::ah):=(show OkR (post++r::ah) from e▸ok).suf
   rcases hb with rfl|⟨q,hq,hqb⟩
   ·exact stop (r::ah) l n okr (by omega)
   simp only[List.length_cons]at hn hz
   by_cases h:r.n=b
   ·obtain⟨n,rfl⟩:∃m,n=m+1:=⟨n-1,by omega⟩
    have hr:r∈rs:=V'.mp (e▸dW _ F')
    have hf:Ll rs b=some r:=h▸OT ok hr
    obtain⟨b',e2⟩:=ih (post++[r]) r.h (l++[b]) n (by rw[e];simp) okr.2.2.2 (by omega) (by rw[L'];simp only[List.length_cons,List.length_nil];omega)
    refine⟨b',(ZW (t4:=sw b l) (l7:=sw r.h (l++[b])) ?_ ?_).trans (e2.trans ?_)⟩
    ·rw[cT,hf];rfl
    ·have s1:A3 (dMt 4 Ap (AA (AB 1) AD)) (sw b l)=some (.nx (sw b (l++[b]))):=by
      refine(P0 (i:=4) (d:=eT b) (xs:=l.map eT) (t4:=sw b l) rfl rfl (by rw[B'];omega)).trans ?_
      show some (Out.nx [R,T b,G rs,o,some (.m (l.map eT++[eT b]))])=_
      rw[show l.map eT++[eT b]=(l++[b]).map eT by rw[eB];rfl]
     exact(AE s1).trans (AX (d:=eT r.h) (t4:=sw b (l++[b])) (oQ (eZ r) (.int 1) (sw b (l++[b])) (Tj (x:=b.1) (kv0:=kvZ rs) (kvs:=kvZ rs) (t4:=sw b (l++[b])) rfl rfl rfl (by rw[IV,hf];rfl)) rfl rfl) rfl)
    ·rw[show hsR (r::ah) b=b::hsR ah r.h from by rw[hsR,if_pos h],fP]
     rfl
   ·have:∃q∈ah,q.n=b:=by
     rcases P'.mp hq with rfl|hq
     ·exact absurd hqb h
     ·exact⟨q,hq,hqb⟩
    obtain⟨b',e2⟩:=ih (post++[r]) b l n (by rw[e];simp) (.inr this) (by omega) (by omega)
    refine⟨b',e2.trans ?_⟩
    rw[show hsR (r::ah) b=hsR ah b from by rw[hsR,if_neg h]]
 obtain⟨b',e2⟩:=wl rs.reverse [] a [] 100 rfl (.inr (let ⟨q,hq,e⟩:=ha;⟨q,V'.mpr hq,e⟩)) (by rw[e8];omega) (by rw[e8,iK];omega)
 rw[gR]at e2
 refine⟨[.d (.list (rs.map eZ)),.d (eT a)],?_⟩
 unfold Ei
 let xs:=(hsR rs.reverse a).map eT
 refine AV (τ:=sw b' (hsR rs.reverse a)) ?_ rfl rfl
 refine(AE (t4:=st [] none) rfl).trans ((AE ((BN (ds:=rs.map eZ) (t4:=st [] none) rfl).trans e1)).trans ((AE (t4:=sw a []) rfl).trans ((AE (t4:=sw b' (hsR rs.reverse a)) (WQ e2)).trans (AZ ?_))))
 rw[gs,<- YM]
 have hok:okM o=true:=Fj ho
 refine dO (i:=4) (xs:=xs) rfl rfl ?_ ?_
 ·rw[YM,<- gs];exact encT.fixL _
 ·show(true&&(true&&(true&&(okM o&&(true&&true)))))=true
  rw[hok];rfl
def smz(r:Rz):Rz:={ r with d:=if 4<=kz r.d then .group else .plate (1+(r.n.1.length:Int) % 2) (1+r.x % 2) (Ae r.d).1 (Ae r.d).2 }
theorem Zq(r:Rz):4<=kz (smz r).d↔4<=kz r.d:=by
 unfold smz
 by_cases h:4<=kz r.d
 ·rw[if_pos h];exact⟨fun _=>h,fun _=>by show 4<=4;decide⟩
 ·rw[if_neg h];exact⟨fun w=>absurd (show 4<=0 from w) (by decide),fun w=>absurd w h⟩
theorem Zr(r:Rz):kz (smz r).d≠8:=by
 unfold smz
 by_cases h:4<=kz r.d
 ·rw[if_pos h];show(4:Nat)≠8;decide
 ·rw[if_neg h];show(0:Nat)≠8;decide
theorem XC{r:Rz}(ok:OkRow r):OkRow (smz r):=by
 refine⟨ok.n1,ok.n8,ok.na,ok.x0,ok.x1,ok.y0,ok.y1,?_⟩
 unfold smz
 by_cases h:4<=kz r.d
 ·rw[if_pos h];exact trivial
 ·rw[if_neg h]
  obtain⟨o1,o2⟩:=He ok.d (by omega)
  exact⟨by omega,by omega,by omega,by omega,o1,o2⟩
theorem TL:∀{a:List Rz},OkR a->OkR (a.map smz)
 |[],_=>trivial
 |r::a,⟨h1,h2,h3,h4⟩=>by
  refine⟨TL h1,XC h2,fun q hq=>?_,?_⟩
  ·obtain⟨p,hp,rfl⟩:=df.mp hq
   exact h3 p hp
  ·rcases h4 with h4|⟨q,hq,e⟩
   ·exact .inl h4
   ·exact .inr ⟨smz q,df.mpr ⟨q,hq,rfl⟩,e⟩
theorem Pg:∀(a:List Rz) (n:Tx),hsR (a.map smz) n=hsR a n
 |[],_=>rfl
 |r::a,n=>by
  show(if r.n=n then n::hsR (a.map smz) r.h else hsR (a.map smz) n)=if r.n=n then n::hsR a r.h else hsR a n
  rw[Pg a,Pg a]
theorem WR:∀{a:List Rz},VtR a->VtR (a.map smz)
 |[],_=>trivial
 |r::a,⟨h1,h2,_⟩=>by
  refine⟨WR h1,?_,fun w=>absurd w (Zr r)⟩
  rcases h2 with h2|⟨q,hq,e,k,l⟩
  ·exact .inl h2
  ·exact .inr ⟨smz q,df.mpr ⟨q,hq,rfl⟩,e,(Zq q).mpr k,by rw[Pg];exact l⟩
theorem SK{r:Rz}(ok:OkRow r):∃ls,Ef [.d (eZ r)]=some (eZ (smz r),ls):=by
 let τ:DS:=[some (.d (eZ r))]
 have lf:AI (dOp (fIn false) (dOp AK (AB 0) (dC (.int 5))) (ET (AH Bb AD) (dPt (dC (.int 6))) CK)) τ=some (decide (4<=kz r.d),τ):=by
  refine tst (oQ (eT (kS (kz r.d))) (.tuple (KH.map eT)) τ rfl M6 ?_)
  rw[inT]
  congr 3
  exact propext (M7 (C1 _))
 refine⟨[.d (eZ r)],?_⟩
 unfold Ef
 refine AV (τ:=τ) ?_ rfl rfl
 by_cases h:4<=kz r.d
 ·rw[decide_eq_true h]at lf
  have e:eZ (smz r) = .tuple [eT r.n,eT r.h,.int r.x,.int r.y,.bool r.s,.str "group",.tuple []]:=by
   unfold smz
   rw[if_pos h];rfl
  rw[e]
  exact Ad ((Au lf).trans rfl)
 ·rw[decide_eq_false h]at lf
  have e:eZ (smz r) = .tuple [eT r.n,eT r.h,.int r.x,.int r.y,.bool r.s,.str "plate",.tuple [.int (1+(r.n.1.length:Int) % 2),.int (1+r.x % 2),ec (Ae r.d).1,ec (Ae r.d).2]]:=by
   unfold smz
   rw[if_neg h];rfl
  rw[e]
  obtain⟨j1,j2⟩:=Hf (d:=r.d) (by omega)
  have n8:=ok.n8
  have ln:=QV (t:=r.n.1) (by omega)
  have w1:dOp Af (dC (.int 1)) (dOp Ac (Ah BO (AA (dOp AK (AB 0) (dC (.int 0))) AD)) (dC (.int 2))) τ=some (.int (1+(r.n.1.length:Int) % 2),τ):=oQ (.int 1) (.int ((r.n.1.length:Int) % 2)) τ rfl (oQ (.int (r.n.1.length:Int)) (.int 2) τ (LF (d:=eT r.n) (t4:=τ) rfl ln) rfl (BM (by decide))) rfl
  have w2:dOp Af (dC (.int 1)) (dOp Ac (dOp AK (AB 0) (dC (.int 2))) (dC (.int 2))) τ=some (.int (1+r.x % 2),τ):=oQ (.int 1) (.int (r.x % 2)) τ rfl (oQ (.int r.x) (.int 2) τ rfl rfl (BM (by decide))) rfl
  have w3:dOp AK (dOp AK (AB 0) (dC (.int 6))) (dUn Bm (dC (.int 2))) τ=some (ec (Ae r.d).1,τ):=oQ (eD r.d) (.int (-2)) τ rfl rfl j1
  have w4:dOp AK (dOp AK (AB 0) (dC (.int 6))) (dUn Bm (dC (.int 1))) τ=some (ec (Ae r.d).2,τ):=oQ (eD r.d) (.int (-1)) τ rfl rfl j2
  have w5:=Eo (ds:=[.int (1+(r.n.1.length:Int) % 2),.int (1+r.x % 2),ec (Ae r.d).1,ec (Ae r.d).2]) (acc w1 (acc w2 (acc w3 (acc (a:=AD) w4 rfl)))) rfl (by show 4<=1000;decide)
  have w6:=Eo (ds:=[.str "plate",.tuple [.int (1+(r.n.1.length:Int) % 2),.int (1+r.x % 2),ec (Ae r.d).1,ec (Ae r.d).2]]) (acc (f:=dC (.str "plate")) (t4:=τ) rfl (acc (a:=AD) w5 rfl)) rfl (by show 2<=1000;decide)
  exact(AE ((As lf).trans rfl)).trans (AZ (op2 (x:=.tuple [eT r.n,eT r.h,.int r.x,.int r.y,.bool r.s]) (t4:=τ) rfl w6 rfl))
theorem O4{ns:List Int}{m:Int}(m0:0<=m)(m1:m<=24):∃(rs:List Rz) (ls:List L),Ck [.c (ns.map .int),.d (.int m)]=some (RW rs,ls)/\OkZ rs/\VtR rs.reverse/\rs.length<=24:=by
 obtain⟨v,ev⟩:=Ig (ns:=ns) (k:=1) (by decide)
 let τ:DS:=[some (.c (ns.map .int)),some (.d (.int m))]
 have c1:Ab 0 BQ (AA (dC (.int 1)) AD) τ=some (.int v,τ):=Dr (xs:=ns.map .int) (t4:=τ) (rs:=[.d (.int 1)]) (ds:=[.int 1]) rfl rfl rfl ev
 have t:AI (dOp fEq (dOp Ac (dOp Ac (Ab 0 BQ (AA (dC (.int 1)) AD)) (dC (.int 1000003))) (dC (.int 8))) (dC (.int 3))) τ=some (decide (v % 1000003 % 8=3),τ):=tst (op2 (x:=.int (v % 1000003 % 8)) (y:=.int 3) (l7:=τ) (op2 (x:=.int (v % 1000003)) (y:=.int 8) (l7:=τ) (op2 (x:=.int v) (y:=.int 1000003) (l7:=τ) c1 rfl (BM (by decide))) rfl (BM (by decide))) rfl (encI.fEq _ _))
 by_cases h:v % 1000003 % 8=3
 ·rw[decide_eq_true h]at t
  obtain⟨rs,ls,es,ok,vt,hl,_⟩:=Im (ns:=ns) (f:=1) (m:=24) (by decide) (by decide) (by decide)
  have hr:(rs.map smz).reverse=rs.reverse.map smz:=gL.symm
  refine⟨rs.map smz,[.c (ns.map .int),.d (.int m)],?_,by unfold OkZ;rw[hr];exact TL ok,by rw[hr];exact WR vt,by rw[B'];omega⟩
  unfold Ck
  refine AV (τ:=τ) (Ad ((Au t).trans (AZ ?_))) rfl rfl
  have lc := lcg (enc := eZ) (rs := rs) (τ := τ) (fr := []) (it := dIL (Ab 0 CD (AA (dC (.int 1)) (AA (dC (.int 24)) AD)))) (ex := []) (c := Cu) (e := AH Ef (AA (AB 0) AD)) (fun _ => true) (fun r => eZ (smz r)) (by
   unfold dIL
   rw[Dr (xs:=ns.map .int) (t4:=τ) (rs:=[.d (.int 1),.d (.int 24)]) (ds:=[.int 1,.int 24]) rfl rfl rfl es];rfl) (by omega) rfl rfl (fun _ _=>rfl) (fun r hr _=>by
   obtain⟨l,e⟩:=SK (ok.all r (V'.mpr hr))
   let t:DS:=[some (.d (eZ r))]
   exact cQ t [eZ r] rfl rfl e)
  rw[Ek]at lc
  rw[lc]
  show _=some (PyData.list ((rs.map smz).map eZ),τ)
  rw[fD];rfl
 ·rw[decide_eq_false h]at t
  obtain⟨rs,ls,es,ok,vt,hl,_⟩:=Im (ns:=ns) (f:=1) (m:=m) (by decide) m0 m1
  refine⟨rs,[.c (ns.map .int),.d (.int m)],?_,ok,vt,by omega⟩
  unfold Ck
  refine AV (τ:=τ) ((AE ((As t).trans rfl)).trans (AZ ?_)) rfl rfl
  exact Dr (xs:=ns.map .int) (t4:=τ) (rs:=[.d (.int 1),.d (.int m)]) (ds:=[.int 1,.int m]) rfl rfl rfl es
section
variable {rs:List Rz}
theorem Lk(ok:OkZ rs)(hl:rs.length<=24){q:Rz}(hq:q∈rs):∃ls,Bk [.d (RW rs),.d (eT q.n)]=some (.bool (Kt rs q.n),ls):=by
 obtain⟨lc,ec'⟩:=UL ok (by omega) ⟨q,hq,rfl⟩
 let Hs:=hsR rs.reverse q.n
 have hHs:Hs.length<=24:=by
  have:=M9 rs.reverse q.n
  rw[e8]at this
  show(hsR rs.reverse q.n).length<=24
  omega
 have eH:[q.n]++Hs.tail=Hs:=by
  show[q.n]++(hsR rs.reverse q.n).tail=hsR rs.reverse q.n
  rw[Rg ok hq];rfl
 let st:Option L->Option L->Option L->DS:=fun h m k=>[some (.d (RW rs)),some (.d (eT q.n)),h,m,k]
 let N:Option L:=some (.d (NL Hs))
 have s1:AN (dOp Ro (Bw (AA (AB 1) AD)) (AH Ei (AA (AB 0) (AA (AB 1) AD)))) (dN 2) (st none none none)=some (.nx (st N none none)):=by
  refine AX (d:=NL Hs) (t4:=st none none none) (oQ (NL [q.n]) (NL Hs.tail) (st none none none) rfl (cQ (st none none none) [RW rs,eT q.n] rfl rfl ec') ?_) rfl
  rw[dM _ _ (by rw[List.length_tail];simp;omega),eH]
 let BD:DB:=AR (Av (AI (dOp fEq (dOp AK (AB 3) (dC (.int 5))) (dC (.str "mask")))) (AI (dOp (fIn false) (dOp AK (AB 3) (dC (.int 0))) (AB 2)))) (AM (AN (dLC 1 [3] (dIL (AB 0)) (dN 0) (AI (dOp fEq (dOp AK (AB 0) (dC (.int 1))) (dOp AK (AB 1) (dC (.int 0))))) (dOp AK (AB 0) (dC (.int 0)))) (dN 4)) (AR (Av (AI (dOp fNe (AB 4) (Bw AD))) (AI (dOp (fIn false) (dOp FR (AB 4) (dC (.int 0))) (AB 2)))) (AQ (dC (.bool true))) AU)) AU
 let P:Rz->Bool:=fun m=>(decide (kz m.d=9)&&decide (m.n∈Hs))&&match AO rs m.n with
  |[]=>false
  |k::_=>decide (k.n∈Hs)
 have lp := Ko (enc := eZ) (g := dN 3) (b := BD) (d := .bool true) P (fun τ => ∃ m k, nM m /\ nM k /\ τ = st N m k) (xs := rs) (τ := st N none none) ⟨none, none, Ai, Ai, rfl⟩ (by
  rintro m hm τ ⟨om,ok',h1,h2,rfl⟩
  let Z:Option L:=some (.d (eZ m))
  let t4:=st N Z ok'
  have t1:AI (dOp fEq (dOp AK (AB 3) (dC (.int 5))) (dC (.str "mask"))) t4=some (decide (kz m.d=9),t4):=tst (op2 (x:=eT (kS (kz m.d))) (y:=eT (kS 9)) (t4:=t4) (l7:=t4) rfl rfl (Kq (C1 _) (by decide)))
  have t2:AI (dOp (fIn false) (dOp AK (AB 3) (dC (.int 0))) (AB 2)) t4=some (decide (m.n∈Hs),t4):=tst (op2 (x:=eT m.n) (y:=NL Hs) (t4:=t4) (l7:=t4) rfl rfl (inL _ _))
  have ta:=LN t1 t2
  refine⟨t4,BE (o:=om) rfl h1,?_⟩
  by_cases hb:(decide (kz m.d=9)&&decide (m.n∈Hs))=true
  ·rw[hb]at ta
   let ns:=(AO rs m.n).map (·.n)
   let l7:=st N Z (some (.d (NL ns)))
   have lc:dLC 1 [3] (dIL (AB 0)) (dN 0) (AI (dOp fEq (dOp AK (AB 0) (dC (.int 1))) (dOp AK (AB 1) (dC (.int 0))))) (dOp AK (AB 0) (dC (.int 0))) t4=some (NL ns,t4):=by
    have := lcg (enc := eZ) (rs := rs) (τ := t4) (fr := [3]) (it := dIL (AB 0)) (ex := [Z]) (c := AI (dOp fEq (dOp AK (AB 0) (dC (.int 1))) (dOp AK (AB 1) (dC (.int 0))))) (e := dOp AK (AB 0) (dC (.int 0))) (fun k => decide (k.h = m.n)) (fun k => eT k.n) rfl (by omega) rfl rfl (fun k _ => by
     let t:DS:=[some (.d (eZ k)),Z]
     exact tst (op2 (x:=eT k.h) (y:=eT m.n) (t4:=t) (l7:=t) rfl rfl (OY _ _))) (fun k _ _=>rfl)
    rw[this]
    show _=some (PyData.list (((rs.filter fun k=>decide (k.h=m.n)).map (·.n)).map eT),t4)
    rw[fD];rfl
   have u1:AI (dOp fNe (AB 4) (Bw AD)) l7=some (!decide (ns=[]),l7):=tst (op2 (x:=NL ns) (y:=NL []) (t4:=l7) (l7:=l7) rfl rfl (encT.fNeL _ _))
   have pre:∀{o:Out},AR (Av (AI (dOp fNe (AB 4) (Bw AD))) (AI (dOp (fIn false) (dOp FR (AB 4) (dC (.int 0))) (AB 2)))) (AQ (dC (.bool true))) AU l7=some o->BD t4=some o:=fun {o} h=>(Au ta).trans ((AE (t4:=l7) (AX lc (BE (o:=ok') rfl h2))).trans h)
   cases ek:AO rs m.n with
   |nil =>
    have en:ns=[]:=by show(AO rs m.n).map (·.n)=[];rw[ek];rfl
    rw[decide_eq_true en]at u1
    have pf:P m=false:=by
     show((decide (kz m.d=9)&&decide (m.n∈Hs))&&_)=false
     rw[ek];simp
    refine⟨(fun h=>by rw[pf]at h;cases h),fun _=>⟨l7,pre ((As (t4:=l7) ?_).trans rfl),_,_,BC,BC,rfl⟩⟩
    unfold Av
    rw[u1];rfl
   |cons k l =>
    have en:ns=k.n::l.map (·.n):=by show(AO rs m.n).map (·.n)=_;rw[ek];rfl
    rw[decide_eq_false (by rw[en];simp)]at u1
    have pf:P m=decide (k.n∈Hs):=by
     show((decide (kz m.d=9)&&decide (m.n∈Hs))&&_)=_
     rw[ek,hb];rfl
    have u2:AI (dOp (fIn false) (dOp FR (AB 4) (dC (.int 0))) (AB 2)) l7=some (decide (k.n∈Hs),l7):=by
     refine tst (op2 (x:=eT k.n) (y:=NL Hs) (t4:=l7) (l7:=l7) (op2 (x:=NL ns) (y:=.int 0) (t4:=l7) (l7:=l7) rfl rfl ?_) rfl (inL _ _))
     rw[en]
     obtain⟨a,h1,h2⟩:=B7 (enc:=eT) (xs:=k.n::l.map (·.n)) (k:=0) (by decide) (by rw[X'];omega)
     cases h2
     exact h1
    have u3:=LN u1 u2
    rw[Bool.not_false,Bool.true_and]at u3
    rw[pf]
    refine⟨fun h=>?_,fun h=>?_⟩
    ·rw[h]at u3
     exact⟨l7,pre ((Au u3).trans rfl),_,_,BC,BC,rfl⟩
    ·rw[h]at u3
     exact⟨l7,pre ((As u3).trans rfl),_,_,BC,BC,rfl⟩
  ·rw[fV]at hb
   rw[hb]at ta
   have pf:P m=false:=by
    show((decide (kz m.d=9)&&decide (m.n∈Hs))&&_)=false
    rw[hb];rfl
   exact⟨(fun h=>by rw[pf]at h;cases h),fun _=>⟨t4,(As ta).trans rfl,Z,ok',BC,h2,rfl⟩⟩)
 have ei:rs.any P=Kt rs q.n:=rfl
 rw[ei]at lp
 refine⟨[.d (RW rs),.d (eT q.n)],?_⟩
 unfold Bk
 cases hb:Kt rs q.n with
 |true =>
  obtain⟨l7,e,m,k,h1,h2,rfl⟩:=lp.1 hb
  exact AV (τ:=st N m k) ((AE s1).trans (Ad ((BN (ds:=rs.map eZ) (t4:=st N none none) rfl).trans e))) rfl rfl
 |false =>
  obtain⟨l7,e,m,k,h1,h2,rfl⟩:=lp.2 hb
  exact AV (τ:=st N m k) ((AE s1).trans ((AE ((BN (ds:=rs.map eZ) (t4:=st N none none) rfl).trans e)).trans rfl)) rfl rfl
theorem MI(hl:rs.length<=24)(H:List Tx):∃ls,B4 [.d (RW rs),.d (NL H)]=some (RW (rs.map (hid H)),ls):=by
 let τ:DS:=[some (.d (RW rs)),some (.d (NL H))]
 refine⟨[.d (RW rs),.d (NL H)],?_⟩
 unfold B4
 refine AV (τ:=τ) (AZ ?_) rfl rfl
 have := lcg (enc := eZ) (rs := rs) (τ := τ) (fr := [1]) (it := dIL (AB 0)) (ex := [some (.d (NL H))]) (c := Cu) (e := dOp FN (dOp FN (ET (AB 0) CK (dPt (dC (.int 4)))) (AY (AA (By (dOp AK (AB 0) (dC (.int 4))) (dOp (fIn true) (dOp AK (AB 0) (dC (.int 0))) (AB 1))) AD))) (ET (AB 0) (dPt (dC (.int 5))) CK)) (fun _ => true) (fun r => eZ (hid H r)) rfl (by omega) rfl rfl (fun _ _ => rfl) (fun r _ _ => by
  let t:DS:=[some (.d (eZ r)),some (.d (NL H))]
  have a1:By (dOp AK (AB 0) (dC (.int 4))) (dOp (fIn true) (dOp AK (AB 0) (dC (.int 0))) (AB 1)) t=some (.bool (r.s&&!decide (r.n∈H)),t):=Lw (τ:=t) rfl fun _=>op2 (x:=eT r.n) (y:=NL H) (t4:=t) (l7:=t) rfl rfl (Tv _ _)
  have a2:=Eo (ds:=[.bool (r.s&&!decide (r.n∈H))]) (acc (a:=AD) a1 rfl) rfl (by show 1<=1000;decide)
  exact op2 (x:=.tuple [eT r.n,eT r.h,.int r.x,.int r.y,.bool (r.s&&!decide (r.n∈H))]) (y:=.tuple [eT (kS (kz r.d)),eD r.d]) (t4:=t) (l7:=t) (op2 (x:=.tuple [eT r.n,eT r.h,.int r.x,.int r.y]) (t4:=t) rfl a2 rfl) rfl rfl)
 rw[Ek]at this
 refine this.trans ?_
 show _=some (PyData.list ((rs.map (hid H)).map eZ),τ)
 rw[fD];rfl
theorem QS(H:List Tx):∀{a:List Rz},OkR a->OkR (a.map (hid H))
 |[],_=>trivial
 |r::a,⟨h1,h2,h3,h4⟩=>by
  refine⟨QS H h1,⟨h2.n1,h2.n8,h2.na,h2.x0,h2.x1,h2.y0,h2.y1,h2.d⟩,fun q hq=>?_,?_⟩
  ·obtain⟨p,hp,rfl⟩:=df.mp hq
   exact h3 p hp
  ·rcases h4 with h4|⟨q,hq,e⟩
   ·exact .inl h4
   ·exact .inr ⟨hid H q,df.mpr ⟨q,hq,rfl⟩,e⟩
theorem Jp(H:List Tx):∀(a:List Rz) (n:Tx),hsR (a.map (hid H)) n=hsR a n
 |[],_=>rfl
 |r::a,n=>by
  show(if r.n=n then n::hsR (a.map (hid H)) r.h else hsR (a.map (hid H)) n)=if r.n=n then n::hsR a r.h else hsR a n
  rw[Jp H a,Jp H a]
theorem R3(H:List Tx):∀{a:List Rz},VtR a->VtR (a.map (hid H))
 |[],_=>trivial
 |r::a,⟨h1,h2,h3⟩=>by
  refine⟨R3 H h1,?_,fun w q hq hm=>?_⟩
  ·rcases h2 with h2|⟨q,hq,e,k,l⟩
   ·exact .inl h2
   ·exact .inr ⟨hid H q,df.mpr ⟨q,hq,rfl⟩,e,k,by rw[Jp];exact l⟩
  ·obtain⟨p,hp,rfl⟩:=df.mp hq
   rw[Jp]at hm
   exact h3 w p hp hm
def shG:Option Sp->Cl->Cl
 |none,g=>g
 |some s,g=>Om s.1 (FQ g (NV s.2))
def eF(w h:Int)(g:Cl):PyData:=.tuple [.int w,.int h,ec g]
theorem Wc(u:RS)(g:Rat):shG (some (sq u)) (rq g)=rq (u.1+g*(1-u.2)):=by
 have a:∀c:Rat,NV (rq c)=rq (1-c):=fun c=>Jr 1 c
 have c:∀x y:Rat,Om (rq x) (rq y)=rq (x+y):=fun x y=>Jt x y
 show Om (rq u.1) (FQ (rq g) (NV (rq u.2)))=_
 rw[a,IP,c]
theorem Wb{u:RS}{W n:Nat}{g:Rat}{p q:Nat}(w:WtR W u)(l:W<2 ^ n)(eg:g*(q:Rat)=(p:Rat))(h1:p<=q)(h0:0<q)(hq:q<=1000):BdR n u.1/\BdR n u.2/\BdR n (1-u.2)/\BdR (n+10) (g*(1-u.2)):=by
 have hb:=w.bd l
 obtain⟨z,z1,z2,_⟩:=w.thr
 obtain⟨a,b,_,_,h3,h4,h5⟩:=w
 have o:BdR n (1-u.2):=Co z1 z2 (by omega) l
 exact⟨hb.1,hb.2,o,Co (W:=W*q) (a:=p*z) (by push_cast;grind) (by rw[gJ W q];exact fO h1 z2) (fz (by omega) h0) (Bz l (by omega))⟩
theorem Nb{c:Nat}{o:Option Sp}{g:Cl}(wo:WV c o)(hc:c<=190)(og:OkF g):∃ls,E2 [.d (eO o),.d (ec g)]=some (ec (shG o g),ls):=by
 let τ:DS:=[some (.d (eO o)),some (.d (ec g))]
 have t1:AI (dOp Cs (AB 0) (dC .none)) τ=some (!o.isSome,τ):=tst (op2 (x:=eO o) (y:=.none) (t4:=τ) (l7:=τ) rfl rfl (JL o))
 refine⟨[.d (eO o),.d (ec g)],?_⟩
 unfold E2
 refine AV (τ:=τ) ?_ rfl rfl
 cases o with
 |none=>exact Ad ((Au t1).trans rfl)
 |some s =>
  obtain⟨u,W,rfl,w,l⟩:=wo s rfl
  obtain⟨y,p,q,rfl,eg,g1,g2,g3,_⟩:=Kj og
  obtain⟨b1,b2,b3,b4⟩:=Wb w l eg g1 g2 g3
  have by':BdR 10 y:=Co eg g1 g2 (by omega)
  have e0:=QU (x:=1) (y:=u.2) (BdR.one (by decide)) (b2.mono (by omega))
  have e1:=GJ (x:=y) (y:=1-u.2) (by'.mono (by decide)) (b3.mono (by omega))
  have e2:=PF (x:=u.1) (y:=y*(1-u.2)) (b1.mono (by omega)) (b4.mono (by omega))
  rw[Wc]
  refine(AE ((As t1).trans rfl)).trans (AZ ?_)
  have q0:AH E4 (AA (AY (AA (dC (.int 1)) (AA (dC (.int 1)) AD))) (AA (dOp AK (AB 0) (dC (.int 1))) AD)) τ=some (ec (rq (1-u.2)),τ):=cQ τ [ec (rq 1),ec (rq u.2)] rfl rfl e0
  have q1:AH CV (AA (AB 1) (AA (AH E4 (AA (AY (AA (dC (.int 1)) (AA (dC (.int 1)) AD))) (AA (dOp AK (AB 0) (dC (.int 1))) AD))) AD)) τ=some (ec (rq (y*(1-u.2))),τ):=cQ τ [ec (rq y),ec (rq (1-u.2))] (acc (t4:=τ) rfl (acc (a:=AD) q0 rfl)) rfl e1
  exact cQ τ [ec (rq u.1),ec (rq (y*(1-u.2)))] (acc (t4:=τ) rfl (acc (a:=AD) q1 rfl)) rfl e2
theorem SU(ok:OkZ rs)(vt:VtR rs.reverse)(hl:rs.length<=24)(x y:Int):WV 96 (ctV (spS rs 24) (AO rs t0) x y):=(K7 x y fun k hk=>Na ok 24 k (W'.mp hk).1).mono (HZ ok vt hl)
theorem Il(ok:OkZ rs)(vt:VtR rs.reverse)(hl:rs.length<=24)(w h:Int){g:Cl}(og:OkF g)(x y:Int):∃ls,Bo [.d (RW rs),.d (eF w h g),.d (.int x),.d (.int y)]=some (ec (shG (ctV (spS rs 24) (AO rs t0) x y) g),ls):=by
 obtain⟨lk,ek⟩:=EF (rs:=rs) (by omega) t0
 have hs:=HZ ok vt hl
 obtain⟨l1,e1⟩:=Of (rs:=rs) (c:=CU rs 24) (ks:=AO rs t0) (M0:=AL 119 0) (M1:=AL 119 1) (M2:=AL 119 2) (M3:=AL 119 3) (by omega) (fun k hk=>Na ok 24 k (W'.mp hk).1) (fun k hk=>Nj ok vt hl 24 119 k (Pb hl (W'.mp hk).1) (by omega)) x y
 obtain⟨l2,e2⟩:=Nb (SU ok vt hl x y) (by omega) og
 let O:=eO (ctV (spS rs 24) (AO rs t0) x y)
 let τ:DS:=[some (.d (RW rs)),some (.d (eF w h g)),some (.d (.int x)),some (.d (.int y))]
 refine⟨[.d (RW rs),.d (eF w h g),.d (.int x),.d (.int y)],?_⟩
 unfold Bo
 refine AV (τ:=τ) (AZ ?_) rfl rfl
 have c1:AH BF (AA (AB 0) (AA (dC (.str "")) AD)) τ=some (RW (AO rs t0),τ):=cQ τ [RW rs,eT t0] rfl rfl ek
 have c2:AH m_content_spot (AA (AB 0) (AA (AH BF (AA (AB 0) (AA (dC (.str "")) AD))) (AA (AB 2) (AA (AB 3) AD)))) τ=some (O,τ):=cQ τ [RW rs,RW (AO rs t0),.int x,.int y] (acc (t4:=τ) rfl (acc c1 rfl)) rfl e1
 exact cQ τ [O,ec g] (acc c2 rfl) rfl e2
theorem P4(ok:OkZ rs)(vt:VtR rs.reverse)(hl:rs.length<=24)(w h:Int){g:Cl}(og:OkF g)(x y:Int):∃ls,Eg [.d (RW rs),.d (eF w h g),.d (.int x),.d (.int y)]=some (ec (shG (ctV (spS rs 24) (AO rs t0) x y) g),ls):=by
 have hs:=HZ ok vt hl
 obtain⟨l1,e1⟩:=OI (rs:=rs) (c:=CU rs 24) (ks:=AO rs t0) (M0:=AF 119 0) (M1:=AF 119 1) (M2:=AF 119 2) (M3:=AF 119 3) (by omega) (fun k hk=>Na ok 24 k (W'.mp hk).1) (fun k hk=>NY ok vt hl 24 119 k (Pb hl (W'.mp hk).1) (by omega)) x y
 have wo:=SU ok vt hl x y
 generalize ctV (spS rs 24) (AO rs t0) x y=o at e1 wo
 let st:Option L->DS:=fun s=>[some (.d (RW rs)),some (.d (eF w h g)),some (.d (.int x)),some (.d (.int y)),s]
 let τ:=st (some (.d (eO o)))
 have lc:dLC 1 [] (dIL (AB 0)) (dN 0) (AI (dOp fEq (dOp AK (AB 0) (dC (.int 1))) (dC (.str "")))) (AB 0) (st none)=some (RW (AO rs t0),st none):=by
  refine lcg (enc:=eZ) (rs:=rs) (ex:=[]) (fun k=>decide (k.h=t0)) eZ rfl (by omega) rfl rfl (fun k _=>?_) (fun k _ _=>rfl)
  let t:DS:=[some (.d (eZ k))]
  exact tst (op2 (x:=eT k.h) (y:=eT t0) (t4:=t) (l7:=t) rfl rfl (OY _ _))
 have s1:AN (AH m_L_kids_spot (AA (AB 0) (AA (dLC 1 [] (dIL (AB 0)) (dN 0) (AI (dOp fEq (dOp AK (AB 0) (dC (.int 1))) (dC (.str "")))) (AB 0)) (AA (AB 2) (AA (AB 3) AD))))) (dN 4) (st none)=some (.nx τ):=AX (cQ (st none) [RW rs,RW (AO rs t0),.int x,.int y] (acc (t4:=st none) rfl (acc lc rfl)) rfl e1) rfl
 have t1:AI (dOp Cs (AB 4) (dC .none)) τ=some (!o.isSome,τ):=tst (op2 (x:=eO o) (y:=.none) (t4:=τ) (l7:=τ) rfl rfl (JL o))
 refine⟨[.d (RW rs),.d (eF w h g),.d (.int x),.d (.int y)],?_⟩
 unfold Eg
 refine AV (τ:=τ) ((AE s1).trans ?_) rfl rfl
 cases o with
 |none=>exact Ad ((Au t1).trans rfl)
 |some s =>
  obtain⟨u,W,rfl,w',l⟩:=wo s rfl
  obtain⟨y',p,q,rfl,eg,g1,g2,g3,_⟩:=Kj og
  obtain⟨b1,b2,b3,b4⟩:=Wb w' l eg g1 g2 g3
  have by':BdR 10 y':=Co eg g1 g2 (by omega)
  have m1:=GW (x:=1-u.2) (y:=y') (b3.mono (by omega)) (by'.mono (by decide))
  rw[Rat.mul_comm]at m1
  have m2:=NT (x:=u.1) (y:=y'*(1-u.2)) (b1.mono (by omega)) (b4.mono (by omega))
  rw[Wc]
  refine(AE ((As t1).trans rfl)).trans (AZ ?_)
  have q0:AY (AA (dOp Am (dOp AK (dOp AK (AB 4) (dC (.int 1))) (dC (.int 1))) (dOp AK (dOp AK (AB 4) (dC (.int 1))) (dC (.int 0)))) (AA (dOp AK (dOp AK (AB 4) (dC (.int 1))) (dC (.int 1))) AD)) τ=some (ec (rq (1-u.2)),τ):=by
   rw[<- Nt];rfl
  have q1:AH Bq (AA (AY (AA (dOp Am (dOp AK (dOp AK (AB 4) (dC (.int 1))) (dC (.int 1))) (dOp AK (dOp AK (AB 4) (dC (.int 1))) (dC (.int 0)))) (AA (dOp AK (dOp AK (AB 4) (dC (.int 1))) (dC (.int 1))) AD))) (AA (dOp AK (AB 1) (dC (.int 2))) AD)) τ=some (ec (rq (y'*(1-u.2))),τ):=cQ τ [ec (rq (1-u.2)),ec (rq y')] (acc q0 rfl) rfl m1
  exact cQ τ [ec (rq u.1),ec (rq (y'*(1-u.2)))] (acc (t4:=τ) rfl (acc (a:=AD) q1 rfl)) rfl m2
end
section
variable {rs:List Rz}
def lvs(rs:List Rz):List Tx:=(rs.filter fun r=>decide (kz r.d<4)&&!Kt rs r.n).map (·.n)
theorem VU(rs:List Rz):(lvs rs).length<=rs.length:=by
 unfold lvs
 rw[B']
 exact gE ..
theorem OV(v:Int):∃(w h:Int) (g:Cl) (ls:List L),Cq [.d (.int v),.d (.int 5),.d (.int 4)]=some (eF w h g,ls)/\1<=w/\w<=5/\1<=h/\h<=4/\OkF g:=by
 obtain⟨g,z,l1,e1,og⟩:=FV (v / 5 / 4)
 let st:Option L->Option L->DS:=fun a b=>[some (.d (.int v)),some (.d (.int 5)),some (.d (.int 4)),a,b]
 refine⟨1+v % 5,1+v / 5 % 4,g,[.d (.int v),.d (.int 5),.d (.int 4)],?_,by omega,by omega,by omega,by omega,og⟩
 let τ:=st (some (.d (ec g))) (some (.d (.int z)))
 have d5:=Bj (i:=v) (j:=5) (by decide) (by decide)
 have d4:=Bj (i:=v / 5) (j:=4) (by decide) (by decide)
 have m5:=BM (i:=v) (j:=5) (by decide)
 have m4:=BM (i:=v / 5) (j:=4) (by decide)
 have s1:AN (AH Bp (AA (dOp Ag (dOp Ag (AB 0) (AB 1)) (AB 2)) AD)) (dGT (AW (dN 3) (AW (dN 4) A0))) (st none none)=some (.nx τ):=AX (cQ (st none none) [.int (v / 5 / 4)] (acc (a:=AD) (op2 (x:=.int (v / 5)) (y:=.int 4) (l7:=st none none) (op2 (x:=.int v) (y:=.int 5) (t4:=st none none) (l7:=st none none) rfl rfl d5) rfl d4) rfl) rfl e1) rfl
 unfold Cq
 refine AV (τ:=τ) ((AE s1).trans (AZ ?_)) rfl rfl
 exact Eo (rs:=[.d (.int (1+v % 5)),.d (.int (1+v / 5 % 4)),.d (ec g)]) (acc (op2 (x:=.int 1) (y:=.int (v % 5)) (t4:=τ) (l7:=τ) rfl (op2 (x:=.int v) (y:=.int 5) (t4:=τ) (l7:=τ) rfl rfl m5) rfl) (acc (op2 (x:=.int 1) (y:=.int (v / 5 % 4)) (t4:=τ) (l7:=τ) rfl (op2 (x:=.int (v / 5)) (y:=.int 4) (t4:=τ) (l7:=τ) (op2 (x:=.int v) (y:=.int 5) (t4:=τ) (l7:=τ) rfl rfl d5) rfl m4) rfl) rfl)) rfl (by show 3<=1000;decide)
theorem Tc(ok:OkZ rs){H:List Tx}(h:∀z∈H,z∈lvs rs):HH rs H:=fun z hz=>by
 obtain⟨q,hq,e⟩:=df.mp (h z hz)
 obtain⟨h1,h2⟩:=W'.mp hq
 rw[G',decide_eq_true_eq,Bool.not_eq_true']at h2
 exact⟨q,h1,e,h2.1,(OQ ok h1).mp h2.2⟩
theorem SV(ok:OkZ rs)(vt:VtR rs.reverse)(hl:rs.length<=24)(w h:Int){g:Cl}(og:OkF g)(x y:Int):∃ls,Dh [.d (RW rs),.d (eF w h g),.d (NL (lvs rs)),.d (.int x),.d (.int y)]=some (.bool true,ls):=by
 let U0:=ctN (Ba rs 24) (AO rs t0) x y
 let U:=onF [] U0
 have mU:∀z,z∈U↔z∈U0:=fun z=>onF_mem.trans (by simp)
 let V:=(lvs rs).filter fun z=>!decide (z∈U)
 have hU:U.length<=96:=eE Jk (Nh ok vt hl x y)
 have ul:∀z∈U,z∈lvs rs:=fun z hz=>by
  obtain⟨k,hk,x',y',hz'⟩:=NJ ((mU z).mp hz)
  obtain⟨q,h1,h2,h3,h4,_⟩:=Hk ok 24 k (W'.mp hk).1 hz'
  refine df.mpr ⟨q,W'.mpr ⟨h1,?_⟩,h2⟩
  rw[decide_eq_true h3,(OQ ok h1).mpr (h4 (Rj ok hk))];rfl
 have vl:∀z∈V,z∈lvs rs:=fun z hz=>(W'.mp hz).1
 have HU:=Tc ok ul
 have HV:=Tc ok vl
 have hr:∀H,(rs.map (hid H)).reverse=rs.reverse.map (hid H):=fun H=>gL.symm
 have okh:∀H,OkZ (rs.map (hid H)):=fun H=>by unfold OkZ;rw[hr];exact QS H ok
 have vth:∀H,VtR (rs.map (hid H)).reverse:=fun H=>by rw[hr];exact R3 H vt
 have lh:∀H,(rs.map (hid H)).length<=24:=fun H=>by rw[B'];exact hl
 have cU:ctV (spS (rs.map (hid U)) 24) (AO (rs.map (hid U)) t0) x y=none:=by
  rw[Hv]
  exact Ql 24 x y (fun k hk hm=>OP ok HU 24 k (W'.mp hk).1 hm) (fun z hz=>(mU z).mpr hz)
 have cV:ctV (spS (rs.map (hid V)) 24) (AO (rs.map (hid V)) t0) x y=ctV (spS rs 24) (AO rs t0) x y:=by
  have hc:∀z∈ctN (Ba rs 24) (AO rs t0) x y,z∉V:=fun z hz w=>by
   have:=(W'.mp w).2
   rw[decide_eq_true ((mU z).mpr hz)]at this
   cases this
  rw[Hv]
  exact T3 ok HV 24 (fun k hk=>(W'.mp hk).1) x y (fun k hk=>Kv ok HV 24 k (W'.mp hk).1) hc
 obtain⟨l1,ep⟩:=S0 ok vt hl x y
 obtain⟨l2,eU⟩:=MI (rs:=rs) hl U
 obtain⟨l3,eV⟩:=MI (rs:=rs) hl V
 obtain⟨l4,sU⟩:=Il (okh U) (vth U) (lh U) w h og x y
 obtain⟨l5,sV⟩:=Il (okh V) (vth V) (lh V) w h og x y
 obtain⟨l6,sL⟩:=P4 ok vt hl w h og x y
 rw[cU]at sU
 rw[cV]at sV
 have sU:Bo [.d (RW (rs.map (hid U))),.d (eF w h g),.d (.int x),.d (.int y)]=some (ec g,l4):=sU
 let G:=shG (ctV (spS rs 24) (AO rs t0) x y) g
 have hlv:=VU rs
 let st:Option L->Option L->DS:=fun a b=>[some (.d (RW rs)),some (.d (eF w h g)),some (.d (NL (lvs rs))),some (.d (.int x)),some (.d (.int y)),a,b]
 let A:Option L:=some (.d (NL U))
 let B:Option L:=some (.d (NL V))
 have s1:AN (AH CQ (AA (AB 0) (AA (AB 3) (AA (AB 4) AD)))) (dN 5) (st none none)=some (.nx (st A none)):=AX (cQ (st none none) [RW rs,.int x,.int y] rfl rfl ep) rfl
 have s2:AN (dLC 1 [5] (dIL (AB 2)) (dN 0) (AI (dOp (fIn true) (AB 0) (AB 1))) (AB 0)) (dN 6) (st A none)=some (.nx (st A B)):=by
  refine AX (t4:=st A none) (d:=NL V) (lcg (enc:=eT) (rs:=lvs rs) (τ:=st A none) (fr:=[5]) (it:=dIL (AB 2)) (ex:=[A]) (fun z=>!decide (z∈U)) eT rfl (by omega) rfl rfl (fun z _=>?_) (fun z _ _=>rfl)) rfl
  let t:DS:=[some (.d (eT z)),A]
  exact tst (op2 (x:=eT z) (y:=NL U) (t4:=t) (l7:=t) rfl rfl (Tv _ _))
 let τ:=st A B
 have s3:AI (dOp fNe (dLC 1 [2] (dIL (AB 5)) (dN 0) (AI (dOp (fIn true) (AB 0) (AB 1))) (AB 0)) (Bw AD)) τ=some (false,τ):=by
  have lc := lcg (enc := eT) (rs := U) (τ := τ) (fr := [2]) (it := dIL (AB 5)) (ex := [some (.d (NL (lvs rs)))]) (c := AI (dOp (fIn true) (AB 0) (AB 1))) (e := AB 0) (fun z => !decide (z ∈ lvs rs)) eT rfl (by omega) rfl rfl (fun z _ => by
   let t:DS:=[some (.d (eT z)),some (.d (NL (lvs rs)))]
   exact tst (op2 (x:=eT z) (y:=NL (lvs rs)) (t4:=t) (l7:=t) rfl rfl (Tv _ _))) (fun z _ _=>rfl)
  have ef:U.filter (fun z=>!decide (z∈lvs rs))=[]:=List.filter_eq_nil_iff.mpr fun z hz=>by rw[decide_eq_true (ul z hz)];simp
  rw[ef]at lc
  exact tst (op2 (x:=.list []) (y:=.list []) (t4:=τ) (l7:=τ) lc rfl rfl)
 have c1:AH Bo (AA (AH B4 (AA (AB 0) (AA (AB 5) AD))) (AA (AB 1) (AA (AB 3) (AA (AB 4) AD)))) τ=some (ec g,τ):=cQ τ [RW (rs.map (hid U)),eF w h g,.int x,.int y] (acc (cQ τ [RW rs,NL U] rfl rfl eU) rfl) rfl sU
 have s4:AI (dOp fNe (AH Bo (AA (AH B4 (AA (AB 0) (AA (AB 5) AD))) (AA (AB 1) (AA (AB 3) (AA (AB 4) AD))))) (dOp AK (AB 1) (dC (.int 2)))) τ=some (false,τ):=tst (op2 (y:=ec g) (l7:=τ) c1 rfl (by rw[encC.fNe];simp))
 have c2:AH Bo (AA (AH B4 (AA (AB 0) (AA (AB 6) AD))) (AA (AB 1) (AA (AB 3) (AA (AB 4) AD)))) τ=some (ec G,τ):=cQ τ [RW (rs.map (hid V)),eF w h g,.int x,.int y] (acc (cQ τ [RW rs,NL V] rfl rfl eV) rfl) rfl sV
 have c3:AH Eg (AA (AB 0) (AA (AB 1) (AA (AB 3) (AA (AB 4) AD)))) τ=some (ec G,τ):=cQ τ [RW rs,eF w h g,.int x,.int y] rfl rfl sL
 refine⟨[.d (RW rs),.d (eF w h g),.d (NL (lvs rs)),.d (.int x),.d (.int y)],?_⟩
 unfold Dh
 refine AV (τ:=τ) ?_ rfl rfl
 exact(AE s1).trans ((AE s2).trans ((AE ((As s3).trans rfl)).trans ((AE ((As s4).trans rfl)).trans (AZ (op2 c2 c3 (by rw[encC.fEq];simp))))))
end
theorem OE(ns:List Int)(_:ns.length<=63):∃ls,Km [.c (ns.map .int)]=some (.bool true,ls):=by
 obtain⟨v,lv,eb⟩:=W2 (ns:=ns) (k:=0) (by decide)
 obtain⟨rs,ls,er,ok,vt,hl⟩:=O4 (ns:=ns) (m:=1+v % 6) (by omega) (by omega)
 obtain⟨w,h,g,lf,ef,w1,w5,h1,h4,og⟩:=OV (v / 6)
 let I:Int->Option L:=fun i=>some (.d (.int i))
 let st:Option L->Option L->Option L->Option L->Option L->Option L->Option L->DS:=fun a b c d e f g=>[some (.c (ns.map .int)),a,b,c,d,e,f,g]
 let V:Option L:=I v
 let R:Option L:=some (.d (RW rs))
 let F:Option L:=some (.d (eF w h g))
 let M:List Tx->Option L:=fun l=>some (.m (l.map eT))
 have m6:=BM (i:=v) (j:=6) (by decide)
 have d6:=Bj (i:=v) (j:=6) (by decide) (by decide)
 have s1:AN (Ab 0 ED (AA (dC (.int 0)) AD)) (dN 1) (st none none none none none none none)=some (.nx (st V none none none none none none)):=AX (Dr (xs:=ns.map .int) (t4:=st none none none none none none none) (rs:=[.d (.int 0)]) (ds:=[.int 0]) rfl rfl rfl eb) rfl
 have s2:AN (Ab 0 Ck (AA (dOp Af (dC (.int 1)) (dOp Ac (AB 1) (dC (.int 6)))) AD)) (dN 2) (st V none none none none none none)=some (.nx (st V R none none none none none)):=by
  let τ:=st V none none none none none none
  exact AX (Dr (xs:=ns.map .int) (t4:=τ) (rs:=[.d (.int (1+v % 6))]) (ds:=[.int (1+v % 6)]) (acc (a:=AD) (oQ (.int 1) (.int (v % 6)) τ rfl (oQ (.int v) (.int 6) τ rfl rfl m6) rfl) rfl) rfl rfl er) rfl
 have s3:AN (AH Cq (AA (dOp Ag (AB 1) (dC (.int 6))) (AA (dC (.int 5)) (AA (dC (.int 4)) AD)))) (dN 3) (st V R none none none none none)=some (.nx (st V R F none none none none)):=by
  let τ:=st V R none none none none none
  exact AX (cQ τ [.int (v / 6),.int 5,.int 4] (acc (op2 (x:=.int v) (y:=.int 6) (t4:=τ) (l7:=τ) rfl rfl d6) rfl) rfl ef) rfl
 let sel:List Rz->List Tx:=fun l=>(l.filter fun r=>decide (kz r.d<4)&&!Kt rs r.n).map (·.n)
 let BD:DB:=AR (Av (AI (dOp (fIn true) (dOp AK (AB 5) (dC (.int 5))) (ET (AH Bb AD) (dPt (dC (.int 6))) CK))) (Bs (AI (AH Bk (AA (AB 2) (AA (dOp AK (AB 5) (dC (.int 0))) AD)))))) (A3 (dMt 4 Ap (AA (dOp AK (AB 5) (dC (.int 0))) AD))) AU
 have lp:∃t7,Ay (dN 5) BD (rs.map eZ) (st V R F (M []) none none none)=some (.nx t7)/\∃o,nM o/\t7=st V R F (M (lvs rs)) o none none:=by
  refine A1 (fun(pre:List Rz) τ=>∃o,nM o/\τ=st V R F (M (sel pre)) o none none) ⟨none,Ai,rfl⟩ ?_
  rintro pre r post τ e ⟨o,ho,rfl⟩
  have hr:r∈rs:=by rw[e];simp
  have hz:=Bu e
  obtain⟨l1,ei⟩:=Lk ok hl hr
  let Z:Option L:=some (.d (eZ r))
  let t4:=st V R F (M (sel pre)) Z none none
  have t1:AI (dOp (fIn true) (dOp AK (AB 5) (dC (.int 5))) (ET (AH Bb AD) (dPt (dC (.int 6))) CK)) t4=some (!decide (4<=kz r.d),t4):=by
   refine tst (op2 (x:=eT (kS (kz r.d))) (y:=.tuple (KH.map eT)) (t4:=t4) (l7:=t4) rfl M6 ?_)
   rw[cy]
   congr 4
   exact propext (M7 (C1 _))
  have t2:Bs (AI (AH Bk (AA (AB 2) (AA (dOp AK (AB 5) (dC (.int 0))) AD)))) t4=some (!Kt rs r.n,t4):=Oz (tst (cQ t4 [RW rs,eT r.n] rfl rfl ei))
  have ta:=LN t1 t2
  have ed:(!decide (4<=kz r.d))=decide (kz r.d<4):=by rw[<- decide_not];exact decide_eq_decide.mpr (by omega)
  rw[ed]at ta
  have es:sel (pre++[r])=sel pre++if (decide (kz r.d<4)&&!Kt rs r.n)=true then [r.n] else []:=by
   show((pre++[r]).filter _).map _=_
   rw[gU,eB,fT,List.filter_nil]
   congr 1
   split<;>rfl
  have hsl:(sel pre).length<=24:=by
   show((pre.filter _).map _).length<=24
   rw[B']
   have:=gE (fun r:Rz=>decide (kz r.d<4)&&!Kt rs r.n) pre
   omega
  refine⟨t4,st V R F (M (sel (pre++[r]))) Z none none,BE (o:=o) rfl ho,?_,Z,BC,rfl⟩
  rw[es]
  cases hb:(decide (kz r.d<4)&&!Kt rs r.n) with
  |false =>
   rw[hb]at ta
   rw[if_neg (by decide),dz]
   exact(As ta).trans rfl
  |true =>
   rw[hb]at ta
   rw[if_pos rfl]
   refine(Au ta).trans ((P0 (i:=4) (d:=eT r.n) (xs:=(sel pre).map eT) (t4:=t4) rfl rfl (by rw[B'];omega)).trans ?_)
   show some (Out.nx (st V R F (some (.m ((sel pre).map eT++[eT r.n]))) Z none none))=some (Out.nx (st V R F (M (sel pre++[r.n])) Z none none))
   have:(sel pre).map eT++[eT r.n]=(sel pre++[r.n]).map eT:=by rw[eB];rfl
   rw[this]
 obtain⟨t7,el,o,ho,rfl⟩:=lp
 let N:=lvs rs
 have hok:∀a b:Option L,nM a->nM b->∀c:Option L,nM c->(st V R F (some (.d (NL N))) c a b).all okM=true:=fun a b ha hb c hc=>by
  show(true&&(true&&(true&&(true&&(true&&(okM c&&(okM a&&(okM b&&true))))))))=true
  rw[Fj hc,Fj ha,Fj hb];rfl
 have lp2:∃t7,Ay (dN 6) (Bh (dR1 (AA (dOp AK (AB 3) (dC (.int 0))) AD)) (dN 7) (AR (Bt 4 (Bs (AI (AH Dh (AA (AB 2) (AA (AB 3) (AA (AB 4) (AA (AB 7) (AA (AB 6) AD))))))))) (AQ (dC (.bool false))) AU)) ((rng 0 h.toNat).map PyData.int) (st V R F (M N) o none none)=some (.nx t7)/\∃a b,nM a/\nM b/\t7=st V R F (M N) o a b:=by
  refine A1 (fun(_:List Int) τ=>∃a b,nM a/\nM b/\τ=st V R F (M N) o a b) ⟨none,none,Ai,Ai,rfl⟩ ?_
  rintro pre y post τ e ⟨a,b,ha,hb,rfl⟩
  have lp3:∃t7,Ay (dN 7) (AR (Bt 4 (Bs (AI (AH Dh (AA (AB 2) (AA (AB 3) (AA (AB 4) (AA (AB 7) (AA (AB 6) AD))))))))) (AQ (dC (.bool false))) AU) ((rng 0 w.toNat).map PyData.int) (st V R F (M N) o (I y) b)=some (.nx t7)/\∃b,nM b/\t7=st V R F (M N) o (I y) b:=by
   refine A1 (fun(_:List Int) τ=>∃b,nM b/\τ=st V R F (M N) o (I y) b) ⟨b,hb,rfl⟩ ?_
   rintro pre2 x post2 τ e2 ⟨b,hb,rfl⟩
   obtain⟨lr,er'⟩:=SV ok vt hl w h og x y
   let t4:=st V R F (M N) o (I y) (I x)
   let n9:=st V R F (some (.d (NL N))) o (I y) (I x)
   refine⟨t4,t4,BE (o:=b) rfl hb,?_,_,BC,rfl⟩
   refine(As (t4:=t4) ?_).trans rfl
   exact Jf (i:=4) (xs:=N.map eT) (t4:=n9) rfl (Oz (b:=true) (tst (cQ n9 [RW rs,eF w h g,NL N,.int x,.int y] rfl rfl er'))) (hok _ _ BC BC o ho)
  obtain⟨t7,e3,b',hb',rfl⟩:=lp3
  exact⟨st V R F (M N) o (I y) b,st V R F (M N) o (I y) b',BE (o:=a) rfl ha,(BN (Eb (n:=w) (t4:=st V R F (M N) o (I y) b) rfl (by omega) (by omega))).trans e3,_,b',BC,hb',rfl⟩
 obtain⟨t7,el2,a,b,ha,hb,rfl⟩:=lp2
 refine⟨[.c (ns.map .int)],?_⟩
 unfold Km
 refine AV (τ:=st V R F (M N) o a b) ?_ rfl rfl
 exact(AE s1).trans ((AE s2).trans ((AE s3).trans ((AE (t4:=st V R F (M []) none none none) rfl).trans ((AE ((BN (ds:=rs.map eZ) (t4:=st V R F (M []) none none none) rfl).trans el)).trans ((AE ((BN (Eb (n:=h) (t4:=st V R F (M N) o none none) rfl (by omega) (by omega))).trans el2)).trans rfl)))))
theorem all_mk{l:PySem.W.OpenLaw}{w:World}{K:PySem.W.Frag}{h:Heap}{mg:Str->Option Value}{fa:Addr}(X:K.In h)(G:h.Ns mainGlobals mg)(hfa:mg "law"=some (.ref fa))
  (d0:DE K "_law_cell_at" JH)
  (d1:DE K "_law_big" QI)
  (d2:DE K "_law_name_of" JE)
  (d3:DE K "_law_step_of" JA)
  (d4:DE K "_law_up" SQ)
  (d5:DE K "_law_low" QH)
  (d6:DE K "_law_share_of" HS)
  (d7:DE K "_law_paint_of" HX)
  (d8:DE K "_law_stencil_of" Ff)
  (d9:DE K "_law_size_of" JB)
  (d10:DE K "_law_word_of" I0)
  (d11:DE K "_law_data_of" JG)
  (d12:DE K "_law_kinds" MA)
  (d13:DE K "_law_row_of" KO)
  (d14:DE K "_law_scene_of" HW)
  (d15:DE K "_law_small" L7)
  (d16:DE K "_law_rows_by" JC)
  (d17:DE K "_law_floor_of" HY)
  (d18:DE K "_law_chain" MB)
  (d19:DE K "_law_in_stencil" Fg)
  (d20:DE K "each_once" Iz)
  (d21:DE K "row_shown" Iq)
  (d22:DE K "row_kind" KC)
  (d23:DE K "is_holder" Iy)
  (d24:DE K "row_holder" HK)
  (d25:DE K "kid_rows" KL)
  (d26:DE K "row_name" J9)
  (d27:DE K "row_data" KG)
  (d28:DE K "content_kids" FZ)
  (d29:DE K "laying_shifts" FH)
  (d30:DE K "plate_has" Ir)
  (d31:DE K "cell_quartered" Ea)
  (d32:DE K "cell_flipped" Fd)
  (d33:DE K "cell_turned_back" Dj)
  (d34:DE K "cells_within" Fb)
  (d35:DE K "holder_names" FX)
  (d36:DE K "stencil_has" GZ)
  (d37:DE K "row_by_row" HL)
  (d38:DE K "stroke_cells" FW)
  (d39:DE K "sign_cells" HJ)
  (d40:DE K "word_has" J6)
  (d41:DE K "part_way" KI)
  (d42:DE K "band_cells" HR)
  (d43:DE K "leaf_has" KJ)
  (d44:DE K "leaf_names" HP)
  (d45:DE K "part_names" HN)
  (d46:DE K "row_x" QE)
  (d47:DE K "row_y" QD)
  (d48:DE K "content_names" FI)
  (d49:DE K "parts_under" Gb)
  (d50:DE K "common_divisor" EZ)
  (d51:DE K "fraction" KN)
  (d52:DE K "plus" SO)
  (d53:DE K "times" QC)
  (d54:DE K "minus" QF)
  (d55:DE K "shade_on" J7)
  (d56:DE K "spot_over" Io)
  (d57:DE K "spot_laid" Ip)
  (d58:DE K "spot_shared" Ga)
  (d59:DE K "mask_spot" Iv)
  (d60:DE K "holder_spot" Ge)
  (d61:DE K "plain_spot" HM)
  (d62:DE K "leaf_spot" Iw)
  (d63:DE K "part_spot" Iu)
  (d64:DE K "content_spot" FY)
  (d65:DE K "shade_at" J8)
  (d66:DE K "_law_mul" QG)
  (d67:DE K "_law_weak" Nd)
  (d68:DE K "_law_turned_spot" FJ)
  (d69:DE K "_law_add" QJ)
  (d70:DE K "_law_over" Ng)
  (d71:DE K "_law_tiles_spot" Fe)
  (d72:DE K "_law_on_band" JD)
  (d73:DE K "_law_in_sign" JF)
  (d74:DE K "_law_filled" KQ)
  (d75:DE K "_law_spot" Nf)
  (d76:DE K "_law_kids_spot" Gf)
  (d77:DE K "_law_shade" L8)
  (d78:DE K "_law_hidden" KP)
  (d79:DE K "_law_right" L9)
  (d80:DE K "law" Wd)
  (z_abs:PySem.W.nsIn K mainGlobals "abs"=some none)
  (z_len:PySem.W.nsIn K mainGlobals "len"=some none)
  (z_list:PySem.W.nsIn K mainGlobals "list"=some none)
  (z_max:PySem.W.nsIn K mainGlobals "max"=some none)
  (z_range:PySem.W.nsIn K mainGlobals "range"=some none)
  (z_reversed:PySem.W.nsIn K mainGlobals "reversed"=some none)
  (z_set:PySem.W.nsIn K mainGlobals "set"=some none)
  (z_sorted:PySem.W.nsIn K mainGlobals "sorted"=some none)
  (z_tuple:PySem.W.nsIn K mainGlobals "tuple"=some none)
  {uv_HOLDERS:Value} (kn_HOLDERS:PySem.W.nsIn K mainGlobals "HOLDERS"=some (some uv_HOLDERS)) (kt_HOLDERS:BK ⟨K,w⟩ (.tuple [(.str "group"),(.str "glass"),(.str "window"),(.str "turn"),(.str "tiles"),(.str "mask")]) uv_HOLDERS=true)
  {ad_SIGNS:Addr} {es_SIGNS:Array DictEntry} {nn_SIGNS:Nat} (kn_SIGNS:PySem.W.nsIn K mainGlobals "SIGNS"=some (some (.ref ad_SIGNS))) (kl_SIGNS:K.lookup ad_SIGNS=some ⟨.type "dict",none,.dict es_SIGNS nn_SIGNS,#[]⟩) (kq_SIGNS:KdL ⟨K,w⟩ w es_SIGNS.toList HF) (hs_SIGNS:(ad_SIGNS==sysModules)=false)
  {tk_STEP:Tok} (kn_STEP:PySem.W.nsIn K mainGlobals "STEP"=some (some (.int 4 tk_STEP)))
  {ad_STROKES:Addr} {es_STROKES:Array DictEntry} {nn_STROKES:Nat} (kn_STROKES:PySem.W.nsIn K mainGlobals "STROKES"=some (some (.ref ad_STROKES))) (kl_STROKES:K.lookup ad_STROKES=some ⟨.type "dict",none,.dict es_STROKES nn_STROKES,#[]⟩) (kq_STROKES:KdL ⟨K,w⟩ w es_STROKES.toList Ep) (hs_STROKES:(ad_STROKES==sysModules)=false)
  : ∃fd:FuncData,(∀(s:Shared) (v:Value),BindsTo s fd ⟨[v],[]⟩ [("_law_script",v)])/\∀base:Heap,K.In base->base.Ns mainGlobals mg->FnOk l.prog w K mg base CX0 129 fa fd ["_law_script"] (spD ⟨K,w⟩ Km false):=by
 refine DE.law d80 X G hfa fun base _ _ F=>?_
 let Z:Zz:=⟨l.prog,w,K,mg,base⟩
 have D:∀{x st},DE K x st->Dd Z x st:=fun d=>⟨h,X,G,d⟩
 have z_abs:zQ Z "abs":=e7 X G z_abs
 have z_len:zQ Z "len":=e7 X G z_len
 have z_list:zQ Z "list":=e7 X G z_list
 have z_max:zQ Z "max":=e7 X G z_max
 have z_range:zQ Z "range":=e7 X G z_range
 have z_reversed:zQ Z "reversed":=e7 X G z_reversed
 have z_set:zQ Z "set":=e7 X G z_set
 have z_sorted:zQ Z "sorted":=e7 X G z_sorted
 have z_tuple:zQ Z "tuple":=e7 X G z_tuple
 have kc_HOLDERS:kaZ Z "HOLDERS" (.tuple [(.str "group"),(.str "glass"),(.str "window"),(.str "turn"),(.str "tiles"),(.str "mask")]) uv_HOLDERS:=And.intro (gq X G kn_HOLDERS) kt_HOLDERS
 have kc_SIGNS:kdZ Z "SIGNS" HF:=⟨_,gq X G kn_SIGNS,⟨⟨es_SIGNS,nn_SIGNS,kl_SIGNS,kq_SIGNS⟩⟩,hs_SIGNS⟩
 have kc_STEP:kiZ Z "STEP" 4 tk_STEP:=gq X G kn_STEP
 have kc_STROKES:kdZ Z "STROKES" Ep:=⟨_,gq X G kn_STROKES,⟨⟨es_STROKES,nn_STROKES,kl_STROKES,kq_STROKES⟩⟩,hs_STROKES⟩
 have c22:ER Z:=Mu (D d0) z_len
 have c60:GF Z:=Mr (D d2) z_range
 have c24:EO Z:=Mn (D d3)
 have c79:P2 Z:=VP (D d4)
 have c30:H0 Z:=TF (D d5) z_abs
 have c37:Dw Z:=JW (D d8) z_range z_tuple
 have c58:GB Z:=Mo (D d9)
 have c59:GA Z:=Mm (D d10) z_range
 have c18:El Z:=PV (D d12)
 have c74:Ie Z:=PX (D d18)
 have c64:F8 Z:=Ml (D d20)
 have c26:EL Z:=Me (D d21)
 have c04:Cg Z:=Nz (D d22)
 have c42:E7 Z:=LX (D d24)
 have c13:Dt Z:=Ny (D d26)
 have c03:B8 Z:=N0 (D d27)
 have c34:DQ Z:=II (D d29) z_range
 have c23:EM Z:=Mf (D d30)
 have c31:C8 Z:=Hi (D d31) z_range
 have c35:Dv Z:=JU (D d32)
 have c40:EX Z:=KZ (D d36) z_len
 have c43:E8 Z:=LY (D d37) z_set z_sorted
 have c36:Ds Z:=JP (D d38) z_list kc_SIGNS kc_STROKES
 have c66:G9 Z:=N1 (D d41)
 have c55:Jv Z:=S9 (D d46)
 have c54:Ju Z:=S8 (D d47)
 have c32:C7 Z:=Hg (D d50) z_abs
 have c56:GD Z:=Mq (D d72) z_abs z_max z_range
 have c57:GG Z:=Ms (D d73)
 have c73:HB Z:=N6 (D d78)
 have c53:Jx Z:=TH (D d1) c22 z_range
 have c21:De Z:=Ld (D d6) c30
 have c75:Ia Z:=PQ (D d15) c18 z_len
 have c38:Dx Z:=JX (D d19) c74
 have c25:EN Z:=Mj (D d23) c04 kc_HOLDERS
 have c06:C6 Z:=N3 (D d25) c42
 have c28:Ci Z:=GX (D d33) c31 c35
 have c44:E6 Z:=LW (D d39) c43 c36
 have c46:FD Z:=Lc (D d42) c66 z_abs z_max z_range
 have c12:Du Z:=N4 (D d51) c32
 have c19:GV Z:=TC (D d66) c30
 have c51:Jy Z:=TJ (D d69) c30
 have c70:HC Z:=N7 (D d74) c56 c57 z_len
 have c45:FF Z:=Lf (D d7) c21
 have c50:FG Z:=Lg (D d17) c21
 have c14:Cv Z:=JT (D d34) c04 c03 c23 c28 c34
 have c67:Gy Z:=Nu (D d40) c44 z_len kc_STEP
 have c68:NR Z:=VN (D d52) c12
 have c20:GU Z:=S7 (D d53) c12
 have c52:Jw Z:=TB (D d54) c12
 have c78:LJ Z:=RL (D d67) c19
 have c39:Hz Z:=RN (D d70) c51 c19
 have c61:GH Z:=Mt (D d11) c58 c24 c45 c59 c37
 have c29:FC Z:=N2 (D d43) c04 c03 c23 c46 c67 c40
 have c71:Gz Z:=Nv (D d55) c68 c20 c52
 have c62:F6 Z:=Mc (D d56) c52 c68 c20
 have c17:DH Z:=Ka (D d58) c20
 have c47:E9 Z:=LZ (D d61) c20
 have c69:HA Z:=N5 (D d13) c60 c79 c18 c24 c61 z_len
 have c49:FA Z:=Lb (D d44) c03 c29 c13
 have c27:EK Z:=Md (D d57) c62
 have c63:F7 Z:=Mi (D d62) c03 c29 c47
 have c48:FE Z:=Le (D d14) c69 c53 z_range
 have c65:GC Z:=Mp (D d16) c22 c48 c75
 have RC:∀n,Clz Z (4+n) "_law_turned_spot" ["_law_rows","_law_kids","_law_data","_law_x","_law_y"] (AF n 0) false/\Clz Z (4+n) "_law_tiles_spot" ["_law_rows","_law_kids","_law_data","_law_x","_law_y"] (AF n 1) false/\Clz Z (4+n) "_law_spot" ["_law_rows","_law_row","_law_x","_law_y"] (AF n 2) false/\Clz Z (4+n) "_law_kids_spot" ["_law_rows","_law_kids","_law_x","_law_y"] (AF n 3) false:=by
  intro n;induction n with
  |zero=>exact⟨Ca (D d68),Ca (D d71),Ca (D d75),Ca (D d76)⟩
  |succ n ih=>obtain⟨c05,c07,c33,c00⟩:=ih;exact⟨IK (D d68) c00 z_range,JV (D d71) c00 c39 z_range,RM (D d75) c00 c78 c05 c07 c70 c19,Ke (D d76) c33 c39⟩
 obtain⟨c05,c07,c33,c00⟩:=RC 120
 have c05:Jc Z:=c05
 have c07:LK Z:=c07
 have c33:Uc Z:=c33
 have c00:Gj Z:=c00
 have c76:Ib Z:=PR (D d77) c00 c51 c19
 have RC:∀n,Clz Z (6+n) "content_kids" ["rows","row","x","y"] (AJ n 0) false/\Clz Z (6+n) "holder_names" ["rows","row","x","y"] (AJ n 1) true/\Clz Z (6+n) "part_names" ["rows","row","x","y"] (AJ n 2) true/\Clz Z (6+n) "content_names" ["rows","kids","x","y"] (AJ n 3) true:=by
  intro n;induction n with
  |zero=>exact⟨Ca (D d28),Ca (D d35),Ca (D d45),Ca (D d48)⟩
  |succ n ih=>obtain⟨c08,c09,c11,c01⟩:=ih;exact⟨JS (D d28) c06 c13 c03 c04 c01 z_len,JQ (D d35) c08 c14 c01 z_reversed,La (D d45) c25 c09 c49,IJ (D d48) c26 c11 c54 c55 z_reversed⟩
 obtain⟨c08,c09,c11,c01⟩:=RC 120
 have c08:LI Z:=c08
 have c09:LH Z:=c09
 have c11:NS Z:=c11
 have c01:FP Z:=c01
 have RC:∀n,Clz Z (6+n) "mask_spot" ["rows","kids","x","y"] (AL n 0) false/\Clz Z (6+n) "holder_spot" ["rows","row","x","y"] (AL n 1) false/\Clz Z (6+n) "part_spot" ["rows","row","x","y"] (AL n 2) false/\Clz Z (6+n) "content_spot" ["rows","kids","x","y"] (AL n 3) false:=by
  intro n;induction n with
  |zero=>exact⟨Ca (D d59),Ca (D d60),Ca (D d63),Ca (D d64)⟩
  |succ n ih=>obtain⟨c15,c10,c16,c02⟩:=ih;exact⟨Mh (D d59) c02 c17,Kc (D d60) c06 c13 c04 c15 c14 c27 c02 c17 c03,Mg (D d63) c25 c10 c63,JR (D d64) c26 c27 c16 c54 c55⟩
 obtain⟨c15,c10,c16,c02⟩:=RC 120
 have c15:Oq Z:=c15
 have c10:Lx Z:=c10
 have c16:Oo Z:=c16
 have c02:F9 Z:=c02
 have c41:EY Z:=Kb (D d49) c64 c01 c06
 have c72:G4 Z:=Nx (D d65) c71 c02 c06
 have c77:Ic Z:=PU (D d79) c41 c72 c73 c76
 exact Xv (Z:=Z) F c53 c65 c50 c38 c18 c77 z_range
theorem entry{K:KW}{H:Hp}{a:Addr}{ns:List Int}{Q:VK}{X:XK}(hS:SqL K H a (ns.map V.int))(h63:ns.length<=63)(q:∀H',Q (.bl true) H'):spD K Km false [.ref a] H Q X:=by
 obtain⟨ls,e⟩:=OE ns h63
 refine⟨fun _=>False,fun _=>False,[.c (ns.map PyData.int)],.bool true,ls,⟨rfl,fun i x e=>?_,fun i x e=>?_,fun i x e=>?_,fun i j xs ys b e=>?_,fun _ h=>h.elim,fun _ h=>h.elim,GR.nil fun i x e=>?_⟩,e,fun v H' _ _ res=>?_⟩
 ·match i,e with
  |0,e=>cases e
  |i+1,e=>cases e
 ·match i,e with
  |0,e=>exact absurd (E' (E' e)).symm Ow.not_c
  |i+1,e=>cases e
 ·match i,e with
  |0,e =>
   cases e
   exact⟨a,ns.map V.int,rfl,UG hS,OM ns⟩
  |i+1,e=>cases e
 ·match i,e with
  |0,e=>exact absurd (E' (E' e)).symm Ow.not_c
  |i+1,e=>cases e
 ·match i,e with
  |0,e=>cases e
  |i+1,e=>cases e
 ·cases (show v = .bl true from res)
  exact q H'
theorem walk{l:PySem.W.OpenLaw}{q:Program}{loose:List Str}{XP:(Str->Option Value)->Heap->Prop}{YP:World->Heap->Prop}{d:DefRec}{K:Params->PySem.W.Frag}(hn:l.most=some 63)(hdf:d.params.defaults=[])
  (hY:∀(w:World) (h:Heap),YP w h->(K w.params).In h)
  (F : ∀ (w : World) (mg : Str -> Option Value) (fa : Addr) (h : Heap), (K w.params).In h -> h.Ns mainGlobals mg -> mg d.name = some (.ref fa) ->
   ∃fd:FuncData,(∀(s:Shared) (u:Value),BindsTo s fd ⟨[u],[]⟩ [("_law_script",u)])/\∀base:Heap,(K w.params).In base->base.Ns mainGlobals mg->FnOk l.prog w (K w.params) mg base CX0 129 fa fd ["_law_script"] (spD ⟨K w.params,w⟩ Km false)) :
  PySem.W.WalkO q loose XP YP l.row.toRowW d [] (fun f vs=>PySem.call f vs) :=
 L2.walk_of (n:=63) (k:=129) (x:="_law_script") (CX:=fun _=>CX0) (sp:=fun w=>spD ⟨K w.params,w⟩ Km false) hn (by decide) hdf ⟨rfl,by decide,by decide⟩ hY F (fun _ _ a ns hl _ hS=>entry hS hl fun _=>rfl) fun _ _ _ _ _ z=>z
end My
namespace PySem.W.Fast
def tw14184637122490506158:=0
def tw13578605190314555354:=0
def tw15649661841308263156:=0
def tw14460307048726895046:=0
def tw1206754085274466157:=0
def tw16103210458273849789:=0
def tw14675541662599864341:=0
def tw17239292670223231368:=0
def tw8601195305102397315:=0
def tw9769023205525736580:=0
def tw12821752896870211564:=0
def tw6967727922665775415:=0
def tw14962983279352167836:=0
def tw4529129941007434356:=0
def tw3343175143546661470:=0
def tw5259217348793319613:=0
def tw3554652623772992818:=0
def tw16104412295750795794:=0
def tw4385133117192103738:=0
def tw7626602305712112744:=0
def tw16635879980233203724:=0
def tw13163287242325299755:=0
def tw6323499540340095894:=0
def tw11155525189016405977:=0
def tw9780061758351008807:=0
def tw11802200281745778534:=0
def tw4687145895375137513:=0
def tw14197077027280356697:=0
def tw4125541658964466234:=0
def tw377011748442370637:=0
def tw7627804882480533143:=0
def tw1683396724340497634:=0
def tw10793850383656517085:=0
def tw16194830712496699533:=0
def tw17735544458416408719:=0
def tw12033069966527113215:=0
def tw12906784348397929851:=0
def tw5756109397761200336:=0
def tw3809667028401981427:=0
def tw14731477775808669748:=0
def tw13240969861397556841:=0
def tw6046610759344988559:=0
def tw13779200468923018401:=0
def tw18039050991730422113:=0
def tw10210594532861497412:=0
def tw9234711687886534709:=0
def tw15694230751711280056:=0
def tw7140173752198550555:=0
def tw15450148508077671225:=0
def tw16901042785357072520:=0
def tw13422712286881704239:=0
def tw7801554163821895104:=0
def tw1811680380830047194:=0
def tw15276718854624883599:=0
def tw17459771801604407173:=0
def tw11357577108178165546:=0
def tw12190387291039050538:=0
def tw14624071281193891814:=0
def tw5007400676345070022:=0
def tw6361252773582714638:=0
def tw14925455174434261372:=0
def tw38071764052833996:=0
def tw14601058226877736598:=0
def tw11088189722838562014:=0
def tw2404296641372910752:=0
def tw1414272084663031317:=0
def tw6755111875546689820:=0
def tw3356806787665390268:=0
def tw4868377758363015478:=0
def tw15243027444760153861:=0
def tw16801864655652360495:=0
def tw12839137100849240686:=0
def tw12305337076243899668:=0
def tw8252572117583032596:=0
def tw11644020027696940284:=0
def tw17981545421150353726:=0
def tw16734162539258171596:=0
def tw5215643488647899512:=0
def tw2311779514099894266:=0
def tw4065447807239982577:=0
def tw12719243103700171815:=0
def tw15608521954771240745:=0
def tw12569398993218669810:=0
def tw1077468266363701079:=0
def tw17740640860919776535:=0
def tw17335879054877353338:=0
def tw12725830497969444968:=0
def tw14247431667911397148:=0
def tw860199902510023532:=0
def tw14461365555682493050:=0
def tw16264496219588428457:=0
def tw13550367480202493890:=0
def tw8442639135143675006:=0
def tw14970730462320063165:=0
def tw1793722866744596107:=0
def tw18005682446533899139:=0
def tw12587919076206530415:=0
def tw10270524964419492679:=0
def tw9440699895750998958:=0
def tw5230325032640955607:=0
def tw7407597297320032300:=0
def tw11785168883000832842:=0
def tw10187026763128488834:=0
def tw4952529619936545740:=0
def tw16914061491621514240:=0
def tw10703196787954853786:=0
def tw11282515786257757658:=0
def tw521257646827067154:=0
def tw10480267858042125353:=0
def tw9664526135552686183:=0
def tw6298821589409233614:=0
def tw8462636757396067654:=0
def tw15111083433443072128:=0
def tw4239071962249103406:=0
def tw7644979996371712637:=0
def tw11516291014818194526:=0
def tw134407344233063098:=0
def tw16135718909483208928:=0
def tw13175913855894721496:=0
def tw4553114165428672522:=0
def tw3553853682177392944:=0
def tw9485235510357507246:=0
def tw16048486856849009557:=0
def tw16612289254051355868:=0
def tw5231221393482046697:=0
def tw14915188735848069211:=0
def tw1685629449977263645:=0
def tw9054030000794020778:=0
def tw9938187523281686688:=0
def tw15005512089407940194:=0
def tw18049567774498855429:=0
def tw5113217227991387805:=0
def tw13953909247003311892:=0
def tw4139995329371036304:=0
def tw15832366355738818791:=0
def tw13409386135089115241:=0
def tw6614529503022356170:=0
def tw1468197377420383704:=0
def tw3702641604524699184:=0
def tw7350486771696579672:=0
def tw16338574048600005576:=0
def tw15439355237394652451:=0
def tw7940551155843826881:=0
def tw17876202308956035369:=0
def tw14280661775665935297:=0
def tw10786643188874847633:=0
def tw3599495339408360500:=0
def tw13547556730702823502:=0
def tw8506159294120484232:=0
def tw9999986535616220517:=0
def tw15694792169355815135:=0
def tw6343795078567178706:=0
def tw4697133374336137916:=0
def tw7077826690785318044:=0
def tw4520620568518777369:=0
def tw1176141335711561028:=0
def tw11227176056325393492:=0
def tw13423582827146783395:=0
def tw5122378825601874144:=0
def tw6481086219736909552:=0
def tw1179827636414051185:=0
def tw15292479866903414413:=0
def tw8641998877374395717:=0
def tw1825232736468627127:=0
def tw17420710569827167249:=0
def tw8647871127888974677:=0
def tw8740254376603087092:=0
def tw6559602314681973504:=0
def tw13982961222689625108:=0
def tw4984706709174045114:=0
def tw6719712072025570674:=0
def tw6080443085237269668:=0
def tw3066733599004495573:=0
def tw9575778506874555939:=0
def tw8619525119055997912:=0
def tw17595547372370718040:=0
def tw18373060996689188149:=0
def tw6485202761188542638:=0
def tw15426199403721575912:=0
def tw10154051178717596003:=0
def tw6816865363385953486:=0
def tw8320440592306311388:=0
def tw1937963698956397535:=0
def tw11795298686318630213:=0
def tw924231982600967804:=0
def tw3307890886378903471:=0
def tw16778279747669109082:=0
def tw9709240411595755155:=0
def tw14427611956620076017:=0
def tw12280675552809710377:=0
def tw18111480090936113305:=0
def tw17505040940394045131:=0
def tw4493799633948955079:=0
def tw12696713622355500635:=0
def tw5503645608431650703:=0
def tw1658496729670094590:=0
def tw13193097851455879703:=0
def tw8191390820418317462:=0
def tw11107659625225031063:=0
def tw15213602807317359286:=0
def tw8330841478936405020:=0
def tw4513949393329852542:=0
def tw187030215046198152:=0
def tw12376353211658069482:=0
def tw14942203263251871952:=0
def tw14897741410019941035:=0
def tw7730206569759507722:=0
def tw7174298507261953620:=0
def tw10634880653548666678:=0
def tw8054904288861975090:=0
def tw780600212945380521:=0
def tw15971748685154808812:=0
def tw2195348936057563757:=0
def tw11330703078632401730:=0
def tw1723548590251896755:=0
def tw16082921040061110728:=0
def tw12010466399324802080:=0
def tw13283252927691234900:=0
def tw16024793183864444946:=0
def tw1957910227572518303:=0
def tw8870188474879896369:=0
def tw13711743469972077161:=0
def tw14391077044947725047:=0
def tw7259213317407167966:=0
def tw7395208523369267004:=0
def tw14577722153332636623:=0
def tw15008293395986463178:=0
def tw14702552252099436267:=0
def tw1453516062767435387:=0
def tw11345647298568701402:=0
def tw3131180738192074575:=0
def tw17122972692308141539:=0
def tw13577391999397987892:=0
def tw5075441988508386971:=0
def tw12534546049053608551:=0
def tw10913366763745057112:=0
def tw5172196979057232803:=0
def tw10835112483895883263:=0
def tw3840358230504719281:=0
def tw2643057524807014426:=0
def tw10129228017860796923:=0
def tw14552114607926526246:=0
def tw18282788099248928775:=0
def tw9810116327641458428:=0
def tw13247505731337162719:=0
def tw4893217983256989298:=0
def tw8666396760947552638:=0
def tw2602655261005151249:=0
def tw8912833389683164538:=0
def tw7874043985381325236:=0
def tw12651291258027829635:=0
def tw15745351422263651238:=0
def tw599777976667259065:=0
def tw7861197149193551759:=0
def tw9416009058060654417:=0
def tw16647431479141066433:=0
def tw3711845747970723676:=0
def tw5526879850268258077:=0
def tw6104412115811186798:=0
def tw6899716282033203265:=0
def tw16726473750457414342:=0
def tw16281590412513333801:=0
def tw11475290268592814299:=0
def tw3120204859195842452:=0
def tw5023851041657075410:=0
def tw5019225624308390894:=0
def tw10055206780502376609:=0
def tw12196536036029567684:=0
def tw14780962883625426887:=0
def tw5793891976740971869:=0
def tw12408469238066477410:=0
def tw16868629824838962634:=0
def tw5027648250603648835:=0
def tw6828250325132882449:=0
def tw4916501842544856967:=0
def tw14765845187679435504:=0
def tw12216533378657345380:=0
def tw17872919878237979770:=0
def tw17630737410223556323:=0
def tw6873132139551430536:=0
def tw15235038503836459202:=0
def tw1925930894093593123:=0
def tw10815256150359481875:=0
def tw1122812489914144797:=0
def tw5028781337116059075:=0
def tw13039251367380346939:=0
def tw14430610358964713799:=0
def tw17202155962309087559:=0
def tw12526797742501437272:=0
def tw7018368974358214555:=0
def tw12777321633916177397:=0
def tw16007531642378800033:=0
def tw9412179131219663382:=0
def tw1882866967441642309:=0
def tw14021255901975143761:=0
def tw16961274311387479563:=0
def tw8439438453073188931:=0
def tw12641454982480542569:=0
def tw3627052311069698957:=0
def tw10887023210343954467:=0
def tw1962341624210926403:=0
def tw17413140850132161350:=0
def tw8450667991223556589:=0
def tw10557739321276111036:=0
def tw13412518544499811586:=0
def tw11742758643807822614:=0
def tw8007349133689092366:=0
def tw8110173982591728803:=0
def tw4163235827435632911:=0
def tw8642265856928680244:=0
def tw11667149188387886871:=0
def tw7719360961656453136:=0
def tw18279127554702548422:=0
def tw11473388613318098658:=0
def tw11670411808099548078:=0
def tw513157860941865716:=0
def tw7688167632923238806:=0
def tw600866846335797299:=0
def tw9105861978695990512:=0
def tw8178766865426036684:=0
def tw477580595007396093:=0
def tw7497332793260181223:=0
def tw13600339576785357763:=0
def tw6402246778453191162:=0
def tw2335254585582586471:=0
def tw9935057214801426939:=0
def tw9344153525643505220:=0
def tw5222600036730775158:=0
def tw6781370378157781787:=0
def tw8389370290677651351:=0
def tw18158062857464132056:=0
def tw12608487398583599063:=0
def tw16383417991939911181:=0
def tw216395584819593847:=0
def tw13161444909940722694:=0
def tw4361615693631466790:=0
def tw14193367737159710935:=0
def tw4201466386421981890:=0
def tw2539552161677719543:=0
def tw361572944349255143:=0
def tw15296156241416913420:=0
def tw7045444851733297465:=0
def tw15029320922908164599:=0
end PySem.W.Fast
open PySem PySem.W PyProof.Rows
set_option maxRecDepth 100000 in
set_option maxHeartbeats 0 in
theorem PySem.Challenge.cw_scenemend_k36_whole_uncovered_holds : PySem.Challenge.rw_scenemend_k36_whole_uncovered.Holds := by
 w_on;o_law;k_head;(case hw=>w_witness2)
 k_fill
 refine My.walk (l:=PySem.Challenge.rw_scenemend_k36_whole_uncovered) rfl rfl (fun w h Y=>PySem.W.kIn_of Y) ?F
 case F =>
  intro w mg fa h KX G hmg
  refine' My.all_mk KX G hmg ?d0 ?d1 ?d2 ?d3 ?d4 ?d5 ?d6 ?d7 ?d8 ?d9 ?d10 ?d11 ?d12 ?d13 ?d14 ?d15 ?d16 ?d17 ?d18 ?d19 ?d20 ?d21 ?d22 ?d23 ?d24 ?d25 ?d26 ?d27 ?d28 ?d29 ?d30 ?d31 ?d32 ?d33 ?d34 ?d35 ?d36 ?d37 ?d38 ?d39 ?d40 ?d41 ?d42 ?d43 ?d44 ?d45 ?d46 ?d47 ?d48 ?d49 ?d50 ?d51 ?d52 ?d53 ?d54 ?d55 ?d56 ?d57 ?d58 ?d59 ?d60 ?d61 ?d62 ?d63 ?d64 ?d65 ?d66 ?d67 ?d68 ?d69 ?d70 ?d71 ?d72 ?d73 ?d74 ?d75 ?d76 ?d77 ?d78 ?d79 ?d80 ?z_abs ?z_len ?z_list ?z_max ?z_range ?z_reversed ?z_set ?z_sorted ?z_tuple ?kn_HOLDERS ?kt_HOLDERS ?kn_SIGNS ?kl_SIGNS ?kq_SIGNS ?hs_SIGNS ?kn_STEP ?kn_STROKES ?kl_STROKES ?kq_STROKES ?hs_STROKES
  (case d0|d1|d2|d3|d4|d5|d6|d7|d8|d9|d10|d11|d12|d13|d14|d15|d16|d17|d18|d19|d20|d21|d22|d23|d24|d25|d26|d27|d28|d29|d30|d31|d32|d33|d34|d35|d36|d37|d38|d39|d40|d41|d42|d43|d44|d45|d46|d47|d48|d49|d50|d51|d52|d53|d54|d55|d56|d57|d58|d59|d60|d61|d62|d63|d64|d65|d66|d67|d68|d69|d70|d71|d72|d73|d74|d75|d76|d77|d78|d79|d80=>(refine' Exists.intro _ (Exists.intro _ (L2.DF.mk ?a ?b ?c ?d));(case a=>k_is);(case b=>k_is);(case c=>k_is);(case d=>k_is)))
  (case z_abs|z_len|z_list|z_max|z_range|z_reversed|z_set|z_sorted|z_tuple|kn_HOLDERS=>k_is)
  (case kt_HOLDERS=>kernel_rfl)
  (case kn_SIGNS|kl_SIGNS=>k_is)
  (case kq_SIGNS=>(repeat' (first|exact trivial|(refine And.intro ⟨_,rfl⟩ (And.intro rfl (And.intro ?_ ?_)))|kernel_rfl)))
  (case hs_SIGNS=>kernel_rfl)
  (case kn_STEP|kn_STROKES|kl_STROKES=>k_is)
  (case kq_STROKES=>(repeat' (first|exact trivial|(refine And.intro ⟨_,rfl⟩ (And.intro rfl (And.intro ?_ ?_)))|kernel_rfl)))
  (case hs_STROKES=>kernel_rfl)
