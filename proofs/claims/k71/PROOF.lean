import PyProof.Rows.All
import Wide.All
import OpenK.AllK
import Wide.FinOn
import Lean
import PyProof.EqAt
import PyProof.EqKinds
import PyProof.TupleCall
import KE.KSortTup
import PyProof.EnumMake
import PyProof.EnumStmt
import PyProof.EnumFor
import PyProof.TupleKey
import PyProof.Rows.SetFrom
import PyProof.IsRules
import PyProof.DictWalks
import PyProof.FactsAll.set
import PyProof.CollectIter
import PyProof.ConsumeS
import PySem.SetOps
import KE.KDictList
import PyProof.DictRoadsH
import PyProof.DictFindH
import PyProof.Rows.SortRuns
import PyProof.Draws
import PyProof.Rows.TupIter
import PyProof.Rows.FStr
import PyProof.StrCalls2
import PyProof.SliceStr2
import PyProof.StrBlockI
import PyProof.StrLawsNeg
import PyProof.StrLawsJoin
import KE.KIntText
import PyProof.RaisesStr
import PyProof.ConsumeWalk
import PyProof.WalkInts
import PyProof.DictUpdate
import KE.KDictOf
import PyProof.Rows.Range3
import PyProof.DictTable
import PyProof.ListMulRoad
import PyProof.FactsAll.tuple_2
import PyProof.StrCalls3
import PySem.Challenge.RW_scenemend_k71_two_films
set_option compiler.extract_closed false
set_option Elab.async false
set_option linter.all false
set_option maxRecDepth 100000
theorem oB{α β:Type}{x:Option α}{f:α->Option β}{b:β}(h:x.bind f=some b):∃a,x=some a/\f a=some b:=Option.bind_eq_some_iff.mp h
theorem oM{α β:Type}{x:Option α}{f:α->β}{b:β}(h:x.map f=some b):∃a,x=some a/\f a=b:=Option.map_eq_some_iff.mp h
abbrev B':=@List.length_map
abbrev E':=@List.mem_cons_of_mem
abbrev G':=@Option.some.inj
abbrev J':=@List.mem_cons_self
abbrev K':=@List.getElem?_eq_some_iff
abbrev L':=@List.mem_append_right
abbrev P':=@List.map_cons
abbrev R':=@List.getElem?_set_ne
abbrev U':=@List.getElem?_map
abbrev V':=@List.getElem?_set_self
abbrev W':=@Nat.le_refl
abbrev X':=@List.mem_cons
abbrev Y':=@List.getElem?_eq_getElem
abbrev Z':=@PySem.Heap.get?_push_of_some
abbrev cM:=@List.length_cons
abbrev cN:=@List.mem_append
abbrev cO:=@List.getD_eq_getElem?_getD
abbrev cP:=@List.nodup_cons
abbrev cR:=@List.getElem?_append_right
abbrev cS:=@PySem.Heap.lt_size
abbrev cT:=@List.length_append
abbrev cU:=@List.mem_append_left
abbrev cV:=@List.length_set
abbrev cW:=@List.mem_singleton
abbrev cX:=@PySem.Heap.get?_push_size
abbrev cY:=@List.getElem?_append_left
abbrev cZ:=@Nat.zero_le
abbrev cg:=@List.nodup_append
abbrev cj:=@List.mem_of_getElem?
abbrev ck:=@Bool.false_ne_true
abbrev cm:=@Nat.le_trans
abbrev cq:=@Nat.ne_of_lt
abbrev cu:=@List.map_map
abbrev cv:=@List.mem_map
abbrev cw:=@Bool.and_eq_true
abbrev cy:=@Nat.lt_of_lt_of_le
abbrev cz:=@List.all_eq_true
abbrev c7:=@List.mem_range
abbrev c8:=@PySem.Heap.SameBut.update
abbrev c9:=@List.map_append
abbrev dA:=@PySem.PassesOwn.never
abbrev dB:=@List.size_toArray
abbrev dD:=@Int.toNat_natCast
abbrev dE:=@PySem.boot_len
abbrev dF:=@List.getElem?_replicate
abbrev dG:=@PySem.Heap.get?_update_self
abbrev dH:=@List.length_singleton
abbrev dI:=@Array.getD_eq_getD_getElem?
abbrev dJ:=@Nat.lt_or_ge
abbrev dM:=@List.append_nil
abbrev dO:=@List.append_assoc
abbrev dP:=@PySem.W.mg_none_of
abbrev dQ:=@List.drop_eq_getElem_cons
abbrev dR:=@List.getElem?_eq_none
abbrev dS:=@PySem.W.kia_one
abbrev dU:=@List.nil_append
abbrev dW:=@List.not_mem_nil
abbrev dX:=@List.length_replicate
abbrev dY:=@List.take_append_drop
abbrev dZ:=@List.getElem?_cons_succ
abbrev da:=@List.pairwise_cons
abbrev df:=@PySem.Pv.boot_list
abbrev dg:=@List.mem_filter
abbrev dh:=@Array.getElem?_eq_getElem
abbrev di:=@List.map_congr_left
abbrev dm:=@List.flatMap_append
abbrev dn:=@PyProof.Rows.boot_isinstance
abbrev dq:=@List.pairwise_append
abbrev dt:=@Nat.lt_irrefl
abbrev du:=@List.nodup_nil
abbrev dv:=@PySem.mem_of_lookup
abbrev dw:=@List.lookup_cons
abbrev dz:=@Int.emod_lt_of_pos
abbrev eC:=@List.dropLast_concat
abbrev eD:=@PySem.F.plainAttrs_list
abbrev eE:=@Int.emod_nonneg
abbrev eG:=@PySem.F.slot_dict_keyiterator_next
abbrev eH:=@Array.length_toList
abbrev eI:=@PyProof.Rows.callWith_type1
abbrev eJ:=@List.drop_length
abbrev eK:=@Array.getElem?_eq_some_iff
abbrev eM:=@PySem.Obj.data_mapFields
abbrev eO:=@List.mem_iff_getElem?
abbrev eP:=@Array.getElem?_toList
abbrev eQ:=@Nat.not_lt_zero
abbrev eR:=@Array.mem_toList_iff
abbrev eT:=@List.length_range
abbrev eU:=@Nat.lt_succ_of_lt
abbrev eV:=@PySem.Around.under_plainId
abbrev eW:=@PySem.F.slot_list_append
abbrev eY:=@PySem.F.type_list_append
abbrev eZ:=@List.filterMap_cons
abbrev eu:=@List.length_take
abbrev ez:=@Nat.add_sub_cancel_left
abbrev e9:=@List.getElem_mem
abbrev fA:=@List.mem_flatMap
abbrev fB:=@Nat.le_of_lt
abbrev fD:=@Nat.ne_of_gt
abbrev fE:=@PySem.Heap.get?_update_other
abbrev fF:=@List.range_succ_eq_map
abbrev fG:=@List.getLastD_cons
abbrev fH:=@List.eq_nil_or_concat
abbrev fJ:=@List.concat_eq_append
abbrev fK:=@Nat.lt_trichotomy
abbrev fL:=@PySem.Heap.get?_push_ne
abbrev fM:=@List.pairwise_map
abbrev fN:=@PySem.Heap.size_push
abbrev fO:=@PySem.Obj.data_mapDictKeys
abbrev fP:=@Iff.rfl
abbrev fQ:=@Nat.lt_trans
abbrev fR:=@Nat.mod_eq_of_lt
abbrev fS:=@List.getElem?_zip_eq_some
abbrev fT:=@List.pairwise_iff_getElem
abbrev fU:=@Classical.byContradiction
abbrev fV:=@List.getElem_of_mem
abbrev fW:=@List.mem_filterMap
abbrev fX:=@Nat.lt_of_le_of_lt
abbrev fY:=@List.mem_singleton_self
abbrev fZ:=@List.map_nil
abbrev ff:=@Nat.zero_add
abbrev fg:=@Nat.pow_succ
abbrev fh:=@Nat.le_of_lt_succ
abbrev fk:=@Array.getElem?_eq_none
abbrev fq:=@List.flatMap_cons
abbrev ft:=@Array.getElem?_setIfInBounds_ne
abbrev fu:=@PySem.Obj.isFreed_of_fields
abbrev fv:=@Nat.lt_succ_self
abbrev fw:=@PySem.Heap.size_update
abbrev fy:=@PySem.F.args_dict_keyiterator_next_1
abbrev fz:=@List.eq_nil_of_length_eq_zero
abbrev gA:=@PySem.F.entry_dict_keyiterator_next
abbrev gB:=@List.getLastD_concat
abbrev gC:=@PySem.W.plainGet_of
abbrev gD:=@PySem.Obj.isFreed_of_dict
abbrev gE:=@List.filter_eq_self
abbrev gF:=@PySem.Calls.Name_function_global
abbrev gH:=@PySem.W.callWith_K
abbrev gJ:=@Nat.eq_zero_or_pos
abbrev gK:=@Nat.mod_lt
abbrev gL:=@List.perm_ext_iff_of_nodup
abbrev gN:=@Array.forIn_toList
abbrev gR:=@List.perm_append_singleton
abbrev gS:=@List.getElem?_take
abbrev gT:=@List.getElem?_drop
abbrev gU:=@PySem.W.kitx_dict
abbrev gW:=@Nat.lt_succ_of_le
abbrev gX:=@PySem.Heap.SameBut.refl
abbrev gY:=@PySem.Obj.cls_mapFields
abbrev gZ:=@List.ext_getElem?
abbrev gc:=@List.ext_getElem
abbrev gd:=@List.perm_middle
abbrev gg:=@Prod.ext
abbrev gh:=@List.cons_append
abbrev gi:=@Nat.sub_self
abbrev gj:=@List.of_mem_zip
abbrev gk:=@List.range_succ
abbrev gm:=@Nat.le_succ
abbrev gu:=@Nat.mul_le_mul
section
namespace L2
open PySem PySem.Spec PyProof.Rows
abbrev Key:=Sum Int Str
def ZA:Key->Value->Bool
 |.inl k,v=>Value.isInt k v
 |.inr x,v=>Value.isStrOf x v
def cD(w:World):Key->Int
 |.inl k=>hashInt k
 |.inr x=>hashStr w x
theorem CU:∀{k:Key} {v:Value},ZA k v=true->(∃i t,k=Sum.inl i/\v=Value.int i t)\/(∃x t,k=Sum.inr x/\v=Value.str x t)
 |.inl i,v,h=>by
  obtain⟨t,e⟩:=Value.isInt_shape (k:=i) (v:=v) h
  exact .inl ⟨i,t,rfl,e⟩
 |.inr x,v,h=>by
  obtain⟨t,e⟩:=Value.isStrOf_shape (x:=x) (v:=v) h
  exact .inr ⟨x,t,rfl,e⟩
theorem Zz(a b:Int):decide ((Sum.inl a:Key)=Sum.inl b)=(a==b):=by
 by_cases e:a=b
 ·subst e;simp
 ·have h:¬(Sum.inl a:Key)=Sum.inl b:=λq=>e (Sum.inl.inj q)
  rw[decide_eq_false h]
  exact(beq_eq_false_iff_ne.mpr e).symm
theorem Zv(a b:Str):decide ((Sum.inr a:Key)=Sum.inr b)=decide (a=b):=by
 by_cases e:a=b
 ·subst e;simp
 ·have h:¬(Sum.inr a:Key)=Sum.inr b:=λq=>e (Sum.inr.inj q)
  rw[decide_eq_false h,decide_eq_false e]
theorem Zy(a:Int)(b:Str):decide ((Sum.inl a:Key)=Sum.inr b)=false:=decide_eq_false (λq=>nomatch q)
theorem Zw(a:Str)(b:Int):decide ((Sum.inr a:Key)=Sum.inl b)=false:=decide_eq_false (λq=>nomatch q)
def UO(prog:Program)(w:World):PySem.KeyKind prog w Key where
 is:=ZA
 hash:=cD w
 inj:=λv a b ha hb=>by
  rcases CU ha with ⟨i,t,rfl,rfl⟩|⟨x,t,rfl,rfl⟩
  ·rcases CU hb with ⟨j,u,rfl,e⟩|⟨y,u,rfl,e⟩
   ·injection e with e1 _;rw[e1]
   ·exact nomatch e
  ·rcases CU hb with ⟨j,u,rfl,e⟩|⟨y,u,rfl,e⟩
   ·exact nomatch e
   ·injection e with e1 _;rw[e1]
 byValue:=λk v h=>by
  rcases CU h with ⟨i,t,rfl,rfl⟩|⟨x,t,rfl,rfl⟩<;>rfl
 pyHash:=λhv h=>by
  rcases CU hv with ⟨i,t,rfl,rfl⟩|⟨x,t,rfl,rfl⟩
  ·exact wpAny_pyHash_int h
  ·exact wpAny_pyHash_str h
 eqBool:=λhu hv h=>by
  rcases CU hu with ⟨i,t,rfl,rfl⟩|⟨x,t,rfl,rfl⟩
  ·rcases CU hv with ⟨j,u,rfl,rfl⟩|⟨y,u,rfl,rfl⟩
   ·rw[Zz]at h;exact wpAny_eqBool_int h
   ·rw[Zy]at h;exact SeqAt.EqAt.int_str i t y u _ _ _ _ h
  ·rcases CU hv with ⟨j,u,rfl,rfl⟩|⟨y,u,rfl,rfl⟩
   ·rw[Zw]at h;exact SeqAt.EqAt.str_int x t j u _ _ _ _ h
   ·rw[Zv]at h;exact wpAny_eqBool_str h
 «strs»:=λk x t v h=>by
  rcases CU h with ⟨i,u,rfl,e⟩|⟨y,u,rfl,e⟩
  ·exact nomatch e
  ·injection e with e1 _
   subst e1
   cases v<;>rfl
end L2
namespace L2
open PySem PySem.Spec PyProof.Rows
inductive V where
 |non|bl (b:Bool)|int (i:Int)|str (x:Str)|byt (b:Array UInt8)|flt (b:UInt64)|ref (a:Addr)|ty (n:String)
 deriving DecidableEq
def RelV:V->Value->Prop
 |.non,u=>u=Value.none
 |.bl b,u=>u=Value.bool b
 |.int i,u=>∃t,u=Value.int i t
 |.str x,u=>∃t,u=Value.str x t
 |.byt b,u=>∃t,u=Value.bytes b t
 |.flt b,u=>∃t,u=Value.float b t
 |.ref a,u=>u=Value.ref a
 |.ty n,u=>u=Value.type n
abbrev Vals:List V->List Value->Prop:=Paired RelV
theorem Vals.length{xs:List V}{us:List Value}(r:Vals xs us):xs.length=us.length:=Paired.length r
theorem Vals.get:∀{xs:List V} {us:List Value} {i:Nat} {x:V},Vals xs us->xs[i]?=some x->∃u,us[i]?=some u/\RelV x u
 |_,_,_,_,.nil,e=>by simp at e
 |_,_,0,_,.cons r _,e=>by simp at e;subst e;exact⟨_,rfl,r⟩
 |_,_,i+1,x,.cons _ t,e=>by
  obtain⟨u,h1,h2⟩:=Vals.get (i:=i) (x:=x) t (by simpa using e)
  exact⟨u,by simpa using h1,h2⟩
theorem Vals.set{x:V}{u:Value}(r:RelV x u):∀{xs:List V} {us:List Value} (i:Nat),Vals xs us->Vals (xs.set i x) (us.set i u)
 |_,_,_,.nil=>.nil
 |_,_,0,.cons _ t=>.cons r t
 |_,_,i+1,.cons q t=>.cons q (Vals.set r i t)
theorem Vals.append:∀{xs ys:List V} {us ws:List Value},Vals xs us->Vals ys ws->Vals (xs++ys) (us++ws)
 |_,_,_,_,.nil,s=>s
 |_,_,_,_,.cons r t,s=>.cons r (Vals.append t s)
theorem Vals.take:∀{xs:List V} {us:List Value} (n:Nat),Vals xs us->Vals (xs.take n) (us.take n)
 |_,_,0,_=>.nil
 |_,_,_+1,.nil=>.nil
 |_,_,n+1,.cons r t=>.cons r (Vals.take n t)
theorem Vals.drop:∀{xs:List V} {us:List Value} (n:Nat),Vals xs us->Vals (xs.drop n) (us.drop n)
 |_,_,0,r=>r
 |_,_,_+1,.nil=>.nil
 |_,_,n+1,.cons _ t=>Vals.drop n t
def RelO:Option V->Option Value->Prop
 |some v,some u=>RelV v u
 |none,none=>True
 |_,_=>False
def KV{κ:Type}:List (κ×V)->List (κ×Value)->Prop:=Paired λ(p:κ×V) (q:κ×Value)=>p.1=q.1/\RelV p.2 q.2
def kV:Key->V
 |.inl i=>.int i
 |.inr x=>.str x
inductive HO where
 |lst (xs:List V)
 |tup (xs:List V)
 |dK (kvs:List (Key×V))|dT (kvs:List (List Key×V))
 |set (S:Int->Bool) (n:Nat)
 |ins (C dx:Addr) (fs:List (Str×V))
 |own (x:Addr)
 |xd (fs:List (Str×V))
 |met (f x:Addr)
 |rng (lo hi:Int)
 |frz (o:Obj) (u:HO)
 |tbl (ps:Array Value)
 |ext (φ:Heap->Prop)
abbrev Hp:=Addr->Option HO
def upd(H:Hp)(a:Addr)(o:HO):Hp:=λb=>if b=a then some o else H b
theorem AW{H:Hp}{a:Addr}{o:HO}:upd H a o a=some o:=by unfold upd;rw[if_pos rfl]
theorem AR{H:Hp}{a b:Addr}{o:HO}(h:b≠a):upd H a o b=H b:=by unfold upd;rw[if_neg h]
theorem Af{H:Hp}{a b:Addr}{o:HO}(h:H a=some o)(h':H b=none):a≠b:=by
 intro e;subst e;rw[h]at h';cases h'
section
variable (P:Program) (w:World)
def ObjOk(H:Hp)(h:Heap)(a:Addr):HO->Prop
 |.lst xs=>xs.length<=sizeLine/\∃(its:List Value) (n:Nat),Vals xs its/\h.get? a=some { cls:=.type "list",data:=.seq its.toArray n }
 |.tup xs=>xs.length<=sizeLine/\∃its:List Value,Vals xs its/\IsTup h a its.toArray
 |.dK kvs=>kvs.length<=sizeLine/\(a==sysModules)=false/\∃vs,KV kvs vs/\h.DictOf (UO P w) a vs
 |.dT kvs=>kvs.length<=sizeLine/\(a==sysModules)=false/\∃xs:List (List Key×Addr×Value),
   Paired (λ(p:List Key×V) (q:List Key×Addr×Value)=>p.1=q.1/\H q.2.1=some (.tup (p.1.map kV))/\RelV p.2 q.2.2) kvs xs /\
   ∃o es ep,h.get? a=some o/\o.ExactDict/\o.data = .dict es ep/\es.toList=xs.map (entryOfKey (tupleKind (UO P w)))/\(xs.map (·.1)).Nodup
 |.set S n=>h.SetOf (intKind P w) a S n
 |.ins C dx fs=>H dx=some (.own a)/\fs.length<=1000/\dx≠a/\h.get? a=some (PySem.W.instObj C dx) /\
   ∃mA,h.Ns1 dx mA/\(∀f,RelO (fs.lookup f) (mA f))/\PySem.Within mA (fs.map (·.1))
 |.own _=>∃o,h.get? a=some o
 |.xd fs=>∃mA,h.Ns1 a mA/\∀f,RelO (fs.lookup f) (mA f)
 |.rng lo hi=>∃t u v,h.get? a=some { cls:=.type "range",data:=.fields #[.int lo t,.int hi u,.int 1 v] }
 |.frz o u=>h.get? a=some o/\ObjOk H h a u
 |.tbl ps=>h.get? a=some { cls:=.none,data:=.fields ps }
 |.met f x=>h.get? a=some (PySem.W.methodObj (.ref f) (.ref x))
 |.ext φ=>φ h/\(∃o,h.get? a=some o)/\∀h1 h2:Heap,φ h1->(∀o,h1.get? a=some o->h2.get? a=some o)->φ h2
def HOk(H:Hp)(h:Heap):Prop:=∀a o,H a=some o->ObjOk P w H h a o
end
section
variable {P:Program} {w:World} {H H':Hp} {h h':Heap} {a:Addr} {o:HO}
theorem ObjOk.lt(x:ObjOk P w H h a o):a<h.objs.size:=by
 cases o with
 |lst xs=>obtain⟨_,_,_,_,e⟩:=x;exact cS e
 |tup xs=>obtain⟨_,_,_,p⟩:=x;exact p.lt
 |dK kvs=>obtain⟨_,_,_,_,o,_,_,e,_⟩:=x;exact cS e
 |dT kvs=>obtain⟨_,_,_,_,o,_,_,e,_⟩:=x;exact cS e
 |set S n=>obtain⟨o,_,_,_,e,_⟩:=x;exact cS e
 |ins C dx fs=>obtain⟨_,_,_,e,_⟩:=x;exact cS e
 |own y=>obtain⟨_,e⟩:=x;exact cS e
 |xd fs=>obtain⟨_,⟨_,_,_,e,_⟩,_⟩:=x;exact cS e
 |rng lo hi=>obtain⟨_,_,_,e⟩:=x;exact cS e
 |frz ob u=>obtain⟨e,_⟩:=x;exact cS e
 |tbl ps=>exact cS (show h.get? a=some _ from x)
 |met f y=>exact cS (show h.get? a=some _ from x)
 |ext φ=>obtain⟨_,⟨_,e⟩,_⟩:=x;exact cS e
theorem Paired.mapP{α β:Type}{F G:α->β->Prop}:∀{l₁:List α} {l₂:List β},Paired F l₁ l₂->(∀a b,F a b->G a b)->Paired G l₁ l₂
 |_,_,.nil,_=>.nil
 |_,_,.cons r t,f=>.cons (f _ _ r) (Paired.mapP t f)
theorem ObjOk.stay(x:ObjOk P w H h a o)(k:∀b u,(b=a\/H b=some (.own a))->h.get? b=some u->h'.get? b=some u)
  (ho:∀b,H b=some (.own a)->H' b=some (.own a)) (ht:∀b xs,H b=some (.tup xs)->H' b=some (.tup xs)):ObjOk P w H' h' a o:=by
 induction o with
 |lst xs=>obtain⟨z,its,n,r,e⟩:=x;exact⟨z,its,n,r,k _ _ (.inl rfl) e⟩
 |tup xs=>obtain⟨z,its,r,ob,e,c⟩:=x;exact⟨z,its,r,ob,k _ _ (.inl rfl) e,c⟩
 |dK kvs=>obtain⟨z,y,vs,r,ob,es,ep,e,c⟩:=x;exact⟨z,y,vs,r,ob,es,ep,k _ _ (.inl rfl) e,c⟩
 |dT kvs =>
  obtain⟨z,y,xs,r,ob,es,ep,e,c⟩:=x
  exact⟨z,y,xs,Paired.mapP r λp q z=>⟨z.1,ht _ _ z.2.1,z.2.2⟩,ob,es,ep,k _ _ (.inl rfl) e,c⟩
 |set S n=>obtain⟨ob,es,ep,t,e,c⟩:=x;exact⟨ob,es,ep,t,k _ _ (.inl rfl) e,c⟩
 |ins C dx fs =>
  obtain⟨d,z,ne,e,mA,⟨od,es,ep,e2,c⟩,r⟩:=x
  exact⟨ho _ d,z,ne,k _ _ (.inl rfl) e,mA,⟨od,es,ep,k _ _ (.inr d) e2,c⟩,r⟩
 |own y=>obtain⟨ob,e⟩:=x;exact⟨ob,k _ _ (.inl rfl) e⟩
 |xd fs=>obtain⟨mA,⟨od,es,ep,e,c⟩,r⟩:=x;exact⟨mA,⟨od,es,ep,k _ _ (.inl rfl) e,c⟩,r⟩
 |rng lo hi=>obtain⟨t,u,v,e⟩:=x;exact⟨t,u,v,k _ _ (.inl rfl) e⟩
 |frz ob u ih=>obtain⟨e,q⟩:=x;exact⟨k _ _ (.inl rfl) e,ih q⟩
 |tbl ps =>
  have e:h.get? a=some { cls:=.none,data:=.fields ps }:=x
  show h'.get? a=some { cls:=.none,data:=.fields ps }
  exact k a _ (.inl rfl) e
 |met f y =>
  have e:h.get? a=some (PySem.W.methodObj (.ref f) (.ref y)):=x
  show h'.get? a=some (PySem.W.methodObj (.ref f) (.ref y))
  exact k a _ (.inl rfl) e
 |ext φ=>obtain⟨p,⟨o,e⟩,st⟩:=x;exact⟨st _ _ p λo q=>k _ _ (.inl rfl) q,⟨o,k _ _ (.inl rfl) e⟩,st⟩
theorem HOk.lt(x:HOk P w H h)(e:H a=some o):a<h.objs.size:=(x a o e).lt
theorem HOk.fresh(x:HOk P w H h)(e:h.objs.size<=a):H a=none:=by
 cases q:H a with
 |none=>rfl
 |some u=>exact absurd (cy (x.lt q) e) (dt _)
theorem HOk.kept(x:HOk P w H h)(k:∀b u,h.get? b=some u->h'.get? b=some u):HOk P w H h':=λa o e =>
 (x a o e).stay (λb u _ q=>k b u q) (λ_ q=>q) λ_ _ q=>q
theorem HOk.laid(x:HOk P w H h)(k:∀b u,h.get? b=some u->h'.get? b=some u)(hp:h.objs.size<=a)(new:ObjOk P w (upd H a o) h' a o):HOk P w (upd H a o) h':=λb u e=>by
 have hn:=x.fresh hp
 by_cases hb:b=a
 ·subst hb;rw[AW]at e;cases e;exact new
 ·rw[AR hb]at e
  exact(x b u e).stay (λc v _ q=>k c v q) (λc q=>by rw[AR (Af q hn)];exact q) λc xs q=>by rw[AR (Af q hn)];exact q
end
def Rd(H:Hp)(a:Addr)(u:HO):Prop:=H a=some u\/∃o,H a=some (.frz o u)
theorem Rd.ok{P:Program}{w:World}{H:Hp}{h:Heap}{a:Addr}{u:HO}(r:Rd H a u)(x:HOk P w H h):ObjOk P w H h a u:=by
 rcases r with r|⟨o,r⟩
 ·exact x a u r
 ·obtain⟨_,q⟩:=x a _ r
  exact q
def Mut:Option HO->Prop
 |some (.lst _)=>True
 |some (.dK _)=>True
 |some (.dT _)=>True
 |some (.set _ _)=>True
 |some (.ins _ _ _)=>True
 |some (.ext _)=>True
 |_=>False
section
variable {P:Program} {w:World} {H:Hp} {h h':Heap} {x e:Addr} {o':HO}
theorem HOk.write(ok:HOk P w H h)(mu:Mut (H x))(he:e=x\/H e=some (.own x))(k:∀b u,b≠e->h.get? b=some u->h'.get? b=some u)(heo:∃u,h'.get? e=some u)
  (new:ObjOk P w (upd H x o') h' x o'):HOk P w (upd H x o') h':=λb u q=>by
 have nown:∀c y,H c=some (.own y)->c≠x:=λc y r z=>by subst z;rw[r]at mu;exact mu
 have ntup:∀c xs,H c=some (.tup xs)->c≠x:=λc xs r z=>by subst z;rw[r]at mu;exact mu
 by_cases hb:b=x
 ·subst hb;rw[AW]at q;cases q;exact new
 ·rw[AR hb]at q
  by_cases hbe:b=e
  ·have q':H b=some (.own x):=by
    rcases he with z|z
    ·exact absurd (hbe.trans z) hb
    ·rw[hbe];exact z
   rw[q]at q';cases q'
   obtain⟨v,hv⟩:=heo
   exact⟨v,by rw[hbe];exact hv⟩
  ·refine(ok b u q).stay (λc v hc r=>k c v ?_ r) (λc r=>by rw[AR (nown c b r)];exact r) λc xs r=>by rw[AR (ntup c xs r)];exact r
   rcases hc with rfl|hc
   ·exact hbe
   ·rintro rfl
    rcases he with z|z
    ·exact nown c b hc z
    ·rw[hc]at z;cases z;exact hb rfl
end
structure Un(fs ex:List Addr)(H H':Hp)(h h':Heap):Prop where
 keep:∀b o,h.get? b=some o->H b=none->b∉fs->b∉ex->h'.get? b=some o
 slot:∀b o,h.get? b=some o->H b=none->b∈fs->b∉ex->∃sl,h'.get? b=some { o with slots:=sl }
 free:∀b o,h.get? b=some o->H b=none->b∉ex->H' b=none
 there:∀b o,h.get? b=some o->b∉ex->∃o',h'.get? b=some o'
 tups:∀b xs,H b=some (.tup xs)->H' b=some (.tup xs)
 frzs:∀b o u,H b=some (.frz o u)->H' b=some (.frz o u)
 tbls:∀b ps,H b=some (.tbl ps)->∃more,H' b=some (.tbl (ps++more))
section
variable {fs fs' ex ex':List Addr} {H H1 H2:Hp} {h h1 h2 h':Heap} {a x e:Addr} {o:HO}
theorem Un.any(u:Un fs ex H H1 h h1){b:Addr}{ob:Obj}(q:h.get? b=some ob)(n:H b=none)(hx:b∉ex):∃sl,h1.get? b=some { ob with slots:=sl }:=by
 by_cases hb:b∈fs
 ·exact u.slot b ob q n hb hx
 ·exact⟨ob.slots,u.keep b ob q n hb hx⟩
theorem Un.kept(k:∀b u,h.get? b=some u->h'.get? b=some u):Un fs ex H H h h' :=
 ⟨λb ob q _ _ _=>k b ob q,λb ob q _ _ _=>⟨ob.slots,k b ob q⟩,λ_ _ _ n _=>n,λb ob q _=>⟨ob,k b ob q⟩,λ_ _ q=>q,λ_ _ _ q=>q,λ_ ps q=>⟨#[],by rw[q];simp⟩⟩
theorem Un.refl:Un fs ex H H h h:=Un.kept λ_ _ q=>q
theorem Un.laid(k:∀b u,h.get? b=some u->h'.get? b=some u)(hp:h.objs.size<=a)(hn:H a=none):Un fs ex H (upd H a o) h h' where
 keep:=λb u q _ _ _=>k b u q
 slot:=λb u q _ _ _=>⟨u.slots,k b u q⟩
 free:=λb u q n _=>by rw[AR (cq (cy (cS q) hp))];exact n
 there:=λb u q _=>⟨u,k b u q⟩
 tups:=λb xs q=>by rw[AR (Af q hn)];exact q
 frzs:=λb u xs q=>by rw[AR (Af q hn)];exact q
 tbls:=λb ps q=>⟨#[],by rw[AR (Af q hn),q];simp⟩
theorem Un.write(mu:Mut (H x))(he:e=x\/H e=some (.own x))(k:∀b u,b≠e->h.get? b=some u->h'.get? b=some u)(heo:∃u,h'.get? e=some u):Un fs ex H (upd H x o) h h':=by
 have hx:∀b,H b=none->b≠x:=λb n z=>by subst z;rw[n]at mu;exact mu
 have hb:∀b,H b=none->b≠e:=λb n z=>by
  subst z
  rcases he with r|r
  ·exact hx b n r
  ·rw[n]at r;cases r
 have hm:∀b u,H b=some u->¬Mut (some u)->b≠x:=λb u q nm z=>by subst z;rw[q]at mu;exact nm mu
 refine ⟨λb u q n _ _ => k b u (hb b n) q, λb u q n _ _ => ⟨u.slots, k b u (hb b n) q⟩, λb u q n _ => by rw [AR (hx b n)]; exact n, λb u q _ => ?_,
  λb xs q=>by rw[AR (hm b _ q λz=>z)];exact q,λb u xs q=>by rw[AR (hm b _ q λz=>z)];exact q,λb ps q=>⟨#[],by rw[AR (hm b _ q λz=>z),q];simp⟩⟩
 by_cases hbe:b=e
 ·subst hbe;exact heo
 ·exact⟨u,k b u hbe q⟩
end
def trk(h:Heap)(H:Hp):List Addr:=(List.range h.objs.size).filter λa=>(H a).isSome
def Q5(h:Heap)(H:Hp):Heap:=PySem.W.hideAll h (trk h H)
theorem Vf(h:Heap)(H:Hp):(Q5 h H).objs.size=h.objs.size:=PySem.W.hideAll_size _ _
theorem W2{h:Heap}{H:Hp}{b:Addr}{o:Obj}(e:h.get? b=some o)(n:H b=none):(Q5 h H).get? b=some o :=
 PySem.W.hideAll_get _ e λhm=>by
  have q:(H b).isSome=true:=(dg.mp hm).2
  rw[n]at q;simp at q
theorem YD{h:Heap}{H:Hp}{b:Addr}{o:Obj}(e:(Q5 h H).get? b=some o):h.get? b=some o/\H b=none:=by
 have e':h.get? b=some o:=PySem.W.of_hideAll (trk h H) e
 refine⟨e',?_⟩
 cases q:H b with
 |none=>rfl
 |some x =>
  have hm:b∈trk h H:=dg.mpr ⟨c7.mpr (cS e'),by simp[q]⟩
  have z:(Q5 h H).get? b=none:=PySem.W.hideAll_none (trk h H) hm
  rw[z]at e;cases e
def Yp(g h:Heap)(L:Addr):List (Addr×Obj):=(List.range h.objs.size).filterMap λa=>if a=L\/(g.get? a).isSome=true then none else (h.get? a).map λo=>(a,o)
def Dh(g h:Heap)(L d:Addr):List (Addr×Obj):=(Yp g h L).filter λp=>decide (p.1≠d)
end L2
namespace L2
open PySem PySem.Spec PyProof.Rows
structure Mod(K:PySem.W.Frag)(mg:Str->Option Value)(base:Heap):Prop where
 kin:K.In base
 glob:base.Ns mainGlobals mg
 blt:∃mb,base.Ns builtinsNs mb/\∀x:Str,x≠"__name__"->mb x=bootBuiltins x
 nolimit:base.NoLimit
structure Cx where
 prog:Program
 w:World
 K:PySem.W.Frag
 mg:Str->Option Value
 base:Heap
 A:Around
 N:List Str
 s₀:Shared
 H₀:Hp
 env:Env
 outer:List Env
 stack:List Env
 ex:List Addr
 fn:Str->Bool
 calm:Bool
 pn:List (Addr×Obj)
 xe:Value->Shared->Prop
def frs(l:List Env):List Addr:=l.filterMap (·.frame)
abbrev Cx.fs(X:Cx):List Addr:=frs X.outer
def Vis(sc:Scope)(x:Str):Prop:=sc.names.lookup x=some .local\/sc.names.lookup x=some .cell\/sc.names.lookup x=some .free
def Loc(sc:Scope)(x:Str):Prop:=sc.names.lookup x=some .local\/sc.names.lookup x=some .cell
def cL(env:Env)(h:Heap)(m:Str->Option Value)(x:Str)(u:Value):Prop :=
 (env.kindOf x=some .local/\m x=some u)\/((env.kindOf x=some .cell\/env.kindOf x=some .free)/\∃c,env.cells.lookup x=some c/\h.IsCell c (some u))
structure Cx.Ok(X:Cx):Prop where
 mod:Mod X.K X.mg X.base
 kind:X.env.scope.kind = .function
 glob:X.env.globals=mainGlobals
 blt:X.env.builtins=builtinsNs
 above:X.s₀.heap.objs.size<=X.env.locals
 inj:∀x y c,X.env.cells.lookup x=some c->X.env.cells.lookup y=some c->x=y
 has:∀x,(X.env.kindOf x=some .cell\/X.env.kindOf x=some .free)->∃c,X.env.cells.lookup x=some c
 cab:∀x c,X.fn x=true->X.env.cells.lookup x=some c->X.s₀.heap.objs.size<=c
 hd:X.calm=true->X.A.handled=none
 frames:X.A.frames=some X.stack
 stk:X.stack=X.outer\/(X.stack=X.env::X.outer/\X.env.frame=some X.env.locals)
 exf:∀b∈X.ex,b≠X.env.locals/\∀x c,X.env.cells.lookup x=some c->c≠b
 bs:∀b o,X.base.get? b=some o->X.s₀.heap.get? b=some o/\X.H₀ b=none
 bsz:X.base.objs.size<=X.s₀.heap.objs.size
 noex:∀b o,X.base.get? b=some o->b∉X.ex
 exfs:∀b∈X.ex,b∉X.fs
 funs:X.s₀.heap.FunFrames X.base X.outer
 frf:∀b∈X.fs,X.H₀ b=none
structure Inv(X:Cx)(pins:List (Addr×Obj))(σ:List (Option V))(H:Hp)(s:Shared):Prop where
 ok:X.Ok
 os:s.os=X.s₀.os
 bare:AllBare s.gens
 base:Un X.fs X.ex X.H₀ H X.s₀.heap s.heap
 loc:∃m,s.heap.Ns X.env.locals m/\∀(i:Nat) (x:Str) (v:V),X.N[i]?=some x->σ[i]?=some (some v)->Vis X.env.scope x->∃u,RelV v u/\cL X.env s.heap m x u
 cell:∀x c,X.env.cells.lookup x=some c->∃v,s.heap.IsCell c v
 free:H X.env.locals=none
 freeC:∀x c,X.env.cells.lookup x=some c->H c=none
 pin:∀p∈X.pn++pins,s.heap.get? p.1=some p.2/\H p.1=none/\p.1≠X.env.locals/\p.1∉X.fs/\∀v,p.2.data≠.cell v
 hok:HOk X.prog X.w H s.heap
 len:σ.length=X.N.length
section
variable {X:Cx} {pins:List (Addr×Obj)} {σ:List (Option V)} {H H':Hp} {s:Shared} {h':Heap}
theorem Cx.Ok.nofr(ok:X.Ok){b:Addr}{o:Obj}(e:X.base.get? b=some o):b∉X.fs:=λhb=>by
 have:=(ok.funs.mem hb).1
 rw[e]at this;cases this
theorem Inv.bs(I:Inv X pins σ H s):∀b o,X.base.get? b=some o->s.heap.get? b=some o/\H b=none:=λb o e =>
 ⟨I.base.keep b o (I.ok.bs b o e).1 (I.ok.bs b o e).2 (I.ok.nofr e) (I.ok.noex b o e),I.base.free b o (I.ok.bs b o e).1 (I.ok.bs b o e).2 (I.ok.noex b o e)⟩
theorem Inv.bk(I:Inv X pins σ H s):∀b o,X.base.get? b=some o->s.heap.get? b=some o:=λb o e=>(I.bs b o e).1
theorem Inv.mod(I:Inv X pins σ H s):Mod X.K X.mg X.base:=I.ok.mod
theorem Inv.kIn(I:Inv X pins σ H s):X.K.In s.heap:=I.ok.mod.kin.keeps I.bk
theorem Inv.lt(I:Inv X pins σ H s):X.env.locals<s.heap.objs.size:=let ⟨_,hn,_⟩:=I.loc;hn.lt
theorem Inv.sz(I:Inv X pins σ H s):X.s₀.heap.objs.size<=s.heap.objs.size:=cm I.ok.above (fB I.lt)
theorem Inv.nofs(I:Inv X pins σ H s){a:Addr}(h:s.heap.objs.size<=a):a∉X.fs:=λhb=>by
 obtain⟨_,o,ho,_⟩:=I.ok.funs.mem hb
 exact absurd (cy (cS ho) (cm I.sz h)) (dt _)
theorem Inv.cne(I:Inv X pins σ H s):∀x c,X.env.cells.lookup x=some c->c≠X.env.locals:=λx c e z=>by
 obtain⟨v,o,ho,hd⟩:=I.cell x c e
 obtain⟨m,⟨o',es,ep,ho',hd',_⟩,_⟩:=I.loc
 rw[z,ho']at ho;cases ho;rw[hd']at hd;cases hd
theorem Inv.funs(I:Inv X pins σ H s):s.heap.FunFrames X.base X.outer:=by
 have all:∀(l:List Env),(∀b∈frs l,b∈X.fs)->X.s₀.heap.FunFrames X.base l->s.heap.FunFrames X.base l:=by
  intro l
  induction l with
  |nil=>intro _ _;trivial
  |cons env r ih =>
   intro hs hl
   obtain⟨hk,⟨L,o,hf,hn,ho,hd⟩,hr⟩:=hl
   have hL:L∈X.fs:=hs L (by unfold frs;rw[eZ,hf];exact J')
   obtain⟨sl,e⟩:=I.base.slot L o ho (I.ok.frf L hL) hL λz=>I.ok.exfs L z hL
   exact⟨hk,⟨L,_,hf,hn,e,hd⟩,ih (λb hb=>hs b (by unfold frs;rw[eZ,hf];exact E' _ hb)) hr⟩
 exact all X.outer (λ_ hb=>hb) I.ok.funs
theorem Inv.stack(I:Inv X pins σ H s):s.heap.FunFrames X.base X.stack:=by
 rcases I.ok.stk with e|⟨e,hf⟩
 ·rw[e];exact I.funs
 ·rw[e]
  obtain⟨m,hn,_⟩:=I.loc
  refine .cons (by rw[I.ok.kind];decide) hf hn ?_ I.funs
  exact Heap.get?_none_of_le (cm I.ok.bsz I.ok.above)
theorem Inv.stkSub(I:Inv X pins σ H s):∀b∈frs X.stack,b∈X.env.locals::X.fs:=λb hb=>by
 rcases I.ok.stk with e|⟨e,hf⟩
 ·rw[e]at hb;exact E' _ hb
 ·rw[e]at hb
  unfold frs at hb
  rw[eZ,hf]at hb
  exact hb
theorem Inv.stkFree(I:Inv X pins σ H s):∀b∈frs X.stack,H b=none:=λb hb=>by
 rcases X'.mp (I.stkSub b hb)with e|hb
 ·rw[e];exact I.free
 ·obtain⟨_,o,ho,_⟩:=I.ok.funs.mem hb
  exact I.base.free b o ho (I.ok.frf b hb) λz=>I.ok.exfs b z hb
theorem Inv.step{g':Array GenState}{t':Nat}{d':Drawn}{ch:List Addr}(I:Inv X pins σ H s)
  (hch:∀b∈ch,(b∈X.ex\/X.s₀.heap.objs.size<=b)/\b≠X.env.locals/\(∀x c,X.env.cells.lookup x=some c->c≠b)/\∀p∈X.pn++pins,p.1≠b)
  (keep:∀b o,b≠X.env.locals->b∉X.fs->b∉ch->s.heap.get? b=some o->H b=none->h'.get? b=some o)
  (slot:∀b o,b≠X.env.locals->b∈X.fs->b∉ch->s.heap.get? b=some o->H b=none->∃sl,h'.get? b=some { o with slots:=sl }) (free:∀b o,b∉ch->s.heap.get? b=some o->H b=none->H' b=none)
  (there:∀b o,b∉ch->s.heap.get? b=some o->∃o',h'.get? b=some o')
  (tups:∀b xs,H b=some (.tup xs)->H' b=some (.tup xs)) (frzs:∀b o u,H b=some (.frz o u)->H' b=some (.frz o u)) (tbls:∀b ps,H b=some (.tbl ps)->∃more,H' b=some (.tbl (ps++more)))
  (ns:∀m,s.heap.Ns X.env.locals m->h'.Ns X.env.locals m) (hok:HOk X.prog X.w H' h') (hg:AllBare g') :
  Inv X pins σ H' { s with heap:=h',gens:=g',drawn:=d',toks:=t' }:=by
 have neL:∀b o,X.s₀.heap.get? b=some o->b≠X.env.locals:=λb o e=>cq (cy (cS e) I.ok.above)
 have neC:∀b o,X.s₀.heap.get? b=some o->b∉X.ex->b∉ch:=λb o e hx hb=>by
  rcases(hch b hb).1 with z|z
  ·exact hx z
  ·exact absurd (cy (cS e) z) (dt _)
 have cellK:∀x c,X.env.cells.lookup x=some c->∀v,s.heap.IsCell c v->h'.IsCell c v:=λx c e v ⟨o,ho,hd⟩=>by
  have nch:c∉ch:=λz=>(hch c z).2.2.1 x c e rfl
  by_cases hc:c∈X.fs
  ·obtain⟨sl,q⟩:=slot c o (I.cne x c e) hc nch ho (I.freeC x c e)
   exact⟨_,q,hd⟩
  ·exact⟨o,keep c o (I.cne x c e) hc nch ho (I.freeC x c e),hd⟩
 refine⟨I.ok,I.os,hg,⟨λb o e n hb hx=>?_,λb o e n hb hx=>?_,λb o e n hx=>?_,λb o e hx=>?_,λb xs e=>tups b xs (I.base.tups b xs e),λb o xs e=>frzs b o xs (I.base.frzs b o xs e),λb ps e=>?_⟩,?_,λx c e=>?_,?_,λx c e=>?_,λp hp=>?_,hok,I.len⟩
 ·exact keep b o (neL b o e) hb (neC b o e hx) (I.base.keep b o e n hb hx) (I.base.free b o e n hx)
 ·obtain⟨sl,e1⟩:=I.base.slot b o e n hb hx
  obtain⟨sl',e2⟩:=slot b _ (neL b o e) hb (neC b o e hx) e1 (I.base.free b o e n hx)
  exact⟨sl',e2⟩
 ·obtain⟨o',e1⟩:=I.base.there b o e hx
  exact free b o' (neC b o e hx) e1 (I.base.free b o e n hx)
 ·obtain⟨o',e1⟩:=I.base.there b o e hx
  exact there b o' (neC b o e hx) e1
 ·obtain⟨m1,e1⟩:=I.base.tbls b ps e
  obtain⟨m2,e2⟩:=tbls b _ e1
  exact⟨m1++m2,by rw[e2,Array.append_assoc]⟩
 ·obtain⟨m,hn,hl⟩:=I.loc
  refine⟨m,ns m hn,λi x v e1 e2 e3=>?_⟩
  obtain⟨u,r,l⟩:=hl i x v e1 e2 e3
  refine⟨u,r,?_⟩
  rcases l with l|⟨k,c,e,z⟩
  ·exact .inl l
  ·exact .inr ⟨k,c,e,cellK x c e _ z⟩
 ·obtain⟨v,z⟩:=I.cell x c e
  exact⟨v,cellK x c e v z⟩
 ·obtain⟨m,⟨o,_,_,ho,_⟩,_⟩:=I.loc
  exact free _ o (λz=>(hch _ z).2.1 rfl) ho I.free
 ·obtain⟨v,o,ho,hd⟩:=I.cell x c e
  exact free c o (λz=>(hch c z).2.2.1 x c e rfl) ho (I.freeC x c e)
 ·obtain⟨e,n,ne,nf,d⟩:=I.pin p hp
  have nch:p.1∉ch:=λz=>(hch p.1 z).2.2.2 p hp rfl
  exact⟨keep p.1 p.2 ne nf nch e n,free p.1 p.2 nch e n,ne,nf,d⟩
theorem Inv.un{t':Nat}(I:Inv X pins σ H s)(u:Un X.fs [] H H' s.heap h')(hok:HOk X.prog X.w H' h'):Inv X pins σ H' { s with heap:=h',toks:=t' }:=by
 obtain⟨m,⟨o,es,ep,ho,r⟩,_⟩:=id I.loc
 obtain⟨sl,hL⟩:=u.any ho I.free (by simp)
 exact I.step (g' := s.gens) (d' := s.drawn) (ch := []) (λ_ z => nomatch z) (λb o _ hb _ e n => u.keep b o e n hb (by simp)) (λb o _ hb _ e n => u.slot b o e n hb (by simp)) (λb o _ e n => u.free b o e n (by simp)) (λb o _ e => u.there b o e (by simp)) u.tups u.frzs u.tbls (λm' hm => by
  obtain⟨o',es',ep',ho',r'⟩:=hm
  rw[ho]at ho';cases ho'
  exact⟨_,es',ep',hL,r'⟩) hok I.bare
theorem Inv.call{g':Array GenState}{t':Nat}{d':Drawn}{ch:List Addr}(I:Inv X pins σ H s)(u:Un (frs X.stack) ch H H' s.heap h')(hok:HOk X.prog X.w H' h')(hg:AllBare g')
  (hch:∀b∈ch,(b∈X.ex\/X.s₀.heap.objs.size<=b)/\b≠X.env.locals/\(∀x c,X.env.cells.lookup x=some c->c≠b)/\∀p∈X.pn++pins,p.1≠b) :
  Inv X pins σ H' { s with heap:=h',gens:=g',drawn:=d',toks:=t' }:=by
 obtain⟨m,⟨o,es,ep,ho,r⟩,_⟩:=id I.loc
 obtain⟨sl,hL⟩:=u.any ho I.free λz=>(hch _ z).2.1 rfl
 exact I.step (ch := ch) hch (λb o hL hb hc e n => u.keep b o e n (λz => (X'.mp (I.stkSub b z)).elim hL hb) hc) (λb o _ _ hc e n => u.any e n hc) (λb o hc e n => u.free b o e n hc) (λb o hc e => u.there b o e hc) u.tups u.frzs u.tbls (λm' hm => by
  obtain⟨o',es',ep',ho',r'⟩:=hm
  rw[ho]at ho';cases ho'
  exact⟨_,es',ep',hL,r'⟩) hok hg
theorem Inv.turned{t':Nat}{it:Addr}(I:Inv X pins σ H s)(k:∀b o,b≠it->s.heap.get? b=some o->h'.get? b=some o)(hn:H it=none)(hL:it≠X.env.locals)
  (h1:it∈X.ex\/X.s₀.heap.objs.size<=it) (h2:∀x c,X.env.cells.lookup x=some c->c≠it) (h3:∀p∈X.pn++pins,p.1≠it):Inv X pins σ H { s with heap:=h',toks:=t' }:=by
 have nit:∀b u,H b=some u->b≠it:=λb u e z=>by rw[z,hn]at e;cases e
 refine I.step (g':=s.gens) (d':=s.drawn) (ch:=[it]) (λb hb=>?_) (λb o _ _ hc e _=>k b o (λz=>hc (by simp[z])) e) (λb o _ _ hc e _=>⟨o.slots,k b o (λz=>hc (by simp[z])) e⟩) (λ_ _ _ _ n=>n)
  (λb o hc e=>⟨o,k b o (λz=>hc (by simp[z])) e⟩) (λ_ _ e=>e) (λ_ _ _ e=>e) (λb ps e=>⟨#[],by rw[e];simp⟩) (λm hm=>?_) (λb u e=>?_) I.bare
 ·have e:b=it:=by simpa using hb
  subst e
  exact⟨h1,hL,h2,h3⟩
 ·obtain⟨o,es,ep,ho,r⟩:=hm
  exact⟨o,es,ep,k _ o (Ne.symm hL) ho,r⟩
 ·refine(I.hok b u e).stay (λc v hc q=>k c v ?_ q) (λ_ q=>q) λ_ _ q=>q
  rcases hc with z|z
  ·rw[z];exact nit b u e
  ·exact nit c _ z
theorem Inv.tok(I:Inv X pins σ H s)(t:Nat):Inv X pins σ H { s with toks:=t }:=I.un (h':=s.heap) (t':=t) Un.refl I.hok
theorem Inv.kept{t':Nat}(I:Inv X pins σ H s)(k:∀b u,s.heap.get? b=some u->h'.get? b=some u):Inv X pins σ H { s with heap:=h',toks:=t' }:=I.un (Un.kept k) (I.hok.kept k)
theorem Inv.laid{a:Addr}{o:HO}{t':Nat}(I:Inv X pins σ H s)(k:∀b u,s.heap.get? b=some u->h'.get? b=some u)(hp:s.heap.objs.size<=a)(new:ObjOk X.prog X.w (upd H a o) h' a o) :
  Inv X pins σ (upd H a o) { s with heap:=h',toks:=t' }:=I.un (Un.laid k hp (I.hok.fresh hp)) (I.hok.laid k hp new)
theorem Inv.write{x e:Addr}{o:HO}{t':Nat}(I:Inv X pins σ H s)(mu:Mut (H x))(he:e=x\/H e=some (.own x))(k:∀b u,b≠e->s.heap.get? b=some u->h'.get? b=some u)(heo:∃u,h'.get? e=some u)
  (new:ObjOk X.prog X.w (upd H x o) h' x o):Inv X pins σ (upd H x o) { s with heap:=h',toks:=t' }:=I.un (Un.write mu he k heo) (I.hok.write mu he k heo new)
theorem Inv.pins_of{pins':List (Addr×Obj)}(I:Inv X pins σ H s)(h:∀p∈pins',s.heap.get? p.1=some p.2/\H p.1=none/\p.1≠X.env.locals/\p.1∉X.fs/\∀v,p.2.data≠.cell v):Inv X pins' σ H s :=
 ⟨I.ok,I.os,I.bare,I.base,I.loc,I.cell,I.free,I.freeC,λp hp=>(cN.mp hp).elim (λz=>I.pin p (cU _ z)) (h p),I.hok,I.len⟩
theorem Ro{N:List Str}(hN:N.Nodup){i j:Nat}{x:Str}(a:N[i]?=some x)(b:N[j]?=some x):i=j:=by
 obtain⟨h1,e1⟩:=K'.mp a
 obtain⟨h2,e2⟩:=K'.mp b
 exact(List.getElem_inj hN).mp (e1.trans e2.symm)
theorem O8{M:Model}{A:Around}{E:Value->Shared->Prop}{i:Nat}{x:Str}{v:V}{u:Value}{Q:Unit->Shared->Prop}(I:Inv X pins σ H s)(hN:X.N.Nodup)(hi:X.N[i]?=some x)(hx:Loc X.env.scope x)(r:RelV v u)
  (h:∀s',Inv X pins (σ.set i (some v)) H s'->(∃a,Heap.SameBut a s.heap s'.heap/\(a=X.env.locals\/X.env.cells.lookup x=some a))->Q () s') (hf:X.fn x=true\/X.env.scope.names.lookup x=some .local:=by first|exact .inl rfl|exact .inr rfl|assumption):wpAny M A (storeName X.env x u) Q E s:=by
 obtain⟨m,hn,hl⟩:=id I.loc
 have hcls:(X.env.scope.kind==.class||(X.env.scope.kind==.module&&X.env.locals != X.env.globals))=false:=by rw[I.ok.kind];rfl
 have hiσ:i<σ.length:=by rw[I.len];exact(K'.mp hi).1
 have cne:=I.cne
 have tracked:∀{a:Addr} {h':Heap},(∃o,s.heap.get? a=some o/\H a=none)->Heap.SameBut a s.heap h'->HOk X.prog X.w H h':=λ{a h'} ha hs b ob e=>by
  obtain⟨_,_,hfree⟩:=ha
  refine(I.hok b ob e).stay (λc w' hc q=>(hs.2 c ?_).trans q) (λ_ q=>q) λ_ _ q=>q
  rintro rfl
  rcases hc with rfl|hc
  ·rw[hfree]at e;cases e
  ·rw[hfree]at hc;cases hc
 rcases hx with hk|hk
 ·refine wpAny_storeName_local hk hn (λh' hn' hs=>?_) hcls
  obtain⟨oL,_,_,hoL,_⟩:=id hn
  refine h _ ⟨I.ok,I.os,I.bare,⟨λb o e n hb hx=>?_,λb o e n hb hx=>?_,I.base.free,λb o e hx=>?_,I.base.tups,I.base.frzs,I.base.tbls⟩,⟨_,hn',λj y v' e1 e2 e3=>?_⟩,λy c e=>?_,I.free,I.freeC,λp hp=>?_,tracked ⟨oL,hoL,I.free⟩ hs,by simpa using I.len⟩ ⟨_,hs,.inl rfl⟩
  ·exact(hs.2 b (cq (cy (cS e) I.ok.above))).trans (I.base.keep b o e n hb hx)
  ·obtain⟨sl,e1⟩:=I.base.slot b o e n hb hx
   exact⟨sl,(hs.2 b (cq (cy (cS e) I.ok.above))).trans e1⟩
  ·obtain⟨o',e1⟩:=I.base.there b o e hx
   exact⟨o',(hs.2 b (cq (cy (cS e) I.ok.above))).trans e1⟩
  ·by_cases hj:j=i
   ·subst hj
    rw[hi]at e1;cases e1
    rw[V' hiσ]at e2
    cases e2
    exact⟨u,r,.inl ⟨hk,by simp⟩⟩
   ·rw[R' (Ne.symm hj)]at e2
    obtain⟨u',r',q⟩:=hl j y v' e1 e2 e3
    refine⟨u',r',?_⟩
    rcases q with ⟨k,e⟩|⟨k,c,e,z⟩
    ·refine .inl ⟨k,?_⟩
     have:y≠x:=λe=>hj (Ro hN e1 (e▸hi))
     simp[this,e]
    ·exact .inr ⟨k,c,e,z.sameBut hs (cne y c e)⟩
  ·obtain⟨w',z⟩:=I.cell y c e
   exact⟨w',z.sameBut hs (cne y c e)⟩
  ·obtain⟨e,n,ne,nf,d⟩:=I.pin p hp
   exact⟨(hs.2 p.1 ne).trans e,n,ne,nf,d⟩
 ·have hfn:X.fn x=true:=by
   rcases hf with z|z
   ·exact z
   ·rw[z]at hk;cases hk
  obtain⟨c,hc⟩:=I.ok.has x (.inl hk)
  obtain⟨w',z⟩:=I.cell x c hc
  refine wpAny_storeName_cell I.ok.kind hk hc z (λh' hc' hs=>?_)
  obtain⟨oc,hoc,hocd⟩:=id z
  refine h { s with heap:=h' } ⟨I.ok,I.os,I.bare,⟨λb o e n hb hx=>?_,λb o e n hb hx=>?_,I.base.free,λb o e hx=>?_,I.base.tups,I.base.frzs,I.base.tbls⟩,⟨m,hn.sameBut hs (Ne.symm (cne x c hc)),λj y v' e1 e2 e3=>?_⟩,λy c' e=>?_,I.free,I.freeC,λp hp=>?_,tracked ⟨oc,hoc,I.freeC x c hc⟩ hs,by simpa using I.len⟩ ⟨c,hs,.inr hc⟩
  ·exact(hs.2 b (cq (cy (cS e) (I.ok.cab x c hfn hc)))).trans (I.base.keep b o e n hb hx)
  ·obtain⟨sl,e1⟩:=I.base.slot b o e n hb hx
   exact⟨sl,(hs.2 b (cq (cy (cS e) (I.ok.cab x c hfn hc)))).trans e1⟩
  ·obtain⟨o',e1⟩:=I.base.there b o e hx
   exact⟨o',(hs.2 b (cq (cy (cS e) (I.ok.cab x c hfn hc)))).trans e1⟩
  ·by_cases hj:j=i
   ·subst hj
    rw[hi]at e1;cases e1
    rw[V' hiσ]at e2
    cases e2
    exact⟨u,r,.inr ⟨.inl hk,c,hc,hc'⟩⟩
   ·rw[R' (Ne.symm hj)]at e2
    obtain⟨u',r',q⟩:=hl j y v' e1 e2 e3
    refine⟨u',r',?_⟩
    rcases q with q|⟨k,c',e,z'⟩
    ·exact .inl q
    ·refine .inr ⟨k,c',e,z'.sameBut hs ?_⟩
     rintro rfl
     exact hj (Ro hN e1 (I.ok.inj _ _ _ e hc▸hi))
  ·by_cases hcc:c'=c
   ·subst hcc;exact⟨_,hc'⟩
   ·obtain⟨w2,z2⟩:=I.cell y c' e
    exact⟨w2,z2.sameBut hs hcc⟩
  ·obtain⟨e,n,ne,nf,d⟩:=I.pin p hp
   refine⟨(hs.2 p.1 ?_).trans e,n,ne,nf,d⟩
   intro q
   rw[q,hoc]at e
   have q':oc=p.2:=G' e
   exact d w' (by rw[<- q'];exact hocd)
theorem RQ{M:Model}{A:Around}{E:Value->Shared->Prop}{i:Nat}{x:Str}{v:V}{u:Value}{Q:Unit->Shared->Prop}(I:Inv X pins σ H s)(hN:X.N.Nodup)(hi:X.N[i]?=some x)(hx:Loc X.env.scope x)(r:RelV v u)
  (h:∀s',Inv X pins (σ.set i (some v)) H s'->Q () s') (hf:X.fn x=true\/X.env.scope.names.lookup x=some .local:=by first|exact .inl rfl|exact .inr rfl|assumption):wpAny M A (storeName X.env x u) Q E s :=
 O8 I hN hi hx r (λs' I' _=>h s' I') hf
theorem Inv.call'{s':Shared}{ch:List Addr}(I:Inv X pins σ H s)(ho:s'.os=s.os)(u:Un (frs X.stack) ch H H' s.heap s'.heap)(hok:HOk X.prog X.w H' s'.heap)(hg:AllBare s'.gens)
  (hch:∀b∈ch,(b∈X.ex\/X.s₀.heap.objs.size<=b)/\b≠X.env.locals/\(∀x c,X.env.cells.lookup x=some c->c≠b)/\∀p∈X.pn++pins,p.1≠b):Inv X pins σ H' s':=by
 obtain⟨h',g',d',t',o'⟩:=s'
 have e:o'=s.os:=ho
 subst e
 exact I.call (g':=g') (t':=t') (d':=d') u hok hg hch
end
abbrev XK:=Value->Option Addr->Hp->Prop
abbrev St:=List (Option V)
abbrev VK:=V->Hp->Prop
abbrev TE:=St->Hp->VK->Prop
abbrev TT:=St->Hp->(Bool->Hp->Prop)->Prop
abbrev TA:=St->Hp->(List V->Hp->Prop)->Prop
structure Mp where
 nx:St->Hp->Prop
 rt:VK
 bk:St->Hp->Prop:=λ_ _=>False
 ct:St->Hp->Prop:=λ_ _=>False
abbrev TS:=Mp->St->Hp->Prop
def EP(X:Cx)(pins:List (Addr×Obj))(σ:St)(Q:VK)(u:Value)(s':Shared):Prop:=∃v H',Inv X pins σ H' s'/\RelV v u/\Q v H'
def TP(X:Cx)(pins:List (Addr×Obj))(σ:St)(Q:Bool->Hp->Prop)(b:Bool)(s':Shared):Prop:=∃H',Inv X pins σ H' s'/\Q b H'
def AP(X:Cx)(pins:List (Addr×Obj))(σ:St)(Q:List V->Hp->Prop)(us:List Value)(s':Shared):Prop:=∃vs H',Inv X pins σ H' s'/\Vals vs us/\Q vs H'
def SP(X:Cx)(pins:List (Addr×Obj))(D:Mp)(f:Flow)(s':Shared):Prop :=
 match f with
 |.next=>∃σ' H',Inv X pins σ' H' s'/\D.nx σ' H'
 |.brk=>∃σ' H',Inv X pins σ' H' s'/\D.bk σ' H'
 |.cont=>∃σ' H',Inv X pins σ' H' s'/\D.ct σ' H'
 |.ret u=>∃v σ' H',Inv X pins σ' H' s'/\RelV v u/\D.rt v H'
def PE(X:Cx)(e:Expr)(t:TE):Prop :=
 ∀(pins:List (Addr×Obj)) (s:Shared) (σ:St) (H:Hp) (Q:VK),Inv X pins σ H s->t σ H Q->wpAny (model X.prog X.w) X.A (eval e X.env) (EP X pins σ Q) X.xe s
def PT(X:Cx)(e:Expr)(t:TT):Prop :=
 ∀(pins:List (Addr×Obj)) (s:Shared) (σ:St) (H:Hp) (Q:Bool->Hp->Prop),Inv X pins σ H s->t σ H Q->wpAny (model X.prog X.w) X.A (isTrue e X.env (eval e X.env)) (TP X pins σ Q) X.xe s
def PW(X:Cx)(e:Expr)(t:TT):Prop :=
 ∀(whole:Sem Value) (pins:List (Addr×Obj)) (s:Shared) (σ:St) (H:Hp) (Q:Bool->Hp->Prop),Inv X pins σ H s->t σ H Q->wpAny (model X.prog X.w) X.A (isTrue e X.env whole) (TP X pins σ Q) X.xe s
theorem PW.pt{X:Cx}{e:Expr}{t:TT}(h:PW X e t):PT X e t:=h _
def PA(X:Cx)(es:List Expr)(t:TA):Prop :=
 ∀(pos:Pos) (pins:List (Addr×Obj)) (s:Shared) (σ:St) (H:Hp) (Q:List V->Hp->Prop),Inv X pins σ H s->t σ H Q->wpAny (model X.prog X.w) X.A (spliced (backTo pos (starEach es X.env))) (AP X pins σ Q) X.xe s
def PS(X:Cx)(st:Stmt)(t:TS):Prop :=
 ∀(pins:List (Addr×Obj)) (s:Shared) (σ:St) (H:Hp) (D:Mp),Inv X pins σ H s->t D σ H->wpAny (model X.prog X.w) X.A (exec st X.env) (SP X pins D) X.xe s
def PSs(X:Cx)(st:List Stmt)(t:TS):Prop :=
 ∀(pins:List (Addr×Obj)) (s:Shared) (σ:St) (H:Hp) (D:Mp),Inv X pins σ H s->t D σ H->wpAny (model X.prog X.w) X.A (execs st X.env) (SP X pins D) X.xe s
theorem thn{α:Type}{t:Sem α}{Q Q':α->Shared->Prop}{M:Model}{A:Around}{E:Value->Shared->Prop}{s:Shared}(h:wpAny M A t Q E s)(hQ:∀a s,Q a s->Q' a s):wpAny M A t Q' E s:=wpAny_mono h hQ λ_ _ x=>x
end L2
namespace L2
open PySem PySem.Spec PyProof.Rows
section
variable {X:Cx}
theorem bin{a b:Expr}{ta tb:TE}(ha:PE X a ta)(hb:PE X b tb){pins:List (Addr×Obj)}{s:Shared}{σ:St}{H:Hp}{R:V->V->Hp->Prop}(I:Inv X pins σ H s)(h:ta σ H λx H1=>tb σ H1 λy H2=>R x y H2)
  {α:Type} {Q:α->Shared->Prop} {f:Value->Value->Sem α}
  (hf:∀v u s2 x y H2,Inv X pins σ H2 s2->RelV x v->RelV y u->R x y H2->wpAny (model X.prog X.w) X.A (f v u) Q X.xe s2) :
  wpAny (model X.prog X.w) X.A (eval a X.env) (λv s₁=>wpAny (model X.prog X.w) X.A (eval b X.env) (λu s₂=>wpAny (model X.prog X.w) X.A (f v u) Q X.xe s₂) X.xe s₁) X.xe s:=by
 refine thn (ha pins s σ H _ I h) λv s1 ⟨x,H1,I1,r1,q1⟩=>?_
 refine thn (hb pins s1 σ H1 _ I1 q1) λu s2 ⟨y,H2,I2,r2,q2⟩=>?_
 exact hf v u s2 x y H2 I2 r1 r2 q2
def Fg(i:Nat):TE:=λσ H Q=>∃v,σ[i]?=some (some v)/\Q v H
def tC(v:V):TE:=λ_ H Q=>Q v H
theorem WV{i:Nat}{x:Str}{pos:Pos}(hN:X.N[i]?=some x)(hv:Vis X.env.scope x)(hd:(x==("__debug__":Str))=false:=by decide)(hcd:(x==("__classdict__":Str))=false:=by decide):PE X (.Name x pos) (Fg i):=by
 intro pins s σ H Q I h
 obtain⟨v,e,h⟩:=h
 obtain⟨m,hn,hl⟩:=I.loc
 obtain⟨u,r,l⟩:=hl i x v hN e hv
 have fin:EP X pins σ Q u s:=⟨v,H,I,r,h⟩
 rcases l with ⟨hk,hm⟩|⟨hk,c,hc,hcell⟩
 ·exact wpAny_Name (wpAny_loadName_local I.ok.kind hk hn hm fin) hd
 ·rcases hk with hk|hk
  ·exact wpAny_Name (wpAny_loadName_cell I.ok.kind hk hc hcell fin) hd
  ·exact wpAny_Name (wpAny_loadName_free I.ok.kind hk hc hcell fin hcd) hd
theorem AK{i j pos}:PE X (.Constant (.int i) j pos) (tC (.int i)):=λ_ _ _ H _ I h=>wpAny_Constant_int ⟨.int i,H,I.tok _,⟨_,rfl⟩,h⟩
theorem Gb{b j pos}:PE X (.Constant (.bool b) j pos) (tC (.bl b)):=λ_ _ _ H _ I h=>Constant_bool ⟨.bl b,H,I,rfl,h⟩
def Gl(X:Cx)(x:Str):Prop:=X.env.kindOf x=some .globalImplicit
theorem US{E:Value->Shared->Prop}{pins:List (Addr×Obj)}{s:Shared}{σ:St}{H:Hp}{x:Str}{u:Value}{pos:Pos}{Q:Value->Shared->Prop}(I:Inv X pins σ H s)(hg:Gl X x)(hm:X.mg x=some u)(h:Q u s)
  (hd:(x==("__debug__":Str))=false:=by decide):wpAny (model X.prog X.w) X.A (eval (.Name x pos) X.env) Q E s :=
 gF I.ok.kind hg (Calls.loadGlobal_global (by rw[I.ok.glob];exact I.mod.glob.keeps I.bk) hm h) hd
theorem Ld{E:Value->Shared->Prop}{pins:List (Addr×Obj)}{s:Shared}{σ:St}{H:Hp}{x:Str}{u:Value}{pos:Pos}{Q:Value->Shared->Prop}(I:Inv X pins σ H s)(hg:Gl X x)(hm:X.mg x=none)(hv:bootBuiltins x=some u)(h:Q u s)
  (hn:x≠"__name__":=by decide) (hd:(x==("__debug__":Str))=false:=by decide):wpAny (model X.prog X.w) X.A (eval (.Name x pos) X.env) Q E s:=by
 obtain⟨mb,h1,h2⟩:=I.mod.blt
 exact gF I.ok.kind hg (Calls.loadGlobal_builtin (by rw[I.ok.glob];exact I.mod.glob.keeps I.bk) hm (by rw[I.ok.blt];exact h1.keeps I.bk) ((h2 x hn).trans hv) h) hd
theorem X7{x:Str}{v:V}{u:Value}{pos:Pos}(hg:Gl X x)(hm:X.mg x=none)(hv:bootBuiltins x=some u)(r:RelV v u)(hn:x≠"__name__":=by decide)(hd:(x==("__debug__":Str))=false:=by decide):PE X (.Name x pos) (tC v) :=
 λ_ _ _ H _ I h=>Ld I hg hm hv ⟨v,H,I,r,h⟩ hn hd
variable {a b:Expr} {ta tb:TE} {pos:Pos}
def tB(t:TE):TT:=λσ H Q=>t σ H λx H1=>∃c,x = .bl c/\Q c H1
theorem Fi{e:Expr}{t:TE}(h:PE X e t)(he:∀whole,isTrue e X.env whole=(do let v <- whole;standAt e.pos;holding [v] (truthy v)):=by intro _;rfl):PT X e (tB t):=by
 intro pins s σ H Q I hw
 refine isTrue_plain (thn (h pins s σ H _ I hw) λv s1 ⟨x,H1,I1,r1,q1⟩=>?_) (he _)
 obtain⟨d,rfl,q⟩:=q1
 cases r1
 exact wpAny_truthy_bool ⟨H1,I1,q⟩
variable {tA tB':TT} {Dh:List Expr}
def aj(t u:TT):TT:=λσ H Q=>t σ H λc H1=>if c=true then u σ H1 Q else Q false H1
def tOr(t u:TT):TT:=λσ H Q=>t σ H λc H1=>if c=true then Q true H1 else u σ H1 Q
def ai(t:TT):TT:=λσ H Q=>t σ H λc H1=>Q (!c) H1
theorem X1(ha:PT X a tA):PW X (.BoolOp .And [a] pos) tA:=by
 intro wh pins s σ H Q I h
 refine isTrue_and (thn (ha pins s σ H Q I h) λc s1 e=>?_)
 cases c with
 |true=>exact isTrue_and_nil e
 |false=>exact e
theorem J6(ha:PT X a tA):PW X (.BoolOp .Or [a] pos) tA:=by
 intro wh pins s σ H Q I h
 refine isTrue_or (thn (ha pins s σ H Q I h) λc s1 e=>?_)
 cases c with
 |false=>exact isTrue_or_nil e
 |true=>exact e
theorem Ze(ha:PT X a tA)(hb:PW X (.BoolOp .And (b::Dh) pos) tB'):PW X (.BoolOp .And (a::b::Dh) pos) (aj tA tB'):=by
 intro wh pins s σ H Q I h
 refine isTrue_and (thn (ha pins s σ H _ I h) λc s1 ⟨H1,I1,q1⟩=>?_)
 cases c with
 |true=>exact hb wh pins s1 σ H1 Q I1 q1
 |false=>exact⟨H1,I1,q1⟩
theorem NQ(ha:PT X a tA)(hb:PW X (.BoolOp .Or (b::Dh) pos) tB'):PW X (.BoolOp .Or (a::b::Dh) pos) (tOr tA tB'):=by
 intro wh pins s σ H Q I h
 refine isTrue_or (thn (ha pins s σ H _ I h) λc s1 ⟨H1,I1,q1⟩=>?_)
 cases c with
 |true=>exact⟨H1,I1,q1⟩
 |false=>exact hb wh pins s1 σ H1 Q I1 q1
theorem Fj(ha:PT X a tA):PT X (.UnaryOp .Not a pos) (ai tA):=by
 intro pins s σ H Q I h
 exact isTrue_not (ha pins s σ H (λc H1=>Q (!c) H1) I h)
def Y2(ta tb:TE):TE:=λσ H Q=>ta σ H λx H1=>∃c,x = .bl c/\if c=true then tb σ H1 Q else Q (.bl false) H1
theorem Zi{op}{t:TE}(h:PE X a t):PE X (.BoolOp op [a] pos) t:=λpins s σ H Q I hw=>BoolOp_one (h pins s σ H Q I hw)
theorem Zj(ha:PE X a ta)(hb:PE X (.BoolOp .And (b::Dh) pos) tb):PE X (.BoolOp .And (a::b::Dh) pos) (Y2 ta tb):=by
 intro pins s σ H Q I h
 refine BoolOp_and (thn (ha pins s σ H _ I h) λv s1 ⟨x,H1,I1,r1,q1⟩=>?_)
 obtain⟨c,rfl,q1⟩:=q1
 cases r1
 refine wpAny_truthy_bool ?_
 cases c with
 |true=>exact hb pins s1 σ H1 Q I1 q1
 |false=>exact⟨.bl false,H1,I1,rfl,q1⟩
end
end L2
namespace L2
open PySem PySem.Spec PyProof.Rows
def SqL(K:PySem.W.Frag)(H:Hp)(a:Addr)(xs:List V):Prop :=
 Rd H a (.lst xs) \/
  ∃(o:Obj) (its:Array Value) (n:Nat),K.lookup a=some o/\o.cls = .type "list"/\o.dict=none/\o.data = .seq its n/\its.size<=sizeLine/\Vals xs its.toList
def SqT(K:PySem.W.Frag)(H:Hp)(a:Addr)(xs:List V):Prop :=
 Rd H a (.tup xs) \/
  ∃(o:Obj) (its:Array Value) (n:Nat),K.lookup a=some o/\o.cls = .type "tuple"/\o.data = .seq its n/\its.size<=sizeLine/\Vals xs its.toList
def cK:Value->Option V
 |.none=>some .non
 |.bool b=>some (.bl b)
 |.int i _=>some (.int i)
 |.str x _=>some (.str x)
 |.bytes b _=>some (.byt b)
 |.float b _=>some (.flt b)
 |.ref a=>some (.ref a)
 |.type n=>some (.ty n)
 |_=>none
theorem RelV.abs{x:V}{u:Value}(r:RelV x u):cK u=some x:=by
 cases x with
 |non=>cases r;rfl
 |bl _=>cases r;rfl
 |int _=>obtain⟨t,rfl⟩:=r;rfl
 |str _=>obtain⟨t,rfl⟩:=r;rfl
 |byt _=>obtain⟨t,rfl⟩:=r;rfl
 |flt _=>obtain⟨t,rfl⟩:=r;rfl
 |ref _=>cases r;rfl
 |ty _=>cases r;rfl
theorem RelV.inj{x y:V}{u:Value}(r:RelV x u)(q:RelV y u):x=y:=G' (r.abs.symm.trans q.abs)
theorem Vals.inj:∀{xs ys:List V} {us:List Value},Vals xs us->Vals ys us->xs=ys
 |_,_,_,.nil,.nil=>rfl
 |_,_,_,.cons r t,.cons r' t'=>by rw[r.inj r',Vals.inj t t']
section
variable {X:Cx} {pins:List (Addr×Obj)} {σ:St} {H:Hp} {s:Shared} {a:Addr} {xs ys:List V}
theorem SqL.of{K:PySem.W.Frag}(h:H a=some (.lst xs)):SqL K H a xs:=.inl (.inl h)
theorem SqT.of{K:PySem.W.Frag}(h:H a=some (.tup xs)):SqT K H a xs:=.inl (.inl h)
theorem Inv.list(I:Inv X pins σ H s)(h:SqL X.K H a xs):∃its:List Value,Vals xs its/\PlainL s.heap a its.toArray/\xs.length<=sizeLine:=by
 rcases h with h|⟨o,its,n,hk,hc,hd,hs,hz,r⟩
 ·obtain⟨z,its,n,r,e⟩:=h.ok I.hok
  exact⟨its,r,⟨_,n,e,rfl,rfl,rfl⟩,z⟩
 ·refine⟨its.toList,r,⟨o,n,I.kIn a o hk,hc,hd,by simpa using hs⟩,?_⟩
  have e:=r.length
  simp only[Array.length_toList]at e
  omega
theorem Inv.tuple(I:Inv X pins σ H s)(h:SqT X.K H a xs):∃its:List Value,Vals xs its/\IsTup s.heap a its.toArray/\xs.length<=sizeLine:=by
 rcases h with h|⟨o,its,n,hk,hc,hs,hz,r⟩
 ·obtain⟨z,its,r,p⟩:=h.ok I.hok
  exact⟨its,r,p,z⟩
 ·refine⟨its.toList,r,⟨o,I.kIn a o hk,hc,n,by simpa using hs⟩,?_⟩
  have e:=r.length
  simp only[Array.length_toList]at e
  omega
theorem Inv.list_inj(I:Inv X pins σ H s)(h:SqL X.K H a xs)(h':SqL X.K H a ys):xs=ys:=by
 obtain⟨its,r,⟨o,n,e,_,_,d⟩,_⟩:=I.list h
 obtain⟨its',r',⟨o',n',e',_,_,d'⟩,_⟩:=I.list h'
 rw[e]at e';cases e'
 rw[d]at d'
 injection d' with d1 _
 have:its=its':=by simpa using congrArg Array.toList d1
 subst this
 exact r.inj r'
theorem Inv.tuple_inj(I:Inv X pins σ H s)(h:SqT X.K H a xs)(h':SqT X.K H a ys):xs=ys:=by
 obtain⟨its,r,⟨o,e,_,n,d⟩,_⟩:=I.tuple h
 obtain⟨its',r',⟨o',e',_,n',d'⟩,_⟩:=I.tuple h'
 rw[e]at e';cases e'
 rw[d]at d'
 injection d' with d1 _
 have:its=its':=by simpa using congrArg Array.toList d1
 subst this
 exact r.inj r'
end
abbrev Cx.wish(X:Cx)(E:Value->Shared->Prop):Cx:={ X with xe:=E }
abbrev Cx.nox(X:Cx):Cx:=X.wish λ_ _=>False
theorem Cx.Ok.wish{X:Cx}(ok:X.Ok)(E:Value->Shared->Prop):(X.wish E).Ok :=
 ⟨ok.mod,ok.kind,ok.glob,ok.blt,ok.above,ok.inj,ok.has,ok.cab,ok.hd,ok.frames,ok.stk,ok.exf,ok.bs,ok.bsz,ok.noex,ok.exfs,ok.funs,ok.frf⟩
theorem Cx.Ok.unwish{X:Cx}{E:Value->Shared->Prop}(ok:(X.wish E).Ok):X.Ok :=
 ⟨ok.mod,ok.kind,ok.glob,ok.blt,ok.above,ok.inj,ok.has,ok.cab,ok.hd,ok.frames,ok.stk,ok.exf,ok.bs,ok.bsz,ok.noex,ok.exfs,ok.funs,ok.frf⟩
section
variable {X:Cx} {pins:List (Addr×Obj)} {σ:St} {H:Hp} {s:Shared} {E:Value->Shared->Prop}
theorem Inv.wish(I:Inv X pins σ H s)(E:Value->Shared->Prop):Inv (X.wish E) pins σ H s:=⟨I.ok.wish E,I.os,I.bare,I.base,I.loc,I.cell,I.free,I.freeC,I.pin,I.hok,I.len⟩
theorem Inv.unwish(I:Inv (X.wish E) pins σ H s):Inv X pins σ H s:=⟨I.ok.unwish,I.os,I.bare,I.base,I.loc,I.cell,I.free,I.freeC,I.pin,I.hok,I.len⟩
theorem SP.unwish{D:Mp}{f:Flow}{s':Shared}(h:SP (X.wish E) pins D f s'):SP X pins D f s':=by
 cases f with
 |next=>obtain⟨σ',H',I,q⟩:=h;exact⟨σ',H',I.unwish,q⟩
 |brk=>obtain⟨σ',H',I,q⟩:=h;exact⟨σ',H',I.unwish,q⟩
 |cont=>obtain⟨σ',H',I,q⟩:=h;exact⟨σ',H',I.unwish,q⟩
 |ret u=>obtain⟨v,σ',H',I,r,q⟩:=h;exact⟨v,σ',H',I.unwish,r,q⟩
theorem PSs.nox{st:List Stmt}{t:TS}(h:PSs X.nox st t):PSs X st t:=λpins s σ H D I hw =>
 wpAny_mono (h pins s σ H D (I.wish _) hw) (λ_ _ q=>q.unwish) λ_ _ z=>False.elim z
end
section
variable {X:Cx} {st:Stmt} {Dh:List Stmt} {t u:TS} {e:Expr} {te:TE} {pos:Pos}
def T7:TS:=λD σ H=>D.nx σ H
def V9(t u:TS):TS:=λD σ H=>t { D with nx:=u D } σ H
theorem CN:PSs X [] T7:=λ_ _ σ H _ I h=>wpAny_execs_nil ⟨σ,H,I,h⟩
theorem AJ(h1:PS X st t)(h2:PSs X Dh u):PSs X (st::Dh) (V9 t u):=by
 intro pins s σ H D I h
 refine wpAny_execs_cons (thn (h1 pins s σ H { D with nx:=u D } I h) λf s1 q=>?_)
 cases f with
 |next =>
  obtain⟨σ',H',I',q⟩:=q
  exact h2 pins s1 σ' H' D I' q
 |ret v=>exact q
 |brk=>exact q
 |cont=>exact q
theorem AQ(h1:PS X st t):PSs X [st] t:=by
 intro pins s σ H D I h
 refine wpAny_execs_cons (thn (h1 pins s σ H D I h) λf s1 q=>?_)
 cases f with
 |next=>exact wpAny_execs_nil q
 |ret v=>exact q
 |brk=>exact q
 |cont=>exact q
theorem Inv.quiet{pins:List (Addr×Obj)}{σ:St}{H:Hp}{s:Shared}(I:Inv X pins σ H s):interactive X.env=false:=by simp[interactive,I.ok.kind]
def NJ(te:TE):TS:=λD σ H=>te σ H λ_ H1=>D.nx σ H1
theorem Hz(he:PE X e te)(hs:swapsWith e none pos.line X.env=pure false:=by rfl):PS X (.Expr e pos) (NJ te):=by
 intro pins s σ H D I h
 exact wpAny_Expr_any (thn (he pins s σ H _ I h) λv s1 ⟨x,H1,I1,r1,q1⟩=>⟨σ,H1,I1,q1⟩) I.quiet hs
def VC(te:TE):TS:=λD σ H=>te σ H D.rt
theorem Aw(he:PE X e te):PS X (.Return (some e) pos) (VC te):=by
 intro pins s σ H D I h
 exact wpAny_Return_some (thn (he pins s σ H _ I h) λv s1 ⟨x,H1,I1,r1,q1⟩=>⟨x,σ,H1,I1,r1,q1⟩)
def Xt(c:TT)(t u:TS):TS:=λD σ H=>c σ H λb H1=>if b=true then t D σ H1 else u D σ H1
theorem E2{c:Expr}{a b:List Stmt}{tc:TT}(hc:PT X c tc)(ha:PSs X a t)(hb:PSs X b u):PS X (.If c a b pos) (Xt tc t u):=by
 intro pins s σ H D I h
 refine wpAny_If (thn (hc pins s σ H _ I h) λd s1 ⟨H1,I1,q1⟩=>?_)
 cases d with
 |true=>exact ha pins s1 σ H1 D I1 q1
 |false=>exact hb pins s1 σ H1 D I1 q1
def WA:TS:=λ_ _ _=>False
theorem NS:PS X st WA:=λ_ _ _ _ _ _ h=>h.elim
end
abbrev TG:=V->St->Hp->(St->Hp->Prop)->Prop
abbrev TGs:=List V->St->Hp->(St->Hp->Prop)->Prop
def PG(X:Cx)(target:Expr)(t:TG):Prop :=
 ∀(pins:List (Addr×Obj)) (s:Shared) (σ:St) (H:Hp) (v:V) (u:Value) (Q:St->Hp->Prop),Inv X pins σ H s->RelV v u->t v σ H Q ->
  wpAny (model X.prog X.w) X.A (assign target X.env u) (λ_ s'=>∃σ' H',Inv X pins σ' H' s'/\Q σ' H') X.xe s
def PGs(X:Cx)(ts:List Expr)(t:TGs):Prop :=
 ∀(pins:List (Addr×Obj)) (s:Shared) (σ:St) (H:Hp) (vs:List V) (us:List Value) (Q:St->Hp->Prop),Inv X pins σ H s->Vals vs us->t vs σ H Q ->
  wpAny (model X.prog X.w) X.A (assignInOrder ((assignEach ts X.env).map (·.2)) us) (λ_ s'=>∃σ' H',Inv X pins σ' H' s'/\Q σ' H') X.xe s
abbrev TSet:=V->V->V->Hp->(Hp->Prop)->Prop
def aU(X:Cx)(t:TSet):Prop :=
 ∀(pins:List (Addr×Obj)) (s:Shared) (σ:St) (H:Hp) (o i v:V) (ov iv u:Value) (Q:Hp->Prop),Inv X pins σ H s->RelV o ov->RelV i iv->RelV v u->t o i v H Q ->
  wpAny (model X.prog X.w) X.A (setItem ov iv u) (λ_ s'=>∃H',Inv X pins σ H' s'/\Q H') X.xe s
section
variable {X:Cx} {pos:Pos}
def K1(i:Nat):TG:=λv σ H Q=>Q (σ.set i (some v)) H
theorem AV{i:Nat}{x:Str}(hN:X.N.Nodup)(hi:X.N[i]?=some x)(hx:Loc X.env.scope x)(hf:X.fn x=true\/X.env.scope.names.lookup x=some .local:=by first|exact .inl rfl|exact .inr rfl|assumption):PG X (.Name x pos) (K1 i):=by
 intro pins s σ H v u Q I r h
 exact wpAny_assign_Name (RQ I hN hi hx r (λs' I'=>⟨_,H,I',h⟩) hf)
def bR:TGs:=λvs σ H Q=>vs=[]/\Q σ H
def ZI(t:TG)(u:TGs):TGs:=λvs σ H Q=>∃v r,vs=v::r/\t v σ H λσ' H'=>u r σ' H' Q
theorem Dk:PGs X [] bR:=by
 intro pins s σ H vs us Q I r h
 obtain⟨e,h⟩:=h
 subst e
 cases r
 exact assignInOrder_nil ⟨σ,H,I,h⟩
theorem Ac{e:Expr}{es:List Expr}{t:TG}{u:TGs}(h1:PG X e t)(h2:PGs X es u)
  (hs:(assignEach (e::es) X.env).map (·.2)=assign e X.env::(assignEach es X.env).map (·.2):=by rfl):PGs X (e::es) (ZI t u):=by
 intro pins s σ H vs us Q I r h
 obtain⟨v,vr,e1,h⟩:=h
 subst e1
 cases r with
 |cons r rr =>
  rw[hs]
  refine assignInOrder_cons (thn (h1 pins s σ H _ _ _ I r h) λ_ s1 ⟨σ1,H1,I1,q1⟩=>?_)
  exact h2 pins s1 σ1 H1 _ _ Q I1 rr q1
def bQ(K:PySem.W.Frag)(n:Nat)(t:TGs):TG:=λv σ H Q=>∃a xs,v = .ref a/\SqT K H a xs/\xs.length=n/\t xs σ H Q
theorem E5{es:List Expr}{k:Nat}{t:TGs}{n:Nat}(hc:X.calm=true)(h:PGs X es t)
  (hn:(assignEach es X.env).length=n:=by rfl) (hst:(assignEach es X.env).findIdx? (·.1)=none:=by rfl):PG X (.Tuple es k pos) (bQ X.K n t):=by
 intro pins s σ H v u Q I r hw
 obtain⟨a,xs,e1,hq,hl,hw⟩:=hw
 subst e1
 cases r
 obtain⟨its,rv,ht,hz⟩:=I.tuple hq
 refine assign_Tuple_tuple (I.ok.hd hc) ht (by simp[hn,<- hl,rv.length]) hst λh' hx=>?_
 have I1:Inv X pins σ H { s with heap:=h' }:=I.kept (t':=s.toks) λb o e=>hx b o (cq (cS e)) e
 exact h pins _ σ H xs _ Q I1 (by simpa using rv) hw
def YZ(to ti:TE)(t:TSet):TG:=λv σ H Q=>to σ H λo H1=>ti σ H1 λi H2=>t o i v H2 λH3=>Q σ H3
theorem J9{o i:Expr}{to ti:TE}{t:TSet}(ho:PE X o to)(hi:PE X i ti)(hs:aU X t)
  (ha : ∀ v, assign (.Subscript o i pos) X.env v = (do
   let ov <- holding [v] (eval o X.env)
   let iv <- holding [v,ov] (eval i X.env)
   standAt pos
   holding [v,ov,iv] (setItem ov iv v)
   release [v,ov,iv] []):=by intro _;rfl):PG X (.Subscript o i pos) (YZ to ti t):=by
 intro pins s σ H v u Q I r h
 rw[ha]
 refine wpAny_bind (wpAny_holding (thn (ho pins s σ H _ I h) λov s1 ⟨x,H1,I1,r1,q1⟩=>?_))
 refine wpAny_bind (wpAny_holding (thn (hi pins s1 σ H1 _ I1 q1) λiv s2 ⟨y,H2,I2,r2,q2⟩=>?_))
 refine wpAny_bind (wpAny_standAt (wpAny_bind (wpAny_holding (thn (hs pins s2 σ H2 x y v ov iv u _ I2 r1 r2 r q2) λ_ s3 ⟨H3,I3,q3⟩=>?_))))
 exact wpAny_release ⟨σ,H3,I3,q3⟩
def NK(te:TE)(g:TG):TS:=λD σ H=>te σ H λx H1=>g x σ H1 D.nx
theorem J7{tg e:Expr}{te:TE}{g:TG}(he:PE X e te)(hg:PG X tg g)(hs:swapsWithSole [tg] e pos.line X.env=pure false:=by rfl)(hw:swappedStores [tg] e X.env=pure none:=by rfl)
  (h1:(assignEach [tg] X.env).map (·.2)=[assign tg X.env]:=by rfl):PS X (.Assign [tg] e pos) (NK te g):=by
 intro pins s σ H D I h
 refine wpAny_Assign_stores (thn (he pins s σ H _ I h) λv s1 ⟨x,H1,I1,r1,q1⟩=>?_) hs hw
 rw[h1]
 exact thn (hg pins s1 σ H1 x v _ I1 r1 q1) λ_ s2 q=>q
theorem BD{i:Nat}{x:Str}{e:Expr}{te:TE}{pos':Pos}(hN:X.N.Nodup)(hi:X.N[i]?=some x)(hx:Loc X.env.scope x)(he:PE X e te)(hs:swapsWith e (some (.Name x pos')) pos.line X.env=pure false:=by rfl)(hf:X.fn x=true\/X.env.scope.names.lookup x=some .local:=by first|exact .inl rfl|exact .inr rfl|assumption) :
  PS X (.Assign [.Name x pos'] e pos) (NK te (K1 i)):=by
 intro pins s σ H D I h
 refine wpAny_Assign_Name (thn (he pins s σ H _ I h) λv s1 ⟨y,H1,I1,r1,q1⟩=>?_) hs
 exact RQ I1 hN hi hx r1 (λs2 I2=>⟨_,H1,I2,q1⟩) hf
end
section
variable {X:Cx} {pos:Pos}
end
structure It where
 go:Nat->Hp->Prop
 yld:Nat->Hp->V->Hp->Prop
 stop:Nat->Hp->Prop
def Ka(X:Cx)(pins:List (Addr×Obj))(H:Hp)(b:Addr):Prop :=
 H b=none/\b≠X.env.locals/\b∉X.fs/\(b∈X.ex\/X.s₀.heap.objs.size<=b)/\(∀x c,X.env.cells.lookup x=some c->c≠b)/\∀p∈X.pn++pins,p.1≠b
theorem Inv.fpOk{X:Cx}{pins:List (Addr×Obj)}{σ:St}{H H':Hp}{s:Shared}{b:Addr}(I:Inv X pins σ H s)(hb:s.heap.objs.size<=b)(hn:H' b=none):Ka X pins H' b:=by
 refine⟨hn,fD (cy I.lt hb),I.nofs hb,.inr (cm I.sz hb),λx c e z=>?_,λp hp z=>?_⟩
 ·obtain⟨v,q⟩:=I.cell x c e
  exact absurd (cy q.lt (by rw[z];exact hb)) (dt _)
 ·exact absurd (cy (cS (I.pin p hp).1) (by rw[z];exact hb)) (dt _)
structure Turn(P:Program)(w:World)(K:PySem.W.Frag)(tg:Expr)(J:It)(fp:List Addr)(it:Addr)(tn:Nat->Heap->Prop):Prop where
 mem:it∈fp
 obj:∀i h,tn i h->∀b∈fp,∃o,h.get? b=some o/\∀v,o.data≠.cell v
 keep:∀i h h',tn i h->(∀b∈fp,∀o,h.get? b=some o->h'.get? b=some o)->tn i h'
 item:∀(X:Cx),X.prog=P->X.w=w->X.K=K->X.calm=true->∀(i:Nat) (pins:List (Addr×Obj)) (s:Shared) (σ:St) (H:Hp) (E:Value->Shared->Prop),Inv X pins σ H s->(∀b∈fp,Ka X pins H b)->tn i s.heap->J.go i H ->
  wpAny (model P w) X.A (pyNext (.ref it)) (λr s1 => ∃ u, r = some u /\
   wpAny (model P w) X.A (letOwnedTupleGo tg (.ref it) u) (λ_ s2=>∃x H',Inv X pins σ H' s2/\RelV x u/\J.yld i H x H'/\tn (i+1) s2.heap/\∀b∈fp,H' b=none) E s1) E s
 done:∀(X:Cx),X.prog=P->X.w=w->X.K=K->X.calm=true->∀(i:Nat) (pins:List (Addr×Obj)) (s:Shared) (σ:St) (H:Hp) (E:Value->Shared->Prop),Inv X pins σ H s->(∀b∈fp,Ka X pins H b)->tn i s.heap->J.stop i H ->
  wpAny (model P w) X.A (pyNext (.ref it)) (λr s1=>r=none/\Inv X pins σ H s1) E s
 self:∀(A:Around) (i:Nat) (s:Shared) (Q:Value->Shared->Prop) (E:Value->Shared->Prop),tn i s.heap->Q (.ref it) s->wpAny (model P w) A (pyIter (.ref it)) Q E s
abbrev TI:=St->Hp->(It->Hp->Prop)->Prop
def PIE(X:Cx)(pins:List (Addr×Obj))(σ:St)(tg:Expr)(R:It->Hp->Prop)(itv:Value)(s2:Shared):Prop :=
 ∃(it:Addr) (fp:List Addr) (tn:Nat->Heap->Prop) (J:It) (H':Hp),itv = .ref it/\Inv X pins σ H' s2/\Turn X.prog X.w X.K tg J fp it tn/\tn 0 s2.heap/\(∀b∈fp,Ka X pins H' b)/\R J H'
def PI(X:Cx)(tg iter:Expr)(wi:TI):Prop :=
 ∀(pins:List (Addr×Obj)) (s:Shared) (σ:St) (H:Hp) (R:It->Hp->Prop),Inv X pins σ H s->wi σ H R ->
  wpAny (model X.prog X.w) X.A (eval iter X.env) (λv s1=>wpAny (model X.prog X.w) X.A (pyIter v) (PIE X pins σ tg R) X.xe s1) X.xe s
theorem Ud{M:Model}{A:Around}{E:Value->Shared->Prop}{s:Shared}{tg:Expr}{it:Addr}{u:Value}{o:Obj}{n:String}{vs:Array Value}{Q:Unit->Shared->Prop}(ho:s.heap.get? it=some o)(hc:o.cls = .type n)(hd:o.data = .fields vs)
    (hn:["enumerate","zip","dict_itemiterator","dict_reverseitemiterator","odict_iterator","itertools.zip_longest","itertools.pairwise"].contains n=false) (hQ:Q () s):wpAny M A (letOwnedTupleGo tg (.ref it) u) Q E s:=by
  unfold letOwnedTupleGo
  cases tg<;>first
    |exact wpAny_pure hQ
    | (cases u <;> first
        |exact wpAny_pure hQ
        | (refine wpAny_bind (wpAny_load ho ?_)
           rw[hc,hd]
           show wpAny M A (if (["enumerate","zip","dict_itemiterator","dict_reverseitemiterator","odict_iterator","itertools.zip_longest","itertools.pairwise"].contains n&&vs[0]?==some (rawInt _))=true then _ else _) Q E s
           rw[if_neg (by intro h;rw[hn,Bool.false_and]at h;cases h)]
           exact wpAny_pure hQ))
def Itl(K:PySem.W.Frag)(a:Addr):It :=
 ⟨λi H=>∃xs x,SqL K H a xs/\xs[i]?=some x,λi H x H'=>H'=H/\∀xs,SqL K H a xs->xs[i]?=some x,λi H=>∃xs,SqL K H a xs/\xs.length<=i⟩
def Itt(K:PySem.W.Frag)(a:Addr):It :=
 ⟨λi H=>∃xs x,SqT K H a xs/\xs[i]?=some x,λi H x H'=>H'=H/\∀xs,SqT K H a xs->xs[i]?=some x,λi H=>∃xs,SqT K H a xs/\xs.length<=i⟩
def Itr(lo:Int)(n:Nat):It:=⟨λi _=>i<n,λi H x H'=>H'=H/\x = .int (lo+i),λi _=>n<=i⟩
theorem U9{P:Program}{w:World}{K:PySem.W.Frag}{tg:Expr}(a it:Addr):Turn P w K tg (Itl K a) [it] it (λi h=>h.IsListIter it a i) where
 mem:=by simp
 obj:=λi h st b hb=>by
  have e:b=it:=by simpa using hb
  subst e
  obtain⟨o,e,c,d⟩:=st
  exact⟨o,e,λv z=>by rw[d]at z;cases z⟩
 keep:=λi h h' st k=>st.at λo e=>k it (by simp) o e
 item:=by
  intro X hP hw hK hc i pins s σ H E I hf st hg
  subst hP hw hK
  obtain⟨xs,x,hq,hx⟩:=hg
  obtain⟨its,rv,p,hz⟩:=I.list hq
  obtain⟨u,hu,ru⟩:=rv.get hx
  obtain⟨f0,f1,f2,f3,f4,f5⟩:=hf it (by simp)
  refine wpAny_pyNext_list_item st p.isList (x:=u) (by simpa using hu) λh' st' sb=>?_
  have I1:Inv X pins σ H { s with heap:=h' }:=I.turned (t':=s.toks) (λb o hb e=>(sb.2 b hb).trans e) f0 f1 f3 f4 f5
  obtain⟨o,e,c,d⟩:=id st'
  exact⟨u,rfl,Ud (s:={ s with heap:=h' }) e c d (by decide) ⟨x,H,I1,ru,⟨rfl,λys hy=>by rw[I.list_inj hy hq];exact hx⟩,st',λb hb=>(hf b hb).1⟩⟩
 done:=by
  intro X hP hw hK hc i pins s σ H E I hf st hg
  subst hP hw hK
  obtain⟨xs,hq,hx⟩:=hg
  obtain⟨its,rv,p,hz⟩:=I.list hq
  obtain⟨f0,f1,f2,f3,f4,f5⟩:=hf it (by simp)
  have hl:=rv.length
  exact wpAny_pyNext_list_end (I.ok.hd hc) st p.isList (by simp;omega) λh' eb=>⟨rfl,I.turned (t':=s.toks) (λb o hb e=>eb b o hb e) f0 f1 f3 f4 f5⟩
 self:=λ_ _ _ _ _ st h=>wpAny_pyIter_listiter st h
theorem Sr{P:Program}{w:World}{K:PySem.W.Frag}{tg:Expr}(a it:Addr):Turn P w K tg (Itt K a) [it] it (λi h=>h.IsTupleIter it a i) where
 mem:=by simp
 obj:=λi h st b hb=>by
  have e:b=it:=by simpa using hb
  subst e
  obtain⟨o,e,c,d⟩:=st
  exact⟨o,e,λv z=>by rw[d]at z;cases z⟩
 keep:=λi h h' st k=>st.at λo e=>k it (by simp) o e
 item:=by
  intro X hP hw hK hc i pins s σ H E I hf st hg
  subst hP hw hK
  obtain⟨xs,x,hq,hx⟩:=hg
  obtain⟨its,rv,p,hz⟩:=I.tuple hq
  obtain⟨u,hu,ru⟩:=rv.get hx
  obtain⟨f0,f1,f2,f3,f4,f5⟩:=hf it (by simp)
  refine wpAny_pyNext_tuple_item st (show s.heap.IsTuple a its.toArray from p) (x:=u) (by simpa using hu) λh' st' sb=>?_
  have I1:Inv X pins σ H { s with heap:=h' }:=I.turned (t':=s.toks) (λb o hb e=>(sb.2 b hb).trans e) f0 f1 f3 f4 f5
  obtain⟨o,e,c,d⟩:=id st'
  exact⟨u,rfl,Ud (s:={ s with heap:=h' }) e c d (by decide) ⟨x,H,I1,ru,⟨rfl,λys hy=>by rw[I.tuple_inj hy hq];exact hx⟩,st',λb hb=>(hf b hb).1⟩⟩
 done:=by
  intro X hP hw hK hc i pins s σ H E I hf st hg
  subst hP hw hK
  obtain⟨xs,hq,hx⟩:=hg
  obtain⟨its,rv,p,hz⟩:=I.tuple hq
  obtain⟨f0,f1,f2,f3,f4,f5⟩:=hf it (by simp)
  have hl:=rv.length
  exact wpAny_pyNext_tuple_end (I.ok.hd hc) st (show s.heap.IsTuple a its.toArray from p) (by simp;omega) λh' eb=>⟨rfl,I.turned (t':=s.toks) (λb o hb e=>eb b o hb e) f0 f1 f3 f4 f5⟩
 self:=λ_ _ _ _ _ st h=>wpAny_pyIter_tupleiter st h
theorem Ss{P:Program}{w:World}{K:PySem.W.Frag}{tg:Expr}(it:Addr)(lo:Int)(n:Nat):Turn P w K tg (Itr lo n) [it] it (λi h=>IsRangeIter h it (lo+(i:Nat)*1) ((n:Int)-(i:Nat)) 1) where
 mem:=by simp
 obj:=λi h st b hb=>by
  have e:b=it:=by simpa using hb
  subst e
  exact ⟨_, st, λv z => by
   have z':Data.fields _=Data.cell v:=z
   cases z'⟩
 keep:=λi h h' st k=>k it (by simp) _ st
 item:=by
  intro X hP hw hK hc i pins s σ H E I hf st hg
  subst hP hw hK
  obtain⟨f0,f1,f2,f3,f4,f5⟩:=hf it (by simp)
  have W:=Walks.range (prog:=X.prog) (w:=X.w) (I.ok.hd hc) it lo 1 n
  refine W.item i s _ _ hg st λv h' tk hv st' kk=>?_
  obtain⟨t,rfl⟩:=hv
  have I1:Inv X pins σ H { s with heap:=h',toks:=tk }:=I.turned (λb o hb e=>kk b o (by simpa using hb) e) f0 f1 f3 f4 f5
  refine⟨_,rfl,Ud (s:={ s with heap:=h',toks:=tk }) (n:="range_iterator") st' rfl rfl (by decide) ⟨.int (lo+i),H,I1,⟨t,?_⟩,⟨rfl,rfl⟩,st',λb hb=>(hf b hb).1⟩⟩
  rw[Int.mul_one]
 done:=by
  intro X hP hw hK hc i pins s σ H E I hf st hg
  subst hP hw hK
  obtain⟨f0,f1,f2,f3,f4,f5⟩:=hf it (by simp)
  exact wpAny_pyNext_range_end (I.ok.hd hc) st (by have:n<=i:=hg;omega) λh' eb=>⟨rfl,I.turned (t':=s.toks) (λb o hb e=>eb b o hb e) f0 f1 f3 f4 f5⟩
 self:=λ_ _ _ _ _ st h=>wpAny_pyIter_rangeiter st h
end L2
namespace L2
open PySem PySem.Spec PyProof.Rows
section
variable {X:Cx} {tg:Expr}
def ZE(K:PySem.W.Frag)(tl:TE):TI:=λσ H R=>tl σ H λx H1=>∃a,x = .ref a/\(∃xs,SqL K H1 a xs)/\R (Itl K a) H1
def bP(K:PySem.W.Frag)(tl:TE):TI:=λσ H R=>tl σ H λx H1=>∃a,x = .ref a/\(∃xs,SqT K H1 a xs)/\R (Itt K a) H1
theorem CD{l:Expr}{tl:TE}(hl:PE X l tl):PI X tg l (ZE X.K tl):=by
 intro pins s σ H R I h
 refine thn (hl pins s σ H _ I h) λv s1 ⟨x,H1,I1,r1,q1⟩=>?_
 obtain⟨a,e,⟨xs,hq⟩,q⟩:=q1
 subst e
 cases r1
 obtain⟨its,rv,p,hz⟩:=I1.list hq
 refine wpAny_pyIter_list p.isList ?_
 refine⟨s1.heap.objs.size,[s1.heap.objs.size],_,_,H1,rfl,I1.kept (t':=s1.toks) λb o e=>Z' _ e,U9 a _,⟨_,cX _ rfl,rfl,rfl⟩,λb hb=>?_,q⟩
 have e:b=s1.heap.objs.size:=by simpa using hb
 subst e
 exact I1.fpOk (W' _) (I1.hok.fresh (W' _))
theorem Zh{l:Expr}{tl:TE}(hl:PE X l tl):PI X tg l (bP X.K tl):=by
 intro pins s σ H R I h
 refine thn (hl pins s σ H _ I h) λv s1 ⟨x,H1,I1,r1,q1⟩=>?_
 obtain⟨a,e,⟨xs,hq⟩,q⟩:=q1
 subst e
 cases r1
 obtain⟨its,rv,p,hz⟩:=I1.tuple hq
 refine wpAny_pyIter_tuple (show s1.heap.IsTuple a its.toArray from p) ?_
 refine⟨s1.heap.objs.size,[s1.heap.objs.size],_,_,H1,rfl,I1.kept (t':=s1.toks) λb o e=>Z' _ e,Sr a _,⟨_,cX _ rfl,rfl,rfl⟩,λb hb=>?_,q⟩
 have e:b=s1.heap.objs.size:=by simpa using hb
 subst e
 exact I1.fpOk (W' _) (I1.hok.fresh (W' _))
theorem RY{pins:List (Addr×Obj)}{σ:St}{H:Hp}{s:Shared}{R:It->Hp->Prop}{E:Value->Shared->Prop}{lo hi:Int}{t u v:Tok}{tk:Nat}(I:Inv X pins σ H s)(h1:-(2 ^ 62)<=lo)(h2:lo<2 ^ 62)(h3:-(2 ^ 62)<=hi)(h4:hi<2 ^ 62)
  (q:R (Itr lo (hi-lo).toNat) H):wpAny (model X.prog X.w) X.A (pyIter (.ref s.heap.objs.size)) (PIE X pins σ tg R) E { s with heap:=s.heap.push { cls:=.type "range",data:=.fields #[.int lo t,.int hi u,.int 1 v] },toks:=tk }:=by
 refine wpAny_pyIter_range (IsRange.new ..) (small_one h1 h2 h3 h4) ?_
 have I1:Inv X pins σ H { s with heap:=s.heap.push { cls:=.type "range",data:=.fields #[.int lo t,.int hi u,.int 1 v] },toks:=tk }:=I.kept λb o e=>Z' _ e
 refine ⟨(s.heap.push { cls := .type "range", data := .fields #[.int lo t, .int hi u, .int 1 v] }).objs.size, [(s.heap.push { cls := .type "range", data := .fields #[.int lo t, .int hi u, .int 1 v] }).objs.size], _, _, H, rfl,
  I1.kept (t':=tk) λb o e=>Z' _ e,Ss _ lo (hi-lo).toNat,?_,λb hb=>?_,q⟩
 ·have e1:lo+((0:Nat):Int)*1=lo:=by simp
  have e2:(((hi-lo).toNat:Nat):Int)-((0:Nat):Int)=Builtin.Range.rangeSize lo hi 1:=by rw[rangeSize_one];split<;>omega
  show IsRangeIter _ _ (lo+((0:Nat):Int)*1) ((((hi-lo).toNat:Nat):Int)-((0:Nat):Int)) 1
  rw[e1,e2]
  exact cX _ rfl
 ·have e:b=(s.heap.push { cls:=.type "range",data:=.fields #[.int lo t,.int hi u,.int 1 v] }).objs.size:=by simpa using hb
  subst e
  exact I1.fpOk (W' _) (I1.hok.fresh (W' _))
def ZD(ta:TA):TI:=λσ H R=>ta σ H λvs H1=>∃j:Int,vs=[.int j]/\-(2 ^ 62)<=j/\j<2 ^ 62/\R (Itr 0 j.toNat) H1
def ZC(ta:TA):TI:=λσ H R=>ta σ H λvs H1=>∃i j:Int,vs=[.int i,.int j]/\(-(2 ^ 62)<=i/\i<2 ^ 62/\-(2 ^ 62)<=j/\j<2 ^ 62)/\R (Itr i (j-i).toNat) H1
theorem Dj{a:Expr}{ta:TA}{p pos:Pos}(hg:Gl X "range")(hm:X.mg "range"=none)(ha:PA X [a] ta)(hs:starEach [a] X.env=[(false,eval a X.env)]:=by rfl):PI X tg (.Call (.Name "range" p) [a] [] pos) (ZD ta):=by
 intro pins s σ H R I h
 refine Call_ (Ld I hg hm boot_range (eI (thn (ha pos pins s σ H _ I h) λus s1 ⟨vs,H1,I1,r1,q1⟩=>?_) hs rfl))
 obtain⟨j,e,q1,q2,q⟩:=q1
 subst e
 cases r1 with
 |cons r rr =>
  cases rr
  obtain⟨t,rfl⟩:=r
  exact call_range_1 (RY I1 (by omega) (by omega) q1 q2 (by simpa using q))
theorem VP{a b:Expr}{ta:TA}{p pos:Pos}(hg:Gl X "range")(hm:X.mg "range"=none)(ha:PA X [a,b] ta)(hs:starEach [a,b] X.env=[(false,eval a X.env),(false,eval b X.env)]:=by rfl)(hs2:starEach [b] X.env=[(false,eval b X.env)]:=by rfl) :
  PI X tg (.Call (.Name "range" p) [a,b] [] pos) (ZC ta):=by
 intro pins s σ H R I h
 refine Call_ (Ld I hg hm boot_range (eI (thn (ha pos pins s σ H _ I h) λus s1 ⟨vs,H1,I1,r1,q1⟩=>?_) (by rw[hs,hs2]) (by rw[hs2];rfl)))
 obtain⟨i,j,e,⟨q1,q2,q3,q4⟩,q⟩:=q1
 subst e
 cases r1 with
 |cons r rr =>
  cases rr with
  |cons r' rr =>
   cases rr
   obtain⟨t,rfl⟩:=r
   obtain⟨t',rfl⟩:=r'
   exact call_range_2 (RY I1 q1 q2 q3 q4 q)
def ZT(wi:TI)(g:TG)(tb:TS):TS:=λD σ H=>wi σ H λJ H1=>∃W:Nat->Nat->St->Hp->Prop,(∃m,W 0 m σ H1)/\∀i m σ H,W i m σ H ->
 (J.stop i H/\D.nx σ H)\/(J.go i H/\∃N:St->Hp->Prop,(∀σ' H',N σ' H'->∃m',m'<m/\W (i+1) m' σ' H')/\∀x H',J.yld i H x H'->g x σ H' λσ2 H2=>tb { D with nx:=N,ct:=N,bk:=D.nx } σ2 H2)
def NT(fp:List Addr)(h:Heap):List (Addr×Obj):=fp.filterMap λb=>(h.get? b).map λo=>(b,o)
theorem IE{fp:List Addr}{h:Heap}{b:Addr}{o:Obj}(hb:b∈fp)(e:h.get? b=some o):(b,o)∈NT fp h:=fW.mpr ⟨b,hb,by rw[e];rfl⟩
theorem VT{fp:List Addr}{h:Heap}{p:Addr×Obj}(hp:p∈NT fp h):p.1∈fp/\h.get? p.1=some p.2:=by
 obtain⟨b,hb,e⟩:=fW.mp hp
 cases q:h.get? b with
 |none=>rw[q]at e;cases e
 |some o =>
  rw[q]at e
  have e':(b,o)=p:=G' e
  subst e'
  exact⟨hb,q⟩
theorem Inv.pinned{pins:List (Addr×Obj)}{σ:St}{H:Hp}{s:Shared}{fp:List Addr}(I:Inv X pins σ H s)(hf:∀b∈fp,Ka X pins H b)(ho:∀b∈fp,∃o,s.heap.get? b=some o/\∀v,o.data≠.cell v):Inv X (pins++NT fp s.heap) σ H s :=
 I.pins_of λp hp=>(cN.mp hp).elim (λz=>I.pin p (L' _ z)) λz=>by
  obtain⟨hb,e⟩:=VT z
  obtain⟨f0,f1,f2,_⟩:=hf p.1 hb
  obtain⟨o,e',d⟩:=ho p.1 hb
  rw[e]at e';cases e'
  exact⟨e,f0,f1,f2,d⟩
theorem Inv.unpinned{pins pl:List (Addr×Obj)}{σ:St}{H:Hp}{s:Shared}(I:Inv X (pins++pl) σ H s):Inv X pins σ H s:=I.pins_of λp hp=>I.pin p (L' _ (cU _ hp))
theorem C6{iter:Expr}{body:List Stmt}{wi:TI}{g:TG}{tb:TS}{pos:Pos}(hp:PassesOwn (model X.prog X.w) X.A X.env X.xe)(hc:X.calm=true)(hi:PI X tg iter wi)(hg:PG X tg g)(hb:PSs X body tb)
  (hs:∀x,foldedSetIterable iter X.env x=pure x:=by intro _;rfl):PS X (.For tg iter body [] pos) (ZT wi g tb):=by
 intro pins s σ H D I h
 refine wpAny_For (thn (hi pins s σ H _ I h) λv s1 h1=>thn h1 λitv s2 h2=>?_) hs
 obtain⟨it,fp,tn,J,H2,e,I2,T,st2,f2,W,⟨m0,w0⟩,turn⟩:=h2
 subst e
 -- what stays true of the iterator's objects through the loop
 have stat:∀{H':Hp},(∀b∈fp,H' b=none)->∀b∈fp,Ka X pins H' b:=λhn b hb=>⟨hn b hb,(f2 b hb).2⟩
 refine codeAny_forLoop_any (λn s'=>∃i σ' H',Inv X pins σ' H' s'/\tn i s'.heap/\(∀b∈fp,H' b=none)/\W i n σ' H') ?_ m0 ⟨0,σ,H2,I2,st2,λb hb=>(f2 b hb).1,w0⟩
 rintro n s3 ⟨i,σ3,H3,I3,st3,fr3,w3⟩
 rcases turn i n σ3 H3 w3 with ⟨stop,qn⟩|⟨go,N,hN,step⟩
 ·refine wpAny_passesOwn hp (thn (T.done X rfl rfl rfl hc i pins s3 σ3 H3 X.xe I3 (stat fr3) st3 stop) λr s4 ⟨hr,I4⟩=>?_)
  subst hr
  exact wpAny_execs_nil ⟨σ3,H3,I4,qn⟩
 ·refine wpAny_passesOwn hp (thn (T.item X rfl rfl rfl hc i pins s3 σ3 H3 X.xe I3 (stat fr3) st3 go) λr s4 ⟨u,hr,h4⟩=>?_)
  subst hr
  refine wpAny_passesOwn hp (thn h4 λ_ s5 ⟨x,H5,I5,r5,y5,st5,fr5⟩=>?_)
  have I5':=I5.pinned (stat fr5) (T.obj _ _ st5)
  refine wpAny_passesOwn hp (thn (hg _ s5 σ3 H5 x u _ I5' r5 (step x H5 y5)) λ_ s6 ⟨σ6,H6,I6,q6⟩=>?_)
  refine wpAny_passesOwn hp (thn (hb _ s6 σ6 H6 _ I6 q6) λf s7 q7=>?_)
  have again:∀{σ7:St} {H7:Hp},Inv X (pins++NT fp s5.heap) σ7 H7 s7->N σ7 H7->∃m,m<n/\∃i σ' H',Inv X pins σ' H' s7/\tn i s7.heap/\(∀b∈fp,H' b=none)/\W i m σ' H':=λ{σ7 H7} I7 n7=>by
   obtain⟨m',hm,w7⟩:=hN σ7 H7 n7
   refine⟨m',hm,i+1,σ7,H7,I7.unpinned,T.keep _ _ _ st5 λb hb o e=>(I7.pin (b,o) (L' _ (L' _ (IE hb e)))).1,λb hb=>?_,w7⟩
   obtain⟨o,e,d⟩:=T.obj _ _ st5 b hb
   exact(I7.pin (b,o) (L' _ (L' _ (IE hb e)))).2.1
  cases f with
  |next=>obtain⟨σ7,H7,I7,n7⟩:=q7;exact again I7 n7
  |cont=>obtain⟨σ7,H7,I7,n7⟩:=q7;exact again I7 n7
  |brk=>obtain⟨σ7,H7,I7,q7⟩:=q7;exact⟨σ7,H7,I7.unpinned,q7⟩
  |ret v=>obtain⟨x7,σ7,H7,I7,r7,q7⟩:=q7;exact⟨x7,σ7,H7,I7.unpinned,r7,q7⟩
end
end L2
namespace L2
open PySem PySem.Spec PyProof.Rows
abbrev R2:=V->V->Hp->VK->Prop
def OpR(X:Cx)(f:Value->Value->Sem Value)(r:R2):Prop :=
 ∀(pins:List (Addr×Obj)) (s:Shared) (σ:St) (H:Hp) (x y:V) (v u:Value) (Q:VK),Inv X pins σ H s->RelV x v->RelV y u->r x y H Q ->
  wpAny (model X.prog X.w) X.A (f v u) (EP X pins σ Q) X.xe s
def UnR(X:Cx)(f:Value->Sem Value)(r:V->Hp->VK->Prop):Prop :=
 ∀(pins:List (Addr×Obj)) (s:Shared) (σ:St) (H:Hp) (x:V) (v:Value) (Q:VK),Inv X pins σ H s->RelV x v->r x H Q ->
  wpAny (model X.prog X.w) X.A (f v) (EP X pins σ Q) X.xe s
def J0(X:Cx)(f:Value)(r:List V->Hp->VK->Prop):Prop :=
 ∀(pins:List (Addr×Obj)) (s:Shared) (σ:St) (H:Hp) (xs:List V) (us:List Value) (Q:VK),Inv X pins σ H s->Vals xs us->r xs H Q ->
  wpAny (model X.prog X.w) X.A (call f us) (EP X pins σ Q) X.xe s
def tOp(r:R2)(ta tb:TE):TE:=λσ H Q=>ta σ H λx H1=>tb σ H1 λy H2=>r x y H2 Q
def tUn(r:V->Hp->VK->Prop)(ta:TE):TE:=λσ H Q=>ta σ H λx H1=>r x H1 Q
def rI(C:Int->Int->Prop)(g:Int->Int->V):R2:=λx y H Q=>∃i j,x = .int i/\y = .int j/\C i j/\Q (g i j) H
def rI0(g:Int->Int->V):R2:=λx y H Q=>∃i j,x = .int i/\y = .int j/\Q (g i j) H
def rU(g:Int->V):V->Hp->VK->Prop:=λx H Q=>∃i,x = .int i/\Q (g i) H
section
variable {X:Cx} {a b c:Expr} {ta tb tc:TE} {pos:Pos}
theorem aN(ha:PE X a ta)(hb:PE X b tb){pins:List (Addr×Obj)}{s:Shared}{σ:St}{H:Hp}{R:V->V->Hp->Prop}(I:Inv X pins σ H s)
  (h:ta σ H λx H1=>tb σ H1 λy H2=>R x y H2) {Q:Value->Shared->Prop} {f:Value->Value->Sem Value}
  (hf:∀v u s2 x y H2,Inv X pins σ H2 s2->RelV x v->RelV y u->R x y H2->wpAny (model X.prog X.w) X.A (f v u) Q X.xe s2) :
  wpAny (model X.prog X.w) X.A (eval a X.env) (λv s₁=>wpAny (model X.prog X.w) X.A (eval b X.env) (λu s₂=>wpAny (model X.prog X.w) X.A (f v u) Q X.xe s₂) X.xe s₁) X.xe s:=by
 refine thn (ha pins s σ H _ I h) λv s1 ⟨x,H1,I1,r1,q1⟩=>?_
 refine thn (hb pins s1 σ H1 _ I1 q1) λu s2 ⟨y,H2,I2,r2,q2⟩=>?_
 exact hf v u s2 x y H2 I2 r1 r2 q2
theorem Bz{op:Operator}{r:R2}(ho:OpR X (binaryOp op) r)(ha:PE X a ta)(hb:PE X b tb):PE X (.BinOp a op b pos) (tOp r ta tb):=by
 intro pins s σ H Q I h
 exact wpAny_BinOp (aN ha hb I h λv u s2 x y H2 I2 rx ry q=>ho pins s2 σ H2 x y v u Q I2 rx ry q)
theorem PM{op:UnaryOp}{r:V->Hp->VK->Prop}(ho:UnR X (unaryOp op) r)(ha:PE X a ta):PE X (.UnaryOp op a pos) (tUn r ta):=by
 intro pins s σ H Q I h
 exact UnaryOp_ (thn (ha pins s σ H _ I h) λv s1 ⟨x,H1,I1,r1,q1⟩=>ho pins s1 σ H1 x v Q I1 r1 q1)
theorem opI{f:Value->Value->Sem Value}{C:Int->Int->Prop}{g:Int->Int->Int}
  (rule:∀(i j:Int) (t u:Tok) (s:Shared) (Q:Value->Shared->Prop) (E:Value->Shared->Prop),C i j->Q (.int (g i j) s.toks) { s with toks:=s.toks+1 }->wpAny (model X.prog X.w) X.A (f (.int i t) (.int j u)) Q E s) :
  OpR X f (rI C λi j=>.int (g i j)):=by
 intro pins s σ H x y v u Q I rx ry h
 obtain⟨i,j,rfl,rfl,hc,q⟩:=h
 obtain⟨t,rfl⟩:=rx
 obtain⟨t',rfl⟩:=ry
 exact rule i j t t' s _ _ hc ⟨.int (g i j),H,I.tok _,⟨_,rfl⟩,q⟩
theorem bC{f:Value->Value->Sem Value}{g:Int->Int->Int}
  (rule:∀(i j:Int) (t u:Tok) (s:Shared) (Q:Value->Shared->Prop) (E:Value->Shared->Prop),Q (.int (g i j) s.toks) { s with toks:=s.toks+1 }->wpAny (model X.prog X.w) X.A (f (.int i t) (.int j u)) Q E s) :
  OpR X f (rI0 λi j=>.int (g i j)):=by
 intro pins s σ H x y v u Q I rx ry h
 obtain⟨i,j,rfl,rfl,q⟩:=h
 obtain⟨t,rfl⟩:=rx
 obtain⟨t',rfl⟩:=ry
 exact rule i j t t' s _ _ ⟨.int (g i j),H,I.tok _,⟨_,rfl⟩,q⟩
theorem YC{f:Value->Value->Sem Value}{g:Int->Int->Bool}
  (rule:∀(i j:Int) (t u:Tok) (s:Shared) (Q:Value->Shared->Prop) (E:Value->Shared->Prop),Q (.bool (g i j)) s->wpAny (model X.prog X.w) X.A (f (.int i t) (.int j u)) Q E s) :
  OpR X f (rI0 λi j=>.bl (g i j)):=by
 intro pins s σ H x y v u Q I rx ry h
 obtain⟨i,j,rfl,rfl,q⟩:=h
 obtain⟨t,rfl⟩:=rx
 obtain⟨t',rfl⟩:=ry
 exact rule i j t t' s _ _ ⟨.bl (g i j),H,I,rfl,q⟩
def Xm(i j:Int):Prop:=0<=j/\j<=1000000/\i.natAbs<2 ^ 64
def CMul(i j:Int):Prop:=(-(2 ^ 64)<i/\i<2 ^ 64)\/(-(2 ^ 64)<j/\j<2 ^ 64)
theorem CMul.ok{i j:Int}(h:CMul i j):IntMulOk i j:=by
 rcases h with ⟨h1,h2⟩|⟨h1,h2⟩
 ·exact .of_left (intBits_le_64 h1 h2)
 ·exact .of_right (intBits_le_64 h1 h2)
theorem DQ:OpR X (binaryOp .Add) (rI0 λi j=>.int (i+j)):=bC λ_ _ _ _ _ _ _ q=>add_int q
theorem Zl:OpR X (binaryOp .Sub) (rI0 λi j=>.int (i-j)):=bC λ_ _ _ _ _ _ _ q=>sub_int q
theorem Iq:OpR X (binaryOp .Mod) (rI (λ_ j=>0<j) λi j=>.int (i % j)):=opI λi j _ _ _ _ _ hc q=>by
 have h1:(0:Int)<j:=hc
 exact mod_int' (by omega) (by rw[Int.fmod_eq_emod_of_nonneg i (by omega)];exact q)
theorem WY:OpR X (binaryOp .Pow) (rI Xm λi j=>.int (i ^ j.toNat)):=opI λ_ _ _ _ _ _ _ hc q=>pow_int_small hc.1 hc.2.1 hc.2.2 q
theorem unI{f:Value->Sem Value}{g:Int->Int}
  (rule:∀(i:Int) (t:Tok) (s:Shared) (Q:Value->Shared->Prop) (E:Value->Shared->Prop),Q (.int (g i) s.toks) { s with toks:=s.toks+1 }->wpAny (model X.prog X.w) X.A (f (.int i t)) Q E s) :
  UnR X f (rU λi=>.int (g i)):=by
 intro pins s σ H x v Q I rx h
 obtain⟨i,rfl,q⟩:=h
 obtain⟨t,rfl⟩:=rx
 exact rule i t s _ _ ⟨.int (g i),H,I.tok _,⟨_,rfl⟩,q⟩
theorem LI:UnR X (unaryOp .USub) (rU λi=>.int (-i)):=unI λ_ _ _ _ _ q=>neg_int q
end
section
variable {X:Cx} {a b c:Expr} {ta tb tc:TE} {pos:Pos}
theorem UJ:OpR X (compareOp .Lt) (rI0 λi j=>.bl (decide (i<j))):=YC λ_ _ _ _ _ _ _ q=>lt_int q
theorem Y7:OpR X (compareOp .LtE) (rI0 λi j=>.bl (decide (i<=j))):=YC λ_ _ _ _ _ _ _ q=>le_int q
theorem bA:OpR X (compareOp .Gt) (rI0 λi j=>.bl (decide (j<i))):=YC λ_ _ _ _ _ _ _ q=>gt_int q
theorem bB:OpR X (compareOp .GtE) (rI0 λi j=>.bl (decide (j<=i))):=YC λ_ _ _ _ _ _ _ q=>ge_int q
theorem DR(b:Expr){op:CmpOp}(h:op≠.In:=by decide)(h2:op≠.NotIn:=by decide):behindInMarks op b=false:=by
 have e1:(op==CmpOp.In)=false:=by cases op<;>first|rfl|exact absurd rfl h
 have e2:(op==CmpOp.NotIn)=false:=by cases op<;>first|rfl|exact absurd rfl h2
 cases b<;>simp[behindInMarks,e1,e2]
theorem UH{op:CmpOp}{r:R2}(ho:OpR X (compareOp op) r)(ha:PE X a ta)(hb:PE X b tb)(hm:behindInMarks op b=false):PE X (.Compare a [op] [b] pos) (tOp r ta tb):=by
 intro pins s σ H Q I h
 exact wpAny_Compare1 (aN ha hb I h λv u s2 x y H2 I2 rx ry q=>ho pins s2 σ H2 x y v u Q I2 rx ry q) hm
def V8(t:TE):TT:=λσ H Q=>t σ H λx H'=>∃k,x = .bl k/\Q k H'
theorem Cq{op:CmpOp}{r:R2}(ho:OpR X (compareOp op) r)(ha:PE X a ta)(hb:PE X b tb)(hm:behindInMarks op b=false):PT X (.Compare a [op] [b] pos) (V8 (tOp r ta tb)):=by
 intro pins s σ H Q I h
 refine wpAny_isTrue_Compare1 (thn (ha pins s σ H _ I h) λv s1 ⟨x, H1, I1, r1, q1⟩ => thn (hb pins s1 σ H1 _ I1 q1) λu s2 ⟨y, H2, I2, r2, q2⟩ =>
  thn (ho pins s2 σ H2 x y v u _ I2 r1 r2 q2) λc s3 ⟨z,H3,I3,r3,k,e,q3⟩=>?_) hm
 subst e
 cases r3
 exact wpAny_truthy_bool ⟨H3,I3,q3⟩
def WC(r r':R2)(ta tb tc:TE):TE:=λσ H Q=>ta σ H λx H1=>tb σ H1 λy H2=>r x y H2 λz H3=>∃k,z = .bl k /\
 (if k=true then tc σ H3 λw' H4=>r' y w' H4 Q else Q (.bl false) H3)
theorem Rc{op op':CmpOp}{r r':R2}(ho:OpR X (compareOp op) r)(ho':OpR X (compareOp op') r')(ha:PE X a ta)(hb:PE X b tb)(hc:PE X c tc)
  (hm:lastMarks [op,op'] [b,c]=false:=by with_unfolding_all rfl):PT X (.Compare a [op,op'] [b,c] pos) (V8 (WC r r' ta tb tc)):=by
 intro pins s σ H Q I h
 refine isTrue_chain (thn (ha pins s σ H _ I h) λv s1 ⟨x, H1, I1, r1, q1⟩ => test_link (thn (hb pins s1 σ H1 _ I1 q1) λu s2 ⟨y, H2, I2, r2, q2⟩ =>
  thn (ho pins s2 σ H2 x y v u _ I2 r1 r2 q2) λd s3 ⟨z,H3,I3,r3,k,e,q3⟩=>?_)) hm
 subst e
 cases r3
 refine wpAny_truthy_bool ?_
 cases k with
 |false =>
  obtain⟨k',e',q'⟩:=q3
  cases e'
  exact ite_ff ⟨H3,I3,q'⟩
 |true =>
  refine ite_tt (test_last (thn (hc pins s3 σ H3 _ I3 q3) λw' s4 ⟨z',H4,I4,r4,q4⟩=>thn (ho' pins s4 σ H4 y z' u w' _ I4 r2 r4 q4) λd' s5 ⟨z2,H5,I5,r5,k2,e2,q5⟩=>?_))
  subst e2
  cases r5
  exact wpAny_truthy_bool ⟨H5,I5,q5⟩
theorem Qk:(sizeLine:Nat)<2 ^ 63:=by rw[sizeLine_eq];decide
theorem L5{x:V}{us:List Value}(r:Vals [x] us):∃u,us=[u]/\RelV x u:=by
 cases r with
 |cons r1 r2=>cases r2;exact⟨_,rfl,r1⟩
theorem Yw{x y:V}{us:List Value}(r:Vals [x,y] us):∃u w',us=[u,w']/\RelV x u/\RelV y w':=by
 cases r with
 |cons r1 r2 =>
  cases r2 with
  |cons r3 r4=>cases r4;exact⟨_,_,rfl,r1,r3⟩
theorem V1(hc:X.calm=true):J0 X (.builtin "min") (λxs H Q=>∃i j,xs=[.int i,.int j]/\Q (.int (if j<i then j else i)) H):=by
 intro pins s σ H xs us Q I r h
 obtain⟨i,j,rfl,q⟩:=h
 obtain⟨u,w',rfl,⟨t,rfl⟩,⟨t',rfl⟩⟩:=Yw r
 refine min_two_ints (I.ok.hd hc) λh' tk k=>⟨_,H,I.kept k,?_,q⟩
 by_cases hj:j<i
 ·rw[if_pos hj,if_pos hj];exact⟨_,rfl⟩
 ·rw[if_neg hj,if_neg hj];exact⟨_,rfl⟩
theorem V2:J0 X (.type "int") (λxs H Q=>(∃i,xs=[.int i]/\Q (.int i) H)\/∃k,xs=[.bl k]/\Q (.int (if k then 1 else 0)) H):=by
 intro pins s σ H xs us Q I r h
 rcases h with ⟨i,rfl,q⟩|⟨k,rfl,q⟩
 ·obtain⟨u,rfl,t,rfl⟩:=L5 r
  exact call_int_int ⟨.int i,H,I,⟨_,rfl⟩,q⟩
 ·obtain⟨u,rfl,r1⟩:=L5 r
  cases r1
  exact call_int_bool ⟨.int (if k then 1 else 0),H,I.tok _,⟨_,rfl⟩,q⟩
def aW(K:PySem.W.Frag)(x:V)(H:Hp)(n:Nat):Prop :=
 match x with
 |.str y=>y.length<=sizeLine/\n=y.length
 |.byt y=>y.size<=sizeLine/\n=y.size
 |.ref p=>(∃xs,SqL K H p xs/\n=xs.length)\/∃xs,SqT K H p xs/\n=xs.length
 |_=>False
theorem Bh:J0 X (.builtin "len") (λxs H Q=>∃x n,xs=[x]/\aW X.K x H n/\Q (.int n) H):=by
 intro pins s σ H xs us Q I r h
 obtain⟨x,n,rfl,e,q⟩:=h
 obtain⟨u,rfl,rx⟩:=L5 r
 have hl:=Qk
 have hs:sizeLine=16777216:=sizeLine_eq
 cases x with
 |str y =>
  obtain⟨t,rfl⟩:=rx
  obtain⟨hy,e'⟩:y.length<=sizeLine/\n=y.length:=e
  subst e'
  exact len_str (by omega) ⟨.int _,H,I.tok _,⟨_,rfl⟩,q⟩
 |byt y =>
  obtain⟨t,rfl⟩:=rx
  obtain⟨hy,e'⟩:y.size<=sizeLine/\n=y.size:=e
  subst e'
  exact PySem.W.len_bytes (by omega) ⟨.int _,H,I.tok _,⟨_,rfl⟩,q⟩
 |ref p =>
  cases rx
  have e':(∃xs,SqL X.K H p xs/\n=xs.length)\/∃xs,SqT X.K H p xs/\n=xs.length:=e
  rcases e' with ⟨xs,hx,e'⟩|⟨xs,hx,e'⟩
  ·subst e'
   obtain⟨its,r',pl,hz⟩:=I.list hx
   have hlen:=r'.length
   exact Calls.call_len_list pl.isList (by simp only[List.size_toArray];omega) ⟨.int xs.length,H,I.tok _,⟨_,by simp only[List.size_toArray];rw[hlen]⟩,q⟩
  ·subst e'
   obtain⟨its,r',pl,hz⟩:=I.tuple hx
   have hlen:=r'.length
   exact len_tuple pl (by simp only[List.size_toArray];omega) ⟨.int xs.length,H,I.tok _,⟨_,by simp only[List.size_toArray];rw[hlen]⟩,q⟩
 |_=>exact(show False from e).elim
end
end L2
namespace L2
open PySem PySem.Spec PyProof.Rows
structure ObjM(h:Heap)(x dx C:Addr)(mA:Str->Option Value):Prop where
 obj:h.get? x=some (PySem.W.instObj C dx)
 ns:h.Ns1 dx mA
 ne:dx≠x
theorem VX{h:Heap}{dx:Addr}{mA:Str->Option Value}(n:h.Ns1 dx mA):∃od,h.get? dx=some od/\∀name,PySem.W.lookIn name od=some (mA name):=by
 obtain⟨o,es,ep,ho,hd,hk,_,hm⟩:=n
 refine⟨o,ho,λname=>?_⟩
 have e:=hm name
 unfold nsFind findBy at e
 rw[<- Array.find?_toList]at e
 unfold PySem.W.lookIn
 rw[hd]
 dsimp only
 split
 ·rename_i y q
  rw[q]at e
  exact congrArg some e
 ·rename_i q
  rw[q]at e
  have a:es.toList.any (·.refKey)=false:=by
   rw[List.any_eq_false]
   intro y hy
   obtain⟨z,t,hkey⟩:=hk y (eR.mp hy)
   simp[DictEntry.refKey,hkey]
  have a':¬es.toList.any (·.refKey)=true:=by rw[a];exact ck
  rw[if_neg a']
  exact congrArg some e
theorem ObjM.look{h:Heap}{x dx C:Addr}{mA:Str->Option Value}(I:ObjM h x dx C mA):∃od,PySem.W.InstAt h x (PySem.W.instObj C dx) C (some od)/\∀name,PySem.W.lookIn name od=some (mA name) :=
 let ⟨od,ho,hl⟩:=VX I.ns
 ⟨od,⟨I.obj,rfl,rfl,ho⟩,hl⟩
section
variable {prog:Program} {w:World} {A:Around} {E:Value->Shared->Prop} {s:Shared} {K:PySem.W.Frag} {x dx C f:Addr} {mA:Str->Option Value} {name:Str} {v:Value}
theorem YY{expr:Bool}{Q:Value->Shared->Prop}(X:K.In s.heap)(I:ObjM s.heap x dx C mA)(hg:PySem.W.plainGet K C name=true)(hh:PySem.W.hasDictIn K C=true)
  (ha:PySem.W.findIn K (.ref C) name=some none) (hv:mA name=some v) (hv':PySem.W.handedIn v=true) (h:Q v { s with toks:=s.toks+1 }) :
  wpAny (model prog w) A (getAttr (.ref x) name expr) Q E s:=by
 obtain⟨od,J,hl⟩:=I.look
 exact PySem.W.get_value X J (gC hg).1 (PySem.W.findObj_own hh ha rfl (by rw[hl,hv])) hv' h
theorem W3{pl:Sem Bool}{Q:Value×List Value->Shared->Prop}(X:K.In s.heap)(I:ObjM s.heap x dx C mA)(hg:PySem.W.plainGet K C name=true)
  (hf:PySem.W.findIn K (.ref C) name=some (some (.ref f))) (ht:PySem.W.isFn K (.ref f)=true) (hv:mA name=none) (h:Q (.ref f,[.ref x]) s) :
  wpAny (model prog w) A (getMethod (.ref x) name pl) Q E s:=by
 obtain⟨od,J,hl⟩:=I.look
 exact PySem.W.method_fn X J (gC hg).1 (gC hg).2 hf (beq_iff_eq.mp ht) (by show(PySem.W.lookIn name od).map (·.isSome)=some false;rw[hl,hv];rfl) h
theorem Xv{ns:List Str}{Q:Unit->Shared->Prop}(X:K.In s.heap)(I:ObjM s.heap x dx C mA)
  (hs:PySem.W.findIn K (.ref C) "__setattr__"=some (some (.builtin "object.__setattr__"))) (hp:PySem.W.plainOver K C=true) (ht:PySem.W.takerIn K C name=some none) (hh:PySem.W.hasDictIn K C=true)
  (hw:PySem.Within mA ns) (hsz:ns.length<=sizeLine)
  (h:∀h',ObjM h' x dx C (λy=>if y=name then some v else mA y)->Heap.SameBut dx s.heap h'->Q () { s with heap:=h',toks:=s.toks+2 }) :
  wpAny (model prog w) A (setAttr (.ref x) name v) Q E s:=by
 obtain⟨od,J,hl⟩:=I.look
 refine PySem.W.set_plain X J hs (PySem.W.osa_open (s:={ s with toks:=s.toks+1 }) (r:=none) X J hp ht λb=>?_)
 obtain⟨cd,hc,hd'⟩:=PySem.W.any_some hh
 have hx:s.heap.get? x=some ⟨.ref C,some dx,.plain,#[]⟩:=I.obj
 refine wpAny_bind (wpAny_pure (wpAny_bind (wpAny_bind (wpAny_loadPart hx (wpAny_bind (PySem.W.Looks.here (s:={ s with toks:=s.toks+1 }) (PySem.W.looks_clsIn X hc) ?_))))))
 rw[hd']
 refine wpAny_pure (a:=some dx) (wpAny_bind (wpAny_pure (wpAny_bind ?_)))
 refine wpAny_nsSet1 (s:={ s with toks:=s.toks+1 }) I.ns λh' hn2 hs2=>?_
 obtain⟨oD,esD,epD,hoD,hdD,hcD⟩:=hn2.count (PySem.Within.cons name v hw)
 refine wpAny_bind (wpAny_lookBehind hoD (by rw[hdD];exact pastItsLine_dict (cm hcD (by rw[cM];omega))) ?_)
 exact wpAny_pure (h _ ⟨(hs2.2 _ (Ne.symm I.ne)).trans I.obj,hn2,I.ne⟩ hs2)
theorem Wk{R:Result->Shared->Prop}{vs:List Value}{kw:List (Str×Value)}(X:K.In s.heap)(hm:PySem.W.makesIn K C=true)
  (hi:PySem.W.findIn K (.ref C) "__init__"=some (some (.ref f))) (hf:PySem.W.typeIn K (.ref f)=some (.type "function"))
  (h : codeAny (model prog w) (A.under (.builtin "type.__call__" ⟨.ref C :: vs, kw⟩)) (.call (.ref f) ⟨.ref (s.heap.objs.size + 1) :: vs, kw⟩) (PySem.W.InitBack (s.heap.objs.size + 1) R)
   { s with heap:=(s.heap.push PySem.W.emptyDict).push (PySem.W.instObj C s.heap.objs.size) }) :
  codeAny (model prog w) A (.call (.ref C) ⟨vs,kw⟩) R s:=by
 obtain⟨hh,g,d,t,os⟩:=s
 exact PySem.W.make_core (PySem.W.makes_of X hm) (PySem.W.looks_findIn X hi) (λself=>PySem.W.bind_fn X self hf) (.inl rfl) h
end
def Fh(f:Str)(v:V):List (Str×V)->List (Str×V)
 |[]=>[(f,v)]
 |(g,x)::r=>if g=f then (g,v)::r else (g,x)::Fh f v r
theorem MK(f g:Str)(v:V):∀fs:List (Str×V),(Fh f v fs).lookup g=if g=f then some v else fs.lookup g
 |[]=>by
  show List.lookup g [(f,v)]=_
  by_cases h:g=f
  ·have hb:(g==f)=true:=beq_iff_eq.mpr h
   simp only[List.lookup,hb,if_pos h]
  ·have hb:(g==f)=false:=beq_eq_false_iff_ne.mpr h
   simp only[List.lookup,hb,if_neg h]
 |(k,x)::r=>by
  have ih:=MK f g v r
  rw[show Fh f v ((k,x)::r)=(if k=f then (k,v)::r else (k,x)::Fh f v r) from rfl]
  by_cases hk:k=f
  ·rw[if_pos hk]
   by_cases h:g=k
   ·have hb:(g==k)=true:=beq_iff_eq.mpr h
    simp only[List.lookup,hb,if_pos (h.trans hk)]
   ·have hb:(g==k)=false:=beq_eq_false_iff_ne.mpr h
    simp only[List.lookup,hb,if_neg (λe:g=f=>h (e.trans hk.symm))]
  ·rw[if_neg hk]
   by_cases h:g=k
   ·have hb:(g==k)=true:=beq_iff_eq.mpr h
    simp only[List.lookup,hb,if_neg (λe:g=f=>hk (h.symm.trans e))]
   ·have hb:(g==k)=false:=beq_eq_false_iff_ne.mpr h
    simp only[List.lookup,hb]
    exact ih
theorem Lf(f:Str)(v:V):∀fs:List (Str×V),f∈(Fh f v fs).map (·.1)/\∀g,g∈fs.map (·.1)->g∈(Fh f v fs).map (·.1)
 |[]=>⟨by simp[Fh],λg h=>by simp at h⟩
 |(k,x)::r=>by
  obtain⟨i1,i2⟩:=Lf f v r
  rw[show Fh f v ((k,x)::r)=(if k=f then (k,v)::r else (k,x)::Fh f v r) from rfl]
  by_cases hk:k=f
  ·rw[if_pos hk]
   subst hk
   exact⟨by simp,λg h=>by simpa using h⟩
  ·rw[if_neg hk]
   refine⟨?_,λg h=>?_⟩
   ·rw[P']
    exact E' _ i1
   ·rw[P']at h ⊢
    rcases X'.mp h with e|e
    ·exact X'.mpr (.inl e)
    ·exact E' _ (i2 g e)
theorem ML(f:Str)(v:V):∀fs:List (Str×V),(Fh f v fs).length<=fs.length+1
 |[]=>by simp[Fh]
 |(k,x)::r=>by
  have ih:=ML f v r
  rw[show Fh f v ((k,x)::r)=(if k=f then (k,v)::r else (k,x)::Fh f v r) from rfl]
  by_cases hk:k=f
  ·rw[if_pos hk,cM,cM];omega
  ·rw[if_neg hk,cM,cM];omega
theorem RelO.some_of{v:V}{o:Option Value}(r:RelO (some v) o):∃u,o=some u/\RelV v u:=by
 cases o with
 |none=>exact(show False from r).elim
 |some u=>exact⟨u,rfl,r⟩
theorem RelO.none_of{o:Option Value}(r:RelO none o):o=none:=by
 cases o with
 |none=>rfl
 |some u=>exact(show False from r).elim
theorem Vg{v:V}{u:Value}(r:RelV v u):PySem.W.handedIn u=true:=by
 cases v with
 |non=>cases (show u=Value.none from r);rfl
 |bl b=>cases (show u=Value.bool b from r);rfl
 |int i=>obtain⟨t,e⟩:=(show ∃t,u=Value.int i t from r);cases e;rfl
 |str x=>obtain⟨t,e⟩:=(show ∃t,u=Value.str x t from r);cases e;rfl
 |byt b=>obtain⟨t,e⟩:=(show ∃t,u=Value.bytes b t from r);cases e;rfl
 |flt b=>obtain⟨t,e⟩:=(show ∃t,u=Value.float b t from r);cases e;rfl
 |ref a=>cases (show u=Value.ref a from r);rfl
 |ty n=>cases (show u=Value.type n from r);rfl
section
variable {P:Program} {w:World} {H H':Hp} {h h':Heap} {a C dx:Addr} {fs fs':List (Str×V)}
theorem M3(hok:HOk P w H h)(e:H a=some (.ins C dx fs)):∃mA,ObjM h a dx C mA/\(∀f,RelO (fs.lookup f) (mA f))/\PySem.Within mA (fs.map (·.1))/\fs.length<=1000/\H dx=some (.own a):=by
 obtain⟨d,z,ne,ob,mA,n,r,q⟩:=(show ObjOk P w H h a (.ins C dx fs) from hok a _ e)
 exact⟨mA,⟨ob,n,ne⟩,r,q,z,d⟩
end
structure Cls(K:PySem.W.Frag)(C:Addr):Prop where
 pg:PySem.W.plainGet K C Str.empty=true
 hd:PySem.W.hasDictIn K C=true
 po:PySem.W.plainOver K C=true
 sa:PySem.W.findIn K (.ref C) "__setattr__"=some (some (.builtin "object.__setattr__"))
theorem Cls.get{K:PySem.W.Frag}{C:Addr}(c:Cls K C)(f:Str):PySem.W.plainGet K C f=true:=c.pg
def NoAttr(K:PySem.W.Frag)(C:Addr)(f:Str):Prop:=PySem.W.findIn K (.ref C) f=some none
theorem NoAttr.taker{K:PySem.W.Frag}{C:Addr}{f:Str}(n:NoAttr K C f):PySem.W.takerIn K C f=some none:=by
 unfold PySem.W.takerIn
 rw[show PySem.W.findIn K (.ref C) f=some none from n]
 rfl
structure Xk(K:PySem.W.Frag)(C:Addr)(m:Str)(f:Addr):Prop where
 at_:PySem.W.findIn K (.ref C) m=some (some (.ref f))
 fn:PySem.W.isFn K (.ref f)=true
 kp:PySem.W.keepIn K (.ref f)=true
section
variable {X:Cx} {pins:List (Addr×Obj)} {σ:St} {H:Hp} {s:Shared} {a C dx:Addr} {fs:List (Str×V)} {f:Str} {v:V} {A:Around} {E:Value->Shared->Prop}
theorem Tg{b:Bool}{Q:Value->Shared->Prop}(I:Inv X pins σ H s)(e:H a=some (.ins C dx fs))(c:Cls X.K C)(n:NoAttr X.K C f)(l:fs.lookup f=some v)
  (h:∀u s',Inv X pins σ H s'->RelV v u->Q u s'):wpAny (model X.prog X.w) A (getAttr (.ref a) f b) Q E s:=by
 obtain⟨mA,O,r,_,_,_⟩:=M3 I.hok e
 obtain⟨u,hu,ru⟩:=RelO.some_of (v:=v) (o:=mA f) (by rw[<- l];exact r f)
 exact YY I.kIn O (c.get f) c.hd n hu (Vg ru) (h u _ (I.tok _) ru)
theorem Nx{m:Str}{g:Addr}{pl:Sem Bool}{Q:Value×List Value->Shared->Prop}(I:Inv X pins σ H s)(e:H a=some (.ins C dx fs))(c:Cls X.K C)(k:Xk X.K C m g)(l:fs.lookup m=none)
  (h:Q (.ref g,[.ref a]) s):wpAny (model X.prog X.w) A (getMethod (.ref a) m pl) Q E s:=by
 obtain⟨mA,O,r,_,_,_⟩:=M3 I.hok e
 have hn:mA m=none:=RelO.none_of (by rw[<- l];exact r m)
 exact W3 I.kIn O (c.get m) k.at_ k.fn hn h
theorem Sy{y:V}{u:Value}{Q:Unit->Shared->Prop}(I:Inv X pins σ H s)(e:H a=some (.ins C dx fs))(c:Cls X.K C)(n:NoAttr X.K C f)(hl:fs.length<1000)(ry:RelV y u)
  (h:∀s',Inv X pins σ (upd H a (.ins C dx (Fh f y fs))) s'->Q () s'):wpAny (model X.prog X.w) A (setAttr (.ref a) f u) Q E s:=by
 obtain⟨mA,O,r,wi,_,ho⟩:=M3 I.hok e
 have hz:(fs.map (·.1)).length<=sizeLine:=by rw[B',sizeLine_eq];omega
 refine Xv I.kIn O c.sa c.po n.taker c.hd wi hz λh' O' sb=>h _ ?_
 have hd:∃o,h'.get? dx=some o:=let ⟨o,_,_,e',_⟩:=O'.ns;⟨o,e'⟩
 refine I.write (x:=a) (e:=dx) (by rw[e];exact True.intro) (.inr ho) (λb q hb z=>(sb.2 b hb).trans z) hd ?_
 refine⟨by rw[AR O.ne];exact ho,?_,O.ne,O'.obj,_,O'.ns,λg=>?_,λg hg=>?_⟩
 ·have:=ML f y fs;omega
 ·show RelO ((Fh f y fs).lookup g) (if g=f then some u else mA g)
  rw[MK]
  by_cases q:g=f
  ·rw[if_pos q,if_pos q];exact ry
  ·rw[if_neg q,if_neg q];exact r g
 ·by_cases q:g=f
  ·rw[q];exact(Lf f y fs).1
  ·refine(Lf f y fs).2 g (wi g λz=>hg ?_)
   show(if g=f then some u else mA g)=none
   rw[if_neg q];exact z
theorem Inv.made(I:Inv X pins σ H s):Inv X pins σ (upd (upd H s.heap.objs.size (.own (s.heap.objs.size+1))) (s.heap.objs.size+1) (.ins C s.heap.objs.size []))
  { s with heap:=(s.heap.push PySem.W.emptyDict).push (PySem.W.instObj C s.heap.objs.size) }:=by
 have e1:(s.heap.push PySem.W.emptyDict).get? s.heap.objs.size=some PySem.W.emptyDict:=cX s.heap rfl
 have e2:((s.heap.push PySem.W.emptyDict).push (PySem.W.instObj C s.heap.objs.size)).get? (s.heap.objs.size+1)=some (PySem.W.instObj C s.heap.objs.size):=by
  have:=cX (s.heap.push PySem.W.emptyDict) (o:=PySem.W.instObj C s.heap.objs.size) rfl
  rwa [fN]at this
 have e3:(s.heap.push PySem.W.emptyDict).Ns s.heap.objs.size (λ_=>none):=⟨PySem.W.emptyDict,#[],_,e1,rfl,(λe he=>absurd he (by simp)),λ_=>rfl⟩
 have I1:=I.laid (a:=s.heap.objs.size) (o:=.own (s.heap.objs.size+1)) (h':=s.heap.push PySem.W.emptyDict) (t':=s.toks) (λb u q=>Z' _ q) (W' _) ⟨_,e1⟩
 refine I1.laid (a:=s.heap.objs.size+1) (o:=.ins C s.heap.objs.size []) (t':=s.toks) (λb u q=>Z' _ q) (Nat.le_of_eq (fN _ _)) ?_
 have ne:s.heap.objs.size≠s.heap.objs.size+1:=cq (fv _)
 refine⟨by rw[AR ne,AW],cZ _,ne,e2,λ_=>none,(Heap.Ns1.of_empty e3).at λo q=>Z' _ q,λ_=>True.intro,λy hy=>absurd rfl hy⟩
theorem Ym{prog:Program}{w:World}{env:Env}{e:Expr}{f:Str}{pos:Pos}{s:Shared}{Q:Value->Shared->Prop}(hb:attributeBase e f env (eval e env)=eval e env)
  (h:wpAny (model prog w) A (eval e env) (λo s₁=>wpAny (model prog w) A (getAttr o f true) Q E s₁) E s):wpAny (model prog w) A (eval (.Attribute e f pos) env) Q E s :=
 Attribute_any_ h (by rw[arm_eval_Attribute,hb])
end
def ZU(K:PySem.W.Frag)(ta:TE)(f:Str):TE:=λσ H Q=>ta σ H λx H1=>∃a C dx fs v,x = .ref a/\H1 a=some (.ins C dx fs)/\Cls K C/\NoAttr K C f/\fs.lookup f=some v/\Q v H1
def ao(K:PySem.W.Frag)(ta tv:TE)(f:Str):TS:=λD σ H=>tv σ H λy H1=>ta σ H1 λx H2=>∃a C dx fs,x = .ref a/\H2 a=some (.ins C dx fs)/\Cls K C/\NoAttr K C f/\fs.length<1000 /\
 D.nx σ (upd H2 a (.ins C dx (Fh f y fs)))
section
variable {X:Cx} {o e value:Expr} {f:Str} {pos pos' tpos:Pos} {ta tv:TE}
theorem KA(he:PE X e ta)(hb:attributeBase e f X.env (eval e X.env)=eval e X.env):PE X (.Attribute e f pos) (ZU X.K ta f):=by
 intro pins s σ H Q I h
 refine Ym hb (thn (he pins s σ H _ I h) λu s1 ⟨x,H1,I1,rx,a,C,dx,fs,v,ex,ea,c,n,l,q⟩=>?_)
 subst ex
 obtain rfl:u=Value.ref a:=rx
 exact Tg I1 ea c n l λu' s2 I2 ru=>⟨v,H1,I2,ru,q⟩
theorem QO(ha:PE X o ta)(hv:PE X value tv)(hs:swapsWith value (some (.Attribute o f pos')) pos.line X.env=pure false):PS X (.Assign [.Attribute o f pos'] value pos) (ao X.K ta tv f):=by
 intro pins s σ H D I h
 refine plainObj_wpAny_Assign_Attribute (thn (hv pins s σ H _ I h) λu s1 ⟨y,H1,I1,ry,q⟩=>thn (ha pins s1 σ H1 _ I1 q) λov s2 ⟨x,H2,I2,rx,a,C,dx,fs,ex,ea,c,n,l,q2⟩=>?_) hs
 subst ex
 obtain rfl:ov=Value.ref a:=rx
 exact Sy I2 ea c n l ry λs3 I3=>⟨σ,_,I3,q2⟩
end
section
variable {X:Cx} {pins:List (Addr×Obj)} {σ:St} {H:Hp} {s:Shared} {A:Around} {E:Value->Shared->Prop} {Q:Value->Shared->Prop} {c:Value} {b:Bool}
inductive Mo (K:PySem.W.Frag) (H:Hp):V->Value->Prop where
 |non:Mo K H .non (.type "NoneType")
 |bl (x:Bool):Mo K H (.bl x) (.type "bool")
 |int (i:Int):Mo K H (.int i) (.type "int")
 |str (x:Str):Mo K H (.str x) (.type "str")
 |flt (x:UInt64):Mo K H (.flt x) (.type "float")
 |lst {a:Addr} {xs:List V} (e:H a=some (.lst xs)):Mo K H (.ref a) (.type "list")
 |frz {a:Addr} {o:Obj} {xs:List V} (e:H a=some (.frz o (.lst xs))):Mo K H (.ref a) (.type "list")
 |tup {a:Addr} {xs:List V} (e:H a=some (.tup xs)):Mo K H (.ref a) (.type "tuple")
 |dK {a:Addr} {kvs:List (Key×V)} (e:H a=some (.dK kvs)):Mo K H (.ref a) (.type "dict")
 |dT {a:Addr} {kvs:List (List Key×V)} (e:H a=some (.dT kvs)):Mo K H (.ref a) (.type "dict")
 |ins {a C dx:Addr} {fs:List (Str×V)} (e:H a=some (.ins C dx fs)) (cl:Cls K C) (ha:PySem.W.findIn K (.ref C) "__class__"=some (some (.builtin "object.__class__")))
   (hn:PySem.W.specialIn K (.builtin "object.__class__") "__get__"=some (some (.builtin "getset_descriptor.__get__"))) (htk:PySem.W.takesIn K (.builtin "object.__class__")=some true)
   (hm:PySem.W.mroIn K C (.type "object")=some true):Mo K H (.ref a) (.ref C)
theorem Hd{x:V}{u t:Value}(I:Inv X pins σ H s)(rx:RelV x u)(ty:Mo X.K H x t)(e:PySem.W.kitOne X.K t c=some b)(h:∀tk,Q (.bool b) { s with toks:=tk }) :
  wpAny (model X.prog X.w) A (call (.builtin "isinstance") [u,c]) Q E s:=by
 cases ty with
 |non=>cases (show u=Value.none from rx);exact dS PySem.W.kitx_none I.kIn True.intro e (λz=>nomatch z) h
 |bl y=>cases (show u=Value.bool y from rx);exact dS PySem.W.kitx_bool I.kIn True.intro e (λz=>nomatch z) h
 |int i=>obtain⟨t,q⟩:=(show ∃t,u=Value.int i t from rx);cases q;exact dS PySem.W.kitx_int I.kIn True.intro e (λz=>nomatch z) h
 |str y=>obtain⟨t,q⟩:=(show ∃t,u=Value.str y t from rx);cases q;exact dS PySem.W.kitx_str I.kIn True.intro e (λz=>nomatch z) h
 |flt y=>obtain⟨t,q⟩:=(show ∃t,u=Value.float y t from rx);cases q;exact dS PySem.W.kitx_float I.kIn True.intro e (λz=>nomatch z) h
 |@lst a xs ea =>
  cases (show u=Value.ref a from rx)
  obtain⟨_,_,n,_,h1⟩:=(show ObjOk X.prog X.w H s.heap a (.lst xs) from I.hok a _ ea)
  exact dS PySem.W.kitx_list I.kIn ⟨_,h1,rfl⟩ e (λz=>nomatch z) h
 |@frz a ob xs ea =>
  cases (show u=Value.ref a from rx)
  obtain⟨_,_,_,n,_,h1⟩:=(show ObjOk X.prog X.w H s.heap a (.frz ob (.lst xs)) from I.hok a _ ea)
  exact dS PySem.W.kitx_list I.kIn ⟨_,h1,rfl⟩ e (λz=>nomatch z) h
 |@tup a xs ea =>
  cases (show u=Value.ref a from rx)
  obtain⟨_,_,_,p⟩:=(show ObjOk X.prog X.w H s.heap a (.tup xs) from I.hok a _ ea)
  obtain⟨o,h1,h2,_⟩:=p
  exact dS PySem.W.kitx_tuple I.kIn ⟨o,h1,h2⟩ e (λz=>nomatch z) h
 |@dK a kvs ea =>
  cases (show u=Value.ref a from rx)
  obtain⟨_,_,vs,_,p⟩:=(show ObjOk X.prog X.w H s.heap a (.dK kvs) from I.hok a _ ea)
  obtain⟨o,es,ep,h1,h2,_⟩:=p
  exact dS gU I.kIn ⟨o,h1,h2.1⟩ e (λz=>nomatch z) h
 |@dT a kvs ea =>
  cases (show u=Value.ref a from rx)
  obtain⟨_,_,xs,_,o,es,ep,h1,h2,_⟩:=(show ObjOk X.prog X.w H s.heap a (.dT kvs) from I.hok a _ ea)
  exact dS gU I.kIn ⟨o,h1,h2.1⟩ e (λz=>nomatch z) h
 |@ins a C dx fs ea cl ha hn htk hm =>
  cases (show u=Value.ref a from rx)
  obtain⟨mA,O,_⟩:=M3 I.hok ea
  obtain⟨od,J,_⟩:=O.look
  exact dS (PySem.W.kitx_own (cl.get _) cl.hd ha hn htk hm) I.kIn J e (λz=>nomatch z) h
end
end L2
namespace L2
open PySem PySem.Spec PyProof.Rows
structure Room(k:Nat)(A:Around):Prop where
 hd:A.handled=none
 dp:A.depth+3*k+5<recursionLimit
 un:A.units+16*k+200<cLine
theorem Room.mono{j k:Nat}{A:Around}(r:Room k A)(h:j<=k):Room j A:=⟨r.hd,by have:=r.dp;omega,by have:=r.un;omega⟩
theorem Room.deeper{k:Nat}{A:Around}(r:Room (k+1) A)(env:Env):Room k (A.deeper env) :=
 ⟨r.hd,by have:=r.dp;show A.depth+1+3*k+5<_;omega,by have:=r.un;show A.units+3+16*k+200<_;omega⟩
theorem Tc{A:Around}{C:Addr}{us:List Value}{kw:List (Str×Value)}:(A.under (.builtin "type.__call__" ⟨.ref C::us,kw⟩)).depth=A.depth+1:=by
 first|rfl|simp[Around.under,Code.weight,Code.isCreation,Code.isGuard,Code.isCaller,Code.frames,Code.isFrame,guardIds]
theorem Tb{A:Around}{C:Addr}{us:List Value}{kw:List (Str×Value)}:(A.under (.builtin "type.__call__" ⟨.ref C::us,kw⟩)).units=A.units+1:=by
 first|rfl|simp[Around.under,Code.cUnits,Code.frames,Code.isFrame]
theorem Room.make{k:Nat}{A:Around}(r:Room (k+1) A)(C:Addr)(us:List Value)(kw:List (Str×Value)):Room k (A.under (.builtin "type.__call__" ⟨.ref C::us,kw⟩)) :=
 ⟨r.hd,by have:=r.dp;rw[Tc];omega,by have:=r.un;rw[Tb];omega⟩
theorem Room.depth{k:Nat}{A:Around}(r:Room k A):A.depth<recursionLimit:=by have:=r.dp;omega
theorem Room.units{k:Nat}{A:Around}(r:Room k A):A.units+64<cLine:=by have:=r.un;omega
def J3:TA:=λ_ H Q=>Q [] H
def EC(ta:TE)(tr:TA):TA:=λσ H Q=>ta σ H λx H1=>tr σ H1 λxs H2=>Q (x::xs) H2
section
variable {X:Cx} {e:Expr} {es:List Expr} {te:TE} {t:TA} {pos:Pos}
theorem AI:PA X [] J3:=λ_ _ _ _ H Q I h=>Calls.spliced_nil ⟨[],H,I,.nil,h⟩
theorem AB(ha:PE X e te)(hr:PA X es t)(hs:starEach (e::es) X.env=(false,eval e X.env)::starEach es X.env:=by rfl):PA X (e::es) (EC te t):=by
 intro pos pins s σ H Q I h
 rw[hs]
 show wpAny _ _ (spliced ((false,eval e X.env)::backTo pos (starEach es X.env))) _ _ s
 refine Calls.spliced_cons (thn (ha pins s σ H _ I h) λu s1 ⟨x,H1,I1,r1,q1⟩=>?_)
 exact thn (hr pos pins s1 σ H1 _ I1 q1) λus s2 ⟨xs,H2,I2,r2,q2⟩=>⟨x::xs,H2,I2,.cons r1 r2,q2⟩
def Xr(t:TA):TE:=λσ H Q=>t σ H λxs H1=>xs.length<=sizeLine/\∀p,H1 p=none->Q (.ref p) (upd H1 p (.tup xs))
def Xs(t:TA):TE:=λσ H Q=>t σ H λxs H1=>xs.length<=sizeLine/\∀p,H1 p=none->Q (.ref p) (upd H1 p (.lst xs))
theorem B3{x1}(h:PA X es t):PE X (.Tuple es x1 pos) (Xr t):=by
 intro pins s σ H Q I hq
 refine wpAny_Tuple_spliced (thn (h pos pins s σ H _ I hq) λus s1 ⟨xs,H1,I1,r,z,q⟩=>⟨by rw[<- r.length];exact z,?_⟩)
 have hf:H1 s1.heap.objs.size=none:=I1.hok.fresh (W' _)
 refine⟨.ref s1.heap.objs.size,upd H1 s1.heap.objs.size (.tup xs),I1.laid (t':=s1.toks) (λb u e=>Z' _ e) (W' _) ?_,rfl,q _ hf⟩
 exact⟨z,us,r,⟨_,cX _ rfl,rfl,_,rfl⟩⟩
theorem EV(h:PA X es t):PE X (.List es pos) (Xs t):=by
 intro pins s σ H Q I hq
 refine wpAny_List_spliced (thn (h pos pins s σ H _ I hq) λus s1 ⟨xs,H1,I1,r,z,q⟩=>⟨by rw[<- r.length];exact z,?_⟩)
 have hf:H1 s1.heap.objs.size=none:=I1.hok.fresh (W' _)
 refine⟨.ref s1.heap.objs.size,upd H1 s1.heap.objs.size (.lst xs),I1.laid (t':=s1.toks) (λb u e=>Z' _ e) (W' _) ?_,rfl,q _ hf⟩
 exact⟨z,us,0,r,cX _ rfl⟩
end
abbrev Sp:=List V->Hp->VK->XK->Prop
abbrev CXT:=List Env->Hp->Shared->XK->Value->Shared->Prop
structure Env0(P:Program)(w:World)(K:PySem.W.Frag)(mg:Str->Option Value)(base:Heap)(A:Around)(outer:List Env)(s:Shared)(H:Hp):Prop where
 frames:A.frames=some outer
 mod:Mod K mg base
 bs:∀b o,base.get? b=some o->s.heap.get? b=some o/\H b=none
 bsz:base.objs.size<=s.heap.objs.size
 funs:s.heap.FunFrames base outer
 frf:∀b∈frs outer,H b=none
 hok:HOk P w H s.heap
 bare:AllBare s.gens
def CE(outer:List Env)(P:Program)(w:World)(H:Hp)(s:Shared)(Q:VK)(u:Value)(s':Shared):Prop :=
 ∃v H',s'.os=s.os/\AllBare s'.gens/\Un (frs outer) [] H H' s.heap s'.heap/\HOk P w H' s'.heap/\RelV v u/\Q v H'
def CR(CX:CXT)(outer:List Env)(P:Program)(w:World)(H:Hp)(s:Shared)(Q:VK)(E:XK)(r:Result)(s':Shared):Prop :=
 match r with
 |.ok (.ret u)=>CE outer P w H s Q u s'
 |.ok _=>False
 |.error e=>CX outer H s E e s'
structure FnOk(P:Program)(w:World)(K:PySem.W.Frag)(mg:Str->Option Value)(base:Heap)(CX:CXT)(k:Nat)(f:Addr)(fd:FuncData)(ps:List Str)(sp:Sp):Prop where
 len:∀vs H Q E,sp vs H Q E->vs.length=ps.length
 run:∀(A:Around) (outer:List Env) (s:Shared) (H:Hp) (args:Args) (us:List Value) (vs:List V) (Q:VK) (E:XK),Room k A->Env0 P w K mg base A outer s H->BindsTo s fd args (ps.zip us)->Vals vs us->sp vs H Q E ->
  codeAny (model P w) A (.call (.ref f) args) (CR CX outer P w H s Q E) s
theorem FnOk.mono{P:Program}{w:World}{K:PySem.W.Frag}{mg:Str->Option Value}{base:Heap}{CX:CXT}{j k:Nat}{f:Addr}{fd:FuncData}{ps:List Str}{sp:Sp}(F:FnOk P w K mg base CX j f fd ps sp)(h:j<=k) :
  FnOk P w K mg base CX k f fd ps sp:=⟨F.len,λA outer s H args us vs Q E hr=>F.run A outer s H args us vs Q E (hr.mono h)⟩
theorem FnOk.imp{P:Program}{w:World}{K:PySem.W.Frag}{mg:Str->Option Value}{base:Heap}{CX:CXT}{k:Nat}{f:Addr}{fd:FuncData}{ps:List Str}{sp sp':Sp}(F:FnOk P w K mg base CX k f fd ps sp)
  (h:∀vs H Q E,sp' vs H Q E->sp vs H Q E):FnOk P w K mg base CX k f fd ps sp' :=
 ⟨λvs H Q E q=>F.len vs H Q E (h _ _ _ _ q),λA outer s H args us vs Q E hr he hb hv hs=>F.run A outer s H args us vs Q E hr he hb hv (h _ _ _ _ hs)⟩
theorem Env0.make{P:Program}{w:World}{K:PySem.W.Frag}{mg:Str->Option Value}{base:Heap}{A:Around}{outer:List Env}{s:Shared}{H:Hp}(e:Env0 P w K mg base A outer s H)(C:Addr)(us:List Value)(kw:List (Str×Value)) :
  Env0 P w K mg base (A.under (.builtin "type.__call__" ⟨.ref C::us,kw⟩)) outer s H:=⟨by first|exact e.frames|(simpa[Around.under,Code.envs,Code.isFrame,pushEnvs] using e.frames),e.mod,e.bs,e.bsz,e.funs,e.frf,e.hok,e.bare⟩
section
variable {X:Cx} {pins:List (Addr×Obj)} {σ:St} {H:Hp} {s s':Shared}
theorem Inv.env0(I:Inv X pins σ H s):Env0 X.prog X.w X.K X.mg X.base X.A X.stack s H :=
 ⟨I.ok.frames,I.ok.mod,I.bs,cm I.ok.bsz I.sz,I.stack,I.stkFree,I.hok,I.bare⟩
theorem Inv.after{Q:VK}{u:Value}(I:Inv X pins σ H s)(h:CE X.stack X.prog X.w H s Q u s'):EP X pins σ Q u s':=by
 obtain⟨v,H',os,bare,un,hok,r,q⟩:=h
 obtain⟨hh,g,d,t,os'⟩:=s'
 obtain rfl:os'=s.os:=os
 exact⟨v,H',I.call (h':=hh) (g':=g) (d':=d) (t':=t) (ch:=[]) un hok bare (λb z=>absurd z (by simp)),r,q⟩
end
def Ke(sp:Sp)(dvs:List V)(E:XK)(t:TA):TE:=λσ H Q=>t σ H λvs H1=>sp (vs++dvs) H1 Q E
def Kc(C:Addr)(m:Str)(sp:Sp)(dvs:List V)(E:XK)(ta:TE)(t:TA):TE:=λσ H Q=>ta σ H λx H1=>∃a dx fs,x = .ref a/\H1 a=some (.ins C dx fs)/\fs.lookup m=none /\
 t σ H1 λvs H2=>sp (x::(vs++dvs)) H2 Q E
def WB(C:Addr)(sp:Sp)(dvs:List V)(E:XK)(t:TA):TE:=λσ H Q=>t σ H λvs H1=>∀x dx,H1 x=none->H1 dx=none->dx≠x ->
 sp (.ref x::(vs++dvs)) (upd (upd H1 dx (.own x)) x (.ins C dx [])) (λv H2=>v = .non/\Q (.ref x) H2) E
def Binds(K:PySem.W.Frag)(fd:FuncData)(ps:List Str)(ds:List Value):Prop :=
 ∀(s:Shared) (us:List Value),K.In s.heap->(us++ds).length=ps.length->BindsTo s fd ⟨us,[]⟩ (ps.zip (us++ds))
theorem Binds.all{K:PySem.W.Frag}{fd:FuncData}{ps:List Str}(h:∀us:List Value,us.length=ps.length->bindArgs fd ⟨us,[]⟩=pure (ps.zip us)):Binds K fd ps []:=λs us _ hl=>by
 rw[dM]at hl ⊢
 exact .of_eq (h us hl)
def KZ(CX:CXT)(X:Cx)(E:XK):Prop:=∀(pins:List (Addr×Obj)) (σ:St) (H:Hp) (s:Shared) (e:Value) (s':Shared),Inv X pins σ H s->CX X.stack H s E e s'->X.xe e s'
section
variable {X:Cx} {CX:CXT} {k:Nat} {f C:Addr} {fd:FuncData} {ps:List Str} {sp:Sp} {dvs:List V} {ds:List Value} {E:XK} {x m:Str} {p pos apos:Pos} {e o:Expr} {es:List Expr} {ta:TE} {t:TA}
theorem S6{pins:List (Addr×Obj)}{σ:St}{H:Hp}{s:Shared}{Q:VK}{us:List Value}{vs:List V}(F:FnOk X.prog X.w X.K X.mg X.base CX k f fd ps sp)(hr:Room k X.A)(hb:Binds X.K fd ps ds)(hd:Vals dvs ds)(hx:KZ CX X E)
  (I:Inv X pins σ H s) (r:Vals vs us) (h:sp (vs++dvs) H Q E):wpAny (model X.prog X.w) X.A (call (.ref f) us) (EP X pins σ Q) X.xe s:=by
 have r2:Vals (vs++dvs) (us++ds):=r.append hd
 have hl:(us++ds).length=ps.length:=by rw[<- r2.length];exact F.len _ _ _ _ h
 refine wpAny_call (codeAny_mono (F.run X.A X.stack s H ⟨us,[]⟩ (us++ds) (vs++dvs) Q E hr I.env0 (hb s us I.kIn hl) r2 h) λr s' hq=>?_)
 cases r with
 |error e=>exact hx pins σ H s e s' I hq
 |ok fl =>
  cases fl with
  |ret u=>exact I.after hq
  |next=>exact False.elim hq
  |brk=>exact False.elim hq
  |cont=>exact False.elim hq
theorem X6(F:FnOk X.prog X.w X.K X.mg X.base CX k f fd ps sp)(hr:Room k X.A)(hg:Gl X x)(hm:X.mg x=some (.ref f))(hk:PySem.W.keepIn X.K (.ref f)=true)(hb:Binds X.K fd ps ds)(hd:Vals dvs ds)(hx:KZ CX X E)
  (ha:PA X (e::es) t) (hdb:(x==("__debug__":Str))=false:=by decide) (he:starEach (e::es) X.env=(false,eval e X.env)::starEach es X.env:=by rfl) (hpl:(backTo pos (starEach es X.env)).any (·.1)=false:=by rfl) :
  PE X (.Call (.Name x p) (e::es) [] pos) (Ke sp dvs E t):=by
 intro pins s σ H Q I h
 refine wpAny_Call_Name_kw (US I hg hm ?_ hdb)
 refine gH (h₀:=X.base) I.ok.mod.kin hk (thn (ha pos pins s σ H _ I h) λus s1 ⟨vs,H1,I1,r,q⟩=>⟨I1.kIn,?_⟩) he hpl
 exact S6 F hr hb hd hx I1 r q
theorem X4{pl:Sem Bool}(he:PE X o ta)(c:Cls X.K C)(hm:Xk X.K C m f)(F:FnOk X.prog X.w X.K X.mg X.base CX k f fd ps sp)(hr:Room k X.A)(hb:Binds X.K fd ps ds)(hd:Vals dvs ds)(hx:KZ CX X E)(ha:PA X (e::es) t)
  (hst:starEach (e::es) X.env=(false,eval e X.env)::starEach es X.env:=by rfl) (hpl:(backTo pos (starEach es X.env)).any (·.1)=false:=by rfl)
  (ht : eval (.Call (.Attribute o m apos) (e :: es) [] pos) X.env = (do
   let ov <- eval o X.env
   standAt apos.atName
   let (f,first) <- holding [ov] (getMethod ov m pl)
   callWith pos f first (backTo pos (starEach (e::es) X.env)) (backToKw pos (keywordEach [] X.env))):=by rfl) :
  PE X (.Call (.Attribute o m apos) (e::es) [] pos) (Kc C m sp dvs E ta t):=by
 intro pins s σ H Q I h
 refine PySem.W.methodCall_KW (pl:=pl) (thn (he pins s σ H _ I h) λu s1 ⟨x,H1,I1,rx,a,dx,fs,ex,ea,l,q⟩=>?_) ht
 subst ex
 obtain rfl:u=Value.ref a:=rx
 refine Nx I1 ea c hm l ?_
 refine gH (first:=[.ref a]) (h₀:=X.base) I.ok.mod.kin hm.kp (thn (ha pos pins s1 σ H1 _ I1 q) λus s2 ⟨vs,H2,I2,r,q2⟩=>⟨I2.kIn,?_⟩) hst hpl
 exact S6 (us:=.ref a::us) (vs:=.ref a::vs) F hr hb hd hx I2 (.cons rfl r) q2
theorem WW{pl:Sem Bool}(he:PE X o ta)(c:Cls X.K C)(hm:Xk X.K C m f)(F:FnOk X.prog X.w X.K X.mg X.base CX k f fd ps sp)(hr:Room k X.A)(hb:Binds X.K fd ps ds)(hd:Vals dvs ds)(hx:KZ CX X E)
  (ht : eval (.Call (.Attribute o m apos) [] [] pos) X.env = (do
   let ov <- eval o X.env
   standAt apos.atName
   let (f,first) <- holding [ov] (getMethod ov m pl)
   callWith pos f first (backTo pos (starEach [] X.env)) (backToKw pos (keywordEach [] X.env))):=by rfl) :
  PE X (.Call (.Attribute o m apos) [] [] pos) (Kc C m sp dvs E ta J3):=by
 intro pins s σ H Q I h
 refine PySem.W.methodCall_KW (pl:=pl) (thn (he pins s σ H _ I h) λu s1 ⟨x,H1,I1,rx,a,dx,fs,ex,ea,l,q⟩=>?_) ht
 subst ex
 obtain rfl:u=Value.ref a:=rx
 refine Nx I1 ea c hm l ?_
 exact PySem.W.callWith_K0 (first:=[.ref a]) I1.kIn hm.kp (S6 (us:=[.ref a]) (vs:=[.ref a]) F hr hb hd hx I1 (.cons rfl .nil) q)
structure Mk(K:PySem.W.Frag)(C f:Addr):Prop where
 makes:PySem.W.makesIn K C=true
 init:PySem.W.findIn K (.ref C) "__init__"=some (some (.ref f))
 fn:PySem.W.isFn K (.ref f)=true
 kp:PySem.W.keepIn K (.ref C)=true
theorem WH{pins:List (Addr×Obj)}{σ:St}{H:Hp}{s:Shared}{Q:VK}{us:List Value}{vs:List V}(M:Mk X.K C f)(F:FnOk X.prog X.w X.K X.mg X.base CX k f fd ps sp)(hr:Room (k+1) X.A)(hb:Binds X.K fd ps ds)(hd:Vals dvs ds)
  (hx:KZ CX X E) (I:Inv X pins σ H s) (r:Vals vs us)
  (h:∀x dx,H x=none->H dx=none->dx≠x->sp (.ref x::(vs++dvs)) (upd (upd H dx (.own x)) x (.ins C dx [])) (λv H2=>v = .non/\Q (.ref x) H2) E) :
  wpAny (model X.prog X.w) X.A (call (.ref C) us) (EP X pins σ Q) X.xe s:=by
 have hq:=h (s.heap.objs.size+1) s.heap.objs.size (I.hok.fresh (gm _)) (I.hok.fresh (W' _)) (cq (fv _))
 have I2:=Inv.made (C:=C) I
 have r2:Vals (V.ref (s.heap.objs.size+1)::(vs++dvs)) (Value.ref (s.heap.objs.size+1)::(us++ds)):=.cons rfl (r.append hd)
 have hl:(Value.ref (s.heap.objs.size+1)::us++ds).length=ps.length:=by
  have e:=r2.length
  rw[F.len _ _ _ _ hq]at e
  exact e.symm
 refine wpAny_call (Wk (f := f) I.kIn M.makes M.init (beq_iff_eq.mp M.fn) (codeAny_mono (F.run _ X.stack _ _ ⟨Value.ref (s.heap.objs.size + 1) :: us, []⟩ (Value.ref (s.heap.objs.size + 1) :: (us ++ ds)) _ _ E (hr.make C us [])
  (I2.env0.make C us []) (hb _ (Value.ref (s.heap.objs.size+1)::us) I2.kIn hl) r2 hq) λr s' hq'=>?_))
 cases r with
 |error e=>exact hx pins σ _ _ e s' I2 hq'
 |ok fl =>
  cases fl with
  |ret u =>
   obtain⟨v,H',I3,rv,ev,q3⟩:=I2.after hq'
   subst ev
   exact⟨rv,⟨V.ref (s.heap.objs.size+1),H',I3,rfl,q3⟩⟩
  |next=>exact False.elim hq'
  |brk=>exact False.elim hq'
  |cont=>exact False.elim hq'
theorem X5(M:Mk X.K C f)(F:FnOk X.prog X.w X.K X.mg X.base CX k f fd ps sp)(hr:Room (k+1) X.A)(hg:Gl X x)(hm:X.mg x=some (.ref C))(hb:Binds X.K fd ps ds)(hd:Vals dvs ds)(hx:KZ CX X E)
  (ha:PA X (e::es) t) (hdb:(x==("__debug__":Str))=false:=by decide) (he:starEach (e::es) X.env=(false,eval e X.env)::starEach es X.env:=by rfl) (hpl:(backTo pos (starEach es X.env)).any (·.1)=false:=by rfl) :
  PE X (.Call (.Name x p) (e::es) [] pos) (WB C sp dvs E t):=by
 intro pins s σ H Q I h
 refine wpAny_Call_Name_kw (US I hg hm ?_ hdb)
 refine gH (h₀:=X.base) I.ok.mod.kin M.kp (thn (ha pos pins s σ H _ I h) λus s1 ⟨vs,H1,I1,r,q⟩=>⟨I1.kIn,?_⟩) he hpl
 exact WH M F hr hb hd hx I1 r q
end
section
variable {X:Cx} {CX:CXT} {k:Nat} {f C:Addr} {fd:FuncData} {ps ks:List Str} {sp:Sp} {E:XK} {x m:Str} {p pos apos kpos:Pos} {e o:Expr} {es:List Expr} {kws:List Keyword} {te ta:TE} {t tk:TA} {nm:Option Str}
variable {g:List Value->List Value->List Value} {gV:List V->List V->List V}
end
structure Ax(N P:List Str)(sc:Scope):Prop where
 kind:sc.kind = .function
 co:sc.isCoroutine=false
 gen:sc.isGenerator=false
 nd:N.Nodup
 pre:N.take P.length=P
 par:∀x∈P,sc.names.lookup x=some .local\/sc.names.lookup x=some .cell
 nofree:∀y∈sc.names,y.2≠.free
theorem P4{kindOf:Str->Option NameKind}{x:Str}:∀{binds:List (Str×Value)} {m:Str->Option Value},(∀v,(x,v)∉binds)->bindL kindOf binds m x=m x
 |[],_,_=>rfl
 |(n,v)::r,m,h=>by
  unfold bindL
  rw[P4 λw hw=>h w (E' _ hw)]
  split
  ·have:x≠n:=by rintro rfl;exact h v J'
   simp[this]
  ·rfl
theorem P6{kindOf:Str->Option NameKind}{x:Str}:∀{binds:List (Str×Value)} {m:Str->Option Value},(∀v,(x,v)∉binds)->bindC kindOf binds m x=m x
 |[],_,_=>rfl
 |(n,v)::r,m,h=>by
  unfold bindC
  rw[P6 λw hw=>h w (E' _ hw)]
  split
  ·rfl
  ·have:x≠n:=by rintro rfl;exact h v J'
   simp[this]
theorem P5{kindOf:Str->Option NameKind}{x:Str}{v:Value}:∀{P:List Str} {vs:List Value} {i:Nat} {m:Str->Option Value},P.Nodup->P[i]?=some x->vs[i]?=some v->kindOf x=some .local ->
  bindL kindOf (P.zip vs) m x=some v
 |[],_,_,_,_,h,_,_=>by simp at h
 |_::_,[],_,_,_,_,h,_=>by simp at h
 |p::P,w::vs,0,m,nd,h1,h2,hk=>by
  simp at h1 h2;subst h1;subst h2
  show bindL kindOf ((p,w)::P.zip vs) m p=_
  unfold bindL
  rw[P4 λv hv=>(cP.mp nd).1 (gj hv).1,if_pos hk]
  simp
 |p::P,w::vs,i+1,m,nd,h1,h2,hk=>by
  show bindL kindOf ((p,w)::P.zip vs) m x=_
  unfold bindL
  exact P5 (i:=i) (cP.mp nd).2 (by simpa using h1) (by simpa using h2) hk
theorem P7{kindOf:Str->Option NameKind}{x:Str}{v:Value}:∀{P:List Str} {vs:List Value} {i:Nat} {m:Str->Option Value},P.Nodup->P[i]?=some x->vs[i]?=some v->kindOf x≠some .local ->
  bindC kindOf (P.zip vs) m x=some v
 |[],_,_,_,_,h,_,_=>by simp at h
 |_::_,[],_,_,_,_,h,_=>by simp at h
 |p::P,w::vs,0,m,nd,h1,h2,hk=>by
  simp at h1 h2;subst h1;subst h2
  show bindC kindOf ((p,w)::P.zip vs) m p=_
  unfold bindC
  rw[P6 λv hv=>(cP.mp nd).1 (gj hv).1,if_neg hk]
  simp
 |p::P,w::vs,i+1,m,nd,h1,h2,hk=>by
  show bindC kindOf ((p,w)::P.zip vs) m x=_
  unfold bindC
  exact P7 (i:=i) (cP.mp nd).2 (by simpa using h1) (by simpa using h2) hk
def start(N:List Str)(vs:List V):St:=vs.map some++List.replicate (N.length-vs.length) none
def Vx(CX:CXT)(P:Program)(w:World)(K:PySem.W.Frag)(mg:Str->Option Value)(base:Heap)(N:List Str)(qual:Str)(scope:Scope)(f:Addr)(cd:Value)(A:Around)(outer:List Env)(s:Shared)(H:Hp)(E:XK):Cx where
 prog:=P
 w:=w
 K:=K
 mg:=mg
 base:=base
 A:=A.deeper (envOfC qual scope s.heap.objs.size f cd)
 N:=N
 s₀:=s
 H₀:=H
 env:=envOfC qual scope s.heap.objs.size f cd
 outer:=outer
 stack:=envOfC qual scope s.heap.objs.size f cd::outer
 ex:=[]
 calm:=true
 fn:=λ_=>true
 pn:=[]
 xe:=λe s'=>wpAny (model P w) (A.deeper (envOfC qual scope s.heap.objs.size f cd)) (leaving (envOfC qual scope s.heap.objs.size f cd) e) (λ_ s''=>CX outer H s E e s'') (λe' s''=>CX outer H s E e' s'') s'
theorem Si{sc:Scope}{n:Nat}{x:Str}(h:sc.names.lookup x=some .cell):∃c,(cellsFrom n sc.names []).lookup x=some c:=by
 have q:=PySem.W.cellsFrom_some sc.names n [] (.inl h)
 exact Option.isSome_iff_exists.mp q
theorem Vc{CX:CXT}{P:Program}{w:World}{K:PySem.W.Frag}{mg:Str->Option Value}{base:Heap}{N ps:List Str}{qual:Str}{scope:Scope}{f:Addr}{cd:Value}{A:Around}{outer:List Env}{s s1:Shared}{H:Hp}{E:XK}{us:List Value}{vs:List V}
  (S:Ax N ps scope) (hd:A.handled=none) (e0:Env0 P w K mg base A outer s H) (hl:vs.length=ps.length) (r:Vals vs us)
  (x:InCallC s s.heap.objs.size (bindL (envOfC qual scope s.heap.objs.size f cd).kindOf (ps.zip us) λ_=>none) (cellsFrom (s.heap.objs.size+1) scope.names []) (bindC (envOfC qual scope s.heap.objs.size f cd).kindOf (ps.zip us) λ_=>none) s1) :
  Inv (Vx CX P w K mg base N qual scope f cd A outer s H E) [] (start N vs) H s1:=by
 have hpl:ps.length<=N.length:=by have:=congrArg List.length S.pre;rw[eu]at this;omega
 obtain⟨h1,tk,rfl,hk⟩:=x.done
 have noA:∀b:Addr,b∉(Vx CX P w K mg base N qual scope f cd A outer s H E).ex:=λb z=>absurd (show b∈([]:List Addr) from z) (by simp)
 refine ⟨⟨e0.mod, S.kind, rfl, rfl, W' _, λy z c h1 h2 => ?_, λy hy => ?_, λy c _ h => ?_, λ_ => hd, Around.frames_deeper e0.frames, .inr ⟨rfl, rfl⟩, λb z => absurd z (noA b), e0.bs, e0.bsz, λb _ _ => noA b, λb z => absurd z (noA b), e0.funs, e0.frf⟩,
  rfl,e0.bare,Un.kept hk,⟨_,x.toInCall.ns,λi y v h1 h2 h3=>?_⟩,λy c h=>⟨_,x.cell y c h⟩,e0.hok.fresh (W' _),λy c h=>?_,λp hp=>absurd (show p∈([]:List (Addr×Obj)) from hp) (by simp),e0.hok.kept hk,?_⟩
 ·exact name_of_addr x.apart (dv h1) (dv h2)
 ·have hy:scope.names.lookup y=some .cell\/scope.names.lookup y=some .free:=hy
  rcases hy with hy|hy
  ·exact Si hy
  ·exact absurd rfl (S.nofree _ (dv hy))
 ·exact fB (x.above y c (dv h))
 ·have hi:i<vs.length:=by
   unfold start at h2
   by_cases hi:i<vs.length
   ·exact hi
   ·rw[cR (by simpa using hi)]at h2
    rw[dF]at h2
    split at h2<;>cases h2
  have ha:vs[i]?=some v:=by
   unfold start at h2
   rw[cY (by simpa using hi),U']at h2
   cases e:vs[i]? with
   |none=>rw[e]at h2;cases h2
   |some a=>rw[e]at h2;cases h2;rfl
  obtain⟨u,hu,rv⟩:=r.get ha
  have hp:ps[i]?=some y:=by
   rw[<- S.pre,List.getElem?_take_of_lt (by omega)];exact h1
  have ndP:ps.Nodup:=by rw[<- S.pre];exact S.nd.sublist (List.take_sublist _ _)
  refine⟨u,rv,?_⟩
  rcases S.par y (cj hp)with k|k
  ·exact .inl ⟨k,P5 ndP hp hu k⟩
  ·obtain⟨c,e⟩:=Si (n:=s.heap.objs.size+1) k
   refine .inr ⟨.inl k,c,e,?_⟩
   have q:=x.cell y c e
   rw[P7 ndP hp hu (by show scope.names.lookup y≠_;rw[k];decide)]at q
   exact q
 ·exact e0.hok.fresh (fB (x.above y c (dv h)))
 ·unfold start
  show _=N.length
  rw[cT,B',dX]
  omega
theorem bU{CX:CXT}{P:Program}{w:World}{K:PySem.W.Frag}{mg:Str->Option Value}{base:Heap}{k:Nat}{f:Addr}{name qual:Str}{params:Arguments}{body:List Stmt}{scope:Scope}{dV kV doc pm cdv ct oc:Value}{an od:Option Addr}
  {osl:Array (Option Value)} {N ps:List Str} {sp:Sp} (lk:K.lookup f=some ⟨oc,od,.func (PySem.W.fnOf name qual params body scope dV kV doc pm an cdv ct),osl⟩) (hcd:PySem.W.codeIn K cdv qual=true) (S:Ax N ps scope)
  (len:∀vs H Q E,sp vs H Q E->vs.length=ps.length)
  (hbody : ∀ (A : Around) (outer : List Env) (s : Shared) (H : Hp) (vs : List V) (Q : VK) (E : XK), Room k (A.deeper (envOfC qual scope s.heap.objs.size f cdv)) -> sp vs H Q E ->
   ∃t,PSs (Vx CX P w K mg base N qual scope f cdv A outer s H E) body t/\t { nx:=λ_ H'=>Q .non H',rt:=Q } (start N vs) H) :
  FnOk P w K mg base CX (k+1) f (PySem.W.fnOf name qual params body scope dV kV doc pm an cdv ct) ps sp:=by
 refine⟨len,λA outer s H args us vs Q E hr e0 hb r hsp=>?_⟩
 have hl:=len _ _ _ _ hsp
 have KX:K.In s.heap:=e0.mod.kin.keeps λb o e=>(e0.bs b o e).1
 have lim:s.heap.NoLimit:=e0.mod.nolimit.keeps λb o e=>(e0.bs b o e).1
 have hkind:∀y∈ps.zip us,scope.names.lookup y.1=some .local\/(scope.names.lookup y.1=some .cell/\((cellsFrom (s.heap.objs.size+1) scope.names []).lookup y.1).isSome=true):=λ⟨n,v⟩ hy=>by
  rcases S.par n (gj hy).1 with q|q
  ·exact .inl q
  ·exact .inr ⟨q,PySem.W.cellsFrom_some _ _ _ (.inl q)⟩
 refine codeAny_call_function hr.depth (KX _ _ lk) rfl S.co S.gen rfl (PySem.W.codeRec_of KX hcd) (hb _ _ _ _ ?_)
 refine wpAny_newFunctionEnv_cells S.kind hkind λenv he s1 x=>?_
 subst he
 refine⟨lim.keeps x.toInCall.keep,codeAny_func ?_⟩
 obtain⟨t,ht,hq⟩:=hbody A outer s H vs Q E (hr.deeper _) hsp
 have I:Inv (Vx CX P w K mg base N qual scope f cdv A outer s H E) [] (start N vs) H s1:=Vc S hr.hd e0 hl r x
 refine wpAny_mono (ht [] s1 (start N vs) H _ I hq) (λfl s' hs=>?_) λe s' hs=>hs
 have fin:∀{σ':St} {H':Hp} {v:V} {u:Value},Inv (Vx CX P w K mg base N qual scope f cdv A outer s H E) [] σ' H' s'->RelV v u->Q v H'->CE outer P w H s Q u s' :=
  λ{σ' H' v u} J rv q=>⟨v,H',J.os,J.bare,J.base,J.hok,rv,q⟩
 cases fl with
 |ret u =>
  obtain⟨v,σ',H',J,rv,q⟩:=hs
  exact fin J rv q
 |next =>
  obtain⟨σ',H',J,q⟩:=hs
  exact fin (v:=V.non) (u:=Value.none) J rfl q
 |brk =>
  obtain⟨_,_,_,q⟩:=hs
  exact False.elim q
 |cont =>
  obtain⟨_,_,_,q⟩:=hs
  exact False.elim q
end L2
namespace L2
open PySem PySem.Spec PyProof.Rows
section
variable {X:Cx} {x:Str} {p pos:Pos} {e:Expr} {es:List Expr} {t:TA} {id T:String} {r:List V->Hp->VK->Prop}
def tCB(r:List V->Hp->VK->Prop)(t:TA):TE:=λσ H Q=>t σ H λvs H1=>r vs H1 Q
theorem A7(hc:J0 X (.builtin id) r)(hg:Gl X x)(hm:X.mg x=none)(hv:bootBuiltins x=some (.builtin id))(ha:PA X (e::es) t)(hn:x≠"__name__":=by decide)(hdb:(x==("__debug__":Str))=false:=by decide)
  (he:starEach (e::es) X.env=(false,eval e X.env)::starEach es X.env:=by rfl) (hpl:(backTo pos (starEach es X.env)).any (·.1)=false:=by rfl):PE X (.Call (.Name x p) (e::es) [] pos) (tCB r t):=by
 intro pins s σ H Q I h
 refine wpAny_Call_Name_kw (Ld I hg hm hv ?_ hn hdb)
 exact PyProof.Rows.callWith_builtin1 (thn (ha pos pins s σ H _ I h) λus s1 ⟨vs,H1,I1,r1,q1⟩=>hc pins s1 σ H1 vs us Q I1 r1 q1) he hpl
theorem C0(hc:J0 X (.type T) r)(hg:Gl X x)(hm:X.mg x=none)(hv:bootBuiltins x=some (.type T))(ha:PA X (e::es) t)(hn:x≠"__name__":=by decide)(hdb:(x==("__debug__":Str))=false:=by decide)
  (he:starEach (e::es) X.env=(false,eval e X.env)::starEach es X.env:=by rfl) (hpl:(backTo pos (starEach es X.env)).any (·.1)=false:=by rfl):PE X (.Call (.Name x p) (e::es) [] pos) (tCB r t):=by
 intro pins s σ H Q I h
 refine wpAny_Call_Name_kw (Ld I hg hm hv ?_ hn hdb)
 exact eI (thn (ha pos pins s σ H _ I h) λus s1 ⟨vs,H1,I1,r1,q1⟩=>hc pins s1 σ H1 vs us Q I1 r1 q1) he hpl
end
end L2
namespace HT
open PySem PyProof.Rows
def lexLt:List Int->List Int->Bool
 |[],[]=>false
 |[],_::_=>true
 |_::_,[]=>false
 |x::xs,y::ys=>if x=y then lexLt xs ys else decide (x<y)
theorem lexLt_cons(x y:Int)(xs ys:List Int):lexLt (x::xs) (y::ys)=if x=y then lexLt xs ys else decide (x<y):=rfl
section
open PySem.SeqAt
open PySem.AutoSeq1 (wpAny_loadPart')
open PySem.MeetsSeq PySem.MeetsSeq2 PySem.MeetsSeq3
end
section
variable {prog:Program} {w:World} {A:Around} {E:Value->Shared->Prop} {s:Shared}
def sIx(n d:Nat):Option Int->Nat
 |none=>d
 |some v=>if v<0 then (v+(n:Int)).toNat else min v.toNat n
end
end HT
namespace L2
open PySem PySem.Spec PyProof.Rows
abbrev TO:=St->Hp->(Option Int->Hp->Prop)->Prop
def PO(X:Cx)(e:Option Expr)(t:TO):Prop :=
 ∀(pins:List (Addr×Obj)) (s:Shared) (σ:St) (H:Hp) (Q:Option Int->Hp->Prop),Inv X pins σ H s->t σ H Q ->
  wpAny (model X.prog X.w) X.A (evalPart e X.env) (λu s'=>∃o H',Inv X pins σ H' s'/\IsPart u o/\Q o H') X.xe s
def T6:TO:=λ_ H Q=>Q none H
def Y0(t:TE):TO:=λσ H Q=>t σ H λx H1=>∃i,x = .int i/\Q (some i) H1
theorem Nt{ns:List Int}:∀{us:List Value},Vals (ns.map V.int) us->IntsAre us ns:=by
 induction ns with
 |nil=>intro us r;rw[fZ]at r;cases r;exact .nil
 |cons n ns ih =>
  intro us r
  rw[P']at r
  cases r with
  |cons r1 r2 =>
   obtain⟨t,e⟩:=r1
   subst e
   exact .cons n t (ih r2)
section
variable {X:Cx} {e:Expr} {te:TE} {lo hi:Option Expr} {tl th:TO} {pos p2:Pos}
theorem UD:PO X none T6:=by
 intro pins s σ H Q I h
 rw[evalPart_none]
 exact wpAny_pure ⟨none,H,I,.none,h⟩
theorem Mt(h:PE X e te):PO X (some e) (Y0 te):=by
 intro pins s σ H Q I hw
 rw[evalPart_some]
 refine thn (h pins s σ H _ I hw) λu s1 ⟨x,H1,I1,r1,q1⟩=>?_
 obtain⟨i,rfl,q⟩:=q1
 obtain⟨t,rfl⟩:=r1
 exact⟨some i,H1,I1,.int i t,q⟩
def SlR(X:Cx)(r:V->Option Int->Option Int->Hp->VK->Prop):Prop :=
 ∀(pins:List (Addr×Obj)) (s:Shared) (σ:St) (H:Hp) (x:V) (v vl vu:Value) (lo hi:Option Int) (sl:Addr) (Q:VK),Inv X pins σ H s->RelV x v->s.heap.IsSliceOf sl vl vu .none->IsPart vl lo->IsPart vu hi->r x lo hi H Q ->
  ∃T id,typeLookup (.type T) "__getitem__"=pure (some (.builtin id))/\s.TypeIs v T/\wpAny (model X.prog X.w) X.A (getItem v (.ref sl)) (EP X pins σ Q) X.xe s
def tSl(r:V->Option Int->Option Int->Hp->VK->Prop)(te:TE)(tl th:TO):TE:=λσ H Q=>te σ H λx H1=>tl σ H1 λl H2=>th σ H2 λu H3=>r x l u H3 Q
theorem NU{r:V->Option Int->Option Int->Hp->VK->Prop}(hr:SlR X r)(he:PE X e te)(hl:PO X lo tl)(hu:PO X hi th):PE X (.Subscript e (.Slice lo hi none p2) pos) (tSl r te tl th):=by
 intro pins s σ H Q I h
 refine Subscript_ (thn (he pins s σ H _ I h) λv s1 ⟨x,H1,I1,r1,q1⟩=>?_)
 refine wpAny_Slice (thn (hl pins s1 σ H1 _ I1 q1) λvl s2 ⟨l,H2,I2,pl,q2⟩=>thn (hu pins s2 σ H2 _ I2 q2) λvu s3 ⟨u,H3,I3,pu,q3⟩=>?_)
 rw[evalPart_none]
 refine wpAny_pure ?_
 have I4:Inv X pins σ H3 { s3 with heap:=s3.heap.push { cls:=.type "slice",data:=.fields #[vl,vu,.none] } }:=I3.kept (t':=s3.toks) λb ob q=>Z' _ q
 obtain⟨T,id,hT,ht,hg⟩:=hr pins { s3 with heap:=s3.heap.push { cls:=.type "slice",data:=.fields #[vl,vu,.none] } } σ H3 x v vl vu l u s3.heap.objs.size Q I4 r1 (Heap.IsSliceOf.new ..) pl pu q3
 show wpAny (model X.prog X.w) X.A (subscriptTail e (.Slice lo hi none p2) v (.ref s3.heap.objs.size)) (EP X pins σ Q) X.xe { s3 with heap:=s3.heap.push { cls:=.type "slice",data:=.fields #[vl,vu,.none] } }
 exact tail_any (ops:=[.ref s3.heap.objs.size,v]) ht hT hg (by with_unfolding_all rfl)
def Ts(xs:List V)(lo hi:Option Int):List V:=(xs.drop (HT.sIx xs.length 0 lo)).take (HT.sIx xs.length xs.length hi-HT.sIx xs.length 0 lo)
theorem Sd(xs:List V)(lo hi:Option Int):(Ts xs lo hi).length<=xs.length:=by
 unfold Ts
 rw[eu,List.length_drop]
 omega
end
end L2
namespace L2
open PySem PySem.Spec PyProof.Rows
def ixN(n:Nat)(i:Int):Option Nat:=if 0<=i then (if i<n then some i.toNat else none) else if -(n:Int)<=i then some (i+n).toNat else none
def atI{α:Type}(xs:List α)(i:Int):Option α:=(ixN xs.length i).bind λj=>xs[j]?
theorem UZ{n:Nat}{i:Int}{j:Nat}(h:ixN n i=some j):seqIndex? i n=some j/\j<n/\-(n:Int)<=i/\i<n:=by
 unfold ixN at h
 by_cases h0:0<=i
 ·rw[if_pos h0]at h
  by_cases h1:i<n
  ·rw[if_pos h1]at h
   have e:i.toNat=j:=G' h
   exact⟨by rw[seqIndex_of h0 h1,e],by omega,by omega,h1⟩
  ·rw[if_neg h1]at h;cases h
 ·rw[if_neg h0]at h
  by_cases h1:-(n:Int)<=i
  ·rw[if_pos h1]at h
   have e:(i+n).toNat=j:=G' h
   exact⟨by rw[seqIndex_neg (by omega) h1,e],by omega,h1,by omega⟩
  ·rw[if_neg h1]at h;cases h
theorem NC{α:Type}{xs:List α}{i:Int}{v:α}(h:atI xs i=some v):∃j,seqIndex? i xs.length=some j/\xs[j]?=some v/\j<xs.length/\-(xs.length:Int)<=i/\i<xs.length:=by
 unfold atI at h
 cases e:ixN xs.length i with
 |none=>rw[e]at h;cases h
 |some j =>
  rw[e]at h
  obtain⟨h1,h2,h3,h4⟩:=UZ e
  exact⟨j,h1,h,h2,h3,h4⟩
theorem Sj{α:Type}(xs:List α)(v:α):atI (xs++[v]) (-1)=some v:=by
 have hl:(xs++[v]).length=xs.length+1:=by simp
 have e:ixN (xs++[v]).length (-1)=some xs.length:=by
  unfold ixN
  rw[hl,if_neg (by decide),if_pos (by omega)]
  congr 1
  omega
 unfold atI
 rw[e]
 show(xs++[v])[xs.length]?=some v
 simp
def Ys(b:Expr):Prop:=∀o i,subscripted b false o i=operate [o,i] (getItem o i)
def IxR(X:Cx)(r:R2):Prop :=
 ∀(value slice:Expr) (pins:List (Addr×Obj)) (s:Shared) (σ:St) (H:Hp) (x y:V) (v u:Value) (Q:VK),Inv X pins σ H s->RelV x v->RelV y u->r x y H Q ->
  subscripted slice false v u=operate [v,u] (getItem v u)->wpAny (model X.prog X.w) X.A (subscriptTail value slice v u) (EP X pins σ Q) X.xe s
def MtR(X:Cx)(id:String)(r:V->List V->Hp->VK->Prop):Prop :=
 ∀(pins:List (Addr×Obj)) (s:Shared) (σ:St) (H:Hp) (x:V) (xs:List V) (v:Value) (us:List Value) (Q:VK),Inv X pins σ H s->RelV x v->Vals xs us->r x xs H Q ->
  wpAny (model X.prog X.w) X.A (call (.builtin id) (v::us)) (EP X pins σ Q) X.xe s
section
variable {X:Cx} {a b:Expr} {ta tb:TE} {pos:Pos}
theorem As{r:R2}(hr:IxR X r)(ha:PE X a ta)(hb:PE X b tb)(hs:Ys b):PE X (.Subscript a b pos) (tOp r ta tb):=by
 intro pins s σ H Q I h
 exact Subscript_ (aN ha hb I h λv u s2 x y H2 I2 rx ry q=>hr a b pins s2 σ H2 x y v u Q I2 rx ry q (hs _ _))
def VI(K:PySem.W.Frag):R2:=λx y H Q=>∃p xs i v,x = .ref p/\y = .int i/\SqL K H p xs/\atI xs i=some v/\Q v H
def aw(K:PySem.W.Frag):R2:=λx y H Q=>∃p xs i v,x = .ref p/\y = .int i/\SqT K H p xs/\atI xs i=some v/\Q v H
theorem Ab:IxR X (VI X.K):=by
 intro value slice pins s σ H x y v u Q I rx ry h hs
 obtain⟨p,xs,i,z,rfl,rfl,hq,he,q⟩:=h
 cases rx
 obtain⟨t,rfl⟩:=ry
 obtain⟨its,r,pl,hz⟩:=I.list hq
 obtain⟨j,h1,h2,h3,h4,h5⟩:=NC he
 obtain⟨w,ew,rw'⟩:=r.get h2
 have hl:=r.length
 have hn:=Qk
 have fin:EP X pins σ Q w s:=⟨z,H,I,rw',q⟩
 by_cases h0:0<=i
 ·have hj:i.toNat=j:=by
   rw[seqIndex_of h0 h5]at h1
   exact G' h1
  exact item_listR pl.isList h0 (by omega) (by rw[hj];simpa using ew) fin hs
 ·have hj:(i+(its.toArray.size:Int)).toNat=j:=by
   rw[seqIndex_neg (by omega) h4]at h1
   rw[dB,<- hl]
   exact G' h1
  exact subscriptTail_builtinR (x:=w) pl.isList.typeIs slot_list_getitem.lookup
   (wpAny_getItem_list_neg (Q:=λr s'=>r=w/\EP X pins σ Q r s') pl.isList (by omega) (by rw[dB]<;>omega) (by omega) (by rw[hj];simpa using ew) ⟨rfl,fin⟩) hs
theorem G7:IxR X (aw X.K):=by
 intro value slice pins s σ H x y v u Q I rx ry h hs
 obtain⟨p,xs,i,z,rfl,rfl,hq,he,q⟩:=h
 cases rx
 obtain⟨t,rfl⟩:=ry
 obtain⟨its,r,pl,hz⟩:=I.tuple hq
 obtain⟨j,h1,h2,h3,h4,h5⟩:=NC he
 obtain⟨w,ew,rw'⟩:=r.get h2
 have hl:=r.length
 have hn:=Qk
 have fin:EP X pins σ Q w s:=⟨z,H,I,rw',q⟩
 exact subscriptTail_builtinR (x:=w) pl.typeIs slot_tuple_getitem.lookup
  (getItem_tuple (j:=j) (Q:=λr s'=>r=w/\EP X pins σ Q r s') pl (by omega) (by omega) (by rw[dB,<- hl];exact h1) (by simpa using ew) ⟨rfl,fin⟩) hs
theorem Ta(its:List Value)(n j:Nat)(u:Value):Obj.mapSeq (·.setIfInBounds j u) { cls:=.type "list",data:=.seq its.toArray n }={ cls:=.type "list",data:=.seq (its.set j u).toArray n }:=by
 simp[Obj.mapSeq]
theorem Inv.lst{pins:List (Addr×Obj)}{σ:St}{H:Hp}{s:Shared}{p:Addr}{xs:List V}(I:Inv X pins σ H s)(h:H p=some (.lst xs)) :
  ∃(its:List Value) (n:Nat),Vals xs its/\s.heap.get? p=some { cls:=.type "list",data:=.seq its.toArray n }/\xs.length<=sizeLine:=by
 obtain⟨z,its,n,r,e⟩:=I.hok p _ h
 exact⟨its,n,r,e,z⟩
theorem Inv.lstUpd{pins:List (Addr×Obj)}{σ:St}{H:Hp}{s:Shared}{p:Addr}{xs ys:List V}{its its':List Value}{n n':Nat}{f:Obj->Obj}(I:Inv X pins σ H s)(h:H p=some (.lst xs))
  (ho:s.heap.get? p=some { cls:=.type "list",data:=.seq its.toArray n }) (hf:f { cls:=.type "list",data:=.seq its.toArray n }={ cls:=.type "list",data:=.seq its'.toArray n' }) (r:Vals ys its') (hz:ys.length<=sizeLine) (t:Nat) :
  Inv X pins σ (upd H p (.lst ys)) { s with heap:=s.heap.update p f,toks:=t }:=by
 have e:(s.heap.update p f).get? p=some { cls:=.type "list",data:=.seq its'.toArray n' }:=by
  rw[dG f ho (by rw[hf]<;>rfl),hf]
 refine I.write (x:=p) (e:=p) (by rw[h];trivial) (.inl rfl) (λb u hb q=>(fE _ _ (Ne.symm hb)).trans q) ⟨_,e⟩ ?_
 exact⟨hz,its',n',r,e⟩
def WQ:V->V->V->Hp->(Hp->Prop)->Prop:=λo i v H Q=>∃p xs k j,o = .ref p/\i = .int k/\H p=some (.lst xs)/\ixN xs.length k=some j/\Q (upd H p (.lst (xs.set j v)))
theorem Kh:aU X WQ:=by
 intro pins s σ H o i v ov iv u Q I ro ri rv h
 obtain⟨p,xs,k,j,rfl,rfl,hp,hj,q⟩:=h
 cases ro
 obtain⟨t,rfl⟩:=ri
 obtain⟨its,n,r,ho,hz⟩:=I.lst hp
 obtain⟨h1,h2,h3,h4⟩:=UZ hj
 have hl:=r.length
 have hn:=Qk
 have I':Inv X pins σ (upd H p (.lst (xs.set j v))) { s with heap:=s.heap.update p (Obj.mapSeq (·.setIfInBounds j u)) } :=
  I.lstUpd hp ho (Ta its n j u) (r.set rv j) (by rw[cV];exact hz) s.toks
 by_cases h0:0<=k
 ·have hk:k.toNat=j:=by
   rw[seqIndex_of h0 h4]at h1
   exact G' h1
  exact PySem.W.ki_setAt ho h0 (by omega) (by rw[dB,<- hl];exact h4) (by rw[hk];exact⟨_,I',q⟩)
 ·have hk:(k+(its.toArray.size:Int)).toNat=j:=by
   rw[seqIndex_neg (by omega) h3]at h1
   rw[dB,<- hl]
   exact G' h1
  exact PySem.W.ki_setBack ho (by omega) (by rw[dB,<- hl];exact h3) (by omega) (by rw[hk];exact⟨_,I',q⟩)
theorem QC(lo hi:Option Int)(n:Nat):(sliceBounds lo hi none n).1=((HT.sIx n 0 lo:Nat):Int)/\(sliceBounds lo hi none n).2.1=((HT.sIx n n hi:Nat):Int)/\(sliceBounds lo hi none n).2.2=1:=by
 refine⟨?_,?_,rfl⟩
 ·cases lo with
  |none=>simp[sliceBounds,HT.sIx]
  |some i =>
   simp only[sliceBounds,HT.sIx,Option.getD_none,show(1:Int)>0 by decide,if_true]
   by_cases h:i<0
   ·simp only[h,if_true]<;>omega
   ·simp only[h,if_false]<;>omega
 ·cases hi with
  |none=>simp[sliceBounds,HT.sIx]
  |some i =>
   simp only[sliceBounds,HT.sIx,Option.getD_none,show(1:Int)>0 by decide,if_true]
   by_cases h:i<0
   ·simp only[h,if_true]<;>omega
   ·simp only[h,if_false]<;>omega
theorem OM(its:List Value)(lo hi:Option Int):slicePick its.toArray lo hi none=((its.drop (HT.sIx its.length 0 lo)).take (HT.sIx its.length its.length hi-HT.sIx its.length 0 lo)).toArray:=by
 obtain⟨h1,h2,h3⟩:=QC lo hi its.toArray.size
 unfold slicePick
 rw[h1,h2,h3]
 simp only[sliceRange_one,pick_run,List.size_toArray]<;>rfl
def au(K:PySem.W.Frag):V->Option Int->Option Int->Hp->VK->Prop:=λx lo hi H Q=>∃a xs,x = .ref a/\SqL K H a xs/\∀p,H p=none->Q (.ref p) (upd H p (.lst (Ts xs lo hi)))
theorem QD:SlR X (au X.K):=by
 intro pins s σ H x v vl vu lo hi sl Q I rx hs pl pu h
 obtain⟨a,xs,rfl,hx,q⟩:=h
 cases rx
 obtain⟨its,r,ht,hz⟩:=I.list hx
 have hlen:=r.length
 refine⟨"list",_,slot_list_getitem.lookup,ht.isList.typeIs,?_⟩
 refine wpAny_getItem_list_slice ht.isList hs pl pu .none (by simp) ?_ (by rw[dB]<;>omega)
 rw[OM,<- hlen]
 refine⟨.ref s.heap.objs.size,_,I.laid (t':=s.toks) (o:=.lst (Ts xs lo hi)) (λb ob q=>Z' _ q) (W' _) ?_,rfl,q _ (I.hok.fresh (W' _))⟩
 exact⟨cm (Sd xs lo hi) hz,_,0,(r.drop (HT.sIx xs.length 0 lo)).take (HT.sIx xs.length xs.length hi-HT.sIx xs.length 0 lo),cX _ rfl⟩
theorem Cw:J0 X (.type "list") (λxs H Q=>∃p ys,xs=[.ref p]/\(SqL X.K H p ys\/SqT X.K H p ys)/\∀l,H l=none->Q (.ref l) (upd H l (.lst ys))):=by
 intro pins s σ H xs us Q I r h
 obtain⟨p,ys,rfl,hq,q⟩:=h
 obtain⟨u,rfl,rx⟩:=L5 r
 cases rx
 have fin:∀(its:List Value),Vals ys its->ys.length<=sizeLine->∀(h':Heap) (c':Nat),(∀b o',s.heap.get? b=some o'->h'.get? b=some o') ->
   h'.get? s.heap.objs.size=some { cls:=.type "list",dict:=none,data:=.seq its.toArray c',slots:=#[] }->EP X pins σ Q (.ref s.heap.objs.size) { s with heap:=h' }:=λits r' hz h' c' kp e =>
  ⟨.ref s.heap.objs.size,_,I.laid (t':=s.toks) kp (W' _) (show ObjOk X.prog X.w _ h' _ (.lst ys) from⟨hz,its,c',r',e⟩),rfl,q _ (I.hok.fresh (W' _))⟩
 rcases hq with hq|hq
 ·obtain⟨its,r',pl,hz⟩:=I.list hq
  have hlen:=r'.length
  obtain⟨o,ho,hc,n,hd⟩:=pl.isList
  exact call_list_seq p (.inl rfl) ho hc hd (λh' c' kp e=>fin its r' hz h' c' kp e) (by simp only[List.size_toArray]<;>omega)
 ·obtain⟨its,r',pl,hz⟩:=I.tuple hq
  have hlen:=r'.length
  obtain⟨o,ho,hc,n,hd⟩:=pl
  exact call_list_seq p (.inr rfl) ho hc hd (λh' c' kp e=>fin its r' hz h' c' kp e) (by simp only[List.size_toArray]<;>omega)
def tyV(K:PySem.W.Frag)(T:String)(x:V)(H:Hp):Prop:=match x with
 |.str _=>T="str"
 |.int _=>T="int"
 |.ref p=>(T="list"/\∃xs,SqL K H p xs)\/(T="tuple"/\∃o,K.lookup p=some o/\o.cls = .type "tuple"/\o.dict=none) \/
   (T="dict"/\((∃kvs,H p=some (.dK kvs))\/∃kvs,H p=some (.dT kvs)))\/(T="set"/\∃S n,H p=some (.set S n))
 |_=>False
theorem ZS{pins:List (Addr×Obj)}{σ:St}{H:Hp}{s:Shared}{T:String}{x:V}{v:Value}(I:Inv X pins σ H s)(r:RelV x v)(ty:tyV X.K T x H) :
  s.TypeIs v T/\∀a,v = .ref a->∃ob,s.heap.get? a=some ob/\ob.dict=none:=by
 cases x with
 |str z =>
  obtain⟨t,rfl⟩:=r
  cases (show T="str" from ty)
  exact⟨typeIs_str s z t,λ_ e=>nomatch e⟩
 |int i =>
  obtain⟨t,rfl⟩:=r
  cases (show T="int" from ty)
  exact⟨typeIs_int s i t,λ_ e=>nomatch e⟩
 |ref p =>
  cases r
  rcases ty with ⟨rfl,xs,hq⟩|⟨rfl,o,hk,hc,hd⟩|⟨rfl,hk⟩|⟨rfl,S,n,hk⟩
  ·obtain⟨its,_,pl,_⟩:=I.list hq
   refine⟨pl.isList.typeIs,λa e=>?_⟩
   cases e
   obtain⟨o,n,e,c,hd,_⟩:=pl
   exact⟨o,e,hd⟩
  ·refine⟨⟨o,I.kIn p o hk,hc⟩,λa e=>?_⟩
   cases e
   exact⟨o,I.kIn _ o hk,hd⟩
  ·have z:∃o,s.heap.get? p=some o/\o.ExactDict:=by
    rcases hk with ⟨kvs,hk⟩|⟨kvs,hk⟩
    ·obtain⟨_,_,_,_,o,_,_,e,ex,_⟩:=I.hok p _ hk
     exact⟨o,e,ex⟩
    ·obtain⟨_,_,_,_,o,_,_,e,ex,_⟩:=I.hok p _ hk
     exact⟨o,e,ex⟩
   obtain⟨o,e,ex⟩:=z
   refine⟨⟨o,e,ex.1⟩,λa e2=>?_⟩
   cases e2
   exact⟨o,e,ex.2.1⟩
  ·obtain⟨o,_,_,_,e,ex,_⟩:=I.hok p _ hk
   refine⟨⟨o,e,ex.1⟩,λa e2=>?_⟩
   cases e2
   exact⟨o,e,ex.2.1⟩
 |_=>exact False.elim ty
def tBM(K:PySem.W.Frag)(T:String)(r:V->List V->Hp->VK->Prop)(to:TE)(t:TA):TE:=λσ H Q=>to σ H λx H1=>tyV K T x H1/\t σ H1 λxs H2=>r x xs H2 Q
variable {o e:Expr} {es:List Expr} {to:TE} {t:TA} {name:Str} {apos cpos:Pos} {T id:String} {r:V->List V->Hp->VK->Prop}
theorem Rk(pa:PlainAttrs T)(slot:Slot T name id)(hty:typeOf (.builtin id)=pure (.type "method_descriptor"))(hm:MtR X id r)(ho:PE X o to)(ha:PA X (e::es) t)
  (hbase:attributeBase o name X.env (eval o X.env)=eval o X.env:=by rfl)
  (hfew : ((backTo cpos (starEach (e :: es) X.env)).all (λx => !x.1) && (backToKw cpos (keywordEach [] X.env)).all (λx => x.1.isSome)
   && decide ((e::es).length+([]:List Keyword).length+(if ([]:List Keyword).isEmpty then 0 else 1)<30))=true:=by rfl)
  (hline:(apos.endLine==cpos.line)=true:=by rfl) (hs:starEach (e::es) X.env=(false,eval e X.env)::starEach es X.env:=by rfl) (hplain:(backTo cpos (starEach es X.env)).any (·.1)=false:=by rfl) :
  PE X (.Call (.Attribute o name apos) (e::es) [] cpos) (tBM X.K T r to t):=by
 intro pins s σ H Q I h
 refine wpAny_Call_method_late hbase hfew hline rfl (thn (ho pins s σ H _ I h) λv s1 ⟨x,H1,I1,r1,ty,q1⟩=>?_)
 obtain⟨h1,h2⟩:=ZS I1 r1 ty
 refine⟨T,id,pa,slot,hty,h1,h2,?_⟩
 have hA:=ha cpos pins s1 σ H1 _ I1 q1
 rw[hs]at hA ⊢
 refine Calls.callWith_builtin (by show(false||(backTo cpos (starEach es X.env)).any (·.1))=false;rw[hplain]<;>rfl) (Calls.evalArgs_plain ?_)
 exact thn hA λus s2 ⟨vs,H2,I2,r2,q2⟩=>hm pins s2 σ H2 x vs v us Q I2 r1 r2 q2
end
end L2
namespace L2
open PySem PySem.Spec PyProof.Rows
def MtM(X:Cx)(id:String)(r:V->List V->Hp->VK->Prop):Prop :=
 ∀(pins:List (Addr×Obj)) (s:Shared) (σ:St) (H:Hp) (x:V) (xs:List V) (v:Value) (us:List Value) (Q:VK),Inv X pins σ H s->RelV x v->Vals xs us->r x xs H Q ->
  wpAny (model X.prog X.w) X.A (call (.builtin id) (v::us)) (EP X pins σ Q) X.xe s
theorem Vals.one:∀{x:V} {us:List Value},Vals [x] us->∃u,us=[u]/\RelV x u
 |_,_,.cons r .nil=>⟨_,rfl,r⟩
section
variable {X:Cx} {pins:List (Addr×Obj)} {σ:St} {H:Hp} {s:Shared} {l b:Addr} {xs ys zs:List V}
theorem Inv.lset{its its':List Value}{n:Nat}{f:Array Value->Array Value}{t':Nat}(I:Inv X pins σ H s)(hH:H l=some (.lst xs))
  (e:s.heap.get? l=some { cls:=.type "list",data:=.seq its.toArray n }) (hf:f its.toArray=its'.toArray) (hv:Vals ys its') (hz:ys.length<=sizeLine) :
  Inv X pins σ (upd H l (.lst ys)) { s with heap:=s.heap.update l (Obj.mapSeq f),toks:=t' }:=by
 have q:=PySem.IsL.update e f
 rw[hf]at q
 refine I.write (x:=l) (e:=l) (by rw[hH];exact trivial) (.inl rfl) (λb' u hb hu=>(fE s.heap (Obj.mapSeq f) (Ne.symm hb)).trans hu) ⟨_,q⟩ ?_
 exact⟨hz,its',_,hv,q⟩
theorem Inv.lstM(I:Inv X pins σ H s)(hH:H l=some (.lst xs)):xs.length<=sizeLine/\∃(its:List Value) (n:Nat),Vals xs its/\xs.length=its.length/\s.heap.get? l=some { cls:=.type "list",data:=.seq its.toArray n }:=by
 obtain⟨z,its,n,r,e⟩:=I.hok l _ hH
 exact⟨z,its,n,r,r.length,e⟩
theorem Wd{n:Nat}(h:n<=sizeLine):Builtin.List.listTooLong n=false:=by
 unfold Builtin.List.listTooLong
 exact decide_eq_false (by omega)
end
section
variable {X:Cx}
def Kl:V->List V->Hp->VK->Prop:=λx vs H Q=>∃l xs y,x = .ref l/\vs=[y]/\H l=some (.lst xs)/\xs.length<sizeLine/\Q .non (upd H l (.lst (xs++[y])))
theorem HZ:MtM X "list.append" Kl:=by
 intro pins s σ H x vs v us Q I rx rv h
 obtain⟨l,xs,y,rfl,rfl,hH,hz,q⟩:=h
 cases rx
 obtain⟨u,rfl,ru⟩:=rv.one
 obtain⟨z,its,n,r,hl,e⟩:=I.lstM hH
 refine call_meets F.slot_list_append ⟨_,e,rfl⟩ F.entry_list_append (F.args_list_append_2 _ _) (PySem.list_append l its.toArray n u (by rw[dB];omega)) ⟨e,?_⟩
 refine⟨.non,_,I.lset (its':=its++[u]) hH e (by simp) (r.append (.cons ru .nil)) ?_,rfl,q⟩
 rw[cT,dH]
 omega
def UB:V->List V->Hp->VK->Prop:=λx vs H Q=>∃l b xs zs,x = .ref l/\vs=[.ref b]/\H l=some (.lst xs)/\H b=some (.lst zs)/\xs.length+zs.length<=sizeLine/\Q .non (upd H l (.lst (xs++zs)))
theorem VW:MtM X "list.extend" UB:=by
 intro pins s σ H x vs v us Q I rx rv h
 obtain⟨l,b,xs,zs,rfl,rfl,hH,hB,hz,q⟩:=h
 cases rx
 obtain⟨u,rfl,ru⟩:=rv.one
 cases ru
 obtain⟨z,its,n,r,hl,e⟩:=I.lstM hH
 obtain⟨z2,its2,n2,r2,hl2,e2⟩:=I.lstM hB
 have hsz:its.toArray.size+its2.toArray.size<=sizeLine:=by rw[dB,dB];omega
 have hlong:¬(!its.toArray.isEmpty&&Builtin.List.listTooLong (its.toArray.size+its2.toArray.size))=true:=by
  rw[Wd hsz,Bool.and_false]
  exact ck
 refine call_meets F.slot_list_extend ⟨_,e,rfl⟩ F.entry_list_extend (F.args_list_extend_2 _ _)
  (AutoSeq1.list_extend_list_list_0 l its.toArray n b its2.toArray n2 hlong (by rw[dB];omega) (by omega)) ⟨e,e2,?_⟩
 refine⟨.non,_,I.lset (its':=its++its2) hH e (by simp) (r.append r2) ?_,rfl,q⟩
 rw[cT]
 omega
end
section
variable {prog:Program} {w:World} {A:Around} {E:Value->Shared->Prop} {s:Shared}
end
section
variable {X:Cx}
end
end L2
namespace Att
open PySem PySem.W PySem.Calls PyProof.Rows
theorem Md{P:Params}{h:Heap}:∀(ns:List Int) (vs:List Value),WellAll P h vs (ns.map WData.int)->IntsAre vs ns:=by
 intro ns
 induction ns with
 |nil =>
  intro vs w
  rw[fZ]at w
  cases w
  exact .nil
 |cons n ns ih =>
  intro vs w
  rw[P']at w
  cases w with
  |cons a b =>
   cases a
   exact .cons _ _ (ih _ b)
theorem VG{l:OpenLaw}{n:Nat}(hn:l.most=some n){P:Params}{h:Heap}{args:List WData}{vals:List Value}
  (hpre:l.row.toRowW.claim.pre args=true) (hwl:WellAll P h vals args) :
  ∃a vs ns,vals=[Value.ref a]/\args=[WData.list (ns.map WData.int)]/\h.get? a=some { cls:=.type "list",data:=.seq vs.toArray }/\IntsAre vs ns/\ns.length<=n:=by
 have hsh:WShape.hasAll [] args [.list .int]=true:=(pre_splitW hpre).1
 have hc:l.pre.holds [] { args:=args }=true:=(pre_splitW hpre).2
 obtain⟨d,r,rfl,h1,h2⟩:=hasAllW_cons hsh
 obtain rfl:=hasAllW_nil h2
 obtain⟨xs,rfl,h3⟩:=hasW_list h1
 obtain⟨ns,rfl⟩:=items_int h3
 have hlen:ns.length<=n:=by
  unfold OpenLaw.pre at hc
  have h4:(WTm.not (.lt (.lit (.int (n:Int))) (.len (.arg 0)))).holds [] { args:=[.list (ns.map .int)] }=true:=by
   have h4:=(holds_andW hc).1
   rw[hn]at h4
   exact h4
  have h5:=condW_of h4 (w_not (w_lt w_lit (w_len_list (w_arg rfl))))
  rw[B']at h5
  refine Nat.le_of_not_lt λq=>?_
  have q':(n:Int)<((ns.length:Nat):Int):=by omega
  first
   |(rw[decide_eq_true q']at h5;exact absurd h5 (by decide))
   |(simp at h5;omega)
 cases hwl with
 |cons w1 w2 =>
  cases w2
  cases w1 with
  |list ho hall=>exact⟨_,_,ns,rfl,rfl,ho,Md ns _ hall,hlen⟩
theorem VN(l:OpenLaw)(args:List WData):l.row.toRowW.claim.post args (.bool true) args=true :=
 postW_of (r:=l.row.toRowW) (X:=(true==true))
  (show WShape.has [] (.bool true) .bool=true by first|rfl|decide|simp[WShape.has,WShape.arms,WShape.armsAll])
  (show(WTm.eq .res (.lit (.bool true))).value [] { args:=args,res:=some (.bool true),after:=args }=some (.bool (true==true)) from w_eq_bool (w_res rfl) w_lit) rfl
theorem attach_call{l:OpenLaw}{n:Nat}{q:Program}{loose:List Str}{XP:(Str->Option Value)->Heap->Prop}{YP:World->Heap->Prop}{d:DefRec}
  (hn:l.most=some n) (hdf:d.params.defaults=[])
  (call : ∀ (w : World) (s₀ s₁ : Shared) (mg mb : Str -> Option Value) (fa : Addr) (o : Obj) (pm cd doc : Value) (a : Addr) (vs : List Value) (ns : List Int),
   Ground q loose [] XP w s₀ mg mb s₁.heap->YP w s₁.heap ->
   s₁.heap.get? fa=some o->o.data = .func (docDef d.name d.params d.body d.scope pm cd doc)->s₁.heap.CodeRec cd d.name->mg d.name=some (.ref fa) ->
   s₁.heap.get? a=some { cls:=.type "list",data:=.seq vs.toArray }->IntsAre vs ns->ns.length<=n->s₁.gens=#[] ->
   codeAny (model l.prog w) callerA (.call (.ref fa) ⟨[.ref a],[]⟩) (λr s'=>r = .ok (.ret (.bool true))/\OldK s₁.heap s'.heap/\s'.os=s₁.os/\AllBare s'.gens) s₁) :
  WalkO q loose XP YP l.row.toRowW d [] (λf vs=>PySem.call f vs):=by
 intro w s₀ s₁ mg mb G Y fa o pm cd doc dV kV ho hd hcd hD hmg hg args vals as hpre hlay hrd hwl hlo
 obtain rfl:dV = .none:=Dflts.none hD hdf
 obtain rfl:kV = .none:=Dflts.noKw hD
 obtain⟨a,vs,ns,rfl,rfl,hobj,hints,hlen⟩:=VG hn hpre hwl
 refine enter_call (codeAny_mono (call w s₀ s₁ mg mb fa o pm cd doc a vs ns G Y ho (fd_plain hd) hcd hmg hobj hints hlen hg) λr s' hq=>?_)
 obtain⟨rfl,h2,h3,h4⟩:=hq
 exact⟨.inl ⟨.bool true,.bool true,[],rfl,λ_=>rfl,.bool true,VN l _,λ_=>⟨List.Pairwise.nil,λ_ hm=>(nomatch hm)⟩⟩,h2,h3,h4⟩
section
variable {prog:Program} {w:World} {A:Around} {E:Value->Shared->Prop} {s:Shared} {K:Frag}
end
end Att
namespace L2
open PySem PySem.Spec PyProof.Rows
theorem O5:∀{vs:List Value} {ns:List Int},IntsAre vs ns->Vals (ns.map V.int) vs
 |_,_,.nil=>.nil
 |_,_,.cons n t h=>.cons ⟨t,rfl⟩ (O5 h)
def aV(H:Hp):Prop:=∀b,H b=none\/∃o xs,H b=some (.frz o (.lst xs))
theorem Wq{P:Program}{w:World}{K:PySem.W.Frag}{mg mb:Str->Option Value}{CX:CXT}{k:Nat}{fa a:Addr}{fd:FuncData}{x:Str}{sp:Sp}{s₁:Shared}{vs:List Value}{ns:List Int}
  (KX:K.In s₁.heap) (hns:s₁.heap.Ns mainGlobals mg) (hb:s₁.heap.Ns builtinsNs mb) (hbb:∀x:Str,x≠"__name__"->mb x=bootBuiltins x) (hlim:s₁.heap.NoLimit) (hg:s₁.gens=#[])
  (ha:s₁.heap.get? a=some { cls:=.type "list",data:=.seq vs.toArray }) (hi:IntsAre vs ns) (hl:ns.length<=sizeLine) (hr:Room k callerA)
  (F:∀base:Heap,K.In base->base.Ns mainGlobals mg->FnOk P w K mg base CX k fa fd [x] sp) (hbind:∀(s:Shared) (u:Value),BindsTo s fd ⟨[u],[]⟩ [(x,u)])
  (hsp:∀H:Hp,aV H->SqL K H a (ns.map V.int)->sp [.ref a] H (λv _=>v = .bl true) λ_ _ _=>False)
  (hCX:∀H e s',CX [] H s₁ (λ_ _ _=>False) e s'->False) :
  codeAny (model P w) callerA (.call (.ref fa) ⟨[.ref a],[]⟩) (λr s'=>r = .ok (.ret (.bool true))/\OldK s₁.heap s'.heap/\s'.os=s₁.os/\AllBare s'.gens) s₁:=by
 have rv:=O5 hi
 have lenV:=hi.length
 -- from an abstract heap in which nothing but the script may be tracked
 have core:∀H:Hp,aV H->SqL K H a (ns.map V.int)->HOk P w H s₁.heap->(∀b,H b≠none->b=a)->(H a≠none->K.lookup a=none) ->
   codeAny (model P w) callerA (.call (.ref fa) ⟨[.ref a],[]⟩) (λr s'=>r = .ok (.ret (.bool true))/\OldK s₁.heap s'.heap/\s'.os=s₁.os/\AllBare s'.gens) s₁:=by
  intro H hO hS hok hA hK
  have base_of:∀{b:Addr} {o:Obj},s₁.heap.get? b=some o->H b=none->(Q5 s₁.heap H).get? b=some o:=λe n=>W2 e n
  have noA:∀{b:Addr} {o:Obj} {es:Array DictEntry} {ep:Nat},s₁.heap.get? b=some o->o.data = .dict es ep->H b=none:=λ{b o es ep} e d=>by
   cases q:H b with
   |none=>rfl
   |some u =>
    have e':b=a:=hA b (by rw[q];simp)
    subst e'
    rw[ha]at e;cases e
    have d':Data.seq vs.toArray _=Data.dict es ep:=d
    cases d'
  have nsK:∀{b:Addr} {m:Str->Option Value},s₁.heap.Ns b m->(Q5 s₁.heap H).Ns b m:=λ{b m} ⟨o,es,ep,e,d,r⟩=>⟨o,es,ep,base_of e (noA e d),d,r⟩
  have hKb : K.In (Q5 s₁.heap H) := λb o e => base_of (KX b o e) (by
   cases q:H b with
   |none=>rfl
   |some u =>
    have e':b=a:=hA b (by rw[q];simp)
    subst e'
    rw[hK (by rw[q];simp)]at e;cases e)
  have hM:Mod K mg (Q5 s₁.heap H):=⟨hKb,nsK hns,⟨mb,nsK hb,hbb⟩,let ⟨mc,h1,h2⟩:=hlim;⟨mc,nsK h1,h2⟩⟩
  have e0:Env0 P w K mg (Q5 s₁.heap H) callerA [] s₁ H:=⟨rfl,hM,λb o e=>YD e,Nat.le_of_eq (Vf _ _),trivial,λb hb=>absurd (show b∈([]:List Addr) from hb) (by simp),hok,.of_eq hg⟩
  refine codeAny_mono ((F _ hKb (nsK hns)).run callerA [] s₁ H ⟨[.ref a],[]⟩ [.ref a] [.ref a] _ _ hr e0 (hbind s₁ (.ref a)) (.cons rfl .nil) (hsp H hO hS)) λr s' h=>?_
  cases r with
  |error e=>exact(hCX H e s' h).elim
  |ok fl =>
   cases fl with
   |next=>exact False.elim h
   |brk=>exact False.elim h
   |cont=>exact False.elim h
   |ret u =>
    obtain⟨v,H',os,bare,un,hok',r',q⟩:=h
    have q':v = .bl true:=q
    subst q'
    obtain rfl:u=Value.bool true:=r'
    refine⟨rfl,OldK.of_keep λb o e=>?_,os,bare⟩
    cases q:H b with
    |none=>exact un.keep b o e q (by intro z;exact absurd (show b∈([]:List Addr) from z) (by simp)) (by simp)
    |some u =>
     rcases hO b with z|⟨ob,xs,z⟩
     ·rw[q]at z;cases z
     ·have z2:=un.frzs b ob _ z
      obtain⟨e1,_⟩:=hok b _ z
      obtain⟨e2,_⟩:=hok' b _ z2
      rw[e]at e1;cases e1
      exact e2
 cases hk:K.lookup a with
 |some o =>
  -- the script is one of the module's own objects
  have e:=KX a o hk
  rw[ha]at e
  cases e
  refine core (λ_=>none) (λ_=>.inl rfl) (.inr ⟨_,vs.toArray,_,hk,rfl,rfl,rfl,by rw[dB,lenV];exact hl,by simpa using rv⟩) (λb u z=>by have z':(none:Option HO)=some u:=z;cases z') (λb z=>absurd rfl z) λz=>absurd rfl z
 |none =>
  refine core (λb=>if b=a then some (.frz { cls:=.type "list",data:=.seq vs.toArray } (.lst (ns.map V.int))) else none) (λb=>?_) (.inl (.inr ⟨{ cls:=.type "list",data:=.seq vs.toArray },if_pos rfl⟩)) (λb u z=>?_) (λb z=>?_) λ_=>hk
  ·by_cases hb:b=a
   ·exact .inr ⟨_,_,if_pos hb⟩
   ·exact .inl (if_neg hb)
  ·by_cases hb:b=a
   ·have z':=(if_pos hb).symm.trans z
    cases z'
    subst hb
    exact⟨ha,by rw[B'];exact hl,vs,_,rv,ha⟩
   ·have z':=(if_neg hb).symm.trans z
    cases z'
  ·by_cases hb:b=a
   ·exact hb
   ·exact absurd (if_neg hb) z
end L2
namespace L2
open PySem PySem.Spec PyProof.Rows
theorem walk_of{l:PySem.W.OpenLaw}{n k:Nat}{q:Program}{loose:List Str}{XP:(Str->Option Value)->Heap->Prop}{YP:World->Heap->Prop}{d:DefRec}{K:Params->PySem.W.Frag}{CX:World->CXT}{sp:World->Sp}{x:Str}
  (hn:l.most=some n) (hn2:n<=sizeLine) (hdf:d.params.defaults=[]) (hr:Room k callerA)
  (hY:∀(w:World) (h:Heap),YP w h->(K w.params).In h)
  (F : ∀ (w : World) (mg : Str -> Option Value) (fa : Addr) (h : Heap), (K w.params).In h -> h.Ns mainGlobals mg -> mg d.name = some (.ref fa) ->
   ∃fd:FuncData,(∀(s:Shared) (u:Value),BindsTo s fd ⟨[u],[]⟩ [(x,u)]) /\
    ∀base:Heap,(K w.params).In base->base.Ns mainGlobals mg->FnOk l.prog w (K w.params) mg base (CX w) k fa fd [x] (sp w))
  (hsp:∀(w:World) (H:Hp) (a:Addr) (ns:List Int),ns.length<=n->aV H->SqL (K w.params) H a (ns.map V.int)->sp w [.ref a] H (λv _=>v = .bl true) λ_ _ _=>False)
  (hCX:∀(w:World) (H:Hp) (s:Shared) (e:Value) (s':Shared),CX w [] H s (λ_ _ _=>False) e s'->False) :
  PySem.W.WalkO q loose XP YP l.row.toRowW d [] (λf vs=>PySem.call f vs):=by
 refine Att.attach_call hn hdf λw s₀ s₁ mg mb fa o pm cd doc a vs ns G Y ho hd hcd hmg hobj hints hlen hg=>?_
 have KX:=hY w _ Y
 obtain⟨fd,hb,hF⟩:=F w mg fa _ KX G.T.g hmg
 exact Wq KX G.T.g G.T.b G.T.builtins G.T.nolimit hg hobj hints (cm hlen hn2) hr hF hb (λH hO hS=>hsp w H a ns hlen hO hS) λH e s'=>hCX w H s₁ e s'
end L2
namespace L2
open PySem PySem.Spec PyProof.Rows
def ES(s:Stmt):Arguments:=match s with
 |.FunctionDef _ a _ _ _ _ _ _ _ _=>a
 |_=>{ posonlyargs:=[],args:=[],vararg:=none,kwonlyargs:=[],kw_defaults:=[],kwarg:=none,defaults:=[] }
def Dw(s:Stmt):List Stmt:=match s with
 |.FunctionDef _ _ b _ _ _ _ _ _ _=>b
 |_=>[]
def AM(s:Stmt):Scope:=match s with
 |.FunctionDef _ _ _ _ _ _ sc _ _ _=>sc
 |_=>{ kind:=.function,names:=[],isGenerator:=false,isCoroutine:=false }
abbrev CX0:CXT:=λ_ _ _ _ _ _=>False
abbrev E0:XK:=λ_ _ _=>False
theorem UI{X:Cx}:KZ CX0 X E0:=λ_ _ _ _ _ _ _ h=>h.elim
structure Fun(K:PySem.W.Frag)(x qual:Str)(st:Stmt)(f:Addr)(fd:FuncData):Prop where
 ex:∃(oc:Value) (od:Option Addr) (kV doc pm:Value) (an:Option Addr) (cdv ct:Value) (osl:Array (Option Value)),
  fd=PySem.W.fnOf x qual (ES st) (Dw st) (AM st) .none kV doc pm an cdv ct/\K.lookup f=some ⟨oc,od,.func fd,osl⟩/\PySem.W.codeIn K cdv qual=true
 kp:PySem.W.keepIn K (.ref f)=true
section
variable {P:Program} {w:World} {K:PySem.W.Frag} {mg:Str->Option Value} {base:Heap}
theorem Fun.ok{x qual:Str}{st:Stmt}{f:Addr}{fd:FuncData}{N ps:List Str}{k:Nat}{sp:Sp}(F:Fun K x qual st f fd)(S:Ax N ps (AM st))(len:∀vs H Q E,sp vs H Q E->vs.length=ps.length)
  (hbody : ∀ (cdv : Value) (A : Around) (outer : List Env) (s : Shared) (H : Hp) (vs : List V) (Q : VK) (E : XK), Room k (A.deeper (envOfC qual (AM st) s.heap.objs.size f cdv)) -> sp vs H Q E ->
   ∃t,PSs (Vx CX0 P w K mg base N qual (AM st) f cdv A outer s H E).nox (Dw st) t/\t { nx:=λ_ H'=>Q .non H',rt:=Q } (start N vs) H):FnOk P w K mg base CX0 (k+1) f fd ps sp:=by
 obtain⟨oc,od,kV,doc,pm,an,cdv,ct,osl,rfl,lk,hcd⟩:=F.ex
 refine bU lk hcd S len λA outer s H vs Q E hr hsp=>?_
 obtain⟨t,h,q⟩:=hbody cdv A outer s H vs Q E hr hsp
 exact⟨t,h.nox,q⟩
theorem Fun.binds{x qual:Str}{st:Stmt}{f:Addr}{fd:FuncData}{ps:List Str}(F:Fun K x qual st f fd)
  (h:∀(kV doc pm:Value) (an:Option Addr) (cdv ct:Value) (us:List Value),us.length=ps.length->bindArgs (PySem.W.fnOf x qual (ES st) (Dw st) (AM st) .none kV doc pm an cdv ct) ⟨us,[]⟩=pure (ps.zip us)):Binds K fd ps []:=by
 obtain⟨oc,od,kV,doc,pm,an,cdv,ct,osl,rfl,lk,hcd⟩:=F.ex
 exact .all (h kV doc pm an cdv ct)
theorem W9{x qual:Str}{st:Stmt}{f:Addr}{oc:Value}{od an:Option Addr}{osl:Array (Option Value)}{kV doc pm cdv ct:Value}(l:K.lookup f=some ⟨oc,od,.func (PySem.W.fnOf x qual (ES st) (Dw st) (AM st) .none kV doc pm an cdv ct),osl⟩)
  (c:PySem.W.codeIn K cdv qual=true) (k:PySem.W.keepIn K (.ref f)=true):Fun K x qual st f (PySem.W.fnOf x qual (ES st) (Dw st) (AM st) .none kV doc pm an cdv ct):=⟨⟨oc,od,kV,doc,pm,an,cdv,ct,osl,rfl,l,c⟩,k⟩
end
section
variable {X:Cx}
theorem pv(i:Nat){x:Str}{pos:Pos}(hN:X.N[i]?=some x:=by rfl)(hv:Vis X.env.scope x:=by first|exact Or.inl rfl|exact Or.inr (Or.inl rfl)|exact Or.inr (Or.inr rfl))(hd:(x==("__debug__":Str))=false:=by decide)
  (hcd:(x==("__classdict__":Str))=false:=by decide):PE X (.Name x pos) (Fg i):=WV hN hv hd hcd
end
def Same(H H':Hp):Prop:=∀b o,H b=some o->H' b=some o
theorem Same.trans{H H1 H2:Hp}(a:Same H H1)(b:Same H1 H2):Same H H2:=λc o h=>b c o (a c o h)
theorem Same.seq{K:PySem.W.Frag}{H H':Hp}{a:Addr}{xs:List V}(e:Same H H')(h:SqL K H a xs):SqL K H' a xs:=by
 rcases h with (h|⟨o,h⟩)|h
 ·exact .inl (.inl (e _ _ h))
 ·exact .inl (.inr ⟨o,e _ _ h⟩)
 ·exact .inr h
def Bd(n:Nat)(x:Int):Prop:=x.natAbs<2 ^ n
theorem Bd.mono{m n:Nat}{x:Int}(h:Bd m x)(k:m<=n):Bd n x:=cy h (Nat.pow_le_pow_right (by decide) k)
theorem Bd.bits{n:Nat}{x:Int}(h:Bd n x):Builtin.Int.intBits x<=n+1:=by
 unfold Builtin.Int.intBits
 split
 ·exact cZ _
 ·have:x.natAbs.log2<=n:=by
   rcases gJ x.natAbs with h0|hp
   ·rw[h0];simp
   ·exact fB ((Nat.log2_lt (fD hp)).mpr h)
  omega
theorem Bd.log{n:Nat}{x:Int}(h:Bd n x):x.natAbs.log2<=n:=by
 rcases gJ x.natAbs with h0|hp
 ·rw[h0];simp
 ·exact fB ((Nat.log2_lt (fD hp)).mpr h)
theorem Bd.of{n:Nat}{x m:Int}(h1:-m<=x)(h2:x<=m)(hm:m.natAbs<2 ^ n):Bd n x:=by
 unfold Bd
 omega
section
variable {X:Cx}
def CMulB(i j:Int):Prop:=CMul i j\/(Bd 8000 i/\Bd 8000 j)
theorem CMulB.ok{i j:Int}(h:CMulB i j):IntMulOk i j:=by
 rcases h with h|⟨h,k⟩
 ·exact h.ok
 ·have a:=h.bits
  have b:=k.bits
  have e:(2:Nat) ^ 20=1048576:=by decide
  exact IntMulOk.of_bits (by omega) (by omega)
theorem QR:OpR X (binaryOp .Mult) (rI CMulB λi j=>.int (i*j)):=opI λ_ _ _ _ _ _ _ hc q=>mul_int q hc.ok
def Sm(i j:Int):Prop:=0<j/\Bd 8000 j
theorem WZ:OpR X (binaryOp .FloorDiv) (rI Sm λi j=>.int (i / j)):=opI λi j _ _ _ _ _ hc q=>by
 have:=hc.2.log
 rw[<- Int.fdiv_eq_ediv_of_nonneg _ (Int.le_of_lt hc.1)]at q
 exact floordiv_int (by have:=hc.1;omega) q (.inl (PyProof.noPylong_of_log2 (by omega)))
def ZP(i j:Int):Prop:=j≠0/\Bd 8000 j
end
mutual
def Is(H:Hp):PyData->V->Prop
 |.none,v=>v = .non
 |.bool b,v=>v = .bl b
 |.int i,v=>v = .int i
 |.str x,v=>v = .str x
 |.tuple ds,v=>∃a vs,v = .ref a/\H a=some (.tup vs)/\IsL H ds vs
 |.list ds,v=>∃a vs,v = .ref a/\H a=some (.lst vs)/\IsL H ds vs
 |.dict _,_=>False
def IsL(H:Hp):List PyData->List V->Prop
 |[],vs=>vs=[]
 |d::ds,vs=>∃x xs,vs=x::xs/\Is H d x/\IsL H ds xs
end
mutual
def F5:PyData->Bool
 |.none=>true
 |.bool _=>true
 |.int _=>true
 |.str _=>true
 |.tuple ds=>fixDs ds
 |.list _=>false
 |.dict _=>false
def fixDs:List PyData->Bool
 |[]=>true
 |d::ds=>F5 d&&fixDs ds
end
section
variable {X:Cx} {pins:List (Addr×Obj)} {σ:St} {H:Hp} {s:Shared}
end
def okD(d:PyData):Bool:=SeqAt.shaped d
section
variable {X:Cx}
theorem Hv{d:PyData}(h:okD d=true):d.canLay0=true:=by
 unfold okD SeqAt.shaped at h
 rw[cw]at h
 exact h.1
end
structure Cal(P:Program)(w:World)(K:PySem.W.Frag)(mg:Str->Option Value)(base:Heap)(k:Nat)(x:Str)(ps:List Str)(sp:Sp):Prop where
 ex:∃f fd,FnOk P w K mg base CX0 k f fd ps sp/\Binds K fd ps []/\PySem.W.keepIn K (.ref f)=true/\mg x=some (.ref f)
theorem Cal.mono{P:Program}{w:World}{K:PySem.W.Frag}{mg:Str->Option Value}{base:Heap}{j k:Nat}{x:Str}{ps:List Str}{sp:Sp}(C:Cal P w K mg base j x ps sp)(h:j<=k):Cal P w K mg base k x ps sp:=by
 obtain⟨f,fd,F,b,kp,m⟩:=C.ex
 exact⟨f,fd,F.mono h,b,kp,m⟩
theorem Cal.of{P:Program}{w:World}{K:PySem.W.Frag}{mg:Str->Option Value}{base:Heap}{k:Nat}{x:Str}{ps:List Str}{sp:Sp}{f:Addr}{fd:FuncData}{st:Stmt}(F:Fun K x x st f fd)(ok:FnOk P w K mg base CX0 k f fd ps sp)(b:Binds K fd ps [])(m:mg x=some (.ref f)):Cal P w K mg base k x ps sp:=⟨f,fd,ok,b,F.kp,m⟩
section
variable {X:Cx} {k:Nat} {ps:List Str} {sp:Sp} {x:Str} {p pos:Pos} {e:Expr} {es:List Expr} {t:TA}
theorem AO(C:Cal X.prog X.w X.K X.mg X.base k x ps sp)(hr:Room k X.A)(hg:Gl X x)(ha:PA X (e::es) t)(hdb:(x==("__debug__":Str))=false:=by decide)
  (he:starEach (e::es) X.env=(false,eval e X.env)::starEach es X.env:=by rfl) (hpl:(backTo pos (starEach es X.env)).any (·.1)=false:=by rfl) :
  PE X (.Call (.Name x p) (e::es) [] pos) (Ke sp [] E0 t):=by
 obtain⟨f,fd,F,b,kp,m⟩:=C.ex
 exact X6 F hr hg m kp b .nil UI ha hdb he hpl
end
theorem Ri{X:Cx}{x:Str}{T:String}{pos:Pos}(hg:Gl X x)(hm:X.mg x=none)(hv:bootBuiltins x=some (.type T))(hn:x≠"__name__")(hd:(x==("__debug__":Str))=false):PE X (.Name x pos) (tC (.ty T)):=X7 hg hm hv rfl hn hd
theorem BF{H:Hp}{p:Addr}(h:H p=none)(o:HO):Same H (upd H p o):=λb u q=>by rw[AR (Af q h)];exact q
theorem Wt{K:PySem.W.Frag}(T:String):PySem.W.kitOne K (.type T) (.type T)=some true:=by
 unfold PySem.W.kitOne
 rw[if_pos (beq_self_eq_true _)]
theorem Zu{K:PySem.W.Frag}{t T:String}{b:Bool}(h1:(Value.type t==Value.type T)=false)(h2:PySem.W.kitMeta T=true)(h3:(PySem.fastBuiltinMro t).map (·.contains (Value.type T))=some b):PySem.W.kitOne K (.type t) (.type T)=some b:=by
 unfold PySem.W.kitOne PySem.W.kitCls
 rw[h1,if_neg ck]
 simp only[h2,if_true]
 exact h3
theorem RK{env:Env}:∀(names:List (Str×NameKind)) (cs:List (Str×Addr)),(∀x,(x,NameKind.free)∈names->∃c,env.cells.lookup x=some c) ->
  (∀x c,cs.lookup x=some c->env.cells.lookup x=some c) ->
  ∃ cl, (forIn names cs λ(x : Str × NameKind) (r : List (Str × Addr)) => match x with
   |(name,kind)=>if (kind==NameKind.free)=true then do let c <- cellOf env name;pure (ForInStep.yield ((name,c)::r)) else pure (ForInStep.yield r):Sem (List (Str×Addr)))=pure cl /\
   (∀x c,cl.lookup x=some c->env.cells.lookup x=some c)/\(∀x,(x,NameKind.free)∈names->∃c,cl.lookup x=some c)/\(∀x c,cs.lookup x=some c->∃c',cl.lookup x=some c')
 |[],cs,_,h2=>⟨cs,rfl,h2,λx hx=>by simp at hx,λx c e=>⟨c,e⟩⟩
 |(n,k)::r,cs,h1,h2=>by
  by_cases hk:k = .free
  ·subst hk
   obtain⟨c,hc⟩:=h1 n J'
   have hh:∀x c',((n,c)::cs).lookup x=some c'->env.cells.lookup x=some c':=by
    intro x c' e
    rw[dw]at e
    cases q:x==n with
    |true=>rw[q]at e;cases e;rw[eq_of_beq q];exact hc
    |false=>rw[q]at e;exact h2 x c' e
   obtain⟨cl,e,a,b,d⟩:=RK (env:=env) r ((n,c)::cs) (λx hx=>h1 x (E' _ hx)) hh
   refine⟨cl,?_,a,λx hx=>?_,λx c' e'=>?_⟩
   ·rw[List.forIn_cons]
    have ec:cellOf env n=pure c:=by
     unfold cellOf
     rw[hc]
    simp only[beq_self_eq_true,if_true]
    rw[ec]
    exact e
   ·rcases X'.mp hx with z|z
    ·cases z
     exact d n c (by rw[dw,beq_self_eq_true])
    ·exact b x z
   ·cases q:x==n with
    |true=>exact d x c (by rw[dw,q])
    |false=>exact d x c' (by rw[dw,q];exact e')
  ·obtain⟨cl,e,a,b,d⟩:=RK (env:=env) r cs (λx hx=>h1 x (E' _ hx)) h2
   refine⟨cl,?_,a,λx hx=>?_,d⟩
   ·rw[List.forIn_cons]
    have hb:(k==NameKind.free)=false:=by simpa using hk
    simp only[hb,Bool.false_eq_true,if_false]
    exact e
   ·rcases X'.mp hx with z|z
    ·cases z;exact absurd rfl hk
    ·exact b x z
theorem Uy{env:Env}{scope:Scope}(h:∀x,(x,NameKind.free)∈scope.names->∃c,env.cells.lookup x=some c) :
  ∃cl,closureFor scope env=pure cl/\(∀x c,cl.lookup x=some c->env.cells.lookup x=some c)/\(∀x,(x,NameKind.free)∈scope.names->∃c,cl.lookup x=some c):=by
 obtain⟨cl,e,a,b,_⟩:=RK (env:=env) scope.names [] h (λx c e=>by simp at e)
 refine⟨cl,?_,a,b⟩
 exact(congrArg (λm:Sem (List (Str×Addr))=>m >>= λr=>(pure r:Sem (List (Str×Addr)))) e).trans rfl
theorem Vz{prog:Program}{w:World}{A:Around}{R:Result->Shared->Prop}{s:Shared}{elt target iter:Expr}{ifs:List Expr}{scope:Scope}{pos:Pos}{it acc:Value}{env:Env}(I:Nat->Shared->Prop)
  (turn : ∀ n s, I n s -> wpAny (model prog w) A (pyNext it) (λr s₁ => match r with
   |none=>R (.ok .next) s₁
   | some v => wpAny (model prog w) A (letOwnedTupleGo target it v) (λ_ s₁ => wpAny (model prog w) A (assign target env v) (λ_ s₂ =>
     wpAny (model prog w) A (forIn ifs true λc r => if r = true then do let ok <- isTrue c env (eval c env); pure (ForInStep.yield ok) else pure (ForInStep.yield r)) (λok s₃ =>
      if ok = true then wpAny (model prog w) A (eval elt env) (λx s₄ =>
       wpAny (model prog w) A (call (.builtin "list.append") [acc,x]) (λ_ s₅=>∃m,m<n/\I m s₅) (λ_ _=>False) s₄) (λ_ _=>False) s₃
      else ∃m,m<n/\I m s₃) (λ_ _=>False) s₂) (λ_ _=>False) s₁) (λ_ _=>False) s₁) (λ_ _=>False) s)
  (n:Nat) (h:I n s) :
  codeAny (model prog w) A (.compLoop (.ListComp elt [⟨target,iter,ifs,0⟩] scope pos) 0 it acc env) R s:=by
 refine codeAny_loop rfl I (λn s hI=>?_) n h
 show wpAny _ A ((compTurn (.ListComp elt [⟨target,iter,ifs,0⟩] scope pos) 0 it acc env).onRaise (λx=>do noteFrame x env;theTreesLotGoes x)) _ _ s
 refine wpAny_noted ?_
 rw[compTurn_list]
 refine wpAny_bind (wpAny_standAt (wpAny_bind (wpAny_mono (turn n s hI) (λr s₁ h₁=>?_) λ_ _ h'=>h'.elim)))
 cases r with
 |none=>exact wpAny_pure h₁
 |some v =>
  refine wpAny_bind (wpAny_mono h₁ (λ_ s₁ h₁=>?_) λ_ _ h'=>h'.elim)
  refine wpAny_bind (wpAny_mono h₁ (λ_ s₂ h₂=>wpAny_bind (wpAny_mono h₂ (λok s₃ h₃=>?_) λ_ _ h'=>h'.elim)) λ_ _ h'=>h'.elim)
  cases ok with
  |false=>exact wpAny_pure ⟨rfl,h₃⟩
  |true =>
   exact wpAny_bind (wpAny_bind (wpAny_mono h₃ (λx s₄ h₄=>wpAny_bind (wpAny_mono h₄ (λ_ s₅ h₅=>wpAny_pure (wpAny_pure ⟨rfl,h₅⟩)) λ_ _ h'=>h'.elim)) λ_ _ h'=>h'.elim))
theorem J5{env:Env}:∀{names:List (Str×NameKind)} {x:Str} {k:NameKind},names.lookup x=some k ->
  (names.map λ(n,k)=>if (k==NameKind.free&&env.scope.kind==.function&&env.kindOf n==some .cell) then (n,NameKind.cell) else (n,k)).lookup x=some k \/
  (k = .free/\(names.map λ(n,k)=>if (k==NameKind.free&&env.scope.kind==.function&&env.kindOf n==some .cell) then (n,NameKind.cell) else (n,k)).lookup x=some .cell)
 |[],_,_,h=>by simp at h
 |(n,k')::r,x,k,h=>by
  rw[P']
  dsimp only
  cases hx:x==n with
  |true =>
   simp only[List.lookup_cons,hx]at h
   have e:k=k':=(G' h).symm
   subst e
   by_cases hc:(k==NameKind.free&&env.scope.kind==.function&&env.kindOf n==some .cell)=true
   ·rw[if_pos hc]
    refine .inr ⟨?_,by simp only[List.lookup_cons,hx]⟩
    simp only[Bool.and_eq_true]at hc
    exact eq_of_beq hc.1.1
   ·rw[if_neg hc]
    exact .inl (by simp only[List.lookup_cons,hx])
  |false =>
   simp only[List.lookup_cons,hx]at h
   have ih:=@J5 env r x k h
   by_cases hc:(k'==NameKind.free&&env.scope.kind==.function&&env.kindOf n==some .cell)=true
   ·rw[if_pos hc];simp only[List.lookup_cons,hx];exact ih
   ·rw[if_neg hc];simp only[List.lookup_cons,hx];exact ih
theorem Hw{env:Env}:∀{names:List (Str×NameKind)} {x:Str} {k:NameKind},(∀y∈names,y.2≠.cell) ->
  (names.map λ(n,k)=>if (k==NameKind.free&&env.scope.kind==.function&&env.kindOf n==some .cell) then (n,NameKind.cell) else (n,k)).lookup x=some k->(k = .cell\/k = .free)->(x,NameKind.free)∈names
 |[],_,_,_,h,_=>by simp at h
 |(n,k')::r,x,k,nc,h,hk=>by
  rw[P']at h
  dsimp only at h
  cases hx:x==n with
  |true =>
   have e:=eq_of_beq hx
   subst e
   by_cases hc:(k'==NameKind.free&&env.scope.kind==.function&&env.kindOf x==some .cell)=true
   ·simp only[Bool.and_eq_true]at hc
    rw[eq_of_beq hc.1.1]
    exact J'
   ·rw[if_neg hc,dw,hx]at h
    cases h
    rcases hk with rfl|rfl
    ·exact absurd rfl (nc _ J')
    ·exact J'
  |false =>
   refine E' _ (Hw (env:=env) (λy hy=>nc y (E' _ hy)) ?_ hk)
   by_cases hc:(k'==NameKind.free&&env.scope.kind==.function&&env.kindOf n==some .cell)=true
   ·rw[if_pos hc,dw,hx]at h;exact h
   ·rw[if_neg hc,dw,hx]at h;exact h
theorem A1{scope:Scope}{env:Env}{x:Str}(h:scope.names.lookup x=some .local):(relabel scope env).names.lookup x=some .local:=lookup_relabel_local h
theorem EN{scope:Scope}{env:Env}{x:Str}(h:scope.names.lookup x=some .globalImplicit):(relabel scope env).names.lookup x=some .globalImplicit:=by
 rcases J5 (env:=env) h with z|⟨z,_⟩
 ·exact z
 ·cases z
theorem QI{scope:Scope}{env:Env}{x:Str}(h:scope.names.lookup x=some .free):(relabel scope env).names.lookup x=some .cell\/(relabel scope env).names.lookup x=some .free:=by
 rcases J5 (env:=env) h with z|⟨_,z⟩
 ·exact .inr z
 ·exact .inl z
theorem Ap{scope:Scope}{env:Env}{x:Str}(h:scope.names.lookup x=some .local):Vis (relabel scope env) x:=.inl (A1 h)
theorem B2{scope:Scope}{env:Env}{x:Str}(h:scope.names.lookup x=some .free):Vis (relabel scope env) x:=(QI h).elim (λz=>.inr (.inl z)) λz=>.inr (.inr z)
theorem Av{scope:Scope}{env:Env}{x:Str}(h:scope.names.lookup x=some .local):Loc (relabel scope env) x:=.inl (A1 h)
def blk(own:Nat)(fr:List Nat)(σ:St):St:=List.replicate own none++fr.map λj=>(σ[j]?).join
def cxC(X:Cx)(N':List Str)(scope:Scope)(cl:List (Str×Addr))(fp:List Addr)(s3:Shared)(H3:Hp):Cx:={ X with
 N:=N',s₀:=s3,H₀:=H3,env:=compEnvC scope cl s3.heap.objs.size X.env,outer:=X.stack,stack:=X.stack,ex:=fp,fn:=λ_=>false,pn:=[],xe:=λ_ _=>False }
structure V4(X:Cx)(N':List Str)(own:Nat)(fr:List Nat)(scope:Scope):Prop where
 kind:scope.kind = .function
 len:N'.length=own+fr.length
 cell:∀y∈scope.names,y.2≠.cell
 names:∀y∈scope.names,y.2 = .local->scope.names.lookup y.1=some .local
 free:∀x,(x,NameKind.free)∈scope.names->X.env.scope.names.lookup x=some .cell\/X.env.scope.names.lookup x=some .free
 slot:∀k j,fr[k]?=some j->∃x,N'[own+k]?=some x/\X.N[j]?=some x/\scope.names.lookup x=some .free
theorem Yi{own:Nat}{fr:List Nat}{σ:St}{i:Nat}{v:V}(h:(blk own fr σ)[i]?=some (some v)):∃k j,i=own+k/\fr[k]?=some j/\σ[j]?=some (some v):=by
 unfold blk at h
 by_cases hi:i<own
 ·rw[cY (by simpa using hi),dF,if_pos hi]at h
  cases h
 ·rw[cR (by simpa using hi),dX,U']at h
  cases e:fr[i-own]? with
  |none=>rw[e]at h;cases h
  |some j =>
   rw[e]at h
   simp only[Option.map_some,Option.some.injEq]at h
   refine⟨i-own,j,by omega,e,?_⟩
   cases q:σ[j]? with
   |none=>rw[q]at h;cases h
   |some o=>rw[q]at h;cases o with
    |none=>cases h
    |some u=>cases h;rfl
section
variable {X:Cx} {N':List Str} {own:Nat} {fr:List Nat} {scope:Scope}
theorem YV{pins:List (Addr×Obj)}{σ:St}{H3:Hp}{s3:Shared}{cl:List (Str×Addr)}{fp:List Addr}{h4:Heap}{tk:Nat}(ok:V4 X N' own fr scope)(I:Inv X pins σ H3 s3)(f2:∀b∈fp,Ka X pins H3 b)(flt:∀b∈fp,b<s3.heap.objs.size)
  (cl1:∀x c,cl.lookup x=some c->X.env.cells.lookup x=some c) (cl2:∀x,(x,NameKind.free)∈scope.names->∃c,cl.lookup x=some c)
  (m4:Str->Option Value) (n4:h4.Ns s3.heap.objs.size m4) (k4:∀b o,s3.heap.get? b=some o->h4.get? b=some o) :
  Inv (cxC X N' scope cl fp s3 H3) [] (blk own fr σ) H3 { s3 with heap:=h4,toks:=tk }:=by
 have stk:∀b,b∈frs X.stack->b∈X.env.locals::X.fs:=I.stkSub
 have exfs:∀b∈fp,b∉frs X.stack:=λb hb z=>by
  rcases X'.mp (stk b z)with e|e
  ·exact(f2 b hb).2.1 e
  ·exact(f2 b hb).2.2.1 e
 have okk:(cxC X N' scope cl fp s3 H3).Ok:=by
  refine ⟨I.ok.mod, ok.kind, I.ok.glob, I.ok.blt, W' _, λx y c e1 e2 => I.ok.inj x y c (cl1 x c e1) (cl1 y c e2), λx hx => ?_, λx c hf => ?_, I.ok.hd, I.ok.frames, .inl rfl, λb hb => ⟨cq (flt b hb), λx c e => (f2 b hb).2.2.2.2.1 x c (cl1 x c e)⟩,
   I.bs,cm I.ok.bsz I.sz,λb o e hb=>?_,exfs,I.stack,I.stkFree⟩
  ·refine cl2 x ?_
   have hx:(relabel scope X.env).names.lookup x=some .cell\/(relabel scope X.env).names.lookup x=some .free:=hx
   rcases hx with hx|hx
   ·exact Hw (env:=X.env) ok.cell hx (.inl rfl)
   ·exact Hw (env:=X.env) ok.cell hx (.inr rfl)
  ·exact absurd (show false=true from hf) ck
  ·rcases(f2 b hb).2.2.2.1 with z|z
   ·exact I.ok.noex b o e z
   ·exact absurd (cy (cS e) (cm I.ok.bsz z)) (dt _)
 refine⟨okk,rfl,I.bare,Un.kept k4,⟨m4,n4,λi x v e1 e2 e3=>?_⟩,λx c e=>?_,I.hok.fresh (W' _),λx c e=>I.freeC x c (cl1 x c e),λp hp=>absurd (show p∈([]:List (Addr×Obj)) from hp) (by simp),I.hok.kept k4,?_⟩
 ·obtain⟨k,j,rfl,ej,es⟩:=Yi e2
  obtain⟨y,y1,y2,y0⟩:=ok.slot k j ej
  have y3:=dv y0
  rw[show(cxC X N' scope cl fp s3 H3).N=N' from rfl,y1]at e1
  cases e1
  obtain⟨m,hn,hl⟩:=I.loc
  have vis:Vis X.env.scope x:=(ok.free x y3).elim (λz=>.inr (.inl z)) λz=>.inr (.inr z)
  obtain⟨u,r,l⟩:=hl j x v y2 es vis
  refine⟨u,r,?_⟩
  rcases l with ⟨l,_⟩|⟨_,c,ec,z⟩
  ·exfalso
   have l':X.env.scope.names.lookup x=some .local:=l
   rcases ok.free x y3 with q|q
   ·rw[q]at l';cases l'
   ·rw[q]at l';cases l'
  ·obtain⟨c',ec'⟩:=cl2 x y3
   have:=cl1 x c' ec'
   rw[ec]at this
   cases this
   obtain⟨o,ho,hd⟩:=z
   refine .inr ⟨?_,c,ec',⟨o,k4 c o ho,hd⟩⟩
   rcases e3 with z|z|z
   ·exfalso
    have z':(relabel scope X.env).names.lookup x=some .local:=z
    rcases QI (env:=X.env) y0 with q|q
    ·rw[z']at q;cases q
    ·rw[z']at q;cases q
   ·exact .inl z
   ·exact .inr z
 ·obtain⟨v,o,ho,hd⟩:=I.cell x c (cl1 x c e)
  exact⟨v,o,k4 c o ho,hd⟩
 ·show(blk own fr σ).length=N'.length
  unfold blk
  rw[cT,dX,B',ok.len]
end
def PTs(X:Cx)(ifs:List Expr)(tc:TT):Prop :=
 ∀(pins:List (Addr×Obj)) (s:Shared) (σ:St) (H:Hp) (Q:Bool->Hp->Prop),Inv X pins σ H s->tc σ H Q->wpAny (model X.prog X.w) X.A (forIn ifs true λc r=>if r=true then do let ok <- isTrue c X.env (eval c X.env);pure (ForInStep.yield ok) else pure (ForInStep.yield r)) (TP X pins σ Q) X.xe s
def ah:TT:=λ_ H Q=>Q true H
theorem Di{X:Cx}:PTs X [] ah:=λpins s σ H Q I h=>wpAny_tests_nil ⟨H,I,h⟩
theorem QN{X:Cx}{c:Expr}{tc:TT}(h:PT X c tc):PTs X [c] tc:=λpins s σ H Q I hq=>wpAny_tests_one (h pins s σ H Q I hq)
def bM(own:Nat)(fr:List Nat)(g:TG)(tc:TT)(te:TE)(J:It)(σ:St)(H1:Hp)(Q:VK):Prop:=∀D,H1 D=none->∃W:Nat->Nat->List V->St->Hp->Prop,(∃m,W 0 m [] (blk own fr σ) (upd H1 D (.lst [])))/\∀i m ys σ' H',W i m ys σ' H' ->
 (J.stop i H' /\ Q (.ref D) H') \/ (J.go i H' /\ ∀ x H2, J.yld i H' x H2 -> g x σ' H2 λσ3 H3 => tc σ3 H3 λb H4 => if b = true then te σ3 H4 λy H5 => H5 D = some (.lst ys) /\ ys.length < sizeLine /\ ∃ m', m' < m /\ W (i + 1) m' (ys ++ [y]) σ3 (upd H5 D (.lst (ys ++ [y])))
  else ∃m',m'<m/\W (i+1) m' ys σ3 H4)
def tLC(own:Nat)(fr:List Nat)(wi:TI)(g:TG)(tc:TT)(te:TE):TE:=λσ H Q=>wi σ H λJ H1=>bM own fr g tc te J σ H1 Q
structure Own(X:Cx)(pins:List (Addr×Obj))(C:Addr)(H:Hp)(s:Shared):Prop where
 ns:∃m,s.heap.Ns C m
 hn:H C=none
 ne:C≠X.env.locals
 ab:X.s₀.heap.objs.size<=C
 nc:∀x c,X.env.cells.lookup x=some c->c≠C
 np:∀p∈X.pn++pins,p.1≠C
structure ZL(G:Cx->Prop)(P:Program)(w:World)(K:PySem.W.Frag)(tg:Expr)(J:It)(fp:List Addr)(it:Addr)(tn:Nat->Heap->Prop):Prop where
 obj:∀i h,tn i h->∀b∈fp,∃o,h.get? b=some o/\∀v,o.data≠.cell v
 keep:∀i h h',tn i h->(∀b∈fp,∀o,h.get? b=some o->h'.get? b=some o)->tn i h'
 item:∀(X:Cx),X.prog=P->X.w=w->X.K=K->G X->∀(i:Nat) (pins:List (Addr×Obj)) (s:Shared) (σ:St) (H:Hp) (E:Value->Shared->Prop),Inv X pins σ H s->(∀b∈fp,Ka X pins H b)->tn i s.heap->J.go i H ->
  wpAny (model P w) X.A (pyNext (.ref it)) (λr s1 => ∃ u, r = some u /\
   wpAny (model P w) X.A (letOwnedTupleGo tg (.ref it) u) (λ_ s2=>∃x H',Inv X pins σ H' s2/\RelV x u/\J.yld i H x H'/\tn (i+1) s2.heap/\∀b∈fp,H' b=none) E s1) E s
 done:∀(X:Cx),X.prog=P->X.w=w->X.K=K->G X->∀(i:Nat) (pins:List (Addr×Obj)) (s:Shared) (σ:St) (H:Hp) (E:Value->Shared->Prop),Inv X pins σ H s->(∀b∈fp,Ka X pins H b)->tn i s.heap->J.stop i H ->
  wpAny (model P w) X.A (pyNext (.ref it)) (λr s1=>r=none/\Inv X pins σ H s1) E s
 self:∀(A:Around) (i:Nat) (s:Shared) (Q:Value->Shared->Prop) (E:Value->Shared->Prop),tn i s.heap->Q (.ref it) s->wpAny (model P w) A (pyIter (.ref it)) Q E s
theorem Turn.g{P:Program}{w:World}{K:PySem.W.Frag}{tg:Expr}{J:It}{fp:List Addr}{it:Addr}{tn:Nat->Heap->Prop}(T:Turn P w K tg J fp it tn):ZL (λX=>X.calm=true) P w K tg J fp it tn:=⟨T.obj,T.keep,T.item,T.done,T.self⟩
section
variable {X:Cx} {N':List Str} {own:Nat} {fr:List Nat} {scope:Scope} {elt tg iter:Expr} {ifs:List Expr} {pos:Pos}
theorem Own.go{pins:List (Addr×Obj)}{σ:St}{H:Hp}{s:Shared}{C:Addr}{h':Heap}(O:Own X pins C H s)(I:Inv X pins σ H s)(sb:Heap.SameBut C s.heap h'):Inv X pins σ H { s with heap:=h' } :=
 I.turned (t':=s.toks) (λb o hb e=>sb.extBut b o hb e) O.hn O.ne (.inr O.ab) O.nc O.np
theorem Se{G:Cx->Prop}{pins:List (Addr×Obj)}{σ:St}{H2:Hp}{s2:Shared}{J:It}{fp:List Addr}{it:Addr}{tn:Nat->Heap->Prop}{cl:List (Str×Addr)}{Q:VK}{g:TG}{tc:TT}{te:TE}{RR:Value->Addr->Result->Shared->Prop}{E:Value->Shared->Prop}
  (hc:∀s3 H3,Inv X pins σ H3 s3->G (cxC X N' scope cl fp s3 H3)) (ok:V4 X N' own fr scope) (I2:Inv X pins σ H2 s2) (T:ZL G X.prog X.w X.K tg J fp it tn) (st2:tn 0 s2.heap) (f2:∀b∈fp,Ka X pins H2 b)
  (cl1:∀x c,cl.lookup x=some c->X.env.cells.lookup x=some c) (cl2:∀x,(x,NameKind.free)∈scope.names->∃c,cl.lookup x=some c)
  (hg:∀fp s3 H3,PG (cxC X N' scope cl fp s3 H3) tg g) (ht:∀fp s3 H3,PTs (cxC X N' scope cl fp s3 H3) ifs tc) (he:∀fp s3 H3,PE (cxC X N' scope cl fp s3 H3) elt te)
  (h:bM own fr g tc te J σ H2 Q)
  (fin:∀D C s' H',Inv X pins σ H' s'->Own X pins C H' s'->Q (.ref D) H'->RR (.ref D) C (.ok .next) s') :
  wpAny (model X.prog X.w) X.A (newList []) (λacc s₃ => wpAny (model X.prog X.w) X.A (newFunctionEnv scope X.env.globals cl [] X.env.qual none .none (some X.env)) (λcenv s₄ =>
   codeAny (model X.prog X.w) X.A (.compStart (.ListComp elt [⟨tg,iter,ifs,0⟩] scope pos) 0 (.ref it) acc { cenv with scope:=relabel scope X.env }) (RR acc cenv.locals) s₄) E s₃) E s2:=by
 obtain⟨W,⟨m0,w0⟩,turn⟩:=h s2.heap.objs.size (I2.hok.fresh (W' _))
 refine wpAny_newObj_type (wpAny_newFunctionEnv ok.cell (by intro y hy;simp at hy) (λh₁ hns₁ hsb₁=>?_) ok.kind)
 dsimp only at hns₁ hsb₁ ⊢
 have I3:Inv X pins σ (upd H2 s2.heap.objs.size (.lst [])) { s2 with heap:=s2.heap.push { cls:=.type "list",dict:=none,data:=.seq ([]:List Value).toArray } } :=
  I2.laid (t':=s2.toks) (λb u e=>Z' _ e) (W' _) ⟨cZ _,[],0,.nil,cX _ rfl⟩
 generalize hH3:upd H2 s2.heap.objs.size (.lst [])=H3 at w0 I3
 generalize hS3:({ s2 with heap:=s2.heap.push { cls:=.type "list",dict:=none,data:=.seq ([]:List Value).toArray } }:Shared)=S3 at I3
 have e3:s2.heap.push { cls:=.type "list",dict:=none,data:=.seq ([]:List Value).toArray }=S3.heap:=by rw[<- hS3]
 have k23:∀b o,s2.heap.get? b=some o->S3.heap.get? b=some o:=λb o e=>by rw[<- e3];exact Z' _ e
 rw[e3]at hns₁ hsb₁ ⊢
 have st3:tn 0 S3.heap:=T.keep _ _ _ st2 λb _ o e=>k23 b o e
 have flt:∀b∈fp,b<S3.heap.objs.size:=λb hb=>by
  obtain⟨o,e,_⟩:=T.obj _ _ st3 b hb
  exact cS e
 have flt2:∀b∈fp,b<s2.heap.objs.size:=λb hb=>by
  obtain⟨o,e,_⟩:=T.obj _ _ st2 b hb
  exact cS e
 have f3:∀b∈fp,Ka X pins H3 b:=λb hb=>by
  refine⟨?_,(f2 b hb).2⟩
  rw[<- hH3,AR (cq (flt2 b hb))]
  exact(f2 b hb).1
 have k34:∀b o,S3.heap.get? b=some o->h₁.get? b=some o:=λb o e=>hsb₁.extBut b o (cq (cS e)) (Z' _ e)
 have I4:Inv (cxC X N' scope cl fp S3 H3) [] (blk own fr σ) H3 { S3 with heap:=h₁,toks:=s2.toks+([]:List (Str×Value)).length }:=YV ok I3 f3 flt cl1 cl2 _ hns₁ k34
 have st4:tn 0 h₁:=T.keep _ _ _ st3 λb _ o e=>k34 b o e
 -- back in the def
 have back:∀{σ' H' s'},Inv (cxC X N' scope cl fp S3 H3) [] σ' H' s'->Inv X pins σ H' s'/\Own X pins S3.heap.objs.size H' s':=λ{σ' H' s'} I'=>by
  have J1:Inv X pins σ H' s':=I3.call' I'.os I'.base I'.hok I'.bare λb hb=>⟨(f3 b hb).2.2.2.1,(f3 b hb).2.1,(f3 b hb).2.2.2.2⟩
  refine⟨J1,⟨let ⟨m,hn,_⟩:=I'.loc;⟨m,hn⟩,I'.free,fD I3.lt,I3.sz,λx c e z=>?_,λp hp z=>?_⟩⟩
  ·obtain⟨v,q⟩:=I3.cell x c e
   exact absurd q.lt (by rw[z];exact dt _)
  ·exact absurd (cS (I3.pin p hp).1) (by rw[z];exact dt _)
 have stat:∀{H':Hp},(∀b∈fp,H' b=none)->∀b∈fp,Ka (cxC X N' scope cl fp S3 H3) [] H' b:=λhn b hb =>
  ⟨hn b hb,(I4.ok.exf b hb).1,I4.ok.exfs b hb,.inl hb,(I4.ok.exf b hb).2,λp hp=>absurd (show p∈([]:List (Addr×Obj)) from hp) (by simp)⟩
 have loop:codeAny (model X.prog X.w) X.A (.compLoop (.ListComp elt [⟨tg,iter,ifs,0⟩] scope pos) 0 (.ref it) (.ref s2.heap.objs.size) (cxC X N' scope cl fp S3 H3).env) (RR (.ref s2.heap.objs.size) S3.heap.objs.size) { S3 with heap:=h₁,toks:=s2.toks+([]:List (Str×Value)).length }:=by
  refine Vz (λn s'=>∃i ys σ' H',Inv (cxC X N' scope cl fp S3 H3) [] σ' H' s'/\tn i s'.heap/\(∀b∈fp,H' b=none)/\W i n ys σ' H') ?_ m0 ⟨0,[],_,H3,I4,st4,λb hb=>(f3 b hb).1,w0⟩
  rintro n s5 ⟨i,ys,σ5,H5,I5,st5,fr5,w5⟩
  rcases turn i n ys σ5 H5 w5 with ⟨stop,qn⟩|⟨go,step⟩
  ·refine thn (T.done (cxC X N' scope cl fp S3 H3) rfl rfl rfl (hc _ _ I3) i [] s5 σ5 H5 (λ_ _=>False) I5 (stat fr5) st5 stop) λr s6 ⟨hr,I6⟩=>?_
   subst hr
   obtain⟨J1,O⟩:=back I6
   exact fin _ _ s6 H5 J1 O qn
  ·refine thn (T.item (cxC X N' scope cl fp S3 H3) rfl rfl rfl (hc _ _ I3) i [] s5 σ5 H5 (λ_ _=>False) I5 (stat fr5) st5 go) λr s6 ⟨u,hr,h6⟩=>?_
   subst hr
   refine thn h6 λ_ s7 ⟨x,H7,I7,r7,y7,st7,fr7⟩=>?_
   have I7':=I7.pinned (stat fr7) (T.obj _ _ st7)
   refine thn (hg fp S3 H3 _ s7 σ5 H7 x u _ I7' r7 (step x H7 y7)) λ_ s8 ⟨σ8,H8,I8,q8⟩=>?_
   refine thn (ht fp S3 H3 _ s8 σ8 H8 _ I8 q8) λb s9 ⟨H9,I9,q9⟩=>?_
   have again:∀{σ' H' s' m' ys'},m'<n->Inv (cxC X N' scope cl fp S3 H3) ([]++NT fp s7.heap) σ' H' s'->W (i+1) m' ys' σ' H'->∃m,m<n/\∃i ys σ' H',Inv (cxC X N' scope cl fp S3 H3) [] σ' H' s'/\tn i s'.heap/\(∀b∈fp,H' b=none)/\W i m ys σ' H':=λ{σ' H' s' m' ys'} hm I' w'=>by
    refine⟨m',hm,i+1,ys',σ',H',I'.unpinned,T.keep _ _ _ st7 λb hb o e=>(I'.pin (b,o) (L' _ (L' _ (IE hb e)))).1,λb hb=>?_,w'⟩
    obtain⟨o,e,d⟩:=T.obj _ _ st7 b hb
    exact(I'.pin (b,o) (L' _ (L' _ (IE hb e)))).2.1
   cases b with
   |false =>
    rw[if_neg ck]at q9 ⊢
    obtain⟨m',hm,w9⟩:=q9
    exact again hm I9 w9
   |true =>
    rw[if_pos rfl]at q9 ⊢
    refine thn (he fp S3 H3 _ s9 σ8 H9 _ I9 q9) λv s10 ⟨y,H10,I10,r10,q10⟩=>?_
    obtain⟨hD,hz,m',hm,w10⟩:=q10
    refine thn (HZ (X:=cxC X N' scope cl fp S3 H3) _ s10 σ8 H10 (.ref s2.heap.objs.size) [y] (.ref s2.heap.objs.size) [v] (λ_ H'=>W (i+1) m' (ys++[y]) σ8 H') I10 rfl (.cons r10 .nil) ⟨_,ys,y,rfl,rfl,hD,hz,w10⟩) λv' s11 ⟨_,H11,I11,_,q11⟩=>?_
    exact again hm I11 q11
 subst hS3
 exact codeAny_compStart_list loop (T.self _ 0 _ _ _ st4 loop)
theorem IU{wi:TI}{g:TG}{tc:TT}{te:TE}(hc:X.calm=true)(ok:V4 X N' own fr scope)(hi:PI X tg iter wi)
  (hg:∀cl fp s3 H3,PG (cxC X N' scope cl fp s3 H3) tg g) (ht:∀cl fp s3 H3,PTs (cxC X N' scope cl fp s3 H3) ifs tc) (he:∀cl fp s3 H3,PE (cxC X N' scope cl fp s3 H3) elt te)
  (hs:∀x,foldedSetIterable iter X.env x=pure x:=by intro _;rfl):PE X (.ListComp elt [⟨tg,iter,ifs,0⟩] scope pos) (tLC own fr wi g tc te):=by
 intro pins s σ H Q I h
 obtain⟨cl,ecl,cl1,cl2⟩:=Uy (env:=X.env) (scope:=scope) λx hx=>I.ok.has x (ok.free x hx)
 rw[eval_ListComp]
 refine wpAny_comprehension_free (use:=none) rfl hs ecl ok.kind ok.names (thn (hi pins s σ H _ I h) λv s1 h1=>thn h1 λitv s2 h2=>?_)
 obtain⟨it,fp,tn,J,H2,rfl,I2,T,st2,f2,h2⟩:=h2
 refine Se (RR:=λacc C=>compPost (model X.prog X.w) X.A X.xe none (EP X pins σ Q) acc C) (λ_ _ _=>hc) ok I2 T.g st2 f2 cl1 cl2 (hg cl) (ht cl) (he cl) h2 ?_
 intro D C s' H' J1 O q
 obtain⟨m,hn⟩:=O.ns
 exact⟨m,hn,λh'' sb=>⟨.ref D,H',O.go J1 sb,rfl,q⟩⟩
theorem Kn{wi:TI}{g:TG}{tc:TT}{te:TE}{i:Nat}{y:Str}{py spos:Pos}(hN:X.N.Nodup)(hiN:X.N[i]?=some y)(hy:X.env.scope.names.lookup y=some .local)(hc:X.calm=true)(ok:V4 X N' own fr scope)(hi:PI X tg iter wi)
  (hg:∀cl fp s3 H3,PG (cxC X N' scope cl fp s3 H3) tg g) (ht:∀cl fp s3 H3,PTs (cxC X N' scope cl fp s3 H3) ifs tc) (he:∀cl fp s3 H3,PE (cxC X N' scope cl fp s3 H3) elt te)
  (hsw:swapsWith (.ListComp elt [⟨tg,iter,ifs,0⟩] scope pos) (some (.Name y py)) spos.line X.env=pure true)
  (hs:∀x,foldedSetIterable iter X.env x=pure x:=by intro _;rfl):PS X (.Assign [.Name y py] (.ListComp elt [⟨tg,iter,ifs,0⟩] scope pos) spos) (λD σ H=>tLC own fr wi g tc te σ H λv H'=>D.nx (σ.set i (some v)) H'):=by
 intro pins s σ H D I h
 obtain⟨cl,ecl,cl1,cl2⟩:=Uy (env:=X.env) (scope:=scope) λx hx=>I.ok.has x (ok.free x hx)
 rw[exec_Assign_Name_used _ _ _ _ hsw]
 refine wpAny_bind (wpAny_standAt (wpAny_bind ?_))
 show wpAny _ _ (do let _ <- comprehension (.ListComp elt [⟨tg,iter,ifs,0⟩] scope pos) scope X.env _ (newList []) false (eval iter X.env) (some (assign (.Name y py) X.env))) _ _ s
 refine wpAny_bind (wpAny_mono (wpAny_comprehension_free (use := some (assign (.Name y py) X.env)) (Q := λ_ s' => SP X pins D .next s') rfl hs ecl ok.kind ok.names
  (thn (hi pins s σ H _ I h) λv s1 h1=>thn h1 λitv s2 h2=>?_)) (λ_ s' hq=>wpAny_pure (wpAny_pure hq)) λ_ _ e=>e)
 obtain⟨it,fp,tn,J,H2,rfl,I2,T,st2,f2,h2⟩:=h2
 refine Se (RR:=λacc C=>compPost (model X.prog X.w) X.A X.xe (some (assign (.Name y py) X.env)) (λ_ s'=>SP X pins D .next s') acc C) (λ_ _ _=>hc) ok I2 T.g st2 f2 cl1 cl2 (hg cl) (ht cl) (he cl) h2 ?_
 intro D' C s' H' J1 O q
 show wpAny _ _ (assign (.Name y py) X.env (.ref D')) _ _ _
 refine wpAny_assign_Name (O8 J1 hN hiN (.inl hy) (v:=.ref D') rfl (λs'' J2 sb=>?_) (.inr hy))
 obtain⟨m,hn⟩:=O.ns
 obtain⟨a,sb,ha⟩:=sb
 have nea:C≠a:=by
  rcases ha with ha|ha
  ·rw[ha];exact O.ne
  ·exact λz=>O.nc y a ha z.symm
 refine⟨m,hn.sameBut sb nea,λh'' sb'=>?_⟩
 have O2:Own X pins C H' s'':=⟨⟨m,hn.sameBut sb nea⟩,O.hn,O.ne,O.ab,O.nc,O.np⟩
 exact⟨_,H',O2.go J2 sb',q⟩
end
end L2
end
section
namespace DL
open PySem L2 PyProof.Rows
structure KW where
 fr:PySem.W.Frag
 w:World
 mg:Str->Option Value
instance:CoeOut KW PySem.W.Frag:=⟨KW.fr⟩
abbrev Wr(X:Cx):KW:=⟨X.K,X.w,X.mg⟩
def hT(ks:List Int):Int:=reduceHash (Builtin.Tuple.tupleHashOf (ks.map hashInt))
def Fl(a:Addr)(ts:List (List Int×Addr×V))(ep:Nat):Heap->Prop:=λh=>(a==sysModules)=false/\ts.length<=sizeLine/\(ts.map (·.1)).Nodup /\
 ∃xs:List (List Int×Addr×Value),Paired (λ(t:List Int×Addr×V) (x:List Int×Addr×Value)=>t.1=x.1/\t.2.1=x.2.1/\RelV t.2.2 x.2.2) ts xs /\
  ∃(o:Obj) (es:Array DictEntry),h.get? a=some o/\o.ExactDict/\o.data = .dict es ep/\es.toList=xs.map λx=>⟨hT x.1,.ref x.2.1,x.2.2⟩
def HD(H:Hp)(a:Addr)(ts:List (List Int×Addr×V)):Prop:=∃ep,H a=some (.ext (Fl a ts ep))
mutual
def Is(K:KW)(H:Hp):PyData->V->Prop
 |.none,v=>v = .non
 |.bool b,v=>v = .bl b
 |.int i,v=>v = .int i
 |.str x,v=>v = .str x
 |.tuple ds,v=>∃a vs,v = .ref a/\SqT K H a vs/\IsL K H ds vs
 |.list ds,v=>∃a vs,v = .ref a/\H a=some (.lst vs)/\IsL K H ds vs
 |.dict kvs,v=>(∃a ts,v = .ref a/\HD H a ts/\IsKV K H kvs ts)\/∃a C dx fs,v = .ref a/\H a=some (.ins C dx fs)/\IsOb K H C kvs fs
def IsL(K:KW)(H:Hp):List PyData->List V->Prop
 |[],vs=>vs=[]
 |d::ds,vs=>∃x xs,vs=x::xs/\Is K H d x/\IsL K H ds xs
def IsKV(K:KW)(H:Hp):List (PyData×PyData)->List (List Int×Addr×V)->Prop
 |[],ts=>ts=[]
 |(k,d)::r,ts=>∃t tr,ts=t::tr/\k = .tuple (t.1.map PyData.int)/\SqT K H t.2.1 (t.1.map V.int)/\Is K H d t.2.2/\IsKV K H r tr
def IsOb(K:KW)(H:Hp)(C:Addr):List (PyData×PyData)->List (Str×V)->Prop
 |[],_=>False
 |(k,c)::r,fs=>(∃n,k = .list []/\c = .str n/\K.mg n=some (.ref C))/\IsF K H r fs
def IsF(K:KW)(H:Hp):List (PyData×PyData)->List (Str×V)->Prop
 |[],fs=>fs=[]
 |(k,d)::r,fs=>∃n x fr,fs=(n,x)::fr/\k = .str n/\Is K H d x/\IsF K H r fr
end
def obD:PyData->Bool
 |.dict ((.list [],_)::_)=>true
 |_=>false
theorem IsOb.ob{K:KW}{H:Hp}{C:Addr}:∀{kvs:List (PyData×PyData)} {fs:List (Str×V)},IsOb K H C kvs fs->obD (.dict kvs)=true
 |(k,c)::r,_,⟨⟨n,e,_⟩,_⟩=>by subst e;rfl
theorem Is.dct{K:KW}{H:Hp}{kvs:List (PyData×PyData)}{v:V}(h:Is K H (.dict kvs) v)(n:obD (.dict kvs)=false):∃a ts,v = .ref a/\HD H a ts/\IsKV K H kvs ts:=by
 rcases h with h|⟨a,C,dx,fs,_,_,l⟩
 ·exact h
 ·rw[l.ob]at n;cases n
theorem Same.tup{K:KW}{H H':Hp}{a:Addr}{xs:List V}(e:Same H H')(h:SqT K H a xs):SqT K H' a xs:=by
 rcases h with (h|⟨o,h⟩)|h
 ·exact .inl (.inl (e _ _ h))
 ·exact .inl (.inr ⟨o,e _ _ h⟩)
 ·exact .inr h
def NTp(o:HO):Prop:=(∃xs,o = .lst xs)\/∃C dx fs,o = .ins C dx fs
def Lv(H:Hp)(a:Addr):Prop:=∃o,H a=some o/\NTp o
theorem Lv.of{H:Hp}{a:Addr}{vs:List V}(h:H a=some (.lst vs)):Lv H a:=⟨_,h,.inl ⟨vs,rfl⟩⟩
theorem Lv.eq{H H':Hp}{a:Addr}(e:H' a=H a)(h:Lv H a):Lv H' a:=let ⟨o,q,t⟩:=h;⟨o,e.trans q,t⟩
def TSm(H H':Hp):Prop:=∀b o,H b=some o->¬NTp o->(∀φ,o≠.ext φ)->H' b=some o
theorem TSm.tup{K:KW}{H H':Hp}{a:Addr}{xs:List V}(e:TSm H H')(h:SqT K H a xs):SqT K H' a xs:=by
 rcases h with (h|⟨o,h⟩)|h
 ·exact .inl (.inl (e _ _ h (λz=>by rcases z with ⟨_,z⟩|⟨_,_,_,z⟩<;>cases z) λ_ z=>by cases z))
 ·exact .inl (.inr ⟨o,e _ _ h (λz=>by rcases z with ⟨_,z⟩|⟨_,_,_,z⟩<;>cases z) λ_ z=>by cases z⟩)
 ·exact .inr h
section
variable {K:KW}
mutual
theorem Is.mono{H H':Hp}(s:Same H H'):∀{d:PyData} {v:V},Is K H d v->Is K H' d v
 |.none,_,h=>h
 |.bool _,_,h=>h
 |.int _,_,h=>h
 |.str _,_,h=>h
 |.tuple _,_,⟨a,vs,e,h,l⟩=>⟨a,vs,e,Same.tup s h,IsL.mono s l⟩
 |.list _,_,⟨a,vs,e,h,l⟩=>⟨a,vs,e,s _ _ h,IsL.mono s l⟩
 |.dict _,_,.inl ⟨a,ts,e,⟨ep,h⟩,l⟩=>.inl ⟨a,ts,e,⟨ep,s _ _ h⟩,IsKV.mono s l⟩
 |.dict _,_,.inr ⟨a,C,dx,fs,e,h,l⟩=>.inr ⟨a,C,dx,fs,e,s _ _ h,IsOb.mono s l⟩
theorem IsL.mono{H H':Hp}(s:Same H H'):∀{ds:List PyData} {vs:List V},IsL K H ds vs->IsL K H' ds vs
 |[],_,h=>h
 |_::_,_,⟨x,xs,e,h,l⟩=>⟨x,xs,e,Is.mono s h,IsL.mono s l⟩
theorem IsKV.mono{H H':Hp}(s:Same H H'):∀{kvs:List (PyData×PyData)} {ts:List (List Int×Addr×V)},IsKV K H kvs ts->IsKV K H' kvs ts
 |[],_,h=>h
 |(_,_)::_,_,⟨t,tr,e,ek,hk,h,l⟩=>⟨t,tr,e,ek,Same.tup s hk,Is.mono s h,IsKV.mono s l⟩
theorem IsOb.mono{H H':Hp}(s:Same H H'){C:Addr}:∀{kvs:List (PyData×PyData)} {fs:List (Str×V)},IsOb K H C kvs fs->IsOb K H' C kvs fs
 |[],_,h=>h
 |(_,_)::_,_,⟨h,l⟩=>⟨h,IsF.mono s l⟩
theorem IsF.mono{H H':Hp}(s:Same H H'):∀{kvs:List (PyData×PyData)} {fs:List (Str×V)},IsF K H kvs fs->IsF K H' kvs fs
 |[],_,h=>h
 |(_,_)::_,_,⟨n,x,fr,e,ek,h,l⟩=>⟨n,x,fr,e,ek,Is.mono s h,IsF.mono s l⟩
end
mutual
theorem Is.monoT{H H':Hp}(s:TSm H H'):∀{d:PyData} {v:V},F5 d=true->Is K H d v->Is K H' d v
 |.none,_,_,h=>h
 |.bool _,_,_,h=>h
 |.int _,_,_,h=>h
 |.str _,_,_,h=>h
 |.tuple _,_,f,⟨a,vs,e,h,l⟩=>⟨a,vs,e,s.tup h,IsL.monoT s f l⟩
 |.list _,_,f,_=>absurd f ck
 |.dict _,_,f,_=>absurd f ck
theorem IsL.monoT{H H':Hp}(s:TSm H H'):∀{ds:List PyData} {vs:List V},fixDs ds=true->IsL K H ds vs->IsL K H' ds vs
 |[],_,_,h=>h
 |d::ds,_,f,⟨x,xs,e,h,l⟩=>⟨x,xs,e,Is.monoT s (by rw[fixDs,cw]at f;exact f.1) h,IsL.monoT s (by rw[fixDs,cw]at f;exact f.2) l⟩
end
theorem IsL.length{H:Hp}:∀{ds:List PyData} {vs:List V},IsL K H ds vs->vs.length=ds.length
 |[],_,h=>by rw[show _=[] from h];rfl
 |_::_,_,⟨x,xs,e,_,l⟩=>by rw[e,cM,cM,IsL.length l]
theorem IsL.get{H:Hp}:∀{ds:List PyData} {vs:List V} {i:Nat} {d:PyData},IsL K H ds vs->ds[i]?=some d->∃v,vs[i]?=some v/\Is K H d v
 |[],_,_,_,_,e=>by simp at e
 |d::ds,_,0,_,⟨x,xs,e,h,l⟩,q=>by
  subst e
  simp at q
  subst q
  exact⟨x,rfl,h⟩
 |d::ds,_,i+1,_,⟨x,xs,e,h,l⟩,q=>by
  subst e
  obtain⟨v,a,b⟩:=IsL.get (i:=i) l (by simpa using q)
  exact⟨v,by simpa using a,b⟩
end
section
variable {X:Cx} {pins:List (Addr×Obj)} {σ:L2.St} {H:Hp} {s:Shared}
mutual
theorem RX(I:Inv X pins σ H s):∀{d:PyData} {v:V} {u:Value},d.canLay0=true->Is (Wr X) H d v->RelV v u->∃as,Reads s.heap u d as
 |.none,_,_,_,h,r=>by subst h;cases r;exact⟨_,.none⟩
 |.bool _,_,_,_,h,r=>by subst h;cases r;exact⟨_,.bool _⟩
 |.int _,_,_,_,h,r=>by subst h;obtain⟨t,rfl⟩:=r;exact⟨_,.int _ _⟩
 |.str _,_,_,_,h,r=>by subst h;obtain⟨t,rfl⟩:=r;exact⟨_,.str _ _⟩
 |.tuple ds,_,_,c0,⟨a,vs,e,h,l⟩,r=>by
  subst e;cases r
  obtain⟨its,rr,⟨o,e,c,n,q⟩,_⟩:=I.tuple h
  obtain⟨as,z⟩:=readsL I (by rw[PyData.canLay0]at c0;exact c0) l rr
  exact⟨_,.tuple e c q z⟩
 |.list ds,_,_,c0,⟨a,vs,e,h,l⟩,r=>by
  subst e;cases r
  obtain⟨_,its,n,rr,e⟩:=I.hok a _ h
  obtain⟨as,z⟩:=readsL I (by rw[PyData.canLay0]at c0;exact c0) l rr
  exact⟨_,.list e rfl rfl z⟩
 |.dict kvs,_,_,c0,_,_=>by rw[PyData.canLay0]at c0;cases c0
theorem readsL(I:Inv X pins σ H s):∀{ds:List PyData} {vs:List V} {us:List Value},PyData.canLayAll0 ds=true->IsL (Wr X) H ds vs->Vals vs us->∃as,ReadsAll s.heap us ds as
 |[],_,_,_,h,r=>by subst h;cases r;exact⟨_,.nil⟩
 |d::ds,_,_,c0,⟨x,xs,e,h,l⟩,r=>by
  subst e
  rw[PyData.canLayAll0,cw]at c0
  cases r with
  |cons r1 r2 =>
   obtain⟨as,z⟩:=RX I c0.1 h r1
   obtain⟨bs,y⟩:=readsL I c0.2 l r2
   exact⟨_,.cons z y⟩
end
def az(K:KW):R2:=λx y H Q=>∃d e,Is K H d x/\Is K H e y/\okD d=true/\okD e=true/\Q (.bl (PyData.eqv d e)) H
def av(K:KW):R2:=λx y H Q=>∃d e,Is K H d x/\Is K H e y/\okD d=true/\okD e=true/\Q (.bl (!PyData.eqv d e)) H
theorem TC(hu:X.A.units+64<cLine):OpR X (compareOp .Eq) (az (Wr X)):=by
 intro pins s σ H x y v u Q I rx ry h
 obtain⟨d,e,hd,he,od,oe,q⟩:=h
 obtain⟨as,ra⟩:=RX I (Hv od) hd rx
 obtain⟨bs,rb⟩:=RX I (Hv oe) he ry
 exact eq_dataH ra rb od oe hu ⟨.bl _,H,I,rfl,q⟩
theorem G2(hu:X.A.units+64<cLine):OpR X (compareOp .NotEq) (av (Wr X)):=by
 intro pins s σ H x y v u Q I rx ry h
 obtain⟨d,e,hd,he,od,oe,q⟩:=h
 obtain⟨as,ra⟩:=RX I (Hv od) hd rx
 obtain⟨bs,rb⟩:=RX I (Hv oe) he ry
 exact ne_dataH ra rb od oe hu ⟨.bl _,H,I,rfl,q⟩
end
end DL
end
section
namespace DL
open PySem L2
inductive L where
 |d (x:PyData)
 |m (xs:List PyData)
 |c (xs:List PyData)
 |k (kvs:List (List Int×PyData))
 |g (x:PyData)
abbrev DS:=List (Option L)
inductive Ow where
 |l (xs:List PyData)
 |t (kvs:List (List Int×PyData))
def Ow.L:Ow->L
 |.l xs=>.m xs
 |.t kvs=>.k kvs
def BC(kvs:List (List Int×PyData)):List (PyData×PyData):=kvs.map λp=>(.tuple (p.1.map PyData.int),p.2)
def Ow.D:Ow->PyData
 |.l xs=>.list xs
 |.t kvs=>.dict (BC kvs)
def Ow.fl:Ow->Bool
 |.l _=>true
 |.t _=>false
theorem Ow.not_d{o:Ow}{x:PyData}:o.L≠.d x:=by cases o<;>exact λz=>nomatch z
theorem Ow.not_g{o:Ow}{x:PyData}:o.L≠.g x:=by cases o<;>exact λz=>nomatch z
theorem Ow.not_c{o:Ow}{x:List PyData}:o.L≠.c x:=by cases o<;>exact λz=>nomatch z
theorem Ow.inj{o p:Ow}(h:o.L=p.L):o=p:=by
 cases o<;>cases p<;>cases h<;>rfl
def IsO(K:KW)(H:Hp):Ow->Addr->HO->Prop
 |.l xs,_,h=>∃vs,h = .lst vs/\IsL K H xs vs
 |.t kvs,a,h=>∃ts,(∃ep,h = .ext (Fl a ts ep))/\IsKV K H (BC kvs) ts
theorem IsO.mono{K:KW}{H H':Hp}(s:Same H H'):∀{o:Ow} {a:Addr} {h:HO},IsO K H o a h->IsO K H' o a h
 |.l _,_,_,⟨vs,e,l⟩=>⟨vs,e,l.mono s⟩
 |.t _,_,_,⟨ts,e,l⟩=>⟨ts,e,l.mono s⟩
theorem IsO.is{K:KW}{H:Hp}:∀{o:Ow} {a:Addr} {h:HO},IsO K H o a h->H a=some h->Is K H o.D (.ref a)
 |.l _,a,_,⟨vs,e,l⟩,z=>⟨a,vs,rfl,e▸z,l⟩
 |.t _,a,_,⟨ts,⟨ep,e⟩,l⟩,z=>.inl ⟨a,ts,rfl,⟨ep,e▸z⟩,l⟩
open Classical in
noncomputable def hid(S:Addr->Prop)(H:Hp):Hp:=λa=>if S a then none else H a
theorem hid_iff{S:Addr->Prop}{H:Hp}{b:Addr}{o:HO}:hid S H b=some o↔¬S b/\H b=some o:=by
 unfold hid
 by_cases h:S b
 ·rw[if_pos h];exact⟨λz=>(nomatch z),λz=>absurd h z.1⟩
 ·rw[if_neg h];exact⟨λz=>⟨h,z⟩,λz=>z.2⟩
def Keep(S:Addr->Prop)(H:Hp)(S':Addr->Prop)(H':Hp):Prop:=∀b o,¬S b->H b=some o->¬S' b/\H' b=some o
def Chg(M:Addr->Prop)(H H':Hp):Prop:=∀b o,¬M b->H b=some o->H' b=some o
theorem Keep.same{S S':Addr->Prop}{H H':Hp}(k:Keep S H S' H'):Same (hid S H) (hid S' H'):=λb o e=>hid_iff.mpr (k b o (hid_iff.mp e).1 (hid_iff.mp e).2)
theorem Keep.refl{S:Addr->Prop}{H:Hp}:Keep S H S H:=λ_ _ h e=>⟨h,e⟩
theorem Keep.trans{S S1 S2:Addr->Prop}{H H1 H2:Hp}(a:Keep S H S1 H1)(b:Keep S1 H1 S2 H2):Keep S H S2 H2:=λc o h e=>b c o (a c o h e).1 (a c o h e).2
theorem Chg.refl{M:Addr->Prop}{H:Hp}:Chg M H H:=λ_ _ _ e=>e
theorem Chg.trans{M:Addr->Prop}{H H1 H2:Hp}(a:Chg M H H1)(b:Chg M H1 H2):Chg M H H2:=λc o h e=>b c o h (a c o h e)
theorem Chg.of{M:Addr->Prop}{H H':Hp}(s:Same H H'):Chg M H H':=λb o _ e=>s b o e
theorem Chg.keep{S M:Addr->Prop}{H H':Hp}(c:Chg M H H')(sub:∀a,M a->S a):Keep S H S H':=λb o h e=>⟨h,c b o (λz=>h (sub b z)) e⟩
theorem Same.keep{S:Addr->Prop}{H H':Hp}(s:Same H H'):Keep S H S H':=λb o h e=>⟨h,s b o e⟩
theorem same_hid{S:Addr->Prop}{H:Hp}:Same (hid S H) H:=λb o e=>(hid_iff.mp e).2
theorem HD.unhid{S:Addr->Prop}{H:Hp}{a:Addr}{ts:List (List Int×Addr×V)}(h:HD (hid S H) a ts):HD H a ts:=let ⟨ep,e⟩:=h;⟨ep,(hid_iff.mp e).2⟩
theorem Bf{S S':Addr->Prop}{H:Hp}(h:∀a,S' a->S a):Same (hid S H) (hid S' H):=Keep.same λb o n e=>⟨λz=>n (h b z),e⟩
theorem tsS{H H':Hp}(s:Same H H'):TSm H H':=λb o e _ _=>s b o e
theorem TSm.refl{H:Hp}:TSm H H:=λ_ _ e _ _=>e
mutual
def Dp(K:KW)(S:Addr->Prop)(H:Hp):PyData->V->List Addr->Prop
 |.none,v,F=>v = .non/\F=[]
 |.bool b,v,F=>v = .bl b/\F=[]
 |.int i,v,F=>v = .int i/\F=[]
 |.str x,v,F=>v = .str x/\F=[]
 |.tuple ds,v,F=>∃a vs,v = .ref a/\SqT K (hid S H) a vs/\DpL K S H ds vs F
 |.list ds,v,F=>∃a vs G,v = .ref a/\F=a::G/\H a=some (.lst vs)/\DpL K S H ds vs G
 |.dict kvs,v,F=>∃a C dx fs G,v = .ref a/\F=a::G/\H a=some (.ins C dx fs)/\DpO K S H C kvs fs G
def DpL(K:KW)(S:Addr->Prop)(H:Hp):List PyData->List V->List Addr->Prop
 |[],vs,F=>vs=[]/\F=[]
 |d::ds,vs,F=>∃x xs F1 F2,vs=x::xs/\F=F1++F2/\Dp K S H d x F1/\DpL K S H ds xs F2
def DpO(K:KW)(S:Addr->Prop)(H:Hp)(C:Addr):List (PyData×PyData)->List (Str×V)->List Addr->Prop
 |[],_,_=>False
 |(k,c)::r,fs,F=>(∃n,k = .list []/\c = .str n/\K.mg n=some (.ref C))/\DpF K S H r fs F
def DpF(K:KW)(S:Addr->Prop)(H:Hp):List (PyData×PyData)->List (Str×V)->List Addr->Prop
 |[],fs,F=>fs=[]/\F=[]
 |(k,d)::r,fs,F=>∃n x fr F1 F2,fs=(n,x)::fr/\F=F1++F2/\k = .str n/\Dp K S H d x F1/\DpF K S H r fr F2
end
section
variable {K:KW} {S S':Addr->Prop} {H H':Hp}
mutual
theorem Dp.mono(s:TSm (hid S H) (hid S' H')):∀{d:PyData} {v:V} {F:List Addr},(∀a∈F,H' a=H a)->Dp K S H d v F->Dp K S' H' d v F
 |.none,_,_,_,h=>h
 |.bool _,_,_,_,h=>h
 |.int _,_,_,_,h=>h
 |.str _,_,_,_,h=>h
 |.tuple _,_,_,f,⟨a,vs,e,h,l⟩=>⟨a,vs,e,s.tup h,DpL.mono s f l⟩
 |.list _,_,_,f,⟨a,vs,G,e,e2,h,l⟩=>⟨a,vs,G,e,e2,(f a (by rw[e2];exact J' ..)).trans h,DpL.mono s (λb hb=>f b (by rw[e2];exact E' _ hb)) l⟩
 |.dict _,_,_,f,⟨a,C,dx,fs,G,e,e2,h,l⟩=>⟨a,C,dx,fs,G,e,e2,(f a (by rw[e2];exact J' ..)).trans h,DpO.mono s (λb hb=>f b (by rw[e2];exact E' _ hb)) l⟩
theorem DpL.mono(s:TSm (hid S H) (hid S' H')):∀{ds:List PyData} {vs:List V} {F:List Addr},(∀a∈F,H' a=H a)->DpL K S H ds vs F->DpL K S' H' ds vs F
 |[],_,_,_,h=>h
 |_::_,_,_,f,⟨x,xs,F1,F2,e,e2,h,l⟩=>⟨x,xs,F1,F2,e,e2,Dp.mono s (λb hb=>f b (by rw[e2];exact cU _ hb)) h,DpL.mono s (λb hb=>f b (by rw[e2];exact L' _ hb)) l⟩
theorem DpO.mono(s:TSm (hid S H) (hid S' H')){C:Addr}:∀{kvs:List (PyData×PyData)} {fs:List (Str×V)} {F:List Addr},(∀a∈F,H' a=H a)->DpO K S H C kvs fs F->DpO K S' H' C kvs fs F
 |[],_,_,_,h=>h
 |(_,_)::_,_,_,f,⟨h,l⟩=>⟨h,DpF.mono s f l⟩
theorem DpF.mono(s:TSm (hid S H) (hid S' H')):∀{kvs:List (PyData×PyData)} {fs:List (Str×V)} {F:List Addr},(∀a∈F,H' a=H a)->DpF K S H kvs fs F->DpF K S' H' kvs fs F
 |[],_,_,_,h=>h
 |(_,_)::_,_,_,f,⟨n,x,fr,F1,F2,e,e2,ek,h,l⟩=>⟨n,x,fr,F1,F2,e,e2,ek,Dp.mono s (λb hb=>f b (by rw[e2];exact cU _ hb)) h,DpF.mono s (λb hb=>f b (by rw[e2];exact L' _ hb)) l⟩
end
end
abbrev DpT(K:KW)(S:Addr->Prop)(H:Hp)(d:PyData)(v:V)(F:List Addr):Prop:=Dp K S H d v F
theorem DpT.of{K:KW}{S:Addr->Prop}{H:Hp}{d:PyData}{v:V}{F:List Addr}(h:Dp K S H d v F):DpT K S H d v F:=h
def GR(K:KW)(S M:Addr->Prop)(τ:DS)(σ:St)(H:Hp):Prop:=∃φ:Nat->List Addr,∀(i:Nat) (d:PyData),τ[i]?=some (some (.g d)) ->
 (∃v,σ[i]?=some (some v)/\DpT K S H d v (φ i))/\(φ i).Nodup/\(∀a∈φ i,M a)/\(∀(j:Nat) (o:Ow) (a:Addr),τ[j]?=some (some o.L)->σ[j]?=some (some (.ref a))->a∉φ i) /\
  ∀(j:Nat) (d':PyData),j≠i->τ[j]?=some (some (.g d'))->∀a∈φ i,a∉φ j
theorem GR.nil{K:KW}{S M:Addr->Prop}{τ:DS}{σ:St}{H:Hp}(h:∀(i:Nat) (d:PyData),τ[i]?≠some (some (.g d))):GR K S M τ σ H:=⟨λ_=>[],λi d e=>absurd e (h i d)⟩
theorem GR.to{K:KW}{S M S' M':Addr->Prop}{τ t7:DS}{σ σ':St}{H H':Hp}(g:GR K S M τ σ H)(ht:∀(i:Nat) (d:PyData),t7[i]?=some (some (.g d))->τ[i]?=some (some (.g d))/\σ'[i]?=σ[i]?)
  (ho:∀(j:Nat) (o:Ow) (a:Addr),t7[j]?=some (some o.L)->σ'[j]?=some (some (.ref a))->(∃o':Ow,τ[j]?=some (some o'.L)/\σ[j]?=some (some (.ref a)))\/¬M a)
  (hm:∀a,M a->(∀(j:Nat) (o:Ow),τ[j]?=some (some o.L)->σ[j]?≠some (some (.ref a)))->M' a/\H' a=H a) (ts:TSm (hid S H) (hid S' H')):GR K S' M' t7 σ' H':=by
 obtain⟨φ,g⟩:=g
 refine⟨φ,λi d e=>?_⟩
 obtain⟨e1,e2⟩:=ht i d e
 obtain⟨⟨v,g1,g2⟩,g3,g4,g5,g6⟩:=g i d e1
 have hm':∀a∈φ i,M' a/\H' a=H a:=λa ha=>hm a (g4 a ha) λj o q q2=>g5 j o a q q2 ha
 refine⟨⟨v,e2.trans g1,g2.mono ts λa ha=>(hm' a ha).2⟩,g3,λa ha=>(hm' a ha).1,λj o a q1 q2 ha=>?_,λj d' hj q=>g6 j d' hj (ht j d' q).1⟩
 rcases ho j o a q1 q2 with ⟨o',z1,z2⟩|z
 ·exact g5 j o' a z1 z2 ha
 ·exact z (g4 a ha)
structure R(K:KW)(S M:Addr->Prop)(τ:DS)(σ:St)(H:Hp):Prop where
 len:σ.length=τ.length
 dat:∀(i:Nat) (x:PyData),τ[i]?=some (some (.d x))->∃v,σ[i]?=some (some v)/\Is K (hid S H) x v
 mt:∀(i:Nat) (o:Ow),τ[i]?=some (some o.L)->∃(a:Addr) (h:HO),σ[i]?=some (some (.ref a))/\M a/\H a=some h/\IsO K (hid S H) o a h
 cst:∀(i:Nat) (xs:List PyData),τ[i]?=some (some (.c xs))->∃(a:Addr) (vs:List V),σ[i]?=some (some (.ref a))/\SqL K (hid S H) a vs/\IsL K (hid S H) xs vs
 inj:∀(i j:Nat) (o p:Ow) (a:Addr),τ[i]?=some (some o.L)->τ[j]?=some (some p.L)->σ[i]?=some (some (.ref a))->σ[j]?=some (some (.ref a))->i=j
 sub:∀a,M a->S a
 ex:∀a,S a->∃o,H a=some o
 gr:GR K S M τ σ H
def Res(K:KW)(fr:Bool)(S:Addr->Prop)(H H':Hp)(d:PyData)(v:V):Prop:=match fr with
 |false=>Is K (hid S H') d v
 |true=>∃(o:Ow) (a:Addr) (h:HO),d=o.D/\v = .ref a/\H a=none/\H' a=some h/\IsO K (hid (λb=>S b\/b=a) H') o a h
section
variable {K:KW} {S M:Addr->Prop} {τ:DS} {σ:St} {H H':Hp}
theorem R.fresh(r:R K S M τ σ H){a:Addr}(h:H a=none):¬S a:=λz=>by
 obtain⟨o,e⟩:=r.ex a z
 rw[h]at e;cases e
theorem R.ml(r:R K S M τ σ H)(i:Nat)(xs:List PyData)(e:τ[i]?=some (some (.m xs))):∃(a:Addr) (vs:List V),σ[i]?=some (some (.ref a))/\M a/\H a=some (.lst vs)/\IsL K (hid S H) xs vs:=by
 obtain⟨a,h,h1,h2,h3,vs,rfl,l⟩:=r.mt i (.l xs) e
 exact⟨a,vs,h1,h2,h3,l⟩
theorem R.same(r:R K S M τ σ H)(s:Same H H'):R K S M τ σ H' where
 len:=r.len
 dat:=λi x e=>let ⟨v,a,b⟩:=r.dat i x e;⟨v,a,b.mono (Same.keep s).same⟩
 mt:=λi o e=>let ⟨a,h,h1,h2,h3,h4⟩:=r.mt i o e;⟨a,h,h1,h2,s _ _ h3,h4.mono (Same.keep s).same⟩
 cst:=λi xs e=>let ⟨a,vs,h1,h2,h3⟩:=r.cst i xs e;⟨a,vs,h1,(Same.keep s).same.seq h2,h3.mono (Same.keep s).same⟩
 inj:=r.inj
 sub:=r.sub
 ex:=λa h=>let ⟨o,e⟩:=r.ex a h;⟨o,s _ _ e⟩
 gr:=r.gr.to (λi d e=>⟨e,rfl⟩) (λj o a e q=>.inl ⟨o,e,q⟩) (λa h _=>⟨h,by obtain⟨o,e⟩:=r.ex a (r.sub a h);rw[e];exact s _ _ e⟩) (tsS (Same.keep s).same)
theorem Res.is{fr:Bool}{d:PyData}{v:V}(h:Res K fr S H H' d v)(f:∀a,H a=none->¬S a):Is K (hid S H') d v:=by
 cases fr with
 |false=>exact h
 |true =>
  obtain⟨o,a,ho,rfl,rfl,h1,h2,h3⟩:=h
  exact IsO.is (h3.mono (Bf λb z=>.inl z)) (hid_iff.mpr ⟨f a h1,h2⟩)
theorem Res.imp{fr:Bool}{d:PyData}{v:V}(h:Res K fr S H H' d v)(f:∀a,H a=none->¬S a)(fr':Bool)(hf:fr'=true->fr=true):Res K fr' S H H' d v:=by
 cases fr' with
 |false=>exact h.is f
 |true=>rw[hf rfl]at h;exact h
end
abbrev DX:=DS->Option (PyData×DS)
abbrev DT:=DS->Option (Bool×DS)
inductive Ar where
 |d (x:PyData)
 |s (i:Nat)
abbrev DA:=DS->Option (List Ar×DS)
inductive Out where
 |nx (τ:DS)
 |bk (τ:DS)
 |ct (τ:DS)
 |rt (d:PyData) (τ:DS)
abbrev DB:=DS->Option Out
def Like(τ t7:DS):Prop:=t7.length=τ.length/\∀j:Nat,((∀x,t7[j]?=some (some (.d x))↔τ[j]?=some (some (.d x)))/\∀x,t7[j]?=some (some (.c x))↔τ[j]?=some (some (.c x)))/\∀b:Bool,(∃o:Ow,o.fl=b/\t7[j]?=some (some o.L))↔∃o:Ow,o.fl=b/\τ[j]?=some (some o.L)
theorem Like.refl{τ:DS}:Like τ τ:=⟨rfl,λj=>⟨⟨λx=>fP,λx=>fP⟩,λb=>fP⟩⟩
theorem Like.trans{τ t6 t8:DS}(a:Like τ t6)(b:Like t6 t8):Like τ t8:=⟨b.1.trans a.1,λj=>⟨⟨λx=>((b.2 j).1.1 x).trans ((a.2 j).1.1 x),λx=>((b.2 j).1.2 x).trans ((a.2 j).1.2 x)⟩,λc=>((b.2 j).2 c).trans ((a.2 j).2 c)⟩⟩
theorem Like.own{τ t7:DS}(a:Like τ t7)(j:Nat):(∃o:Ow,t7[j]?=some (some o.L))↔∃o:Ow,τ[j]?=some (some o.L) :=
 ⟨λ⟨o,h⟩=>let ⟨p,_,q⟩:=((a.2 j).2 o.fl).mp ⟨o,rfl,h⟩;⟨p,q⟩,λ⟨o,h⟩=>let ⟨p,_,q⟩:=((a.2 j).2 o.fl).mpr ⟨o,rfl,h⟩;⟨p,q⟩⟩
theorem Like.ml{τ t7:DS}(a:Like τ t7){j:Nat}{xs:List PyData}(h:t7[j]?=some (some (.m xs))):∃ys,τ[j]?=some (some (.m ys)):=by
 obtain⟨o,e,h⟩:=((a.2 j).2 true).mp ⟨.l xs,rfl,h⟩
 cases o with
 |l ys=>exact⟨ys,h⟩
 |t ys=>cases e
theorem Like.kl{τ t7:DS}(a:Like τ t7){j:Nat}{xs:List (List Int×PyData)}(h:t7[j]?=some (some (.k xs))):∃ys,τ[j]?=some (some (.k ys)):=by
 obtain⟨o,e,h⟩:=((a.2 j).2 false).mp ⟨.t xs,rfl,h⟩
 cases o with
 |l ys=>cases e
 |t ys=>exact⟨ys,h⟩
structure E K (t:TE) (fr:Bool) (f:DX):Prop where
 like:∀τ d t7,f τ=some (d,t7)->Like τ t7
 run:∀S M τ σ H (Q:VK) d t7,R K S M τ σ H->f τ=some (d,t7)->(∀v H',R K S M t7 σ H'->Chg M H H'->Res K fr S H H' d v->Q v H')->t σ H Q
structure T K (t:TT) (f:DT):Prop where
 like:∀τ b t7,f τ=some (b,t7)->Like τ t7
 run:∀S M τ σ H (Q:Bool->Hp->Prop) b t7,R K S M τ σ H->f τ=some (b,t7)->(∀H',R K S M t7 σ H'->Chg M H H'->Q b H')->t σ H Q
def Yv(K:KW)(S:Addr->Prop)(σ:St)(H:Hp):List Ar->List V->Prop
 |[],vs=>vs=[]
 |.d x::rs,vs=>∃v us,vs=v::us/\Is K (hid S H) x v/\Yv K S σ H rs us
 |.s i::rs,vs=>∃v us,vs=v::us/\σ[i]?=some (some v)/\Yv K S σ H rs us
structure A K (t:TA) (f:DA):Prop where
 like:∀τ rs t7,f τ=some (rs,t7)->Like τ t7
 run:∀S M τ σ H (Q:List V->Hp->Prop) rs t7,R K S M τ σ H->f τ=some (rs,t7)->(∀vs H',R K S M t7 σ H'->Chg M H H'->Yv K S σ H' rs vs->Q vs H')->t σ H Q
structure Frm where
 S:Addr->Prop
 M:Addr->Prop
 H:Hp
 ar:List (Option V)
structure RF(K:KW)(F:Frm)(S M:Addr->Prop)(τ:DS)(σ:St)(H:Hp):Prop where
 r:R K S M τ σ H
 sS:∀a,F.S a->S a
 old:∀b o,F.H b=some o->¬F.M b->H b=some o
 new:∀a,M a->F.M a\/F.H a=none
 fm:∀a,F.M a->M a
 fs:∀a,F.S a->∃o,F.H a=some o
 fsub:∀a,F.M a->F.S a
 snew:∀a,S a->F.S a\/F.H a=none
 par:∀(i:Nat) (v:V),F.ar[i]?=some (some v)->σ[i]?=some (some v)
 pm:∀(i:Nat) (v:V),F.ar[i]?=some (some v)->∃o:Ow,τ[i]?=some (some o.L)
 fma:∀a,F.M a->∃i:Nat,F.ar[i]?=some (some (.ref a))
def Gl(K:KW)(F:Frm)(fr:Bool)(S:Addr->Prop)(H:Hp)(D:Mp):Out->Prop
 |.nx t7=>∀S' M' σ' H',RF K F S' M' t7 σ' H'->Keep S H S' H'->D.nx σ' H'
 |.bk t7=>∀S' M' σ' H',RF K F S' M' t7 σ' H'->Keep S H S' H'->D.bk σ' H'
 |.ct t7=>∀S' M' σ' H',RF K F S' M' t7 σ' H'->Keep S H S' H'->D.ct σ' H'
 |.rt d t7=>∀S' M' σ' H' v,RF K F S' M' t7 σ' H'->Res K fr F.S F.H H' d v->D.rt v H'
def B(K:KW)(np:Nat)(t:TS)(fr:Bool)(f:DB):Prop:=∀(F:Frm) S M τ σ H (D:Mp) out,F.ar.length<=np->RF K F S M τ σ H->f τ=some out->Gl K F fr S H D out->t D σ H
variable {K:KW}
section
variable {S M:Addr->Prop} {τ t7:DS} {σ:St} {H H' H2:Hp}
theorem R.none(r:R K S M τ σ H')(c:Chg M H H'){a:Addr}(h:H' a=Option.none):H a=Option.none:=by
 cases e:H a with
 |none=>rfl
 |some o =>
  exfalso
  by_cases hm:M a
  ·obtain⟨o',e'⟩:=r.ex a (r.sub a hm)
   rw[h]at e';cases e'
  ·have:=c a o hm e
   rw[h]at this;cases this
theorem Res.back{fr:Bool}{d:PyData}{v:V}(h:Res K fr S H' H2 d v)(r:R K S M τ σ H')(c:Chg M H H'):Res K fr S H H2 d v:=by
 cases fr with
 |false=>exact h
 |true =>
  obtain⟨xs,a,vs,e1,e2,h1,h2,h3⟩:=h
  exact⟨xs,a,vs,e1,e2,r.none c h1,h2,h3⟩
theorem R.isr(r:R K S M τ σ H){fr:Bool}{d:PyData}{v:V}(h:Res K fr S H H' d v):Is K (hid S H') d v:=h.is λ_ z=>r.fresh z
end
theorem E.weak{t:TE}{fr:Bool}{f:DX}(h:E K t fr f):E K t false f:=⟨h.like,λS M τ σ H Q d t7 r e q=>h.run S M τ σ H Q d t7 r e λv H' r' c res=>q v H' r' c (r.isr res)⟩
def AD(i:Nat)(τ:DS):Option (PyData×DS):=match τ[i]? with
 |some (some (.d x))=>some (x,τ)
 |_=>none
theorem AH{i:Nat}:E K (Fg i) false (AD i):=by
 refine⟨λτ d t7 e=>?_,?_⟩
 ·unfold AD at e;split at e
  ·cases e;exact .refl
  ·cases e
 intro S M τ σ H Q d t7 r e q
 unfold AD at e
 split at e
 ·rename_i x hx
  cases e
  obtain⟨v,h1,h2⟩:=r.dat i _ hx
  exact⟨v,h1,q v H r .refl h2⟩
 ·cases e
def dC(d:PyData)(τ:DS):Option (PyData×DS):=some (d,τ)
theorem e_c{d:PyData}{v:V}(h:∀H,Is K H d v):E K (tC v) false (dC d):=by
 refine⟨λτ d t7 e=>?_,?_⟩
 ·cases e;exact .refl
 intro S M τ σ H Q d' t7 r e q
 cases e
 exact q v H r .refl (h _)
theorem AU{i:Int}:E K (tC (.int i)) false (dC (.int i)):=e_c λ_=>rfl
theorem K8{b:Bool}:E K (tC (.bl b)) false (dC (.bool b)):=e_c λ_=>rfl
def OR(K:KW)(fr:Bool)(r:R2)(F:PyData->PyData->Option PyData):Prop:=∀(S:Addr->Prop) H x y dx dy d (Q:VK),(∀a,H a=none->¬S a)->Is K (hid S H) dx x->Is K (hid S H) dy y->F dx dy=some d->(∀v H',Same H H'->Res K fr S H H' d v->Q v H')->r x y H Q
def dOp(F:PyData->PyData->Option PyData)(a b:DX)(τ:DS):Option (PyData×DS):=(a τ).bind λp=>(b p.2).bind λq=>(F p.1 q.1).map λd=>(d,q.2)
theorem Ah{fr fa fb:Bool}{r:R2}{F:PyData->PyData->Option PyData}{ta tb:TE}{a b:DX}(h:OR K fr r F)(ha:E K ta fa a)(hb:E K tb fb b):E K (tOp r ta tb) fr (dOp F a b):=by
 refine⟨λτ d t7 e=>?_,?_⟩
 ·unfold dOp at e;obtain⟨⟨x,t6⟩,e1,e⟩:=oB e;obtain⟨⟨y,t8⟩,e2,e⟩:=oB e;obtain⟨z,e3,e⟩:=oM e;cases e;exact(ha.like _ _ _ e1).trans (hb.like _ _ _ e2)
 intro S M τ σ H Q d t7 rr e q
 unfold dOp at e
 obtain⟨⟨x,t6⟩,e1,e⟩:=oB e
 obtain⟨⟨y,t8⟩,e2,e⟩:=oB e
 obtain⟨z,e3,e⟩:=oM e
 cases e
 refine ha.run S M τ σ H _ x t6 rr e1 λv1 H1 r1 c1 i1=>?_
 refine hb.run S M t6 σ H1 _ y t8 r1 e2 λv2 H2 r2 c2 i2=>?_
 refine h S H2 v1 v2 x y d _ (λ_=>r2.fresh) ((rr.isr i1).mono (c2.keep r1.sub).same) (r1.isr i2) e3 λv H' s res=>?_
 exact q v H' (r2.same s) ((c1.trans c2).trans (.of s)) (res.back r2 (c1.trans c2))
def UR(K:KW)(fr:Bool)(r:V->Hp->VK->Prop)(F:PyData->Option PyData):Prop:=∀(S:Addr->Prop) H x dx d (Q:VK),(∀a,H a=none->¬S a)->Is K (hid S H) dx x->F dx=some d->(∀v H',Same H H'->Res K fr S H H' d v->Q v H')->r x H Q
def dUn(F:PyData->Option PyData)(a:DX)(τ:DS):Option (PyData×DS):=(a τ).bind λp=>(F p.1).map λd=>(d,p.2)
theorem Vn{fr fa:Bool}{r:V->Hp->VK->Prop}{F:PyData->Option PyData}{ta:TE}{a:DX}(h:UR K fr r F)(ha:E K ta fa a):E K (tUn r ta) fr (dUn F a):=by
 refine⟨λτ d t7 e=>?_,?_⟩
 ·unfold dUn at e;obtain⟨⟨x,t6⟩,e1,e⟩:=oB e;obtain⟨z,e3,e⟩:=oM e;cases e;exact ha.like _ _ _ e1
 intro S M τ σ H Q d t7 rr e q
 unfold dUn at e
 obtain⟨⟨x,t6⟩,e1,e⟩:=oB e
 obtain⟨z,e3,e⟩:=oM e
 cases e
 refine ha.run S M τ σ H _ x _ rr e1 λv1 H1 r1 c1 i1=>?_
 refine h S H1 v1 x d _ (λ_=>r1.fresh) (rr.isr i1) e3 λv H' s res=>?_
 exact q v H' (r1.same s) (c1.trans (.of s)) (res.back r1 c1)
def fI(g:Int->Int->PyData):PyData->PyData->Option PyData
 |.int i,.int j=>some (g i j)
 |_,_=>none
def fC(C:Int->Int->Prop)[∀i j,Decidable (C i j)](g:Int->Int->PyData):PyData->PyData->Option PyData
 |.int i,.int j=>if C i j then some (g i j) else none
 |_,_=>none
theorem Ya{g:Int->Int->PyData}{x y d:PyData}(h:fI g x y=some d):∃i j,x = .int i/\y = .int j/\d=g i j:=by
 unfold fI at h
 split at h
 ·exact⟨_,_,rfl,rfl,(G' h).symm⟩
 ·cases h
theorem Yb{C:Int->Int->Prop}[∀i j,Decidable (C i j)]{g:Int->Int->PyData}{x y d:PyData}(h:fC C g x y=some d):∃i j,x = .int i/\y = .int j/\C i j/\d=g i j:=by
 unfold fC at h
 split at h
 ·split at h
  ·rename_i hc;exact⟨_,_,rfl,rfl,hc,(G' h).symm⟩
  ·cases h
 ·cases h
theorem VR{g:Int->Int->V}{g':Int->Int->PyData}(h:∀i j H,Is K H (g' i j) (g i j)):OR K false (rI0 g) (fI g'):=by
 intro S H x y dx dy d Q _ ix iy e q
 obtain⟨i,j,rfl,rfl,rfl⟩:=Ya e
 exact⟨i,j,ix,iy,q _ H (λ_ _ e=>e) (h _ _ _)⟩
theorem YB{C:Int->Int->Prop}[∀i j,Decidable (C i j)]{g:Int->Int->V}{g':Int->Int->PyData}(h:∀i j H,Is K H (g' i j) (g i j)):OR K false (rI C g) (fC C g'):=by
 intro S H x y dx dy d Q _ ix iy e q
 obtain⟨i,j,rfl,rfl,c,rfl⟩:=Yb e
 exact⟨i,j,ix,iy,c,q _ H (λ_ _ e=>e) (h _ _ _)⟩
instance {i j:Int}:Decidable (CMulB i j):=by unfold CMulB CMul Bd;infer_instance
instance {i j:Int}:Decidable (Sm i j):=by unfold Sm Bd;infer_instance
instance {i j:Int}:Decidable (Xm i j):=by unfold Xm;infer_instance
def B8:=fI λi j=>.int (i+j)
def N1:=fI λi j=>.int (i-j)
def N2:=fC CMulB λi j=>.int (i*j)
def aA:=fC Sm λi j=>.int (i / j)
def GZ:=fC (λ_ j=>0<j) λi j=>.int (i % j)
def XE:=fC Xm λi j=>.int (i ^ j.toNat)
def fLt:=fI λi j=>.bool (decide (i<j))
def fLe:=fI λi j=>.bool (decide (i<=j))
def fGt:=fI λi j=>.bool (decide (j<i))
def fGe:=fI λi j=>.bool (decide (j<=i))
theorem FT:OR K false (rI0 λi j=>.int (i+j)) B8:=VR λ_ _ _=>rfl
theorem bG:OR K false (rI0 λi j=>.int (i-j)) N1:=VR λ_ _ _=>rfl
theorem Wc:OR K false (rI CMulB λi j=>.int (i*j)) N2:=YB λ_ _ _=>rfl
theorem bI:OR K false (rI Sm λi j=>.int (i / j)) aA:=YB λ_ _ _=>rfl
theorem L6:OR K false (rI (λ_ j=>0<j) λi j=>.int (i % j)) GZ:=YB λ_ _ _=>rfl
theorem Y8:OR K false (rI Xm λi j=>.int (i ^ j.toNat)) XE:=YB λ_ _ _=>rfl
theorem YF:OR K false (rI0 λi j=>.bl (decide (i<j))) fLt:=VR λ_ _ _=>rfl
theorem bH:OR K false (rI0 λi j=>.bl (decide (i<=j))) fLe:=VR λ_ _ _=>rfl
theorem b9:OR K false (rI0 λi j=>.bl (decide (j<i))) fGt:=VR λ_ _ _=>rfl
theorem cA:OR K false (rI0 λi j=>.bl (decide (j<=i))) fGe:=VR λ_ _ _=>rfl
def FZ:PyData->Option PyData
 |.int i=>some (.int (-i))
 |_=>none
theorem O7:UR K false (rU λi=>.int (-i)) FZ:=by
 intro S H x dx d Q _ ix e q
 unfold FZ at e
 split at e
 ·cases e;exact⟨_,ix,q _ H (λ_ _ e=>e) rfl⟩
 ·cases e
def fEq(x y:PyData):Option PyData:=if okD x&&okD y then some (.bool (PyData.eqv x y)) else none
def fNe(x y:PyData):Option PyData:=if okD x&&okD y then some (.bool (!PyData.eqv x y)) else none
theorem Zq:OR K false (az K) fEq:=by
 intro S H x y dx dy d Q _ ix iy e q
 unfold fEq at e
 split at e
 ·rename_i h
  rw[cw]at h
  cases e
  exact⟨dx,dy,ix.mono same_hid,iy.mono same_hid,h.1,h.2,q _ H (λ_ _ e=>e) rfl⟩
 ·cases e
theorem OX:OR K false (av K) fNe:=by
 intro S H x y dx dy d Q _ ix iy e q
 unfold fNe at e
 split at e
 ·rename_i h
  rw[cw]at h
  cases e
  exact⟨dx,dy,ix.mono same_hid,iy.mono same_hid,h.1,h.2,q _ H (λ_ _ e=>e) rfl⟩
 ·cases e
def SJ:PyData->Bool
 |.none=>true
 |_=>false
def Vl(x y:PyData):Option PyData:=match y with
 |.none=>some (.bool (SJ x))
 |_=>none
def Pn(x y:PyData):Option PyData:=match y with
 |.none=>some (.bool (!SJ x))
 |_=>none
def AY:PyData->PyData->Option PyData
 |.list xs,.int i=>atI xs i
 |_,_=>none
def Es:PyData->PyData->Option PyData
 |.tuple xs,.int i=>atI xs i
 |_,_=>none
theorem Te{H:Hp}{ds:List PyData}{vs:List V}{i:Int}{d:PyData}(h:IsL K H ds vs)(e:atI ds i=some d):∃v,atI vs i=some v/\Is K H d v:=by
 unfold atI at e ⊢
 rw[h.length]
 cases q:ixN ds.length i with
 |none=>rw[q]at e;cases e
 |some j =>
  rw[q]at e
  exact h.get (show ds[j]?=some d from e)
theorem BI:OR K false (VI K) AY:=by
 intro S H x y dx dy d Q _ ix iy e q
 unfold AY at e
 split at e
 ·obtain⟨a,vs,rfl,h,l⟩:=ix
  obtain⟨v,h1,h2⟩:=Te l e
  exact⟨a,vs,_,v,rfl,iy,SqL.of (hid_iff.mp h).2,h1,q _ H (λ_ _ e=>e) h2⟩
 ·cases e
theorem Jj:OR K false (aw K) Es:=by
 intro S H x y dx dy d Q _ ix iy e q
 unfold Es at e
 split at e
 ·obtain⟨a,vs,rfl,h,l⟩:=ix
  obtain⟨v,h1,h2⟩:=Te l e
  exact⟨a,vs,_,v,rfl,iy,Same.tup same_hid h,h1,q _ H (λ_ _ e=>e) h2⟩
 ·cases e
theorem KI{H:Hp}:∀{xs ys:List PyData} {vs us:List V},IsL K H xs vs->IsL K H ys us->IsL K H (xs++ys) (vs++us)
 |[],_,_,_,h,k=>by rw[show _=[] from h];exact k
 |_::_,_,_,_,⟨x,xs,e,h,l⟩,k=>by subst e;exact⟨x,_,rfl,h,KI l k⟩
theorem Kk{S:Addr->Prop}{H:Hp}{xs:List PyData}{vs:List V}{p:Addr}(hp:H p=none)(l:IsL K (hid S H) xs vs):Res K true S H (upd H p (.lst vs)) (.list xs) (.ref p):=by
 refine⟨.l xs,p,_,rfl,rfl,hp,AW,vs,rfl,l.mono (Keep.same λb o hn e=>?_)⟩
 have:b≠p:=Af e hp
 exact⟨λz=>z.elim hn this,by rw[AR this];exact e⟩
def AZ(a:DX)(τ:DS):Option (Bool×DS):=(a τ).bind λp=>match p.1 with
 |.bool b=>some (b,p.2)
 |_=>none
theorem CY{fr:Bool}{t:TE}{a:DX}(h:E K t fr a):T K (V8 t) (AZ a):=by
 refine⟨λτ d t7 e=>?_,?_⟩
 ·unfold AZ at e;obtain⟨⟨x,t6⟩,e1,e⟩:=oB e;dsimp only at e;split at e
  ·cases e;exact h.like _ _ _ e1
  ·cases e
 intro S M τ σ H Q b t7 r e q
 unfold AZ at e
 obtain⟨⟨x,t6⟩,e1,e⟩:=oB e
 dsimp only at e
 split at e
 ·cases e
  refine h.run S M τ σ H _ _ _ r e1 λv H' r' c i=>?_
  exact⟨b,(show v = .bl b from r.isr i),q H' r' c⟩
 ·cases e
theorem IQ{fr:Bool}{t:TE}{a:DX}(h:E K t fr a):T K (tB t) (AZ a):=CY h
def Fd(a b:DT)(τ:DS):Option (Bool×DS):=(a τ).bind λp=>if p.1=true then b p.2 else some (false,p.2)
def GB(a b:DT)(τ:DS):Option (Bool×DS):=(a τ).bind λp=>if p.1=true then some (true,p.2) else b p.2
def Bm(a:DT)(τ:DS):Option (Bool×DS):=(a τ).map λp=>(!p.1,p.2)
theorem ag{ta tb:TT}{a b:DT}(ha:T K ta a)(hb:T K tb b):T K (aj ta tb) (Fd a b):=by
 refine⟨λτ d t7 e=>?_,?_⟩
 ·unfold Fd at e;obtain⟨⟨c,t6⟩,e1,e⟩:=oB e;cases c with
  |true=>exact(ha.like _ _ _ e1).trans (hb.like _ _ _ e)
  |false=>cases e;exact ha.like _ _ _ e1
 intro S M τ σ H Q k t7 r e q
 unfold Fd at e
 obtain⟨⟨c,t6⟩,e1,e⟩:=oB e
 refine ha.run S M τ σ H _ c t6 r e1 λH1 r1 c1=>?_
 cases c with
 |true=>exact hb.run S M t6 σ H1 _ k t7 r1 e λH2 r2 c2=>q H2 r2 (c1.trans c2)
 |false=>cases e;exact q H1 r1 c1
theorem Sv{ta tb:TT}{a b:DT}(ha:T K ta a)(hb:T K tb b):T K (tOr ta tb) (GB a b):=by
 refine⟨λτ d t7 e=>?_,?_⟩
 ·unfold GB at e;obtain⟨⟨c,t6⟩,e1,e⟩:=oB e;cases c with
  |false=>exact(ha.like _ _ _ e1).trans (hb.like _ _ _ e)
  |true=>cases e;exact ha.like _ _ _ e1
 intro S M τ σ H Q k t7 r e q
 unfold GB at e
 obtain⟨⟨c,t6⟩,e1,e⟩:=oB e
 refine ha.run S M τ σ H _ c t6 r e1 λH1 r1 c1=>?_
 cases c with
 |false=>exact hb.run S M t6 σ H1 _ k t7 r1 e λH2 r2 c2=>q H2 r2 (c1.trans c2)
 |true=>cases e;exact q H1 r1 c1
theorem IS{ta:TT}{a:DT}(ha:T K ta a):T K (ai ta) (Bm a):=by
 refine⟨λτ d t7 e=>?_,?_⟩
 ·unfold Bm at e;obtain⟨⟨c,t6⟩,e1,e⟩:=oM e;cases e;exact ha.like _ _ _ e1
 intro S M τ σ H Q k t7 r e q
 unfold Bm at e
 obtain⟨⟨c,t6⟩,e1,e⟩:=oM e
 cases e
 exact ha.run S M τ σ H _ c _ r e1 λH1 r1 c1=>q H1 r1 c1
def dIf(c:DT)(a b:DX)(τ:DS):Option (PyData×DS):=(c τ).bind λp=>if p.1=true then a p.2 else b p.2
def Mn(a b:DX)(τ:DS):Option (PyData×DS):=(AZ a τ).bind λp=>if p.1=true then b p.2 else some (.bool false,p.2)
def dOr(a b:DX)(τ:DS):Option (PyData×DS):=(AZ a τ).bind λp=>if p.1=true then some (.bool true,p.2) else b p.2
def Vu(a:DX)(τ:DS):Option (PyData×DS):=(AZ a τ).map λp=>(.bool (!p.1),p.2)
theorem bg{fa fb:Bool}{ta tb:TE}{a b:DX}(ha:E K ta fa a)(hb:E K tb fb b):E K (Y2 ta tb) false (Mn a b):=by
 refine⟨λτ d t7 e=>?_,?_⟩
 ·unfold Mn at e;obtain⟨⟨c,t6⟩,e1,e⟩:=oB e;cases c with
  |true=>exact((CY ha).like _ _ _ e1).trans (hb.like _ _ _ e)
  |false=>cases e;exact(CY ha).like _ _ _ e1
 intro S M τ σ H Q d t7 r e q
 unfold Mn at e
 obtain⟨⟨k,t6⟩,e1,e⟩:=oB e
 refine(CY ha).run S M τ σ H (λc H1=>if c=true then tb σ H1 Q else Q (.bl false) H1) k t6 r e1 λH1 r1 c1=>?_
 cases k with
 |true=>exact hb.weak.run S M t6 σ H1 _ d t7 r1 e λv H2 r2 c2 i=>q v H2 r2 (c1.trans c2) i
 |false=>cases e;exact q _ H1 r1 c1 rfl
def Ey(F G:PyData->PyData->Option PyData)(a b c:DX)(τ:DS):Option (PyData×DS):=(a τ).bind λp=>(b p.2).bind λq=>(F p.1 q.1).bind λz=>match z with
 |.bool true=>(c q.2).bind λs=>(G q.1 s.1).map λd=>(d,s.2)
 |.bool false=>some (.bool false,q.2)
 |_=>none
theorem Uq{fa fb fc:Bool}{r r':R2}{F G:PyData->PyData->Option PyData}{ta tb tc:TE}{a b c:DX}(h:OR K false r F)(h':OR K false r' G)(ha:E K ta fa a)(hb:E K tb fb b)(hc:E K tc fc c):E K (WC r r' ta tb tc) false (Ey F G a b c):=by
 refine⟨λτ d t7 e=>?_,?_⟩
 ·unfold Ey at e;obtain⟨⟨x,t6⟩,e1,e⟩:=oB e;obtain⟨⟨y,t8⟩,e2,e⟩:=oB e;obtain⟨z,e3,e⟩:=oB e;split at e
  ·obtain⟨⟨w,l7⟩,e4,e⟩:=oB e;obtain⟨z,e5,e⟩:=oM e;cases e;exact((ha.like _ _ _ e1).trans (hb.like _ _ _ e2)).trans (hc.like _ _ _ e4)
  ·cases e;exact(ha.like _ _ _ e1).trans (hb.like _ _ _ e2)
  ·cases e
 intro S M τ σ H Q d t7 rr e q
 unfold Ey at e
 obtain⟨⟨x,t6⟩,e1,e⟩:=oB e
 obtain⟨⟨y,t8⟩,e2,e⟩:=oB e
 obtain⟨z,e3,e⟩:=oB e
 refine ha.run S M τ σ H _ x t6 rr e1 λv1 H1 r1 c1 i1=>?_
 refine hb.run S M t6 σ H1 _ y t8 r1 e2 λv2 H2 r2 c2 i2=>?_
 have j2:=r1.isr i2
 refine h S H2 v1 v2 x y z _ (λ_=>r2.fresh) ((rr.isr i1).mono (c2.keep r1.sub).same) j2 e3 λv H3 s res=>?_
 have r3:=r2.same s
 have c3:Chg M H H3:=(c1.trans c2).trans (.of s)
 split at e
 ·obtain⟨⟨w,l7⟩,e4,e⟩:=oB e
  obtain⟨z,e5,e⟩:=oM e
  cases e
  refine⟨true,res,?_⟩
  refine hc.run S M t8 σ H3 _ w _ r3 e4 λv4 H4 r4 c4 i4=>?_
  refine h' S H4 v2 v4 y w d _ (λ_=>r4.fresh) ((j2.mono (Same.keep s).same).mono (c4.keep r3.sub).same) (r3.isr i4) e5 λv5 H5 s5 res5=>?_
  exact q v5 H5 (r4.same s5) ((c3.trans c4).trans (.of s5)) res5
 ·cases e
  exact⟨false,res,q _ H3 r3 c3 rfl⟩
 ·cases e
variable {K:KW}
def AE(τ:DS):Option (List Ar×DS):=some ([],τ)
def AA(a:DX)(r:DA)(τ:DS):Option (List Ar×DS):=(a τ).bind λp=>(r p.2).map λq=>(.d p.1::q.1,q.2)
theorem AN:A K J3 AE:=by
 refine⟨λτ d t7 e=>?_,?_⟩
 ·cases e;exact .refl
 intro S M τ σ H Q rs t7 r e q
 cases e
 exact q [] H r .refl rfl
theorem AF{fr:Bool}{te:TE}{t:TA}{a:DX}{f:DA}(ha:E K te fr a)(hr:A K t f):A K (EC te t) (AA a f):=by
 refine⟨λτ d t7 e=>?_,?_⟩
 ·unfold AA at e
  obtain⟨⟨x,t6⟩,e1,e⟩:=oB e
  obtain⟨⟨y,t8⟩,e2,e⟩:=oM e
  cases e
  exact(ha.like _ _ _ e1).trans (hr.like _ _ _ e2)
 intro S M τ σ H Q rs t7 r e q
 unfold AA at e
 obtain⟨⟨x,t6⟩,e1,e⟩:=oB e
 obtain⟨⟨y,t8⟩,e2,e⟩:=oM e
 cases e
 refine ha.run S M τ σ H _ x t6 r e1 λv H1 r1 c1 i1=>?_
 refine hr.run S M t6 σ H1 _ y _ r1 e2 λvs H2 r2 c2 i2=>?_
 exact q (v::vs) H2 r2 (c1.trans c2) ⟨v,vs,rfl,(r.isr i1).mono (c2.keep r1.sub).same,i2⟩
def Cc:List Ar->Option (List PyData)
 |[]=>some []
 |.d x::r=>(Cc r).map (x::·)
 |.s _::_=>none
theorem Cy{S:Addr->Prop}{σ:St}{H:Hp}:∀{rs:List Ar} {vs:List V} {ds:List PyData},Yv K S σ H rs vs->Cc rs=some ds->IsL K (hid S H) ds vs
 |[],_,_,h,e=>by cases e;exact h
 |.d x::r,_,_,⟨v,us,e1,h,l⟩,e=>by
  obtain⟨ds,e2,e⟩:=oM e
  cases e
  exact⟨v,us,e1,h,Cy l e2⟩
 |.s _::_,_,_,_,e=>by cases e
def Bc(a:DA)(τ:DS):Option (PyData×DS):=(a τ).bind λp=>(Cc p.1).bind λds=>if ds.length<=sizeLine then some (.tuple ds,p.2) else none
def GP(a:DA)(τ:DS):Option (PyData×DS):=(a τ).bind λp=>(Cc p.1).bind λds=>if ds.length<=sizeLine then some (.list ds,p.2) else none
theorem EF{t:TA}{a:DA}(ha:A K t a):E K (Xr t) false (Bc a):=by
 refine⟨λτ d t7 e=>?_,?_⟩
 ·unfold Bc at e
  obtain⟨⟨x,t6⟩,e1,e⟩:=oB e
  obtain⟨ds,e2,e⟩:=oB e
  split at e
  ·cases e;exact ha.like _ _ _ e1
  ·cases e
 intro S M τ σ H Q d t7 r e q
 unfold Bc at e
 obtain⟨⟨x,t6⟩,e1,e⟩:=oB e
 obtain⟨ds,e2,e⟩:=oB e
 split at e
 ·rename_i hz
  cases e
  refine ha.run S M τ σ H _ x _ r e1 λvs H1 r1 c1 i1=>?_
  have l:=Cy i1 e2
  refine⟨by rw[l.length];exact hz,λp hp=>?_⟩
  have s:=BF hp (HO.tup vs)
  exact q _ _ (r1.same s) (c1.trans (.of s)) ⟨p,vs,rfl,SqT.of (hid_iff.mpr ⟨r1.fresh hp,AW⟩),l.mono (Same.keep s).same⟩
 ·cases e
theorem N4{t:TA}{a:DA}(ha:A K t a):E K (Xs t) true (GP a):=by
 refine⟨λτ d t7 e=>?_,?_⟩
 ·unfold GP at e
  obtain⟨⟨x,t6⟩,e1,e⟩:=oB e
  obtain⟨ds,e2,e⟩:=oB e
  split at e
  ·cases e;exact ha.like _ _ _ e1
  ·cases e
 intro S M τ σ H Q d t7 r e q
 unfold GP at e
 obtain⟨⟨x,t6⟩,e1,e⟩:=oB e
 obtain⟨ds,e2,e⟩:=oB e
 split at e
 ·rename_i hz
  cases e
  refine ha.run S M τ σ H _ x _ r e1 λvs H1 r1 c1 i1=>?_
  have l:=Cy i1 e2
  refine⟨by rw[l.length];exact hz,λp hp=>?_⟩
  have s:=BF hp (HO.lst vs)
  exact q _ _ (r1.same s) (c1.trans (.of s)) ((Kk hp l).back r1 c1)
 ·cases e
def BR(K:KW)(fr:Bool)(r:List V->Hp->VK->Prop)(F:List PyData->Option PyData):Prop:=∀(S:Addr->Prop) H vs ds d (Q:VK),(∀a,H a=none->¬S a)->IsL K (hid S H) ds vs->F ds=some d->(∀v H',Same H H'->Res K fr S H H' d v->Q v H')->r vs H Q
def A9(F:List PyData->Option PyData)(a:DA)(τ:DS):Option (PyData×DS):=(a τ).bind λp=>(Cc p.1).bind λds=>(F ds).map λd=>(d,p.2)
theorem Co{fr:Bool}{r:List V->Hp->VK->Prop}{F:List PyData->Option PyData}{t:TA}{a:DA}(h:BR K fr r F)(ha:A K t a):E K (tCB r t) fr (A9 F a):=by
 refine⟨λτ d t7 e=>?_,?_⟩
 ·unfold A9 at e
  obtain⟨⟨x,t6⟩,e1,e⟩:=oB e
  obtain⟨ds,e2,e⟩:=oB e
  obtain⟨z,e3,e⟩:=oM e
  cases e;exact ha.like _ _ _ e1
 intro S M τ σ H Q d t7 rr e q
 unfold A9 at e
 obtain⟨⟨x,t6⟩,e1,e⟩:=oB e
 obtain⟨ds,e2,e⟩:=oB e
 obtain⟨z,e3,e⟩:=oM e
 cases e
 refine ha.run S M τ σ H _ x _ rr e1 λvs H1 r1 c1 i1=>?_
 refine h S H1 vs ds d _ (λ_=>r1.fresh) (Cy i1 e2) e3 λv H' s res=>?_
 exact q v H' (r1.same s) (c1.trans (.of s)) (res.back r1 c1)
def spD(K:KW)(G:List L->Option (PyData×List L))(fr:Bool):Sp:=λvs H Q _=>∃(S M:Addr->Prop) (ls:List L) (r:PyData) (ls':List L),R K S M (ls.map some) (vs.map some) H/\G ls=some (r,ls') /\
 ∀v H',R K S M (ls'.map some) (vs.map some) H'->Chg M H H'->Res K fr S H H' r v->Q v H'
theorem Io{S M:Addr->Prop}{τ:DS}{σ:St}{H:Hp}(r:R K S M τ σ H){ds:List PyData}{vs:List V}(l:IsL K (hid S H) ds vs):R K S (λ_=>False) ((ds.map L.d).map some) (vs.map some) H where
 len:=by rw[B',B',B',l.length]
 dat:=λi x e=>by
  rw[U',U']at e
  cases q:ds[i]? with
  |none=>rw[q]at e;cases e
  |some d =>
   rw[q]at e
   cases e
   obtain⟨v,h1,h2⟩:=l.get q
   exact⟨v,by rw[U',h1];rfl,h2⟩
 mt:=λi o e=>by
  rw[U',U']at e
  cases q:ds[i]? with
  |none=>rw[q]at e;cases e
  |some d=>rw[q]at e;cases o<;>cases e
 cst:=λi xs e=>by
  rw[U',U']at e
  cases q:ds[i]? with
  |none=>rw[q]at e;cases e
  |some d=>rw[q]at e;cases e
 inj:=λi j o p a e=>by
  rw[U',U']at e
  cases q:ds[i]? with
  |none=>rw[q]at e;cases e
  |some d=>rw[q]at e;cases o<;>cases e
 sub:=λa h=>h.elim
 ex:=r.ex
 gr:=GR.nil λi d e=>by
  rw[U',U']at e
  cases q:ds[i]? with
  |none=>rw[q]at e;cases e
  |some d=>rw[q]at e;cases e
def AX(G:List L->Option (PyData×List L))(a:DA)(τ:DS):Option (PyData×DS):=(a τ).bind λp=>(Cc p.1).bind λds=>(G (ds.map L.d)).map λq=>(q.1,p.2)
theorem B9{fr:Bool}{G:List L->Option (PyData×List L)}{t:TA}{a:DA}{X:XK}(ha:A K t a):E K (Ke (spD K G fr) [] X t) fr (AX G a):=by
 refine⟨λτ d t7 e=>?_,?_⟩
 ·unfold AX at e
  obtain⟨⟨x,t6⟩,e1,e⟩:=oB e
  obtain⟨ds,e2,e⟩:=oB e
  obtain⟨z,e3,e⟩:=oM e
  cases e;exact ha.like _ _ _ e1
 intro S M τ σ H Q d t7 rr e q
 unfold AX at e
 obtain⟨⟨x,t6⟩,e1,e⟩:=oB e
 obtain⟨ds,e2,e⟩:=oB e
 obtain⟨⟨z,ls'⟩,e3,e⟩:=oM e
 cases e
 refine ha.run S M τ σ H _ x _ rr e1 λvs H1 r1 c1 i1=>?_
 have l:=Cy i1 e2
 show spD K G fr (vs++[]) H1 Q X
 rw[dM]
 refine⟨S,λ_=>False,ds.map L.d,_,ls',Io r1 l,e3,λv H' _ c res=>?_⟩
 have s:Same H1 H':=λb o e=>c b o (λz=>z) e
 exact q v H' (r1.same s) (c1.trans (.of s)) (res.back r1 c1)
theorem Ge{a b:Ow}(h:some (some a.L)=some (some b.L)):a=b:=Ow.inj (G' (G' h))
theorem R.setO{S M:Addr->Prop}{τ:DS}{σ:St}{H H':Hp}(r:R K S M τ σ H){i:Nat}{a:Addr}{w w':Ow}{h:HO}(hi:τ[i]?=some (some w.L))(ha:σ[i]?=some (some (.ref a)))
  (c:Chg (λb=>b=a) H H') (h':H' a=some h) (l:IsO K (hid S H') w' a h):R K S M (τ.set i (some w'.L)) σ H':=by
 have hlt:i<τ.length:=(K'.mp hi).1
 have Sa:S a:=by
  obtain⟨b,us,h1,h2,_⟩:=r.mt i w hi
  rw[ha]at h1;cases h1
  exact r.sub _ h2
 have k:Keep S H S H':=c.keep λb e=>by subst e;exact Sa
 have ne:∀j,j≠i->(τ.set i (some w'.L))[j]?=τ[j]?:=λj hj=>R' (Ne.symm hj)
 have se:(τ.set i (some w'.L))[i]?=some (some w'.L):=V' hlt
 refine⟨by rw[cV];exact r.len,λj x e=>?_,λj ys e=>?_,λj x e=>?_,λj1 j2 ys zs b e1 e2 f1 f2=>?_,r.sub,λb hb=>?_,r.gr.to (λj d e=>?_) (λj o b e q=>?_) (λb hb hn=>⟨hb,?_⟩) (tsS k.same)⟩
 ·by_cases hj:j=i
  ·subst hj;rw[se]at e;exact absurd (G' (G' e)) Ow.not_d
  ·rw[ne j hj]at e
   obtain⟨v,h1,h2⟩:=r.dat j x e
   exact⟨v,h1,h2.mono k.same⟩
 ·by_cases hj:j=i
  ·subst hj
   rw[se]at e
   obtain rfl:=Ow.inj (G' (G' e))
   obtain⟨b,us,h1,h2,_⟩:=r.mt j w hi
   rw[ha]at h1;cases h1
   exact⟨a,h,ha,h2,h',l⟩
  ·rw[ne j hj]at e
   obtain⟨b,us,h1,h2,h3,h4⟩:=r.mt j ys e
   refine⟨b,us,h1,h2,c b _ (λz=>?_) h3,h4.mono k.same⟩
   subst z
   exact hj (r.inj j i ys w b e hi h1 ha)
 ·by_cases hj:j=i
  ·subst hj;rw[se]at e;exact absurd (G' (G' e)) Ow.not_c
  ·rw[ne j hj]at e
   obtain⟨b,us,h1,h2,h3⟩:=r.cst j x e
   exact⟨b,us,h1,k.same.seq h2,h3.mono k.same⟩
 ·have g:∀(j:Nat) (ys:Ow),(τ.set i (some w'.L))[j]?=some (some ys.L)->∃zs:Ow,τ[j]?=some (some zs.L):=λj ys e=>by
   by_cases hj:j=i
   ·subst hj;exact⟨_,hi⟩
   ·rw[ne j hj]at e;exact⟨_,e⟩
  obtain⟨_,g1⟩:=g j1 ys e1
  obtain⟨_,g2⟩:=g j2 zs e2
  exact r.inj _ _ _ _ b g1 g2 f1 f2
 ·by_cases e:b=a
  ·subst e;exact⟨_,h'⟩
  ·obtain⟨o,q⟩:=r.ex b hb
   exact⟨o,c b o e q⟩
 ·by_cases hj:j=i
  ·subst hj;rw[se]at e;exact absurd (G' (G' e)) Ow.not_g
  ·rw[ne j hj]at e;exact⟨e,rfl⟩
 ·by_cases hj:j=i
  ·subst hj;exact .inl ⟨w,hi,q⟩
  ·rw[ne j hj]at e;exact .inl ⟨o,e,q⟩
 ·obtain⟨o,e⟩:=r.ex b (r.sub b hb)
  rw[e];exact c b o (λz=>hn i w hi (by rw[z];exact ha)) e
theorem R.setM{S M:Addr->Prop}{τ:DS}{σ:St}{H H':Hp}(r:R K S M τ σ H){i:Nat}{a:Addr}{xs xs':List PyData}{vs:List V}(hi:τ[i]?=some (some (.m xs)))(ha:σ[i]?=some (some (.ref a)))
  (c:Chg (λb=>b=a) H H') (h':H' a=some (.lst vs)) (l:IsL K (hid S H') xs' vs):R K S M (τ.set i (some (.m xs'))) σ H':=r.setO (w:=.l xs) (w':=.l xs') hi ha c h' ⟨vs,rfl,l⟩
theorem FA{τ:DS}{i:Nat}{w w':Ow}(hi:τ[i]?=some (some w.L))(hf:w.fl=w'.fl):Like τ (τ.set i (some w'.L)):=by
 have hlt:i<τ.length:=(K'.mp hi).1
 refine⟨by rw[cV],λj=>?_⟩
 by_cases hj:j=i
 ·subst hj
  rw[V' hlt,hi]
  exact⟨⟨λx=>⟨λz=>absurd (G' (G' z)) Ow.not_d,λz=>absurd (G' (G' z)) Ow.not_d⟩,λx=>⟨λz=>absurd (G' (G' z)) Ow.not_c,λz=>absurd (G' (G' z)) Ow.not_c⟩⟩,λb=>⟨λ⟨o,h1,h2⟩=>⟨w,by rw[hf,Ge h2];exact h1,rfl⟩,λ⟨o,h1,h2⟩=>⟨w',by rw[<- hf,Ge h2];exact h1,rfl⟩⟩⟩
 ·rw[R' (Ne.symm hj)]
  exact⟨⟨λx=>fP,λx=>fP⟩,λb=>fP⟩
theorem Pe{τ:DS}{i:Nat}{xs xs':List PyData}(hi:τ[i]?=some (some (.m xs))):Like τ (τ.set i (some (.m xs'))):=FA (w:=.l xs) (w':=.l xs') hi rfl
def A8(i:Nat)(G:List L->Option (PyData×List L))(a:DA)(τ:DS):Option (PyData×DS):=(a τ).bind λp=>(Cc p.1).bind λds=>match p.2[i]? with
 |some (some (.m xs))=>(G (.m xs::ds.map L.d)).bind λq=>match q.2 with
  |.m xs'::_=>some (q.1,p.2.set i (some (.m xs')))
  |_=>none
 |some (some (.k xs))=>(G (.k xs::ds.map L.d)).bind λq=>match q.2 with
  |.k xs'::_=>some (q.1,p.2.set i (some (.k xs')))
  |_=>none
 |_=>none
theorem Gz{i:Nat}{G:List L->Option (PyData×List L)}{a:DA}{τ:DS}{d:PyData}{t7:DS}(e:A8 i G a τ=some (d,t7)) :
  ∃rs t6 ds w w' r,a τ=some (rs,t6)/\Cc rs=some ds/\t6[i]?=some (some (Ow.L w))/\G (w.L::ds.map L.d)=some (d,Ow.L w'::r)/\t7=t6.set i (some w'.L)/\w.fl=w'.fl:=by
 unfold A8 at e
 obtain⟨⟨x,t6⟩,e1,e⟩:=oB e
 obtain⟨ds,e2,e⟩:=oB e
 dsimp only at e
 split at e
 ·rename_i xs hx
  obtain⟨⟨z,ls'⟩,e3,e⟩:=oB e
  dsimp only at e
  split at e
  ·rename_i xs' Dh
   cases e
   exact⟨x,t6,ds,.l xs,.l xs',Dh,e1,e2,hx,e3,rfl,rfl⟩
  ·cases e
 ·rename_i xs hx
  obtain⟨⟨z,ls'⟩,e3,e⟩:=oB e
  dsimp only at e
  split at e
  ·rename_i xs' Dh
   cases e
   exact⟨x,t6,ds,.t xs,.t xs',Dh,e1,e2,hx,e3,rfl,rfl⟩
  ·cases e
 ·cases e
theorem FN{i:Nat}{fr:Bool}{G:List L->Option (PyData×List L)}{t:TA}{a:DA}{X:XK}(ha:A K t a):E K (Ke (spD K G fr) [] X (EC (Fg i) t)) fr (A8 i G a):=by
 refine⟨λτ d t7 e=>?_,?_⟩
 ·obtain⟨rs,t6,ds,xs,xs',r,e1,e2,e3,e4,rfl,e5⟩:=Gz e
  exact(ha.like _ _ _ e1).trans (FA e3 e5)
 intro S M τ σ H Q d t7 rr e q
 obtain⟨rs,t6,ds,xs,xs',r,e1,e2,e3,e4,rfl,_⟩:=Gz e
 have lk:=ha.like _ _ _ e1
 obtain⟨zs,hz⟩:=(lk.own i).mp ⟨_,e3⟩
 obtain⟨p,us,hp,hM,_,_⟩:=rr.mt i zs hz
 refine⟨.ref p,hp,?_⟩
 refine ha.run S M τ σ H _ rs _ rr e1 λvs H1 r1 c1 i1=>?_
 have l:=Cy i1 e2
 obtain⟨p',us',hp',hM',hl,ll⟩:=r1.mt i xs e3
 rw[hp]at hp';cases hp'
 show spD K G fr ((.ref p::vs)++[]) H1 Q X
 rw[dM]
 have ra:=Io r1 l
 refine ⟨S, λb => b = p, xs.L :: ds.map L.d, _, xs'.L :: r, ⟨?_, ?_, ?_, ?_, ?_, ?_, r1.ex, GR.nil λj x e => by
  cases j with
  |zero=>exact Ow.not_g (G' (G' e))
  |succ j =>
   rw[P',dZ,U',U']at e
   cases q:ds[j]? with
   |none=>rw[q]at e;cases e
   |some d=>rw[q]at e;cases e⟩,e4,λv H' r' c res=>?_⟩
 ·have:=ra.len
  simp only[List.length_map,List.map_cons,List.length_cons]at this ⊢
  omega
 ·intro j x e
  cases j with
  |zero=>exact absurd (G' (G' e)) Ow.not_d
  |succ j=>exact ra.dat j x (by simpa using e)
 ·intro j ys e
  cases j with
  |zero=>obtain rfl:=Ge e;exact⟨p,us',rfl,rfl,hl,ll⟩
  |succ j=>obtain⟨_,_,_,h,_⟩:=ra.mt j ys (by simpa using e);exact h.elim
 ·intro j ys e
  cases j with
  |zero=>exact absurd (G' (G' e)) Ow.not_c
  |succ j=>exact ra.cst j ys (by simpa using e)
 ·intro j k ys ws b e1 e2 _ _
  cases j with
  |zero=>cases k with
   |zero=>rfl
   |succ k=>obtain⟨_,_,_,h,_⟩:=ra.mt k ws (by simpa using e2);exact h.elim
  |succ j=>obtain⟨_,_,_,h,_⟩:=ra.mt j ys (by simpa using e1);exact h.elim
 ·rintro b rfl
  exact r1.sub _ hM'
 ·obtain⟨p2,us2,h1,h2,h3,h4⟩:=r'.mt 0 xs' rfl
  cases h1
  exact q v H' (r1.setO e3 hp c h3 h4) (c1.trans λb o hn e=>c b o (λz=>hn (by subst z;exact hM')) e) (res.back r1 c1)
def okM:Option L->Bool
 |some (.m xs)=>fixDs xs
 |some (.k kvs)=>fixDs (kvs.map (·.2))
 |_=>true
theorem IsKV.monoT{H H':Hp}(s:TSm H H'):∀{kvs:List (List Int×PyData)} {ts:List (List Int×Addr×V)},fixDs (kvs.map (·.2))=true->IsKV K H (BC kvs) ts->IsKV K H' (BC kvs) ts
 |[],_,_,h=>h
 |(k,d)::kvs,_,f,⟨t,tr,e,ek,hk,h,l⟩=>by
  rw[P',fixDs,cw]at f
  exact⟨t,tr,e,ek,s.tup hk,Is.monoT s f.1 h,IsKV.monoT s (kvs:=kvs) f.2 l⟩
theorem IsO.monoT{H H':Hp}(s:TSm H H'):∀{o:Ow} {a:Addr} {h:HO},okM (some o.L)=true->IsO K H o a h->IsO K H' o a h
 |.l _,_,_,f,⟨vs,e,l⟩=>⟨vs,e,l.monoT s f⟩
 |.t _,_,_,f,⟨ts,e,l⟩=>⟨ts,e,IsKV.monoT s f l⟩
def OwH(h:HO):Prop:=NTp h\/∃φ,h = .ext φ
theorem IsO.ho{H:Hp}:∀{o:Ow} {a:Addr} {h:HO},IsO K H o a h->OwH h
 |.l _,_,_,⟨vs,e,_⟩=>.inl (.inl ⟨vs,e⟩)
 |.t _,_,_,⟨ts,⟨ep,e⟩,_⟩=>.inr ⟨_,e⟩
def LG(i:Nat)(f:DX)(τ:DS):Option (PyData×DS):=match τ[i]? with
 |some (some (.m xs))=>(f (τ.set i (some (.d (.list xs))))).bind λq=>if F5 q.1&&q.2.all okM then some (q.1,q.2.set i (some (.m xs))) else none
 |some (some (.k xs))=>(f (τ.set i (some (.d (.dict (BC xs)))))).bind λq=>if F5 q.1&&q.2.all okM then some (q.1,q.2.set i (some (.k xs))) else none
 |_=>none
theorem P0{i:Nat}{f:DX}{τ:DS}{d:PyData}{t7:DS}(e:LG i f τ=some (d,t7)):∃w t6,τ[i]?=some (some (Ow.L w))/\f (τ.set i (some (.d w.D)))=some (d,t6)/\F5 d=true/\t6.all okM=true/\t7=t6.set i (some w.L):=by
 unfold LG at e
 split at e
 ·rename_i xs hx
  obtain⟨⟨z,t6⟩,e1,e⟩:=oB e
  dsimp only at e
  split at e
  ·rename_i h
   rw[cw]at h
   cases e
   exact⟨.l xs,t6,hx,e1,h.1,h.2,rfl⟩
  ·cases e
 ·rename_i xs hx
  obtain⟨⟨z,t6⟩,e1,e⟩:=oB e
  dsimp only at e
  split at e
  ·rename_i h
   rw[cw]at h
   cases e
   exact⟨.t xs,t6,hx,e1,h.1,h.2,rfl⟩
  ·cases e
 ·cases e
theorem Dd{S S':Addr->Prop}{H:Hp}(h:∀a,S' a->S a\/∃o,H a=some o/\OwH o):TSm (hid S H) (hid S' H):=λb o e nl ne=>by
 obtain⟨e1,e2⟩:=hid_iff.mp e
 refine hid_iff.mpr ⟨λz=>?_,e2⟩
 rcases h b z with z|⟨o',z,tt|⟨φ,rfl⟩⟩
 ·exact e1 z
 ·rw[e2]at z;cases z;exact nl tt
 ·rw[e2]at z;cases z;exact ne _ rfl
theorem frz{S M:Addr->Prop}{τ:DS}{σ:St}{H:Hp}(r:R K S M τ σ H){i:Nat}{w:Ow}{p:Addr}(hi:τ[i]?=some (some w.L))(hp:σ[i]?=some (some (.ref p))) :
  R K (λb=>S b/\b≠p) (λb=>M b/\b≠p) (τ.set i (some (.d w.D))) σ H:=by
 have hlt:i<τ.length:=(K'.mp hi).1
 have ne:∀j,j≠i->(τ.set i (some (.d w.D)))[j]?=τ[j]?:=λj hj=>R' (Ne.symm hj)
 have se:(τ.set i (some (.d w.D)))[i]?=some (some (.d w.D)):=V' hlt
 have k:Same (hid S H) (hid (λb=>S b/\b≠p) H):=Bf λa z=>z.1
 have mn:∀(j:Nat) (ys:Ow),(τ.set i (some (.d w.D)))[j]?=some (some ys.L)->j≠i/\τ[j]?=some (some ys.L):=λj ys e=>by
  by_cases hj:j=i
  ·subst hj;rw[se]at e;exact absurd (G' (G' e)).symm Ow.not_d
  ·rw[ne j hj]at e;exact⟨hj,e⟩
 have cs:∀(j:Nat) (ys:List PyData),(τ.set i (some (.d w.D)))[j]?=some (some (.c ys))->τ[j]?=some (some (.c ys)):=λj ys e=>by
  by_cases hj:j=i
  ·subst hj;rw[se]at e;cases e
  ·rw[ne j hj]at e;exact e
 refine⟨by rw[cV];exact r.len,λj x e=>?_,λj ys e=>?_,λj ys e=>let ⟨a,vs,h1,h2,h3⟩:=r.cst j ys (cs j ys e);⟨a,vs,h1,k.seq h2,h3.mono k⟩,λj1 j2 ys zs b e1 e2 f1 f2=>?_,λa h=>⟨r.sub a h.1,h.2⟩,λa h=>r.ex a h.1,r.gr.to (λj d e=>?_) (λj o b e q=>.inl ⟨o,(mn j o e).2,q⟩) (λb hb hn=>⟨⟨hb,λz=>hn i w hi (by rw[z];exact hp)⟩,rfl⟩) (tsS k)⟩
 ·by_cases hj:j=i
  ·subst hj
   rw[se]at e
   cases e
   obtain⟨b,us,h1,h2,h3,h4⟩:=r.mt j w hi
   rw[hp]at h1;cases h1
   exact⟨_,hp,IsO.is (h4.mono k) (hid_iff.mpr ⟨λz=>z.2 rfl,h3⟩)⟩
  ·rw[ne j hj]at e
   obtain⟨v,h1,h2⟩:=r.dat j x e
   exact⟨v,h1,h2.mono k⟩
 ·obtain⟨hj,e⟩:=mn j ys e
  obtain⟨b,us,h1,h2,h3,h4⟩:=r.mt j ys e
  refine⟨b,us,h1,⟨h2,λz=>?_⟩,h3,h4.mono k⟩
  subst z
  exact hj (r.inj j i ys w b e hi h1 hp)
 ·exact r.inj j1 j2 ys zs b (mn _ _ e1).2 (mn _ _ e2).2 f1 f2
 ·by_cases hj:j=i
  ·subst hj;rw[se]at e;cases e
  ·rw[ne j hj]at e;exact⟨e,rfl⟩
theorem Yx{S M:Addr->Prop}{τ t6:DS}{σ:St}{H H':Hp}(r:R K S M τ σ H){i:Nat}{w:Ow}{p:Addr}(hi:τ[i]?=some (some w.L))(hp:σ[i]?=some (some (.ref p)))
  (r1:R K (λb=>S b/\b≠p) (λb=>M b/\b≠p) t6 σ H') (lk:Like (τ.set i (some (.d w.D))) t6) (c:Chg (λb=>M b/\b≠p) H H') (ok:t6.all okM=true):R K S M (t6.set i (some w.L)) σ H':=by
 have hlt:i<τ.length:=(K'.mp hi).1
 have hl1:t6.length=τ.length:=by have:=lk.1;rw[cV]at this;exact this
 have hlt1:i<t6.length:=by omega
 have ne:∀j,j≠i->(t6.set i (some w.L))[j]?=t6[j]?:=λj hj=>R' (Ne.symm hj)
 have se:(t6.set i (some w.L))[i]?=some (some w.L):=V' hlt1
 have ne0:∀j,j≠i->(τ.set i (some (.d w.D)))[j]?=τ[j]?:=λj hj=>R' (Ne.symm hj)
 obtain⟨b0,us,hb0,h2,h3,h4⟩:=r.mt i w hi
 rw[hp]at hb0;cases hb0
 have h3':H' p=some us:=c p _ (λz=>z.2 rfl) h3
 have c':Chg M H H':=λb o hn e=>c b o (λz=>hn z.1) e
 have k:Keep S H S H':=c'.keep r.sub
 have ts:TSm (hid (λb=>S b/\b≠p) H') (hid S H'):=Dd λa z=>by
  by_cases e:a=p
  ·subst e;exact .inr ⟨_,h3',h4.ho⟩
  ·exact .inl ⟨z,e⟩
 have mm:∀(j:Nat) (ys:Ow),j≠i->t6[j]?=some (some ys.L)->∃zs:Ow,τ[j]?=some (some zs.L):=λj ys hj e=>by
  obtain⟨zs,q⟩:=(lk.own j).mp ⟨_,e⟩
  rw[ne0 j hj]at q
  exact⟨zs,q⟩
 have cs:∀(j:Nat) (ys:List PyData),(t6.set i (some w.L))[j]?=some (some (.c ys))->τ[j]?=some (some (.c ys)):=λj ys e=>by
  by_cases hj:j=i
  ·subst hj;rw[se]at e;exact absurd (G' (G' e)) Ow.not_c
  ·rw[ne j hj]at e
   have:=((lk.2 j).1.2 ys).mp e
   rw[ne0 j hj]at this
   exact this
 refine⟨by rw[cV];exact r1.len,λj x e=>?_,λj ys e=>?_,λj ys e=>let ⟨a,vs,h1,h2,h3⟩:=r.cst j ys (cs j ys e);⟨a,vs,h1,k.same.seq h2,h3.mono k.same⟩,λj1 j2 ys zs b e1 e2 f1 f2=>?_,r.sub,λa h=>?_,r1.gr.to (λj d e=>?_) (λj o b e q=>?_) (λb hb hn=>⟨hb.1,rfl⟩) ts⟩
 ·by_cases hj:j=i
  ·subst hj;rw[se]at e;exact absurd (G' (G' e)) Ow.not_d
  ·rw[ne j hj]at e
   have:=((lk.2 j).1.1 x).mp e
   rw[ne0 j hj]at this
   obtain⟨v,h5,h6⟩:=r.dat j x this
   exact⟨v,h5,h6.mono k.same⟩
 ·by_cases hj:j=i
  ·subst hj
   rw[se]at e
   obtain rfl:=Ge e
   exact⟨p,us,hp,h2,h3',h4.mono k.same⟩
  ·rw[ne j hj]at e
   obtain⟨b,ws,h5,h6,h7,h8⟩:=r1.mt j ys e
   have fx:okM (some ys.L)=true:=cz.mp ok (some ys.L) (cj e)
   exact⟨b,ws,h5,h6.1,h7,h8.monoT ts fx⟩
 ·have g:∀(j:Nat) (ys:Ow),(t6.set i (some w.L))[j]?=some (some ys.L)->∃zs:Ow,τ[j]?=some (some zs.L):=λj ys e=>by
   by_cases hj:j=i
   ·subst hj;exact⟨_,hi⟩
   ·rw[ne j hj]at e;exact mm j ys hj e
  obtain⟨_,g1⟩:=g j1 ys e1
  obtain⟨_,g2⟩:=g j2 zs e2
  exact r.inj _ _ _ _ b g1 g2 f1 f2
 ·by_cases e:a=p
  ·subst e;exact⟨_,h3'⟩
  ·exact r1.ex a ⟨h,e⟩
 ·by_cases hj:j=i
  ·subst hj;rw[se]at e;exact absurd (G' (G' e)) Ow.not_g
  ·rw[ne j hj]at e;exact⟨e,rfl⟩
 ·by_cases hj:j=i
  ·subst hj
   rw[hp]at q;cases q
   exact .inr λz=>z.2 rfl
  ·rw[ne j hj]at e;exact .inl ⟨o,e,q⟩
theorem R4{τ t6:DS}{i:Nat}{w:Ow}(hi:τ[i]?=some (some w.L))(lk:Like (τ.set i (some (.d w.D))) t6):Like τ (t6.set i (some w.L)):=by
 have hlt:i<τ.length:=(K'.mp hi).1
 have hl1:t6.length=τ.length:=by have:=lk.1;rw[cV]at this;exact this
 refine⟨by rw[cV];exact hl1,λj=>?_⟩
 by_cases hj:j=i
 ·subst hj
  rw[V' (by omega),hi]
  exact⟨⟨λx=>fP,λx=>fP⟩,λb=>fP⟩
 ·have:=lk.2 j
  rw[R' (Ne.symm hj)]at this ⊢
  exact this
theorem XO{i:Nat}{fr:Bool}{t:TE}{f:DX}(h:E K t fr f):E K t false (LG i f):=by
 refine⟨λτ d t7 e=>?_,?_⟩
 ·obtain⟨xs,t6,e1,e2,_,_,rfl⟩:=P0 e
  exact R4 e1 (h.like _ _ _ e2)
 intro S M τ σ H Q d t7 r e q
 obtain⟨xs,t6,e1,e2,fx,ok,rfl⟩:=P0 e
 obtain⟨p,us,hp,hM,hl,ll⟩:=r.mt i xs e1
 refine h.weak.run _ _ _ σ H _ d t6 (frz r e1 hp) e2 λv H' r' c res=>?_
 have r2:=Yx r e1 hp r' (h.like _ _ _ e2) c ok
 refine q v H' r2 (λb o hn e=>c b o (λz=>hn z.1) e) ?_
 have h3':H' p=some us:=c p _ (λz=>z.2 rfl) hl
 exact Is.monoT (Dd λa z => by
  by_cases e:a=p
  ·subst e;exact .inr ⟨_,h3',ll.ho⟩
  ·exact .inl ⟨z,e⟩) fx (show Is K (hid (λb=>S b/\b≠p) H') d v from res)
def P1(i:Nat)(f:DX)(τ:DS):Option (PyData×DS):=match τ[i]? with
 |some (some (.m xs))=>(f (τ.set i (some (.d (.list xs))))).bind λq=>match q.1 with
  |.list ys=>if fixDs ys&&q.2.all okM then some (q.1,q.2.set i (some (.m xs))) else none
  |_=>none
 |some (some (.k xs))=>(f (τ.set i (some (.d (.dict (BC xs)))))).bind λq=>match q.1 with
  |.list ys=>if fixDs ys&&q.2.all okM then some (q.1,q.2.set i (some (.k xs))) else none
  |_=>none
 |_=>none
theorem Ow.D_list{o:Ow}{ys:List PyData}(h:PyData.list ys=o.D):o = .l ys:=by
 cases o with
 |l xs=>cases h;rfl
 |t kvs=>cases h
variable {K:KW}
def bx(K:KW)(S:Addr->Prop)(J:It)(H:Hp)(ds:List PyData):Prop:=∀(S2:Addr->Prop) (H2:Hp),Keep S H S2 H2->(∀(i:Nat) (d:PyData),ds[i]?=some d->J.go i H2/\∀x H3,J.yld i H2 x H3->H3=H2/\Is K (hid S2 H2) d x)/\∀i,ds.length<=i->J.stop i H2
abbrev DI:=DS->Option (List PyData×DS)
structure IT(K:KW)(wi:TI)(f:DI):Prop where
 like:∀τ ds t7,f τ=some (ds,t7)->Like τ t7
 run:∀S M τ σ H (Q:It->Hp->Prop) ds t7,R K S M τ σ H->f τ=some (ds,t7)->(∀J H',R K S M t7 σ H'->Chg M H H'->bx K S J H' ds->Q J H')->wi σ H Q
def dIL(f:DX)(τ:DS):Option (List PyData×DS):=(f τ).bind λp=>match p.1 with
 |.list ds=>some (ds,p.2)
 |_=>none
def dIT(f:DX)(τ:DS):Option (List PyData×DS):=(f τ).bind λp=>match p.1 with
 |.tuple ds=>some (ds,p.2)
 |_=>none
theorem CG{fr:Bool}{t:TE}{f:DX}(h:E K t fr f):IT K (ZE K t) (dIL f):=by
 refine⟨λτ d t7 e=>?_,?_⟩
 ·unfold dIL at e
  obtain⟨⟨x,t6⟩,e1,e⟩:=oB e
  dsimp only at e
  split at e
  ·cases e;exact h.like _ _ _ e1
  ·cases e
 intro S M τ σ H Q ds t7 r e q
 unfold dIL at e
 obtain⟨⟨x,t6⟩,e1,e⟩:=oB e
 dsimp only at e
 split at e
 ·cases e
  refine h.weak.run S M τ σ H _ _ _ r e1 λv H1 r1 c1 i1=>?_
  have i1':Is K (hid S H1) (.list ds) v:=i1
  obtain⟨a,vs,rfl,hl,ll⟩:=i1'
  refine⟨a,rfl,⟨vs,SqL.of (hid_iff.mp hl).2⟩,q _ H1 r1 c1 λS2 H2 k=>?_⟩
  have hl2:=k.same _ _ hl
  have ll2:=ll.mono k.same
  refine⟨λi d e=>?_,λi hi=>⟨vs,SqL.of (hid_iff.mp hl2).2,by rw[ll.length];exact hi⟩⟩
  obtain⟨u,h1,h2⟩:=ll2.get e
  refine⟨⟨vs,u,SqL.of (hid_iff.mp hl2).2,h1⟩,λx H3 y=>⟨y.1,?_⟩⟩
  have:=y.2 vs (SqL.of (hid_iff.mp hl2).2)
  rw[h1]at this;cases this
  exact h2
 ·cases e
theorem Z3{fr:Bool}{t:TE}{f:DX}(h:E K t fr f):IT K (bP K t) (dIT f):=by
 refine⟨λτ d t7 e=>?_,?_⟩
 ·unfold dIT at e
  obtain⟨⟨x,t6⟩,e1,e⟩:=oB e
  dsimp only at e
  split at e
  ·cases e;exact h.like _ _ _ e1
  ·cases e
 intro S M τ σ H Q ds t7 r e q
 unfold dIT at e
 obtain⟨⟨x,t6⟩,e1,e⟩:=oB e
 dsimp only at e
 split at e
 ·cases e
  refine h.weak.run S M τ σ H _ _ _ r e1 λv H1 r1 c1 i1=>?_
  have i1':Is K (hid S H1) (.tuple ds) v:=i1
  obtain⟨a,vs,rfl,hl,ll⟩:=i1'
  refine⟨a,rfl,⟨vs,Same.tup same_hid hl⟩,q _ H1 r1 c1 λS2 H2 k=>?_⟩
  have hl2:=Same.tup same_hid (Same.tup k.same hl)
  have ll2:=ll.mono k.same
  refine⟨λi d e=>?_,λi hi=>⟨vs,hl2,by rw[ll.length];exact hi⟩⟩
  obtain⟨u,h1,h2⟩:=ll2.get e
  refine⟨⟨vs,u,hl2,h1⟩,λx H3 y=>⟨y.1,?_⟩⟩
  have:=y.2 vs hl2
  rw[h1]at this;cases this
  exact h2
 ·cases e
def Hy(lo:Int)(n:Nat):List PyData:=(List.range n).map λ(k:Nat)=>PyData.int (lo+(k:Int))
theorem RZ{S:Addr->Prop}{H:Hp}{lo:Int}{n:Nat}:bx K S (Itr lo n) H (Hy lo n):=by
 intro S2 H2 k
 refine⟨λi d e=>?_,λi hi=>?_⟩
 ·unfold Hy at e
  rw[U']at e
  by_cases hi:i<n
  ·rw[List.getElem?_range hi]at e
   cases e
   exact⟨hi,λx H3 y=>⟨y.1,y.2⟩⟩
  ·rw[dR (by simpa using hi)]at e
   cases e
 ·unfold Hy at hi
  rw[B',eT]at hi
  exact hi
def dR1(a:DA)(τ:DS):Option (List PyData×DS):=(a τ).bind λp=>(Cc p.1).bind λds=>match ds with
 |[.int j]=>if -(2 ^ 62)<=j/\j<2 ^ 62 then some (Hy 0 j.toNat,p.2) else none
 |_=>none
def dR2(a:DA)(τ:DS):Option (List PyData×DS):=(a τ).bind λp=>(Cc p.1).bind λds=>match ds with
 |[.int i,.int j]=>if -(2 ^ 62)<=i/\i<2 ^ 62/\-(2 ^ 62)<=j/\j<2 ^ 62 then some (Hy i (j-i).toNat,p.2) else none
 |_=>none
theorem Dv{t:TA}{a:DA}(ha:A K t a):IT K (ZD t) (dR1 a):=by
 refine⟨λτ d t7 e=>?_,?_⟩
 ·unfold dR1 at e
  obtain⟨⟨x,t6⟩,e1,e⟩:=oB e
  obtain⟨ds,e2,e⟩:=oB e
  split at e
  ·split at e
   ·cases e;exact ha.like _ _ _ e1
   ·cases e
  ·cases e
 intro S M τ σ H Q ds t7 r e q
 unfold dR1 at e
 obtain⟨⟨x,t6⟩,e1,e⟩:=oB e
 obtain⟨ds',e2,e⟩:=oB e
 split at e
 ·split at e
  ·rename_i j hj
   cases e
   refine ha.run S M τ σ H _ x _ r e1 λvs H1 r1 c1 i1=>?_
   obtain⟨v,us,rfl,iv,iu⟩:=Cy i1 e2
   cases (show us=[] from iu)
   exact⟨j,by rw[show v = .int j from iv],hj.1,hj.2,q _ H1 r1 c1 RZ⟩
  ·cases e
 ·cases e
theorem Vb{t:TA}{a:DA}(ha:A K t a):IT K (ZC t) (dR2 a):=by
 refine⟨λτ d t7 e=>?_,?_⟩
 ·unfold dR2 at e
  obtain⟨⟨x,t6⟩,e1,e⟩:=oB e
  obtain⟨ds,e2,e⟩:=oB e
  split at e
  ·split at e
   ·cases e;exact ha.like _ _ _ e1
   ·cases e
  ·cases e
 intro S M τ σ H Q ds t7 r e q
 unfold dR2 at e
 obtain⟨⟨x,t6⟩,e1,e⟩:=oB e
 obtain⟨ds',e2,e⟩:=oB e
 split at e
 ·split at e
  ·rename_i i j hj
   cases e
   refine ha.run S M τ σ H _ x _ r e1 λvs H1 r1 c1 i1=>?_
   obtain⟨v,us,rfl,iv,w,us',rfl,iw,iu⟩:=Cy i1 e2
   cases (show us'=[] from iu)
   exact⟨i,j,by rw[show v = .int i from iv,show w = .int j from iw],hj,q _ H1 r1 c1 RZ⟩
  ·cases e
 ·cases e
abbrev DG:=PyData->DS->Option DS
def MSame(τ t7:DS):Prop:=t7.length=τ.length/\∀(j:Nat) (o:Ow),t7[j]?=some (some o.L)↔τ[j]?=some (some o.L)
theorem MSame.refl{τ:DS}:MSame τ τ:=⟨rfl,λ_ _=>fP⟩
theorem MSame.trans{τ t6 t8:DS}(a:MSame τ t6)(b:MSame t6 t8):MSame τ t8:=⟨b.1.trans a.1,λj xs=>(b.2 j xs).trans (a.2 j xs)⟩
structure TG1 K (g:TG) (f:DG):Prop where
 ms:∀d τ t7,f d τ=some t7->MSame τ t7
 run:∀S M τ σ H v d t7 (Q:St->Hp->Prop),R K S M τ σ H->Is K (hid S H) d v->f d τ=some t7->(∀σ',R K S M t7 σ' H->(∀(j:Nat) (o:Ow),τ[j]?=some (some o.L)->σ'[j]?=σ[j]?)->Q σ' H)->g v σ H Q
structure TG2 K (g:TGs) (f:List PyData->DS->Option DS):Prop where
 ms:∀d τ t7,f d τ=some t7->MSame τ t7
 run:∀S M τ σ H vs ds t7 (Q:St->Hp->Prop),R K S M τ σ H->IsL K (hid S H) ds vs->f ds τ=some t7->(∀σ',R K S M t7 σ' H->(∀(j:Nat) (o:Ow),τ[j]?=some (some o.L)->σ'[j]?=σ[j]?)->Q σ' H)->g vs σ H Q
def dN(i:Nat)(d:PyData)(τ:DS):Option DS:=match τ[i]? with
 |some (some (.m _))=>none
 |some (some (.k _))=>none
 |some _=>some (τ.set i (some (.d d)))
 |none=>none
theorem Uv{i:Nat}{d:PyData}{τ t7:DS}(e:dN i d τ=some t7):i<τ.length/\(∀o:Ow,τ[i]?≠some (some o.L))/\t7=τ.set i (some (.d d)):=by
 unfold dN at e
 split at e
 ·cases e
 ·cases e
 ·rename_i o hn hk ho
  cases e
  refine⟨(K'.mp ho).1,λxs z=>?_,rfl⟩
  rw[ho]at z
  cases xs with
  |l xs=>exact hn xs (G' z)
  |t xs=>exact hk xs (G' z)
 ·cases e
theorem R.setD{S M:Addr->Prop}{τ:DS}{σ:St}{H:Hp}(r:R K S M τ σ H){i:Nat}{d:PyData}{v:V}(hi:i<τ.length)(hm:∀o:Ow,τ[i]?≠some (some o.L))(iv:Is K (hid S H) d v):R K S M (τ.set i (some (.d d))) (σ.set i (some v)) H:=by
 have hs:i<σ.length:=by rw[r.len];exact hi
 have ne:∀j,j≠i->(τ.set i (some (.d d)))[j]?=τ[j]?:=λj hj=>R' (Ne.symm hj)
 have ne':∀j,j≠i->(σ.set i (some v))[j]?=σ[j]?:=λj hj=>R' (Ne.symm hj)
 have mn:∀(j:Nat) (ys:Ow),(τ.set i (some (.d d)))[j]?=some (some ys.L)->j≠i/\τ[j]?=some (some ys.L):=λj ys e=>by
  by_cases hj:j=i
  ·subst hj;rw[V' hi]at e;exact absurd (G' (G' e)).symm Ow.not_d
  ·rw[ne j hj]at e;exact⟨hj,e⟩
 refine⟨by rw[cV,cV];exact r.len,λj x e=>?_,λj xs e=>?_,λj xs e=>?_,λj1 j2 ys zs b e1 e2 f1 f2=>?_,r.sub,r.ex,r.gr.to (λj x e=>?_) (λj o b e q=>.inl ⟨o,(mn j o e).2,by rw[ne' j (mn j o e).1]at q;exact q⟩) (λb hb hn=>⟨hb,rfl⟩) .refl⟩
 ·by_cases hj:j=i
  ·subst hj
   rw[V' hi]at e
   cases e
   exact⟨v,V' hs,iv⟩
  ·rw[ne j hj]at e
   rw[ne' j hj]
   exact r.dat j x e
 ·obtain⟨hj,e⟩:=mn j xs e
  rw[ne' j hj]
  exact r.mt j xs e
 ·by_cases hj:j=i
  ·subst hj;rw[V' hi]at e;cases e
  ·rw[ne j hj]at e
   rw[ne' j hj]
   exact r.cst j xs e
 ·obtain⟨h1,e1⟩:=mn j1 ys e1
  obtain⟨h2,e2⟩:=mn j2 zs e2
  rw[ne' _ h1]at f1
  rw[ne' _ h2]at f2
  exact r.inj _ _ _ _ b e1 e2 f1 f2
 ·by_cases hj:j=i
  ·subst hj;rw[V' hi]at e;cases e
  ·rw[ne j hj]at e;exact⟨e,ne' j hj⟩
theorem YM{τ:DS}{i:Nat}{d:PyData}(hi:i<τ.length)(hm:∀o:Ow,τ[i]?≠some (some o.L)):MSame τ (τ.set i (some (.d d))):=by
 refine⟨by rw[cV],λj xs=>?_⟩
 by_cases hj:j=i
 ·subst hj
  rw[V' hi]
  exact⟨λz=>absurd (G' (G' z)).symm Ow.not_d,λz=>absurd z (hm xs)⟩
 ·rw[R' (Ne.symm hj)]
theorem AS{i:Nat}:TG1 K (K1 i) (dN i):=by
 refine⟨λd τ t7 e=>?_,?_⟩
 ·obtain⟨h1,h2,rfl⟩:=Uv e
  exact YM h1 h2
 intro S M τ σ H v d t7 Q r iv e q
 obtain⟨h1,h2,rfl⟩:=Uv e
 refine q _ (r.setD h1 h2 iv) λj xs ej=>?_
 have:j≠i:=λz=>h2 xs (by rw[<- z];exact ej)
 exact R' (Ne.symm this)
def BH:List PyData->DS->Option DS
 |[],τ=>some τ
 |_::_,_=>none
def AL(f:DG)(g:List PyData->DS->Option DS):List PyData->DS->Option DS
 |d::ds,τ=>(f d τ).bind λt6=>g ds t6
 |[],_=>none
theorem FC:TG2 K bR BH:=by
 refine⟨λd τ t7 e=>?_,?_⟩
 ·cases d with
  |nil=>cases e;exact .refl
  |cons _ _=>cases e
 intro S M τ σ H vs ds t7 Q r iv e q
 cases ds with
 |nil=>cases e;exact⟨iv,q σ r λ_ _ _=>rfl⟩
 |cons _ _=>cases e
theorem Au{t:TG}{u:TGs}{f:DG}{g:List PyData->DS->Option DS}(h1:TG1 K t f)(h2:TG2 K u g):TG2 K (ZI t u) (AL f g):=by
 refine⟨λd τ t7 e=>?_,?_⟩
 ·cases d with
  |nil=>cases e
  |cons d ds =>
   obtain⟨t6,e1,e⟩:=oB e
   exact(h1.ms _ _ _ e1).trans (h2.ms _ _ _ e)
 intro S M τ σ H vs ds t7 Q r iv e q
 cases ds with
 |nil=>cases e
 |cons d ds =>
  obtain⟨t6,e1,e⟩:=oB e
  obtain⟨v,us,rfl,iv,iu⟩:=iv
  refine⟨v,us,rfl,h1.run S M τ σ H v d t6 _ r iv e1 λσ1 r1 k1=>?_⟩
  refine h2.run S M t6 σ1 H us ds t7 _ r1 iu e λσ2 r2 k2=>?_
  refine q σ2 r2 λj xs hj=>?_
  rw[k2 j xs (((h1.ms _ _ _ e1).2 j xs).mpr hj),k1 j xs hj]
def dGT(g:List PyData->DS->Option DS)(d:PyData)(τ:DS):Option DS:=match d with
 |.tuple ds=>g ds τ
 |_=>none
theorem Hf{n:Nat}{u:TGs}{g:List PyData->DS->Option DS}(h:TG2 K u g)(hn:∀ds τ t7,g ds τ=some t7->ds.length=n):TG1 K (bQ K n u) (dGT g):=by
 refine⟨λd τ t7 e=>?_,?_⟩
 ·unfold dGT at e
  split at e
  ·exact h.ms _ _ _ e
  ·cases e
 intro S M τ σ H v d t7 Q r iv e q
 unfold dGT at e
 split at e
 ·obtain⟨a,vs,rfl,hl,ll⟩:=iv
  exact⟨a,vs,rfl,Same.tup same_hid hl,by rw[ll.length];exact hn _ _ _ e,h.run S M τ σ H vs _ t7 Q r ll e q⟩
 ·cases e
theorem Du:∀(ds:List PyData) (τ t7:DS),BH ds τ=some t7->ds.length=0
 |[],_,_,_=>rfl
 |_::_,_,_,e=>by cases e
theorem Ad{n:Nat}{f:DG}{g:List PyData->DS->Option DS}(h:∀ds τ t7,g ds τ=some t7->ds.length=n):∀(ds:List PyData) (τ t7:DS),AL f g ds τ=some t7->ds.length=n+1
 |[],_,_,e=>by cases e
 |d::ds,τ,t7,e=>by
  obtain⟨t6,e1,e⟩:=oB e
  rw[cM,h _ _ _ e]
def BN(g:DG)(c:DT)(e:DX):List PyData->List PyData->DS->Option (List PyData×DS)
 |[],acc,τ=>some (acc,τ)
 |d::ds,acc,τ=>(g d τ).bind λt6=>(c t6).bind λp=>if p.1=true then (e p.2).bind λq=>BN g c e ds (acc++[q.1]) q.2 else BN g c e ds acc p.2
def noG:Option L->Option L
 |some (.g _)=>none
 |o=>o
def Ff(own:Nat)(fr:List Nat)(τ:DS):DS:=List.replicate own none++fr.map λj=>noG (τ[j]?).join
theorem Rp{o:Option L}{l:L}(h:noG o=some l):o=some l/\∀x,l≠.g x:=by
 unfold noG at h
 split at h
 ·cases h
 ·rename_i hn
  exact⟨h,λx z=>hn x (by rw[h,z])⟩
def isM(τ:DS)(j:Nat):Bool:=match τ[j]? with
 |some (some (.m _))=>true
 |some (some (.k _))=>true
 |_=>false
theorem isM_iff{τ:DS}{j:Nat}:isM τ j=true↔∃o:Ow,τ[j]?=some (some o.L):=by
 unfold isM
 split
 ·rename_i xs h;exact⟨λ_=>⟨.l xs,h⟩,λ_=>rfl⟩
 ·rename_i xs h;exact⟨λ_=>⟨.t xs,h⟩,λ_=>rfl⟩
 ·rename_i h1 h2
  exact ⟨λz => (nomatch z), λ⟨o, z⟩ => by
   cases o with
   |l xs=>exact absurd z (h1 xs)
   |t xs=>exact absurd z (h2 xs)⟩
def dLC(own:Nat)(fr:List Nat)(it:DI)(g:DG)(c:DT)(e:DX)(τ:DS):Option (PyData×DS):=(it τ).bind λp=>if p.1.length<=sizeLine/\(fr.all λj=>!isM p.2 j)=true then (BN g c e p.1 [] (Ff own fr p.2)).map λq=>(.list q.1,p.2) else none
theorem Bi{own:Nat}{fr:List Nat}{τ:DS}{i:Nat}{l:L}(h:(Ff own fr τ)[i]?=some (some l)):∃k j,i=own+k/\fr[k]?=some j/\τ[j]?=some (some l):=by
 unfold Ff at h
 by_cases hi:i<own
 ·rw[cY (by simpa using hi),dF,if_pos hi]at h
  cases h
 ·rw[cR (by simpa using hi),dX,U']at h
  cases e:fr[i-own]? with
  |none=>rw[e]at h;cases h
  |some j =>
   rw[e]at h
   simp only[Option.map_some,Option.some.injEq]at h
   refine⟨i-own,j,by omega,e,?_⟩
   replace h:=(Rp h).1
   cases q:τ[j]? with
   |none=>rw[q]at h;cases h
   |some o=>rw[q]at h;cases o with
    |none=>cases h
    |some u=>cases h;rfl
theorem OI{own:Nat}{fr:List Nat}{τ:DS}(i:Nat)(d:PyData):(Ff own fr τ)[i]?≠some (some (.g d)):=λh=>by
 unfold Ff at h
 by_cases hi:i<own
 ·rw[cY (by simpa using hi),dF,if_pos hi]at h
  cases h
 ·rw[cR (by simpa using hi),dX,U']at h
  cases e:fr[i-own]? with
  |none=>rw[e]at h;cases h
  |some j =>
   rw[e]at h
   simp only[Option.map_some,Option.some.injEq]at h
   exact(Rp h).2 d rfl
theorem E1{own:Nat}{fr:List Nat}{σ:St}{k j:Nat}{v:V}(e:fr[k]?=some j)(h:σ[j]?=some (some v)):(blk own fr σ)[own+k]?=some (some v):=by
 unfold blk
 rw[cR (by simp),dX,U',show own+k-own=k by omega,e]
 show some (σ[j]?).join=_
 rw[h];rfl
theorem Kx{H:Hp}{xs:List PyData}{vs:List V}{d:PyData}{v:V}(l:IsL K H xs vs)(i:Is K H d v):IsL K H (xs++[d]) (vs++[v]):=KI l ⟨v,[],rfl,i,rfl⟩
theorem SR{own:Nat}{fr:List Nat}{wi:TI}{it:DI}{tg:TG}{g:DG}{tc:TT}{c:DT}{te:TE}{e:DX}{fe:Bool}(hi:IT K wi it)(hg:TG1 K tg g)(hc:T K tc c)(he:E K te fe e):E K (tLC own fr wi tg tc te) true (dLC own fr it g c e):=by
 refine⟨λτ d t7 e=>?_,?_⟩
 ·unfold dLC at e
  obtain⟨⟨x,t6⟩,e1,e⟩:=oB e
  split at e
  ·obtain⟨z,e3,e⟩:=oM e
   cases e;exact hi.like _ _ _ e1
  ·cases e
 intro S M τ σ H Q d t7 r ee q
 unfold dLC at ee
 obtain⟨⟨ds,t6⟩,e1,ee⟩:=oB ee
 split at ee
 ·rename_i hz
  obtain⟨hz,hnm⟩:=hz
  have hz:ds.length<=sizeLine:=hz
  obtain⟨⟨acc,t9⟩,e3,ee⟩:=oM ee
  obtain⟨rfl,rfl⟩:d = .list acc/\t7=t6:=by cases ee;exact⟨rfl,rfl⟩
  refine hi.run S M τ σ H _ ds _ r e1 λJ H1 r1 c1 iJ=>?_
  intro D hD
  -- nothing of the def may be changed in the block
  refine⟨λi m ys σ' H'=>∃l5 acc',R K (λb=>S b\/b=D) (λ_=>False) l5 σ' H'/\Keep S H1 (λb=>S b\/b=D) H'/\Chg (λb=>b=D) H1 H'/\IsL K (hid (λb=>S b\/b=D) H') acc' ys/\H' D=some (.lst ys)/\ys.length<=i/\i<=ds.length/\m=ds.length-i/\BN g c e (ds.drop i) acc' l5=some (acc,t9),?_,?_⟩
  ·have s:=BF hD (HO.lst [])
   have k:Keep S H1 (λb=>S b\/b=D) (upd H1 D (.lst [])):=λb o hn e=>by
    have:=Af e hD
    exact⟨λz=>z.elim hn this,s b o e⟩
   refine⟨ds.length,Ff own fr t7,[],⟨?_,?_,?_,?_,?_,λa h=>h.elim,?_,GR.nil OI⟩,k,.of s,rfl,AW,W' _,cZ _,by simp,by simpa using e3⟩
   ·unfold blk Ff;simp
   ·intro i x e
    obtain⟨kk,j,rfl,ej,et⟩:=Bi e
    obtain⟨v,h1,h2⟩:=r1.dat j x et
    exact⟨v,E1 ej h1,h2.mono k.same⟩
   ·intro i xs e
    obtain⟨kk,j,rfl,ej,et⟩:=Bi e
    have:=cz.mp hnm j (cj ej)
    rw[isM_iff.mpr ⟨xs,et⟩]at this
    cases this
   ·intro i x e
    obtain⟨kk,j,rfl,ej,et⟩:=Bi e
    obtain⟨a,vs,h1,h2,h3⟩:=r1.cst j x et
    exact⟨a,vs,E1 ej h1,k.same.seq h2,h3.mono k.same⟩
   ·intro i j xs ys a e
    obtain⟨kk,j',rfl,ej,et⟩:=Bi e
    have:=cz.mp hnm j' (cj ej)
    rw[isM_iff.mpr ⟨xs,et⟩]at this
    cases this
   ·rintro a (h|rfl)
    ·obtain⟨o,e⟩:=r1.ex a h
     exact⟨o,s _ _ e⟩
    ·exact⟨_,AW⟩
  ·rintro i m ys σ' H' ⟨l5,acc',rb,k,ch,la,hHD,hyl,hil,rfl,hl⟩
   obtain⟨I1,I2⟩:=iJ _ _ k
   by_cases hlt:i<ds.length
   ·right
    have ed:ds[i]?=some ds[i]:=Y' hlt
    obtain⟨go,yl⟩:=I1 i _ ed
    refine⟨go,λx H2 y=>?_⟩
    obtain⟨rfl,ix⟩:=yl x H2 y
    rw[dQ hlt,BN]at hl
    obtain⟨t8,e2,hl⟩:=oB hl
    obtain⟨⟨b,l0⟩,e4,hl⟩:=oB hl
    refine hg.run _ _ l5 σ' H2 x _ t8 _ rb ix e2 λσ3 r3 k3=>?_
    refine hc.run _ _ t8 σ3 H2 _ b l0 r3 e4 λH4 r4 c4=>?_
    have s4:Same H2 H4:=λb o e=>c4 b o (λz=>z) e
    cases b with
    |false =>
     rw[if_neg ck]
     exact⟨ds.length-(i+1),by omega,l0,acc',r4,k.trans (Same.keep s4),ch.trans (.of s4),la.mono (Same.keep s4).same,s4 _ _ hHD,by omega,hlt,rfl,hl⟩
    |true =>
     rw[if_pos rfl]
     rw[if_pos rfl]at hl
     obtain⟨⟨z,l6⟩,e5,hl⟩:=oB hl
     refine he.weak.run _ _ l0 σ3 H4 _ z l6 r4 e5 λv H5 r5 c5 i5=>?_
     have s5:Same H2 H5:=s4.trans λb o e=>c5 b o (λz=>z) e
     have hD5:=s5 _ _ hHD
     refine⟨hD5,by omega,ds.length-(i+1),by omega,l6,acc'++[z],?_,?_,?_,?_,AW,by rw[cT,dH];omega,hlt,rfl,hl⟩
     ·have kk:Keep (λb=>S b\/b=D) H5 (λb=>S b\/b=D) (upd H5 D (.lst (ys++[v]))):=λb o hn e=>⟨hn,by rw[AR (λz=>hn (.inr z))];exact e⟩
      refine⟨r5.len,λj x e=>let ⟨u,a,b⟩:=r5.dat j x e;⟨u,a,b.mono kk.same⟩,λj xs e=>let ⟨_,_,_,h,_⟩:=r5.mt j xs e;h.elim,λj xs e=>let ⟨a,vs,h1,h2,h3⟩:=r5.cst j xs e;⟨a,vs,h1,kk.same.seq h2,h3.mono kk.same⟩,r5.inj,λ_ h=>h.elim,λa h=>?_,r5.gr.to (λi d e=>⟨e,rfl⟩) (λj o a e q=>.inl ⟨o,e,q⟩) (λa h _=>h.elim) (tsS kk.same)⟩
      by_cases e:a=D
      ·subst e;exact⟨_,AW⟩
      ·obtain⟨o,q⟩:=r5.ex a h
       exact⟨o,by rw[AR e];exact q⟩
     ·refine k.trans λb o hn e=>⟨hn,?_⟩
      rw[AR (λz=>hn (.inr z))]
      exact s5 _ _ e
     ·refine ch.trans λb o hn e=>?_
      rw[AR hn]
      exact s5 _ _ e
     ·refine(Kx (la.mono (Same.keep s5).same) i5).mono (Keep.same λb o hn e=>⟨hn,?_⟩)
      rw[AR (λz=>hn (.inr z))]
      exact e
   ·left
    have e:i=ds.length:=by omega
    subst e
    rw[eJ,BN]at hl
    cases hl
    refine⟨I2 _ (W' _),?_⟩
    have s:Same H1 H':=λb o e=>ch b o (Af e hD) e
    refine q _ H' (r1.same s) (c1.trans (.of s)) ⟨.l acc,D,_,rfl,rfl,r1.none c1 hD,hHD,ys,rfl,la⟩
 ·cases ee
variable {K:KW}
def O0(own:Nat)(f1:List Nat)(j0:Nat)(f2:List Nat)(it:DI)(g:DG)(c:DT)(e:DX)(τ:DS):Option (PyData×DS):=(it τ).bind λp=>if p.1.length<=sizeLine/\isM p.2 j0=true/\((f1++f2).all λj=>!isM p.2 j)=true then
  (BN g c e p.1 [] (Ff own (f1++j0::f2) p.2)).bind λq=>match q.2[own+f1.length]?,p.2[j0]? with
   |some (some (.m xs)),some (some (.m _))=>some (.list q.1,p.2.set j0 (some (.m xs)))
   |some (some (.k xs)),some (some (.k _))=>some (.list q.1,p.2.set j0 (some (.k xs)))
   |_,_=>none
 else none
theorem Hr{own:Nat}{f1:List Nat}{j0:Nat}{f2:List Nat}{it:DI}{g:DG}{c:DT}{e:DX}{τ:DS}{d:PyData}{t7:DS}(h:O0 own f1 j0 f2 it g c e τ=some (d,t7)) :
  ∃ds t6 acc t9 xs,it τ=some (ds,t6)/\ds.length<=sizeLine/\isM t6 j0=true/\((f1++f2).all λj=>!isM t6 j)=true/\BN g c e ds [] (Ff own (f1++j0::f2) t6)=some (acc,t9)/\t9[own+f1.length]?=some (some (Ow.L xs))/\d = .list acc/\t7=t6.set j0 (some xs.L)/\∃y0:Ow,t6[j0]?=some (some y0.L)/\y0.fl=xs.fl:=by
 unfold O0 at h
 obtain⟨⟨ds,t6⟩,e1,h⟩:=oB h
 split at h
 ·rename_i hz
  obtain⟨⟨acc,t9⟩,e3,h⟩:=oB h
  dsimp only at h
  split at h
  ·rename_i xs ys hx hy
   cases h
   exact⟨ds,t6,acc,t9,.l xs,e1,hz.1,hz.2.1,hz.2.2,e3,hx,rfl,rfl,.l _,hy,rfl⟩
  ·rename_i xs ys hx hy
   cases h
   exact⟨ds,t6,acc,t9,.t xs,e1,hz.1,hz.2.1,hz.2.2,e3,hx,rfl,rfl,.t _,hy,rfl⟩
  ·cases h
 ·cases h
theorem Xe{f1 f2:List Nat}{j0 k j:Nat}(h:(f1++j0::f2)[k]?=some j):(k=f1.length/\j=j0)\/j∈f1++f2:=by
 rcases fK k f1.length with q|q|q
 ·rw[cY q]at h
  exact .inr (cU _ (cj h))
 ·subst q
  rw[cR (W' _),gi]at h
  cases h
  exact .inl ⟨rfl,rfl⟩
 ·rw[cR (by omega)]at h
  have e:k-f1.length=(k-f1.length-1)+1:=by omega
  rw[e,dZ]at h
  exact .inr (L' _ (cj h))
theorem bb{own:Nat}{f1:List Nat}{j0:Nat}{f2:List Nat}{wi:TI}{it:DI}{tg:TG}{g:DG}{tc:TT}{c:DT}{te:TE}{e:DX}{fe:Bool}(hi:IT K wi it)(hg:TG1 K tg g)(hc:T K tc c)(he:E K te fe e):E K (tLC own (f1++j0::f2) wi tg tc te) true (O0 own f1 j0 f2 it g c e):=by
 refine⟨λτ d t7 h=>?_,?_⟩
 ·obtain⟨ds,t6,acc,t9,xs,e1,_,hm,_,_,_,_,rfl,y0,hy,hf⟩:=Hr h
  exact(hi.like _ _ _ e1).trans (FA hy hf)
 intro S M τ σ H Q d t7 r ee q
 obtain⟨ds,t6,acc,t9,xs,e1,hz,hm,hnm,e3,hx,rfl,rfl,_⟩:=Hr ee
 obtain⟨y0,hm⟩:=isM_iff.mp hm
 refine hi.run S M τ σ H _ ds _ r e1 λJ H1 r1 c1 iJ=>?_
 obtain⟨p,us,hp,hM,hHp,lp⟩:=r1.mt j0 y0 hm
 have Sp:S p:=r1.sub p hM
 have mid:(f1++j0::f2)[f1.length]?=some j0:=by rw[cR (W' _),gi];rfl
 have only:∀(i:Nat) (ys:Ow),(Ff own (f1++j0::f2) t6)[i]?=some (some ys.L)->i=own+f1.length/\ys=y0:=λi ys h=>by
  obtain⟨k,j,rfl,ej,et⟩:=Bi h
  rcases Xe ej with ⟨rfl,rfl⟩|z
  ·rw[hm]at et;exact⟨rfl,(Ge et).symm⟩
  ·have:=cz.mp hnm j z
   rw[isM_iff.mpr ⟨ys,et⟩]at this
   cases this
 intro D hD
 have pD:p≠D:=Af hHp hD
 refine⟨λi m ys σ' H'=>∃l5 acc',R K (λb=>S b\/b=D) (λb=>b=p) l5 σ' H'/\Keep S H1 (λb=>S b\/b=D) H'/\Chg (λb=>b=D\/b=p) H1 H'/\IsL K (hid (λb=>S b\/b=D) H') acc' ys/\H' D=some (.lst ys)/\ys.length<=i/\i<=ds.length/\m=ds.length-i/\BN g c e (ds.drop i) acc' l5=some (acc,t9)/\isM l5 (own+f1.length)=true/\σ'[own+f1.length]?=some (some (.ref p)),?_,?_⟩
 ·have s:=BF hD (HO.lst [])
  have k:Keep S H1 (λb=>S b\/b=D) (upd H1 D (.lst [])):=λb o hn e=>by
   have:=Af e hD
   exact⟨λz=>z.elim hn this,s b o e⟩
  have mb:(Ff own (f1++j0::f2) t6)[own+f1.length]?=some (some y0.L):=by
   unfold Ff
   rw[cR (by simp),dX,U',show own+f1.length-own=f1.length by omega,mid]
   show some (noG (t6[j0]?).join)=_
   rw[hm];cases y0<;>rfl
  refine⟨ds.length,Ff own (f1++j0::f2) t6,[],⟨?_,?_,?_,?_,?_,?_,?_,GR.nil OI⟩,k,.of s,rfl,AW,W' _,cZ _,by simp,by simpa using e3,isM_iff.mpr ⟨_,mb⟩,E1 mid hp⟩
  ·unfold blk Ff;simp
  ·intro i x e
   obtain⟨kk,j,rfl,ej,et⟩:=Bi e
   obtain⟨v,h1,h2⟩:=r1.dat j x et
   exact⟨v,E1 ej h1,h2.mono k.same⟩
  ·intro i ys e
   obtain⟨rfl,rfl⟩:=only i ys e
   exact⟨p,us,E1 mid hp,rfl,s _ _ hHp,lp.mono k.same⟩
  ·intro i x e
   obtain⟨kk,j,rfl,ej,et⟩:=Bi e
   obtain⟨a,vs,h1,h2,h3⟩:=r1.cst j x et
   exact⟨a,vs,E1 ej h1,k.same.seq h2,h3.mono k.same⟩
  ·intro i j ys zs a e1 e2 _ _
   rw[(only i ys e1).1,(only j zs e2).1]
  ·rintro a rfl
   exact .inl Sp
  ·rintro a (h|rfl)
   ·obtain⟨o,e⟩:=r1.ex a h
    exact⟨o,s _ _ e⟩
   ·exact⟨_,AW⟩
 ·rintro i m ys σ' H' ⟨l5,acc',rb,k,ch,la,hHD,hyl,hil,rfl,hl,hmb,hpb⟩
  obtain⟨I1,I2⟩:=iJ _ _ k
  by_cases hlt:i<ds.length
  ·right
   have ed:ds[i]?=some ds[i]:=Y' hlt
   obtain⟨go,yl⟩:=I1 i _ ed
   refine⟨go,λx H2 y=>?_⟩
   obtain⟨rfl,ix⟩:=yl x H2 y
   rw[dQ hlt,BN]at hl
   obtain⟨t8,e2,hl⟩:=oB hl
   obtain⟨⟨b,l0⟩,e4,hl⟩:=oB hl
   obtain⟨zb,hmb⟩:=isM_iff.mp hmb
   refine hg.run _ _ l5 σ' H2 x _ t8 _ rb ix e2 λσ3 r3 k3=>?_
   have hpb3:σ3[own+f1.length]?=some (some (.ref p)):=(k3 _ _ hmb).trans hpb
   have hm2:t8[own+f1.length]?=some (some zb.L):=((hg.ms _ _ _ e2).2 _ _).mpr hmb
   refine hc.run _ _ t8 σ3 H2 _ b l0 r3 e4 λH4 r4 c4=>?_
   have k4:Keep (λb=>S b\/b=D) H2 (λb=>S b\/b=D) H4:=c4.keep λb z=>by subst z;exact .inl Sp
   have hm3:=((hc.like _ _ _ e4).own (own+f1.length)).mpr ⟨_,hm2⟩
   have hD4:H4 D=some (.lst ys):=c4 D _ (Ne.symm pD) hHD
   have ch4:Chg (λb=>b=D\/b=p) H1 H4:=ch.trans λb o hn e=>c4 b o (λz=>hn (.inr z)) e
   cases b with
   |false =>
    rw[if_neg ck]
    exact⟨ds.length-(i+1),by omega,l0,acc',r4,k.trans k4,ch4,la.mono k4.same,hD4,by omega,hlt,rfl,hl,isM_iff.mpr hm3,hpb3⟩
   |true =>
    rw[if_pos rfl]
    rw[if_pos rfl]at hl
    obtain⟨⟨z,l6⟩,e5,hl⟩:=oB hl
    refine he.weak.run _ _ l0 σ3 H4 _ z l6 r4 e5 λv H5 r5 c5 i5=>?_
    have k5:Keep (λb=>S b\/b=D) H4 (λb=>S b\/b=D) H5:=c5.keep λb z=>by subst z;exact .inl Sp
    have hD5:H5 D=some (.lst ys):=c5 D _ (Ne.symm pD) hD4
    have hm5:=((he.like _ _ _ e5).own (own+f1.length)).mpr hm3
    have kk:Keep (λb=>S b\/b=D) H5 (λb=>S b\/b=D) (upd H5 D (.lst (ys++[v]))):=λb o hn e=>⟨hn,by rw[AR (λz=>hn (.inr z))];exact e⟩
    refine⟨hD5,by omega,ds.length-(i+1),by omega,l6,acc'++[z],?_,(k.trans (k4.trans k5)).trans kk,?_,?_,AW,by rw[cT,dH];omega,hlt,rfl,hl,isM_iff.mpr hm5,hpb3⟩
    ·refine⟨r5.len,λj x e=>let ⟨u,a,b⟩:=r5.dat j x e;⟨u,a,b.mono kk.same⟩,λj xs e=>?_,λj xs e=>let ⟨a,vs,h1,h2,h3⟩:=r5.cst j xs e;⟨a,vs,h1,kk.same.seq h2,h3.mono kk.same⟩,r5.inj,r5.sub,λa h=>?_,r5.gr.to (λi d e=>⟨e,rfl⟩) (λj o a e q=>.inl ⟨o,e,q⟩) (λa h _=>⟨h,AR (by rw[show a=p from h];exact pD)⟩) (tsS kk.same)⟩
     ·obtain⟨a,ws,h1,h2,h3,h4⟩:=r5.mt j xs e
      exact⟨a,ws,h1,h2,by rw[AR (by rw[show a=p from h2];exact pD)];exact h3,h4.mono kk.same⟩
     ·by_cases e:a=D
      ·subst e;exact⟨_,AW⟩
      ·obtain⟨o,q⟩:=r5.ex a h
       exact⟨o,by rw[AR e];exact q⟩
    ·refine ch4.trans λb o hn e=>?_
     rw[AR (λz=>hn (.inl z))]
     exact c5 b o (λz=>hn (.inr z)) e
    ·exact(Kx (la.mono (k4.trans k5).same) i5).mono kk.same
  ·left
   have e:i=ds.length:=by omega
   subst e
   rw[eJ,BN]at hl
   cases hl
   refine⟨I2 _ (W' _),?_⟩
   have cp:Chg (λb=>b=p) H1 H':=λb o hn e=>ch b o (λz=>z.elim (Af e hD) hn) e
   obtain⟨a,ws,h1,h2,h3,h4⟩:=rb.mt _ _ hx
   have ea:a=p:=h2
   subst ea
   exact q _ H' (r1.setO hm hp cp h3 (h4.mono (Bf λb z=>.inl z))) (c1.trans λb o hn e=>cp b o (λz=>hn (by subst z;exact hM)) e) ⟨.l acc,D,_,rfl,rfl,r1.none c1 hD,hHD,ys,rfl,la⟩
variable {K:KW}
def O1(i:Nat)(f:DX)(τ:DS):Option (PyData×DS):=(f τ).bind λp=>match p.2[i]?,p.1 with
 |some (some (.c xs)),.int k=>(atI xs k).map λd=>(d,p.2)
 |_,_=>none
theorem bf{i:Nat}{fr:Bool}{tb:TE}{f:DX}(h:E K tb fr f):E K (tOp (VI K) (Fg i) tb) false (O1 i f):=by
 refine⟨λτ d t7 e=>?_,?_⟩
 ·unfold O1 at e
  obtain⟨⟨x,t6⟩,e1,e⟩:=oB e
  dsimp only at e
  split at e
  ·obtain⟨z,e3,e⟩:=oM e
   cases e;exact h.like _ _ _ e1
  ·cases e
 intro S M τ σ H Q d t7 r e q
 unfold O1 at e
 obtain⟨⟨x,t6⟩,e1,e⟩:=oB e
 dsimp only at e
 split at e
 ·rename_i xs k hx
  obtain⟨z,e3,e⟩:=oM e
  cases e
  obtain⟨a,vs,ha,_⟩:=r.cst i xs ((((h.like _ _ _ e1).2 i).1.2 xs).mp hx)
  refine⟨.ref a,ha,h.weak.run S M τ σ H _ _ _ r e1 λv H1 r1 c1 i1=>?_⟩
  obtain⟨a',vs',ha',h2,h3⟩:=r1.cst i xs hx
  rw[ha]at ha';cases ha'
  obtain⟨u,h4,h5⟩:=Te h3 e3
  exact⟨a,vs',k,u,rfl,i1,same_hid.seq h2,h4,q u H1 r1 c1 h5⟩
 ·cases e
def Ih(i:Nat)(τ:DS):Option (PyData×DS):=match τ[i]? with
 |some (some (.c xs))=>some (.int xs.length,τ)
 |_=>none
theorem XM{i:Nat}:E K (tCB (λxs H Q=>∃x n,xs=[x]/\aW K x H n/\Q (.int n) H) (EC (Fg i) J3)) false (Ih i):=by
 refine⟨λτ d t7 e=>?_,?_⟩
 ·unfold Ih at e
  split at e
  ·cases e;exact .refl
  ·cases e
 intro S M τ σ H Q d t7 r e q
 unfold Ih at e
 split at e
 ·rename_i xs hx
  cases e
  obtain⟨a,vs,ha,h2,h3⟩:=r.cst i xs hx
  refine⟨.ref a,ha,.ref a,vs.length,rfl,.inl ⟨vs,same_hid.seq h2,rfl⟩,?_⟩
  exact q _ H r .refl (by rw[h3.length];rfl)
 ·cases e
def Cv(i:Nat)(G:List L->Option (PyData×List L))(a:DA)(τ:DS):Option (PyData×DS):=(a τ).bind λp=>(Cc p.1).bind λds=>match p.2[i]? with
 |some (some (.c xs))=>(G (.c xs::ds.map L.d)).map λq=>(q.1,p.2)
 |_=>none
theorem M9{i:Nat}{fr:Bool}{G:List L->Option (PyData×List L)}{t:TA}{a:DA}{X:XK}(ha:A K t a):E K (Ke (spD K G fr) [] X (EC (Fg i) t)) fr (Cv i G a):=by
 refine⟨λτ d t7 e=>?_,?_⟩
 ·unfold Cv at e
  obtain⟨⟨x,t6⟩,e1,e⟩:=oB e
  obtain⟨ds,e2,e⟩:=oB e
  dsimp only at e
  split at e
  ·obtain⟨z,e3,e⟩:=oM e
   cases e;exact ha.like _ _ _ e1
  ·cases e
 intro S M τ σ H Q d t7 rr e q
 unfold Cv at e
 obtain⟨⟨x,t6⟩,e1,e⟩:=oB e
 obtain⟨ds,e2,e⟩:=oB e
 dsimp only at e
 split at e
 ·rename_i xs hx
  obtain⟨⟨z,ls'⟩,e3,e⟩:=oM e
  cases e
  obtain⟨p,us,hp,_⟩:=rr.cst i xs ((((ha.like _ _ _ e1).2 i).1.2 xs).mp hx)
  refine⟨.ref p,hp,ha.run S M τ σ H _ x _ rr e1 λvs H1 r1 c1 i1=>?_⟩
  have l:=Cy i1 e2
  obtain⟨p',us',hp',h2,h3⟩:=r1.cst i xs hx
  rw[hp]at hp';cases hp'
  show spD K G fr ((.ref p::vs)++[]) H1 Q X
  rw[dM]
  have ra:=Io r1 l
  refine⟨S,λ_=>False,.c xs::ds.map L.d,_,ls',⟨?_,?_,?_,?_,?_,λ_ h=>h.elim,r1.ex,GR.nil ?_⟩,e3,λv H' _ c res=>?_⟩
  ·have:=ra.len
   simp only[List.length_map,List.map_cons,List.length_cons]at this ⊢
   omega
  ·intro j x e
   cases j with
   |zero=>cases e
   |succ j=>exact ra.dat j x (by simpa using e)
  ·intro j ys e
   cases j with
   |zero=>exact absurd (G' (G' e)).symm Ow.not_c
   |succ j=>obtain⟨_,_,_,h,_⟩:=ra.mt j ys (by simpa using e);exact h.elim
  ·intro j ys e
   cases j with
   |zero=>cases e;exact⟨p,us',rfl,h2,h3⟩
   |succ j=>exact ra.cst j ys (by simpa using e)
  ·intro j k ys ws b e1 e2 _ _
   cases j with
   |zero=>exact absurd (G' (G' e1)).symm Ow.not_c
   |succ j=>obtain⟨_,_,_,h,_⟩:=ra.mt j ys (by simpa using e1);exact h.elim
  ·intro j x e
   cases j with
   |zero=>cases e
   |succ j =>
    rw[P',dZ,U',U']at e
    cases q:ds[j]? with
    |none=>rw[q]at e;cases e
    |some d=>rw[q]at e;cases e
  ·have s:Same H1 H':=λb o e=>c b o (λz=>z) e
   exact q v H' (r1.same s) (c1.trans (.of s)) (res.back r1 c1)
 ·cases e
section
variable {F:Frm} {S M:Addr->Prop} {τ t7:DS} {σ:St} {H H':Hp}
theorem RF.step(f:RF K F S M τ σ H)(r':R K S M t7 σ H')(c:Chg M H H')(lk:Like τ t7):RF K F S M t7 σ H' where
 r:=r'
 sS:=f.sS
 old:=λb o e n=>c b o (λz=>(f.new b z).elim n λq=>by rw[q]at e;cases e) (f.old b o e n)
 new:=f.new
 fm:=f.fm
 fs:=f.fs
 fsub:=f.fsub
 snew:=f.snew
 par:=f.par
 pm:=λi v e=>let ⟨xs,h⟩:=f.pm i v e;(lk.own i).mpr ⟨xs,h⟩
 fma:=f.fma
theorem RF.stay(f:RF K F S M τ σ H){σ':St}(r':R K S M t7 σ' H)(ms:MSame τ t7)(k:∀(j:Nat) (o:Ow),τ[j]?=some (some o.L)->σ'[j]?=σ[j]?):RF K F S M t7 σ' H where
 r:=r'
 sS:=f.sS
 old:=f.old
 new:=f.new
 fm:=f.fm
 fs:=f.fs
 fsub:=f.fsub
 snew:=f.snew
 par:=λi v e=>by
  obtain⟨xs,h⟩:=f.pm i v e
  rw[k i xs h]
  exact f.par i v e
 pm:=λi v e=>let ⟨xs,h⟩:=f.pm i v e;⟨xs,(ms.2 i xs).mpr h⟩
 fma:=f.fma
theorem RF.hnone(f:RF K F S M τ σ H){a:Addr}(h:H a=none):F.H a=none:=by
 cases e:F.H a with
 |none=>rfl
 |some o =>
  exfalso
  by_cases hm:F.M a
  ·obtain⟨o',e'⟩:=f.r.ex a (f.sS a (f.fsub a hm))
   rw[h]at e';cases e'
  ·have:=f.old a o e hm
   rw[h]at this;cases this
theorem RF.res(f:RF K F S M τ σ H){fr:Bool}{d:PyData}{v:V}(h:Res K fr S H H' d v):Res K fr F.S F.H H' d v:=by
 cases fr with
 |false=>exact Is.mono (Bf f.sS) h
 |true =>
  obtain⟨xs,a,vs,e1,e2,h1,h2,h3⟩:=h
  exact⟨xs,a,vs,e1,e2,f.hnone h1,h2,h3.mono (Bf λb z=>z.elim (λz=>.inl (f.sS b z)) .inr)⟩
end
variable {np:Nat}
def Cz(e:DX)(g:DG)(τ:DS):Option Out:=(e τ).bind λp=>(g p.1 p.2).map .nx
theorem Ed{fr fe:Bool}{te:TE}{tg:TG}{e:DX}{g:DG}(he:E K te fe e)(hg:TG1 K tg g):B K np (NK te tg) fr (Cz e g):=by
 intro F S M τ σ H D out hnp f ee q
 unfold Cz at ee
 obtain⟨⟨x,t6⟩,e1,ee⟩:=oB ee
 obtain⟨t8,e2,ee⟩:=oM ee
 cases ee
 refine he.weak.run S M τ σ H _ x t6 f.r e1 λv H1 r1 c1 i1=>?_
 refine hg.run S M t6 σ H1 v x t8 _ r1 i1 e2 λσ' r2 k=>?_
 exact q S M σ' H1 ((f.step r1 c1 (he.like _ _ _ e1)).stay r2 (hg.ms _ _ _ e2) k) (c1.keep f.r.sub)
theorem bj{fr fe:Bool}{te:TE}{i:Nat}{e:DX}(he:E K te fe e):B K np (λD σ H=>te σ H λv H'=>D.nx (σ.set i (some v)) H') fr (Cz e (dN i)):=Ed (tg:=K1 i) he AS
def Oz(np i:Nat)(τ:DS):Option Out:=if np<=i/\i<τ.length then some (.nx (τ.set i (some (.m [])))) else none
def tkP:List (PyData×PyData)->Option (List (List Int×PyData))
 |[]=>some []
 |(.tuple ks,d)::r=>(tkI ks).bind λk=>(tkP r).map ((k,d)::·)
 |_=>none
where tkI:List PyData->Option (List Int)
 |[]=>some []
 |.int i::r=>(tkI r).map (i::·)
 |_=>none
theorem T5:∀{l:List (PyData×PyData)} {m:List (List Int×PyData)},tkP l=some m->obD (.dict l)=false
 |[],_,_=>rfl
 |(k,d)::r,m,e=>by
  cases k with
  |list ks=>cases e
  |_=>rfl
theorem Mq:∀(k:List Int),tkP.tkI (k.map PyData.int)=some k
 |[]=>rfl
 |i::k=>by rw[P',tkP.tkI,Mq k];rfl
theorem Hu:∀(m:List (List Int×PyData)),tkP (BC m)=some m
 |[]=>rfl
 |(k,d)::m=>by
  have:=Hu m
  show(tkP.tkI (k.map PyData.int)).bind _=_
  rw[Mq]
  show((tkP (BC m)).map _)=_
  rw[this];rfl
theorem aZ{o:Ow}{kvs:List (PyData×PyData)}{m:List (List Int×PyData)}(h:PyData.dict kvs=o.D)(e:tkP kvs=some m):o = .t m:=by
 cases o with
 |l xs=>cases h
 |t m'=>cases h;rw[Hu]at e;cases e;rfl
def Fp(np i:Nat)(e:DX)(τ:DS):Option Out:=(e τ).bind λp=>match p.1 with
 |.list xs=>if np<=i/\i<p.2.length/\p.2.all okM=true then some (.nx (p.2.set i (some (.m xs)))) else none
 |.dict kvs=>(tkP kvs).bind λm=>if np<=i/\i<p.2.length/\p.2.all okM=true then some (.nx (p.2.set i (some (.k m)))) else none
 |_=>none
theorem RF.newM{F:Frm}{S M:Addr->Prop}{τ:DS}{σ:St}{H:Hp}(f:RF K F S M τ σ H){a:Addr}{i:Nat}{xs:Ow}{vs:HO}(hi:i<τ.length)(hnp:F.ar.length<=i)(hS:S a)(hM:¬M a)(hF:F.H a=none)(h':H a=some vs)
  (l:IsO K (hid S H) xs a vs):RF K F S (λb=>M b\/b=a) (τ.set i (some xs.L)) (σ.set i (some (.ref a))) H:=by
 have hs:i<σ.length:=by rw[f.r.len];exact hi
 have ne:∀j,j≠i->(τ.set i (some xs.L))[j]?=τ[j]?:=λj hj=>R' (Ne.symm hj)
 have ne':∀j,j≠i->(σ.set i (some (V.ref a)))[j]?=σ[j]?:=λj hj=>R' (Ne.symm hj)
 have se:(τ.set i (some xs.L))[i]?=some (some xs.L):=V' hi
 have se':(σ.set i (some (V.ref a)))[i]?=some (some (.ref a)):=V' hs
 have Ma:∀(j:Nat) (ys:Ow) (b:Addr),j≠i->τ[j]?=some (some ys.L)->σ[j]?=some (some (.ref b))->b≠a:=λj ys b hj e e' z=>by
  obtain⟨b',us,h1,h2,_⟩:=f.r.mt j ys e
  rw[e']at h1;cases h1
  subst z
  exact hM h2
 refine⟨⟨by rw[cV,cV];exact f.r.len,λj x e=>?_,λj ys e=>?_,λj ys e=>?_,λj1 j2 ys zs b e1 e2 f1 f2=>?_,λb h=>h.elim (f.r.sub b) λz=>by rw[z];exact hS,f.r.ex,f.r.gr.to (λj x e=>?_) (λj o b e q=>?_) (λb hb _=>⟨.inl hb,rfl⟩) .refl⟩,f.sS,f.old,λb h=>h.elim (f.new b) λz=>.inr (by rw[z];exact hF),λb h=>.inl (f.fm b h),f.fs,f.fsub,f.snew,λj v e=>?_,λj v e=>?_,f.fma⟩
 ·by_cases hj:j=i
  ·subst hj;rw[se]at e;exact absurd (G' (G' e)) Ow.not_d
  ·rw[ne j hj]at e
   rw[ne' j hj]
   exact f.r.dat j x e
 ·by_cases hj:j=i
  ·subst hj
   rw[se]at e
   obtain rfl:=Ge e
   exact⟨a,vs,se',.inr rfl,h',l⟩
  ·rw[ne j hj]at e
   rw[ne' j hj]
   obtain⟨b,us,h1,h2,h3,h4⟩:=f.r.mt j ys e
   exact⟨b,us,h1,.inl h2,h3,h4⟩
 ·by_cases hj:j=i
  ·subst hj;rw[se]at e;exact absurd (G' (G' e)) Ow.not_c
  ·rw[ne j hj]at e
   rw[ne' j hj]
   exact f.r.cst j ys e
 ·by_cases h1:j1=i
  ·by_cases h2:j2=i
   ·rw[h1,h2]
   ·exfalso
    subst h1
    rw[se']at f1;cases f1
    rw[ne j2 h2]at e2
    rw[ne' j2 h2]at f2
    exact Ma j2 zs _ h2 e2 f2 rfl
  ·by_cases h2:j2=i
   ·exfalso
    subst h2
    rw[se']at f2;cases f2
    rw[ne j1 h1]at e1
    rw[ne' j1 h1]at f1
    exact Ma j1 ys _ h1 e1 f1 rfl
   ·rw[ne j1 h1]at e1
    rw[ne' j1 h1]at f1
    rw[ne j2 h2]at e2
    rw[ne' j2 h2]at f2
    exact f.r.inj _ _ _ _ b e1 e2 f1 f2
 ·by_cases hj:j=i
  ·subst hj;rw[se]at e;exact absurd (G' (G' e)) Ow.not_g
  ·rw[ne j hj]at e;exact⟨e,ne' j hj⟩
 ·by_cases hj:j=i
  ·subst hj;rw[se']at q;cases q;exact .inr hM
  ·rw[ne j hj]at e;rw[ne' j hj]at q;exact .inl ⟨o,e,q⟩
 ·have:j≠i:=λz=>by
   subst z
   have:=(K'.mp e).1
   omega
  rw[ne' j this]
  exact f.par j v e
 ·have:j≠i:=λz=>by
   subst z
   have:=(K'.mp e).1
   omega
  rw[ne j this]
  exact f.pm j v e
theorem RF.hide{F:Frm}{S M:Addr->Prop}{τ:DS}{σ:St}{H H':Hp}(f:RF K F S M τ σ H){a:Addr}(s:Same H H')(ha:H a=none)(h':∃o,H' a=some o):RF K F (λb=>S b\/b=a) M τ σ H':=by
 have k:Keep S H (λb=>S b\/b=a) H':=λb o hn e=>⟨λz=>z.elim hn (Af e ha),s b o e⟩
 refine ⟨⟨f.r.len, λj x e => let ⟨v, h1, h2⟩ := f.r.dat j x e; ⟨v, h1, h2.mono k.same⟩, λj x e => let ⟨b, vs, h1, h2, h3, h4⟩ := f.r.mt j x e; ⟨b, vs, h1, h2, s _ _ h3, h4.mono k.same⟩,
  λj x e=>let ⟨b,vs,h1,h2,h3⟩:=f.r.cst j x e;⟨b,vs,h1,k.same.seq h2,h3.mono k.same⟩,f.r.inj,λb h=>.inl (f.r.sub b h),λb h=>?_,f.r.gr.to (λi d e=>⟨e,rfl⟩) (λj o a e q=>.inl ⟨o,e,q⟩) (λa h _=>⟨h,by obtain⟨o,e⟩:=f.r.ex a (f.r.sub a h);rw[e];exact s _ _ e⟩) (tsS k.same)⟩,λb h=>.inl (f.sS b h),λb o e n=>s _ _ (f.old b o e n),f.new,f.fm,f.fs,f.fsub,λb h=>h.elim (f.snew b) λz=>.inr (by rw[z];exact f.hnone ha),f.par,f.pm,f.fma⟩
 rcases h with h|h
 ·obtain⟨o,e⟩:=f.r.ex b h
  exact⟨o,s _ _ e⟩
 ·rw[h];exact h'
theorem RF.hideE{F:Frm}{S M:Addr->Prop}{τ t6:DS}{σ:St}{H H':Hp}(f:RF K F S M τ σ H){a:Addr}(r1:R K S M t6 σ H')(c:Chg M H H')(lk:Like τ t6)(ok:t6.all okM=true)(ha:H a=none)(h':∃o,H' a=some o/\OwH o):RF K F (λb=>S b\/b=a) M t6 σ H':=by
 have f1:=f.step r1 c lk
 have k:Keep S H (λb=>S b\/b=a) H':=λb o hn e=>⟨λz=>z.elim hn (Af e ha),c b o (λz=>hn (f.r.sub b z)) e⟩
 have ts:TSm (hid S H') (hid (λb=>S b\/b=a) H'):=Dd λb z=>z.elim .inl λz=>by subst z;exact .inr h'
 refine⟨⟨r1.len,λj x e=>?_,λj x e=>?_,λj x e=>?_,r1.inj,λb h=>.inl (f.r.sub b h),λb h=>?_,r1.gr.to (λi d e=>⟨e,rfl⟩) (λj o a e q=>.inl ⟨o,e,q⟩) (λa h _=>⟨h,rfl⟩) ts⟩,λb h=>.inl (f.sS b h),f1.old,f.new,f.fm,f.fs,f.fsub,λb h=>h.elim (f.snew b) λz=>.inr (by rw[z];exact f.hnone ha),f.par,f1.pm,f.fma⟩
 ·obtain⟨v,h1,h2⟩:=f.r.dat j x (((lk.2 j).1.1 x).mp e)
  exact⟨v,h1,h2.mono k.same⟩
 ·obtain⟨b,vs,h1,h2,h3,h4⟩:=r1.mt j x e
  exact⟨b,vs,h1,h2,h3,h4.monoT ts (cz.mp ok (some x.L) (cj e))⟩
 ·obtain⟨b,vs,h1,h2,h3⟩:=f.r.cst j x (((lk.2 j).1.2 x).mp e)
  exact⟨b,vs,h1,k.same.seq h2,h3.mono k.same⟩
 ·rcases h with h|h
  ·exact r1.ex b h
  ·obtain⟨vs,e,_⟩:=h'
   rw[h];exact⟨_,e⟩
theorem ZK{fr:Bool}{i:Nat}:B K np (NK (Xs J3) (K1 i)) fr (Oz np i):=by
 intro F S M τ σ H D out hnp f ee q
 unfold Oz at ee
 split at ee
 ·rename_i hi
  cases ee
  refine⟨cZ _,λa ha=>?_⟩
  have s:=BF ha (HO.lst [])
  have f1:=f.hide s ha ⟨_,AW⟩
  have hM:¬M a:=λz=>f.r.fresh ha (f.r.sub a z)
  exact q _ _ _ _ (f1.newM (xs:=.l []) hi.2 (cm hnp hi.1) (.inr rfl) hM (f.hnone ha) AW ⟨[],rfl,rfl⟩) λb o hn e=>⟨λz=>z.elim hn (Af e ha),s b o e⟩
 ·cases ee
theorem Tw{fr:Bool}{i:Nat}{te:TE}{e:DX}(he:E K te true e):B K np (NK te (K1 i)) fr (Fp np i e):=by
 intro F S M τ σ H D out hnp f ee q
 unfold Fp at ee
 obtain⟨⟨x,t6⟩,e1,ee⟩:=oB ee
 dsimp only at ee
 split at ee
 ·split at ee
  ·rename_i xs hi
   cases ee
   refine he.run S M τ σ H _ _ t6 f.r e1 λv H1 r1 c1 i1=>?_
   obtain⟨ys,a,vs,e2,rfl,h1,h2,h3⟩:=i1
   obtain rfl:=Ow.D_list e2
   have f1:=f.hideE r1 c1 (he.like _ _ _ e1) hi.2.2 h1 ⟨_,h2,h3.ho⟩
   have hM:¬M a:=λz=>f.r.fresh h1 (f.r.sub a z)
   exact q _ _ _ _ (f1.newM (xs:=.l _) hi.2.1 (cm hnp hi.1) (.inr rfl) hM (f.hnone h1) h2 h3) λb o hn e=>⟨λz=>z.elim hn (Af e h1),c1 b o (λz=>hn (f.r.sub b z)) e⟩
  ·cases ee
 ·obtain⟨m,em,ee⟩:=oB ee
  split at ee
  ·rename_i hi
   cases ee
   refine he.run S M τ σ H _ _ t6 f.r e1 λv H1 r1 c1 i1=>?_
   obtain⟨ys,a,vs,e2,rfl,h1,h2,h3⟩:=i1
   obtain rfl:=aZ e2 em
   have f1:=f.hideE r1 c1 (he.like _ _ _ e1) hi.2.2 h1 ⟨_,h2,h3.ho⟩
   have hM:¬M a:=λz=>f.r.fresh h1 (f.r.sub a z)
   exact q _ _ _ _ (f1.newM (xs:=.t _) hi.2.1 (cm hnp hi.1) (.inr rfl) hM (f.hnone h1) h2 h3) λb o hn e=>⟨λz=>z.elim hn (Af e h1),c1 b o (λz=>hn (f.r.sub b z)) e⟩
  ·cases ee
 ·cases ee
def Be(e:DX)(τ:DS):Option Out:=(e τ).map λp=>.rt p.1 p.2
theorem Cj{fr fe:Bool}{te:TE}{e:DX}(he:E K te fe e)(hf:fr=true->fe=true):B K np (VC te) fr (Be e):=by
 intro F S M τ σ H D out hnp f ee q
 unfold Be at ee
 obtain⟨⟨x,t6⟩,e1,ee⟩:=oM ee
 cases ee
 refine he.run S M τ σ H _ x t6 f.r e1 λv H1 r1 c1 i1=>?_
 exact q S M σ H1 v (f.step r1 c1 (he.like _ _ _ e1)) (f.res (i1.imp (λ_=>f.r.fresh) fr hf))
def Hq(np i:Nat)(τ:DS):Option Out:=match τ[i]? with
 |some (some (.m xs))=>if np<=i then some (.rt (.list xs) τ) else none
 |some (some (.k xs))=>if np<=i then some (.rt (.dict (BC xs)) τ) else none
 |_=>none
theorem Tr{np i:Nat}{τ:DS}{out:Out}(e:Hq np i τ=some out):∃w,τ[i]?=some (some (Ow.L w))/\np<=i/\out = .rt w.D τ:=by
 unfold Hq at e
 split at e
 ·rename_i xs hx
  split at e
  ·rename_i h;cases e;exact⟨.l xs,hx,h,rfl⟩
  ·cases e
 ·rename_i xs hx
  split at e
  ·rename_i h;cases e;exact⟨.t xs,hx,h,rfl⟩
  ·cases e
 ·cases e
theorem RL{fr:Bool}{i:Nat}:B K np (VC (Fg i)) fr (Hq np i):=by
 intro F S M τ σ H D out hnp f ee q
 obtain⟨xs,hx,hi,rfl⟩:=Tr ee
 obtain⟨a,vs,h1,h2,h3,h4⟩:=f.r.mt i xs hx
 refine⟨_,h1,q S M σ H _ f ?_⟩
 have hF:F.H a=none:=by
  rcases f.new a h2 with z|z
  ·exfalso
   obtain⟨j,hj⟩:=f.fma a z
   obtain⟨ys,hy⟩:=f.pm j _ hj
   have e:=f.r.inj j i ys xs a hy hx (f.par j _ hj) h1
   have:=(K'.mp hj).1
   omega
  ·exact z
 have res:Res K true F.S F.H H xs.D (.ref a):=⟨xs,a,vs,rfl,rfl,hF,h3,h4.mono (Bf λb z=>z.elim (f.sS b) λz=>by rw[z];exact f.r.sub a h2)⟩
 refine res.imp (λb hb=>?_) fr λ_=>rfl
 intro z
 obtain⟨o,e⟩:=f.fs b z
 rw[hb]at e;cases e
def Py(τ:DS):Option Out:=some (.rt .none τ)
def Fe(e:DX)(τ:DS):Option Out:=(e τ).map λp=>.nx p.2
theorem Xd{fr fe:Bool}{te:TE}{e:DX}(he:E K te fe e):B K np (NJ te) fr (Fe e):=by
 intro F S M τ σ H D out hnp f ee q
 unfold Fe at ee
 obtain⟨⟨x,t6⟩,e1,ee⟩:=oM ee
 cases ee
 refine he.run S M τ σ H _ x t6 f.r e1 λv H1 r1 c1 i1=>?_
 exact q S M σ H1 (f.step r1 c1 (he.like _ _ _ e1)) (c1.keep f.r.sub)
def dMt(i:Nat)(G:List PyData->List PyData->Option (PyData×List PyData))(a:DA)(τ:DS):Option (PyData×DS):=(a τ).bind λp=>(Cc p.1).bind λds=>match p.2[i]? with
 |some (some (.m xs))=>(G xs ds).map λq=>(q.1,p.2.set i (some (.m q.2)))
 |_=>none
def MR(K:KW)(r:V->List V->Hp->VK->Prop)(G:List PyData->List PyData->Option (PyData×List PyData)):Prop:=∀(S:Addr->Prop) H a vs us xs ds d xs' (Q:VK),S a->H a=some (.lst vs)->IsL K (hid S H) xs vs->IsL K (hid S H) ds us->G xs ds=some (d,xs') ->
 (∀v vs',Is K (hid S H) d v->IsL K (hid S H) xs' vs'->Q v (upd H a (.lst vs')))->r (.ref a) us H Q
theorem FL{S:Addr->Prop}{H:Hp}{a:Addr}{o:HO}(h:S a):hid S (upd H a o)=hid S H:=by
 funext b
 unfold hid
 by_cases z:S b
 ·rw[if_pos z,if_pos z]
 ·rw[if_neg z,if_neg z,AR (λe=>z (by rw[e];exact h))]
theorem SY{i:Nat}{G:List PyData->List PyData->Option (PyData×List PyData)}{a:DA}{τ t7:DS}{d:PyData}(e:dMt i G a τ=some (d,t7)):∃rs t6 ds xs xs',a τ=some (rs,t6)/\Cc rs=some ds/\t6[i]?=some (some (.m xs))/\G xs ds=some (d,xs')/\t7=t6.set i (some (.m xs')):=by
 unfold dMt at e
 obtain⟨⟨x,t6⟩,e1,e⟩:=oB e
 obtain⟨ds,e2,e⟩:=oB e
 dsimp only at e
 split at e
 ·rename_i xs hx
  obtain⟨⟨z,zs⟩,e3,e⟩:=oM e
  cases e
  exact⟨x,t6,ds,xs,zs,e1,e2,hx,e3,rfl⟩
 ·cases e
theorem ba{i:Nat}{r:V->List V->Hp->VK->Prop}{G:List PyData->List PyData->Option (PyData×List PyData)}{t:TA}{a:DA}(h:MR K r G)(ha:A K t a):E K (tBM K "list" r (Fg i) t) false (dMt i G a):=by
 refine⟨λτ d t7 e=>?_,?_⟩
 ·obtain⟨rs,t6,ds,xs,xs',e1,e2,e3,e4,rfl⟩:=SY e
  exact(ha.like _ _ _ e1).trans (Pe e3)
 intro S M τ σ H Q d t7 rr e q
 obtain⟨rs,t6,ds,xs,xs',e1,e2,e3,e4,rfl⟩:=SY e
 have lk:=ha.like _ _ _ e1
 obtain⟨zs,hz⟩:=lk.ml e3
 obtain⟨p,us,hp,hM,hl0,_⟩:=rr.ml i zs hz
 refine⟨.ref p,hp,.inl ⟨rfl,us,SqL.of hl0⟩,?_⟩
 refine ha.run S M τ σ H _ rs _ rr e1 λvs H1 r1 c1 i1=>?_
 have l:=Cy i1 e2
 obtain⟨p',us',hp',hM',hl,ll⟩:=r1.ml i xs e3
 rw[hp]at hp';cases hp'
 have Sp:=r1.sub p hM'
 refine h S H1 p us' vs xs ds d xs' _ Sp hl ll l e4 λv vs' iv il=>?_
 have c:Chg (λb=>b=p) H1 (upd H1 p (.lst vs')):=λb o hn e=>by rw[AR hn];exact e
 refine q v _ (r1.setM e3 hp c AW (by rw[FL Sp];exact il)) (c1.trans λb o hn e=>c b o (λz=>hn (by subst z;exact hM')) e) ?_
 show Is K (hid S _) d v
 rw[FL Sp];exact iv
def ER:List PyData->List PyData->Option (PyData×List PyData)
 |xs,[d]=>if xs.length<sizeLine then some (.none,xs++[d]) else none
 |_,_=>none
theorem Wm:MR K Kl ER:=by
 intro S H a vs us xs ds d xs' Q Sa hl ll l e q
 unfold ER at e
 split at e
 ·split at e
  ·rename_i d0 hz
   cases e
   obtain⟨v,us',rfl,iv,iu⟩:=l
   cases (show us'=[] from iu)
   exact⟨a,vs,v,rfl,rfl,hl,by rw[ll.length];exact hz,q _ _ rfl (Kx ll iv)⟩
  ·cases e
 ·cases e
def Ep:List PyData->List PyData->Option (PyData×List PyData)
 |xs,[.list ys]=>if xs.length+ys.length<=sizeLine then some (.none,xs++ys) else none
 |_,_=>none
theorem Wl:MR K UB Ep:=by
 intro S H a vs us xs ds d xs' Q Sa hl ll l e q
 unfold Ep at e
 split at e
 ·split at e
  ·rename_i ys hz
   cases e
   obtain⟨v,us',rfl,⟨b,ws,rfl,hb,lb⟩,iu⟩:=l
   cases (show us'=[] from iu)
   exact⟨a,b,vs,ws,rfl,rfl,hl,(hid_iff.mp hb).2,by rw[ll.length,lb.length];exact hz,q _ _ rfl (KI ll lb)⟩
  ·cases e
 ·cases e
def Lm:List PyData->List PyData->Option (PyData×List PyData)
 |_,[]=>some (.none,[])
 |_,_=>none
theorem Qu{H:Hp}:∀{xs:List PyData} {vs:List V} {j:Nat} {d:PyData} {v:V},IsL K H xs vs->Is K H d v->IsL K H (xs.set j d) (vs.set j v)
 |[],_,_,_,_,h,_=>by rw[show _=[] from h];rfl
 |x::xs,_,0,d,v,⟨u,us,e,h,l⟩,i=>by subst e;exact⟨v,us,rfl,i,l⟩
 |x::xs,_,j+1,d,v,⟨u,us,e,h,l⟩,i=>by subst e;exact⟨u,us.set j v,rfl,h,Qu l i⟩
def Ic(i:Nat)(e k:DX)(τ:DS):Option Out:=(e τ).bind λp=>(k p.2).bind λq=>match q.2[i]?,q.1 with
 |some (some (.m xs)),.int n=>(ixN xs.length n).map λj=>.nx (q.2.set i (some (.m (xs.set j p.1))))
 |_,_=>none
theorem Xc{fr f1 f2:Bool}{i:Nat}{te tk:TE}{e k:DX}(he:E K te f1 e)(hk:E K tk f2 k):B K np (NK te (YZ (Fg i) tk WQ)) fr (Ic i e k):=by
 intro F S M τ σ H D out hnp f ee q
 unfold Ic at ee
 obtain⟨⟨x,t6⟩,e1,ee⟩:=oB ee
 obtain⟨⟨y,t8⟩,e2,ee⟩:=oB ee
 dsimp only at ee
 split at ee
 ·rename_i xs n hx
  obtain⟨j,e3,ee⟩:=oM ee
  cases ee
  have lk1:=he.like _ _ _ e1
  have lk2:=hk.like _ _ _ e2
  refine he.weak.run S M τ σ H _ x t6 f.r e1 λv H1 r1 c1 i1=>?_
  obtain⟨zs,hz⟩:=lk2.ml hx
  obtain⟨p,us,hp,hM,_,_⟩:=r1.ml i zs hz
  refine⟨.ref p,hp,hk.weak.run S M t6 σ H1 _ _ t8 r1 e2 λw H2 r2 c2 i2=>?_⟩
  obtain⟨p',us',hp',hM',hl,ll⟩:=r2.ml i xs hx
  rw[hp]at hp';cases hp'
  have Sp:=r2.sub p hM'
  refine⟨p,us',n,j,rfl,i2,hl,by rw[ll.length];exact e3,?_⟩
  have c:Chg (λb=>b=p) H2 (upd H2 p (.lst (us'.set j v))):=λb o hn e=>by rw[AR hn];exact e
  have iv:Is K (hid S H2) x v:=Is.mono (c2.keep r1.sub).same i1
  have f2:=f.step r2 (c1.trans c2) (lk1.trans lk2)
  have r3:=r2.setM hx hp c AW (by rw[FL Sp];exact Qu (j:=j) ll iv)
  have c3:Chg M H2 (upd H2 p (.lst (us'.set j v))):=λb o hn e=>c b o (λz=>hn (by subst z;exact hM')) e
  exact q S M σ _ (f2.step r3 c3 (Pe hx)) (((c1.trans c2).trans c3).keep f.r.sub)
 ·cases ee
theorem Gl.trans{F:Frm}{fr:Bool}{S S1:Addr->Prop}{H H1:Hp}{D:Mp}{o:Out}(k:Keep S H S1 H1)(h:Gl K F fr S H D o):Gl K F fr S1 H1 D o:=by
 cases o with
 |nx τ=>exact λS' M' σ' H' r k'=>h S' M' σ' H' r (k.trans k')
 |bk τ=>exact λS' M' σ' H' r k'=>h S' M' σ' H' r (k.trans k')
 |ct τ=>exact λS' M' σ' H' r k'=>h S' M' σ' H' r (k.trans k')
 |rt d τ=>exact λS' M' σ' H' v r k'=>h S' M' σ' H' v r k'
def Eu(τ:DS):Option Out:=some (.nx τ)
theorem GQ{fr:Bool}:B K np T7 fr Eu:=by
 intro F S M τ σ H D out hnp f ee q
 cases ee
 exact q S M σ H f .refl
def BA(a b:DB)(τ:DS):Option Out:=(a τ).bind λo=>match o with
 |.nx t7=>b t7
 |o=>some o
theorem BB{fr:Bool}{t u:TS}{a b:DB}(ha:B K np t fr a)(hb:B K np u fr b):B K np (V9 t u) fr (BA a b):=by
 intro F S M τ σ H D out hnp f ee q
 unfold BA at ee
 obtain⟨o,e1,ee⟩:=oB ee
 refine ha F S M τ σ H _ o hnp f e1 ?_
 cases o with
 |nx t6=>exact λS' M' σ' H' r k=>hb F S' M' t6 σ' H' D out hnp r ee (q.trans k)
 |bk t6=>cases ee;exact q
 |ct t6=>cases ee;exact q
 |rt d t6=>cases ee;exact q
def Cu(c:DT)(a b:DB)(τ:DS):Option Out:=(c τ).bind λp=>if p.1=true then a p.2 else b p.2
theorem Jh{fr:Bool}{tc:TT}{t u:TS}{c:DT}{a b:DB}(hc:T K tc c)(ha:B K np t fr a)(hb:B K np u fr b):B K np (Xt tc t u) fr (Cu c a b):=by
 intro F S M τ σ H D out hnp f ee q
 unfold Cu at ee
 obtain⟨⟨k,t6⟩,e1,ee⟩:=oB ee
 refine hc.run S M τ σ H _ k t6 f.r e1 λH1 r1 c1=>?_
 have f1:=f.step r1 c1 (hc.like _ _ _ e1)
 cases k with
 |true=>exact ha F S M t6 σ H1 D out hnp f1 ee (q.trans (c1.keep f.r.sub))
 |false=>exact hb F S M t6 σ H1 D out hnp f1 ee (q.trans (c1.keep f.r.sub))
def Vw(τ:DS):Option Out:=some (.bk τ)
def Vv(τ:DS):Option Out:=some (.ct τ)
def HL:DB:=λ_=>none
theorem U2{fr:Bool}:B K np WA fr HL:=by
 intro F S M τ σ H D out hnp f ee q
 cases ee
def Bp(g:DG)(b:DB):List PyData->DS->Option Out
 |[],τ=>some (.nx τ)
 |d::ds,τ=>(g d τ).bind λt6=>(b t6).bind λo=>match o with
  |.nx t8=>Bp g b ds t8
  |.ct t8=>Bp g b ds t8
  |.bk t8=>some (.nx t8)
  |.rt d t8=>some (.rt d t8)
def Dz(it:DI)(g:DG)(b:DB)(τ:DS):Option Out:=(it τ).bind λp=>Bp g b p.1 p.2
theorem GS{fr:Bool}{wi:TI}{tg:TG}{tb:TS}{it:DI}{g:DG}{b:DB}(hi:IT K wi it)(hg:TG1 K tg g)(hb:B K np tb fr b):B K np (ZT wi tg tb) fr (Dz it g b):=by
 intro F S M τ σ H D out hnp f ee q
 unfold Dz at ee
 obtain⟨⟨ds,t6⟩,e1,ee⟩:=oB ee
 refine hi.run S M τ σ H _ ds t6 f.r e1 λJ H1 r1 c1 iJ=>?_
 have f1:=f.step r1 c1 (hi.like _ _ _ e1)
 have q1:=q.trans (c1.keep f.r.sub)
 refine⟨λi m σ' H'=>m=ds.length-i/\i<=ds.length/\∃S' M' t7,RF K F S' M' t7 σ' H'/\Keep S H1 S' H'/\Bp g b (ds.drop i) t7=some out,⟨ds.length,by simp,cZ _,S,M,t6,f1,.refl,by simpa using ee⟩,?_⟩
 rintro i m σ' H' ⟨rfl,hil,S',M',t7,f',k',hl⟩
 obtain⟨I1,I2⟩:=iJ _ _ k'
 by_cases hlt:i<ds.length
 ·right
  have ed:ds[i]?=some ds[i]:=Y' hlt
  obtain⟨go,yl⟩:=I1 i _ ed
  refine⟨go,λσ2 H2=>∃S2 M2 t8,RF K F S2 M2 t8 σ2 H2/\Keep S H1 S2 H2/\Bp g b (ds.drop (i+1)) t8=some out,λσ2 H2 h=>⟨ds.length-(i+1),by omega,rfl,hlt,h⟩,λx H2 y=>?_⟩
  obtain⟨rfl,ix⟩:=yl x H2 y
  rw[dQ hlt,Bp]at hl
  obtain⟨t8,e2,hl⟩:=oB hl
  obtain⟨o,e3,hl⟩:=oB hl
  refine hg.run S' M' t7 σ' H2 x _ t8 _ f'.r ix e2 λσ3 r3 k3=>?_
  have f3:=f'.stay r3 (hg.ms _ _ _ e2) k3
  refine hb F S' M' t8 σ3 H2 _ o hnp f3 e3 ?_
  cases o with
  |nx l7=>exact λS4 M4 σ4 H4 f4 k4=>⟨S4,M4,l7,f4,k'.trans k4,hl⟩
  |ct l7=>exact λS4 M4 σ4 H4 f4 k4=>⟨S4,M4,l7,f4,k'.trans k4,hl⟩
  |bk l7=>cases hl;exact λS4 M4 σ4 H4 f4 k4=>q1 S4 M4 σ4 H4 f4 (k'.trans k4)
  |rt d l7=>cases hl;exact λS4 M4 σ4 H4 v f4 k4=>q1 S4 M4 σ4 H4 v f4 k4
 ·left
  have e:i=ds.length:=by omega
  subst e
  rw[eJ,Bp]at hl
  cases hl
  exact⟨I2 _ (W' _),q1 S' M' σ' H' f' k'⟩
def fin:List L->DS->Option (List L)
 |[],_=>some []
 |.d x::ls,_::τ=>(fin ls τ).map (.d x::·)
 |.c x::ls,_::τ=>(fin ls τ).map (.c x::·)
 |.m _::ls,some (.m xs)::τ=>(fin ls τ).map (.m xs::·)
 |.k _::ls,some (.k xs)::τ=>(fin ls τ).map (.k xs::·)
 |_,_=>none
def B1(fr:Bool)(np nl:Nat)(b:DB)(ls:List L):Option (PyData×List L):=if ls.length=np then (b (ls.map some++List.replicate nl none)).bind λo=>match o with
  |.nx τ=>if fr=true then none else (fin ls τ).map λls'=>(.none,ls')
  |.rt d τ=>(fin ls τ).map λls'=>(d,ls')
  |_=>none
 else none
theorem F6:∀{ls:List L} {τ:DS} {ls':List L} {i:Nat} {l:L},fin ls τ=some ls'->ls'[i]?=some l->match l with
  |.d x=>ls[i]?=some (.d x)
  |.c x=>ls[i]?=some (.c x)
  |.m xs=>(∃ys,ls[i]?=some (.m ys))/\τ[i]?=some (some (.m xs))
  |.k xs=>(∃ys,ls[i]?=some (.k ys))/\τ[i]?=some (some (.k xs))
  |.g _=>False
 |[],_,_,_,_,h,e=>by cases h;simp at e
 |.d x::ls,o::τ,_,i,l,h,e=>by
  obtain⟨zs,h1,h⟩:=oM h
  subst h
  cases i with
  |zero=>cases e;rfl
  |succ i =>
   have:=F6 (i:=i) (l:=l) h1 (by simpa using e)
   cases l<;>simpa using this
 |.c x::ls,o::τ,_,i,l,h,e=>by
  obtain⟨zs,h1,h⟩:=oM h
  subst h
  cases i with
  |zero=>cases e;rfl
  |succ i =>
   have:=F6 (i:=i) (l:=l) h1 (by simpa using e)
   cases l<;>simpa using this
 |.m x::ls,some (.m xs)::τ,_,i,l,h,e=>by
  obtain⟨zs,h1,h⟩:=oM h
  subst h
  cases i with
  |zero=>cases e;exact⟨⟨_,rfl⟩,rfl⟩
  |succ i =>
   have:=F6 (i:=i) (l:=l) h1 (by simpa using e)
   cases l<;>simpa using this
 |.k x::ls,some (.k xs)::τ,_,i,l,h,e=>by
  obtain⟨zs,h1,h⟩:=oM h
  subst h
  cases i with
  |zero=>cases e;exact⟨⟨_,rfl⟩,rfl⟩
  |succ i =>
   have:=F6 (i:=i) (l:=l) h1 (by simpa using e)
   cases l<;>simpa using this
theorem K4:∀{ls:List L} {τ:DS} {ls':List L},fin ls τ=some ls'->ls'.length=ls.length
 |[],_,_,h=>by cases h;rfl
 |.d x::ls,o::τ,_,h=>by
  obtain⟨zs,h1,h⟩:=oM h
  subst h
  rw[cM,cM,K4 h1]
 |.c x::ls,o::τ,_,h=>by
  obtain⟨zs,h1,h⟩:=oM h
  subst h
  rw[cM,cM,K4 h1]
 |.m x::ls,some (.m xs)::τ,_,h=>by
  obtain⟨zs,h1,h⟩:=oM h
  subst h
  rw[cM,cM,K4 h1]
 |.k x::ls,some (.k xs)::τ,_,h=>by
  obtain⟨zs,h1,h⟩:=oM h
  subst h
  rw[cM,cM,K4 h1]
theorem N0:∀{ls:List L} {τ:DS} {ls':List L},fin ls τ=some ls'->∀(i:Nat) (d:PyData),ls[i]?≠some (.g d)
 |[],_,_,_,i,d=>by simp
 |.d x::ls,o::τ,_,h,i,d=>by
  obtain⟨zs,h1,h⟩:=oM h
  cases i with
  |zero=>simp
  |succ i=>simpa using N0 h1 i d
 |.c x::ls,o::τ,_,h,i,d=>by
  obtain⟨zs,h1,h⟩:=oM h
  cases i with
  |zero=>simp
  |succ i=>simpa using N0 h1 i d
 |.m x::ls,some (.m xs)::τ,_,h,i,d=>by
  obtain⟨zs,h1,h⟩:=oM h
  cases i with
  |zero=>simp
  |succ i=>simpa using N0 h1 i d
 |.k x::ls,some (.k xs)::τ,_,h,i,d=>by
  obtain⟨zs,h1,h⟩:=oM h
  cases i with
  |zero=>simp
  |succ i=>simpa using N0 h1 i d
theorem RA{ls:List L}{τ:DS}{ls':List L}{i:Nat}{x:Ow}(h:fin ls τ=some ls')(e:ls'[i]?=some x.L):(∃ys:Ow,ls[i]?=some ys.L)/\τ[i]?=some (some x.L):=by
 cases x with
 |l xs=>obtain⟨⟨ys,h1⟩,h2⟩:=F6 h e;exact⟨⟨.l ys,h1⟩,h2⟩
 |t xs=>obtain⟨⟨ys,h1⟩,h2⟩:=F6 h e;exact⟨⟨.t ys,h1⟩,h2⟩
theorem GU{α β:Type}{f:α->β}{xs:List α}{i:Nat}{y:β}(h:(xs.map f)[i]?=some y):∃x,xs[i]?=some x/\f x=y:=by
 rw[U']at h
 cases e:xs[i]? with
 |none=>rw[e]at h;cases h
 |some x=>rw[e]at h;exact⟨x,rfl,G' h⟩
theorem C8{G:List L->Option (PyData×List L)}{fr:Bool}{vs:List V}{H:Hp}{Q:VK}{X:XK}{np:Nat}(hG:∀ls r,G ls=some r->ls.length=np)(h:spD K G fr vs H Q X):vs.length=np:=by
 obtain⟨S,M,ls,r,ls',hR,e,_⟩:=h
 have:=hR.len
 rw[B',B']at this
 rw[this,hG _ _ e]
theorem Aj{fr:Bool}{np nl:Nat}{b:DB}:∀ls r,B1 fr np nl b ls=some r->ls.length=np:=λls r h=>by
 unfold B1 at h
 split at h
 ·assumption
 ·cases h
theorem Uj{np nl:Nat}{N:List Str}{S M:Addr->Prop}{ls:List L}{vs:List V}{H:Hp}(hR:R K S M (ls.map some) (vs.map some) H)(hlen:ls.length=np)(hN:N.length=np+nl)(hng:∀(i:Nat) (d:PyData),ls[i]?≠some (.g d)) :
  ∃F:Frm,F.S=S/\F.H=H/\F.ar.length<=np/\RF K F S F.M (ls.map some++List.replicate nl none) (L2.start N vs) H/\∀S' M' t7 σ' H' ls1,RF K F S' M' t7 σ' H'->fin ls t7=some ls1->R K S M (ls1.map some) (vs.map some) H'/\Chg M H H':=by
 have hvl:vs.length=ls.length:=by have:=hR.len;rw[B',B']at this;exact this
 have est:L2.start N vs=vs.map some++List.replicate nl none:=by
  unfold L2.start
  rw[hN,hvl,hlen,ez]
 rw[est]
 -- the entry
 have lsm:∀(i:Nat) (l:L),(ls.map some++List.replicate nl none:DS)[i]?=some (some l)->ls[i]?=some l:=λi l h=>by
  by_cases hi:i<ls.length
  ·rw[cY (by rw[B'];exact hi)]at h
   obtain⟨x,h1,h2⟩:=GU h
   cases h2;exact h1
  ·rw[cR (by rw[B'];omega),dF]at h
   split at h<;>cases h
 have vsm:∀(i:Nat) (v:V),(vs.map some)[i]?=some (some v)->(vs.map some++List.replicate nl none:St)[i]?=some (some v):=λi v h=>by
  rw[cY (K'.mp h).1];exact h
 have vsb:∀(i:Nat) (v:V),(vs.map some++List.replicate nl none:St)[i]?=some (some v)->(vs.map some)[i]?=some (some v):=λi v h=>by
  by_cases hi:i<(vs.map some).length
  ·rw[cY hi]at h;exact h
  ·rw[cR (by omega),dF]at h
   split at h<;>cases h
 have lm:∀(i:Nat) (l:L),ls[i]?=some l->(ls.map some)[i]?=some (some l):=λi l h=>by rw[U',h];rfl
 let Mx:Addr->Prop:=λa=>∃(i:Nat) (xs:Ow),ls[i]?=some xs.L/\vs[i]?=some (.ref a)
 let ar:List (Option V):=(ls.zip vs).map λp=>match p.1 with
  |.m _=>some p.2
  |.k _=>some p.2
  |_=>none
 have arg:∀(i:Nat) (v:V),ar[i]?=some (some v)->∃xs:Ow,ls[i]?=some xs.L/\vs[i]?=some v:=λi v h=>by
  obtain⟨⟨l,u⟩,h1,h2⟩:=GU h
  rw[fS]at h1
  cases l with
  |d x=>cases h2
  |c x=>cases h2
  |m xs=>cases h2;exact⟨.l xs,h1.1,h1.2⟩
  |k xs=>cases h2;exact⟨.t xs,h1.1,h1.2⟩
  |g x=>cases h2
 have gar:∀(i:Nat) (xs:Ow) (v:V),ls[i]?=some xs.L->vs[i]?=some v->ar[i]?=some (some v):=λi xs v h1 h2=>by
  show((ls.zip vs).map _)[i]?=_
  rw[U',(fS (z:=(xs.L,v))).mpr ⟨h1,h2⟩]
  cases xs<;>rfl
 have Msub:∀a,Mx a->M a:=λa ⟨i,xs,h1,h2⟩=>by
  obtain⟨b',us,h3,h4,_⟩:=hR.mt i xs (lm i _ h1)
  rw[U',h2]at h3
  cases h3;exact h4
 have f0:RF K ⟨S,Mx,H,ar⟩ S Mx (ls.map some++List.replicate nl none) (vs.map some++List.replicate nl none) H:=by
  refine ⟨⟨by simp [hvl], λi x h => ?_, λi x h => ?_, λi x h => ?_, λi j xs ys a h1 h2 h3 h4 => hR.inj i j xs ys a (lm _ _ (lsm _ _ h1)) (lm _ _ (lsm _ _ h2)) (vsb _ _ h3) (vsb _ _ h4), λa h => hR.sub a (Msub a h), hR.ex, GR.nil λi d h => hng i d (lsm i _ h)⟩,
   λa h=>h,λb o h _=>h,λa h=>.inl h,λa h=>h,hR.ex,λa h=>hR.sub a (Msub a h),λa h=>.inl h,λi v h=>?_,λi v h=>?_,λa ⟨i,xs,h1,h2⟩=>⟨i,gar i xs _ h1 h2⟩⟩
  ·obtain⟨v,h1,h2⟩:=hR.dat i x (lm _ _ (lsm _ _ h))
   exact⟨v,vsm _ _ h1,h2⟩
  ·obtain⟨a,us,h1,h2,h3,h4⟩:=hR.mt i x (lm _ _ (lsm _ _ h))
   refine⟨a,us,vsm _ _ h1,⟨i,x,lsm _ _ h,?_⟩,h3,h4⟩
   obtain⟨v,h5,h6⟩:=GU h1
   cases h6;exact h5
  ·obtain⟨a,us,h1,h2⟩:=hR.cst i x (lm _ _ (lsm _ _ h))
   exact⟨a,us,vsm _ _ h1,h2⟩
  ·obtain⟨xs,h1,h2⟩:=arg i v h
   exact vsm _ _ (by rw[U',h2];rfl)
  ·obtain⟨xs,h1,h2⟩:=arg i v h
   refine⟨xs,?_⟩
   rw[cY (by rw[B'];exact(K'.mp h1).1)]
   exact lm _ _ h1
 have hnp:ar.length<=np:=by
  show((ls.zip vs).map _).length<=np
  rw[B',List.length_zip]
  omega
 refine⟨⟨S,Mx,H,ar⟩,rfl,rfl,hnp,f0,λS' M' t7 σ' H' ls1 f hf=>?_⟩
 have k:Keep S H S H':=λb o hn e=>⟨hn,f.old b o e λz=>hn (hR.sub b (Msub b z))⟩
 refine⟨⟨?_,λi x h=>?_,λi x h=>?_,λi x h=>?_,λi j xs ys a h1 h2 h3 h4=>?_,hR.sub,λa h=>f.r.ex a (f.sS a h),GR.nil λi d h=>?_⟩,λb o hn e=>f.old b o e λz=>hn (Msub b z)⟩
 ·rw[B',B',K4 hf,hvl]
 ·obtain⟨l,h1,h2⟩:=GU h
  cases h2
  have:=F6 hf h1
  obtain⟨v,h3,h4⟩:=hR.dat i x (lm _ _ this)
  exact⟨v,h3,h4.mono k.same⟩
 ·obtain⟨l,h1,h2⟩:=GU h
  cases h2
  obtain⟨⟨ys,h3⟩,h4⟩:=RA hf h1
  obtain⟨a,us,h5,h6,h7,h8⟩:=f.r.mt i x h4
  obtain⟨b,ws,g1,g2,_⟩:=hR.mt i ys (lm _ _ h3)
  obtain⟨u,g3,g4⟩:=GU g1
  cases g4
  have:=f.par i _ (gar i ys _ h3 g3)
  rw[h5]at this;cases this
  exact⟨a,us,g1,g2,h7,h8.mono (Bf f.sS)⟩
 ·obtain⟨l,h1,h2⟩:=GU h
  cases h2
  have:=F6 hf h1
  obtain⟨a,us,h3,h4,h5⟩:=hR.cst i x (lm _ _ this)
  exact⟨a,us,h3,k.same.seq h4,h5.mono k.same⟩
 ·obtain⟨l1,g1,g2⟩:=GU h1
  obtain⟨l2,g3,g4⟩:=GU h2
  cases g2;cases g4
  obtain⟨⟨zs,h5⟩,_⟩:=RA hf g1
  obtain⟨⟨ws,h6⟩,_⟩:=RA hf g3
  exact hR.inj i j zs ws a (lm _ _ h5) (lm _ _ h6) h3 h4
 ·obtain⟨l,h1,h2⟩:=GU h
  cases h2
  exact F6 hf h1
theorem C7{np nl:Nat}{t:TS}{fr:Bool}{b:DB}{N:List Str}{vs:List V}{H:Hp}{Q:VK}{X:XK}(hb:B K np t fr b)(hN:N.length=np+nl)(h:spD K (B1 fr np nl b) fr vs H Q X):t { nx:=λ_ H'=>Q .non H',rt:=Q } (L2.start N vs) H:=by
 obtain⟨S,M,ls,r,ls',hR,e,q⟩:=h
 have hlen:=Aj _ _ e
 unfold B1 at e
 rw[if_pos hlen]at e
 obtain⟨o,e1,e⟩:=oB e
 have hng:∀(i:Nat) (d:PyData),ls[i]?≠some (.g d):=by
  cases o with
  |nx t7 =>
   cases fr with
   |false=>obtain⟨ls1,e2,_⟩:=oM e;exact N0 e2
   |true=>cases e
  |bk t7=>cases e
  |ct t7=>cases e
  |rt d t7=>obtain⟨ls1,e2,_⟩:=oM e;exact N0 e2
 obtain⟨F,rfl,rfl,hnp,f0,done⟩:=Uj hR hlen hN hng
 refine hb F _ _ _ _ _ _ o hnp f0 e1 ?_
 cases o with
 |nx t7 =>
  cases fr with
  |false =>
   obtain⟨ls1,e2,e⟩:=oM e
   cases e
   exact λS' M' σ' H' f k=>let ⟨a,c⟩:=done _ _ _ _ _ _ f e2;q _ H' a c rfl
  |true=>cases e
 |bk t7=>cases e
 |ct t7=>cases e
 |rt d t7 =>
  obtain⟨ls1,e2,e⟩:=oM e
  cases e
  exact λS' M' σ' H' v f res=>let ⟨a,c⟩:=done _ _ _ _ _ _ f e2;q v H' a c res
end DL
end
section
namespace DL
open PySem L2 PyProof.Rows
variable {K:KW}
def By:List PyData->Option PyData
 |[.list xs]=>some (.int xs.length)
 |[.tuple xs]=>some (.int xs.length)
 |[.str x]=>if x.length<=sizeLine then some (.int x.length) else none
 |_=>none
theorem Fq:BR K false (λxs H Q=>∃x n,xs=[x]/\aW K x H n/\Q (.int n) H) By:=by
 intro S H vs ds d Q _ l e q
 unfold By at e
 split at e
 ·cases e
  obtain⟨v,us,rfl,⟨a,ws,rfl,h,lw⟩,iu⟩:=l
  cases (show us=[] from iu)
  exact⟨_,ws.length,rfl,.inl ⟨ws,SqL.of (hid_iff.mp h).2,rfl⟩,q _ H (λ_ _ e=>e) (by rw[lw.length];rfl)⟩
 ·cases e
  obtain⟨v,us,rfl,⟨a,ws,rfl,h,lw⟩,iu⟩:=l
  cases (show us=[] from iu)
  exact⟨_,ws.length,rfl,.inr ⟨ws,Same.tup same_hid h,rfl⟩,q _ H (λ_ _ e=>e) (by rw[lw.length];rfl)⟩
 ·split at e
  ·rename_i hz
   cases e
   obtain⟨v,us,rfl,iv,iu⟩:=l
   cases (show us=[] from iu)
   cases (show v = .str _ from iv)
   exact⟨_,_,rfl,⟨hz,rfl⟩,q _ H (λ_ _ e=>e) rfl⟩
  ·cases e
 ·cases e
def f1(g:Int->Int):List PyData->Option PyData
 |[.int i]=>some (.int (g i))
 |_=>none
def f2(g:Int->Int->Int):List PyData->Option PyData
 |[.int i,.int j]=>some (.int (g i j))
 |_=>none
theorem c_2{g:Int->Int->Int}:BR K false (λxs H Q=>∃i j,xs=[.int i,.int j]/\Q (.int (g i j)) H) (f2 g):=by
 intro S H vs ds d Q _ l e q
 unfold f2 at e
 split at e
 ·cases e
  obtain⟨v,us,rfl,iv,w,us',rfl,iw,iu⟩:=l
  cases (show us'=[] from iu)
  cases (show v = .int _ from iv)
  cases (show w = .int _ from iw)
  exact⟨_,_,rfl,q _ H (λ_ _ e=>e) rfl⟩
 ·cases e
def Vm:=f1 λi=>if i<0 then -i else i
def Po:=f2 λi j=>if j>i then j else i
def Jv:=f2 λi j=>if j<i then j else i
theorem aK:BR K false (λxs H Q=>∃i j,xs=[.int i,.int j]/\Q (.int (if j<i then j else i)) H) Jv:=c_2
def IY:List PyData->Option PyData
 |[.int i]=>some (.int i)
 |[.bool b]=>some (.int (if b then 1 else 0))
 |_=>none
theorem aL:BR K false (λxs H Q=>(∃i,xs=[.int i]/\Q (.int i) H)\/∃k,xs=[.bl k]/\Q (.int (if k then 1 else 0)) H) IY:=by
 intro S H vs ds d Q _ l e q
 unfold IY at e
 split at e
 ·cases e
  obtain⟨v,us,rfl,iv,iu⟩:=l
  cases (show us=[] from iu)
  cases (show v = .int _ from iv)
  exact .inl ⟨_,rfl,q _ H (λ_ _ e=>e) rfl⟩
 ·cases e
  obtain⟨v,us,rfl,iv,iu⟩:=l
  cases (show us=[] from iu)
  cases (show v = .bl _ from iv)
  exact .inr ⟨_,rfl,q _ H (λ_ _ e=>e) rfl⟩
 ·cases e
def Wz:List PyData->Option (List Int)
 |[]=>some []
 |.int i::r=>(Wz r).map (i::·)
 |_::_=>none
theorem Uc{H:Hp}:∀{ds:List PyData} {vs:List V} {ns:List Int},IsL K H ds vs->Wz ds=some ns->vs=ns.map V.int
 |[],_,_,h,e=>by cases e;exact h
 |.int i::r,_,_,⟨v,us,e1,iv,l⟩,e=>by
  obtain⟨ms,e2,e⟩:=oM e
  subst e
  cases (show v = .int i from iv)
  rw[e1,Uc l e2]
  rfl
 |.none::_,_,_,_,e=>by cases e
 |.bool _::_,_,_,_,e=>by cases e
 |.str _::_,_,_,_,e=>by cases e
 |.list _::_,_,_,_,e=>by cases e
 |.tuple _::_,_,_,_,e=>by cases e
 |.dict _::_,_,_,_,e=>by cases e
def Ba:List PyData->Option PyData
 |[.list xs]=>some (.list xs)
 |[.tuple xs]=>some (.list xs)
 |_=>none
theorem KR:BR K true (λxs H Q=>∃p ys,xs=[.ref p]/\(SqL K H p ys\/SqT K H p ys)/\∀l,H l=none->Q (.ref l) (upd H l (.lst ys))) Ba:=by
 intro S H vs ds d Q _ l e q
 unfold Ba at e
 split at e
 ·cases e
  obtain⟨v,us,rfl,⟨a,ws,rfl,h,lw⟩,iu⟩:=l
  cases (show us=[] from iu)
  exact⟨a,ws,rfl,.inl (SqL.of (hid_iff.mp h).2),λp hp=>q _ _ (BF hp _) (Kk hp lw)⟩
 ·cases e
  obtain⟨v,us,rfl,⟨a,ws,rfl,h,lw⟩,iu⟩:=l
  cases (show us=[] from iu)
  exact⟨a,ws,rfl,.inr (Same.tup same_hid h),λp hp=>q _ _ (BF hp _) (Kk hp lw)⟩
 ·cases e
def tyN:PyData->String
 |.none=>"NoneType"
 |.bool _=>"bool"
 |.int _=>"int"
 |.str _=>"str"
 |.list _=>"list"
 |.tuple _=>"tuple"
 |.dict _=>"dict"
def ay(K:KW):List V->Hp->VK->Prop:=λxs H Q=>∃x T d b,xs=[x,.ty T]/\Is K H d x/\obD d=false/\PySem.W.kitOne K (.type (tyN d)) (.type T)=some b/\Q (.bl b) H
theorem Hs{X:Cx}:J0 X (.builtin "isinstance") (ay (Wr X)):=by
 intro pins s σ H xs us Q I r h
 obtain⟨x,T,d,b,rfl,ix,nob,k,q⟩:=h
 obtain⟨u,w',rfl,rx,rT⟩:=Yw r
 cases (show w'=Value.type T from rT)
 have fin:∀tk,EP X pins σ Q (.bool b) { s with toks:=tk }:=λtk=>⟨.bl b,H,I.tok _,rfl,q⟩
 cases d with
 |none=>cases (show x = .non from ix);exact Hd I rx .non k fin
 |bool y=>cases (show x = .bl y from ix);exact Hd I rx (.bl y) k fin
 |int y=>cases (show x = .int y from ix);exact Hd I rx (.int y) k fin
 |str y=>cases (show x = .str y from ix);exact Hd I rx (.str y) k fin
 |list y=>obtain⟨a,vs,rfl,h,_⟩:=ix;exact Hd I rx (.lst h) k fin
 |tuple y =>
  obtain⟨a,vs,rfl,h,_⟩:=ix
  cases (show u=Value.ref a from rx)
  obtain⟨its,_,⟨o,h1,h2,_⟩,_⟩:=I.tuple h
  exact dS PySem.W.kitx_tuple I.kIn ⟨o,h1,h2⟩ k (λz=>nomatch z) fin
 |dict y =>
  obtain⟨a,ts,rfl,⟨ep,h⟩,_⟩:=Is.dct ix nob
  cases (show u=Value.ref a from rx)
  obtain⟨⟨_,_,_,xs,pr,o,es,ho,he,hd,hes⟩,_,_⟩:=(show ObjOk X.prog X.w H s.heap a (.ext (Fl a ts ep)) from I.hok a _ h)
  exact dS gU I.kIn ⟨o,ho,he.1⟩ k (λz=>nomatch z) fin
def bN(T t:String):Bool:=t==T||(T=="int"&&t=="bool")
def EE(T:String)(d:PyData):Bool:=bN T (tyN d)
def RM(T:String):Bool:=["int","bool","str","list","tuple"].contains T
theorem VZ{T t:String}(hT:T∈["int","bool","str","list","tuple"])(ht:t∈["NoneType","bool","int","str","list","tuple","dict"]):PySem.W.kitOne K (.type t) (.type T)=some (bN T t):=by
 simp only[List.mem_cons,List.not_mem_nil,or_false]at hT ht
 rcases hT with rfl|rfl|rfl|rfl|rfl<;>rcases ht with rfl|rfl|rfl|rfl|rfl|rfl|rfl<;>first
  |exact Wt _
  |exact Zu (by decide +kernel) (by decide +kernel) (by decide +kernel)
theorem YQ{T:String}{d:PyData}(h:RM T=true):PySem.W.kitOne K (.type (tyN d)) (.type T)=some (EE T d) :=
 VZ (by simpa[RM] using h) (by cases d<;>simp[tyN])
def Ij(T:String)(a:DX)(τ:DS):Option (PyData×DS):=(a τ).bind λp=>if RM T&&!obD p.1 then some (.bool (EE T p.1),p.2) else none
theorem SS{T:String}{fr:Bool}{t:TE}{a:DX}(ha:E K t fr a):E K (tCB (ay K) (EC t (EC (tC (.ty T)) J3))) false (Ij T a):=by
 refine⟨λτ d t7 e=>?_,?_⟩
 ·unfold Ij at e
  obtain⟨⟨x,t6⟩,e1,e⟩:=oB e
  split at e
  ·cases e;exact ha.like _ _ _ e1
  ·cases e
 intro S M τ σ H Q d t7 r e q
 unfold Ij at e
 obtain⟨⟨x,t6⟩,e1,e⟩:=oB e
 split at e
 ·rename_i hT
  cases e
  rw[cw]at hT
  refine ha.weak.run S M τ σ H _ x _ r e1 λv H1 r1 c1 i1=>?_
  exact⟨v,T,x,_,rfl,Is.mono same_hid i1,by simpa using hT.2,YQ hT.1,q _ H1 r1 c1 rfl⟩
 ·cases e
def Vt(i j:Nat)(a:DA)(τ:DS):Option Out:=(a τ).bind λp=>(Cc p.1).bind λds=>match ds with
 |[x,y]=>(dN i x p.2).bind λt6=>(dN j y t6).map .nx
 |_=>none
end DL
end
section
namespace DL
open PySem L2
variable {K:KW}
def Ho(i:Nat)(f:DT)(τ:DS):Option (Bool×DS):=match τ[i]? with
 |some (some (.m xs))=>(f (τ.set i (some (.d (.list xs))))).bind λq=>if q.2.all okM then some (q.1,q.2.set i (some (.m xs))) else none
 |some (some (.k xs))=>(f (τ.set i (some (.d (.dict (BC xs)))))).bind λq=>if q.2.all okM then some (q.1,q.2.set i (some (.k xs))) else none
 |_=>none
theorem N9{i:Nat}{f:DT}{τ:DS}{d:Bool}{t7:DS}(e:Ho i f τ=some (d,t7)):∃w t6,τ[i]?=some (some (Ow.L w))/\f (τ.set i (some (.d w.D)))=some (d,t6)/\t6.all okM=true/\t7=t6.set i (some w.L):=by
 unfold Ho at e
 split at e
 ·rename_i xs hx
  obtain⟨⟨z,t6⟩,e1,e⟩:=oB e
  dsimp only at e
  split at e
  ·rename_i h
   cases e
   exact⟨.l xs,t6,hx,e1,h,rfl⟩
  ·cases e
 ·rename_i xs hx
  obtain⟨⟨z,t6⟩,e1,e⟩:=oB e
  dsimp only at e
  split at e
  ·rename_i h
   cases e
   exact⟨.t xs,t6,hx,e1,h,rfl⟩
  ·cases e
 ·cases e
theorem af{i:Nat}{t:TT}{f:DT}(h:T K t f):T K t (Ho i f):=by
 refine⟨λτ d t7 e=>?_,?_⟩
 ·obtain⟨xs,t6,e1,e2,_,rfl⟩:=N9 e
  exact R4 e1 (h.like _ _ _ e2)
 intro S M τ σ H Q d t7 r e q
 obtain⟨xs,t6,e1,e2,ok,rfl⟩:=N9 e
 obtain⟨p,us,hp,hM,hl,ll⟩:=r.mt i xs e1
 refine h.run _ _ _ σ H _ d t6 (frz r e1 hp) e2 λH' r' c=>?_
 exact q H' (Yx r e1 hp r' (h.like _ _ _ e2) c ok) (λb o hn e=>c b o (λz=>hn z.1) e)
def DC(τ:DS):Option (Bool×DS):=some (true,τ)
theorem HM:T K ah DC:=by
 refine⟨λτ d t7 e=>?_,?_⟩
 ·cases e;exact .refl
 intro S M τ σ H Q d t7 r e q
 cases e
 exact q H r .refl
def Wo(N':List Str)(own:Nat)(fr:List Nat)(scope:Scope)(N:List Str)(sc:Scope):Bool :=
 (scope.kind==.function)&&decide (N'.length=own+fr.length)&&(scope.names.all λy=>y.2 != .cell)&&(scope.names.all λy=>y.2 != .local||scope.names.lookup y.1==some .local) &&
 (scope.names.all λy=>y.2 != .free||sc.names.lookup y.1==some .cell||sc.names.lookup y.1==some .free) &&
 (fr.zipIdx.all λp=>match N'[own+p.2]?,N[p.1]? with|some x,some y=>decide (x=y)&&scope.names.lookup x==some .free|_,_=>false)
theorem Fo{X:Cx}{N':List Str}{own:Nat}{fr:List Nat}{scope:Scope}{N:List Str}{sc:Scope}(hN:X.N=N)(hs:X.env.scope=sc)(h:Wo N' own fr scope N sc=true):V4 X N' own fr scope:=by
 unfold Wo at h
 simp only[Bool.and_eq_true]at h
 obtain⟨⟨⟨⟨⟨h1,h2⟩,h3⟩,h4⟩,h5⟩,h6⟩:=h
 subst hN hs
 refine⟨eq_of_beq h1,of_decide_eq_true h2,λy hy=>?_,λy hy e=>?_,λx hx=>?_,λk j e=>?_⟩
 ·have:=cz.mp h3 y hy
  intro z
  rw[z]at this
  simp at this
 ·have:=cz.mp h4 y hy
  rw[e]at this
  simpa using this
 ·have:=cz.mp h5 _ hx
  simpa using this
 ·have hm:(j,k)∈fr.zipIdx:=by
   rw[List.mem_zipIdx_iff_getElem?]
   exact e
  have:=cz.mp h6 _ hm
  dsimp only at this
  split at this
  ·rename_i x y hx hy
   rw[cw]at this
   have e1:x=y:=of_decide_eq_true this.1
   subst e1
   exact⟨x,hx,hy,eq_of_beq this.2⟩
  ·cases this
theorem JV{τ:DS}:fin [] τ=some []:=by cases τ<;>rfl
theorem Pl{x:PyData}{ls:List L}{o:Option L}{τ:DS}:fin (.d x::ls) (o::τ)=(fin ls τ).map (.d x::·):=rfl
theorem Pm{x:List PyData}{ls:List L}{o:Option L}{τ:DS}:fin (.c x::ls) (o::τ)=(fin ls τ).map (.c x::·):=rfl
theorem Pk{x xs:List PyData}{ls:List L}{τ:DS}:fin (.m x::ls) (some (.m xs)::τ)=(fin ls τ).map (.m xs::·):=rfl
theorem BZ{fr:Bool}{np nl:Nat}{b:DB}{ls ls':List L}{d:PyData}{τ:DS}(h:b (ls.map some++List.replicate nl none)=some (.rt d τ))(hl:ls.length=np)(hf:fin ls τ=some ls'):B1 fr np nl b ls=some (d,ls'):=by
 unfold B1
 rw[if_pos hl,h]
 show(fin ls τ).map _=_
 rw[hf]
 rfl
theorem Ay{a b:DB}{τ t6:DS}(h:a τ=some (.nx t6)):BA a b τ=b t6:=by
 unfold BA
 rw[h]
 rfl
theorem ZY{a b:DB}{τ t6:DS}{d:PyData}(h:a τ=some (.rt d t6)):BA a b τ=some (.rt d t6):=by
 unfold BA
 rw[h]
 rfl
theorem EZ{e:DX}{g:DG}{τ t6 t8:DS}{d:PyData}(h:e τ=some (d,t6))(k:g d t6=some t8):Cz e g τ=some (.nx t8):=by
 unfold Cz
 rw[h]
 show(g d t6).map _=_
 rw[k]
 rfl
theorem EB{e:DX}{τ t6:DS}{d:PyData}(h:e τ=some (d,t6)):Be e τ=some (.rt d t6):=by
 unfold Be
 rw[h]
 rfl
theorem W0{c:DT}{a b:DB}{τ t6:DS}(h:c τ=some (true,t6)):Cu c a b τ=a t6:=by
 unfold Cu
 rw[h]
 rfl
theorem Gv{c:DT}{a b:DB}{τ t6:DS}(h:c τ=some (false,t6)):Cu c a b τ=b t6:=by
 unfold Cu
 rw[h]
 rfl
theorem A2{G:List L->Option (PyData×List L)}{a:DA}{τ t6:DS}{rs:List Ar}{ds:List PyData}{r:PyData}{ls:List L}(h:a τ=some (rs,t6))(k:Cc rs=some ds)(g:G (ds.map L.d)=some (r,ls)):AX G a τ=some (r,t6):=by
 unfold AX
 rw[h]
 show(Cc rs).bind _=_
 rw[k]
 show(G (ds.map L.d)).map _=_
 rw[g]
 rfl
theorem CB{i:Nat}{G:List L->Option (PyData×List L)}{a:DA}{τ t6:DS}{rs:List Ar}{ds:List PyData}{r:PyData}{ls:List L}{xs xs':List PyData}(h:a τ=some (rs,t6))(k:Cc rs=some ds)(m:t6[i]?=some (some (.m xs)))(g:G (.m xs::ds.map L.d)=some (r,.m xs'::ls)):A8 i G a τ=some (r,t6.set i (some (.m xs'))):=by
 unfold A8
 rw[h]
 show(Cc rs).bind _=_
 rw[k]
 dsimp only[Option.bind]
 rw[m]
 dsimp only
 rw[g]
theorem OH{i:Nat}{G:List L->Option (PyData×List L)}{a:DA}{τ t6:DS}{rs:List Ar}{ds:List PyData}{r:PyData}{ls:List L}{xs:List PyData}(h:a τ=some (rs,t6))(k:Cc rs=some ds)(m:t6[i]?=some (some (.c xs)))(g:G (.c xs::ds.map L.d)=some (r,ls)):Cv i G a τ=some (r,t6):=by
 unfold Cv
 rw[h]
 show(Cc rs).bind _=_
 rw[k]
 show(match t6[i]? with|some (some (.c xs))=>_|_=>_)=_
 rw[m]
 show(G (.c xs::ds.map L.d)).map _=_
 rw[g]
 rfl
theorem Dc{it:DI}{g:DG}{b:DB}{τ t6:DS}{ds:List PyData}(h:it τ=some (ds,t6)):Dz it g b τ=Bp g b ds t6:=by
 unfold Dz
 rw[h]
 rfl
theorem Pd{α:Type}{enc:α->PyData}{g:DG}{b:DB}(J:List α->DS->Prop):∀{xs pre:List α} {τ:DS},J pre τ->(∀x pre τ,x∈xs->J pre τ->∃t6 t8,g (enc x) τ=some t6/\b t6=some (.nx t8)/\J (pre++[x]) t8)->∃t7,Bp g b (xs.map enc) τ=some (.nx t7)/\J (pre++xs) t7
 |[],pre,τ,h0,_=>⟨τ,rfl,by rw[dM];exact h0⟩
 |x::xs,pre,τ,h0,h=>by
  obtain⟨t6,t8,e1,e2,h1⟩:=h x pre τ J' h0
  obtain⟨t7,e3,h3⟩:=Pd J (xs:=xs) (pre:=pre++[x]) (τ:=t8) h1 (λy p t hy hj=>h y p t (E' _ hy) hj)
  refine⟨t7,?_,by rw[dO]at h3;exact h3⟩
  rw[P',Bp,e1]
  show(b t6).bind _=_
  rw[e2]
  exact e3
theorem EO{α:Type}{enc:α->PyData}{g:DG}{c:DT}{e:DX}(J:DS->Prop)(p:α->Bool)(f:α->PyData):∀{xs:List α} {acc:List PyData} {τ:DS},J τ ->
  (∀x τ,x∈xs->J τ->∃t6 t8,g (enc x) τ=some t6/\c t6=some (p x,t8)/\(p x=false->J t8)/\(p x=true->∃l0,e t8=some (f x,l0)/\J l0))->∃t7,BN g c e (xs.map enc) acc τ=some (acc++(xs.filter p).map f,t7)
 |[],acc,τ,h0,_=>⟨τ,by simp[BN]⟩
 |x::xs,acc,τ,h0,h=>by
  obtain⟨t6,t8,e1,e2,hf,ht⟩:=h x τ J' h0
  have hr:∀y t,y∈xs->J t->_:=λy t hy hj=>h y t (E' _ hy) hj
  cases hp:p x with
  |false =>
   obtain⟨t7,e3⟩:=EO J p f (xs:=xs) (acc:=acc) (τ:=t8) (hf hp) hr
   refine⟨t7,?_⟩
   rw[P',BN,e1]
   show(c t6).bind _=_
   rw[e2,hp]
   show BN g c e (xs.map enc) acc t8=_
   rw[e3,List.filter_cons,hp]
   rfl
  |true =>
   obtain⟨l0,e4,h4⟩:=ht hp
   obtain⟨t7,e3⟩:=EO J p f (xs:=xs) (acc:=acc++[f x]) (τ:=l0) h4 hr
   refine⟨t7,?_⟩
   rw[P',BN,e1]
   show(c t6).bind _=_
   rw[e2,hp]
   show(e t8).bind _=_
   rw[e4]
   show BN g c e (xs.map enc) (acc++[f x]) l0=_
   rw[e3,List.filter_cons,hp,dO]
   rfl
theorem HI{own:Nat}{fr:List Nat}{it:DI}{g:DG}{c:DT}{e:DX}{τ t6 t9:DS}{ds acc:List PyData}(h:it τ=some (ds,t6))(hz:ds.length<=sizeLine)(hm:(fr.all λj=>!isM t6 j)=true)(hl:BN g c e ds [] (Ff own fr t6)=some (acc,t9)):dLC own fr it g c e τ=some (.list acc,t6):=by
 unfold dLC
 rw[h]
 show(if ds.length<=sizeLine/\(fr.all λj=>!isM t6 j)=true then _ else _)=_
 rw[if_pos ⟨hz,hm⟩,hl]
 rfl
theorem sz{n:Nat}(h:n<=1000):n<=sizeLine:=cm h (by decide)
theorem sz'{n:Nat}(h:n<=1000):(n<=sizeLine)=True:=eq_true (sz h)
theorem Xb{m:Int}(h0:0<m)(h1:m<10 ^ 70):Bd 8000 m:=by
 have:Bd 240 m:=Bd.of (m:=10 ^ 70) (by omega) (by omega) (by decide)
 exact this.mono (by decide)
theorem XX{K:KW}{H:Hp}{a:Addr}{xs:List V}(h:SqL K H a xs):SqL K (hid (λ_=>False) H) a xs:=Same.seq (λb o e=>hid_iff.mpr ⟨λz=>z,e⟩) h
theorem Nl{K:KW}{H:Hp}:∀ns:List Int,IsL K H (ns.map PyData.int) (ns.map V.int)
 |[]=>rfl
 |_::ns=>⟨_,_,rfl,rfl,Nl ns⟩
structure Enc{α:Type}[DecidableEq α](enc:α->PyData):Prop where
 eqv:∀a b,PyData.eqv (enc a) (enc b)=decide (a=b)
 can:∀a,(enc a).canLay0=true
 dep:∀a,(enc a).depth<=20
 fix:∀a,F5 (enc a)=true
section
variable {α:Type} [DecidableEq α] {enc:α->PyData}
theorem Enc.ok(h:Enc enc)(a:α):okD (enc a)=true:=by
 unfold okD SeqAt.shaped
 rw[cw]
 exact⟨h.can a,decide_eq_true (cm (h.dep a) (by decide))⟩
theorem Enc.canL(h:Enc enc):∀xs:List α,PyData.canLayAll0 (xs.map enc)=true
 |[]=>rfl
 |x::xs=>by
  rw[P',PyData.canLayAll0,h.can,Enc.canL h xs];rfl
theorem Enc.depL(h:Enc enc):∀xs:List α,PyData.depthAll (xs.map enc)<=20
 |[]=>cZ _
 |x::xs=>by
  rw[P',PyData.depthAll]
  have:=h.dep x
  have:=Enc.depL h xs
  omega
theorem Enc.okL(h:Enc enc)(xs:List α):okD (.list (xs.map enc))=true:=by
 unfold okD SeqAt.shaped
 rw[cw,PyData.canLay0,PyData.depth]
 exact⟨h.canL xs,decide_eq_true (by have:=h.depL xs;omega)⟩
theorem Enc.eqvL(h:Enc enc):∀xs ys:List α,PyData.eqvAll (xs.map enc) (ys.map enc)=decide (xs=ys)
 |[],[]=>rfl
 |[],_::_=>rfl
 |_::_,[]=>rfl
 |x::xs,y::ys=>by
  rw[P',P',PyData.eqvAll,h.eqv,Enc.eqvL h xs ys]
  by_cases e:x=y
  ·subst e
   by_cases e':xs=ys
   ·subst e';simp
   ·simp[e']
  ·simp[e]
theorem Enc.eqL(h:Enc enc)(xs ys:List α):PyData.eqv (.list (xs.map enc)) (.list (ys.map enc))=decide (xs=ys):=by
 rw[PyData.eqv];exact h.eqvL xs ys
theorem Enc.fixL(h:Enc enc):∀xs:List α,fixDs (xs.map enc)=true
 |[]=>rfl
 |x::xs=>by rw[P',fixDs,h.fix,Enc.fixL h xs];rfl
theorem Enc.fEq(h:Enc enc)(a b:α):DL.fEq (enc a) (enc b)=some (.bool (decide (a=b))):=by
 unfold DL.fEq;rw[h.ok,h.ok,h.eqv];rfl
theorem Enc.fNe(h:Enc enc)(a b:α):DL.fNe (enc a) (enc b)=some (.bool (!decide (a=b))):=by
 unfold DL.fNe;rw[h.ok,h.ok,h.eqv];rfl
theorem Enc.fNeL(h:Enc enc)(a b:List α):DL.fNe (.list (a.map enc)) (.list (b.map enc))=some (.bool (!decide (a=b))):=by
 unfold DL.fNe;rw[h.okL,h.okL,h.eqL];rfl
end
theorem encI:Enc (α:=Int) PyData.int:=⟨λa b=>by rw[PyData.eqv];by_cases h:a=b<;>simp[h],λ_=>rfl,λ_=>by rw[PyData.depth];decide,λ_=>rfl⟩
def ec(p:Int×Int):PyData:=.tuple [.int p.1,.int p.2]
theorem encC:Enc ec:=by
 refine⟨λa b=>?_,λ_=>rfl,λa=>?_,λ_=>rfl⟩
 ·unfold ec
  simp only[PyData.eqv,PyData.eqvAll,Bool.and_true]
  obtain⟨a1,a2⟩:=a
  obtain⟨b1,b2⟩:=b
  by_cases h1:a1=b1
  ·by_cases h2:a2=b2<;>simp[h1,h2]
  ·simp[h1]
 ·unfold ec;simp[PyData.depth,PyData.depthAll]
structure Bx where
 x:Int
 y:Int
 w:Int
 h:Int
 deriving DecidableEq
def eb(b:Bx):PyData:=.tuple [.int b.x,.int b.y,.int b.w,.int b.h]
def rng(lo:Int)(n:Nat):List Int:=(List.range n).map λ(k:Nat)=>lo+(k:Int)
theorem LK(lo:Int)(n:Nat):Hy lo n=(rng lo n).map PyData.int:=by
 unfold Hy rng
 rw[cu]
 rfl
theorem Fs(lo:Int)(n:Nat):(rng lo n).length=n:=by unfold rng;simp
theorem mem_rng{lo v n:Int}:v∈rng lo n.toNat↔lo<=v/\v<lo+n:=by
 unfold rng
 rw[cv]
 constructor
 ·rintro⟨k,hk,rfl⟩
  rw[c7]at hk
  omega
 ·rintro⟨h1,h2⟩
  exact⟨(v-lo).toNat,by rw[c7];omega,by omega⟩
theorem J4{α:Type}{R:α->α->Prop}(as:∀a b,R a b->¬R b a):∀{l1 l2:List α},l1.Pairwise R->l2.Pairwise R->(∀x,x∈l1↔x∈l2)->l1=l2
 |[],[],_,_,_=>rfl
 |[],y::_,_,_,h=>by have:=(h y).mpr J';simp at this
 |x::_,[],_,_,h=>by have:=(h x).mp J';simp at this
 |x::xs,y::ys,h1,h2,h=>by
  rw[da]at h1 h2
  have ir:∀a,¬R a a:=λa z=>as a a z z
  have e:x=y:=by
   rcases X'.mp ((h x).mp J')with e|e
   ·exact e
   ·rcases X'.mp ((h y).mpr J')with e'|e'
    ·exact e'.symm
    ·exact absurd (h1.1 y e') (as _ _ (h2.1 x e))
  subst e
  congr 1
  refine J4 as h1.2 h2.2 λz=>?_
  constructor
  ·intro hz
   rcases X'.mp ((h z).mp (E' _ hz))with e|e
   ·subst e;exact absurd (h1.1 z hz) (ir z)
   ·exact e
  ·intro hz
   rcases X'.mp ((h z).mpr (E' _ hz))with e|e
   ·subst e;exact absurd (h2.1 z hz) (ir z)
   ·exact e
abbrev Cl:=Int×Int
def lt2(p q:Cl):Prop:=p.2<q.2\/(p.2=q.2/\p.1<q.1)
theorem Nf(a b:Cl)(h:lt2 a b):¬lt2 b a:=by unfold lt2 at *;omega
def G1(x v:Int)(w:Nat):List Cl:=(rng x w).map λu=>(u,v)
def cells(b:Bx):List Cl:=(rng b.y b.h.toNat).flatMap λv=>G1 b.x v b.w.toNat
def inB(b:Bx)(p:Cl):Prop:=b.x<=p.1/\p.1<b.x+b.w/\b.y<=p.2/\p.2<b.y+b.h
instance {b:Bx} {p:Cl}:Decidable (inB b p):=by unfold inB;infer_instance
def nM(o:Option L):Prop:=(∀xs,o≠some (.m xs))/\∀xs,o≠some (.k xs)
theorem Aa:nM none:=⟨λxs z=>(nomatch z),λxs z=>(nomatch z)⟩
theorem BW{x:PyData}:nM (some (.d x)):=⟨λxs z=>(nomatch z),λxs z=>(nomatch z)⟩
theorem A4{i:Nat}{d:PyData}{τ:DS}{o:Option L}(h:τ[i]?=some o)(hn:nM o):dN i d τ=some (τ.set i (some (.d d))):=by
 unfold dN
 rw[h]
 cases o with
 |none=>rfl
 |some l=>cases l with
  |m xs=>exact absurd rfl (hn.1 xs)
  |k xs=>exact absurd rfl (hn.2 xs)
  |d x=>rfl
  |c x=>rfl
  |g x=>rfl
variable {K:KW}
def isC(τ:DS)(j:Nat):Bool:=match τ[j]? with
 |some (some (.c _))=>true
 |_=>false
def dAS(i:Nat)(r:DA)(τ:DS):Option (List Ar×DS):=if (isM τ i||isC τ i)=true then (r τ).map λq=>(.s i::q.1,q.2) else none
def mkL(τ:DS):List Ar->Option (List L)
 |[]=>some []
 |.d x::r=>(mkL τ r).map (.d x::·)
 |.s i::r=>match τ[i]? with
  |some (some (.m xs))=>(mkL τ r).map (.m xs::·)
  |some (some (.c xs))=>(mkL τ r).map (.c xs::·)
  |_=>none
def nMb:L->Bool
 |.m _=>false
 |.k _=>false
 |_=>true
def L0(k i:Nat)(G:List L->Option (PyData×List L))(a:DA)(τ:DS):Option (PyData×DS):=(a τ).bind λp=>(mkL p.2 p.1).bind λls=>match p.1[k]?,ls[k]? with
 |some (.s j),some (.m _)=>if j=i/\(ls.set k (.d .none)).all nMb=true then (G ls).bind λq=>match q.2[k]? with
   |some (.m xs)=>some (q.1,p.2.set i (some (.m xs)))
   |_=>none
  else none
 |_,_=>none
theorem V7:RM "int"=true:=rfl
theorem Q0:EE "int" .none=false:=rfl
theorem Q2{b:Bool}:EE "int" (.bool b)=true:=rfl
theorem SI{b:Int}:EE "int" (.int b)=true:=rfl
theorem SH{b:Str}:EE "int" (.str b)=false:=rfl
theorem Q1{b:List PyData}:EE "int" (.list b)=false:=rfl
theorem Ol{b:List PyData}:EE "int" (.tuple b)=false:=rfl
theorem U8:RM "bool"=true:=rfl
theorem Om:EE "bool" .none=false:=rfl
theorem Oq{b:Bool}:EE "bool" (.bool b)=true:=rfl
theorem Q4{b:Int}:EE "bool" (.int b)=false:=rfl
theorem Q3{b:Str}:EE "bool" (.str b)=false:=rfl
theorem Oo{b:List PyData}:EE "bool" (.list b)=false:=rfl
theorem Nr{b:List PyData}:EE "bool" (.tuple b)=false:=rfl
theorem V6:RM "str"=true:=rfl
theorem Qv:EE "str" .none=false:=rfl
theorem Qx{b:Bool}:EE "str" (.bool b)=false:=rfl
theorem SG{b:Int}:EE "str" (.int b)=false:=rfl
theorem SF{b:Str}:EE "str" (.str b)=true:=rfl
theorem Qw{b:List PyData}:EE "str" (.list b)=false:=rfl
theorem Og{b:List PyData}:EE "str" (.tuple b)=false:=rfl
theorem U7:RM "list"=true:=rfl
theorem Oh:EE "list" .none=false:=rfl
theorem Oj{b:Bool}:EE "list" (.bool b)=false:=rfl
theorem Qz{b:Int}:EE "list" (.int b)=false:=rfl
theorem Qy{b:Str}:EE "list" (.str b)=false:=rfl
theorem Oi{b:List PyData}:EE "list" (.list b)=true:=rfl
theorem Nq{b:List PyData}:EE "list" (.tuple b)=false:=rfl
theorem Sq:RM "tuple"=true:=rfl
theorem Nm:EE "tuple" .none=false:=rfl
theorem Np{b:Bool}:EE "tuple" (.bool b)=false:=rfl
theorem Of{b:Int}:EE "tuple" (.int b)=false:=rfl
theorem Oe{b:Str}:EE "tuple" (.str b)=false:=rfl
theorem Nn{b:List PyData}:EE "tuple" (.list b)=false:=rfl
theorem Mc{b:List PyData}:EE "tuple" (.tuple b)=true:=rfl
theorem MJ{α:Type}{enc:α->PyData}{g:DG}{b:DB}{all:List α}(J:List α->DS->Prop)(h:∀pre x post τ,all=pre++x::post->J pre τ->∃t6 t8,g (enc x) τ=some t6/\b t6=some (.nx t8)/\J (pre++[x]) t8) :
  ∀{xs pre:List α} {τ:DS},all=pre++xs->J pre τ->∃t7,Bp g b (xs.map enc) τ=some (.nx t7)/\J all t7
 |[],pre,τ,e,h0=>⟨τ,rfl,by rw[e,dM];exact h0⟩
 |x::xs,pre,τ,e,h0=>by
  obtain⟨t6,t8,e1,e2,h1⟩:=h pre x xs τ e h0
  obtain⟨t7,e3,h3⟩:=MJ J h (xs:=xs) (pre:=pre++[x]) (τ:=t8) (by rw[e,dO];rfl) h1
  refine⟨t7,?_,h3⟩
  rw[P',Bp,e1]
  show(b t6).bind _=_
  rw[e2]
  exact e3
theorem Bt{α:Type}{enc:α->PyData}{g:DG}{b:DB}{xs:List α}{τ:DS}(J:List α->DS->Prop)(h0:J [] τ)(h:∀pre x post τ,xs=pre++x::post->J pre τ->∃t6 t8,g (enc x) τ=some t6/\b t6=some (.nx t8)/\J (pre++[x]) t8) :
  ∃t7,Bp g b (xs.map enc) τ=some (.nx t7)/\J xs t7:=MJ J h (pre:=[]) rfl h0
theorem PH{n:Int}{τ t6:DS}{a:DA}(h:a τ=some ([.d (.int n)],t6))(h0:-100000<=n)(h1:n<=100000):dR1 a τ=some ((rng 0 n.toNat).map PyData.int,t6):=by
 unfold dR1
 rw[h]
 show(if -(2 ^ 62)<=n/\n<2 ^ 62 then some (Hy 0 n.toNat,t6) else none)=_
 rw[if_pos (by omega),LK]
theorem a7{m n:Int}{τ t6:DS}{a:DA}(h:a τ=some ([.d (.int m),.d (.int n)],t6))(h0:-100000<=n)(h1:n<=100000)(h2:-100000<=m)(h3:m<=100000):dR2 a τ=some ((rng m (n-m).toNat).map PyData.int,t6):=by
 unfold dR2
 rw[h]
 show(if -(2 ^ 62)<=m/\m<2 ^ 62/\-(2 ^ 62)<=n/\n<2 ^ 62 then some (Hy m (n-m).toNat,t6) else none)=_
 rw[if_pos (by omega),LK]
theorem cI{i:Nat}{a:DA}{τ t6:DS}{rs:List Ar}{d:PyData}{xs:List PyData}(h:a τ=some (rs,t6))(k:Cc rs=some [d])(m:t6[i]?=some (some (.m xs)))(hz:xs.length<900):Fe (dMt i ER a) τ=some (.nx (t6.set i (some (.m (xs++[d]))))):=by
 have hs:xs.length<sizeLine:=cy (fQ hz (by decide:900<1000)) (by decide)
 unfold Fe dMt
 rw[h]
 show(((Cc rs).bind _)).map _=_
 rw[k]
 show((match t6[i]? with|some (some (.m xs))=>_|_=>_):Option (PyData×DS)).map _=_
 rw[m]
 show((if xs.length<sizeLine then some (PyData.none,xs++[d]) else none).map _).map _=_
 rw[if_pos hs]
 rfl
theorem O9{α:Type}{xs pre post:List α}{x:α}(e:xs=pre++x::post):pre.length<xs.length:=by rw[e,cT,cM];omega
end DL
end
section
namespace DL
open PySem PySem.Spec L2 PyProof.Rows
section
variable {prog:Program} {w:World} {A:Around} {s:Shared} {R:Result->Shared->Prop}
variable {I:Addr} {fp wr:List Addr} {G:Array GenState->Array GenState->Prop} {n:Nat} {P:Nat->Value->Prop} {St:Nat->Shared->Prop}
end
section
variable {prog:Program} {w:World} {A:Around} {E:Value->Shared->Prop} {s:Shared}
variable {I:Addr} {fp wr:List Addr} {G:Array GenState->Array GenState->Prop} {n:Nat} {P:Nat->Value->Prop} {St:Nat->Shared->Prop}
end
variable {K:KW}
def Vs(f:DX)(τ:DS):Option (PyData×DS):=(f τ).bind λp=>match p.1 with
 |.list xs=>some (.list xs.reverse,p.2)
 |_=>none
theorem HS:okM none=true:=rfl
theorem PQ{x:PyData}:okM (some (.d x))=true:=rfl
theorem PR{x:List PyData}:okM (some (.c x))=true:=rfl
theorem PN{x:List PyData}:okM (some (.m x))=fixDs x:=rfl
theorem bE{o:Option L}(h:nM o):okM o=true:=by
 cases o with
 |none=>rfl
 |some l=>cases l with
  |m xs=>exact absurd rfl (h.1 xs)
  |k xs=>exact absurd rfl (h.2 xs)
  |d x=>rfl
  |c x=>rfl
  |g x=>rfl
end DL
end
section
namespace Srt
open PySem PySem.W PyProof.Rows
def Gd(n:Nat)(r:Nat->Nat->Bool){α:Type}:KasT α->(α->Prop)->Prop
 |.ret a,Q=>Q a
 |.ask i j k,Q=>i<n/\j<n/\Gd n r (k (r i j)) Q
variable {n:Nat} {r:Nat->Nat->Bool}
theorem Gw{α:Type}{Q Q':α->Prop}(h:∀a,Q a->Q' a):∀{t:KasT α},Gd n r t Q->Gd n r t Q'
 |.ret a,g=>h a g
 |.ask i j k,⟨a,b,g⟩=>⟨a,b,Gw h g⟩
theorem JU{α β:Type}{f:α->KasT β}{Q:β->Prop}:∀{t:KasT α},Gd n r t (λa=>Gd n r (f a) Q)->Gd n r (t.bind f) Q
 |.ret a,g=>g
 |.ask i j k,⟨a,b,g⟩=>⟨a,b,JU g⟩
theorem ZH{α:Type}{cmp:Nat->Nat->(Bool->Shared->Prop)->Shared->Prop}{Q:α->Prop}{s:Shared}(hc:∀i j C,i<n->j<n->C (r i j) s->cmp i j C s):∀{t:KasT α} {R:α->Shared->Prop},Gd n r t Q->(∀a,Q a->R a s)->t.kasWp cmp R s
 |.ret a,R,g,h=>h a g
 |.ask i j k,R,⟨a,b,g⟩,h=>hc i j _ a b (ZH hc g h)
structure Ord(n:Nat)(r:Nat->Nat->Bool):Prop where
 irr:∀i,i<n->r i i=false
 tr:∀i j k,i<n->j<n->k<n->r i j=true->r j k=true->r i k=true
 tot:∀i j,i<n->j<n->i≠j->r i j=false->r j i=true
structure Arr(n:Nat)(p:Array Nat):Prop where
 sz:p.size=n
 lt:∀a,a<n->p.getD a 0<n
 inj:∀a b,a<n->b<n->p.getD a 0=p.getD b 0->a=b
 pm:p.Perm (List.toArray (List.range n))
def Up(r:Nat->Nat->Bool)(p:Array Nat)(k:Nat):Prop:=∀a b,a<b->b<k->r (p.getD a 0) (p.getD b 0)=true
def Dn(r:Nat->Nat->Bool)(p:Array Nat)(k:Nat):Prop:=∀a b,a<b->b<k->r (p.getD b 0) (p.getD a 0)=true
theorem Xn(O:Ord n r){p:Array Nat}(A:Arr n p){k:Nat}(hk:1<=k)(hn:k<n)(u:Up r p k)(h:r (p.getD k 0) (p.getD (k-1) 0)=false):Up r p (k+1):=by
 have h1:r (p.getD (k-1) 0) (p.getD k 0)=true:=O.tot _ _ (A.lt _ hn) (A.lt _ (by omega)) (λz=>by have:=A.inj _ _ hn (by omega) z;omega) h
 intro a b hab hb
 by_cases e:b=k
 ·subst e
  by_cases e2:a=b-1
  ·subst e2;exact h1
  ·exact O.tr _ _ _ (A.lt _ (by omega)) (A.lt _ (by omega)) (A.lt _ hn) (u a (b-1) (by omega) (by omega)) h1
 ·exact u a b hab (by omega)
theorem Ur(O:Ord n r){p:Array Nat}(A:Arr n p){k:Nat}(hk:1<=k)(hn:k<n)(u:Dn r p k)(h1:r (p.getD k 0) (p.getD (k-1) 0)=true):Dn r p (k+1):=by
 intro a b hab hb
 by_cases e:b=k
 ·subst e
  by_cases e2:a=b-1
  ·subst e2;exact h1
  ·exact O.tr _ _ _ (A.lt _ hn) (A.lt _ (by omega)) (A.lt _ (by omega)) h1 (u a (b-1) (by omega) (by omega))
 ·exact u a b hab (by omega)
theorem asc(O:Ord n r){p:Array Nat}(A:Arr n p):∀(f k:Nat),1<=k->k+f<=n->Up r p k->Gd n r (kas_asc p f k) λm=>k<=m/\m<=k+f/\Up r p m/\(m<k+f->r (p.getD m 0) (p.getD (m-1) 0)=true)
 |0,k,h1,h2,u=>⟨W' _,by omega,u,by omega⟩
 |f+1,k,h1,h2,u=>by
  refine⟨A.lt _ (by omega),A.lt _ (by omega),?_⟩
  cases c:r (p.getD k 0) (p.getD (k-1) 0) with
  |true=>exact⟨W' _,by omega,u,λ_=>c⟩
  |false =>
   show Gd n r (kas_asc p f (k+1)) _
   refine Gw ?_ (asc O A f (k+1) (by omega) (by omega) (Xn O A h1 (by omega) u c))
   rintro m ⟨h3,h4,h5,h6⟩
   exact⟨by omega,by omega,h5,λz=>h6 (by omega)⟩
theorem bh(O:Ord n r){p:Array Nat}(A:Arr n p):∀(f k:Nat),1<=k->k+f<=n->Dn r p k->Gd n r (kas_desc f p k 0) λx=>x.1=p/\x.2.2=0/\k<=x.2.1/\x.2.1<=k+f/\Dn r p x.2.1
 |0,k,h1,h2,u=>⟨rfl,rfl,W' _,by show k<=k+0;omega,u⟩
 |f+1,k,h1,h2,u=>by
  refine⟨A.lt _ (by omega),A.lt _ (by omega),?_⟩
  cases c:r (p.getD k 0) (p.getD (k-1) 0) with
  |true =>
   show Gd n r (kas_desc f p (k+1) 0) _
   refine Gw ?_ (bh O A f (k+1) (by omega) (by omega) (Ur O A h1 (by omega) u c))
   rintro m ⟨h3,h4,h5,h6,h7⟩
   exact⟨h3,h4,by omega,by omega,h7⟩
  |false =>
   refine⟨A.lt _ (by omega),A.lt _ (by omega),?_⟩
   have h3:r (p.getD (k-1) 0) (p.getD k 0)=true:=O.tot _ _ (A.lt _ (by omega)) (A.lt _ (by omega)) (λz=>by have:=A.inj _ _ (by omega) (by omega) z;omega) c
   rw[h3]
   exact⟨rfl,rfl,W' _,by show k<=k+(f+1);omega,u⟩
theorem Q6{p q:Array Nat}{a b:Nat}(h:q[a]?=p[b]?):q.getD a 0=p.getD b 0:=by
 rw[dI,dI,h]
theorem Kj{p:Array Nat}{k:Nat}(hk:k<=p.size)(a:Nat):(kas_rev p 0 k).getD a 0=p.getD (if a<k then k-1-a else a) 0:=by
 have e:=getElem?_mirror_all (i:=0) hk a
 unfold kas_rev
 refine Q6 (e.trans ?_)
 by_cases h:a<k
 ·rw[if_pos ⟨cZ _,h⟩,if_pos h];congr 1;omega
 ·rw[if_neg (λz=>h z.2),if_neg h]
theorem U4{p:Array Nat}(A:Arr n p){k:Nat}(hk:k<=n):Arr n (kas_rev p 0 k):=by
 have hz:=A.sz
 refine⟨by unfold kas_rev;rw[mirror_size,hz],λa ha=>?_,λa b ha hb e=>?_,?_⟩
 ·rw[Kj (by omega)]
  refine A.lt _ ?_
  split<;>omega
 ·rw[Kj (by omega),Kj (by omega)]at e
  have:=A.inj _ _ (by split<;>omega) (by split<;>omega) e
  split at this<;>split at this<;>omega
 ·exact(mirror_perm _ _ _ _).trans A.pm
theorem ZR{p:Array Nat}(A:Arr n p){k:Nat}(hk:k<=n)(d:Dn r p k):Up r (kas_rev p 0 k) k:=by
 have hz:=A.sz
 intro a b hab hb
 rw[Kj (by omega),Kj (by omega),if_pos (by omega),if_pos hb]
 exact d _ _ (by omega) (by omega)
def Res(n:Nat)(r:Nat->Nat->Bool)(x:Nat×Array Nat):Prop:=Arr n x.2/\1<=x.1/\x.1<=n/\Up r x.2 x.1
theorem aa(O:Ord n r){p:Array Nat}(A:Arr n p){k:Nat}(h1:1<=k)(hk:k<=n)(d:Dn r p k):Gd n r (kas_tail3 k n p) (Res n r):=by
 unfold kas_tail3
 refine JU (Gw ?_ (asc O (U4 A hk) (n-k) k h1 (by omega) (ZR A hk d)))
 rintro m ⟨h3,h4,h5,_⟩
 exact⟨U4 A hk,by show 1<=m;omega,by show m<=n;omega,h5⟩
theorem count(O:Ord n r){p:Array Nat}(A:Arr n p)(h1:1<=n):Gd n r (kas_count n p) (Res n r):=by
 unfold kas_count
 refine JU (Gw ?_ (asc O A (n-1) 1 (W' _) (by omega) (λa b h h'=>by omega)))
 rintro m ⟨h3,h4,h5,h6⟩
 by_cases e:m=n
 ·rw[if_pos (by simpa using e)]
  exact⟨A,by show 1<=m;omega,by show m<=n;omega,h5⟩
 ·rw[if_neg (by simpa using e)]
  by_cases hm:m>1
  ·rw[if_pos hm]
   refine⟨A.lt _ (by omega),A.lt _ (by omega),?_⟩
   rw[h5 0 (m-1) (by omega) (by omega)]
   exact⟨A,by show 1<=m;omega,by show m<=n;omega,h5⟩
  ·rw[if_neg hm]
   have hm1:m=1:=by omega
   subst hm1
   have c:=h6 (by omega)
   unfold kas_descPart
   refine JU (Gw ?_ (bh O A (n-2) 2 (by omega) (by omega) (Ur O A (k:=1) (by omega) (by omega) (λa b h h'=>by omega) c)))
   rintro⟨q,k,z⟩ ⟨rfl,rfl,h7,h8,h9⟩
   dsimp only at *
   rw[if_neg (by omega)]
   exact aa O A (by omega) (by omega) h9
theorem place(O:Ord n r){p:Array Nat}(A:Arr n p){k:Nat}(hk:k<n)(u:Up r p k):∀(f a b:Nat),b-a<=f->a<=b->b<=k->(∀c,c<a->r (p.getD c 0) (p.getD k 0)=true)->(∀c,b<=c->c<k->r (p.getD k 0) (p.getD c 0)=true) ->
  Gd n r (kas_place p k f a b) λl=>l<=k/\(∀c,c<l->r (p.getD c 0) (p.getD k 0)=true)/\(∀c,l<=c->c<k->r (p.getD k 0) (p.getD c 0)=true)
 |0,a,b,hf,hab,hb,h1,h2=>⟨by omega,h1,λc hc hk=>h2 c (by omega) hk⟩
 |f+1,a,b,hf,hab,hb,h1,h2=>by
  unfold kas_place
  by_cases e:a≥b
  ·rw[if_pos e]
   exact⟨by omega,h1,λc hc hk=>h2 c (by omega) hk⟩
  ·rw[if_neg e]
   refine⟨A.lt _ hk,A.lt _ (by omega),?_⟩
   have hm:(a+b) / 2<b:=by omega
   have hm2:a<=(a+b) / 2:=by omega
   generalize (a+b) / 2=m at *
   cases c:r (p.getD k 0) (p.getD m 0) with
   |true =>
    refine place O A hk u f a m (by omega) (by omega) (by omega) h1 λd hd hdk=>?_
    by_cases e2:d=m
    ·subst e2;exact c
    ·exact O.tr _ _ _ (A.lt _ hk) (A.lt _ (by omega)) (A.lt _ (by omega)) c (u m d (by omega) hdk)
   |false =>
    have c':r (p.getD m 0) (p.getD k 0)=true:=O.tot _ _ (A.lt _ hk) (A.lt _ (by omega)) (λz=>by have:=A.inj _ _ hk (by omega) z;omega) c
    refine place O A hk u f (m+1) b (by omega) (by omega) hb (λd hd=>?_) h2
    by_cases e2:d=m
    ·subst e2;exact c'
    ·exact O.tr _ _ _ (A.lt _ (by omega)) (A.lt _ (by omega)) (A.lt _ hk) (u d m (by omega) (by omega)) c'
theorem Yh{p:Array Nat}{k l:Nat}(hk:k<p.size)(hl:l<=k)(a:Nat):(bubble p k (k-l)).getD a 0=p.getD (if a=l then k else if l<a/\a<=k then a-1 else a) 0:=by
 have e:=getElem?_bubble hk (k-l) (by omega) a
 refine Q6 (e.trans ?_)
 rw[show k-(k-l)=l by omega]
 split
 ·rfl
 ·split<;>rfl
theorem bin(O:Ord n r):∀(f:Nat) {p:Array Nat} {k:Nat},Arr n p->k+f=n->Up r p k->Gd n r (kas_bin f p k) λq=>Arr n q/\Up r q n
 |0,p,k,A,h,u=>⟨A,by rw[<- h];exact u⟩
 |f+1,p,k,A,h,u=>by
  unfold kas_bin
  refine JU (Gw ?_ (place O A (by omega) u k 0 k (by omega) (by omega) (W' _) (λc h=>by omega) (λc h h'=>by omega)))
  rintro l ⟨h1,h2,h3⟩
  have hz:=A.sz
  have g:=λa=>Yh (p:=p) (k:=k) (l:=l) (by omega) h1 a
  have A':Arr n (bubble p k (k-l)):=by
   refine⟨by rw[bubble_size,hz],λa ha=>?_,λa b ha hb e=>?_,(bubble_perm _ _ _).trans A.pm⟩
   ·rw[g]
    refine A.lt _ ?_
    split
    ·omega
    ·split<;>omega
   ·rw[g,g]at e
    have:=A.inj _ _ (by split<;>first|omega|(split<;>omega)) (by split<;>first|omega|(split<;>omega)) e
    split at this<;>split at this<;>(try split at this)<;>(try split at this)<;>omega
  refine bin O f A' (by omega) λa b hab hb=>?_
  rw[g,g]
  by_cases ea:a=l
  ·rw[if_pos ea,if_neg (by omega),if_pos (by omega)]
   exact h3 _ (by omega) (by omega)
  ·rw[if_neg ea]
   by_cases eb:b=l
   ·rw[if_pos eb,if_neg (by omega)]
    exact h2 _ (by omega)
   ·rw[if_neg eb]
    by_cases ca:l<a/\a<=k
    ·rw[if_pos ca,if_pos (by omega)]
     exact u _ _ (by omega) (by omega)
    ·rw[if_neg ca]
     by_cases cb:l<b/\b<=k
     ·rw[if_pos cb]
      exact u _ _ (by omega) (by omega)
     ·rw[if_neg cb]
      exact u _ _ (by omega) (by omega)
theorem P8:Arr n (List.toArray (List.range n)):=by
 have g:∀a,a<n->(List.toArray (List.range n)).getD a 0=a:=λa ha=>by
  rw[dI]
  simp[ha]
 refine⟨by simp,λa ha=>by rw[g a ha];exact ha,λa b ha hb e=>by rw[g a ha,g b hb]at e;exact e,.refl _⟩
theorem sort(O:Ord n r)(h1:1<=n):Gd n r (kas_sort n) λq=>Arr n q/\Up r q n:=by
 unfold kas_sort
 refine JU (Gw ?_ (count O P8 h1))
 rintro⟨m,p⟩ ⟨A,h2,h3,u⟩
 dsimp only at *
 by_cases e:m<n
 ·rw[if_pos e]
  exact bin O _ A (by omega) (by rw[show max m 1=m by omega];exact u)
 ·rw[if_neg e]
  exact⟨A,by rw[show n=m by omega];exact u⟩
end Srt
end
section
namespace Srt
open PySem PySem.W PyProof.Rows HT
theorem lex_irr:∀(x:List Int),lexLt x x=false
 |[]=>rfl
 |a::x=>by rw[lexLt_cons,if_pos rfl];exact lex_irr x
theorem lex_tr:∀{x y z:List Int},lexLt x y=true->lexLt y z=true->lexLt x z=true
 |[],[],_,h,_=>by cases h
 |[],_::_,[],_,h=>by cases h
 |[],_::_,_::_,_,_=>rfl
 |_::_,[],_,h,_=>by cases h
 |_::_,_::_,[],_,h=>by cases h
 |a::x,b::y,c::z,h,h'=>by
  rw[lexLt_cons]at *
  by_cases e:a=b
  ·rw[if_pos e]at h
   by_cases e2:b=c
   ·rw[if_pos e2]at h'
    rw[if_pos (e.trans e2)]
    exact lex_tr h h'
   ·rw[if_neg e2]at h'
    rw[if_neg (by omega)]
    simp only[decide_eq_true_eq]at *
    omega
  ·rw[if_neg e]at h
   simp only[decide_eq_true_eq]at h
   by_cases e2:b=c
   ·rw[if_neg (by omega)]
    simp only[decide_eq_true_eq]
    omega
   ·rw[if_neg e2]at h'
    simp only[decide_eq_true_eq]at h'
    rw[if_neg (by omega)]
    simp only[decide_eq_true_eq]
    omega
theorem lex_tot:∀{x y:List Int},x≠y->lexLt x y=false->lexLt y x=true
 |[],[],h,_=>absurd rfl h
 |[],_::_,_,h=>by cases h
 |_::_,[],_,_=>rfl
 |a::x,b::y,h,h'=>by
  rw[lexLt_cons]at *
  by_cases e:a=b
  ·rw[if_pos e]at h'
   rw[if_pos e.symm]
   exact lex_tot (λz=>h (by rw[e,z])) h'
  ·rw[if_neg e]at h'
   rw[if_neg (λz=>e z.symm)]
   simp only[decide_eq_true_eq,decide_eq_false_iff_not]at *
   omega
def lexr(ks:List (List Int))(i j:Nat):Bool:=lexLt (ks.getD i []) (ks.getD j [])
theorem TR{ks:List (List Int)}(h:ks.Nodup){i j:Nat}(hi:i<ks.length)(hj:j<ks.length)(e:ks.getD i []=ks.getD j []):i=j:=by
 rw[cO,cO,Y' hi,Y' hj]at e
 have e:ks[i]=ks[j]:=e
 have P:=fT.mp h
 rcases fK i j with q|q|q
 ·exact absurd e (P i j hi hj q)
 ·exact q
 ·exact absurd e.symm (P j i hj hi q)
theorem YA{ks:List (List Int)}(h:ks.Nodup):Ord ks.length (lexr ks) :=
 ⟨λi _=>lex_irr _,λi j k _ _ _ a b=>lex_tr a b,λi j hi hj ne e=>lex_tot (λz=>ne (TR h hi hj z)) e⟩
def Tp(h:Heap)(d:Nat):List Value->List (List Int)->Prop
 |[],[]=>True
 |v::vs,k::ks=>(∃a its,v = .ref a/\IsTup h a its/\IntsAre its.toList k/\k.length=d+1)/\Tp h d vs ks
 |_,_=>False
theorem Tp.get{h:Heap}{d:Nat}:∀{vs:List Value} {ks:List (List Int)} {i:Nat},Tp h d vs ks->i<vs.length->∃a its,vs.getD i Value.none = .ref a/\IsTup h a its/\IntsAre its.toList (ks.getD i [])/\(ks.getD i []).length=d+1
 |[],_,_,_,hi=>absurd hi (eQ _)
 |_::_,[],_,t,_=>t.elim
 |v::vs,k::ks,0,t,_=>t.1
 |v::vs,k::ks,i+1,t,hi=>by
  rw[List.getD_cons_succ,List.getD_cons_succ]
  exact Tp.get t.2 (by simpa using hi)
theorem Tp.mono{h h':Heap}{d:Nat}(k:∀b o,h.get? b=some o->h'.get? b=some o):∀{vs:List Value} {ks:List (List Int)},Tp h d vs ks->Tp h' d vs ks
 |[],[],_=>trivial
 |_::_,_::_,⟨⟨a,its,e,⟨o,ho,hc,n,hd⟩,hi,hl⟩,t⟩=>⟨⟨a,its,e,⟨o,k _ _ ho,hc,n,hd⟩,hi,hl⟩,t.mono k⟩
 |[],_::_,t=>t.elim
 |_::_,[],t=>t.elim
theorem Tp.kat{h:Heap}{d:Nat}:∀{vs:List Value} {ks:List (List Int)},Tp h d vs ks->∃fs,KatTups h vs fs/\fs.length=vs.length/\∀v∈fs,∃n t,v=Value.int n t
 |[],[],_=>⟨[],.nil,rfl,λv h=>by simp at h⟩
 |v::vs,k::ks,⟨⟨a,its,e,⟨o,ho,hc,n,hd⟩,hi,hl⟩,t⟩=>by
  obtain⟨fs,h1,h2,h3⟩:=t.kat
  subst e
  obtain⟨f,hf,m,u,rfl⟩:∃f,its[0]?=some f/\∃m u,f=Value.int m u:=by
   obtain⟨l⟩:=its
   cases hi with
   |nil=>simp at hl
   |cons m u r=>exact⟨_,rfl,m,u,rfl⟩
  exact ⟨Value.int m u :: fs, .cons ho hc hd hf h1, by rw [cM, cM, h2], λv hv => by
   rcases X'.mp hv with rfl|hv
   ·exact⟨m,u,rfl⟩
   ·exact h3 v hv⟩
 |[],_::_,t=>t.elim
 |_::_,[],t=>t.elim
section
variable {prog:Program} {w:World} {A:Around} {E:Value->Shared->Prop} {s:Shared}
theorem bK{Q:Bool->Shared->Prop}:∀{ns ms:List Int} {vs ws:List Value} (i:Nat),IntsAre vs ns->IntsAre ws ms->ns.length=ms.length->Q (lexLt ns ms) s->KatLex prog w A true false Q (vs.zip ws) i s
 |[],[],_,_,i,.nil,.nil,_,q=>kat_nil q
 |[],_::_,_,_,_,_,_,hl,_=>by simp at hl
 |_::_,[],_,_,_,_,_,hl,_=>by simp at hl
 |n::ns,m::ms,_,_,i,.cons _ t hi,.cons _ u hj,hl,q=>by
  rw[lexLt_cons]at q
  show KatLex prog w A true false Q ((Value.int n t,Value.int m u)::List.zip _ _) i s
  refine kat_cons (wpAny_eqBool_int ?_)
  by_cases e:n=m
  ·rw[if_pos e]at q
   rw[show(n==m)=true by simpa using e]
   exact kat_yes (bK (i+1) hi hj (by simpa using hl) q)
  ·rw[if_neg e]at q
   rw[show(n==m)=false by simpa using e]
   refine kat_no ?_
   cases i with
   |zero=>exact oneLt_int q
   |succ i =>
    refine kat_one _ _ (PyProof.Rows.lt_int ?_)
    exact q
theorem Yn{d:Nat}{vs:List Value}{ks:List (List Int)}(t:Tp s.heap d vs ks)(i j:Nat)(C:Bool->Shared->Prop)(hi:i<vs.length)(hj:j<vs.length)(h:C (lexr ks i j) s):kas_ask prog w A (tuples' true) vs i j C s:=by
 obtain⟨a,its,e1,⟨o,ho,hc,n,hd⟩,i1,l1⟩:=t.get hi
 obtain⟨b,its2,e2,⟨o2,ho2,hc2,n2,hd2⟩,i2,l2⟩:=t.get hj
 unfold kas_ask
 rw[e1,e2]
 refine kat_lt ho hd ho2 hd2 ?_
 have z1:=i1.length
 have z2:=i2.length
 rw[eH]at z1 z2
 rw[show decide (its.size<its2.size)=false by simp only[decide_eq_false_iff_not];omega]
 exact bK 0 i1 i2 (by omega) h
theorem keptA{h:Heap}{a:Addr}{o1 o2:Obj}{f:Obj->Obj}{b:Addr}{o:Obj}(ha:h.get? b=some o)(hb:b≠a):(((h.update a f).push o1).push o2).get? b=some o:=by
 have hlt:=cS ha
 rw[fL _ _ _ (by rw[size_push',fw];exact cq (eU hlt)),fL _ _ _ (by rw[fw];exact cq hlt),Heap.get?_update_ne _ _ _ _ hb]
 exact ha
theorem VQ:∀{vs:List Value},vs.length<2->(vs.toArray.zip vs.toArray).map (·.2)=List.toArray ((List.toArray (List.range vs.length)).toList.map λi=>vs.getD i Value.none)
 |[],_=>by simp
 |[x],_=>by simp
 |_::_::_,h=>by simp at h;omega
theorem list_sortT{a:Addr}{d:Nat}{vs:List Value}{ks:List (List Int)}{n:Nat}{P:PySem.Fin->Shared->Prop}(ho:s.heap.get? a=some (seqObj "list" vs.toArray n))(h64:vs.length<64)(hn:ks.Nodup)(hkl:ks.length=vs.length)
  (t:Tp (((s.heap.update a (Obj.mapSeq λ_=>(#[]:Array Value))).push (seqObj "tuple" vs.toArray 0)).push (seqObj "list" #[] 0)) d vs ks)
  (h:∀q:Array Nat,Arr vs.length q->Up (lexr ks) q vs.length->P (.done (.ret .none)) { s with heap:=sortedHeap s.heap a vs (List.toArray (q.toList.map λi=>vs.getD i Value.none)) }) :
  wpAny (model prog w) A (Builtin.«list.sort» ⟨[.ref a],[]⟩) P E s:=by
 have ha:a<s.heap.objs.size:=cS ho
 rw[list_sort_plain]
 refine wpAny_bind (listItems_at ho rfl ?_)
 refine wpAny_bind (listUpdate_at ho rfl ?_ (by rw[dB,sizeLine_eq];omega) (cZ _))
 obtain⟨e1,ho1⟩:∃e1,(s.heap.update a (Obj.mapSeq λ_=>(#[]:Array Value))).get? a=some (seqObj "list" #[] e1):=⟨_,get?_update_seq ho (λ_=>#[])⟩
 refine wpAny_bind (seqEpoch_at ho1 rfl ?_)
 refine wpAny_bind (wpAny_newTuple ?_ (by show vs.length<=_;rw[sizeLine_eq];omega))
 refine wpAny_bind (wpAny_newList ?_ (cZ _))
 refine wpAny_holding ?_
 have ho6:(((s.heap.update a (Obj.mapSeq λ_=>(#[]:Array Value))).push (seqObj "tuple" vs.toArray 0)).push (seqObj "list" #[] 0)).get? a=some (seqObj "list" #[] e1):=by
  rw[fL _ _ _ (by rw[size_push',fw];exact cq (eU ha)),fL _ _ _ (by rw[fw];exact cq ha)]
  exact ho1
 show wpAny (model prog w) A _ P E { s with heap:=((s.heap.update a (Obj.mapSeq λ_=>(#[]:Array Value))).push (seqObj "tuple" vs.toArray 0)).push (seqObj "list" #[] 0) }
 dsimp only
 have hsz:vs.toArray.size=vs.length:=by simp
 by_cases h2:vs.toArray.size<2
 ·rw[if_pos h2,if_pos h2]
  refine wpAny_bind (wpAny_pure ?_)
  rw[StateT.run_pure]
  refine wpAny_bind (wpAny_pure ?_)
  dsimp only
  refine wpAny_bind (seqEpoch_at ho6 rfl ?_)
  have hout:(arrOf (SortSt.mk' general' (vs.toArray.zip vs.toArray) #[] 7 none)).map (·.2)=List.toArray ((List.toArray (List.range vs.length)).toList.map λi=>vs.getD i Value.none):=by
   exact VQ (by omega)
  rw[hout]
  refine wpAny_bind (listUpdate_at ho6 rfl ?_ (cZ _) (by rw[dB,B',sizeLine_eq];simp;omega))
  simp only[bne_self_eq_false,Bool.false_eq_true,if_false]
  refine wpAny_pure (h _ P8 λx y hxy hy=>?_)
  omega
 ·rw[if_neg h2,if_neg h2]
  obtain⟨fs,k1,k2,k3⟩:=t.kat
  refine wpAny_bind (kat_kind (s:={ s with heap:=((s.heap.update a (Obj.mapSeq λ_=>(#[]:Array Value))).push (seqObj "tuple" vs.toArray 0)).push (seqObj "list" #[] 0) }) (T:=.type "int") k1 (by omega) (λv hv=>by obtain⟨n,u,rfl⟩:=k3 v hv;exact Looks.of_pure rfl) (by decide) ?_)
  have hT:(Value.type "int" != Value.type "tuple")=true:=by decide
  rw[hT]
  have wp:=ZH (n:=vs.length) (r:=lexr ks) (cmp:=kas_ask prog w A (tuples' true) vs) (s:={ s with heap:=((s.heap.update a (Obj.mapSeq λ_=>(#[]:Array Value))).push (seqObj "tuple" vs.toArray 0)).push (seqObj "list" #[] 0) }) (R:=λq s'=>Arr vs.length q/\Up (lexr ks) q vs.length/\s'={ s with heap:=((s.heap.update a (Obj.mapSeq λ_=>(#[]:Array Value))).push (seqObj "tuple" vs.toArray 0)).push (seqObj "list" #[] 0) }) (λi j C hi hj hC=>Yn t i j C hi hj hC) (sort (by rw[<- hkl];exact YA hn) (by omega)) (λq hq=>⟨hq.1,hq.2,rfl⟩)
  refine wpAny_bind (wpAny_mono (kat_run (E := E) (Q := λst' s' => ∃ p : Array Nat, p.size = vs.length /\ arrOf st' = p.map (kas_item (vs.toArray.zip vs.toArray)) /\ failedOf st' = none /\ Arr vs.length p /\ Up (lexr ks) p vs.length /\ s' = { s with heap := ((s.heap.update a (Obj.mapSeq λ_ => (#[] : Array Value))).push (seqObj "tuple" vs.toArray 0)).push (seqObj "list" #[] 0) })
   rfl (by omega) h64 (λp' st' s' a1 a2 a3 a4=>⟨p',a1,a2,a3,a4⟩) wp) ?_ λ_ _ e=>e)
  rintro⟨⟨⟩,st'⟩ s' ⟨p,hp,har,hf,hA,hU,rfl⟩
  dsimp only
  have hout:=kat_snds rfl har
  rw[hout]
  refine wpAny_bind (seqEpoch_at ho6 rfl ?_)
  refine wpAny_bind (listUpdate_at ho6 rfl ?_ (cZ _) (by rw[dB,B',eH,hp,sizeLine_eq];omega))
  rw[hf]
  simp only[bne_self_eq_false,Bool.false_eq_true,if_false]
  exact wpAny_pure (h p hA hU)
end
end Srt
end
section
namespace DL
open PySem L2 PyProof.Rows
variable {K:KW}
theorem O4:∀{zs:List (Addr×List Int)} {us:List Value},Vals (zs.map λz=>V.ref z.1) us->us=zs.map λz=>Value.ref z.1
 |[],_,h=>by cases h;rfl
 |z::zs,_,h=>by
  cases h with
  |cons r t=>rw[O4 t,show _=Value.ref z.1 from r];rfl
theorem Kb:∀(zs:List (Addr×List Int)),Vals (zs.map λz=>V.ref z.1) (zs.map λz=>Value.ref z.1)
 |[]=>.nil
 |z::zs=>.cons rfl (Kb zs)
theorem Yy{X:Cx}{pins:List (Addr×Obj)}{σ:L2.St}{H:Hp}{s:Shared}(I:Inv X pins σ H s){d:Nat}:∀{zs:List (Addr×List Int)},(∀z∈zs,SqT X.K H z.1 (z.2.map V.int)/\z.2.length=d+1)->Srt.Tp s.heap d (zs.map λz=>Value.ref z.1) (zs.map (·.2))
 |[],_=>trivial
 |z::zs,h=>by
  obtain⟨h1,h2⟩:=h z J'
  obtain⟨its,r1,p1,_⟩:=I.tuple h1
  exact⟨⟨z.1,its.toArray,rfl,p1,Nt r1,h2⟩,Yy I λy hy=>h y (E' _ hy)⟩
theorem Wj{α β:Type}(f:α->β)(l:List α)(i:Nat)(a:α):(l.map f).getD i (f a)=f (l.getD i a):=by
 rw[cO,cO,U']
 cases l[i]?<;>rfl
theorem S8{α:Type}(l:List α)(a:α):(List.range l.length).map (λi=>l.getD i a)=l:=by
 apply gc
 ·simp
 ·intro i h1 h2
  simp[List.getD_eq_getElem?_getD,h2]
def Nj:List PyData->Option (List (List Int))
 |[]=>some []
 |.tuple ds::r=>(Wz ds).bind λk=>(Nj r).map (k::·)
 |_::_=>none
def NG(k:List Int):PyData:=.tuple (k.map .int)
def Ve(k:List Int):List (List Int)->List (List Int)
 |[]=>[k]
 |x::r=>if HT.lexLt k x=true then k::x::r else x::Ve k r
def NL:List (List Int)->List (List Int)
 |[]=>[]
 |k::r=>Ve k (NL r)
theorem Li(k:List Int):∀(l:List (List Int)),(Ve k l).Perm (k::l)
 |[]=>.refl _
 |x::r=>by
  unfold Ve
  split
  ·exact .refl _
  ·exact((Li k r).cons x).trans (.swap k x r)
theorem HN:∀(l:List (List Int)),(NL l).Perm l
 |[]=>.refl _
 |k::r=>(Li k (NL r)).trans ((HN r).cons k)
theorem MM{k:List Int}:∀{l:List (List Int)},l.Pairwise (λx y=>HT.lexLt x y=true)->k∉l->(Ve k l).Pairwise (λx y=>HT.lexLt x y=true)
 |[],_,_=>List.pairwise_singleton _ _
 |x::r,h,hn=>by
  obtain⟨h1,h2⟩:=da.mp h
  unfold Ve
  split
  ·rename_i c
   refine da.mpr ⟨λy hy=>?_,h⟩
   rcases X'.mp hy with rfl|hy
   ·exact c
   ·exact Srt.lex_tr c (h1 y hy)
  ·rename_i c
   have c':HT.lexLt x k=true:=Srt.lex_tot (λz=>hn (by rw[z];exact J')) (by simpa using c)
   refine da.mpr ⟨λy hy=>?_,MM h2 λz=>hn (E' _ z)⟩
   rcases X'.mp ((Li k r).mem_iff.mp hy)with rfl|hy
   ·exact c'
   ·exact h1 y hy
theorem Ik:∀{l:List (List Int)},l.Nodup->(NL l).Pairwise (λx y=>HT.lexLt x y=true)
 |[],_=>.nil
 |k::r,h=>by
  obtain⟨h1,h2⟩:=cP.mp h
  exact MM (Ik h2) λz=>h1 ((HN r).mem_iff.mp z)
theorem Xu{l m:List (List Int)}(hn:l.Nodup)(h:m.Pairwise (λx y=>HT.lexLt x y=true))(hm:∀x,x∈m↔x∈l):NL l=m :=
 J4 (R:=λx y=>HT.lexLt x y=true) (λa b h1 h2=>by have:=Srt.lex_tr h1 h2;rw[Srt.lex_irr]at this;cases this) (Ik hn) h λx=>((HN l).mem_iff).trans (hm x).symm
theorem UU{H:Hp}:∀{ds:List PyData} {vs:List V} {ks:List (List Int)},IsL K H ds vs->Nj ds=some ks->∃zs:List (Addr×List Int),vs=zs.map (λz=>V.ref z.1)/\ks=zs.map (·.2)/\∀z∈zs,SqT K H z.1 (z.2.map V.int)
 |[],_,_,h,e=>by cases e;exact⟨[],h,rfl,λz hz=>by simp at hz⟩
 |.tuple ds::r,_,_,⟨v,us,e1,⟨a,ws,e2,hs,lw⟩,l⟩,e=>by
  obtain⟨k,ek,e⟩:=oB e
  obtain⟨ms,em,e⟩:=oM e
  subst e e1 e2
  obtain⟨zs,h1,h2,h3⟩:=UU l em
  subst h1 h2
  rw[Uc lw ek]at hs
  exact ⟨(a, k) :: zs, rfl, rfl, λz hz => by
   rcases X'.mp hz with rfl|hz
   ·exact hs
   ·exact h3 z hz⟩
 |.none::_,_,_,_,e=>by cases e
 |.bool _::_,_,_,_,e=>by cases e
 |.int _::_,_,_,_,e=>by cases e
 |.str _::_,_,_,_,e=>by cases e
 |.list _::_,_,_,_,e=>by cases e
 |.dict _::_,_,_,_,e=>by cases e
theorem Ub{H:Hp}:∀(k:List Int),IsL K H (k.map .int) (k.map V.int)
 |[]=>rfl
 |i::k=>⟨_,_,rfl,rfl,Ub k⟩
theorem Ua{H:Hp}:∀{zs:List (Addr×List Int)},(∀z∈zs,SqT K H z.1 (z.2.map V.int))->IsL K H ((zs.map (·.2)).map NG) (zs.map λz=>V.ref z.1)
 |[],_=>rfl
 |z::zs,h=>⟨_,_,rfl,⟨z.1,_,rfl,h z J',Ub _⟩,Ua λy hy=>h y (E' _ hy)⟩
end DL
end
section
namespace DL
open PySem L2
variable {K:KW}
abbrev DO:=DS->Option (Option Int×DS)
structure OO(K:KW)(t:TO)(f:DO):Prop where
 like:∀τ b t7,f τ=some (b,t7)->Like τ t7
 run:∀S M τ σ H (Q:Option Int->Hp->Prop) b t7,R K S M τ σ H->f τ=some (b,t7)->(∀H',R K S M t7 σ H'->Chg M H H'->Q b H')->t σ H Q
def Yf:DO:=λτ=>some (none,τ)
def dPt(f:DX):DO:=λτ=>(f τ).bind λp=>match p.1 with
 |.int i=>some (some i,p.2)
 |_=>none
theorem Y9:OO K T6 Yf:=⟨λτ b t7 e=>by cases e;exact Like.refl,λS M τ σ H Q b t7 r e q=>by cases e;exact q H r Chg.refl⟩
theorem YE{fr:Bool}{t:TE}{f:DX}(h:E K t fr f):OO K (Y0 t) (dPt f):=by
 refine⟨λτ b t7 e=>?_,?_⟩
 ·unfold dPt at e
  obtain⟨⟨x,t6⟩,e1,e⟩:=oB e
  dsimp only at e
  split at e
  ·cases e;exact h.like _ _ _ e1
  ·cases e
 intro S M τ σ H Q b t7 r e q
 unfold dPt at e
 obtain⟨⟨x,t6⟩,e1,e⟩:=oB e
 dsimp only at e
 split at e
 ·rename_i i
  cases e
  refine h.run S M τ σ H _ _ _ r e1 λv H' r' c iv=>?_
  exact⟨i,(show v = .int i from r.isr iv),q H' r' c⟩
 ·cases e
def RI(xs:List PyData)(lo hi:Option Int):List PyData:=(xs.drop (HT.sIx xs.length 0 lo)).take (HT.sIx xs.length xs.length hi-HT.sIx xs.length 0 lo)
theorem SE{H:Hp}:∀{xs:List PyData} {vs:List V} (n:Nat),IsL K H xs vs->IsL K H (xs.drop n) (vs.drop n)
 |_,_,0,h=>h
 |[],_,n+1,h=>by rw[show _=[] from h];rfl
 |x::xs,_,n+1,⟨v,us,e,_,l⟩=>by subst e;exact SE n l
theorem SD{H:Hp}:∀{xs:List PyData} {vs:List V} (n:Nat),IsL K H xs vs->IsL K H (xs.take n) (vs.take n)
 |_,_,0,h=>rfl
 |[],_,n+1,h=>by rw[show _=[] from h];rfl
 |x::xs,_,n+1,⟨v,us,e,i,l⟩=>by subst e;exact⟨v,_,rfl,i,SD n l⟩
theorem YT{H:Hp}{xs:List PyData}{vs:List V}{lo hi:Option Int}(h:IsL K H xs vs):IsL K H (RI xs lo hi) (Ts vs lo hi):=by
 unfold RI Ts
 rw[h.length]
 exact SD _ (SE _ h)
def dSl(f:DX)(lo hi:DO)(τ:DS):Option (PyData×DS):=(f τ).bind λp=>(lo p.2).bind λl=>(hi l.2).bind λu=>match p.1 with
 |.list xs=>some (.list (RI xs l.1 u.1),u.2)
 |_=>none
theorem aE{fr:Bool}{te:TE}{tl th:TO}{f:DX}{lo hi:DO}(h:E K te fr f)(hl:OO K tl lo)(hh:OO K th hi):E K (tSl (au K) te tl th) true (dSl f lo hi):=by
 refine⟨λτ d t7 e=>?_,?_⟩
 ·unfold dSl at e
  obtain⟨⟨x,t6⟩,e1,e⟩:=oB e
  obtain⟨⟨l,t8⟩,e2,e⟩:=oB e
  obtain⟨⟨u,l0⟩,e3,e⟩:=oB e
  dsimp only at e
  split at e
  ·cases e;exact((h.like _ _ _ e1).trans (hl.like _ _ _ e2)).trans (hh.like _ _ _ e3)
  ·cases e
 intro S M τ σ H Q d t7 r e q
 unfold dSl at e
 obtain⟨⟨x,t6⟩,e1,e⟩:=oB e
 obtain⟨⟨l,t8⟩,e2,e⟩:=oB e
 obtain⟨⟨u,l0⟩,e3,e⟩:=oB e
 dsimp only at e e2 e3
 cases x with
 |list xs =>
  cases e
  refine h.run S M τ σ H _ _ _ r e1 λv1 H1 r1 c1 i1=>?_
  refine hl.run S M t6 σ H1 _ _ _ r1 e2 λH2 r2 c2=>?_
  refine hh.run S M t8 σ H2 _ _ _ r2 e3 λH3 r3 c3=>?_
  have i1':Is K (hid S H3) (.list xs) v1:=((r.isr i1).mono (c2.keep r1.sub).same).mono (c3.keep r2.sub).same
  obtain⟨a,vs,rfl,ha,la⟩:=i1'
  refine⟨a,vs,rfl,SqL.of (hid_iff.mp ha).2,λp hp=>?_⟩
  have s:=BF hp (HO.lst (Ts vs l u))
  exact q _ _ (r3.same s) (((c1.trans c2).trans c3).trans (.of s)) ((Kk hp (YT la)).back r3 ((c1.trans c2).trans c3))
 |_=>cases e
end DL
end
section
namespace L2
open PySem PySem.Spec PyProof.Rows
section
variable {X:Cx} {pins:List (Addr×Obj)} {σ:L2.St} {H:Hp} {s:Shared}
theorem Inv.turned2{t':Nat}{i1 i2:Addr}{h':Heap}(I:Inv X pins σ H s)(k:∀b o,b≠i1->b≠i2->s.heap.get? b=some o->h'.get? b=some o)(f1:Ka X pins H i1)(f2:Ka X pins H i2):Inv X pins σ H { s with heap:=h',toks:=t' }:=by
 obtain⟨a0,a1,a2,a3,a4,a5⟩:=f1
 obtain⟨b0,b1,b2,b3,b4,b5⟩:=f2
 have n1:∀b u,H b=some u->b≠i1:=λb u e z=>by rw[z,a0]at e;cases e
 have n2:∀b u,H b=some u->b≠i2:=λb u e z=>by rw[z,b0]at e;cases e
 refine I.step (g':=s.gens) (d':=s.drawn) (ch:=[i1,i2]) (λb hb=>?_) (λb o _ _ hc e _=>k b o (λz=>hc (by simp[z])) (λz=>hc (by simp[z])) e) (λb o _ _ hc e _=>⟨o.slots,k b o (λz=>hc (by simp[z])) (λz=>hc (by simp[z])) e⟩) (λ_ _ _ _ n=>n)
  (λb o hc e=>⟨o,k b o (λz=>hc (by simp[z])) (λz=>hc (by simp[z])) e⟩) (λ_ _ e=>e) (λ_ _ _ e=>e) (λb ps e=>⟨#[],by rw[e];simp⟩) (λm hm=>?_) (λb u e=>?_) I.bare
 ·have e:b=i1\/b=i2:=by simpa using hb
  rcases e with e|e
  ·subst e;exact⟨a3,a1,a4,a5⟩
  ·subst e;exact⟨b3,b1,b4,b5⟩
 ·obtain⟨o,es,ep,ho,r⟩:=hm
  exact⟨o,es,ep,k _ o (Ne.symm a1) (Ne.symm b1) ho,r⟩
 ·refine(I.hok b u e).stay (λc v hc q=>k c v ?_ ?_ q) (λ_ q=>q) λ_ _ q=>q
  ·rcases hc with z|z
   ·rw[z];exact n1 b u e
   ·exact n1 c _ z
  ·rcases hc with z|z
   ·rw[z];exact n2 b u e
   ·exact n2 c _ z
end
def Ite(K:PySem.W.Frag)(a:Addr):It :=
 ⟨λi H=>∃xs x,SqL K H a xs/\xs[i]?=some x,λi H x H'=>∃(p:Addr) (v:V),H p=none/\x = .ref p/\(∀xs,SqL K H a xs->xs[i]?=some v)/\H'=upd H p (.tup [.int i,v]),λi H=>∃xs,SqL K H a xs/\xs.length<=i⟩
theorem VA{P:Program}{w:World}{K:PySem.W.Frag}{elts:List Expr}{c1}{pos:Pos}(a e it:Addr)(hei:e≠it):Turn P w K (.Tuple elts c1 pos) (Ite K a) [e,it] e (λi h=>(∃old,IsEnum h e it i old)/\h.IsListIter it a i) where
 mem:=by simp
 obj:=λi h st b hb=>by
  have q:b=e\/b=it:=by simpa using hb
  obtain⟨⟨old,he⟩,o,ho,c,d⟩:=st
  rcases q with rfl|rfl
  ·exact⟨_,he,λv z=>by cases z⟩
  ·exact⟨o,ho,λv z=>by rw[d]at z;cases z⟩
 keep:=λi h h' st k=>⟨let ⟨old,he⟩:=st.1;⟨old,k e (by simp) _ he⟩,st.2.at λo q=>k it (by simp) o q⟩
 item:=by
  intro X hP hw hK hc i pins s σ H E I hf st hg
  subst hP hw hK
  obtain⟨xs,x,hq,hx⟩:=hg
  obtain⟨its,rv,p,hz⟩:=I.list hq
  obtain⟨u,hu,ru⟩:=rv.get hx
  obtain⟨⟨old,he⟩,hit⟩:=st
  refine wpAny_pyNext_enum_item he hit p.isList (x:=u) (by simpa using hu) hei λh1 ho hit1 ht hs1 k1=>?_
  refine⟨_,rfl,wpAny_letOwnedTupleGo_enum (s:={ s with heap:=h1,toks:=s.toks+1 }) ho λh2 he2 sb=>?_⟩
  have fr:H s.heap.objs.size=none:=I.hok.fresh (W' _)
  have hlt1:e<s.heap.objs.size:=cS he
  have hlt2:it<s.heap.objs.size:=by obtain⟨o,q,_⟩:=hit;exact cS q
  have I1:=I.laid (t':=s.toks+1) (a:=s.heap.objs.size) (o:=.tup [.int i,x]) (h':=s.heap.push { cls:=.type "tuple",data:=.seq #[.int i s.toks,u] }) (λb o q=>Z' _ q) (W' _)
   ⟨by show 2<=sizeLine;decide,[.int i s.toks,u],.cons ⟨_,rfl⟩ (.cons ru .nil),_,cX _ rfl,rfl,_,rfl⟩
  have fp:∀b∈[e,it],Ka X pins (upd H s.heap.objs.size (.tup [.int i,x])) b:=λb hb=>by
   obtain⟨q0,q⟩:=hf b hb
   refine⟨?_,q⟩
   rw[AR (λz=>?_)]
   ·exact q0
   ·have q:b=e\/b=it:=by simpa using hb
    rcases q with rfl|rfl
    ·exact absurd hlt1 (by rw[z];exact dt _)
    ·exact absurd hlt2 (by rw[z];exact dt _)
  have I2 := I1.turned2 (t' := s.toks + 1) (h' := h2) (i1 := e) (i2 := it) (λb o ne ni q => by
   have e2:h2.get? b=h1.get? b:=sb.2 b ne
   rw[e2]
   by_cases hb:b=s.heap.objs.size
   ·subst hb
    have q':some ({ cls:=.type "tuple",data:=.seq #[.int i s.toks,u] }:Obj)=some o:=(cX s.heap (o:={ cls:=.type "tuple",data:=.seq #[.int i s.toks,u] }) rfl).symm.trans q
    rw[ht];exact q'
   ·have q':(s.heap.push { cls:=.type "tuple",data:=.seq #[.int i s.toks,u] }).get? b=some o:=q
    rw[fL _ _ _ hb]at q'
    exact k1 b o ne ni q') (fp e (by simp)) (fp it (by simp))
  refine⟨.ref s.heap.objs.size,_,I2,rfl,⟨s.heap.objs.size,x,fr,rfl,λys hy=>by rw[I.list_inj hy hq];exact hx,rfl⟩,⟨⟨u,?_⟩,?_⟩,λb hb=>(fp b hb).1⟩
  ·have:((i+1:Nat):Int)=(i:Int)+1:=by omega
   rw[this];exact he2
  ·exact hit1.at λo q=>by
    have e2:h2.get? it=h1.get? it:=sb.2 it (Ne.symm hei)
    rw[e2];exact q
 done:=by
  intro X hP hw hK hc i pins s σ H E I hf st hg
  subst hP hw hK
  obtain⟨xs,hq,hx⟩:=hg
  obtain⟨its,rv,p,hz⟩:=I.list hq
  obtain⟨⟨old,he⟩,hit⟩:=st
  obtain⟨f0,f1,f2,f3,f4,f5⟩:=hf it (by simp)
  have hl:=rv.length
  exact wpAny_pyNext_enum_end (I.ok.hd hc) he hit p.isList (by simp;omega) λh' eb=>⟨rfl,I.turned (t':=s.toks) (λb o hb e=>eb b o hb e) f0 f1 f3 f4 f5⟩
 self:=λ_ _ _ _ _ st h=>let ⟨old,he⟩:=st.1;wpAny_pyIter_enum he h
section
variable {X:Cx} {elts:List Expr} {tp:Pos}
def ZF(K:PySem.W.Frag)(ta:TA):TI:=λσ H R=>ta σ H λvs H1=>∃a,vs=[.ref a]/\(∃xs,SqL K H1 a xs)/\R (Ite K a) H1
theorem Mu{a:Expr}{ta:TA}{p pos:Pos}{c1}(hg:Gl X "enumerate")(hm:X.mg "enumerate"=none)(ha:PA X [a] ta)(hn:("enumerate":Str)≠"__name__")(hdb:(("enumerate":Str)==("__debug__":Str))=false)(hs:starEach [a] X.env=[(false,eval a X.env)]:=by rfl) :
  PI X (.Tuple elts c1 tp) (.Call (.Name "enumerate" p) [a] [] pos) (ZF X.K ta):=by
 intro pins s σ H R I h
 refine Call_ (Ld I hg hm boot_enumerate (eI (thn (ha pos pins s σ H _ I h) λus s1 ⟨vs,H1,I1,r1,q1⟩=>?_) hs rfl) hn hdb)
 obtain⟨l,e,⟨xs,hq⟩,q⟩:=q1
 subst e
 obtain⟨u,rfl,ru⟩:=L5 r1
 cases ru
 obtain⟨its,rv,pl,hz⟩:=I1.list hq
 refine call_enumerate_list pl.isList λh' he hit hsz hk=>?_
 refine wpAny_pyIter_enum (s:={ s1 with heap:=h' }) he ?_
 have I2:Inv X pins σ H1 { s1 with heap:=h' }:=I1.kept (t':=s1.toks) hk
 refine⟨s1.heap.objs.size+1,[s1.heap.objs.size+1,s1.heap.objs.size],_,_,H1,rfl,I2,VA l (s1.heap.objs.size+1) s1.heap.objs.size (Nat.succ_ne_self _),⟨⟨_,he⟩,hit⟩,λb hb=>?_,q⟩
 have e:b=s1.heap.objs.size+1\/b=s1.heap.objs.size:=by simpa using hb
 rcases e with rfl|rfl
 ·exact I1.fpOk (gm _) (I1.hok.fresh (gm _))
 ·exact I1.fpOk (W' _) (I1.hok.fresh (W' _))
end
end L2
end
section
namespace DL
open PySem L2
variable {K:KW}
def bw(K:KW)(S:Addr->Prop)(J:It)(H:Hp)(ds:List PyData):Prop:=∀(S2:Addr->Prop) (H2:Hp),Keep S H S2 H2->(∀a,H2 a=none->¬S2 a)->(∀(i:Nat) (d:PyData),ds[i]?=some d->J.go i H2/\∀x H3,J.yld i H2 x H3->Same H2 H3/\Is K (hid S2 H3) d x)/\∀i,ds.length<=i->J.stop i H2
structure IT2(K:KW)(wi:TI)(f:DI):Prop where
 like:∀τ ds t7,f τ=some (ds,t7)->Like τ t7
 run:∀S M τ σ H (Q:It->Hp->Prop) ds t7,R K S M τ σ H->f τ=some (ds,t7)->(∀J H',R K S M t7 σ H'->Chg M H H'->bw K S J H' ds->Q J H')->wi σ H Q
def D1(k:Nat):List PyData->List PyData
 |[]=>[]
 |d::r=>.tuple [.int k,d]::D1 (k+1) r
theorem Pp:∀(k:Nat) (ds:List PyData),(D1 k ds).length=ds.length
 |_,[]=>rfl
 |k,_::r=>by rw[D1,cM,cM,Pp]
theorem Pq:∀{k:Nat} {ds:List PyData} {i:Nat} {x:PyData},(D1 k ds)[i]?=some x->∃d,ds[i]?=some d/\x = .tuple [.int ((k+i:Nat):Int),d]
 |_,[],i,_,e=>by simp[D1]at e
 |k,d::r,0,x,e=>by simp[D1]at e;exact⟨d,rfl,e.symm⟩
 |k,d::r,i+1,x,e=>by
  rw[D1,dZ]at e
  obtain⟨d',h1,h2⟩:=Pq e
  exact⟨d',by rw[dZ];exact h1,by rw[h2,show k+1+i=k+(i+1) by omega]⟩
def dIE(f:DX)(τ:DS):Option (List PyData×DS):=(f τ).bind λp=>match p.1 with
 |.list ds=>some (D1 0 ds,p.2)
 |_=>none
theorem M1{fr:Bool}{t:TE}{f:DX}(h:E K t fr f):IT2 K (ZF K (EC t J3)) (dIE f):=by
 refine⟨λτ d t7 e=>?_,?_⟩
 ·unfold dIE at e
  obtain⟨⟨x,t6⟩,e1,e⟩:=oB e
  dsimp only at e
  split at e
  ·cases e;exact h.like _ _ _ e1
  ·cases e
 intro S M τ σ H Q ds t7 r e q
 unfold dIE at e
 obtain⟨⟨x,t6⟩,e1,e⟩:=oB e
 cases x with
 |list ds =>
  cases e
  refine h.weak.run S M τ σ H _ _ _ r e1 λv H1 r1 c1 i1=>?_
  have i1':Is K (hid S H1) (.list ds) v:=i1
  obtain⟨a,vs,rfl,hl,ll⟩:=i1'
  refine⟨a,rfl,⟨vs,SqL.of (hid_iff.mp hl).2⟩,q _ H1 r1 c1 λS2 H2 k nS=>?_⟩
  have hl2:=k.same _ _ hl
  have ll2:=ll.mono k.same
  refine⟨λi d e=>?_,λi hi=>⟨vs,SqL.of (hid_iff.mp hl2).2,by rw[ll.length];rw[Pp]at hi;exact hi⟩⟩
  obtain⟨d',e',rfl⟩:=Pq e
  obtain⟨u,h1,h2⟩:=ll2.get e'
  refine⟨⟨vs,u,SqL.of (hid_iff.mp hl2).2,h1⟩,?_⟩
  rintro x H3 ⟨p,v,hp,rfl,y,rfl⟩
  have:=y vs (SqL.of (hid_iff.mp hl2).2)
  rw[h1]at this;cases this
  have s:=BF hp (HO.tup [.int i,u])
  refine⟨s,⟨p,[.int i,u],rfl,.inl (.inl (hid_iff.mpr ⟨nS p hp,AW⟩)),?_⟩⟩
  rw[ff]
  exact⟨_,_,rfl,rfl,_,_,rfl,h2.mono (Same.keep s).same,rfl⟩
 |_=>cases e
theorem T4{np:Nat}{fr:Bool}{wi:TI}{tg:TG}{tb:TS}{it:DI}{g:DG}{b:DB}(hi:IT2 K wi it)(hg:TG1 K tg g)(hb:B K np tb fr b):B K np (ZT wi tg tb) fr (Dz it g b):=by
 intro F S M τ σ H D out hnp f ee q
 unfold Dz at ee
 obtain⟨⟨ds,t6⟩,e1,ee⟩:=oB ee
 refine hi.run S M τ σ H _ ds t6 f.r e1 λJ H1 r1 c1 iJ=>?_
 have f1:=f.step r1 c1 (hi.like _ _ _ e1)
 have q1:=q.trans (c1.keep f.r.sub)
 refine⟨λi m σ' H'=>m=ds.length-i/\i<=ds.length/\∃S' M' t7,RF K F S' M' t7 σ' H'/\Keep S H1 S' H'/\Bp g b (ds.drop i) t7=some out,⟨ds.length,by simp,cZ _,S,M,t6,f1,.refl,by simpa using ee⟩,?_⟩
 rintro i m σ' H' ⟨rfl,hil,S',M',t7,f',k',hl⟩
 obtain⟨I1,I2⟩:=iJ _ _ k' (λ_=>f'.r.fresh)
 by_cases hlt:i<ds.length
 ·right
  have ed:ds[i]?=some ds[i]:=Y' hlt
  obtain⟨go,yl⟩:=I1 i _ ed
  refine⟨go,λσ2 H2=>∃S2 M2 t8,RF K F S2 M2 t8 σ2 H2/\Keep S H1 S2 H2/\Bp g b (ds.drop (i+1)) t8=some out,λσ2 H2 h=>⟨ds.length-(i+1),by omega,rfl,hlt,h⟩,λx H2 y=>?_⟩
  obtain⟨sm,ix⟩:=yl x H2 y
  have f':=f'.step (f'.r.same sm) (.of sm) .refl
  have k':=k'.trans (Same.keep sm)
  rw[dQ hlt,Bp]at hl
  obtain⟨t8,e2,hl⟩:=oB hl
  obtain⟨o,e3,hl⟩:=oB hl
  refine hg.run S' M' t7 σ' H2 x _ t8 _ f'.r ix e2 λσ3 r3 k3=>?_
  have f3:=f'.stay r3 (hg.ms _ _ _ e2) k3
  refine hb F S' M' t8 σ3 H2 _ o hnp f3 e3 ?_
  cases o with
  |nx l7=>exact λS4 M4 σ4 H4 f4 k4=>⟨S4,M4,l7,f4,k'.trans k4,hl⟩
  |ct l7=>exact λS4 M4 σ4 H4 f4 k4=>⟨S4,M4,l7,f4,k'.trans k4,hl⟩
  |bk l7=>cases hl;exact λS4 M4 σ4 H4 f4 k4=>q1 S4 M4 σ4 H4 f4 (k'.trans k4)
  |rt d l7=>cases hl;exact λS4 M4 σ4 H4 v f4 k4=>q1 S4 M4 σ4 H4 v f4 k4
 ·left
  have e:i=ds.length:=by omega
  subst e
  rw[eJ,Bp]at hl
  cases hl
  exact⟨I2 _ (W' _),q1 S' M' σ' H' f' k'⟩
end DL
end
section
namespace DL
open PySem L2 PyProof.Rows
variable {K:KW}
end DL
end
section
namespace DL
open PySem L2
variable {K:KW}
end DL
end
section
namespace Stb
open PySem
def F:Nat->Nat->Nat
 |0,x=>x
 |n+1,x=>F n (5*x+1)
theorem Xl:∀(a b x:Nat),F (a+b) x=F b (F a x)
 |0,b,x=>by rw[ff];rfl
 |a+1,b,x=>by rw[show a+1+b=(a+b)+1 by omega];exact Xl a b _
theorem F4:∀(n x:Nat),4*F n x+1=5 ^ n*(4*x+1)
 |0,x=>by simp[F]
 |n+1,x=>by
  rw[F,F4 n,fg,Nat.mul_assoc]
  congr 1
  omega
theorem bV:∀k:Nat,∃q,5 ^ (2 ^ k)=1+2 ^ k*(4*(2*q+1))
 |0=>⟨0,by decide⟩
 |k+1=>by
  obtain⟨q,e⟩:=bV k
  refine⟨q+2 ^ k*((2*q+1)*(2*q+1)),?_⟩
  rw[fg 2 k,Nat.pow_mul,e]
  generalize 2 ^ k=P
  grind
theorem F2k(k z:Nat):∃r,F (2 ^ k) z=z+2 ^ k*(2*r+1):=by
 obtain⟨q,e⟩:=bV k
 have h:=F4 (2 ^ k) z
 rw[e]at h
 refine⟨4*q*z+q+2*z,?_⟩
 generalize 2 ^ k=P at *
 generalize F P z=f at *
 grind
theorem hit:∀(k x y:Nat),∃n,n<2 ^ k/\F n x % 2 ^ k=y % 2 ^ k
 |0,x,y=>⟨0,by decide,by simp[Nat.mod_one]⟩
 |k+1,x,y=>by
  obtain⟨n,hn,e⟩:=hit k x y
  have hp:2 ^ (k+1)=2 ^ k+2 ^ k:=by rw[fg];omega
  by_cases c:F n x % 2 ^ (k+1)=y % 2 ^ (k+1)
  ·exact⟨n,by omega,c⟩
  ·refine⟨n+2 ^ k,by omega,?_⟩
   rw[Xl]
   obtain⟨r,er⟩:=F2k k (F n x)
   rw[er]
   have h1:F n x % 2 ^ (k+1) % 2 ^ k=y % 2 ^ (k+1) % 2 ^ k:=by
    rw[Nat.mod_mod_of_dvd _ ⟨2,by rw[fg]⟩,Nat.mod_mod_of_dvd _ ⟨2,by rw[fg]⟩];exact e
   have e2:F n x+2 ^ k*(2*r+1)=F n x+2 ^ k+2 ^ (k+1)*r:=by
    rw[hp];generalize 2 ^ k=P;grind
   rw[e2,Nat.add_mul_mod_self_left,Nat.add_mod]
   have hP:0<2 ^ k:=Nat.pow_pos (by decide)
   rw[hp]at *
   generalize 2 ^ k=P at *
   have l1:=gK (F n x) (show P+P>0 by omega)
   have l2:=gK y (show P+P>0 by omega)
   generalize F n x % (P+P)=a at *
   generalize y % (P+P)=b at *
   rw[fR (show P<P+P by omega)]
   have m1:=Nat.div_add_mod a P
   have m2:=Nat.div_add_mod b P
   rw[h1]at m1
   have d1:a / P<2:=Nat.div_lt_of_lt_mul (show a<P*2 by rw[Nat.mul_two];exact l1)
   have d2:b / P<2:=Nat.div_lt_of_lt_mul (show b<P*2 by rw[Nat.mul_two];exact l2)
   generalize a / P=u at *
   generalize b / P=v at *
   generalize b % P=w at *
   have c1:u=0\/u=1:=by omega
   have c2:v=0\/v=1:=by omega
   rcases c1 with c1|c1<;>rcases c2 with c2|c2<;>rw[c1]at m1<;>rw[c2]at m2<;>simp only[Nat.mul_zero,Nat.mul_one,Nat.zero_add]at m1 m2
   ·exact absurd (m1.symm.trans m2) c
   ·rw[fR (by omega)];omega
   ·rw[show a+P=b+(P+P) by omega,Nat.add_mod_right,fR (by omega)]
   ·exact absurd (m1.symm.trans m2) c
end Stb
end
section
namespace Stb
open PySem SetTable
def st(m:Nat)(h:Int):Probe:={ j:=bits h % (m+1),more:=runEnd m (bits h % (m+1))-bits h % (m+1),i:=bits h % (m+1),perturb:=bits h,dummy:=none }
def ad(m:Nat)(p:Probe):Probe :=
 if p.more>0 then { p with j:=p.j+1,more:=p.more-1 } else
 { p with j:=(leap m p.i p.perturb).1,more:=runEnd m (leap m p.i p.perturb).1-(leap m p.i p.perturb).1,i:=(leap m p.i p.perturb).1,perturb:=(leap m p.i p.perturb).2 }
def it(m:Nat)(h:Int):Nat->Probe
 |0=>st m h
 |n+1=>ad m (it m h n)
def pt(m:Nat)(h:Int)(n:Nat):Nat:=(it m h n).j
theorem PB{m i:Nat}(h:i<=m):runEnd m i<=m:=by unfold runEnd;split<;>omega
theorem JS{m i:Nat}:i<=runEnd m i:=by unfold runEnd;split<;>omega
theorem WI{m i:Nat}:runEnd m i<=i+9:=by unfold runEnd;split<;>omega
theorem UQ(m i p:Nat):(leap m i p).1<=m:=fh (gK _ (Nat.succ_pos m))
structure Okp(m:Nat)(p:Probe):Prop where
 i:p.i<=m
 j:p.j+p.more=runEnd m p.i
 d:p.dummy=none
theorem Zm(m:Nat)(h:Int):Okp m (st m h):=by
 have e:bits h % (m+1)<=m:=fh (gK _ (Nat.succ_pos m))
 refine⟨e,?_,rfl⟩
 have:=@JS m (bits h % (m+1))
 show bits h % (m+1)+(runEnd m (bits h % (m+1))-bits h % (m+1))=_
 show _=runEnd m (bits h % (m+1))
 omega
theorem Zn{m:Nat}{p:Probe}(o:Okp m p):Okp m (ad m p):=by
 unfold ad
 by_cases c:p.more>0
 ·rw[if_pos c]
  refine⟨o.i,?_,o.d⟩
  have:=o.j
  show p.j+1+(p.more-1)=runEnd m p.i
  omega
 ·rw[if_neg c]
  refine⟨UQ _ _ _,?_,o.d⟩
  have:=@JS m (leap m p.i p.perturb).1
  show(leap m p.i p.perturb).1+(runEnd m (leap m p.i p.perturb).1-(leap m p.i p.perturb).1)=runEnd m (leap m p.i p.perturb).1
  omega
theorem TF(m:Nat)(h:Int):∀n,Okp m (it m h n)
 |0=>Zm m h
 |n+1=>Zn (TF m h n)
theorem Y6(m:Nat)(h:Int)(n:Nat):pt m h n<=m:=by
 have o:=TF m h n
 have:=PB o.i
 have:=o.j
 unfold pt;omega
def R(m:Nat)(h:Int):Nat->Nat×Nat
 |0=>(bits h % (m+1),bits h)
 |r+1=>leap m (R m h r).1 (R m h r).2
def rd(m:Nat)(x:Nat×Nat)(k:Nat):Probe:={ j:=x.1+k,more:=runEnd m x.1-x.1-k,i:=x.1,perturb:=x.2,dummy:=none }
def N(m:Nat)(h:Int):Nat->Nat
 |0=>0
 |r+1=>N m h r+(runEnd m (R m h r).1-(R m h r).1)+1
theorem bq(m:Nat)(h:Int):∀r,(R m h r).1<=m
 |0=>fh (gK _ (Nat.succ_pos m))
 |r+1=>UQ _ _ _
theorem Nu{m:Nat}{h:Int}{n:Nat}{x:Nat×Nat}(e:it m h n=rd m x 0):∀k,k<=runEnd m x.1-x.1->it m h (n+k)=rd m x k
 |0,_=>e
 |k+1,hk=>by
  show ad m (it m h (n+k))=_
  rw[Nu e k (by omega)]
  unfold ad rd
  rw[if_pos (by show runEnd m x.1-x.1-k>0;omega)]
  show Probe.mk (x.1+k+1) (runEnd m x.1-x.1-k-1) x.1 x.2 none=Probe.mk (x.1+(k+1)) (runEnd m x.1-x.1-(k+1)) x.1 x.2 none
  rw[Nat.sub_sub,Nat.add_assoc]
theorem Z4(m:Nat)(h:Int):∀r,it m h (N m h r)=rd m (R m h r) 0
 |0=>rfl
 |r+1=>by
  show ad m (it m h (N m h r+(runEnd m (R m h r).1-(R m h r).1)))=_
  rw[Nu (Z4 m h r) _ (W' _)]
  unfold ad rd
  rw[if_neg (by show ¬(runEnd m (R m h r).1-(R m h r).1-(runEnd m (R m h r).1-(R m h r).1)>0);omega)]
  rfl
theorem bz(m:Nat)(h:Int)(r:Nat):pt m h (N m h r)=(R m h r).1:=by unfold pt;rw[Z4];rfl
theorem Km{m:Nat}{h:Int}{r k:Nat}(hk:k<=runEnd m (R m h r).1-(R m h r).1):pt m h (N m h r+k)=(R m h r).1+k:=by
 unfold pt;rw[Nu (Z4 m h r) k hk];rfl
theorem bt(m:Nat)(h:Int):∀r,N m h r<=10*r
 |0=>W' _
 |r+1=>by
  have a:=bt m h r
  have b:=@WI m (R m h r).1
  have c:=@JS m (R m h r).1
  show N m h r+(runEnd m (R m h r).1-(R m h r).1)+1<=_
  omega
theorem Xh(m:Nat)(h:Int):∀r,(R m h r).2=bits h / 32 ^ r
 |0=>by show bits h=_;simp
 |r+1=>by
  show(R m h r).2 / 32=_
  rw[Xh m h r,Nat.div_div_eq_div_mul,fg]
theorem Yj(h:Int):bits h<2 ^ 64:=by
 unfold bits
 have a:=eE h (show(2 ^ 64:Int)≠0 by decide)
 have b:=dz h (show(0:Int)<2 ^ 64 by decide)
 have:(2:Int) ^ 64=18446744073709551616:=by decide
 have:(2:Nat) ^ 64=18446744073709551616:=by decide
 omega
theorem aT(m:Nat)(h:Int)(n:Nat):(R m h (13+n)).2=0:=by
 rw[Xh]
 refine Nat.div_eq_of_lt (cy (Yj h) ?_)
 rw[Nat.pow_add]
 exact cm (by decide) (Nat.le_mul_of_pos_right _ (Nat.pow_pos (by decide)))
theorem aY(n x:Nat):F (n+1) x=5*F n x+1:=by rw[Xl n 1];rfl
theorem Xi(m:Nat)(h:Int):∀n,(R m h (12+n)).1=F n (R m h 12).1 % (m+1)
 |0=>by
  show(R m h 12).1=(R m h 12).1 % (m+1)
  rw[fR (gW (bq m h 12))]
 |n+1=>by
  have z:=aT m h n
  rw[show 13+n=(12+n)+1 by omega]at z
  have z:(R m h (12+n)).2 / 32=0:=z
  show((R m h (12+n)).1*5+1+(R m h (12+n)).2 / 32) % (m+1)=_
  rw[z,Xi m h n,aY,Nat.add_zero,Nat.mul_comm 5,Nat.add_mod,Nat.mul_mod,Nat.mod_mod,<- Nat.mul_mod,<- Nat.add_mod]
theorem PF{m k:Nat}(hm:m+1=2 ^ k)(h:Int){y:Nat}(hy:y<=m):∃r,r<=12+m/\(R m h r).1=y:=by
 obtain⟨n,hn,e⟩:=hit k (R m h 12).1 y
 refine⟨12+n,by omega,?_⟩
 rw[Xi,hm,e]
 exact fR (by omega)
theorem Zg{m k:Nat}(hm:m+1=2 ^ k)(h:Int){y:Nat}(hy:y<=m):∃n,n<=10*(m+12)/\pt m h n=y:=by
 obtain⟨r,hr,e⟩:=PF hm h hy
 refine⟨N m h r,?_,(bz m h r).trans e⟩
 have:=bt m h r
 omega
def Rising(xs:Array Nat):Prop:=xs.toList.Pairwise (·<·)
theorem Rising.lt{xs:Array Nat}(r:Rising xs){a b:Nat}(hab:a<b)(hb:b<xs.size):xs.getD a 0<xs.getD b 0:=by
 have P:=fT.mp r a b (by simpa using fQ hab hb) (by simpa using hb) hab
 have ha:=fQ hab hb
 simpa[Array.getD,ha,hb] using P
theorem OK{xs:Array Nat}(r:Rising xs)(j:Nat):∀(f lo hi:Nat),lo<=hi->hi<=xs.size->hi-lo<=f->(∀a,a<lo->xs.getD a 0<j)->(∀a,hi<=a->a<xs.size->j<=xs.getD a 0) ->
  below.go xs j f lo hi<=xs.size/\(∀a,a<below.go xs j f lo hi->xs.getD a 0<j)/\(∀a,below.go xs j f lo hi<=a->a<xs.size->j<=xs.getD a 0)
 |0,lo,hi,h1,h2,h3,h4,h5=>by
  have:lo=hi:=by omega
  subst this
  exact⟨h2,h4,h5⟩
 |f+1,lo,hi,h1,h2,h3,h4,h5=>by
  unfold below.go
  by_cases c:lo<hi
  ·rw[if_pos c]
   show(if xs.getD ((lo+hi) / 2) j<j then below.go xs j f ((lo+hi) / 2+1) hi else below.go xs j f lo ((lo+hi) / 2))<=_/\(∀a,a<(if xs.getD ((lo+hi) / 2) j<j then below.go xs j f ((lo+hi) / 2+1) hi else below.go xs j f lo ((lo+hi) / 2))->_)/\(∀a,(if xs.getD ((lo+hi) / 2) j<j then below.go xs j f ((lo+hi) / 2+1) hi else below.go xs j f lo ((lo+hi) / 2))<=a->_)
   have hm:(lo+hi) / 2<xs.size:=by omega
   have e:xs.getD ((lo+hi) / 2) j=xs.getD ((lo+hi) / 2) 0:=by simp[Array.getD,hm]
   rw[e]
   by_cases d:xs.getD ((lo+hi) / 2) 0<j
   ·rw[if_pos d]
    refine OK r j f _ hi (by omega) h2 (by omega) (λa ha=>?_) h5
    rcases dJ a ((lo+hi) / 2)with q|q
    ·exact fQ (r.lt q hm) d
    ·rw[show a=(lo+hi) / 2 by omega];exact d
   ·rw[if_neg d]
    refine OK r j f lo _ (by omega) (by omega) (by omega) h4 (λa ha hs=>?_)
    rcases dJ ((lo+hi) / 2) a with q|q
    ·have:=r.lt q hs;omega
    ·rw[show a=(lo+hi) / 2 by omega];omega
  ·rw[if_neg c]
   have:lo=hi:=by omega
   subst this
   exact⟨h2,h4,h5⟩
theorem KS{xs:Array Nat}(r:Rising xs)(j:Nat):below xs j<=xs.size/\(∀a,a<below xs j->xs.getD a 0<j)/\(∀a,below xs j<=a->a<xs.size->j<=xs.getD a 0) :=
 OK r j xs.size 0 xs.size (cZ _) (W' _) (by omega) (λa h=>absurd h (eQ a)) (λa h h'=>absurd h (by omega))
theorem W6{xs:Array Nat}{a:Nat}(h:a<xs.size):xs[a]?=some (xs.getD a 0):=by simp[Array.getD,h]
theorem L3{xs:Array Nat}(r:Rising xs){j:Nat}(h:j∈xs.toList):xs[below xs j]?=some j:=by
 obtain⟨a,ha,e⟩:=fV h
 have ha':a<xs.size:=by simpa using ha
 have ea:xs.getD a 0=j:=by simpa[Array.getD,ha'] using e
 obtain⟨b1,b2,b3⟩:=KS r j
 have h1:¬a<below xs j:=λc=>by have:=b2 a c;omega
 have h2:¬below xs j<a:=λc=>by
  have:=b3 _ (W' _) (fQ c ha')
  have:=r.lt c ha'
  omega
 have:below xs j=a:=by omega
 rw[this,W6 ha',ea]
theorem OY{xs:Array Nat}{j:Nat}(h:j∉xs.toList):xs[below xs j]?≠some j:=by
 intro e
 exact h (by rw[eR];exact Array.mem_of_getElem? e)
theorem NM{t:SetTable}(r:Rising t.place){j:Nat}(h:j∈t.place.toList):t.slot j = .live (below t.place j):=by
 unfold SetTable.slot
 have:=L3 r h
 simp[this]
theorem WG{t:SetTable}(hd:t.dummies=#[]){j:Nat}(h:j∉t.place.toList):t.slot j = .empty:=by
 unfold SetTable.slot
 have:=OY h
 simp[this,hd,SetTable.has]
theorem C4{α:Type}(xs:Array α)(p:Nat)(x:α):(insertAt xs p x).toList=xs.toList.take p++x::xs.toList.drop p:=by
 unfold insertAt
 simp[Array.toList_extract,List.extract]
 exact List.take_of_length_le (by simp)
theorem IF{α:Type}(xs:Array α)(p:Nat)(x y:α):y∈(insertAt xs p x).toList↔y=x\/y∈xs.toList:=by
 rw[C4]
 have:xs.toList=xs.toList.take p++xs.toList.drop p:=(dY p _).symm
 constructor
 ·intro h
  rcases cN.mp h with h|h
  ·exact .inr (List.mem_of_mem_take h)
  ·rcases X'.mp h with h|h
   ·exact .inl h
   ·exact .inr (List.mem_of_mem_drop h)
 ·rintro(h|h)
  ·subst h;exact L' _ J'
  ·rw[this]at h
   rcases cN.mp h with h|h
   ·exact cU _ h
   ·exact L' _ (E' _ h)
theorem FG{α:Type}(xs:Array α)(p:Nat)(x:α):(insertAt xs p x).size=xs.size+1:=by
 have:(insertAt xs p x).toList.length=xs.toList.length+1:=by
  rw[C4,cT,cM]
  have:=congrArg List.length (dY p xs.toList)
  rw[cT]at this
  omega
 simpa using this
theorem OS{α:Type}(xs:Array α)(p:Nat)(x:α):(insertAt xs p x).toList.Perm (x::xs.toList):=by
 rw[C4]
 refine gd.trans ?_
 rw[dY]
theorem OP{xs:Array Nat}(r:Rising xs){j:Nat}(h:j∉xs.toList):Rising (insertAt xs (below xs j) j):=by
  unfold Rising
  rw[C4]
  obtain⟨b1,b2,b3⟩:=KS r j
  have r':(xs.toList.take (below xs j)++xs.toList.drop (below xs j)).Pairwise (·<·):=by rw[dY];exact r
  obtain⟨p1,p2,p3⟩:=dq.mp r'
  have lo:∀a∈xs.toList.take (below xs j),a<j:=by
    intro a ha
    obtain⟨i,hi,e⟩:=fV ha
    rw[eu]at hi
    have hi' : i < xs.size := by have : i < xs.toList.length := by omega
                                 simpa using this
    have:=b2 i (by omega)
    rw[List.getElem_take]at e
    have e':xs.getD i 0=a:=by simpa[Array.getD,hi'] using e
    omega
  have hi:∀a∈xs.toList.drop (below xs j),j<a:=by
    intro a ha
    obtain⟨i,hi,e⟩:=fV ha
    rw[List.length_drop]at hi
    rw[List.getElem_drop]at e
    have hl:xs.toList.length=xs.size:=by simp
    have hi':below xs j+i<xs.size:=by omega
    have:=b3 (below xs j+i) (by omega) hi'
    have e':xs.getD (below xs j+i) 0=a:=by simpa[Array.getD,hi'] using e
    have:a≠j:=λz=>h (by rw[<- z];exact List.mem_of_mem_drop ha)
    omega
  refine dq.mpr ⟨p1,da.mpr ⟨hi,p2⟩,λa ha b hb=>?_⟩
  rcases X'.mp hb with rfl|hb
  · exact lo a ha
  · exact p3 a ha b hb
theorem Jq:∀{xs ys:List Nat},xs.Nodup->(∀x∈xs,x∈ys)->xs.length<=ys.length
 |[],ys,_,_=>cZ _
 |x::xs,ys,n,s=>by
  have hx:=s x J'
  obtain⟨n1,n2⟩:=cP.mp n
  have := Jq (ys := ys.erase x) n2 (λy hy => by
   have:y≠x:=λe=>n1 (e▸hy)
   exact(List.mem_erase_of_ne this).mpr (s y (E' _ hy)))
  rw[List.length_erase_of_mem hx]at this
  have:0<ys.length:=List.length_pos_of_mem hx
  simp only[List.length_cons]
  omega
theorem Y3{m:Nat}{ps:List Nat}(h:ps.length<=m):∃y,y<=m/\y∉ps:=by
 by_cases c:∃y,y<=m/\y∉ps
 ·exact c
 ·have : (List.range (m + 1)).length <= ps.length := Jq List.nodup_range (λx hx => by
   by_cases d:x∈ps
   ·exact d
   ·exact absurd ⟨x,fh (c7.mp hx),d⟩ c)
  rw[eT]at this
  omega
def Fst(m:Nat)(ps:List Nat)(h:Int)(n:Nat):Prop:=pt m h n∉ps/\∀k,k<n->pt m h k∈ps
theorem bL{P:Nat->Prop}(h:∃n,P n):∃n,P n/\∀k,k<n->¬P k:=by
 obtain⟨n,hn⟩:=h
 induction n using Nat.strongRecOn with
 |_ n ih =>
  by_cases c:∃k,k<n/\P k
  ·obtain⟨k,h1,h2⟩:=c;exact ih k h1 h2
  ·exact⟨n,hn,λk hk hp=>c ⟨k,hk,hp⟩⟩
theorem Z6{m k:Nat}(hm:m+1=2 ^ k){ps:List Nat}(hl:ps.length<=m)(h:Int):∃n,n<=10*(m+12)/\Fst m ps h n:=by
 obtain⟨y,hy,hn⟩:=Y3 hl
 obtain⟨n,h1,h2⟩:=Zg hm h hy
 obtain⟨n',h3,h4⟩:=bL (P:=λn=>pt m h n∉ps) ⟨n,by rw[h2];exact hn⟩
 refine⟨n',?_,h3,λk hk=>fU (h4 k hk)⟩
 rcases dJ n n' with q|q
 ·exact absurd (by rw[h2];exact hn) (h4 n q)
 ·omega
def Way(m:Nat)(ps:List Nat)(h:Int)(j:Nat):Prop:=∃n,pt m h n=j/\∀k,k<n->pt m h k∈ps
theorem Way.mono{m:Nat}{ps qs:List Nat}{h:Int}{j:Nat}(w:Way m ps h j)(s:∀x∈ps,x∈qs):Way m qs h j:=by
 obtain⟨n,e,a⟩:=w
 exact⟨n,e,λk hk=>s _ (a k hk)⟩
def Msk(m:Nat):Prop:=m=7\/m=31\/m=127\/m=511\/m=2047\/m=8191
theorem Msk.pow{m:Nat}(h:Msk m):∃k,m+1=2 ^ k:=by
 rcases h with h|h|h|h|h|h<;>subst h
 ·exact⟨3,by decide⟩
 ·exact⟨5,by decide⟩
 ·exact⟨7,by decide⟩
 ·exact⟨9,by decide⟩
 ·exact⟨11,by decide⟩
 ·exact⟨13,by decide⟩
theorem Msk.le{m:Nat}(h:Msk m):m<=8191:=by
 rcases h with h|h|h|h|h|h<;>subst h<;>decide
theorem Msk.odd{m:Nat}(h:Msk m):m % 2=1:=by
 rcases h with h|h|h|h|h|h<;>subst h<;>decide
structure Inv0(t:SetTable)(es:Array (Int×Value)):Prop where
 msk:Msk t.mask
 dum:t.dummies=#[]
 rise:Rising t.place
 le:∀j∈t.place.toList,j<=t.mask
 size:t.place.size=es.size
 room:t.place.size<=t.mask
 way:∀q∈t.place.toList.zip es.toList,Way t.mask t.place.toList q.2.1 q.1
structure Inv(t:SetTable)(es:Array (Int×Value)):Prop extends Inv0 t es where
 full:t.place.size*5<t.mask*3
theorem Vd(fi mo:Nat)(led:Bool):Inv (SetTable.fresh fi mo led) #[] :=
 ⟨⟨.inl rfl,rfl,List.Pairwise.nil,λj h=>(dW h).elim,rfl,cZ _,λq h=>(dW h).elim⟩,by show 0*5<7*3;decide⟩
theorem Inv0.fill{t:SetTable}{es:Array (Int×Value)}(I:Inv0 t es):t.fill=es.size:=by
 unfold SetTable.fill;rw[I.dum,I.size];rfl
theorem Rg{t:SetTable}(rs:Rising t.place)(hd:t.dummies=#[])(hash:Nat->Int){h:Int}{e:Nat}(hF:Fst t.mask t.place.toList h e) :
  ∀(f n:Nat),n<=e->e-n<f ->
   (probe.go t hash h f (it t.mask h n)=some (.empty (pt t.mask h e) none)/\∀k,n<=k->k<e->hash (below t.place (pt t.mask h k))≠h) \/
   ∃k,n<=k/\k<e/\hash (below t.place (pt t.mask h k))=h/\probe.go t hash h f (it t.mask h n)=some (.candidate (pt t.mask h k) (below t.place (pt t.mask h k)) (it t.mask h (k+1)))/\∀k',n<=k'->k'<k->hash (below t.place (pt t.mask h k'))≠h
 |0,n,h1,h2=>absurd h2 (eQ _)
 |f+1,n,h1,h2=>by
  unfold probe.go
  have hdn:(it t.mask h n).dummy=none:=(TF t.mask h n).d
  rcases dJ n e with q|q
  ·have hm:=hF.2 n q
   have es:t.slot (it t.mask h n).j = .live (below t.place (pt t.mask h n)):=NM rs hm
   rw[es]
   by_cases c:hash (below t.place (pt t.mask h n))=h
   ·refine .inr ⟨n,W' _,q,c,?_,λk' a b=>absurd a (by omega)⟩
    show(if (hash (below t.place (pt t.mask h n))==h)=true then _ else _)=_
    rw[if_pos (by rw[c];exact beq_self_eq_true _)]
    rfl
   ·have e2:(if (hash (below t.place (pt t.mask h n))==h)=true then some (Met.candidate (it t.mask h n).j (below t.place (pt t.mask h n)) (t.advance (it t.mask h n))) else probe.go t hash h f (t.advance (it t.mask h n)))=probe.go t hash h f (it t.mask h (n+1)):=by
     rw[if_neg (by simpa using c)];rfl
    rcases Rg rs hd hash hF f (n+1) q (by omega)with ⟨a,b⟩|⟨k,a,b,c',d,e'⟩
    ·refine .inl ⟨e2.trans a,λk hk hk'=>?_⟩
     rcases dJ n k with z|z
     ·exact b k z hk'
     ·rw[show k=n by omega];exact c
    ·refine .inr ⟨k,by omega,b,c',e2.trans d,λk' hk hk'=>?_⟩
     rcases dJ n k' with z|z
     ·exact e' k' z hk'
     ·rw[show k'=n by omega];exact c
  ·have:n=e:=by omega
   subst this
   have es:t.slot (it t.mask h n).j = .empty:=WG hd hF.1
   rw[es]
   refine .inl ⟨?_,λk a b=>absurd a (by omega)⟩
   show some (Met.empty (it t.mask h n).j (it t.mask h n).dummy)=_
   rw[hdn];rfl
theorem Sn{α β:Type}(xs:Array α)(ys:Array β)(e:xs.size=ys.size)(p:Nat)(x:α)(y:β)(q:α×β)(h:q∈(insertAt xs p x).toList.zip (insertAt ys p y).toList):q=(x,y)\/q∈xs.toList.zip ys.toList:=by
 rw[C4,C4]at h
 have el:(xs.toList.take p).length=(ys.toList.take p).length:=by
  rw[eu,eu];simp[e]
 rw[List.zip_append el,List.zip_cons_cons]at h
 have w:xs.toList.zip ys.toList=(xs.toList.take p).zip (ys.toList.take p)++(xs.toList.drop p).zip (ys.toList.drop p):=by
  rw[<- List.zip_append el,dY,dY]
 rw[w]
 rcases cN.mp h with h|h
 ·exact .inr (cU _ h)
 ·rcases X'.mp h with h|h
  ·exact .inl h
  ·exact .inr (L' _ h)
theorem Zf{t:SetTable}(hd:t.dummies=#[])(j:Nat):t.put j=({ t with place:=insertAt t.place (below t.place j) j },below t.place j):=by
 unfold SetTable.put
 have:has t.dummies j=false:=by rw[hd];simp[SetTable.has]
 simp[this]
theorem YU{t:SetTable}{es:Array (Int×Value)}(I:Inv t es){h:Int}{x:Value}{n:Nat}(hF:Fst t.mask t.place.toList h n) :
  Inv0 { t with place:=insertAt t.place (below t.place (pt t.mask h n)) (pt t.mask h n) } (insertAt es (below t.place (pt t.mask h n)) (h,x)):=by
 have f:=I.full
 refine⟨I.msk,I.dum,OP I.rise hF.1,λj hj=>?_,?_,?_,λq hq=>?_⟩
 ·rcases(IF _ _ _ _).mp hj with e|e
  ·rw[e];exact Y6 _ _ _
  ·exact I.le j e
 ·rw[FG,FG,I.size]
 ·show(insertAt t.place _ _).size<=t.mask
  rw[FG];omega
 ·have sub:∀z∈t.place.toList,z∈(insertAt t.place (below t.place (pt t.mask h n)) (pt t.mask h n)).toList:=λz hz=>(IF _ _ _ _).mpr (.inr hz)
  rcases Sn _ _ I.size _ _ _ q hq with e|e
  ·subst e
   exact⟨n,rfl,λk hk=>sub _ (hF.2 k hk)⟩
  ·exact(I.way q e).mono sub
theorem YN{t:SetTable}{es:Array (Int×Value)}(I:Inv0 t es){h:Int}{e:Nat}(hF:Fst t.mask t.place.toList h e){i:Nat}{x:Value}(hi:es[i]?=some (h,x)):∃k,k<e/\below t.place (pt t.mask h k)=i:=by
 have hs:i<es.size:=(eK.mp hi).1
 have hp:i<t.place.size:=by rw[I.size];exact hs
 have hm:(t.place[i],(h,x))∈t.place.toList.zip es.toList:=by
  refine eO.mpr ⟨i,?_⟩
  rw[fS]
  refine⟨by simp[hp],by rw[eP];exact hi⟩
 obtain⟨n,e1,e2⟩:=I.way _ hm
 have e1:pt t.mask h n=t.place[i]:=e1
 have hj:pt t.mask h n∈t.place.toList:=by rw[e1];simp
 have hne:n<e:=by
  rcases dJ n e with q|q
  ·exact q
  ·rcases dJ e n with q'|q'
   ·exact absurd (e2 e q') hF.1
   ·rw[show n=e by omega]at hj;exact absurd hj hF.1
 refine⟨n,hne,?_⟩
 have b:=L3 I.rise hj
 rw[e1]at b ⊢
 have b1:=(eK.mp b)
 obtain⟨b2,b3⟩:=b1
 rcases fK (below t.place t.place[i]) i with q|q|q
 ·have:=I.rise.lt q hp
  simp[Array.getD,hp,b2]at this
  omega
 ·exact q
 ·have:=I.rise.lt q b2
  simp[Array.getD,hp,b2]at this
  omega
structure Own(m:Nat)(ps:List Nat)(ow:Array (Option Nat)):Prop where
 sz:ow.size=m+1
 nd:ps.Nodup
 le:∀j∈ps,j<=m
 yes:∀(i j:Nat),ps[i]?=some j->ow[j]?=some (some i)
 no:∀(j:Nat),j<=m->j∉ps->ow[j]?=some none
theorem Own.none_iff{m:Nat}{ps:List Nat}{ow:Array (Option Nat)}(O:Own m ps ow){j:Nat}(h:j<=m):(ow.getD j (some 0)).isNone=true↔j∉ps:=by
 by_cases c:j∈ps
 ·obtain⟨i,hi⟩:=eO.mp c
  have:=O.yes i j hi
  rw[dI,this]
  simp[c]
 ·have:=O.no j h c
  rw[dI,this]
  simp[c]
theorem Pj{m:Nat}{ps:List Nat}{ow:Array (Option Nat)}(O:Own m ps ow)(h:Int):∀(f r:Nat),(∀k,k<N m h r->pt m h k∈ps)->(∃r',r<=r'/\r'<r+f/\(R m h r').1∉ps) ->
  ∃n,layClean.free m ow f (R m h r).1 (R m h r).2=some (pt m h n)/\Fst m ps h n
 |0,r,_,⟨r',a,b,_⟩=>absurd b (by omega)
 |f+1,r,hb,⟨r',a,b,c⟩=>by
  unfold layClean.free
  have hR:=bq m h r
  have hl:=@JS m (R m h r).1
  have hu:=PB hR
  cases e:(List.range (runEnd m (R m h r).1+1-(R m h r).1)).find? λk=>(ow.getD ((R m h r).1+k) (some 0)).isNone with
  |some k =>
   obtain⟨e1,e2,e3⟩:=List.find?_range_eq_some.mp e
   have e2:=c7.mp e2
   have hk:k<=runEnd m (R m h r).1-(R m h r).1:=by omega
   refine⟨N m h r+k,?_,?_,λk' hk'=>?_⟩
   ·show some ((R m h r).1+k)=_
    rw[Km hk]
   ·rw[Km hk];exact(O.none_iff (by omega)).mp e1
   ·rcases dJ k' (N m h r)with q|q
    ·exact hb k' q
    ·have e4:=e3 (k'-N m h r) (by omega)
     have hk2:k'-N m h r<=runEnd m (R m h r).1-(R m h r).1:=by omega
     have e5:=Km (h:=h) (r:=r) hk2
     rw[show N m h r+(k'-N m h r)=k' by omega]at e5
     rw[e5]
     refine fU λz=>?_
     have:=(O.none_iff (j:=(R m h r).1+(k'-N m h r)) (by omega)).mpr z
     rw[this]at e4;cases e4
  |none =>
   have e3:=List.find?_eq_none.mp e
   have all:∀k,k<=runEnd m (R m h r).1-(R m h r).1->(R m h r).1+k∈ps:=λk hk=>by
    refine fU λz=>?_
    exact e3 k (c7.mpr (by omega)) ((O.none_iff (j:=(R m h r).1+k) (by omega)).mpr z)
   have hb':∀k,k<N m h (r+1)->pt m h k∈ps:=λk hk=>by
    rcases dJ k (N m h r)with q|q
    ·exact hb k q
    ·have hk:k<N m h r+(runEnd m (R m h r).1-(R m h r).1)+1:=hk
     have e5:=Km (m:=m) (h:=h) (r:=r) (k:=k-N m h r) (by omega)
     rw[show N m h r+(k-N m h r)=k by omega]at e5
     rw[e5]
     exact all _ (by omega)
   have hr':r≠r':=λz=>by subst z;exact c (by simpa using all 0 (cZ _))
   exact Pj O h f (r+1) hb' ⟨r',by omega,by omega,c⟩
theorem X8{m:Nat}{ps:List Nat}{ow:Array (Option Nat)}(O:Own m ps ow){j:Nat}(hj:j<=m)(hn:j∉ps):Own m (ps++[j]) (ow.setIfInBounds j (some ps.length)):=by
 refine⟨by simp[O.sz],?_,?_,?_,?_⟩
 ·refine cg.mpr ⟨O.nd,by simp,λa ha b hb=>?_⟩
  simp at hb
  rw[hb];exact λz=>hn (z▸ha)
 ·intro x hx
  rcases cN.mp hx with hx|hx
  ·exact O.le x hx
  ·simp at hx;rw[hx];exact hj
 ·intro i x hx
  rcases fK i ps.length with q|q|q
  ·rw[cY q]at hx
   have:x≠j:=λz=>hn (z▸cj hx)
   rw[ft (λz=>this z.symm)]
   exact O.yes i x hx
  ·subst q
   rw[cR (W' _)]at hx
   simp at hx
   rw[<- hx,Array.getElem?_setIfInBounds_self_of_lt (by rw[O.sz];omega)]
  ·rw[cR (by omega)]at hx
   have:[j][i-ps.length]?=none:=dR (by simp;omega)
   rw[this]at hx;cases hx
 ·intro x hx hxn
  have h1:x∉ps:=λz=>hxn (cU _ z)
  have h2:x≠j:=λz=>hxn (L' _ (by simp[z]))
  rw[ft (λz=>h2 z.symm)]
  exact O.no x hx h1
theorem X9(m:Nat):Own m [] (Array.replicate (m+1) none) :=
 ⟨by simp,du,λj h=>(dW h).elim,λi j h=>(by cases h),λj h _=>by rw[Array.getElem?_replicate,if_pos (by omega)]⟩
abbrev Mz(m:Nat)(acc:Option (Array (Option Nat)×Nat))(h:Int):Option (Array (Option Nat)×Nat):=do
  let (owner,k) <- acc
  let j <- layClean.free m owner (turns m) (bits h % (m+1)) (bits h)
  pure (owner.setIfInBounds j (some k),k+1)
theorem R6{m kk:Nat}(hm:m+1=2 ^ kk):∀(hs done:List Int) (ps:List Nat) (ow:Array (Option Nat)),Own m ps ow->ps.length=done.length->done.length+hs.length<=m ->
  (∀(i:Nat) h (j:Nat),done[i]?=some h->ps[i]?=some j->Way m ps h j) ->
  ∃ps' ow',hs.foldl (Mz m) (some (ow,ps.length))=some (ow',ps'.length)/\Own m ps' ow'/\ps'.length=done.length+hs.length/\(∀(i:Nat) h (j:Nat),(done++hs)[i]?=some h->ps'[i]?=some j->Way m ps' h j)
 |[],done,ps,ow,O,hl,hb,hw=>⟨ps,ow,rfl,O,hl,by rw[dM];exact hw⟩
 |h::hs,done,ps,ow,O,hl,hb,hw=>by
  simp only[List.length_cons]at hb
  obtain⟨y,hy,hyn⟩:=Y3 (m:=m) (ps:=ps) (by omega)
  obtain⟨r,hr,e⟩:=PF hm h hy
  obtain⟨n,ef,hF⟩:=Pj O h (turns m) 0 (λk hk=>absurd hk (eQ k)) ⟨r,cZ _,by unfold turns;omega,by rw[e];exact hyn⟩
  have ef:layClean.free m ow (turns m) (bits h % (m+1)) (bits h)=some (pt m h n):=ef
  have es:Mz m (some (ow,ps.length)) h=some (ow.setIfInBounds (pt m h n) (some ps.length),(ps++[pt m h n]).length):=by
   show(layClean.free m ow (turns m) (bits h % (m+1)) (bits h)).bind _=_
   rw[ef];simp
  have O':=X8 O (Y6 m h n) hF.1
  obtain ⟨ps', ow', a, b, c, d⟩ := R6 hm hs (done ++ [h]) (ps ++ [pt m h n]) _ O' (by simp [hl]) (by simp; omega) (λi h' j h1 h2 => by
   have sub:∀z∈ps,z∈ps++[pt m h n]:=λz hz=>cU _ hz
   rcases fK i done.length with q|q|q
   ·rw[cY q]at h1
    rw[cY (by omega)]at h2
    exact(hw i h' j h1 h2).mono sub
   ·subst q
    rw[cR (W' _)]at h1
    rw[cR (by omega),hl]at h2
    simp at h1 h2
    subst h1;subst h2
    exact⟨n,rfl,λk hk=>sub _ (hF.2 k hk)⟩
   ·rw[cR (by omega)]at h1
    have:[h][i-done.length]?=none:=dR (by simp;omega)
    rw[this]at h1;cases h1)
  refine⟨ps',ow',?_,b,by rw[c];simp;omega,by rw[dO]at d;exact d⟩
  rw[List.foldl_cons,es];exact a
theorem R7(m:Nat)(hs:Array Int):layClean m hs=(hs.toList.foldl (Mz m) (some (Array.replicate (m+1) none,0))).map (·.1):=by
 unfold layClean
 rw[Array.foldl_toList]
theorem VH{α:Type}(xs:List α):(List.range xs.length).filterMap (λi=>xs[i]?)=xs:=by
 induction xs with
 |nil=>rfl
 |cons x xs ih =>
  rw[cM,fF,eZ]
  simp only[List.getElem?_cons_zero]
  rw[List.filterMap_map]
  exact congrArg (x::·) ih
theorem VY{m kk:Nat}(hm:m+1=2 ^ kk)(hk:Msk m)(fi mo:Nat)(led plain:Bool)(es:Array (Int×Value))(hl:es.size<=m) :
  ∃t' order,laid m fi mo led plain (es.map (·.1))=some (t',order)/\t'.led=led/\t'.mask=m/\t'.plain=plain/\Inv0 t' (order.filterMap (es[·]?))/\(order.filterMap (es[·]?)).toList.Perm es.toList:=by
 obtain⟨ps,ow,a,O,c,d⟩:=R6 hm (es.map (·.1)).toList [] [] _ (X9 m) rfl (by simpa using hl) (λi h j h1=>by cases h1)
 have hc:layClean m (es.map (·.1))=some ow:=by
  rw[R7]
  have a:List.foldl (Mz m) (some (Array.replicate (m+1) none,0)) (es.map (·.1)).toList=some (ow,ps.length):=a
  rw[a];rfl
 have hpl:ps.length=es.size:=by rw[c];simp
 let live:=(List.range (m+1)).filterMap λj=>(ow.getD j none).map (j,·)
 have hlive:∀j i,(j,i)∈live↔ps[i]?=some j:=by
  intro j i
  constructor
  ·intro h
   obtain⟨j',h1,h2⟩:=fW.mp h
   have h1:=c7.mp h1
   obtain⟨i',h3,h4⟩:=oM h2
   obtain⟨rfl,rfl⟩:=Prod.mk.inj h4
   by_cases q:j'∈ps
   ·obtain⟨i2,q2⟩:=eO.mp q
    have:=O.yes i2 j' q2
    rw[dI,this]at h3
    simp at h3
    rw[<- h3];exact q2
   ·have:=O.no j' (by omega) q
    rw[dI,this]at h3
    simp at h3
  ·intro h
   refine fW.mpr ⟨j,c7.mpr (gW (O.le j (cj h))),?_⟩
   rw[dI,O.yes i j h];rfl
 have hr1:(live.map (·.1)).Pairwise (·<·):=by
  rw[fM]
  refine List.pairwise_filterMap.mpr ((List.pairwise_lt_range).imp ?_)
  intro a b hab x hx y hy
  obtain⟨_,_,rfl⟩:=oM hx
  obtain⟨_,_,rfl⟩:=oM hy
  exact hab
 have hnd:(live.map (·.2)).Nodup:=by
  show(live.map (·.2)).Pairwise (·≠·)
  rw[fM]
  have:live.Pairwise (λx y=>x.1<y.1):=fM.mp hr1
  refine(List.Pairwise.and_mem.mp this).imp ?_
  rintro⟨x1,x2⟩ ⟨y1,y2⟩ ⟨hx,hy,hlt⟩ e
  have e:x2=y2:=e
  have hx:=(hlive _ _).mp hx
  have hy:=(hlive _ _).mp hy
  rw[e,hy]at hx
  have:y1=x1:=G' hx
  have hlt:x1<y1:=hlt
  omega
 have hperm:(live.map (·.2)).Perm (List.range es.size):=by
  refine(gL hnd List.nodup_range).mpr λi=>?_
  constructor
  ·intro h
   obtain⟨⟨j,i'⟩,h1,rfl⟩:=cv.mp h
   have:=(hlive _ _).mp h1
   rw[<- hpl]
   exact c7.mpr (K'.mp this).1
  ·intro h
   have h:=c7.mp h
   rw[<- hpl]at h
   exact cv.mpr ⟨(ps[i],i),(hlive _ _).mpr (Y' h),rfl⟩
 have hes:(((live.map (·.2)).toArray).filterMap (es[·]?)).toList=(live.map (·.2)).filterMap (λi=>es.toList[i]?):=by
  simp
 have hp2:(((live.map (·.2)).toArray).filterMap (es[·]?)).toList.Perm es.toList:=by
  rw[hes]
  refine(hperm.filterMap _).trans ?_
  have:=VH es.toList
  rw[show es.toList.length=es.size by simp]at this
  rw[this]
 have hzip:∀(l:List (Nat×Nat)),(∀x∈l,x.2<es.size)->∀q∈(l.map (·.1)).zip ((l.map (·.2)).filterMap (λi=>es.toList[i]?)),∃i,(q.1,i)∈l/\es.toList[i]?=some q.2:=by
  intro l
  induction l with
  |nil=>intro _ q hq;simp at hq
  |cons x l ih =>
   intro hx q hq
   have h1:=hx x J'
   have e:es.toList[x.2]?=some es.toList[x.2]:=Y' (by simpa using h1)
   rw[P',P',eZ,e]at hq
   rcases X'.mp hq with rfl|hq
   ·exact⟨x.2,J',e⟩
   ·obtain⟨i,a1,a2⟩:=ih (λy hy=>hx y (E' _ hy)) q hq
    exact⟨i,E' _ a1,a2⟩
 have hmem:∀j,j∈live.map (·.1)↔j∈ps:=λj=>by
  constructor
  ·intro h
   obtain⟨⟨j',i⟩,h1,rfl⟩:=cv.mp h
   exact cj ((hlive _ _).mp h1)
  ·intro h
   obtain⟨i,hi⟩:=eO.mp h
   exact cv.mpr ⟨(j,i),(hlive _ _).mpr hi,rfl⟩
 have hlen:live.length=es.size:=by
  have:=hperm.length_eq
  simpa using this
 refine⟨{ mask:=m,place:=(live.map (·.1)).toArray,dummies:=#[],finger:=fi,led,moves:=mo,plain },(live.map (·.2)).toArray,?_,rfl,rfl,rfl,⟨hk,rfl,hr1,?_,?_,?_,?_⟩,hp2⟩
 ·unfold laid;rw[hc];rfl
 ·intro j hj;exact O.le j ((hmem j).mp hj)
 ·have:=hp2.length_eq
  simp only[Array.length_toList]at this
  rw[this]
  show(live.map (·.1)).toArray.size=_
  simp[hlen]
 ·show(live.map (·.1)).toArray.size<=m
  simp[hlen,hl]
 ·intro q hq
  rw[hes]at hq
  obtain ⟨i, a1, a2⟩ := hzip live (λx hx => by
   have:=(K'.mp ((hlive x.1 x.2).mp hx)).1
   omega) q hq
  have h1:=(hlive _ _).mp a1
  have w:=d i q.2.1 q.1 (by simp at a2 ⊢;rw[a2];exact⟨_,rfl⟩) h1
  exact w.mono λz hz=>(hmem z).mpr hz
theorem RW{t:SetTable}{es:Array (Int×Value)}(I:Inv0 t es)(hb:es.size<=4914)(hf:t.tooFull=true)(hpre:(es.size-1)*5<t.mask*3) :
  sizeAbove (grown es.size)<=8192/\∃t' order,t.relaid (es.map (·.1)) (grown es.size)=some (t',order)/\t'.led=t.led/\t'.plain=t.plain/\Inv t' (order.filterMap (es[·]?))/\(order.filterMap (es[·]?)).toList.Perm es.toList:=by
 have hfull:es.size*5≥t.mask*3:=by
  unfold SetTable.tooFull at hf
  rw[I.fill]at hf
  exact of_decide_eq_true hf
 have key:∃m',sizeAbove (grown es.size)-1=m'/\Msk m'/\es.size*5<m'*3/\sizeAbove (grown es.size)<=8192:=by
  rcases I.msk with q|q|q|q|q|q<;>rw[q]at hfull hpre
  ·rw[show es.size=5 by omega];exact⟨31,by decide,.inr (.inl rfl),by decide,by decide⟩
  ·rw[show es.size=19 by omega];exact⟨127,by decide,.inr (.inr (.inl rfl)),by decide,by decide⟩
  ·rw[show es.size=77 by omega];exact⟨511,by decide,.inr (.inr (.inr (.inl rfl))),by decide,by decide⟩
  ·rw[show es.size=307 by omega];exact⟨2047,by decide,.inr (.inr (.inr (.inr (.inl rfl)))),by decide,by decide⟩
  ·rw[show es.size=1229 by omega];exact⟨8191,by decide,.inr (.inr (.inr (.inr (.inr rfl)))),by decide,by decide⟩
  ·omega
 obtain⟨m',e,hk,hr,hs⟩:=key
 refine⟨hs,?_⟩
 obtain⟨kk,hm⟩:=hk.pow
 unfold SetTable.relaid
 rw[e]
 obtain⟨t',order,a1,a2,a3,a4,a5,a6⟩:=VY hm hk t.finger (t.movedTo m') t.led t.plain es (by omega)
 refine⟨t',order,a1,a2,a4,⟨a5,?_⟩,a6⟩
 have h1:=a5.size
 have h2:=a6.length_eq
 simp only[Array.length_toList]at h2
 rw[a3];omega
end Stb
end
section
namespace Stb
open PySem PyProof.Rows SetTable
section
variable {prog:Program} {w:World} {A:Around} {E:Value->Shared->Prop} {s:Shared}
abbrev TK(prog:Program)(w:World)(h:Heap)(ks:List Int)(b:Addr):Prop:=IsTupleKey (intKind prog w) h ks b
abbrev hsh(prog:Program)(w:World)(ks:List Int):Int:=tupleKeyHash (intKind prog w) ks
theorem items_int{ks:List Int}{vs:List Value}(h:ItemsAre (intKind prog w) ks vs):∀v∈vs,∃n t,v = .int n t:=by
 induction h with
 |nil=>intro v hv;simp at hv
 |@cons k v' ks vs h1 _ ih =>
  intro v hv
  rcases X'.mp hv with rfl|hv
  ·cases v with
   |int n t=>exact⟨n,t,rfl⟩
   |_=>exact absurd h1 (by simp[intKind,Value.isInt])
  ·exact ih v hv
theorem Rn(d:Nat)(n:Int)(t:Tok):ofAClassStatement d (.int n t)=pure false:=by
 unfold ofAClassStatement;rfl
theorem Ji{ks:List Int}{a:Addr}{Q:Bool->Shared->Prop}(hk:TK prog w s.heap ks a)(h:Q false s):wpAny (model prog w) A (ofAClassStatement 8 (.ref a)) Q E s:=by
 have hT:=hk.typeIs
 obtain⟨o,items,n,ho,hc,hd,hi⟩:=hk
 unfold ofAClassStatement
 refine wpAny_bind (wpAny_typeOf hT ?_)
 dsimp only
 have e:("tuple"=="tuple")=true:=by decide
 rw[if_pos e]
 refine wpAny_bind (wpAny_pure ?_)
 simp only[Bool.not_true,Bool.false_eq_true,if_false]
 refine wpAny_bind (wpAny_seqItems ho hd ?_)
 dsimp only
 refine wpAny_bind ?_
 rw[<- gN]
 refine wpAny_forIn_list _ (λDh r s'=>r.1=none/\s'=s/\∀v∈Dh,∃n t,v=Value.int n t) _ ?_ ?_ _ _ ⟨rfl,rfl,items_int hi⟩
 ·rintro v Dh r s' ⟨hr,rfl,hall⟩
  obtain⟨n,t,rfl⟩:=hall v J'
  rw[Rn]
  refine wpAny_bind (wpAny_pure ?_)
  simp only[Bool.false_eq_true,if_false]
  exact wpAny_pure ⟨rfl,rfl,λu hu'=>hall u (E' _ hu')⟩
 ·rintro⟨r1,r2⟩ s' ⟨hr,rfl,_⟩
  simp only at hr
  subst hr
  exact wpAny_pure h
theorem Sz{ks:List Int}{a:Addr}{ys:List Value}{Q:Bool->Shared->Prop}(hk:TK prog w s.heap ks a)(hy:∀y∈ys,∃b ks',y = .ref b/\TK prog w s.heap ks' b)(h:Q false s):wpAny (model prog w) A (searchCouldBeSeen (.ref a) ys) Q E s:=by
 unfold searchCouldBeSeen
 refine wpAny_bind ?_
 refine wpAny_forIn_list _ (λDh r s'=>r.1=none/\s'=s/\∀y∈Dh,∃b ks',y = .ref b/\TK prog w s.heap ks' b) _ ?_ ?_ _ _ ⟨rfl,rfl,hy⟩
 ·rintro v Dh r s' ⟨hr,rfl,hall⟩
  obtain⟨b,ks',rfl,hb⟩:=hall v J'
  dsimp only
  split
  ·exact wpAny_pure ⟨rfl,rfl,λu hu'=>hall u (E' _ hu')⟩
  ·refine wpAny_bind (wpAny_eqIsQuiet_tuple hk ?_)
   simp only[Bool.not_true,Bool.false_eq_true,if_false]
   refine wpAny_bind (wpAny_eqIsQuiet_tuple hb ?_)
   simp only[Bool.not_true,Bool.false_eq_true,if_false]
   refine wpAny_bind (Ji hk ?_)
   simp only[Bool.false_eq_true,if_false]
   refine wpAny_bind (Ji hb ?_)
   simp only[Bool.false_eq_true,if_false]
   exact wpAny_pure ⟨rfl,rfl,λu hu'=>hall u (E' _ hu')⟩
 ·rintro⟨r1,r2⟩ s' ⟨hr,rfl,_⟩
  simp only at hr
  subst hr
  exact wpAny_pure h
theorem O3{ks:List Int}{a:Addr}{Q:Bool->Shared->Prop}(hk:TK prog w s.heap ks a)(h:Q true s):wpAny (model prog w) A (hashByValue 8 (.ref a)) Q E s:=by
 have hT:=hk.typeIs
 obtain⟨o,items,n,ho,hc,hd,hi⟩:=hk
 unfold hashByValue
 refine wpAny_bind (wpAny_specialOf hT F.slot_tuple_hash.lookup ?_)
 dsimp only
 refine wpAny_bind (wpAny_seqItems ho hd ?_)
 show wpAny _ _ (forIn items _ _ >>= _) _ _ s
 refine wpAny_bind ?_
 rw[<- gN]
 refine wpAny_forIn_list _ (λDh r s'=>r.1=none/\s'=s/\∀v∈Dh,∃n t,v=Value.int n t) _ ?_ ?_ _ _ ⟨rfl,rfl,items_int hi⟩
 ·rintro v Dh r s' ⟨hr,rfl,hall⟩
  obtain⟨n,t,rfl⟩:=hall v J'
  have e:hashByValue 7 (.int n t)=pure true:=by unfold hashByValue;rfl
  rw[e]
  refine wpAny_bind (wpAny_pure ?_)
  simp only[Bool.not_true,Bool.false_eq_true,if_false]
  exact wpAny_pure ⟨rfl,rfl,λu hu'=>hall u (E' _ hu')⟩
 ·rintro⟨r1,r2⟩ s' ⟨hr,rfl,_⟩
  simp only at hr
  subst hr
  exact wpAny_pure h
end
def iv:Value->Int
 |.int n _=>n
 |_=>0
def tk(h:Heap):Value->List Int
 |.ref b=>match h.get? b with
  |some o=>match o.data with
   |.seq items _=>items.toList.map iv
   |_=>[]
  |none=>[]
 |_=>[]
section
variable {prog:Program} {w:World} {A:Around} {E:Value->Shared->Prop} {s:Shared}
theorem Wy{ks:List Int}{vs:List Value}(h:ItemsAre (intKind prog w) ks vs):vs.map iv=ks:=by
 induction h with
 |nil=>rfl
 |@cons k v' ks vs h1 h2 ih =>
  rw[P',ih]
  obtain⟨n,t,rfl⟩:=items_int (.cons h1 h2) v' J'
  have:n=k:=by simpa[intKind,Value.isInt] using h1
  rw[this.symm];rfl
theorem tk_eq{h:Heap}{ks:List Int}{b:Addr}(k:TK prog w h ks b):tk h (.ref b)=ks:=by
 obtain⟨o,items,n,ho,hc,hd,hi⟩:=k
 show (match h.get? b with
  |some o=>match o.data with
   |.seq items _=>items.toList.map iv
   |_=>[]
  |none=>[])=ks
 rw[ho]
 dsimp only
 rw[hd]
 exact Wy hi
structure TSet(prog:Program)(w:World)(B:Addr->Prop)(h:Heap)(t:SetTable)(es:Array (Int×Value))(S:List (List Int)):Prop where
 inv:Inv t es
 ent:∀e∈es.toList,∃b ks,e=(hsh prog w ks,Value.ref b)/\TK prog w h ks b/\B b
 nd:S.Nodup
 perm:(es.toList.map λe=>tk h e.2).Perm S
theorem Inv.fits{t:SetTable}{es:Array (Int×Value)}(I:Inv0 t es):t.fits es.size=true:=by
 unfold SetTable.fits
 rw[I.fill,I.size]
 have:=I.room
 have:=I.size
 simp
 omega
theorem Inv0.even{t:SetTable}{es:Array (Int×Value)}(I:Inv0 t es):t.gaveWay=false:=by
 unfold SetTable.gaveWay
 rw[I.msk.odd];rfl
theorem M7{es:Array (Int×Value)}{i:Nat}{e:Int×Value}(h:es[i]?=some e):((es[i]?.map (·.1)).getD 0)=e.1:=by rw[h];rfl
theorem NO(t:SetTable):t.sameMemory t.moves t.mask=some true:=by unfold SetTable.sameMemory;simp
theorem S5{B:Addr->Prop}{a b:Addr}{o:Obj}{es:Array (Int×Value)}{ep:Nat}{t:SetTable}{ks:List Int}{S:List (List Int)}{Q:SetFound->Shared->Prop}
  (ho:s.heap.get? a=some o) (hd:o.data = .set es ep t) (T:TSet prog w B s.heap t es S) (hk:TK prog w s.heap ks b) (hu:A.units<cLine) {e:Nat}
  (hF:Fst t.mask t.place.toList (hsh prog w ks) e) (he:e<=10*(t.mask+12)) (q1:ks∈S->Q (.there none) s) (q2:ks∉S->Q (.free (pt t.mask (hsh prog w ks) e) false) s) :
  ∀(f n:Nat) (stand:Option Probe),n<=e->e-n<f->stand.getD (t.probeStart (hsh prog w ks))=it t.mask (hsh prog w ks) n ->
   (∀k,k<n->∀x,es[below t.place (pt t.mask (hsh prog w ks) k)]?=some x->x.1=hsh prog w ks->tk s.heap x.2≠ks) ->
   wpAny (model prog w) A (setSearchFrom a (.ref b) (hsh prog w ks) true f stand) Q E s
 |0,n,stand,h1,h2,_,_=>absurd h2 (eQ _)
 |f+1,n,stand,h1,h2,h3,h4=>by
  have I:=T.inv.toInv0
  have hf:=Inv.fits I
  unfold setSearchFrom
  refine wpAny_bind (wpAny_setState_of ho hd hf ?_)
  dsimp only
  rw[I.even,h3]
  simp only[Bool.false_eq_true,if_false]
  have slotEnt:∀k,k<e->∃x,es[below t.place (pt t.mask (hsh prog w ks) k)]?=some x:=λk hk=>by
   have hm:=L3 I.rise (hF.2 k hk)
   have:=(eK.mp hm).1
   rw[I.size]at this
   exact⟨_,dh this⟩
  rcases Rg I.rise I.dum (λi=>((es[i]?.map (·.1)).getD 0)) hF (10*turns t.mask) n h1 (by unfold turns;omega)with ⟨e1,e2⟩|⟨k,k1,k2,k3,k4,k5⟩
  ·have e1:t.probe (λi=>((es[i]?.map (·.1)).getD 0)) (hsh prog w ks) (it t.mask (hsh prog w ks) n)=_:=e1
   show wpAny _ _ (match t.probe (λi=>((es[i]?.map (·.1)).getD 0)) (hsh prog w ks) (it t.mask (hsh prog w ks) n) with|some met=>_|_=>_) _ _ _
   rw[e1]
   refine wpAny_pure (q2 λhS=>?_)
   have hm:=T.perm.mem_iff.mpr hS
   obtain⟨x,hx,ex⟩:=cv.mp hm
   obtain⟨b',ks',rfl,hb',_⟩:=T.ent x hx
   have ek:ks'=ks:=by rw[<- ex];exact(tk_eq hb').symm
   subst ek
   obtain⟨i,hi⟩:=eO.mp hx
   rw[eP]at hi
   obtain⟨k,hke,ei⟩:=YN I hF hi
   rcases dJ k n with q|q
   ·exact h4 k q _ (by rw[ei];exact hi) rfl (tk_eq hb')
   ·exact e2 k q hke (by rw[ei];exact M7 hi)
  ·have k4:t.probe (λi=>((es[i]?.map (·.1)).getD 0)) (hsh prog w ks) (it t.mask (hsh prog w ks) n)=_:=k4
   show wpAny _ _ (match t.probe (λi=>((es[i]?.map (·.1)).getD 0)) (hsh prog w ks) (it t.mask (hsh prog w ks) n) with|some met=>_|_=>_) _ _ _
   rw[k4]
   dsimp only
   obtain⟨x,hx⟩:=slotEnt k k2
   have hxm:x∈es.toList:=by rw[eR];exact Array.mem_of_getElem? hx
   obtain⟨b',ks',rfl,hb',_⟩:=T.ent x hxm
   have hh:hsh prog w ks'=hsh prog w ks:=by have:=M7 hx;rw[<- k3];exact this.symm
   cases hl:t.led with
   |true =>
    simp only[Bool.not_true,Bool.false_eq_true,if_false]
    rw[hx]
    dsimp only
    refine wpAny_bind (wpAny_holding (wpAny_eqBool_tuple hu hb' hk ?_))
    refine wpAny_bind (wpAny_setState_of ho hd hf ?_)
    dsimp only
    by_cases c:ks'=ks
    ·subst c
     rw[decide_eq_true rfl]
     simp only[Bool.and_self,if_true]
     refine wpAny_pure (q1 ?_)
     exact T.perm.mem_iff.mp (cv.mpr ⟨_,hxm,tk_eq hb'⟩)
    ·rw[decide_eq_false c]
     simp only[Bool.and_false,Bool.false_eq_true,if_false]
     rw[NO]
     dsimp only
     simp only[if_true]
     rw[NM I.rise (hF.2 k k2)]
     dsimp only
     rw[hx]
     dsimp only
     refine wpAny_bind (wpAny_isSame_ref_self ?_)
     refine wpAny_bind (wpAny_pure ?_)
     simp only[if_true]
     refine S5 ho hd T hk hu hF he q1 q2 f (k+1) _ k2 (by omega) rfl λk' hk' y hy1 hy2=>?_
     rcases dJ k' n with q|q
     ·exact h4 k' q y hy1 hy2
     ·rcases dJ k' k with q'|q'
      ·exact absurd ((M7 hy1).trans hy2) (k5 k' q q')
      ·have:k'=k:=by omega
       subst this
       rw[hx]at hy1
       obtain rfl:=G' hy1
       rw[show tk s.heap (hsh prog w ks',Value.ref b').2=ks' from tk_eq hb']
       exact c
   |false =>
    simp only[Bool.not_false,if_true]
    refine wpAny_bind (Sz hk ?_ ?_)
    ·intro y hy
     obtain⟨z,hz,rfl⟩:=cv.mp hy
     have hz':z∈es.toList:=by
      have:=(eR).mp hz
      rw[eR]
      exact(Array.mem_filter.mp this).1
     obtain⟨b2,ks2,rfl,h2,_⟩:=T.ent z hz'
     exact⟨b2,ks2,rfl,h2⟩
    ·simp only[Bool.false_eq_true,if_false]
     rw[hx]
     dsimp only
     refine wpAny_bind (wpAny_holding (wpAny_eqBool_tuple hu hb' hk ?_))
     refine wpAny_bind (wpAny_setState_of ho hd hf ?_)
     dsimp only
     by_cases c:ks'=ks
     ·subst c
      rw[decide_eq_true rfl]
      simp only[Bool.and_self,if_true]
      refine wpAny_pure (q1 ?_)
      exact T.perm.mem_iff.mp (cv.mpr ⟨_,hxm,tk_eq hb'⟩)
     ·rw[decide_eq_false c]
      simp only[Bool.and_false,Bool.false_eq_true,if_false]
      rw[NO]
      dsimp only
      simp only[if_true]
      rw[NM I.rise (hF.2 k k2)]
      dsimp only
      rw[hx]
      dsimp only
      refine wpAny_bind (wpAny_isSame_ref_self ?_)
      refine wpAny_bind (wpAny_pure ?_)
      simp only[if_true]
      refine S5 ho hd T hk hu hF he q1 q2 f (k+1) _ k2 (by omega) rfl λk' hk' y hy1 hy2=>?_
      rcases dJ k' n with q|q
      ·exact h4 k' q y hy1 hy2
      ·rcases dJ k' k with q'|q'
       ·exact absurd ((M7 hy1).trans hy2) (k5 k' q q')
       ·have:k'=k:=by omega
        subst this
        rw[hx]at hy1
        obtain rfl:=G' hy1
        rw[show tk s.heap (hsh prog w ks',Value.ref b').2=ks' from tk_eq hb']
        exact c
end
section
variable {prog:Program} {w:World} {A:Around} {E:Value->Shared->Prop} {s:Shared}
def ins(S:List (List Int))(k:List Int):List (List Int):=if k∈S then S else S++[k]
theorem TSet.keep{B:Addr->Prop}{h h':Heap}{t:SetTable}{es:Array (Int×Value)}{S:List (List Int)}(T:TSet prog w B h t es S)(k:∀b ks,TK prog w h ks b->TK prog w h' ks b):TSet prog w B h' t es S:=by
 refine⟨T.inv,λe he=>?_,T.nd,?_⟩
 ·obtain⟨b,ks,e1,e2,e3⟩:=T.ent e he
  exact⟨b,ks,e1,k b ks e2,e3⟩
 ·have:es.toList.map (λe=>tk h' e.2)=es.toList.map (λe=>tk h e.2):=di λe he=>by
   obtain⟨b,ks,rfl,e2,_⟩:=T.ent e he
   rw[tk_eq e2,tk_eq (k b ks e2)]
  rw[this];exact T.perm
theorem LJ:(8192:Nat)<=sizeLine:=by rw[sizeLine_eq];decide
theorem add{B:Addr->Prop}{a b:Addr}{o:Obj}{es:Array (Int×Value)}{ep:Nat}{t:SetTable}{ks:List Int}{S:List (List Int)}{Q:Bool->Shared->Prop}
  {h0:Heap} (ext:∀b ks,TK prog w h0 ks b->TK prog w s.heap ks b) (ho:s.heap.get? a=some o) (hd:o.data = .set es ep t) (T:TSet prog w B h0 t es S) (hk:TK prog w h0 ks b) (hB:B b) (hu:A.units<cLine) (hb:S.length<4914)
  (h:∀r h' es' ep' t',Heap.SameBut a s.heap h'->h'.get? a=some { o with data:=.set es' ep' t' }->TSet prog w B h0 t' es' (ins S ks)->t'.led=t.led->t'.plain=t.plain->Q r { s with heap:=h' }) :
  wpAny (model prog w) A (setAddHashed a (.ref b) (hsh prog w ks)) Q E s:=by
 have I:=T.inv.toInv0
 have hf:=Inv.fits I
 have hsz:es.size=S.length:=by have:=T.perm.length_eq;simpa using this
 unfold setAddHashed setAddHashedIn
 refine wpAny_holding (wpAny_bind (wpAny_setState_of ho hd hf ?_))
 dsimp only
 have hsc:byScan (.ref b) es=false:=by unfold byScan;simp[Value.scannable]
 rw[hsc]
 simp only[Bool.false_eq_true,if_false]
 obtain⟨kk,hm⟩:=I.msk.pow
 obtain⟨e,he,hF⟩:=Z6 hm (ps:=t.place.toList) (by simpa using I.room) (hsh prog w ks)
 have hle:=I.msk.le
 refine wpAny_bind (m:=setSearch a (.ref b) (hsh prog w ks) true) (S5 ho hd (T.keep ext) (ext _ _ hk) hu hF he (λhS=>?_) (λhS=>?_) 100000 0 none (cZ _) (by omega) rfl (λk hk=>absurd hk (eQ k)))
 ·dsimp only
  refine wpAny_pure ?_
  have:=h false s.heap es ep t (gX a s.heap) (by rw[ho,<- hd]) (by unfold ins;rw[if_pos hS];exact T) rfl rfl
  exact this
 ·dsimp only
  refine wpAny_bind (wpAny_setState_of ho hd hf ?_)
  dsimp only
  rw[Zf I.dum]
  dsimp only
  have I1:=YU T.inv (x:=Value.ref b) hF
  generalize hp:below t.place (pt t.mask (hsh prog w ks) e)=p at I1 ⊢
  have hs1:(insertAt es p (hsh prog w ks,Value.ref b)).size=es.size+1:=FG _ _ _
  have step : ∀ t1, ({ t with place := insertAt t.place p (pt t.mask (hsh prog w ks) e) } : SetTable) = t1 -> wpAny (model prog w) A (do
    storeSet a (insertAt es p (hsh prog w ks,Value.ref b)) t1
    if (!false&&t1.tooFull)=true then do
      setRelay a (grown (es.size+1))
      pure true
     else pure true) Q E s:=by
   intro t1 ht
   have I1:=ht▸I1
   have hled:t1.led=t.led:=by rw[<- ht]
   have hpl:t1.plain=t.plain:=by rw[<- ht]
   have hmk:t1.mask=t.mask:=by rw[<- ht]
   have hperm1:((insertAt es p (hsh prog w ks,Value.ref b)).toList.map λe=>tk h0 e.2).Perm (ins S ks):=by
    refine((OS es p (hsh prog w ks,Value.ref b)).map _).trans ?_
    rw[P',show tk h0 (hsh prog w ks,Value.ref b).2=ks from tk_eq hk]
    unfold ins;rw[if_neg hS]
    exact(T.perm.cons ks).trans (gR ks S).symm
   have hent1:∀x∈(insertAt es p (hsh prog w ks,Value.ref b)).toList,∃b' ks',x=(hsh prog w ks',Value.ref b')/\TK prog w h0 ks' b'/\B b':=λx hx=>by
    rcases(IF _ _ _ _).mp hx with rfl|hx
    ·exact⟨b,ks,rfl,hk,hB⟩
    ·exact T.ent x hx
   have hnd1:(ins S ks).Nodup:=by
    unfold ins;rw[if_neg hS]
    exact(gR ks S).nodup_iff.mpr (cP.mpr ⟨hS,T.nd⟩)
   refine wpAny_bind (wpAny_storeSet_of ho hd ?_ (by rw[hs1];have:=LJ;omega))
   have hg:(s.heap.update a (Obj.putSet (insertAt es p (hsh prog w ks,Value.ref b)) t1)).get? a=some { o with data:=.set (insertAt es p (hsh prog w ks,Value.ref b)) (ep+1) t1 }:=by
    have:=dG (Obj.putSet (insertAt es p (hsh prog w ks,Value.ref b)) t1) ho (by rw[putSet_of _ t1 hd];rfl)
    rw[putSet_of _ t1 hd]at this;exact this
   have hsb:=c8 s.heap a (Obj.putSet (insertAt es p (hsh prog w ks,Value.ref b)) t1)
   cases hfull:t1.tooFull with
   |false =>
    simp only[Bool.not_false,Bool.and_false,Bool.false_eq_true,if_false]
    refine wpAny_pure (h true _ _ (ep+1) t1 hsb hg ?_ hled hpl)
    have T1:TSet prog w B h0 t1 (insertAt es p (hsh prog w ks,Value.ref b)) (ins S ks):=by
     refine⟨⟨I1,?_⟩,hent1,hnd1,hperm1⟩
     have hfl:=I1.fill
     unfold SetTable.tooFull at hfull
     rw[hfl]at hfull
     have:=of_decide_eq_false hfull
     rw[I1.size];omega
    exact T1
   |true =>
    simp only[Bool.not_false,Bool.and_self,if_true]
    have hpre:((insertAt es p (hsh prog w ks,Value.ref b)).size-1)*5<t1.mask*3:=by
     rw[hs1,hmk];have:=T.inv.full;rw[I.size]at this;simpa using this
    obtain⟨r0,t2,order,r1,r2,r3,r4,r5⟩:=RW I1 (by rw[hs1];omega) hfull hpre
    unfold setRelay
    refine wpAny_bind (wpAny_bind (wpAny_setState_of hg rfl (Inv.fits I1) ?_))
    dsimp only
    rw[<- hs1]
    rw[if_neg (by have:=LJ;omega)]
    rw[r1]
    have hz2:=r5.length_eq
    simp only[Array.length_toList]at hz2
    refine wpAny_bind ?_
    show wpAny _ _ (if ((order.filterMap ((insertAt es p (hsh prog w ks,Value.ref b))[·]?)).size != (insertAt es p (hsh prog w ks,Value.ref b)).size)=true then _ else _) _ _ _
    rw[if_neg (by rw[hz2];simp)]
    refine wpAny_pure ?_
    dsimp only
    refine wpAny_storeSet_of hg rfl ?_ (by rw[hz2,hs1];have:=LJ;omega)
    refine wpAny_pure ?_
    have hg2:((s.heap.update a (Obj.putSet (insertAt es p (hsh prog w ks,Value.ref b)) t1)).update a (Obj.putSet (order.filterMap ((insertAt es p (hsh prog w ks,Value.ref b))[·]?)) t2)).get? a=some { o with data:=.set (order.filterMap ((insertAt es p (hsh prog w ks,Value.ref b))[·]?)) (ep+1+1) t2 }:=by
     have:=dG (Obj.putSet (order.filterMap ((insertAt es p (hsh prog w ks,Value.ref b))[·]?)) t2) hg (by rw[putSet_of _ t2 rfl];rfl)
     rw[putSet_of _ t2 rfl]at this;exact this
    have hsb2:=hsb.trans (c8 (s.heap.update a (Obj.putSet (insertAt es p (hsh prog w ks,Value.ref b)) t1)) a (Obj.putSet (order.filterMap ((insertAt es p (hsh prog w ks,Value.ref b))[·]?)) t2))
    refine h true _ _ (ep+1+1) t2 hsb2 hg2 ?_ (r2.trans hled) (r3.trans hpl)
    have T2:TSet prog w B h0 t2 (order.filterMap ((insertAt es p (hsh prog w ks,Value.ref b))[·]?)) (ins S ks) :=
     ⟨r4,λx hx=>hent1 x (r5.mem_iff.mp hx),hnd1,(r5.map _).trans hperm1⟩
    exact T2
  cases hpv:t.plain with
  |true =>
   simp only[if_true]
   refine wpAny_bind (O3 (ext _ _ hk) ?_)
   simp only[if_true]
   exact step _ (by rw[hpv])
  |false =>
   simp only[Bool.false_eq_true,if_false]
   refine wpAny_bind (wpAny_pure ?_)
   simp only[if_true]
   exact step _ (by rw[hpv])
end
def dd(val:Nat->List Int):Nat->List (List Int)
 |0=>[]
 |i+1=>ins (dd val i) (val i)
theorem XR(val:Nat->List Int):∀i,(dd val i).length<=i
 |0=>W' _
 |i+1=>by
  have:=XR val i
  show(ins (dd val i) (val i)).length<=_
  unfold ins
  split
  ·omega
  ·rw[cT];simp;omega
section
variable {prog:Program} {w:World} {A:Around} {R:Result->Shared->Prop} {I:Addr} {fp wr:List Addr} {G:Array GenState->Array GenState->Prop} {n:Nat} {P:Nat->Value->Prop} {St:Nat->Shared->Prop}
def U5(prog:Program)(w:World)(B:Addr->Prop)(h0 h:Heap)(S:Addr)(o:Obj)(led:Bool)(X:List (List Int)):Prop:=∃es ep t,h.get? S=some { o with data:=.set es ep t }/\TSet prog w B h0 t es X/\t.led=led/\t.plain=true
theorem TK.at{h0 h:Heap}(k:∀b o,h0.get? b=some o->h.get? b=some o){ks:List Int}{b:Addr}(x:TK prog w h0 ks b):TK prog w h ks b:=by
 obtain⟨o',items,n,ho',hc,hd',hi⟩:=x
 exact⟨o',items,n,k _ _ ho',hc,hd',hi⟩
theorem bJ{B:Addr->Prop}(W:WalksS prog w A.in1 I fp wr G n P St)(S:Addr)(hSf:S∉fp)(h0:Heap)(o:Obj)(led:Bool)(hS0:h0.get? S=none)(hw0:∀b∈wr,h0.get? b=none)
  (val:Nat->List Int) (hval:∀i v,P i v->∃b,v = .ref b/\TK prog w h0 (val i) b/\B b) (hb:n<4914) (hu:A.in1.units<cLine) :
  ∀(k i:Nat) (s:Shared),n-i=k->i<=n->St i s->(∀b o,h0.get? b=some o->s.heap.get? b=some o) ->
   U5 prog w B h0 s.heap S o led (dd val i) ->
   (∀s',Moved (S::wr) G s s'->U5 prog w B h0 s'.heap S o led (dd val n)->R (.ok (.ret .none)) s') ->
   codeAny (model prog w) A (.builtin "set.update.loop" ⟨[.ref S,.ref I],[]⟩) R s:=by
 have hSw:S∉wr:=λh=>hSf (W.sub _ h)
 have hsub:∀b∈wr,b∈S::wr:=λb hb=>E' _ hb
 have notW:∀{b o},h0.get? b=some o->b∉wr:=λe z=>by rw[hw0 _ z]at e;cases e
 have notS:∀{b o},h0.get? b=some o->b≠S:=λe z=>by rw[z,hS0]at e;cases e
 intro k
 induction k with
 |zero =>
  intro i s hk hi hst h0s hS hR
  have hin:i=n:=by omega
  subst hin
  refine codeAny_builtin F.entry_set_update_loop ?_
  rw[eV F.plain_set_update_loop _]
  show wpAny _ A.in1 (pyNext (.ref I) >>= _) _ _ s
  refine wpAny_bind (W.done s _ _ hst λs' hm=>?_)
  show wpAny _ A.in1 (ret Value.none) _ _ s'
  obtain⟨es,ep,t,e1,e2,e3,e4⟩:=hS
  exact wpAny_pure (hR s' (hm.mono hsub) ⟨es,ep,t,hm.heap S _ hSw e1,e2,e3,e4⟩)
 |succ k ih =>
  intro i s hk hi hst h0s hS hR
  have hlt:i<n:=by omega
  refine codeAny_builtin F.entry_set_update_loop ?_
  rw[eV F.plain_set_update_loop _]
  show wpAny _ A.in1 (pyNext (.ref I) >>= _) _ _ s
  refine wpAny_bind (W.item i s _ _ hlt hst λv s' hP hst' hm=>?_)
  obtain⟨b,rfl,hkb,hBb⟩:=hval i v hP
  obtain⟨es,ep,t,e1,e2,e3,e4⟩:=hS
  have e1':=hm.heap S _ hSw e1
  have h0s':∀b o,h0.get? b=some o->s'.heap.get? b=some o:=λb o e=>hm.heap b _ (notW e) (h0s b o e)
  show wpAny _ A.in1 (holding [Value.ref b] (setAdd S (.ref b)) >>= _) _ _ s'
  refine wpAny_bind (wpAny_holding ?_)
  unfold setAdd
  refine wpAny_holding ?_
  refine wpAny_bind (wpAny_pyHash_tuple hu (TK.at h0s' hkb) ?_)
  refine add (s:={ s' with toks:=s'.toks+((val i).length+1) }) (h0:=h0) (λb ks z=>TK.at h0s' z) e1' rfl e2 hkb hBb hu (by have:=XR val i;omega) λr h' es' ep' t' hsb hg T' hl hp=>?_
  have h0h:∀b o,h0.get? b=some o->h'.get? b=some o:=λb o e=>by rw[hsb.2 b (notS e)];exact h0s' b o e
  refine wpAny_pure ⟨plainId_quiet F.plain_set_update_loop _,ih (i+1) _ (by omega) hlt (W.frame _ s' _ _ hst' (Nat.le_add_right _ _) λb hb o e=>?_) h0h ⟨es',ep',t',hg,T',hl.trans e3,hp.trans e4⟩ λs'' hm'' hS''=>?_⟩
  ·rw[hsb.2 b (λh:b=S=>hSf (by rw[<- h];exact hb))];exact e
  ·refine hR s'' (Moved.trans W.gtrans ((hm.mono hsub).then_heap (Nat.le_add_right _ _) λb o hb e=>?_) hm'') hS''
   rw[hsb.2 b (λh:b=S=>hb (by rw[h];exact J'))];exact e
end
section
variable {prog:Program} {w:World} {A:Around} {E:Value->Shared->Prop} {s:Shared}
abbrev led0(w:World):Bool:=!(w.params.followText "set-order")
abbrev setO(led:Bool):Obj:={ cls:=.type "set",dict:=none,data:=.set #[] 0 (.fresh 0 0 led) }
theorem XZ(a:Value){Q₁:Value->Shared->Prop}(h:Q₁ (.ref s.heap.objs.size) { s with heap:=s.heap.push (setO (led0 w)) }) :
  codeAny (model prog w) A (.call (.builtin "set.__new__") ⟨[.type "set",a],[]⟩) (wants Q₁ E) s:=by
 refine codeAny_of_tree ?_
 show wpAny _ A.in1 (do checkBuiltinCall "set.__new__" ⟨[.type "set",a],[]⟩;again (.builtin "set.__new__" ⟨[.type "set",a],[]⟩)) _ _ s
 refine wpAny_bind (wpAny_of_eq (F.newCall_set_1 a) (wpAny_pure ⟨plainId_quiet F.plain_set_new _,codeAny_builtin F.entry_set_new ?_⟩))
 rw[eV F.plain_set_new _]
 unfold Builtin.«set.__new__» Builtin.Frozenset.newClass
 have hsub:=sub_set_self
 obtain⟨hp,g,d,tk,os⟩:=s
 dsimp only
 wp_walk
 refine wpAny_askSetting (wpAny_pure ?_)
 dsimp only
 simp only[newObj]
 refine wpAny_bind (wpAny_alloc (wpAny_pure ?_))
 exact wpAny_pure h
set_option maxHeartbeats 3200000 in
theorem call_set{B:Addr->Prop}{l:Addr}{items:Array Value}{val:Nat->List Int}{Q:Value->Shared->Prop}
  (hh:A.handled=none) (hu:A.units+8<cLine) (hl:s.heap.IsList l items) (hv:∀i v,items[i]?=some v->∃b,v = .ref b/\TK prog w s.heap (val i) b/\B b) (hb:items.size<4914)
  (h : ∀ (h' : Heap) (tk : Nat) (o : Obj), o.cls = .type "set" -> U5 prog w B s.heap h' s.heap.objs.size o (led0 w) (dd val items.size) ->
   (∀b o,s.heap.get? b=some o->h'.get? b=some o)->Q (.ref s.heap.objs.size) { s with heap:=h',toks:=tk }) :
  wpAny (model prog w) A (call (.type "set") [.ref l]) Q E s:=by
 obtain⟨c,tl,hmro⟩:=F.called_set.mro
 have hmade:=F.called_set.made
 have hsub:=F.called_set.sub
 refine wpAny_call (codeAny_of_tree ?_)
 show wpAny _ _ (callAny (.type "set") _) _ _ _
 refine wpAny_pure ⟨Code.quiet_builtin _ (by decide +kernel),codeAny_builtin F.entry_type_call ?_⟩
 rw[Around.under_plain (weight_type_call_type "set" [.ref l] []) rfl]
 have h1:=F.called_set.notType
 have h2:=F.called_set.canCreate
 have hct:=F.typeCall_set_1 (.ref l)
 repeat (any_goals (first|assumption|wp_step))
 refine codeAny_mono (XZ (.ref l) (E:=E) (Q₁:=λobj s₁=>obj = .ref s.heap.objs.size/\s₁={ s with heap:=s.heap.push (setO (led0 w)) }) ⟨rfl,rfl⟩) λr s₁ hr=>?_
 cases r with
 |error e=>exact hr
 |ok fl =>
  cases fl with
  |ret obj =>
   obtain⟨rfl,rfl⟩:=hr
   have hS:(s.heap.push (setO (led0 w))).get? s.heap.objs.size=some (setO (led0 w)):=cX _ rfl
   have hT:Shared.TypeIs { s with heap:=s.heap.push (setO (led0 w)) } (.ref s.heap.objs.size) "set":=⟨_,hS,rfl⟩
   have hli:=F.called_set.init.lookup
   have hbi:=F.called_set.init.bind (.ref s.heap.objs.size)
   repeat (any_goals (first|assumption|wp_step))
   refine codeAny_mono (codeAny_call_builtin (R := wants (λr s₂ => r = .none /\ ∃ h' tk, s₂ = { s with heap := h', toks := tk } /\
     U5 prog w B s.heap h' s.heap.objs.size (setO (led0 w)) (led0 w) (dd val items.size) /\
     (∀b o,s.heap.get? b=some o->h'.get? b=some o)) E) F.called_set.init.plain F.entry_set_init (check_set_init_1 hT ?_)) λr₂ s₂ hr₂=>?_
   ·obtain⟨ol,hol,hcl,nl,hdl⟩:=hl
    obtain⟨ocls,odict,odata,oslots⟩:=ol
    simp only at hcl hdl
    subst hcl;subst hdl
    have hol':(s.heap.push (setO (led0 w))).get? l=some { cls:=.type "list",dict:=odict,data:=.seq items nl,slots:=oslots }:=Z' _ hol
    have hsls:=F.sub_list_set
    have hslf:=F.sub_list_frozenset
    have hne:(Value.type "list"==Value.type "dict")=false:=by decide
    have hl1:(s.heap.push (setO (led0 w))).IsList l items:=⟨_,hol',rfl,nl,rfl⟩
    unfold Builtin.«set.__init__» noKeywords Builtin.Frozenset.updateFrom
    generalize hPI:pyIter=PI
    wp_walk
    subst hPI
    refine wpAny_pyIter_list hl1 ?_
    refine wpAny_bind (wpAny_runValue ?_)
    have hlS:l<s.heap.objs.size:=cS hol
    have hh3:A.in1.in1.in1.handled=none:=by simp[hh]
    have hneI:l≠(s.heap.push (setO (led0 w))).objs.size:=by
     rw[fN];exact cq (eU hlS)
    have hSf:s.heap.objs.size∉[(s.heap.push (setO (led0 w))).objs.size,l]:=by
     rw[fN];simp only[List.mem_cons,List.mem_singleton,List.not_mem_nil,or_false,not_or]
     exact⟨cq (fv _),fD hlS⟩
    have hnone:∀{a:Addr},s.heap.objs.size<=a->s.heap.get? a=none:=λ{a} ha=>by
     cases q:s.heap.get? a with
     |none=>rfl
     |some o'=>exact absurd (cS q) (Nat.not_lt.mpr ha)
    have W:=(Walks.list hh3 _ l hneI items).toS (prog:=prog) (w:=w)
    refine bJ W s.heap.objs.size hSf s.heap (setO (led0 w)) (led0 w) (hnone (W' _)) ?hw val hv hb ?hu (items.size-0) 0 _ (by omega) (cZ _)
     ⟨⟨_,cX _ rfl,rfl,rfl⟩,(hl1.push _)⟩ ?hk ?hS0 ?hR
    case hw =>
     intro b hb
     rw[cW.mp hb,fN]
     exact hnone (gm _)
    case hu=>simp only[Around.in1_units];omega
    case hk=>exact λb o e=>Z' _ (Z' _ e)
    case hS0 =>
     refine⟨#[],0,.fresh 0 0 (led0 w),Z' _ hS,⟨Vd 0 0 (led0 w),λe he=>(dW he).elim,du,List.Perm.nil⟩,rfl,rfl⟩
    case hR =>
     intro s' hm hS'
     obtain⟨h',g',d',tk',os'⟩:=s'
     have eg:g'=s.gens:=hm.gens
     have ed:d'=s.drawn:=hm.drawn
     have eo:os'=s.os:=hm.os
     subst eg;subst ed;subst eo
     show wpAny _ _ _ _ _ _
     refine wpAny_pure ?_
     show wpAny _ _ (ret Value.none) _ _ _
     refine wpAny_pure ⟨rfl,h',tk',rfl,hS',λb o e=>?_⟩
     refine hm.heap b o ?_ (Z' _ (Z' _ e))
     have hb:=cS e
     simp only[List.mem_cons,List.mem_singleton,List.not_mem_nil,or_false,not_or,Heap.size_push]
     exact⟨cq hb,cq (eU hb)⟩
   ·cases r₂ with
    |error e=>exact hr₂
    |ok fl₂ =>
     cases fl₂ with
     |ret r =>
      obtain⟨rfl,h',tk,rfl,hS',hk'⟩:=hr₂
      repeat (any_goals (first|assumption|wp_step))
      exact h _ _ _ rfl hS' hk'
     |_=>exact hr₂.elim
  |_=>exact hr.elim
end
theorem NV:Manifest.owners.lookup (String.ofList ['r','o','t','a','r','e','t','i','_','t','e','s'].reverse)=some Manifest.sig_set_iterator:=by kernel_rfl
theorem slot_seti_next:Slot "set_iterator" "__next__" "set_iterator.__next__" :=
 .of (owner:="set_iterator") (n:="__next__") (by rw[typeLookup_type,builtinLookup_eq_fast];kernel_rfl) (by decide +kernel) (by decide +kernel) (by decide +kernel)
  (by first|exact .inl (by decide +kernel)|exact .inr (by decide +kernel)) (by rw[isSubtype_type];kernel_rfl)
theorem IZ:entryFor table "set_iterator.__next__"=some Builtin.«set_iterator.__next__»:=entryFor_of_tree (by kernel_rfl)
theorem JN(a:Value):argsOk "set_iterator.__next__" ⟨[a],[]⟩:=by
 unfold argsOk;rw[signature?_of (id:="set_iterator.__next__") (n:=['_','_','t','x','e','n','_','_']) (o:=['r','o','t','a','r','e','t','i','_','t','e','s']) (by kernel_rfl) NV];kernel_rfl
theorem Il:Slot "set_iterator" "__iter__" "set_iterator.__iter__" :=
 .of (owner:="set_iterator") (n:="__iter__") (by rw[typeLookup_type,builtinLookup_eq_fast];kernel_rfl) (by decide +kernel) (by decide +kernel) (by decide +kernel)
  (by first|exact .inl (by decide +kernel)|exact .inr (by decide +kernel)) (by rw[isSubtype_type];kernel_rfl)
theorem Mh:entryFor table "set_iterator.__iter__"=some Builtin.«dict_keyiterator.__iter__»:=entryFor_alias (id':="dict_keyiterator.__iter__") (by kernel_rfl) rfl (by decide +kernel) (by kernel_rfl)
theorem OL(a:Value):argsOk "set_iterator.__iter__" ⟨[a],[]⟩:=by
 unfold argsOk;rw[signature?_of (id:="set_iterator.__iter__") (n:=['_','_','r','e','t','i','_','_']) (o:=['r','o','t','a','r','e','t','i','_','t','e','s']) (by kernel_rfl) NV];kernel_rfl
theorem N3:entryFor table "set.__iter__"=some Builtin.«frozenset.__iter__»:=entryFor_alias (id':="frozenset.__iter__") (by kernel_rfl) rfl (by decide +kernel) (by kernel_rfl)
section
variable {prog:Program} {w:World} {A:Around} {E:Value->Shared->Prop} {s:Shared}
abbrev byT(w:World):Bool:=w.params.followText "set-order"
theorem LH{M:Model}{Q:Bool->Shared->Prop}(h:Q (M.w.params.followText "set-order") s):wpAny M A setsByText Q E s:=by
 unfold setsByText
 exact wpAny_bind (wpAny_askSetting (wpAny_pure h))
abbrev itO(sl k n ep:Nat)(S:Addr):Obj:={ cls:=.type "set_iterator",data:=.fields #[.int (sl:Int) 0,.int (k:Int) 0,.ref S,.int (n:Int) 0,.int (ep:Int) 0] }
theorem Wx{S:Addr}{o:Obj}{es:Array (Int×Value)}{ep:Nat}{t:SetTable}{Q:Value->Shared->Prop}(hc:o.cls = .type "set")(hS:s.heap.get? S=some { o with data:=.set es ep t })(I:Inv0 t es)(hp:t.plain=true)
  (h:Q (.ref s.heap.objs.size) { s with heap:=s.heap.push (itO 0 0 es.size ep S) }):wpAny (model prog w) A (pyIter (.ref S)) Q E s:=by
 have hT:s.TypeIs (.ref S) "set":=⟨_,hS,hc⟩
 have hf:=Inv.fits I
 refine wpAny_pyIter_slot hT F.slot_set_iter (wpAny_call_entry F.slot_set_iter hT N3 ?_ (F.args_set_iter_1 _))
 unfold Builtin.«frozenset.__iter__»
 refine wpAny_bind (m:=Builtin.Frozenset.slot0 "__iter__" ⟨[.ref S],[]⟩) (wpAny_pure ?_)
 unfold Builtin.Frozenset.sizeOf setEntries
 refine wpAny_bind (wpAny_bind (wpAny_bind (wpAny_setState_of hS rfl hf (wpAny_pure (wpAny_pure ?_)))))
 unfold setDrawn
 refine wpAny_bind (wpAny_bind (wpAny_setState_of hS rfl hf ?_))
 refine wpAny_bind (LH (wpAny_pure ?_))
 have hdr:(!(model prog w).w.params.followText "set-order"&&(!t.plain&&decide (es.size>1)))=false:=by rw[hp];simp
 show wpAny _ _ (if (!(model prog w).w.params.followText "set-order"&&(!t.plain&&decide (es.size>1)))=true then _ else _) _ _ _
 rw[hdr]
 simp only[Bool.false_eq_true,if_false]
 refine wpAny_bind (wpAny_pure ?_)
 unfold setEpoch
 refine wpAny_bind (wpAny_bind (wpAny_setState_of hS rfl hf (wpAny_pure ?_)))
 refine wpAny_bind (wpAny_newObj_type (wpAny_pure ⟨_,rfl,"set_iterator",_,⟨_,cX _ rfl,rfl⟩,slot_seti_next.lookup,?_⟩))
 exact h
end
theorem Tn{α:Type}{xs:List α}{i:Nat}(h:i<xs.length):(xs[i]::xs.eraseIdx i).Perm xs:=by
 rw[List.eraseIdx_eq_take_drop_succ]
 refine gd.symm.trans ?_
 rw[<- dQ h,dY]
theorem UG{α:Type}(next:Nat->Nat):∀(f k:Nat) (left:List α) (out:Array α),left.length=f->∃l',(pickOrder.go next f k left out).toList=out.toList++l'/\l'.Perm left
 |0,k,left,out,h=>⟨[],by simp[pickOrder.go],by rw[fz h]⟩
 |f+1,k,left,out,h=>by
  unfold pickOrder.go
  have hlt:next k % left.length<left.length:=gK _ (by omega)
  rw[Y' hlt]
  dsimp only
  obtain⟨l',e1,e2⟩:=UG next f (k+1) (left.eraseIdx (next k % left.length)) (out.push left[next k % left.length]) (by rw[List.length_eraseIdx,if_pos hlt];omega)
  refine⟨left[next k % left.length]::l',by rw[e1];simp,?_⟩
  exact(e2.cons _).trans (Tn hlt)
theorem VO{α:Type}(next:Nat->Nat)(xs:Array α):(pickOrder next xs).toList.Perm xs.toList:=by
 obtain⟨l',e1,e2⟩:=UG next xs.size 0 xs.toList #[] (by simp)
 unfold pickOrder
 rw[e1];simpa using e2
section
variable {prog:Program} {w:World} {A:Around} {E:Value->Shared->Prop} {s:Shared}
def eord(w:World)(S:Addr)(ep:Nat)(es:Array (Int×Value)):Array (Int×Value):=if byT w=true then pickOrder (w.params.setOrder S ep) es else es
def slt(w:World)(t:SetTable)(k:Nat):Nat:=if byT w=true then 0 else if k=0 then 0 else t.place.getD (k-1) 0+1
theorem eord_perm(S:Addr)(ep:Nat)(es:Array (Int×Value)):(eord w S ep es).toList.Perm es.toList:=by
 unfold eord;split
 ·exact VO _ _
 ·exact List.Perm.refl _
theorem Lp(S:Addr)(ep:Nat)(es:Array (Int×Value)):(eord w S ep es).size=es.size:=by
 have:=(eord_perm (w:=w) S ep es).length_eq
 simpa using this
theorem V3{t:SetTable}(r:Rising t.place)(hb:byT w=false){k:Nat}(hk:k<=t.place.size):below t.place (slt w t k)=k:=by
 obtain⟨b1,b2,b3⟩:=KS r (slt w t k)
 have e:slt w t k=if k=0 then 0 else t.place.getD (k-1) 0+1:=by unfold slt;rw[hb];simp
 generalize below t.place (slt w t k)=b at *
 rw[e]at b2 b3
 by_cases h0:k=0
 ·subst h0
  rcases gJ b with q|q
  ·exact q
  ·have:=b2 0 q;simp at this
 ·rw[if_neg h0]at b2 b3
  have g1:¬b<=k-1:=λz=>by have:=b3 (k-1) z (by omega);omega
  have g2:¬k<b:=λz=>by
   have:=b2 k z
   have:=r.lt (a:=k-1) (b:=k) (by omega) (by omega)
   omega
  omega
theorem RT{S:Addr}{o:Obj}{es:Array (Int×Value)}{ep:Nat}{t:SetTable}{Q:Option (Value×Nat)->Shared->Prop}(hS:s.heap.get? S=some { o with data:=.set es ep t })(I:Inv0 t es)(hp:t.plain=true)(hl:t.led=led0 w)
  {k:Nat} (hk:k<=es.size) (h:Q ((eord w S ep es)[k]?.map λe=>(e.2,slt w t (k+1))) s):wpAny (model prog w) A (setNext S (slt w t k) k ep) Q E s:=by
 have hf:=Inv.fits I
 unfold setNext
 refine wpAny_bind (wpAny_setState_of hS rfl hf ?_)
 dsimp only
 refine wpAny_bind (LH ?_)
 show wpAny _ _ (if byT w=true then _ else _) _ _ _
 cases hb:byT w with
 |true =>
  simp only[if_true,bne_self_eq_false,Bool.false_eq_true,if_false]
  unfold setWalk
  refine wpAny_bind (wpAny_bind (wpAny_setState_of hS rfl hf ?_))
  dsimp only
  refine wpAny_bind (LH ?_)
  show wpAny _ _ (if byT w=true then _ else _) _ _ _
  rw[hb]
  simp only[if_true]
  refine wpAny_bind (wpAny_askSetting (wpAny_pure (wpAny_pure ?_)))
  have e1:slt w t k=0:=by unfold slt;rw[hb];rfl
  have e2:slt w t (k+1)=0:=by unfold slt;rw[hb];rfl
  have e3:eord w S ep es=pickOrder (w.params.setOrder S ep) es:=by unfold eord;rw[hb];rfl
  rw[e2,e3]at h
  rw[e1]
  exact h
 |false =>
  simp only[Bool.false_eq_true,if_false]
  have hdr:(!t.plain&&decide (es.size>1))=false:=by rw[hp];rfl
  show wpAny _ _ (if (!t.plain&&decide (es.size>1))=true then _ else _) _ _ _
  rw[hdr]
  simp only[Bool.false_eq_true,if_false]
  have hled:(!t.led&&!es.isEmpty)=false:=by rw[hl];simp only[led0];rw[show w.params.followText "set-order"=false from hb];rfl
  refine wpAny_bind (m:=if (!t.led&&!es.isEmpty)=true then unsupported "set:maker-not-led" else pure ()) ?_
  rw[hled]
  simp only[Bool.false_eq_true,if_false]
  refine wpAny_pure ?_
  rw[V3 I.rise hb (by rw[I.size];exact hk)]
  have e3:eord w S ep es=es:=by unfold eord;rw[hb];rfl
  rw[e3]at h
  rcases dJ k es.size with q|q
  ·have q':k<t.place.size:=by rw[I.size];exact q
   rw[dh q]at h ⊢
   rw[dh q']
   have e2:slt w t (k+1)=t.place[k]+1:=by unfold slt;rw[hb];simp[Array.getD,q']
   rw[e2]at h
   exact wpAny_pure h
  ·have q':t.place.size<=k:=by rw[I.size];exact q
   rw[fk q]at h ⊢
   exact wpAny_pure h
end
section
variable {prog:Program} {w:World} {A:Around} {E:Value->Shared->Prop} {s:Shared}
def Yu(w:World)(h:Heap)(J S:Addr)(o:Obj)(es:Array (Int×Value))(ep:Nat)(t:SetTable)(k:Nat):Prop :=
 (∃oj,h.get? J=some oj/\oj.cls = .type "set_iterator"/\oj.data = .fields #[.int (slt w t k:Int) 0,.int (k:Int) 0,.ref S,.int (es.size:Int) 0,.int (ep:Int) 0])/\h.get? S=some { o with data:=.set es ep t }
theorem VU{J S:Addr}{o:Obj}{es:Array (Int×Value)}{ep:Nat}{t:SetTable}{k:Nat}{Q:Option Value->Shared->Prop}(hne:S≠J)(st:Yu w s.heap J S o es ep t k)(I:Inv0 t es)(hp:t.plain=true)(hl:t.led=led0 w)
  (hk:k<es.size) (h:∀e h',(eord w S ep es)[k]?=some e->Yu w h' J S o es ep t (k+1)->Heap.SameBut J s.heap h'->Q (some e.2) { s with heap:=h' }):wpAny (model prog w) A (pyNext (.ref J)) Q E s:=by
 obtain⟨⟨oj,hoj,hc,hd⟩,hS⟩:=st
 have hT:s.TypeIs (.ref J) "set_iterator":=⟨_,hoj,hc⟩
 have hf:=Inv.fits I
 unfold pyNext
 refine wpAny_bind (wpAny_attempt (wpAny_callSpecial?_slot (name := Str.ofString "__next__") hT slot_seti_next
  (wpAny_call_entry slot_seti_next hT IZ ?_ (JN _))))
 unfold Builtin.«set_iterator.__next__»
 refine wpAny_bind (m:=slotArgs "__next__" 0 ⟨[.ref J],[]⟩) (wpAny_pure ?_)
 dsimp only
 refine wpAny_bind (wpAny_fieldsOf hoj hd ?_)
 dsimp only
 unfold setEntries
 refine wpAny_bind (wpAny_bind (wpAny_setState_of hS rfl hf (wpAny_pure ?_)))
 simp only[bne_self_eq_false,Bool.false_eq_true,if_false,Int.toNat_natCast]
 obtain⟨e,he⟩:∃e,(eord w S ep es)[k]?=some e:=⟨_,dh (by rw[Lp];exact hk)⟩
 refine wpAny_bind (RT hS I hp hl (fB hk) ?_)
 rw[he]
 dsimp only[Option.map]
 refine wpAny_bind (wpAny_setField hoj hd (by simp) ?_)
 have ho1:=dG (Obj.mapFields (·.setIfInBounds 0 (rawInt (slt w t (k+1):Int)))) hoj (fu (eM hd _))
 have hd1:=eM hd (·.setIfInBounds 0 (rawInt (slt w t (k+1):Int)))
 refine wpAny_bind (wpAny_setField ho1 hd1 (by simp) ?_)
 have ho2:=dG (Obj.mapFields (·.setIfInBounds 1 (rawInt ((k:Int)+1)))) ho1 (fu (eM hd1 _))
 have hd2:=eM hd1 (·.setIfInBounds 1 (rawInt ((k:Int)+1)))
 have hs1:=c8 s.heap J (Obj.mapFields (·.setIfInBounds 0 (rawInt (slt w t (k+1):Int))))
 have hs2:=hs1.trans (c8 (s.heap.update J (Obj.mapFields (·.setIfInBounds 0 (rawInt (slt w t (k+1):Int))))) J (Obj.mapFields (·.setIfInBounds 1 (rawInt ((k:Int)+1)))))
 refine wpAny_pure ⟨_,rfl,wpAny_pure (h e _ he ⟨⟨_,ho2,?_,?_⟩,?_⟩ hs2)⟩
 ·rw[gY,gY];exact hc
 ·rw[hd2];simp[rawInt]
 ·rw[hs2.2 S hne];exact hS
theorem Wf{J S:Addr}{o:Obj}{es:Array (Int×Value)}{ep:Nat}{t:SetTable}{Q:Option Value->Shared->Prop}(hh:A.handled=none)(st:Yu w s.heap J S o es ep t es.size)(I:Inv0 t es)(hp:t.plain=true)(hl:t.led=led0 w)
  (h:∀h',Heap.ExtBut J s.heap h'->Q none { s with heap:=h' }):wpAny (model prog w) A (pyNext (.ref J)) Q E s:=by
 obtain⟨⟨oj,hoj,hc,hd⟩,hS⟩:=st
 have hT:s.TypeIs (.ref J) "set_iterator":=⟨_,hoj,hc⟩
 have hf:=Inv.fits I
 unfold pyNext
 refine wpAny_bind (wpAny_attempt (wpAny_callSpecial?_slot (name := Str.ofString "__next__") hT slot_seti_next
  (wpAny_call_entry slot_seti_next hT IZ ?_ (JN _))))
 unfold Builtin.«set_iterator.__next__»
 refine wpAny_bind (m:=slotArgs "__next__" 0 ⟨[.ref J],[]⟩) (wpAny_pure ?_)
 dsimp only
 refine wpAny_bind (wpAny_fieldsOf hoj hd ?_)
 dsimp only
 unfold setEntries
 refine wpAny_bind (wpAny_bind (wpAny_setState_of hS rfl hf (wpAny_pure ?_)))
 simp only[bne_self_eq_false,Bool.false_eq_true,if_false,Int.toNat_natCast]
 refine wpAny_bind (RT hS I hp hl (W' _) ?_)
 rw[fk (by rw[Lp];exact W' _)]
 dsimp only[Option.map]
 refine wpAny_bind (wpAny_setField hoj hd (by simp) ?_)
 refine wpAny_bind (m:=newExc (.type "StopIteration") []) ?_
 simp only[newExc,newTuple]
 refine wpAny_bind (wpAny_newObj_type ?_ (by size_fits))
 refine wpAny_bind (m:=firstArgMember _ _) (wpAny_of_eq (a:=Value.none) (by first|rfl|(simp only[firstArgMember];rfl)) ?_)
 refine wpAny_newObj_type ?_ (by size_fits)
 simp only[raiseNew]
 refine wpAny_bind (wpAny_handled ?_)
 rw[show A.in1.handled=none from hh]
 refine wpAny_bind (wpAny_pure (wpAny_throw ?_))
 refine wpAny_bind (wpAny_isInstance (T:="StopIteration") (b:=true) ⟨_,cX _ rfl,rfl⟩ isSubtype_stop ?_)
 exact wpAny_pure (h _ (((c8 ..).extBut.push _).push _))
theorem U6(hh:A.handled=none)(J S:Addr)(hne:S≠J)(o:Obj)(es:Array (Int×Value))(ep:Nat)(t:SetTable)(I:Inv0 t es)(hp:t.plain=true)(hl:t.led=led0 w) :
  Walks prog w A J [J,S] [J] es.size (λi v=>∃e,(eord w S ep es)[i]?=some e/\v=e.2) (λi h=>Yu w h J S o es ep t i) where
 sub:=λb hb=>by simp at hb;simp[hb]
 frame:=λi h h' st hk=>by
  obtain⟨⟨oj,hoj,hc,hd⟩,hS⟩:=st
  exact⟨⟨oj,hk J (by simp) _ hoj,hc,hd⟩,hk S (by simp) _ hS⟩
 item:=λi s Q E hi st hQ=>VU hne st I hp hl hi λe h' he st' hs'=>hQ _ h' s.toks ⟨e,he,rfl⟩ st' λb ob hb eb=>hs'.extBut b ob (λz=>hb (by simp[z])) eb
 done:=λs Q E st hQ=>Wf hh st I hp hl λh' he'=>hQ h' s.toks λb ob hb eb=>he' b ob (λz=>hb (by simp[z])) eb
 self:=λi s Q E st hQ=>by
  obtain⟨⟨oj,hoj,hc,hd⟩,hS⟩:=st
  have hT:s.TypeIs (.ref J) "set_iterator":=⟨_,hoj,hc⟩
  refine wpAny_pyIter_slot hT Il (wpAny_call_entry Il hT Mh ?_ (OL _))
  show wpAny _ _ (ret (.ref J)) _ _ s
  exact wpAny_pure ⟨_,rfl,"set_iterator",_,hT,slot_seti_next.lookup,hQ⟩
end
theorem QF:typeLookup (.type "set") "__len__"=pure (some (.builtin "set.__len__")):=by rw[typeLookup_type,builtinLookup_eq_fast];kernel_rfl
section
variable {prog:Program} {w:World} {A:Around} {E:Value->Shared->Prop} {s:Shared}
abbrev lo0:Obj:={ cls:=.type "list",data:=.seq ([]:List Value).toArray }
set_option maxHeartbeats 2000000 in
theorem collect_set{S:Addr}{o:Obj}{es:Array (Int×Value)}{ep:Nat}{t:SetTable}{Q:List Value->Shared->Prop}(hh:A.handled=none)(hc:o.cls = .type "set")(hS:s.heap.get? S=some { o with data:=.set es ep t })(I:Inv0 t es)(hp:t.plain=true)(hl:t.led=led0 w)(hn:es.size<=sizeLine)
  (h:∀(h':Heap) tk,s.heap.objs.size<h'.objs.size->(∀b ob,s.heap.get? b=some ob->h'.get? b=some ob)->Q ((eord w S ep es).toList.map (·.2)) { s with heap:=h',toks:=tk }):wpAny (model prog w) A (collect (.ref S)) Q E s:=by
 have hSlt:=cS hS
 unfold collect
 refine wpAny_bind (wpAny_runValue (codeAny_builtin F.entry_proto_collect ?_))
 rw[eV F.plain_proto_collect _]
 show wpAny _ A.in1 (newList [] >>= λl=>again (.builtin "list.__iadd__" ⟨[l,.ref S],[]⟩)) _ _ s
 refine wpAny_bind (wpAny_newObj_type ?_)
 refine wpAny_pure ⟨plainId_quiet F.plain_list_iadd _,codeAny_builtin F.entry_list_iadd ?_⟩
 rw[eV F.plain_list_iadd _]
 have hS1:(s.heap.push lo0).get? S=some { o with data:=.set es ep t }:=Z' _ hS
 have hT1:Shared.TypeIs { s with heap:=s.heap.push lo0 } (.ref S) "set":=⟨_,hS1,hc⟩
 show wpAny _ A.in1 (Builtin.List.listExtendWith (.ref s.heap.objs.size) (.ref S) (.ref s.heap.objs.size)) _ _ _
 unfold Builtin.List.listExtendWith
 refine wpAny_bind (wpAny_typeOf hT1 ?_)
 have h1:Builtin.List.listSameRef (.ref s.heap.objs.size) (.ref S)=false:=by simp[Builtin.List.listSameRef];exact fD hSlt
 have h2:(Value.type "set"==Value.type "list")=false:=by decide
 have h3:(Value.type "set"==Value.type "tuple")=false:=by decide
 simp only[h1,h2,h3,Bool.or_false,Bool.false_eq_true,if_false]
 refine wpAny_bind (Wx hc hS1 I hp ?_)
 have hS2:((s.heap.push lo0).push (itO 0 0 es.size ep S)).get? S=some { o with data:=.set es ep t }:=Z' _ hS1
 have hT2:Shared.TypeIs { s with heap:=(s.heap.push lo0).push (itO 0 0 es.size ep S) } (.ref S) "set":=⟨_,hS2,hc⟩
 have hL2:((s.heap.push lo0).push (itO 0 0 es.size ep S)).get? s.heap.objs.size=some lo0:=Z' _ (cX _ rfl)
 have hJ2:((s.heap.push lo0).push (itO 0 0 es.size ep S)).get? (s.heap.push lo0).objs.size=some (itO 0 0 es.size ep S):=cX _ rfl
 have hJn:(s.heap.push lo0).objs.size=s.heap.objs.size+1:=fN ..
 refine wpAny_bind (wpAny_holding ?_)
 unfold Builtin.List.listLengthHint
 refine wpAny_bind (wpAny_specialOf hT2 QF ?_)
 dsimp only
 rw[show splitId "set.__len__"=some ("set","__len__") by decide +kernel]
 dsimp only
 refine wpAny_bind (wpAny_isInstance (b:=true) hT2 sub_set_self ?_)
 simp only[Bool.not_true,Bool.false_eq_true,if_false]
 rw[if_pos (by decide +kernel)]
 refine wpAny_bind (wpAny_typeOf hT2 (wpAny_pure ?_))
 rw[if_pos (by decide +kernel)]
 show wpAny _ A.in1 (rule "list.extend.makes-room" >>= λ_ => Builtin.List.listTouch (.ref s.heap.objs.size) >>= λ_ =>
  again (.builtin "list.extend.loop" ⟨[.ref s.heap.objs.size,.ref (s.heap.push lo0).objs.size,.ref s.heap.objs.size],[]⟩)) _ _ _
 refine wpAny_bind (wpAny_rule ?_)
 refine wpAny_bind ?_
 show wpAny _ A.in1 (updateSeq s.heap.objs.size (·.push .none) >>= λ_=>updateSeq s.heap.objs.size (·.pop)) _ _ _
 refine wpAny_bind (wpAny_updateSeq hL2 rfl ?_)
 have hL3:=dG (Obj.mapSeq (·.push Value.none)) hL2 rfl
 refine wpAny_updateSeq hL3 rfl ?_
 have hL4:=dG (Obj.mapSeq (·.pop)) hL3 rfl
 have oth:∀b ob,b≠s.heap.objs.size->((s.heap.push lo0).push (itO 0 0 es.size ep S)).get? b=some ob ->
   ((((s.heap.push lo0).push (itO 0 0 es.size ep S)).update s.heap.objs.size (Obj.mapSeq (·.push Value.none))).update s.heap.objs.size (Obj.mapSeq (·.pop))).get? b=some ob :=
  λb ob hb e=>(fE _ _ (Ne.symm hb)).trans ((fE _ _ (Ne.symm hb)).trans e)
 have hne:S≠(s.heap.push lo0).objs.size:=by rw[hJn];exact cq (eU hSlt)
 have hJne:(s.heap.push lo0).objs.size≠s.heap.objs.size:=by rw[hJn];exact fD (fv _)
 have hSf:s.heap.objs.size∉[(s.heap.push lo0).objs.size,S]:=by
  simp only[List.mem_cons,List.mem_singleton,List.not_mem_nil,or_false,not_or]
  exact⟨Ne.symm hJne,fD hSlt⟩
 have W:=(U6 (prog:=prog) (w:=w) (A:=A.in1) (by simpa using hh) (s.heap.push lo0).objs.size S hne o es ep t I hp hl).toS
 have z0:slt w t 0=0:=by unfold slt;split<;>rfl
 refine wpAny_pure ⟨plainId_quiet F.plain_extend_loop _, codeAny_extend_loopS W hn _ hSf _ es.size 0 _ _ _ rfl (cZ _)
  ⟨⟨_,oth _ _ hJne hJ2,rfl,by rw[z0]⟩,oth _ _ (cq hSlt) hS2⟩ hL4 (ItemsOf.nil _) λs' acc' c' hm hS' hacc=>?_⟩
 show wpAny _ A (load s.heap.objs.size >>= _) _ _ s'
 refine wpAny_bind (wpAny_load hS' ?_)
 have el:acc'.toList=(eord w S ep es).toList.map (·.2):=by
  refine gZ λi=>?_
  rcases dJ i es.size with q|q
  ·have q1:i<acc'.size:=by rw[hacc.1];exact q
   obtain⟨e,e1,e2⟩:=hacc.2 i acc'[i] (dh q1)
   rw[eP,dh q1,U',eP,e1,e2];rfl
  ·rw[eP,fk (by rw[hacc.1];exact q),dR (by simp[Lp];exact q)]
 show wpAny _ _ (pure acc'.toList) _ _ _
 rw[el]
 obtain⟨h',g',d',tk',os'⟩:=s'
 have eg:g'=s.gens:=hm.gens
 have ed:d'=s.drawn:=hm.drawn
 have eo:os'=s.os:=hm.os
 subst eg;subst ed;subst eo
 refine wpAny_pure (h h' tk' (cS hS') λb ob e=>?_)
 have hb:=cS e
 refine hm.heap b ob ?_ (oth b ob (cq hb) (Z' _ (Z' _ e)))
 rw[hJn]
 simp only[List.mem_cons,List.mem_singleton,List.not_mem_nil,or_false,not_or]
 exact⟨cq hb,cq (eU hb)⟩
end
end Stb
end
section
namespace DL
open PySem L2 PyProof.Rows
variable {K:PySem.W.Frag}
theorem SA{prog:Program}{w:World}:∀{vs:List Value} {ns:List Int},IntsAre vs ns->ItemsAre (intKind prog w) ns vs
 |_,_,.nil=>.nil
 |_,_,.cons _ _ h=>.cons (by simp[intKind,Value.isInt]) (SA h)
theorem Nk{X:Cx}{pins:List (Addr×Obj)}{σ:L2.St}{H:Hp}{s:Shared}(I:Inv X pins σ H s){b:Addr}{k:List Int}(h:SqT X.K H b (k.map V.int)):Stb.TK X.prog X.w s.heap k b:=by
 obtain⟨its,r1,⟨o,e,c,n,q⟩,_⟩:=I.tuple h
 exact⟨o,its.toArray,n,e,c,q,by simpa using SA (Nt r1)⟩
def Rh(w:World)(p:Addr)(bs:List Addr):Heap->Prop:=λh=>∃(o:Obj) (es:Array (Int×Value)) (ep:Nat) (t:SetTable),o.cls = .type "set"/\h.get? p=some { o with data:=.set es ep t }/\Stb.Inv0 t es/\t.plain=true/\t.led=Stb.led0 w/\(es.toList.map (·.2)).Perm (bs.map Value.ref)
def Y4(K:PySem.W.Frag)(w:World):List V->Hp->VK->Prop:=λxs H Q=>∃(a:Addr) (zs:List (Addr×List Int)),xs=[.ref a]/\SqL K H a (zs.map λz=>V.ref z.1)/\(∀z∈zs,SqT K H z.1 (z.2.map V.int))/\zs.length<4914 /\
 ∀(p:Addr) (zs':List (Addr×List Int)),H p=none->(∀z∈zs',z∈zs)->(zs'.map (·.2)).Nodup->(∀k,k∈zs'.map (·.2)↔k∈zs.map (·.2))->Q (.ref p) (upd H p (.ext (Rh w p (zs'.map (·.1)))))
theorem XQ{val:Nat->List Int}{k:List Int}:∀{n:Nat},k∈Stb.dd val n↔∃i,i<n/\val i=k
 |0=>⟨λh=>(dW h).elim,λ⟨i,h,_⟩=>absurd h (eQ i)⟩
 |n+1=>by
  show k∈Stb.ins (Stb.dd val n) (val n)↔_
  have ih:=XQ (val:=val) (k:=k) (n:=n)
  have e:k∈Stb.ins (Stb.dd val n) (val n)↔k∈Stb.dd val n\/k=val n:=by
   unfold Stb.ins
   split
   ·rename_i c
    exact⟨.inl,λz=>z.elim id λq=>q▸c⟩
   ·simp
  rw[e,ih]
  constructor
  ·rintro(⟨i,h1,h2⟩|h)
   ·exact⟨i,by omega,h2⟩
   ·exact⟨n,by omega,h.symm⟩
  ·rintro⟨i,h1,h2⟩
   rcases dJ i n with q|q
   ·exact .inl ⟨i,q,h2⟩
   ·rw[show i=n by omega]at h2;exact .inr h2.symm
theorem UE{h:Heap}{P:Program}{w:World}{zs:List (Addr×List Int)}(hk:∀z∈zs,Stb.TK P w h z.2 z.1):∀{l:List (Int×Value)},(∀e∈l,∃b ks,e=(Stb.hsh P w ks,Value.ref b)/\Stb.TK P w h ks b/\∃z∈zs,z.1=b) ->
  ∃zs':List (Addr×List Int),(∀z∈zs',z∈zs)/\l.map (·.2)=(zs'.map (·.1)).map Value.ref/\zs'.map (·.2)=l.map λe=>Stb.tk h e.2
 |[],_=>⟨[],λz hz=>(dW hz).elim,rfl,rfl⟩
 |e::l,hl=>by
  obtain⟨zs',a1,a2,a3⟩:=UE hk (l:=l) λx hx=>hl x (E' _ hx)
  obtain⟨b,ks,rfl,h2,z,hz,rfl⟩:=hl e J'
  have ek:ks=z.2:=h2.inj (hk z hz)
  subst ek
  refine⟨z::zs',λy hy=>?_,?_,?_⟩
  ·rcases X'.mp hy with rfl|hy
   ·exact hz
   ·exact a1 y hy
  ·rw[P',a2];rfl
  ·rw[P',P',a3,show Stb.tk h (Stb.hsh P w z.2,Value.ref z.1).2=z.2 from Stb.tk_eq h2]
theorem V0{X:Cx}(hc:X.calm=true)(hu:X.A.units+64<cLine):J0 X (.type "set") (Y4 X.K X.w):=by
 intro pins s σ H xs us Q I r h
 obtain⟨a,zs,rfl,hq,ht,hz,q⟩:=h
 obtain⟨u,rfl,ru⟩:=L5 r
 cases ru
 obtain⟨its,rv,pl,_⟩:=I.list hq
 have e:=O4 rv
 subst e
 have hsz:(zs.map λz=>Value.ref z.1).toArray.size=zs.length:=by simp
 refine Stb.call_set (B:=λb=>∃z∈zs,z.1=b) (val:=λi=>(zs.getD i (0,[])).2) (I.ok.hd hc) (by omega) pl.isList (λi v hv=>?_) (by rw[hsz];exact hz) λh' tk o ho hS keep=>?_
 ·have hi:i<zs.length:=by
   have:=(eK.mp hv).1
   rwa [hsz]at this
  have ev:v=Value.ref zs[i].1:=by
   simp[hi]at hv
   exact hv.symm
  refine⟨zs[i].1,ev,?_,zs[i],e9 hi,rfl⟩
  have:=Nk I (ht zs[i] (e9 hi))
  simpa[cO,hi] using this
 ·rw[hsz]at hS
  obtain⟨es,ep,t,e1,e2,e3,e4⟩:=hS
  obtain⟨zs',hz1,hz2,hz3⟩:=UE (λz hz=>Nk I (ht z hz)) e2.ent
  have pm:(zs'.map (·.2)).Perm (Stb.dd (λi=>(zs.getD i (0,[])).2) zs.length):=by rw[hz3];exact e2.perm
  have hp:h'.get? s.heap.objs.size=some { o with data:=.set es ep t }:=e1
  refine⟨.ref s.heap.objs.size,_,I.laid (a:=s.heap.objs.size) (o:=.ext (Rh X.w s.heap.objs.size (zs'.map (·.1)))) (t':=tk) keep (W' _) ?_,rfl,q s.heap.objs.size zs' (I.hok.fresh (W' _)) hz1 (pm.nodup_iff.mpr e2.nd) λk=>?_⟩
  ·refine⟨⟨o,es,ep,t,ho,hp,e2.inv.toInv0,e4,e3,by rw[hz2]⟩,⟨_,hp⟩,λh1 h2 f k=>?_⟩
   obtain⟨o',es',ep',t',f1,f2,f3⟩:=f
   exact⟨o',es',ep',t',f1,k _ f2,f3⟩
  ·rw[pm.mem_iff,XQ]
   constructor
   ·rintro⟨i,hi,rfl⟩
    refine cv.mpr ⟨zs[i],e9 hi,?_⟩
    simp[List.getD_eq_getElem?_getD,hi]
   ·intro hk
    obtain⟨z,hz',rfl⟩:=cv.mp hk
    obtain⟨i,hi,rfl⟩:=fV hz'
    exact⟨i,hi,by simp[List.getD_eq_getElem?_getD,hi]⟩
def WO(K:PySem.W.Frag)(w:World):List V->Hp->VK->Prop:=λxs H Q=>∃(p:Addr) (zs:List (Addr×List Int)) (d:Nat),xs=[.ref p]/\H p=some (.ext (Rh w p (zs.map (·.1))))/\(∀z∈zs,SqT K H z.1 (z.2.map V.int)/\z.2.length=d+1)/\(zs.map (·.2)).Nodup/\zs.length<64 /\
 ∀(q:Addr) (zs':List (Addr×List Int)),H q=none->zs'.Perm zs->(zs'.map (·.2)).Pairwise (λx y=>HT.lexLt x y=true)->Q (.ref q) (upd H q (.lst (zs'.map λz=>V.ref z.1)))
theorem Ko{α β:Type}{f:α->β}:∀{l:List β} {m:List α},l.Perm (m.map f)->∃m':List α,m'.Perm m/\l=m'.map f
 | [], m, h => ⟨[], by
   have:=h.length_eq
   rw[B']at this
   rw[fz this.symm],rfl⟩
 |y::l,m,h=>by
  have hy:y∈m.map f:=h.mem_iff.mp J'
  obtain⟨x,hx,rfl⟩:=cv.mp hy
  obtain⟨s,t,rfl⟩:=List.append_of_mem hx
  have p:(s++x::t).Perm (x::(s++t)):=gd
  have h2:l.Perm ((s++t).map f):=(h.trans (p.map f)).cons_inv
  obtain⟨m',a1,a2⟩:=Ko h2
  exact⟨x::m',(a1.cons x).trans p.symm,by rw[a2];rfl⟩
theorem Tu{X:Cx}(hc:X.calm=true):J0 X (.builtin "sorted") (WO X.K X.w):=by
 intro pins s σ H xs us Q I r h
 obtain⟨p,zs,d,rfl,hp,ht,hn,hz,q⟩:=h
 obtain⟨u,rfl,ru⟩:=L5 r
 cases ru
 obtain⟨⟨o,es,ep,t,ho,hS,iv,hpl,hled,pm⟩,_,_⟩:=(show ObjOk X.prog X.w H s.heap p (.ext (Rh X.w p (zs.map (·.1)))) from I.hok p _ hp)
 have hsz:es.size=zs.length:=by have:=pm.length_eq;simpa using this
 have pm2:((Stb.eord X.w p ep es).toList.map (·.2)).Perm (zs.map λz=>Value.ref z.1):=by
  refine((Stb.eord_perm p ep es).map _).trans (pm.trans ?_)
  rw[cu];exact List.Perm.refl _
 obtain⟨ys,py,ey⟩:=Ko pm2
 have hy64:ys.length<64:=by rw[py.length_eq];exact hz
 refine Calls.call_function_entry kind_sorted plain_sorted entry_sorted (args_sorted1 _) ?_
 unfold Builtin.«sorted»
 refine wpAny_bind (m:=checkCount "sorted" 1 1 _) (wpAny_pure ?_)
 refine wpAny_bind (Stb.collect_set (by simpa using I.ok.hd hc) ho hS iv hpl hled (by rw[hsz,sizeLine_eq];omega) λh1 tk hlt keep=>?_)
 rw[ey]
 refine wpAny_bind (wpAny_newList ?_ (by rw[B',sizeLine_eq];omega))
 generalize hh2:h1.push (seqObj "list" (ys.map λz=>Value.ref z.1).toArray 0)=h2
 have hoL:h2.get? h1.objs.size=some (seqObj "list" (ys.map λz=>Value.ref z.1).toArray 0):=by rw[<- hh2];exact cX _ rfl
 have keep2:∀b ob,s.heap.get? b=some ob->h2.get? b=some ob/\b≠h1.objs.size:=λb ob e=>by
  have e1:=keep b ob e
  refine⟨by rw[<- hh2];exact Z' _ e1,cq (cS e1)⟩
 have tp:Srt.Tp s.heap d (ys.map λz=>Value.ref z.1) (ys.map (·.2)):=Yy I λz hz'=>ht z (py.mem_iff.mp hz')
 have nd:(ys.map (·.2)).Nodup:=((py.map (·.2)).nodup_iff).mpr hn
 show wpAny _ _ _ _ _ { s with heap:=h2,toks:=tk }
 have t2:Srt.Tp (((h2.update h1.objs.size (Obj.mapSeq λ_=>(#[]:Array Value))).push (seqObj "tuple" (ys.map λz=>Value.ref z.1).toArray 0)).push (seqObj "list" #[] 0)) d (ys.map λz=>Value.ref z.1) (ys.map (·.2)) :=
  tp.mono λb ob e=>Srt.keptA (keep2 b ob e).1 (keep2 b ob e).2
 refine wpAny_bind (wpAny_holding (wpAny_call_entry slot_list_sort ⟨_,hoL,rfl⟩ entry_list_sort (Srt.list_sortT (d:=d) (ks:=ys.map (·.2)) (s:={ s with heap:=h2,toks:=tk }) hoL (by rw[B'];exact hy64) nd (by rw[B',B']) t2 λpq hA hU=>⟨_,rfl,?_⟩) (args_list_sort _)))
 refine wpAny_pure ⟨_,rfl,?_⟩
 have hlen:(ys.map λz=>Value.ref z.1).length=ys.length:=by simp
 rw[hlen]at hA hU
 have pmq:pq.toList.Perm (List.range ys.length):=by
  have:=hA.pm.toList
  simpa using this
 have mem:∀i∈pq.toList,i<ys.length:=λi hi=>c7.mp (pmq.mem_iff.mp hi)
 have eo:(pq.toList.map λi=>(ys.map λz=>Value.ref z.1).getD i Value.none)=(pq.toList.map λi=>ys.getD i (0,[])).map λz=>Value.ref z.1:=by
  rw[cu]
  refine di λi hi=>?_
  have:=mem i hi
  simp[List.getD_eq_getElem?_getD,this]
 rw[eo]
 obtain⟨c,hcc⟩:=sortedHeap_at (out:=List.toArray ((pq.toList.map λi=>ys.getD i (0,[])).map λz=>Value.ref z.1)) hoL
 have perm:(pq.toList.map λi=>ys.getD i (0,[])).Perm ys:=by
  have:=pmq.map λi=>ys.getD i (0,[])
  rw[S8]at this
  exact this
 have hl2:=perm.length_eq
 have fresh:s.heap.objs.size<=h1.objs.size:=fB hlt
 refine⟨.ref h1.objs.size,_,I.laid (t':=tk) (o:=.lst ((pq.toList.map λi=>ys.getD i (0,[])).map λz=>V.ref z.1)) (λb ob e=>?_) fresh ?_,rfl,q h1.objs.size (pq.toList.map λi=>ys.getD i (0,[])) (I.hok.fresh fresh) (perm.trans py) ?_⟩
 ·rw[sortedHeap_old (keep2 b ob e).2 (cS (keep2 b ob e).1)];exact(keep2 b ob e).1
 ·exact⟨by rw[B',hl2];exact cm (fB hy64) (by decide),_,c,Kb _,hcc⟩
 ·rw[fT]
  intro i j hi hj hij
  simp only[List.length_map,Array.length_toList]at hi hj
  have sz:=hA.sz
  have:=hU i j hij (by omega)
  unfold Srt.lexr at this
  have g:∀(k:Nat) (hk:k<pq.size),(ys.map (·.2)).getD (pq.getD k 0) []=(ys.getD (pq.toList[k]'(by rw[eH];exact hk)) (0,[])).2:=λk hk=>by
   have e1:pq.getD k 0=pq.toList[k]'(by rw[eH];exact hk):=by simp[Array.getD,hk]
   rw[e1]
   exact Wj (·.2) ys _ (0,[])
  rw[g i hi,g j hj]at this
  simpa using this
variable {K:KW}
def FR:List (List Int)->List (List Int)
 |[]=>[]
 |k::r=>if k∈r then FR r else k::FR r
theorem mem_once{k:List Int}:∀{l:List (List Int)},k∈FR l↔k∈l
 |[]=>fP
 |x::r=>by
  have ih:=mem_once (k:=k) (l:=r)
  unfold FR
  split
  ·rename_i c
   rw[ih]
   exact⟨E' _,λz=>(X'.mp z).elim (λe=>e▸c) id⟩
  ·rw[X',X',ih]
theorem GF:∀(l:List (List Int)),(FR l).Nodup
 |[]=>du
 |x::r=>by
  unfold FR
  split
  ·exact GF r
  ·rename_i c
   exact cP.mpr ⟨λz=>c (mem_once.mp z),GF r⟩
def dSS(f:DX)(τ:DS):Option (PyData×DS):=(f τ).bind λp=>match p.1 with
 |.list xs=>(Nj xs).bind λks=>if ks.length<4000/\(FR ks).length<64/\(∀k∈ks,k.length=((ks.headD [])).length)/\1<=(ks.headD [0]).length then some (.list ((NL (FR ks)).map NG),p.2) else none
 |_=>none
theorem SW{f:DX}{τ t7:DS}{d:PyData}(e:dSS f τ=some (d,t7)):∃xs ks,f τ=some (.list xs,t7)/\Nj xs=some ks/\ks.length<4000/\(FR ks).length<64/\(∀k∈ks,k.length=((ks.headD [])).length)/\1<=(ks.headD [0]).length/\d = .list ((NL (FR ks)).map NG):=by
 unfold dSS at e
 obtain⟨⟨x,t6⟩,e1,e⟩:=oB e
 dsimp only at e
 split at e
 ·rename_i xs
  obtain⟨ks,e2,e⟩:=oB e
  split at e
  ·rename_i hc
   cases e
   exact⟨xs,ks,e1,e2,hc.1,hc.2.1,hc.2.2.1,hc.2.2.2,rfl⟩
  ·cases e
 ·cases e
theorem cG{w:World}{fr:Bool}{te:TE}{f:DX}(h:E K te fr f):E K (tCB (WO K w) (EC (tCB (Y4 K w) (EC te J3)) J3)) true (dSS f):=by
 refine⟨λτ d t7 e=>?_,?_⟩
 ·obtain⟨xs,ks,e1,_⟩:=SW e
  exact h.like _ _ _ e1
 intro S M τ σ H Q d t7 r e q
 obtain⟨xs,ks,e1,e2,l1,l2,l3,l4,rfl⟩:=SW e
 refine h.run S M τ σ H _ _ _ r e1 λv H1 r1 c1 res=>?_
 obtain⟨a,vs,rfl,hv,lv⟩:=r.isr res
 obtain⟨zs,rfl,rfl,hz⟩:=UU lv e2
 rw[B']at l1
 refine⟨a,zs,rfl,SqL.of (hid_iff.mp hv).2,λz hz'=>Same.tup same_hid (hz z hz'),by omega,λp zs' hp hsub hnd hmem=>?_⟩
 have s1:Same H1 (upd H1 p (.ext (Rh w p (zs'.map (·.1))))):=BF hp _
 have pm:(zs'.map (·.2)).Perm (FR (zs.map (·.2))):=(gL hnd (GF _)).mpr λk=>(hmem k).trans mem_once.symm
 have hl:=pm.length_eq
 rw[B']at hl
 refine⟨p,zs',((zs.map (·.2)).headD [0]).length-1,rfl,(by unfold upd;rw[if_pos rfl]),λz hz'=>⟨Same.tup s1 (Same.tup same_hid (hz z (hsub z hz'))),?_⟩,hnd,by omega,λp2 zs2 hp2 pm2 sr=>?_⟩
 ·have:=l3 z.2 (cv.mpr ⟨z,hsub z hz',rfl⟩)
  cases zs with
  |nil=>exact absurd (hsub z hz') (by simp)
  |cons y ys =>
   simp only[List.map_cons,List.headD_cons]at *
   omega
 ·have e3:NL (FR (zs.map (·.2)))=zs2.map (·.2):=Xu (GF _) sr λx=>((pm2.map (·.2)).mem_iff).trans pm.mem_iff
  rw[e3]at q
  have r1':=r1.same s1
  have c1':Chg M H (upd H1 p (.ext (Rh w p (zs'.map (·.1))))):=c1.trans (.of s1)
  have s2:Same (upd H1 p (.ext (Rh w p (zs'.map (·.1))))) (upd (upd H1 p (.ext (Rh w p (zs'.map (·.1))))) p2 (.lst (zs2.map λz=>V.ref z.1))):=BF hp2 _
  refine q _ _ (r1'.same s2) (c1'.trans (.of s2)) ((Kk hp2 (Ua λz hz'=>?_)).back r1' c1')
  exact Same.tup (Same.keep s1).same (hz z (hsub z (pm2.mem_iff.mp hz')))
end DL
end
section
namespace DL
open PySem L2
end DL
end
section
namespace Dwk
open PySem
variable {prog:Program} {w:World} {A:Around} {E:Value->Shared->Prop} {s:Shared}
def At(h:Heap)(d:Addr)(ks:List Value)(ep:Nat):Prop:=∃(o:Obj) (es:Array DictEntry),h.get? d=some o/\o.ExactDict/\o.data = .dict es ep/\es.toList.map (·.key)=ks
theorem At.type{d:Addr}{ks:List Value}{ep:Nat}(x:At s.heap d ks ep):s.TypeIs (.ref d) "dict":=let ⟨o,_,h,c,_⟩:=x;⟨o,h,c.1⟩
theorem sizeOf{es:Array DictEntry}{ks:List Value}(h:es.toList.map (·.key)=ks):es.size=ks.length:=by
 rw[<- h,B',eH]
theorem start{d:Addr}{ks:List Value}{ep:Nat}{Q:Value->Shared->Prop}(hd:(d==sysModules)=false)(x:At s.heap d ks ep)
  (q:Q (.ref s.heap.objs.size) { s with heap:=s.heap.push { cls:=.type "dict_keyiterator",data:=.fields #[.ref d,.int 0 0,.int ks.length 0,.int ep 0] } }):wpAny (model prog w) A (pyIter (.ref d)) Q E s:=by
 have hT:=x.type
 obtain⟨o,es,ho,_,hdat,hk⟩:=x
 have hsz:=sizeOf hk
 refine wpAny_pyIter_slot hT F.slot_dict_iter (wpAny_call_entry F.slot_dict_iter hT F.entry_dict_iter ?_ (F.args_dict_iter_1 _))
 unfold Builtin.«dict.__iter__» Builtin.Dict.dictSlotNone
 refine wpAny_bind (wpAny_bind (wpAny_notOrdered_dict hT ?_))
 refine(wpAny_pure ?_:wpAny _ _ (pure (Value.ref d)) _ _ s)
 show wpAny _ _ (Builtin.Dict.showsAll d >>= _) _ _ s
 unfold Builtin.Dict.showsAll
 rw[if_neg (by rw[hd];exact ck)]
 refine wpAny_bind (wpAny_pure (wpAny_bind (wpAny_dictEntries ho hdat (wpAny_bind (wpAny_dictEpoch ho hdat ?_)))))
 refine wpAny_bind (wpAny_newObj_type (wpAny_pure ⟨_,rfl,"dict_keyiterator",_,⟨_,cX _ rfl,rfl⟩,F.slot_dict_keyiterator_next.lookup,?_⟩))
 simpa[rawInt,hsz] using q
theorem step{J d:Addr}{i ep:Nat}{ks:List Value}{k:Value}{Q:Option Value->Shared->Prop}(hit:s.heap.IsKeyIter J d i ks.length ep)(x:At s.heap d ks ep)(hx:ks[i]?=some k)
  (q:∀h',h'.IsKeyIter J d (i+1) ks.length ep->Heap.SameBut J s.heap h'->Q (some k) { s with heap:=h' }):wpAny (model prog w) A (pyNext (.ref J)) Q E s:=by
 obtain⟨o,ho,hc,hd⟩:=id hit
 obtain⟨od,es,hod,_,hdd,hk⟩:=x
 have hsz:=sizeOf hk
 have hlt:i<es.size:=by rw[hsz];exact(K'.mp hx).1
 have hkey:es[i].key=k:=by
  have:(es.toList.map (·.key))[i]?=some k:=by rw[hk];exact hx
  simpa[hlt] using this
 unfold pyNext
 refine wpAny_bind (wpAny_attempt (wpAny_callSpecial?_slot (name := Str.ofString "__next__") hit.typeIs eG
  (wpAny_call_entry eG hit.typeIs gA ?_ (fy _))))
 refine wpAny_bind (wpAny_pure (wpAny_bind (wpAny_bind ?_)))
 first|refine wpAny_bind (wpAny_typeNameOfWhole_keyiter hit.typeIs (wpAny_pure ?_))|refine wpAny_bind (wpAny_typeNameOf_keyiter hit.typeIs (wpAny_pure ?_))
 refine wpAny_bind (wpAny_fieldsOf ho hd ?_)
 simp only[show Builtin.Dict_items.ownsTuple "dict_keyiterator"=false by decide,Bool.false_eq_true,if_false]
 show wpAny _ _ (if (Value.ref d==Value.none)=true then _ else _) _ _ s
 rw[if_neg (show ¬((Value.ref d==Value.none)=true) from ck)]
 refine wpAny_bind (wpAny_pure (wpAny_bind (wpAny_dictEntries hod hdd ?_)))
 rw[if_neg (by rw[hsz];simp)]
 refine wpAny_bind (wpAny_pure (wpAny_bind (wpAny_dictEpoch hod hdd ?_)))
 rw[if_neg (by simp)]
 refine wpAny_pure ?_
 simp only[show ¬((i:Int)<0) from by omega,if_false,Int.toNat_natCast,Array.getElem?_eq_getElem hlt]
 refine wpAny_bind ?_
 first|refine wpAny_bind (wpAny_typeNameOfWhole_keyiter hit.typeIs (wpAny_pure ?_))|refine wpAny_bind (wpAny_typeNameOf_keyiter hit.typeIs (wpAny_pure ?_))
 refine wpAny_bind (wpAny_isOneOf_keyiter hit.typeIs ?_)
 show wpAny _ _ (setField (.ref J) 1 (rawInt ((i:Int)+1)) >>= _) _ _ s
 refine wpAny_bind (wpAny_setField ho hd (by simp) ?_)
 have hit':(s.heap.update J (Obj.mapFields (·.setIfInBounds 1 (rawInt ((i:Int)+1))))).IsKeyIter J d (i+1) ks.length ep :=
  ⟨_,dG _ ho (fu (eM hd _)),(gY ..).trans hc,by rw[eM hd];simp[rawInt]⟩
 refine wpAny_bind (wpAny_holding (wpAny_bind (wpAny_isOneOf_keyiter (s:={ s with heap:=s.heap.update J (Obj.mapFields (·.setIfInBounds 1 (rawInt ((i:Int)+1)))) }) hit'.typeIs ?_)))
 show wpAny _ _ (pure es[i].key) _ _ _
 rw[hkey]
 exact wpAny_pure (wpAny_pure ⟨_,rfl,wpAny_pure (q _ hit' (c8 ..))⟩)
theorem last{J d:Addr}{ep:Nat}{ks:List Value}{Q:Option Value->Shared->Prop}(hh:A.handled=none)(hit:s.heap.IsKeyIter J d ks.length ks.length ep)(x:At s.heap d ks ep)
  (q:∀h',Heap.ExtBut J s.heap h'->Q none { s with heap:=h' }):wpAny (model prog w) A (pyNext (.ref J)) Q E s:=by
 obtain⟨o,ho,hc,hd⟩:=id hit
 obtain⟨od,es,hod,_,hdd,hk⟩:=x
 have hsz:=sizeOf hk
 unfold pyNext
 refine wpAny_bind (wpAny_attempt (wpAny_callSpecial?_slot (name := Str.ofString "__next__") hit.typeIs eG
  (wpAny_call_entry eG hit.typeIs gA ?_ (fy _))))
 refine wpAny_bind (wpAny_pure (wpAny_bind (wpAny_bind ?_)))
 first|refine wpAny_bind (wpAny_typeNameOfWhole_keyiter hit.typeIs (wpAny_pure ?_))|refine wpAny_bind (wpAny_typeNameOf_keyiter hit.typeIs (wpAny_pure ?_))
 refine wpAny_bind (wpAny_fieldsOf ho hd ?_)
 simp only[show Builtin.Dict_items.ownsTuple "dict_keyiterator"=false by decide,Bool.false_eq_true,if_false]
 show wpAny _ _ (if (Value.ref d==Value.none)=true then _ else _) _ _ s
 rw[if_neg (show ¬((Value.ref d==Value.none)=true) from ck)]
 refine wpAny_bind (wpAny_pure (wpAny_bind (wpAny_dictEntries hod hdd ?_)))
 rw[if_neg (by rw[hsz];simp)]
 refine wpAny_bind (wpAny_pure (wpAny_bind (wpAny_dictEpoch hod hdd ?_)))
 rw[if_neg (by simp)]
 refine wpAny_pure ?_
 simp only[show ¬((ks.length:Int)<0) from by omega,if_false,Int.toNat_natCast,Array.getElem?_eq_none (Nat.le_of_eq hsz)]
 refine wpAny_bind ?_
 first|refine wpAny_bind (wpAny_typeNameOfWhole_keyiter hit.typeIs (wpAny_pure ?_))|refine wpAny_bind (wpAny_typeNameOf_keyiter hit.typeIs (wpAny_pure ?_))
 show wpAny _ _ (setField (.ref J) 0 .none >>= _) _ _ s
 refine wpAny_bind (wpAny_setField ho hd (by simp) ?_)
 show wpAny _ _ (newExc (.type "StopIteration") [] >>= _) _ _ _
 refine wpAny_bind ?_
 simp only[newExc,newTuple]
 refine wpAny_bind (wpAny_newObj_type ?_ (by size_fits))
 refine wpAny_bind (m:=firstArgMember _ _) (wpAny_of_eq (a:=Value.none) (by first|rfl|(simp only[firstArgMember];rfl)) ?_)
 refine wpAny_newObj_type ?_ (by size_fits)
 simp only[raiseNew]
 refine wpAny_bind (wpAny_handled ?_)
 rw[show A.in1.handled=none from hh]
 refine wpAny_bind (wpAny_pure (wpAny_throw ?_))
 refine wpAny_bind (wpAny_isInstance (T:="StopIteration") (b:=true) ⟨_,cX _ rfl,rfl⟩ isSubtype_stop ?_)
 exact wpAny_pure (q _ (((c8 ..).extBut.push _).push _))
end Dwk
end
section
namespace DL
open PySem L2 PyProof.Rows
variable {K:PySem.W.Frag}
abbrev TsV:=List (List Int×Addr×V)
abbrev Rt:List Int×Addr×V->List Int×Addr×Value->Prop:=λt x=>t.1=x.1/\t.2.1=x.2.1/\RelV t.2.2 x.2.2
def Th:TsV->List Int->Option V
 |[],_=>none
 |t::r,k=>if t.1=k then some t.2.2 else Th r k
def Ja:TsV->List Int->Addr->V->TsV
 |[],k,b,v=>[(k,b,v)]
 |t::r,k,b,v=>if t.1=k then (t.1,t.2.1,v)::r else t::Ja r k b v
def Sk(K:PySem.W.Frag)(H:Hp)(ts:TsV):Prop:=∀t∈ts,SqT K H t.2.1 (t.1.map V.int)
theorem SK{k:List Int}:∀{ts:TsV} {xs:List (List Int×Addr×Value)},Paired Rt ts xs->(match Th ts k with
  |some v=>∃p,atKey xs k=some p/\RelV v p.2
  |none=>atKey xs k=none)
 |_,_,.nil=>rfl
 |_,_,.cons (a:=t) (b:=x) (l₁:=ts) (l₂:=xs) h r=>by
  obtain⟨h1,h2,h3⟩:=h
  have ih:=SK (k:=k) r
  unfold Th
  by_cases e:t.1=k
  ·rw[if_pos e]
   exact⟨x.2,by simp[atKey,List.find?_cons,h1▸e],h3⟩
  ·rw[if_neg e]
   have:atKey (x::xs) k=atKey xs k:=by simp[atKey,List.find?_cons,h1▸e]
   rw[this];exact ih
theorem WS{k:List Int}{u:Value}:∀{xs:List (List Int×Addr×Value)},k∉xs.map (·.1)->xs.map (putAt k u)=xs
 |[],_=>rfl
 |x::xs,h=>by
  rw[P',X',not_or]at h
  rw[P',WS h.2]
  unfold putAt
  rw[if_neg (Ne.symm h.1)]
theorem E6:∀{ts:TsV} {xs:List (List Int×Addr×Value)},Paired Rt ts xs->ts.map (·.1)=xs.map (·.1)
 |_,_,.nil=>rfl
 |_,_,.cons h r=>by rw[P',P',h.1,E6 r]
theorem QK{k:List Int}{b:Addr}{v:V}{u:Value}(hv:RelV v u):∀{ts:TsV} {xs:List (List Int×Addr×Value)},Paired Rt ts xs->(ts.map (·.1)).Nodup->Paired Rt (Ja ts k b v) (storedH xs k b u)
 |_,_,.nil,_=>.cons ⟨rfl,rfl,hv⟩ .nil
 |_,_,.cons (a:=t) (b:=x) (l₁:=ts) (l₂:=xs) h r,hn=>by
  obtain⟨h1,h2,h3⟩:=h
  rw[P',cP]at hn
  have ih:=QK (k:=k) (b:=b) hv r hn.2
  unfold Ja
  by_cases e:t.1=k
  ·rw[if_pos e]
   have ex:x.1=k:=h1▸e
   have a:atKey (x::xs) k=some x.2:=by simp[atKey,List.find?_cons,ex]
   rw[storedH_old a,P',WS (by rw[<- E6 r,<- e];exact hn.1)]
   refine .cons ?_ r
   unfold putAt
   rw[if_pos ex]
   exact⟨h1,h2,hv⟩
  ·rw[if_neg e]
   have ex:¬x.1=k:=h1▸e
   have a:atKey (x::xs) k=atKey xs k:=by simp[atKey,List.find?_cons,ex]
   cases q:atKey xs k with
   |none =>
    rw[storedH_new (a.trans q)]
    rw[storedH_new q]at ih
    exact .cons ⟨h1,h2,h3⟩ ih
   |some p =>
    rw[storedH_old (a.trans q),P']
    rw[storedH_old q]at ih
    refine .cons ?_ ih
    unfold putAt
    rw[if_neg ex]
    exact⟨h1,h2,h3⟩
theorem Ra(ts:TsV)(k:List Int)(b:Addr)(v:V):(Ja ts k b v).length<=ts.length+1:=by
 induction ts with
 |nil=>exact W' _
 |cons t r ih =>
  unfold Ja
  split
  ·simp
  ·simp only[List.length_cons];omega
theorem VJ(ts:TsV)(k:List Int)(b:Addr)(v:V):(Ja ts k b v).map (·.1)=if k∈ts.map (·.1) then ts.map (·.1) else ts.map (·.1)++[k]:=by
 induction ts with
 |nil=>rfl
 |cons t r ih =>
  unfold Ja
  by_cases e:t.1=k
  ·rw[if_pos e,if_pos (by simp[e])];rfl
  ·rw[if_neg e,P',ih,P']
   by_cases m:k∈r.map (·.1)
   ·rw[if_pos m,if_pos (E' _ m)]
   ·rw[if_neg m,if_neg (λz=>(X'.mp z).elim (λq=>e q.symm) m)];rfl
theorem NR{ts:TsV}{k:List Int}{b:Addr}{v:V}(h:(ts.map (·.1)).Nodup):((Ja ts k b v).map (·.1)).Nodup:=by
 rw[VJ]
 split
 ·exact h
 ·rename_i m
  refine cg.mpr ⟨h,cP.mpr ⟨by simp,du⟩,λa ha c hc=>?_⟩
  rw[cW]at hc
  exact λz=>m (by rw[<- hc,<- z];exact ha)
section
variable {X:Cx} {pins:List (Addr×Obj)} {σ:L2.St} {H:Hp} {s:Shared}
theorem RN(I:Inv X pins σ H s){a:Addr}{ts:TsV}(h:HD H a ts)(hk:Sk X.K H ts):(a==sysModules)=false/\ts.length<=sizeLine/\(ts.map (·.1)).Nodup/\∃xs,Paired Rt ts xs/\s.heap.DictOfH (tupleKind (intKind X.prog X.w)) a xs:=by
 obtain⟨ep,h⟩:=h
 obtain⟨⟨h1,h2,h3,xs,pr,o,es,ho,he,hd,hes⟩,_,_⟩:=(show ObjOk X.prog X.w H s.heap a (.ext (Fl a ts ep)) from I.hok a _ h)
 refine⟨h1,h2,h3,xs,pr,o,es,ep,ho,he,hd,hes,?_,by rw[<- E6 pr];exact h3⟩
 have all:∀{ts:TsV} {xs:List (List Int×Addr×Value)},Paired Rt ts xs->Sk X.K H ts->∀x∈xs,(tupleKind (intKind X.prog X.w)).is s.heap x.1 x.2.1:=by
  intro ts xs q
  induction q with
  |nil=>intro _ x hx;exact nomatch hx
  |@cons t x ts xs hq _ ih =>
   intro hk y hy
   rcases X'.mp hy with e|hy
   ·subst e
    have:=Nk I (hk t J')
    rw[hq.1,hq.2.1]at this
    exact this
   ·exact ih (λt ht=>hk t (E' _ ht)) y hy
 exact all pr hk
theorem Xq(I:Inv X pins σ H s){a:Addr}{ts:TsV}(h:HD H a ts):s.TypeIs (.ref a) "dict"/\∀b,Value.ref a = .ref b->∃ob,s.heap.get? b=some ob/\ob.dict=none:=by
 obtain⟨ep,h⟩:=h
 obtain⟨⟨h1,h2,h3,xs,pr,o,es,ho,he,hd,hes⟩,_,_⟩:=(show ObjOk X.prog X.w H s.heap a (.ext (Fl a ts ep)) from I.hok a _ h)
 exact⟨⟨o,ho,he.1⟩,λb e=>by cases e;exact⟨o,ho,he.2.1⟩⟩
end
def ax(K:PySem.W.Frag):R2:=λx y H Q=>∃a b ts k v,x = .ref a/\y = .ref b/\HD H a ts/\Sk K H ts/\SqT K H b (k.map V.int)/\Th ts k=some v/\Q v H
theorem M0{X:Cx}(hu:X.A.units+64<cLine):IxR X (ax X.K):=by
 intro value slice pins s σ H x y v u Q I rx ry h hs
 obtain⟨a,b,ts,k,z,rfl,rfl,hq,hk,hb,e,q⟩:=h
 cases rx;cases ry
 obtain⟨h1,h2,h3,xs,pr,dd⟩:=RN I hq hk
 have g:=SK (k:=k) pr
 rw[e]at g
 obtain⟨p,hp,rp⟩:=g
 exact tail_any dd.typeIs PySem.F.slot_dict_getitem.lookup (wpAny_getItem_heap (tupleKind_room_in1 (by omega)) (Nk I hb) dd hp ⟨z,H,I.tok _,rp,q⟩) hs
theorem JO:∀{ts:TsV} {xs:List (List Int×Addr×Value)},Paired Rt ts xs->(xs.map λx=>Value.ref x.2.1)=ts.map λt=>Value.ref t.2.1
 |_,_,.nil=>rfl
 |_,_,.cons h r=>by rw[P',P',JO r,h.2.1]
def Y5(K:PySem.W.Frag):V->V->V->Hp->(Hp->Prop)->Prop:=λo i v H Q=>∃a b ts k,o = .ref a/\i = .ref b/\HD H a ts/\Sk K H ts/\SqT K H b (k.map V.int)/\ts.length<sizeLine/\∀ep,Q (upd H a (.ext (Fl a (Ja ts k b v) ep)))
theorem NN{X:Cx}(hu:X.A.units+64<cLine):aU X (Y5 X.K):=by
 intro pins s σ H o i v ov iv u Q I ro ri rv h
 obtain⟨a,b,ts,k,rfl,rfl,hq,hk,hb,hl,q⟩:=h
 cases ro;cases ri
 obtain⟨h1,h2,h3,xs,pr,dd⟩:=RN I hq hk
 have hz:xs.length<=sizeLine:=by have:=congrArg List.length (E6 pr);simp at this;omega
 refine wpAny_setItem_heap (hsz:=hz) (tupleKind_room_in1 (by omega)) (Nk I hb) dd λh' dd' hs=>?_
 obtain⟨o',es,ep,hq',g2,g3,g4,_,g5⟩:=dd'
 refine⟨_,?_,q ep⟩
 obtain⟨ep0,hq⟩:=hq
 refine I.write (x:=a) (e:=a) (by rw[hq];exact True.intro) (.inl rfl) (λc z hc e=>(hs.2 c hc).trans e) ⟨o',hq'⟩ ?_
 have hp:=QK (k:=k) (b:=b) rv pr h3
 have hl2:=Ra ts k b v
 refine⟨⟨h1,by omega,NR h3,_,hp,o',es,hq',g2,g3,g4⟩,⟨o',hq'⟩,λm1 m2 f kk=>?_⟩
 obtain⟨f1,f2,f3,xs',f4,o',es',f5,f6⟩:=f
 exact⟨f1,f2,f3,xs',f4,o',es',kk _ f5,f6⟩
def Y1:TE:=λ_ H Q=>∀p,H p=none->Q (.ref p) (upd H p (.ext (Fl p [] 0)))
theorem QQ{X:Cx}{pos:Pos}:PE X (.Dict [] [] pos) Y1:=λpins s σ H Q I h=>by
 have hb:sysModules<s.heap.objs.size:=fQ (by decide) (show mainGlobals<s.heap.objs.size from(I.mod.glob.keeps I.bk).lt)
 have e:(s.heap.push { cls:=.type "dict",data:=.dict #[] }).get? s.heap.objs.size=some { cls:=.type "dict",data:=.dict #[] }:=cX _ rfl
 refine wpAny_Dict_empty ⟨.ref s.heap.objs.size,_,I.laid (a:=s.heap.objs.size) (o:=.ext (Fl s.heap.objs.size [] 0)) (t':=s.toks) (λ_ _ q=>Z' _ q) (W' _) ?_,rfl,h _ (I.hok.fresh (W' _))⟩
 refine⟨⟨beq_eq_false_iff_ne.mpr (Ne.symm (cq hb)),cZ _,du,[],.nil,_,#[],e,⟨rfl,rfl,rfl⟩,rfl,rfl⟩,⟨_,e⟩,λm1 m2 f kk=>?_⟩
 obtain⟨f1,f2,f3,xs',f4,o',es',f5,f6⟩:=f
 exact⟨f1,f2,f3,xs',f4,o',es',kk _ f5,f6⟩
variable {K:KW}
def Ti:List (List Int×PyData)->List Int->Option PyData
 |[],_=>none
 |t::r,k=>if t.1=k then some t.2 else Ti r k
def LL:List (List Int×PyData)->List Int->PyData->List (List Int×PyData)
 |[],k,d=>[(k,d)]
 |t::r,k,d=>if t.1=k then (t.1,d)::r else t::LL r k d
theorem Su{H:Hp}:∀{ks:List PyData} {k:List Int} {vs:List V},tkP.tkI ks=some k->IsL K H ks vs->vs=k.map V.int
 |[],_,_,e,l=>by cases e;exact l
 |.int i::ks,k,vs,e,⟨x,xs,ev,h,l⟩=>by
  unfold tkP.tkI at e
  obtain⟨k',e1,rfl⟩:=oM e
  rw[ev,Su e1 l,show x=V.int i from h];rfl
 |.none::_,_,_,e,_=>by cases e
 |.bool _::_,_,_,e,_=>by cases e
 |.str _::_,_,_,e,_=>by cases e
 |.list _::_,_,_,e,_=>by cases e
 |.tuple _::_,_,_,e,_=>by cases e
 |.dict _::_,_,_,e,_=>by cases e
theorem Pf{H:Hp}:∀{l:List (PyData×PyData)} {ts:TsV},IsKV K H l ts->Sk K H ts
 |[],_,h=>by rw[show _=[] from h];exact λt ht=>nomatch ht
 |(k,d)::l,_,⟨t,tr,e,_,hk,_,r⟩=>by
  subst e
  intro y hy
  rcases X'.mp hy with rfl|hy
  ·exact hk
  ·exact Pf r y hy
theorem Ky:∀{a b:List Int},a.map PyData.int=b.map PyData.int->a=b
 |[],[],_=>rfl
 |[],_::_,h=>by cases h
 |_::_,[],h=>by cases h
 |x::a,y::b,h=>by
  rw[P',P']at h
  injection h with h1 h2
  injection h1 with h1
  rw[h1,Ky h2]
theorem NH{H:Hp}:∀{l:List (PyData×PyData)} {ts:TsV} {m:List (List Int×PyData)},IsKV K H l ts->tkP l=some m->m.map (·.1)=ts.map (·.1)/\l=BC m
 |[],_,_,h,e=>by cases e;rw[show _=[] from h];exact⟨rfl,rfl⟩
 |(k,d)::l,_,m,⟨t,tr,ev,ek,hk,h,r⟩,e=>by
  subst ev ek
  unfold tkP at e
  obtain⟨k',e1,e⟩:=oB e
  obtain⟨m',e2,rfl⟩:=oM e
  rw[Mq]at e1
  cases e1
  obtain⟨a,b⟩:=NH r e2
  exact⟨by rw[P',P',a],by rw[b];rfl⟩
theorem W5{H:Hp}{k:List Int}:∀{m:List (List Int×PyData)} {ts:TsV},IsKV K H (BC m) ts->(match Ti m k with
  |some d=>∃v,Th ts k=some v/\Is K H d v
  |none=>Th ts k=none)
 |[],_,h=>by rw[show _=[] from h];rfl
 |(k',d)::m,_,⟨t,tr,ev,ek,hk,h,r⟩=>by
  subst ev
  have e1:k'=t.1:=by
   injection ek with ek
   exact Ky ek
  have ih:=W5 (k:=k) r
  unfold Ti Th
  by_cases e:t.1=k
  ·rw[if_pos e,if_pos (show((k',d):List Int×PyData).1=k from e1.trans e)]
   exact⟨_,rfl,h⟩
  ·rw[if_neg e,if_neg (show ¬((k',d):List Int×PyData).1=k from λz=>e (e1.symm.trans z))]
   exact ih
theorem S9{H:Hp}{k:List Int}{b:Addr}{d:PyData}{v:V}(hb:SqT K H b (k.map V.int))(hd:Is K H d v):∀{m:List (List Int×PyData)} {ts:TsV},IsKV K H (BC m) ts->IsKV K H (BC (LL m k d)) (Ja ts k b v)
 |[],_,h=>by rw[show _=[] from h];exact⟨_,[],rfl,rfl,hb,hd,rfl⟩
 |(k',d')::m,_,⟨t,tr,ev,ek,hk,h,r⟩=>by
  subst ev
  have e1:k'=t.1:=by
   injection ek with ek
   exact Ky ek
  unfold LL Ja
  by_cases e:t.1=k
  ·rw[if_pos e,if_pos (show((k',d'):List Int×PyData).1=k from e1.trans e)]
   exact⟨_,tr,rfl,ek,hk,hd,r⟩
  ·rw[if_neg e,if_neg (show ¬((k',d'):List Int×PyData).1=k from λz=>e (e1.symm.trans z))]
   exact⟨t,_,rfl,ek,hk,h,S9 hb hd r⟩
def HH:PyData->PyData->Option PyData
 |.dict l,.tuple ks=>(tkP l).bind λm=>(tkP.tkI ks).bind λk=>Ti m k
 |_,_=>none
theorem UL:OR K false (ax K) HH:=by
 intro S H x y dx dy d Q _ ix iy e q
 unfold HH at e
 split at e
 ·rename_i l ks
  obtain⟨m,e1,e4⟩:=oB e
  obtain⟨k,e2,e3⟩:=oB e4
  clear e e4
  obtain⟨a,ts,rfl,h,lv⟩:=Is.dct ix (T5 e1)
  obtain⟨b,vs,rfl,hb,lb⟩:=iy
  obtain rfl:=Su e2 lb
  obtain⟨_,rfl⟩:=NH lv e1
  have g:=W5 (k:=k) lv
  rw[e3]at g
  obtain⟨v,g1,g2⟩:=g
  exact⟨a,b,ts,k,v,rfl,rfl,h.unhid,λt ht=>Same.tup same_hid (Pf lv t ht),Same.tup same_hid hb,g1,q _ H (λ_ _ e=>e) g2⟩
 ·cases e
theorem Pg{H:Hp}:∀{m:List (List Int×PyData)} {ts:TsV},IsKV K H (BC m) ts->IsL K H (m.map λp=>NG p.1) (ts.map λt=>V.ref t.2.1)
 |[],_,h=>by rw[show _=[] from h];rfl
 |(k,d)::m,_,⟨t,tr,ev,ek,hk,h,r⟩=>by
  subst ev
  have e1:k=t.1:=by
   injection ek with ek
   exact Ky ek
  refine⟨_,_,rfl,⟨t.2.1,_,rfl,hk,?_⟩,Pg r⟩
  rw[e1]
  exact Nl t.1
def SX(np i:Nat)(τ:DS):Option Out:=if np<=i/\i<τ.length then some (.nx (τ.set i (some (.k [])))) else none
theorem Tz{np:Nat}{fr:Bool}{i:Nat}:B K np (NK Y1 (K1 i)) fr (SX np i):=by
 intro F S M τ σ H D out hnp f ee q
 unfold SX at ee
 split at ee
 ·rename_i hi
  cases ee
  intro a ha
  have s:=BF ha (HO.ext (Fl a [] 0))
  have f1:=f.hide s ha ⟨_,AW⟩
  have hM:¬M a:=λz=>f.r.fresh ha (f.r.sub a z)
  exact q _ _ _ _ (f1.newM (xs:=.t []) hi.2 (cm hnp hi.1) (.inr rfl) hM (f.hnone ha) AW ⟨[],⟨0,rfl⟩,rfl⟩) λb o hn e=>⟨λz=>z.elim hn (Af e ha),s b o e⟩
 ·cases ee
def Ie(i:Nat)(e k:DX)(τ:DS):Option Out:=(e τ).bind λp=>(k p.2).bind λq=>match q.2[i]?,q.1 with
 |some (some (.k m)),.tuple ks=>(tkP.tkI ks).bind λc=>if m.length<sizeLine then some (.nx (q.2.set i (some (.k (LL m c p.1))))) else none
 |_,_=>none
theorem Qr{H:Hp}:∀{l:List (PyData×PyData)} {ts:TsV},IsKV K H l ts->ts.length=l.length
 |[],_,h=>by rw[show _=[] from h];rfl
 |(k,d)::l,_,⟨t,tr,e,_,_,_,r⟩=>by subst e;rw[cM,cM,Qr r]
theorem Tx{np:Nat}{fr f1 f2:Bool}{i:Nat}{te tk:TE}{e k:DX}(he:E K te f1 e)(hk:E K tk f2 k):B K np (NK te (YZ (Fg i) tk (Y5 K))) fr (Ie i e k):=by
 intro F S M τ σ H D out hnp f ee q
 unfold Ie at ee
 obtain⟨⟨x,t6⟩,e1,ee⟩:=oB ee
 obtain⟨⟨y,t8⟩,e2,ee⟩:=oB ee
 dsimp only at ee
 split at ee
 ·rename_i m ks hx
  obtain⟨c,e3,ee⟩:=oB ee
  split at ee
  ·rename_i hml
   cases ee
   have lk1:=he.like _ _ _ e1
   have lk2:=hk.like _ _ _ e2
   refine he.weak.run S M τ σ H _ x t6 f.r e1 λv H1 r1 c1 i1=>?_
   obtain⟨zs,hz⟩:=lk2.kl hx
   obtain⟨p,ho,hp,hM,_,_⟩:=r1.mt i (.t zs) hz
   refine⟨.ref p,hp,hk.weak.run S M t6 σ H1 _ _ t8 r1 e2 λw H2 r2 c2 i2=>?_⟩
   obtain⟨p',ho',hp',hM',hl,ts,⟨ep0,rfl⟩,lv⟩:=r2.mt i (.t m) hx
   rw[hp]at hp';cases hp'
   have Sp:=r2.sub p hM'
   obtain⟨b,vs,rfl,hb,lb⟩:=i2
   obtain rfl:=Su e3 lb
   have lt:ts.length<sizeLine:=by rw[Qr lv];unfold BC;rw[B'];exact hml
   refine⟨p,b,ts,c,rfl,rfl,⟨ep0,hl⟩,λt ht=>Same.tup same_hid (Pf lv t ht),Same.tup same_hid hb,lt,λep=>?_⟩
   have cc:Chg (λb=>b=p) H2 (upd H2 p (.ext (Fl p (Ja ts c b v) ep))):=λb o hn e=>by rw[AR hn];exact e
   have iv:Is K (hid S H2) x v:=Is.mono (c2.keep r1.sub).same i1
   have f2:=f.step r2 (c1.trans c2) (lk1.trans lk2)
   have r3:=r2.setO (w:=.t m) (w':=.t (LL m c x)) hx hp cc AW (by rw[FL Sp];exact⟨_,⟨ep,rfl⟩,S9 hb iv lv⟩)
   have c3:Chg M H2 (upd H2 p (.ext (Fl p (Ja ts c b v) ep))):=λb o hn e=>cc b o (λz=>hn (by subst z;exact hM')) e
   exact q S M σ _ (f2.step r3 c3 (FA (w:=.t m) (w':=.t (LL m c x)) hx rfl)) (((c1.trans c2).trans c3).keep f.r.sub)
  ·cases ee
 ·cases ee
theorem Z2{m:List (List Int×PyData)}{k:List Int}:HH (.dict (BC m)) (NG k)=Ti m k:=by
 unfold HH NG
 dsimp only
 rw[Hu,Mq];rfl
end DL
end
section
namespace DL
open PySem L2
variable {K:KW}
end DL
end
section
namespace L2
open PySem
end L2
namespace DL
open PySem L2
variable {K:KW}
end DL
end
section
namespace EnG
open PySem PyProof.Rows
section
variable {prog:Program} {w:World} {A:Around} {E:Value->Shared->Prop} {s:Shared}
end
end EnG
namespace EnG
open PySem PyProof.Rows
open Sem (wp)
open AutoSeq1 (wpAny_loadPart')
section
variable {prog:Program} {w:World} {A:Around} {E:Value->Shared->Prop} {s:Shared}
end
end EnG
namespace L2
open PySem PySem.Spec PyProof.Rows EnG
section
variable {X:Cx} {elts:List Expr} {tp:Pos}
end
end L2
end
section
namespace DL
open PySem L2 PyProof.Rows
variable {K:KW}
theorem bc{own:Nat}{fr:List Nat}{wi:TI}{it:DI}{tg:TG}{g:DG}{tc:TT}{c:DT}{te:TE}{e:DX}{fe:Bool}(hi:IT2 K wi it)(hg:TG1 K tg g)(hc:T K tc c)(he:E K te fe e):E K (tLC own fr wi tg tc te) true (dLC own fr it g c e):=by
 refine⟨λτ d t7 e=>?_,?_⟩
 ·unfold dLC at e
  obtain⟨⟨x,t6⟩,e1,e⟩:=oB e
  split at e
  ·obtain⟨z,e3,e⟩:=oM e
   cases e;exact hi.like _ _ _ e1
  ·cases e
 intro S M τ σ H Q d t7 r ee q
 unfold dLC at ee
 obtain⟨⟨ds,t6⟩,e1,ee⟩:=oB ee
 split at ee
 ·rename_i hz
  obtain⟨hz,hnm⟩:=hz
  have hz:ds.length<=sizeLine:=hz
  obtain⟨⟨acc,t9⟩,e3,ee⟩:=oM ee
  obtain⟨rfl,rfl⟩:d = .list acc/\t7=t6:=by cases ee;exact⟨rfl,rfl⟩
  refine hi.run S M τ σ H _ ds _ r e1 λJ H1 r1 c1 iJ=>?_
  intro D hD
  -- nothing of the def may be changed in the block
  refine⟨λi m ys σ' H'=>∃l5 acc',R K (λb=>S b\/b=D) (λ_=>False) l5 σ' H'/\Keep S H1 (λb=>S b\/b=D) H'/\Chg (λb=>b=D) H1 H'/\IsL K (hid (λb=>S b\/b=D) H') acc' ys/\H' D=some (.lst ys)/\ys.length<=i/\i<=ds.length/\m=ds.length-i/\BN g c e (ds.drop i) acc' l5=some (acc,t9),?_,?_⟩
  ·have s:=BF hD (HO.lst [])
   have k:Keep S H1 (λb=>S b\/b=D) (upd H1 D (.lst [])):=λb o hn e=>by
    have:=Af e hD
    exact⟨λz=>z.elim hn this,s b o e⟩
   refine⟨ds.length,Ff own fr t7,[],⟨?_,?_,?_,?_,?_,λa h=>h.elim,?_,GR.nil OI⟩,k,.of s,rfl,AW,W' _,cZ _,by simp,by simpa using e3⟩
   ·unfold blk Ff;simp
   ·intro i x e
    obtain⟨kk,j,rfl,ej,et⟩:=Bi e
    obtain⟨v,h1,h2⟩:=r1.dat j x et
    exact⟨v,E1 ej h1,h2.mono k.same⟩
   ·intro i xs e
    obtain⟨kk,j,rfl,ej,et⟩:=Bi e
    have:=cz.mp hnm j (cj ej)
    rw[isM_iff.mpr ⟨xs,et⟩]at this
    cases this
   ·intro i x e
    obtain⟨kk,j,rfl,ej,et⟩:=Bi e
    obtain⟨a,vs,h1,h2,h3⟩:=r1.cst j x et
    exact⟨a,vs,E1 ej h1,k.same.seq h2,h3.mono k.same⟩
   ·intro i j xs ys a e
    obtain⟨kk,j',rfl,ej,et⟩:=Bi e
    have:=cz.mp hnm j' (cj ej)
    rw[isM_iff.mpr ⟨xs,et⟩]at this
    cases this
   ·rintro a (h|rfl)
    ·obtain⟨o,e⟩:=r1.ex a h
     exact⟨o,s _ _ e⟩
    ·exact⟨_,AW⟩
  ·rintro i m ys σ' H' ⟨l5,acc',rb,k,ch,la,hHD,hyl,hil,rfl,hl⟩
   obtain⟨I1,I2⟩:=iJ _ _ k (λ_=>rb.fresh)
   by_cases hlt:i<ds.length
   ·right
    have ed:ds[i]?=some ds[i]:=Y' hlt
    obtain⟨go,yl⟩:=I1 i _ ed
    refine⟨go,λx H2 y=>?_⟩
    obtain⟨sm,ix⟩:=yl x H2 y
    have rb:=rb.same sm
    have k:=k.trans (Same.keep sm)
    have ch:=ch.trans (.of sm)
    have la:=la.mono (Same.keep sm).same
    have hHD:=sm _ _ hHD
    rw[dQ hlt,BN]at hl
    obtain⟨t8,e2,hl⟩:=oB hl
    obtain⟨⟨b,l0⟩,e4,hl⟩:=oB hl
    refine hg.run _ _ l5 σ' H2 x _ t8 _ rb ix e2 λσ3 r3 k3=>?_
    refine hc.run _ _ t8 σ3 H2 _ b l0 r3 e4 λH4 r4 c4=>?_
    have s4:Same H2 H4:=λb o e=>c4 b o (λz=>z) e
    cases b with
    |false =>
     rw[if_neg ck]
     exact⟨ds.length-(i+1),by omega,l0,acc',r4,k.trans (Same.keep s4),ch.trans (.of s4),la.mono (Same.keep s4).same,s4 _ _ hHD,by omega,hlt,rfl,hl⟩
    |true =>
     rw[if_pos rfl]
     rw[if_pos rfl]at hl
     obtain⟨⟨z,l6⟩,e5,hl⟩:=oB hl
     refine he.weak.run _ _ l0 σ3 H4 _ z l6 r4 e5 λv H5 r5 c5 i5=>?_
     have s5:Same H2 H5:=s4.trans λb o e=>c5 b o (λz=>z) e
     have hD5:=s5 _ _ hHD
     refine⟨hD5,by omega,ds.length-(i+1),by omega,l6,acc'++[z],?_,?_,?_,?_,AW,by rw[cT,dH];omega,hlt,rfl,hl⟩
     ·have kk:Keep (λb=>S b\/b=D) H5 (λb=>S b\/b=D) (upd H5 D (.lst (ys++[v]))):=λb o hn e=>⟨hn,by rw[AR (λz=>hn (.inr z))];exact e⟩
      refine⟨r5.len,λj x e=>let ⟨u,a,b⟩:=r5.dat j x e;⟨u,a,b.mono kk.same⟩,λj xs e=>let ⟨_,_,_,h,_⟩:=r5.mt j xs e;h.elim,λj xs e=>let ⟨a,vs,h1,h2,h3⟩:=r5.cst j xs e;⟨a,vs,h1,kk.same.seq h2,h3.mono kk.same⟩,r5.inj,λ_ h=>h.elim,λa h=>?_,r5.gr.to (λi d e=>⟨e,rfl⟩) (λj o a e q=>.inl ⟨o,e,q⟩) (λa h _=>h.elim) (tsS kk.same)⟩
      by_cases e:a=D
      ·subst e;exact⟨_,AW⟩
      ·obtain⟨o,q⟩:=r5.ex a h
       exact⟨o,by rw[AR e];exact q⟩
     ·refine k.trans λb o hn e=>⟨hn,?_⟩
      rw[AR (λz=>hn (.inr z))]
      exact s5 _ _ e
     ·refine ch.trans λb o hn e=>?_
      rw[AR hn]
      exact s5 _ _ e
     ·refine(Kx (la.mono (Same.keep s5).same) i5).mono (Keep.same λb o hn e=>⟨hn,?_⟩)
      rw[AR (λz=>hn (.inr z))]
      exact e
   ·left
    have e:i=ds.length:=by omega
    subst e
    rw[eJ,BN]at hl
    cases hl
    refine⟨I2 _ (W' _),?_⟩
    have s:Same H1 H':=λb o e=>ch b o (Af e hD) e
    refine q _ H' (r1.same s) (c1.trans (.of s)) ⟨.l acc,D,_,rfl,rfl,r1.none c1 hD,hHD,ys,rfl,la⟩
 ·cases ee
end DL
end
section
namespace L2
open PySem PySem.Spec PyProof.Rows
section
variable {X:Cx} {pos:Pos}
end
end L2
namespace DL
open PySem L2
variable {K:KW}
variable {K:KW}
theorem RF.frz{F:Frm}{S M:Addr->Prop}{τ:DS}{σ:St}{H:Hp}(f:RF K F S M τ σ H){i:Nat}{w:Ow}{p:Addr}(hi:τ[i]?=some (some w.L))(hp:σ[i]?=some (some (.ref p)))(hnp:F.ar.length<=i) :
  RF K F (λb=>S b/\b≠p) (λb=>M b/\b≠p) (τ.set i (some (.d w.D))) σ H:=by
 have np:¬F.M p:=λz=>by
  obtain⟨j,hj⟩:=f.fma p z
  obtain⟨o,ho⟩:=f.pm j _ hj
  have:=f.r.inj j i o w p ho hi (f.par j _ hj) hp
  subst this
  have:=(K'.mp hj).1
  omega
 have ns:¬F.S p:=λz=>by
  obtain⟨o,ho⟩:=f.fs p z
  obtain⟨a,h,h1,h2,_⟩:=f.r.mt i w hi
  rw[hp]at h1;cases h1
  rcases f.new p h2 with q|q
  ·exact np q
  ·rw[q]at ho;cases ho
 exact {
  r:=DL.frz f.r hi hp
  sS:=λa z=>⟨f.sS a z,λe=>ns (e▸z)⟩
  old:=f.old
  new:=λa z=>f.new a z.1
  fm:=λa z=>⟨f.fm a z,λe=>np (e▸z)⟩
  fs:=f.fs
  fsub:=f.fsub
  snew:=λa z=>f.snew a z.1
  par:=f.par
  pm:=λj v e=>by
   obtain⟨o,ho⟩:=f.pm j v e
   have hj:j≠i:=λz=>by
    subst z
    have:=(K'.mp e).1
    omega
   exact⟨o,by rw[R' (Ne.symm hj)];exact ho⟩
  fma:=f.fma }
end DL
end
section
namespace L2
open PySem PySem.Spec PyProof.Rows
section
variable {X:Cx}
end
end L2
namespace DL
open PySem L2 PyProof.Rows
variable {K:KW}
end DL
end
section
namespace L2
open PySem PySem.Spec PyProof.Rows
section
variable {M:Model} {A:Around} {E:Value->Shared->Prop} {s:Shared} {N:Addr->Prop} {base:Heap} {env:Env} {outer:List Env} {L e C:Addr} {Q:Unit->Shared->Prop}
end
section
variable {X:Cx} {pins:List (Addr×Obj)} {σ:St} {H H':Hp} {s s3:Shared} {ea C:Addr} {fl:Value}
end
section
variable {X:Cx} {k:Nat} {f C D':Addr} {fd:FuncData} {ps:List Str} {sp:Sp} {x cn:Str} {p pos p1 np hp p2:Pos} {e:Expr} {es:List Expr} {t:TA} {b₀:Stmt} {suite:List Stmt} {ts:Addr->TS}
end
end L2
end
section
namespace L2
open PySem PySem.Spec PyProof.Rows PySem.W
section
variable {prog:Program} {w:World} {A:Around} {E:Value->Shared->Prop} {s:Shared} {K:Frag} {x C:Addr} {ox:Obj}
end
section
variable {X:Cx} {ea C:Addr} {oe:Obj}
end
end L2
end
section
namespace L2
open PySem PySem.Spec PyProof.Rows
section
variable {X:Cx} {k i:Nat} {f C D':Addr} {fd:FuncData} {ps:List Str} {sp:Sp} {x cn n:Str} {p pos p1 np hp p2:Pos} {e:Expr} {es:List Expr} {t:TA} {b₀:Stmt} {suite:List Stmt} {ts:Addr->TS}
end
end L2
namespace DL
open PySem L2
instance {i j:Int}:Decidable (ZP i j):=by unfold ZP Bd;infer_instance
end DL
end
section
namespace L2
open PySem PySem.Spec PyProof.Rows
end L2
namespace DL
open PySem L2 PyProof.Rows
variable {K:KW}
end DL
end
section
namespace DL
open PySem L2
variable {K:KW}
section
variable {S S':Addr->Prop} {H:Hp}
mutual
theorem Dp.is(k:TSm (hid S H) (hid S' H)):∀{d:PyData} {v:V} {F:List Addr},(∀a∈F,¬S' a)->Dp K S H d v F->Is K (hid S' H) d v
 |.none,_,_,_,h=>h.1
 |.bool _,_,_,_,h=>h.1
 |.int _,_,_,_,h=>h.1
 |.str _,_,_,_,h=>h.1
 |.tuple _,_,_,f,⟨a,vs,e,h,l⟩=>⟨a,vs,e,k.tup h,DpL.is k f l⟩
 |.list _,_,_,f,⟨a,vs,G,e,e2,h,l⟩=>⟨a,vs,e,hid_iff.mpr ⟨f a (by rw[e2];exact J' ..),h⟩,DpL.is k (λb hb=>f b (by rw[e2];exact E' _ hb)) l⟩
 |.dict _,_,_,f,⟨a,C,dx,fs,G,e,e2,h,l⟩=>.inr ⟨a,C,dx,fs,e,hid_iff.mpr ⟨f a (by rw[e2];exact J' ..),h⟩,DpO.is k (λb hb=>f b (by rw[e2];exact E' _ hb)) l⟩
theorem DpL.is(k:TSm (hid S H) (hid S' H)):∀{ds:List PyData} {vs:List V} {F:List Addr},(∀a∈F,¬S' a)->DpL K S H ds vs F->IsL K (hid S' H) ds vs
 |[],_,_,_,h=>h.1
 |_::_,_,_,f,⟨x,xs,F1,F2,e,e2,h,l⟩=>⟨x,xs,e,Dp.is k (λb hb=>f b (by rw[e2];exact cU _ hb)) h,DpL.is k (λb hb=>f b (by rw[e2];exact L' _ hb)) l⟩
theorem DpO.is(k:TSm (hid S H) (hid S' H)){C:Addr}:∀{kvs:List (PyData×PyData)} {fs:List (Str×V)} {F:List Addr},(∀a∈F,¬S' a)->DpO K S H C kvs fs F->IsOb K (hid S' H) C kvs fs
 |[],_,_,_,h=>h
 |(_,_)::_,_,_,f,⟨h,l⟩=>⟨h,DpF.is k f l⟩
theorem DpF.is(k:TSm (hid S H) (hid S' H)):∀{kvs:List (PyData×PyData)} {fs:List (Str×V)} {F:List Addr},(∀a∈F,¬S' a)->DpF K S H kvs fs F->IsF K (hid S' H) kvs fs
 |[],_,_,_,h=>h.1
 |(_,_)::_,_,_,f,⟨n,x,fr,F1,F2,e,e2,ek,h,l⟩=>⟨n,x,fr,e,ek,Dp.is k (λb hb=>f b (by rw[e2];exact cU _ hb)) h,DpF.is k (λb hb=>f b (by rw[e2];exact L' _ hb)) l⟩
end
mutual
theorem Dp.lst:∀{d:PyData} {v:V} {F:List Addr},Dp K S H d v F->∀a∈F,Lv H a
 |.none,_,_,h,a,q=>by rw[h.2]at q;cases q
 |.bool _,_,_,h,a,q=>by rw[h.2]at q;cases q
 |.int _,_,_,h,a,q=>by rw[h.2]at q;cases q
 |.str _,_,_,h,a,q=>by rw[h.2]at q;cases q
 |.tuple _,_,_,⟨_,vs,e,h,l⟩,a,q=>DpL.lst l a q
 |.list _,_,_,⟨b,vs,G,e,e2,h,l⟩,a,q=>by
  rw[e2]at q
  rcases X'.mp q with rfl|q
  ·exact Lv.of h
  ·exact DpL.lst l a q
 |.dict _,_,_,⟨b,C,dx,fs,G,e,e2,h,l⟩,a,q=>by
  rw[e2]at q
  rcases X'.mp q with rfl|q
  ·exact⟨_,h,.inr ⟨C,dx,fs,rfl⟩⟩
  ·exact DpO.lst l a q
theorem DpL.lst:∀{ds:List PyData} {vs:List V} {F:List Addr},DpL K S H ds vs F->∀a∈F,Lv H a
 |[],_,_,h,a,q=>by rw[h.2]at q;cases q
 |_::_,_,_,⟨x,xs,F1,F2,e,e2,h,l⟩,a,q=>by
  rw[e2]at q
  rcases cN.mp q with q|q
  ·exact Dp.lst h a q
  ·exact DpL.lst l a q
theorem DpO.lst{C:Addr}:∀{kvs:List (PyData×PyData)} {fs:List (Str×V)} {F:List Addr},DpO K S H C kvs fs F->∀a∈F,Lv H a
 |[],_,_,h,_,_=>h.elim
 |(_,_)::_,_,_,⟨_,l⟩,a,q=>DpF.lst l a q
theorem DpF.lst:∀{kvs:List (PyData×PyData)} {fs:List (Str×V)} {F:List Addr},DpF K S H kvs fs F->∀a∈F,Lv H a
 |[],_,_,h,a,q=>by rw[h.2]at q;cases q
 |(_,_)::_,_,_,⟨n,x,fr,F1,F2,e,e2,ek,h,l⟩,a,q=>by
  rw[e2]at q
  rcases cN.mp q with q|q
  ·exact Dp.lst h a q
  ·exact DpF.lst l a q
end
mutual
theorem Dp.fix:∀{d:PyData} {v:V},F5 d=true->Is K (hid S H) d v->Dp K S H d v []
 |.none,_,_,h=>⟨h,rfl⟩
 |.bool _,_,_,h=>⟨h,rfl⟩
 |.int _,_,_,h=>⟨h,rfl⟩
 |.str _,_,_,h=>⟨h,rfl⟩
 |.tuple _,_,f,⟨a,vs,e,h,l⟩=>⟨a,vs,e,h,DpL.fix f l⟩
 |.list _,_,f,_=>absurd f ck
 |.dict _,_,f,_=>absurd f ck
theorem DpL.fix:∀{ds:List PyData} {vs:List V},fixDs ds=true->IsL K (hid S H) ds vs->DpL K S H ds vs []
 |[],_,_,h=>⟨h,rfl⟩
 |_::_,_,f,⟨x,xs,e,h,l⟩=>⟨x,xs,[],[],e,rfl,Dp.fix (by rw[fixDs,cw]at f;exact f.1) h,DpL.fix (by rw[fixDs,cw]at f;exact f.2) l⟩
end
mutual
theorem Dp.unfix:∀{d:PyData} {v:V} {F:List Addr},F5 d=true->Dp K S H d v F->F=[]/\Is K (hid S H) d v
 |.none,_,_,_,h=>⟨h.2,h.1⟩
 |.bool _,_,_,_,h=>⟨h.2,h.1⟩
 |.int _,_,_,_,h=>⟨h.2,h.1⟩
 |.str _,_,_,_,h=>⟨h.2,h.1⟩
 |.tuple _,_,_,f,⟨a,vs,e,h,l⟩=>let ⟨z,y⟩:=DpL.unfix f l;⟨z,a,vs,e,h,y⟩
 |.list _,_,_,f,_=>absurd f ck
 |.dict _,_,_,f,_=>absurd f ck
theorem DpL.unfix:∀{ds:List PyData} {vs:List V} {F:List Addr},fixDs ds=true->DpL K S H ds vs F->F=[]/\IsL K (hid S H) ds vs
 |[],_,_,_,h=>⟨h.2,h.1⟩
 |_::_,_,_,f,⟨x,xs,F1,F2,e,e2,h,l⟩=>by
  rw[fixDs,cw]at f
  obtain⟨rfl,y1⟩:=Dp.unfix f.1 h
  obtain⟨rfl,y2⟩:=DpL.unfix f.2 l
  exact⟨e2,x,xs,e,y1,y2⟩
end
theorem DpL.length:∀{ds:List PyData} {vs:List V} {F:List Addr},DpL K S H ds vs F->vs.length=ds.length
 |[],_,_,h=>by rw[h.1];rfl
 |_::_,_,_,⟨x,xs,F1,F2,e,e2,h,l⟩=>by rw[e,cM,cM,DpL.length l]
theorem DpL.snoc:∀{ds:List PyData} {vs:List V} {F:List Addr} {d:PyData} {v:V} {G:List Addr},DpL K S H ds vs F->Dp K S H d v G->DpL K S H (ds++[d]) (vs++[v]) (F++G)
 |[],_,_,d,v,G,⟨rfl,rfl⟩,h=>⟨v,[],G,[],rfl,by simp,h,rfl,rfl⟩
 |_::_,_,_,d,v,G,⟨x,xs,F1,F2,e,e2,h,l⟩,h2=>⟨x,xs++[v],F1,F2++G,by rw[e];rfl,by rw[e2,dO],h,DpL.snoc l h2⟩
theorem DpL.at:∀{ds:List PyData} {vs:List V} {F:List Addr} {y:Nat} {d:PyData},DpL K S H ds vs F->F.Nodup->ds[y]?=some d->∃x Fy,vs[y]?=some x/\(∀a∈Fy,a∈F)/\Fy.Nodup/\Dp K S H d x Fy /\
  ∀(H':Hp) (d':PyData),TSm (hid S H) (hid S H')->(∀a∈F,a∉Fy->H' a=H a)->Dp K S H' d' x Fy->DpL K S H' (ds.set y d') vs F
 |[],_,_,_,_,_,_,e=>by simp at e
 |d0::ds,_,_,0,d,⟨x,xs,F1,F2,e,e2,h,l⟩,hn,q=>by
  subst e e2
  simp at q
  subst q
  obtain⟨n1,n2,n3⟩:=cg.mp hn
  refine⟨x,F1,rfl,λa ha=>cU _ ha,n1,h,λH' d' ts hh hd=>⟨x,xs,F1,F2,rfl,rfl,hd,l.mono ts λa ha=>hh a (L' _ ha) λz=>n3 a z a ha rfl⟩⟩
 |d0::ds,_,_,y+1,d,⟨x,xs,F1,F2,e,e2,h,l⟩,hn,q=>by
  subst e e2
  obtain⟨n1,n2,n3⟩:=cg.mp hn
  obtain⟨x',Fy,a1,a2,a3,a4,a5⟩:=DpL.at (y:=y) (d:=d) l n2 (by simpa using q)
  refine⟨x',Fy,by simpa using a1,λa ha=>L' _ (a2 a ha),a3,a4,λH' d' ts hh hd=>⟨x,xs,F1,F2,rfl,rfl,h.mono ts λa ha=>hh a (cU _ ha) λz=>n3 a ha a (a2 a z) rfl,a5 H' d' ts (λa ha=>hh a (L' _ ha)) hd⟩⟩
end
theorem Dp.set2{S:Addr->Prop}{H:Hp}{rows cs:List PyData}{v:V}{F:List Addr}{y x:Nat}{d3:PyData}{v3:V}(h:Dp K S H (.list rows) v F)(hn:F.Nodup)(hS:∀a∈F,S a)(hy:rows[y]?=some (.list cs))(hf:fixDs cs=true)(f3:F5 d3=true)(i3:Is K (hid S H) d3 v3) :
  ∃a vs p cvs,v = .ref a/\H a=some (.lst vs)/\vs.length=rows.length/\a∈F/\vs[y]?=some (.ref p)/\p∈F/\H p=some (.lst cvs)/\cvs.length=cs.length/\Dp K S (upd H p (.lst (cvs.set x v3))) (.list (rows.set y (.list (cs.set x d3)))) v F:=by
 obtain⟨a,vs,G,rfl,rfl,ha,l⟩:=h
 obtain⟨na,nG⟩:=cP.mp hn
 obtain⟨u,Fy,h1,h2,h3,⟨p,cvs,Gy,rfl,rfl,hp,lc⟩,h5⟩:=DpL.at l nG hy
 obtain⟨rfl,lc'⟩:=DpL.unfix hf lc
 have pG:p∈G:=h2 p (J' ..)
 have pF:p∈a::G:=E' _ pG
 have ap:a≠p:=λz=>na (z▸pG)
 refine⟨a,vs,p,cvs,rfl,ha,l.length,J' ..,h1,pF,hp,lc'.length,a,vs,G,rfl,rfl,by rw[AR ap];exact ha,?_⟩
 have eh:hid S (upd H p (.lst (cvs.set x v3)))=hid S H:=FL (hS p pF)
 refine h5 _ _ (by rw[eh];exact .refl) (λb hb hn=>AR λz=>hn (by rw[z];exact J' ..)) ⟨p,_,[],rfl,rfl,AW,?_⟩
 have fs:∀(cs:List PyData) (x:Nat),fixDs cs=true->fixDs (cs.set x d3)=true:=by
  intro cs
  induction cs with
  |nil=>intro x h;exact h
  |cons c cs ih =>
   intro x h
   rw[fixDs,cw]at h
   cases x with
   |zero=>rw[List.set_cons_zero,fixDs,cw];exact⟨f3,h.2⟩
   |succ x=>rw[List.set_cons_succ,fixDs,cw];exact⟨h.1,ih x h.2⟩
 exact DpL.fix (fs cs x hf) (by rw[eh];exact Qu lc' i3)
def mem(F:List Addr)(b:Addr):Prop:=b∈F
def nDc(d:PyData):Prop:=True
theorem DpT.to{S:Addr->Prop}{H:Hp}{d:PyData}{v:V}{F:List Addr}(hx:nDc d)(h:DpT K S H d v F):Dp K S H d v F:=h
theorem XA{S M:Addr->Prop}{τ:DS}{σ:St}{H:Hp}(r:R K S M τ σ H){i:Nat}{d:PyData}(hi:τ[i]?=some (some (.g d)))(hx:nDc d:=True.intro) :
  ∃v F,σ[i]?=some (some v)/\Dp K S H d v F/\F.Nodup/\(∀a∈F,M a)/\(∀(j:Nat) (o:Ow) (a:Addr),τ[j]?=some (some o.L)->σ[j]?=some (some (.ref a))->a∉F)/\R K (λb=>S b/\b∉F) (λb=>M b/\b∉F) (τ.set i (some (.d d))) σ H:=by
 obtain⟨φ,g⟩:=r.gr
 obtain⟨⟨v,g1,g2⟩,g3,g4,g5,g6⟩:=g i _ hi
 have g2:Dp K S H d v (φ i):=DpT.to hx g2
 refine⟨v,φ i,g1,g2,g3,g4,g5,?_⟩
 have hlt:i<τ.length:=(K'.mp hi).1
 have ne:∀j,j≠i->(τ.set i (some (.d d)))[j]?=τ[j]?:=λj hj=>R' (Ne.symm hj)
 have se:(τ.set i (some (.d d)))[i]?=some (some (.d d)):=V' hlt
 have k:Same (hid S H) (hid (λb=>S b/\b∉φ i) H):=Bf λa z=>z.1
 have mn:∀(j:Nat) (ys:Ow),(τ.set i (some (.d d)))[j]?=some (some ys.L)->j≠i/\τ[j]?=some (some ys.L):=λj ys e=>by
  by_cases hj:j=i
  ·subst hj;rw[se]at e;exact absurd (G' (G' e)).symm Ow.not_d
  ·rw[ne j hj]at e;exact⟨hj,e⟩
 have cs:∀(j:Nat) (ys:List PyData),(τ.set i (some (.d d)))[j]?=some (some (.c ys))->τ[j]?=some (some (.c ys)):=λj ys e=>by
  by_cases hj:j=i
  ·subst hj;rw[se]at e;cases e
  ·rw[ne j hj]at e;exact e
 refine⟨by rw[cV];exact r.len,λj x e=>?_,λj ys e=>?_,λj ys e=>let ⟨a,vs,h1,h2,h3⟩:=r.cst j ys (cs j ys e);⟨a,vs,h1,k.seq h2,h3.mono k⟩,λj1 j2 ys zs b e1 e2 f1 f2=>?_,λa h=>⟨r.sub a h.1,h.2⟩,λa h=>r.ex a h.1,?_⟩
 ·by_cases hj:j=i
  ·subst hj
   rw[se]at e
   cases e
   exact⟨v,g1,g2.is (tsS k) λa ha z=>z.2 ha⟩
  ·rw[ne j hj]at e
   obtain⟨v,h1,h2⟩:=r.dat j x e
   exact⟨v,h1,h2.mono k⟩
 ·obtain⟨hj,e⟩:=mn j ys e
  obtain⟨b,us,h1,h2,h3,h4⟩:=r.mt j ys e
  exact⟨b,us,h1,⟨h2,g5 j ys b e h1⟩,h3,h4.mono k⟩
 ·exact r.inj j1 j2 ys zs b (mn _ _ e1).2 (mn _ _ e2).2 f1 f2
 ·refine⟨φ,λj x e=>?_⟩
  by_cases hj:j=i
  ·subst hj;rw[se]at e;cases e
  ·rw[ne j hj]at e
   obtain⟨⟨v',q1,q2⟩,q3,q4,q5,q6⟩:=g j x e
   refine⟨⟨v',q1,q2.mono (tsS k) λ_ _=>rfl⟩,q3,λa ha=>⟨q4 a ha,q6 i _ (Ne.symm hj) hi a ha⟩,λj' o a z1 z2=>q5 j' o a (mn j' o z1).2 z2,λj' x' hj' z=>?_⟩
   by_cases hj2:j'=i
   ·subst hj2;rw[se]at z;cases z
   ·rw[ne j' hj2]at z;exact q6 j' x' hj' z
theorem V5{S M:Addr->Prop}{τ t6:DS}{σ:St}{H H3 H4:Hp}(r:R K S M τ σ H){i:Nat}{d d':PyData}{v:V}{F:List Addr}(hi:τ[i]?=some (some (.g d)))(hv:σ[i]?=some (some v))(hn:F.Nodup)(hM:∀a∈F,M a)
  (ho:∀(j:Nat) (o:Ow) (a:Addr),τ[j]?=some (some o.L)->σ[j]?=some (some (.ref a))->a∉F)
  (r1:R K (λb=>S b/\b∉F) (λb=>M b/\b∉F) t6 σ H3) (lk:Like (τ.set i (some (.d d))) t6) (c:Chg (λb=>M b/\b∉F) H H3) (ok:t6.all okM=true)
  (hl3:∀a∈F,Lv H3 a) (c4:∀b,b∉F->H4 b=H3 b) (hd:Dp K S H4 d' v F):R K S M (t6.set i (some (.g d'))) σ H4:=by
 have hlt:i<τ.length:=(K'.mp hi).1
 have hl1:t6.length=τ.length:=by have:=lk.1;rw[cV]at this;exact this
 have hlt1:i<t6.length:=by omega
 have ne:∀j,j≠i->(t6.set i (some (.g d')))[j]?=t6[j]?:=λj hj=>R' (Ne.symm hj)
 have se:(t6.set i (some (.g d')))[i]?=some (some (.g d')):=V' hlt1
 have ne0:∀j,j≠i->(τ.set i (some (.d d)))[j]?=τ[j]?:=λj hj=>R' (Ne.symm hj)
 have k : Keep S H S H4 := λb o h e => ⟨h, by
  have hb:b∉F:=λz=>h (r.sub b (hM b z))
  rw[c4 b hb];exact c b o (λz=>h (r.sub b z.1)) e⟩
 have ts:TSm (hid (λb=>S b/\b∉F) H3) (hid S H4):=λb o e nl ne=>by
  obtain⟨e1,e2⟩:=hid_iff.mp e
  have hb:b∉F:=λz=>by
   obtain⟨_,q,tt⟩:=hl3 b z
   rw[e2]at q;cases q;exact nl tt
  exact hid_iff.mpr ⟨λz=>e1 ⟨z,hb⟩,by rw[c4 b hb];exact e2⟩
 have own:∀(j:Nat) (ys:Ow),(t6.set i (some (.g d')))[j]?=some (some ys.L)->j≠i/\t6[j]?=some (some ys.L):=λj ys e=>by
  by_cases hj:j=i
  ·subst hj;rw[se]at e;exact absurd (G' (G' e)).symm Ow.not_g
  ·rw[ne j hj]at e;exact⟨hj,e⟩
 have mm:∀(j:Nat) (ys:Ow),j≠i->t6[j]?=some (some ys.L)->∃zs:Ow,τ[j]?=some (some zs.L):=λj ys hj e=>by
  obtain⟨zs,q⟩:=(lk.own j).mp ⟨_,e⟩
  rw[ne0 j hj]at q
  exact⟨zs,q⟩
 have cs:∀(j:Nat) (ys:List PyData),(t6.set i (some (.g d')))[j]?=some (some (.c ys))->τ[j]?=some (some (.c ys)):=λj ys e=>by
  by_cases hj:j=i
  ·subst hj;rw[se]at e;cases e
  ·rw[ne j hj]at e
   have:=((lk.2 j).1.2 ys).mp e
   rw[ne0 j hj]at this
   exact this
 refine⟨by rw[cV];exact r1.len,λj x e=>?_,λj ys e=>?_,λj ys e=>let ⟨a,vs,h1,h2,h3⟩:=r.cst j ys (cs j ys e);⟨a,vs,h1,k.same.seq h2,h3.mono k.same⟩,λj1 j2 ys zs b e1 e2 f1 f2=>?_,r.sub,λa h=>?_,?_⟩
 ·by_cases hj:j=i
  ·subst hj;rw[se]at e;cases e
  ·rw[ne j hj]at e
   have:=((lk.2 j).1.1 x).mp e
   rw[ne0 j hj]at this
   obtain⟨v,h5,h6⟩:=r.dat j x this
   exact⟨v,h5,h6.mono k.same⟩
 ·obtain⟨hj,e⟩:=own j ys e
  obtain⟨b,ws,h5,h6,h7,h8⟩:=r1.mt j ys e
  have fx:okM (some ys.L)=true:=cz.mp ok (some ys.L) (cj e)
  exact⟨b,ws,h5,h6.1,by rw[c4 b h6.2];exact h7,h8.monoT ts fx⟩
 ·obtain⟨g1,e1⟩:=own _ _ e1
  obtain⟨g2,e2⟩:=own _ _ e2
  obtain⟨_,q1⟩:=mm j1 ys g1 e1
  obtain⟨_,q2⟩:=mm j2 zs g2 e2
  exact r.inj _ _ _ _ b q1 q2 f1 f2
 ·by_cases e:a∈F
  ·obtain⟨_,q,tt⟩:=hd.lst a e;exact⟨_,q⟩
  ·obtain⟨o,q⟩:=r1.ex a ⟨h,e⟩;exact⟨o,by rw[c4 a e];exact q⟩
 ·obtain⟨φ,g⟩:=r1.gr
  refine⟨λj=>if j=i then F else φ j,λj x e=>?_⟩
  have gs:∀(j:Nat) (x:PyData),j≠i->(t6.set i (some (.g d')))[j]?=some (some (.g x))->t6[j]?=some (some (.g x)):=λj x hj e=>by rw[ne j hj]at e;exact e
  by_cases hj:j=i
  ·subst hj
   rw[se]at e;cases e
   simp only[if_true]
   refine⟨⟨v,hv,DpT.of hd⟩,hn,hM,λj' o a z1 z2=>?_,λj' x' hj' z a ha=>?_⟩
   ·obtain⟨q1,q2⟩:=own j' o z1
    obtain⟨zs,q3⟩:=mm j' o q1 q2
    exact ho j' zs a q3 z2
   ·rw[if_neg hj']
    intro hq
    obtain⟨_,_,q4,_,_⟩:=g j' x' (gs j' x' hj' z)
    exact(q4 a hq).2 ha
  ·dsimp only
   simp only[if_neg hj]
   obtain⟨⟨v',q1,q2⟩,q3,q4,q5,q6⟩:=g j x (gs j x hj e)
   refine⟨⟨v',q1,q2.mono ts λa ha=>c4 a (q4 a ha).2⟩,q3,λa ha=>(q4 a ha).1,λj' o a z1 z2=>q5 j' o a (own j' o z1).2 z2,λj' x' hj' z a ha=>?_⟩
   by_cases hj2:j'=i
   ·rw[if_pos hj2];exact(q4 a ha).2
   ·rw[if_neg hj2];exact q6 j' x' hj' (gs j' x' hj2 z) a ha
variable {K:KW}
theorem R.hideX{S M:Addr->Prop}{τ t6:DS}{σ:St}{H H':Hp}(r:R K S M τ σ H){X:List Addr}(r1:R K S M t6 σ H')(c:Chg M H H')(lk:Like τ t6)(ok:∀(j:Nat) (o:Ow),t6[j]?=some (some o.L)->okM (some o.L)=true)(hX:∀a∈X,H a=Option.none)(h':∀a∈X,Lv H' a) :
  R K (λb=>S b\/b∈X) M t6 σ H':=by
 have k:Keep S H (λb=>S b\/b∈X) H':=λb o hn e=>⟨λz=>z.elim hn (λz=>by rw[hX b z]at e;cases e),c b o (λz=>hn (r.sub b z)) e⟩
 have ts:TSm (hid S H') (hid (λb=>S b\/b∈X) H'):=Dd λb z=>z.elim .inl λz=>let ⟨_,e,tt⟩:=h' b z;.inr ⟨_,e,.inl tt⟩
 refine⟨r1.len,λj x e=>?_,λj x e=>?_,λj x e=>?_,r1.inj,λb h=>.inl (r.sub b h),λb h=>?_,r1.gr.to (λi d e=>⟨e,rfl⟩) (λj o a e q=>.inl ⟨o,e,q⟩) (λa h _=>⟨h,rfl⟩) ts⟩
 ·obtain⟨v,h1,h2⟩:=r.dat j x (((lk.2 j).1.1 x).mp e)
  exact⟨v,h1,h2.mono k.same⟩
 ·obtain⟨b,vs,h1,h2,h3,h4⟩:=r1.mt j x e
  exact⟨b,vs,h1,h2,h3,h4.monoT ts (ok j x e)⟩
 ·obtain⟨b,vs,h1,h2,h3⟩:=r.cst j x (((lk.2 j).1.2 x).mp e)
  exact⟨b,vs,h1,k.same.seq h2,h3.mono k.same⟩
 ·rcases h with h|h
  ·exact r1.ex b h
  ·obtain⟨_,e,tt⟩:=h' b h
   exact⟨_,e⟩
theorem RF.hideG{F:Frm}{S M:Addr->Prop}{τ t6:DS}{σ:St}{H H':Hp}(f:RF K F S M τ σ H){X:List Addr}(r1:R K S M t6 σ H')(c:Chg M H H')(lk:Like τ t6)(ok:t6.all okM=true)(hX:∀a∈X,H a=none)(h':∀a∈X,Lv H' a) :
  RF K F (λb=>S b\/b∈X) M t6 σ H':=by
 have f1:=f.step r1 c lk
 exact⟨f.r.hideX r1 c lk (λj o e=>cz.mp ok (some o.L) (cj e)) hX h',λb h=>.inl (f.sS b h),f1.old,f.new,f.fm,f.fs,f.fsub,λb h=>h.elim (f.snew b) λz=>.inr (f.hnone (hX b z)),f.par,f1.pm,f.fma⟩
theorem RF.newG{F:Frm}{S M:Addr->Prop}{τ:DS}{σ:St}{H:Hp}(f:RF K F S M τ σ H){X:List Addr}{i:Nat}{d:PyData}{v:V}(hi:i<τ.length)(hnp:F.ar.length<=i)(hS:∀a∈X,S a)(hM:∀a∈X,¬M a)(hF:∀a∈X,F.H a=none)(hn:X.Nodup)
  (h:DpT K S H d v X):RF K F S (λb=>M b\/b∈X) (τ.set i (some (.g d))) (σ.set i (some v)) H:=by
 have hs:i<σ.length:=by rw[f.r.len];exact hi
 have ne:∀j,j≠i->(τ.set i (some (.g d)))[j]?=τ[j]?:=λj hj=>R' (Ne.symm hj)
 have ne':∀j,j≠i->(σ.set i (some v))[j]?=σ[j]?:=λj hj=>R' (Ne.symm hj)
 have se:(τ.set i (some (.g d)))[i]?=some (some (.g d)):=V' hi
 have se':(σ.set i (some v))[i]?=some (some v):=V' hs
 have own:∀(j:Nat) (ys:Ow),(τ.set i (some (.g d)))[j]?=some (some ys.L)->j≠i/\τ[j]?=some (some ys.L):=λj ys e=>by
  by_cases hj:j=i
  ·subst hj;rw[se]at e;exact absurd (G' (G' e)).symm Ow.not_g
  ·rw[ne j hj]at e;exact⟨hj,e⟩
 have jn:∀{j:Nat} {v:V},F.ar[j]?=some (some v)->j≠i:=λ{j v} e z=>by
  subst z
  have:=(K'.mp e).1
  omega
 refine⟨⟨by rw[cV,cV];exact f.r.len,λj x e=>?_,λj ys e=>?_,λj ys e=>?_,λj1 j2 ys zs b e1 e2 f1 f2=>?_,λb h=>h.elim (f.r.sub b) (hS b),f.r.ex,?_⟩,f.sS,f.old,λb h=>h.elim (f.new b) λz=>.inr (hF b z),λb h=>.inl (f.fm b h),f.fs,f.fsub,f.snew,λj v e=>?_,λj v e=>?_,f.fma⟩
 ·by_cases hj:j=i
  ·subst hj;rw[se]at e;cases e
  ·rw[ne j hj]at e
   rw[ne' j hj]
   exact f.r.dat j x e
 ·obtain⟨hj,e⟩:=own j ys e
  rw[ne' j hj]
  obtain⟨b,us,h1,h2,h3,h4⟩:=f.r.mt j ys e
  exact⟨b,us,h1,.inl h2,h3,h4⟩
 ·by_cases hj:j=i
  ·subst hj;rw[se]at e;cases e
  ·rw[ne j hj]at e
   rw[ne' j hj]
   exact f.r.cst j ys e
 ·obtain⟨h1,e1⟩:=own _ _ e1
  obtain⟨h2,e2⟩:=own _ _ e2
  rw[ne' j1 h1]at f1
  rw[ne' j2 h2]at f2
  exact f.r.inj _ _ _ _ b e1 e2 f1 f2
 ·obtain⟨φ,g⟩:=f.r.gr
  refine⟨λj=>if j=i then X else φ j,λj x e=>?_⟩
  by_cases hj:j=i
  ·subst hj
   rw[se]at e;cases e
   simp only[if_true]
   refine⟨⟨v,se',h⟩,hn,λa ha=>.inr ha,λj' o a z1 z2 ha=>?_,λj' x' hj' z a ha=>?_⟩
   ·obtain⟨q1,q2⟩:=own j' o z1
    rw[ne' j' q1]at z2
    obtain⟨b,us,h1,h2,_⟩:=f.r.mt j' o q2
    rw[z2]at h1;cases h1
    exact hM a ha h2
   ·rw[if_neg hj']
    intro hq
    rw[ne j' hj']at z
    obtain⟨_,_,q4,_,_⟩:=g j' x' z
    exact hM a ha (q4 a hq)
  ·dsimp only
   simp only[if_neg hj]
   rw[ne j hj]at e
   obtain⟨⟨v',q1,q2⟩,q3,q4,q5,q6⟩:=g j x e
   refine⟨⟨v',by rw[ne' j hj];exact q1,q2⟩,q3,λa ha=>.inl (q4 a ha),λj' o a z1 z2=>?_,λj' x' hj' z a ha=>?_⟩
   ·obtain⟨w1,w2⟩:=own j' o z1
    rw[ne' j' w1]at z2
    exact q5 j' o a w2 z2
   ·by_cases hj2:j'=i
    ·rw[if_pos hj2];exact λhq=>hM a hq (q4 a ha)
    ·rw[if_neg hj2]
     rw[ne j' hj2]at z
     exact q6 j' x' hj' z a ha
 ·rw[ne' j (jn e)]
  exact f.par j v e
 ·rw[ne j (jn e)]
  exact f.pm j v e
structure EG(K:KW)(t:TE)(f:DX):Prop where
 like:∀τ d t7,f τ=some (d,t7)->Like τ t7
 isl:∀τ d t7,f τ=some (d,t7)->∃ds,d = .list ds
 run:∀S M τ σ H (Q:VK) d t7,R K S M τ σ H->f τ=some (d,t7)->(∀v H' F,R K S M t7 σ H'->Chg M H H'->F.Nodup->(∀a∈F,H a=none)->Dp K S H' d v F->Q v H')->t σ H Q
structure EH(K:KW)(t:TE)(f:DX):Prop where
 like:∀τ d t7,f τ=some (d,t7)->Like τ t7
 run:∀S M τ σ H (Q:VK) d t7,R K S M τ σ H->f τ=some (d,t7)->(∀v H' F,R K S M t7 σ H'->Chg M H H'->F.Nodup->(∀a∈F,H a=none)->Dp K S H' d v F->Q v H')->t σ H Q
theorem EG.h{t:TE}{f:DX}(h:EG K t f):EH K t f:=⟨h.like,h.run⟩
theorem Zc{S:Addr->Prop}{H H':Hp}{ds:List PyData}{v:V}{F:List Addr}(hn:F.Nodup)(hF:∀a∈F,H a=none)(hS:∀a,H a=none->¬S a)(h:Dp K S H' (.list ds) v F):Res K true S H H' (.list ds) v:=by
 obtain⟨a,vs,G,rfl,rfl,ha,l⟩:=h
 obtain⟨na,nG⟩:=cP.mp hn
 refine⟨.l ds,a,.lst vs,rfl,rfl,hF a (J' ..),ha,vs,rfl,l.is (Dd λb z=>?_) λb hb z=>?_⟩
 ·rcases z with z|rfl
  ·exact .inl z
  ·exact .inr ⟨_,ha,.inl (.inl ⟨vs,rfl⟩)⟩
 ·rcases z with z|rfl
  ·exact hS b (hF b (E' _ hb)) z
  ·exact na hb
theorem EG.e{t:TE}{f:DX}(h:EG K t f):E K t true f:=by
 refine⟨h.like,λS M τ σ H Q d t7 r e q=>h.run S M τ σ H Q d t7 r e λv H' F r' c hn hF hd=>?_⟩
 obtain⟨ds,rfl⟩:=h.isl _ _ _ e
 exact q v H' r' c (Zc hn hF (λ_=>r.fresh) hd)
def dFx(f:DX)(τ:DS):Option (PyData×DS):=(f τ).bind λp=>match p.1 with
 |.list ds=>if fixDs ds=true then some p else none
 |_=>none
theorem OD{f:DX}{τ t7:DS}{d:PyData}(e:dFx f τ=some (d,t7)):∃ds,d = .list ds/\fixDs ds=true/\f τ=some (.list ds,t7):=by
 unfold dFx at e
 obtain⟨⟨x,t6⟩,e1,e⟩:=oB e
 cases x with
 |list ds =>
  have e:(if fixDs ds=true then some (PyData.list ds,t6) else none)=some (d,t7):=e
  split at e
  ·rename_i h
   cases e
   exact⟨ds,rfl,h,e1⟩
  ·cases e
 |_=>cases e
theorem MN{t:TE}{f:DX}(h:E K t true f):EG K t (dFx f):=by
 refine⟨λτ d t7 e=>?_,λτ d t7 e=>?_,?_⟩
 ·obtain⟨ds,rfl,_,e1⟩:=OD e;exact h.like _ _ _ e1
 ·obtain⟨ds,rfl,_⟩:=OD e;exact⟨ds,rfl⟩
 intro S M τ σ H Q d t7 r e q
 obtain⟨ds,rfl,fx,e1⟩:=OD e
 refine h.run S M τ σ H Q _ t7 r e1 λv H' r' c res=>?_
 obtain⟨o,a,ho,e2,rfl,h1,h2,h3⟩:=res
 obtain rfl:=Ow.D_list e2
 obtain⟨vs,rfl,l⟩:=h3
 exact q _ H' [a] r' c (by simp) (λb hb=>by rw[cW.mp hb];exact h1) ⟨a,vs,[],rfl,rfl,h2,DpL.fix fx (l.mono (Bf λb z=>.inl z))⟩
def EL(np i:Nat)(e:DX)(τ:DS):Option Out:=(e τ).bind λp=>if np<=i/\i<p.2.length/\p.2.all okM=true then some (.nx (p.2.set i (some (.g p.1)))) else none
variable {np:Nat}
theorem aQ{fr:Bool}{i:Nat}{te:TE}{e:DX}(he:EH K te e):B K np (NK te (K1 i)) fr (EL np i e):=by
 intro F S M τ σ H D out hnp f ee q
 unfold EL at ee
 obtain⟨⟨x,t6⟩,e1,ee⟩:=oB ee
 dsimp only at ee
 split at ee
 ·rename_i hi
  cases ee
  refine he.run S M τ σ H _ x t6 f.r e1 λv H1 X r1 c1 hn hX hd=>?_
  have lk:=he.like _ _ _ e1
  have f1:=f.hideG r1 c1 lk hi.2.2 hX hd.lst
  have ts:TSm (hid S H1) (hid (λb=>S b\/b∈X) H1):=Dd λb z=>z.elim .inl λz=>let ⟨_,e,tt⟩:=hd.lst b z;.inr ⟨_,e,.inl tt⟩
  exact q _ _ _ _ (f1.newG hi.2.1 (cm hnp hi.1) (λa ha=>.inr ha) (λa ha z=>f.r.fresh (hX a ha) (f.r.sub a z)) (λa ha=>f.hnone (hX a ha)) hn (DpT.of (hd.mono ts λ_ _=>rfl))) λb o hn e=>⟨λz=>z.elim hn (λz=>by rw[hX b z]at e;cases e),c1 b o (λz=>hn (f.r.sub b z)) e⟩
 ·cases ee
theorem IP{fr:Bool}{i:Nat}{te:TE}{e:DX}(he:EG K te e):B K np (NK te (K1 i)) fr (EL np i e):=aQ he.h
theorem T3{fr:Bool}{te:TE}{i:Nat}{e:DX}(he:EG K te e):B K np (λD σ H=>te σ H λv H'=>D.nx (σ.set i (some v)) H') fr (EL np i e):=IP he
def Pz(i:Nat)(τ:DS):Option Out:=match τ[i]? with
 |some (some (.g (.list ds)))=>some (.rt (.list ds) τ)
 |_=>none
def set2(rows:List PyData)(y x:Int)(d:PyData):Option (List PyData):=(ixN rows.length y).bind λa=>match rows[a]? with
 |some (.list cs)=>if fixDs cs=true then (ixN cs.length x).map λb=>rows.set a (.list (cs.set b d)) else none
 |_=>none
theorem VF{rows rows':List PyData}{y x:Int}{d:PyData}(h:set2 rows y x d=some rows'):∃a b cs,ixN rows.length y=some a/\rows[a]?=some (.list cs)/\fixDs cs=true/\ixN cs.length x=some b/\rows'=rows.set a (.list (cs.set b d)):=by
 unfold set2 at h
 obtain⟨a,e1,h⟩:=oB h
 split at h
 ·rename_i cs hc
  split at h
  ·rename_i hf
   obtain⟨b,e2,h⟩:=oM h
   exact⟨a,b,cs,e1,hc,hf,e2,h.symm⟩
  ·cases h
 ·cases h
def HK(i:Nat)(e e1 e2:DX)(τ:DS):Option Out:=match τ[i]? with
 |some (some (.g (.list rows)))=>(e (τ.set i (some (.d (.list rows))))).bind λp=>(e1 p.2).bind λq=>(e2 q.2).bind λw=>match q.1,w.1 with
  |.int y,.int x=>if F5 p.1=true/\w.2.all okM=true then (set2 rows y x p.1).map λrows'=>.nx (w.2.set i (some (.g (.list rows')))) else none
  |_,_=>none
 |_=>none
theorem U1{fr f0 f1 f2:Bool}{i:Nat}{te t1 t2:TE}{e e1 e2:DX}(he:E K te f0 e)(h1:E K t1 f1 e1)(h2:E K t2 f2 e2):B K np (NK te (YZ (tOp (VI K) (Fg i) t1) t2 WQ)) fr (HK i e e1 e2):=by
 intro F S M τ σ H D out hnp f ee q
 unfold HK at ee
 split at ee
 ·rename_i rows hi
  obtain⟨⟨x3,t6⟩,ea,ee⟩:=oB ee
  obtain⟨⟨y1,t8⟩,eb,ee⟩:=oB ee
  obtain⟨⟨y2,l0⟩,ec,ee⟩:=oB ee
  dsimp only at ee
  split at ee
  ·rename_i y x _
   split at ee
   ·rename_i hc
    obtain⟨fx,ok⟩:=hc
    obtain⟨rows',es,ee⟩:=oM ee
    cases ee
    obtain⟨ya,xb,cs,iy,hr,hf,ix,rfl⟩:=VF es
    obtain⟨v,X,hv,hd,hn,hM,ho,rz⟩:=XA f.r hi
    have hS:∀a∈X,S a:=λa ha=>f.r.sub a (hM a ha)
    have lk:Like (τ.set i (some (.d (.list rows)))) l0:=((he.like _ _ _ ea).trans (h1.like _ _ _ eb)).trans (h2.like _ _ _ ec)
    have onX:∀{Hx:Hp},Chg (λb=>M b/\b∉X) H Hx->∀a∈X,Hx a=H a:=λ{Hx} cx a ha=>by
     obtain⟨_,z,tt⟩:=hd.lst a ha
     rw[z];exact cx a _ (λz=>z.2 ha) z
    have kp:∀{Hx:Hp},Chg (λb=>M b/\b∉X) H Hx->Keep S H S Hx:=λ{Hx} cx b o h z=>⟨h,cx b o (λz=>h (f.r.sub b z.1)) z⟩
    refine he.weak.run _ _ _ σ H _ x3 t6 rz ea λv3 Ha ra ca ia=>?_
    refine⟨v,hv,h1.weak.run _ _ t6 σ Ha _ _ t8 ra eb λu Hb rb cb ib=>?_⟩
    cases (show u = .int y from ib)
    have cB:Chg (λb=>M b/\b∉X) H Hb:=ca.trans cb
    -- the row,as it stands in H
    obtain⟨a,vs,p,cvs,rfl,ha,hvl,aX,hp,pX,hpp,hcl,_⟩:=Dp.set2 (x:=0) hd hn hS hr hf (d3:=.none) (v3:=.non) rfl rfl
    refine⟨a,vs,y,.ref p,rfl,rfl,SqL.of (by rw[onX cB a aX];exact ha),by unfold atI;rw[hvl,iy];exact hp,?_⟩
    refine h2.weak.run _ _ t8 σ Hb _ _ l0 rb ec λw Hc rc cc ic=>?_
    cases (show w = .int x from ic)
    have cC:Chg (λb=>M b/\b∉X) H Hc:=cB.trans cc
    refine⟨p,cvs,x,xb,rfl,rfl,by rw[onX cC p pX];exact hpp,by rw[hcl];exact ix,?_⟩
    have hdc:Dp K S Hc (.list rows) (.ref a) X:=hd.mono (tsS (kp cC).same) (onX cC)
    have i3 : Is K (hid S Hc) x3 v3 := Is.monoT (λb o z nl ne => by
     obtain⟨z1,z2⟩:=hid_iff.mp z
     have hb:b∉X:=λhb=>by
      obtain⟨_,zz,tt⟩:=hd.lst b hb
      rw[<- onX ca b hb,z2]at zz;cases zz;exact nl tt
     have hs:¬S b:=λhs=>z1 ⟨hs,hb⟩
     exact hid_iff.mpr ⟨hs,(cb.trans cc) b o (λz=>hs (f.r.sub b z.1)) z2⟩) fx ia
    obtain⟨a',vs',p',cvs',e0,ha',hvl',aX',hp',pX',hpp',hcl',hd4⟩:=Dp.set2 (x:=xb) hdc hn hS hr hf fx i3
    cases e0
    rw[onX cC a aX,ha]at ha'
    cases ha'
    rw[hp]at hp'
    cases hp'
    rw[onX cC p pX,hpp]at hpp'
    cases hpp'
    have r4:=V5 (H4:=upd Hc p (.lst (cvs.set xb v3))) f.r hi hv hn hM ho rc lk cC ok (λb hb=>Lv.eq (onX cC b hb) (hd.lst b hb)) (λb hb=>AR λz=>hb (z▸pX)) hd4
    have c4:Chg M H (upd Hc p (.lst (cvs.set xb v3))):=λb o h z=>by
     have hb:b≠p:=λw=>h (by rw[w];exact hM p pX)
     rw[AR hb]
     exact cC b o (λz=>h z.1) z
    have hlt:i<τ.length:=(K'.mp hi).1
    refine q S M σ _ ⟨r4,f.sS,λb o e n=>c4 b o (λz=>(f.new b z).elim n λw=>by rw[w]at e;cases e) (f.old b o e n),f.new,f.fm,f.fs,f.fsub,f.snew,f.par,λj v' e=>?_,f.fma⟩ (c4.keep f.r.sub)
    obtain⟨o,ho'⟩:=f.pm j v' e
    have hj:j≠i:=λz=>by subst z;rw[hi]at ho';exact Ow.not_g (G' (G' ho')).symm
    obtain⟨o2,h2'⟩:=(lk.own j).mpr ⟨o,by rw[R' (Ne.symm hj)];exact ho'⟩
    exact⟨o2,by rw[R' (Ne.symm hj)];exact h2'⟩
   ·cases ee
  ·cases ee
 ·cases ee
variable {K:KW}
theorem XI{own:Nat}{fr:List Nat}{wi:TI}{it:DI}{tg:TG}{g:DG}{tc:TT}{c:DT}{te:TE}{e:DX}(hi:IT K wi it)(hg:TG1 K tg g)(hc:T K tc c)(he:EH K te e):EG K (tLC own fr wi tg tc te) (dLC own fr it g c e):=by
 refine⟨λτ d t7 e=>?_,λτ d t7 e=>?_,?_⟩
 ·unfold dLC at e
  obtain⟨⟨x,t6⟩,e1,e⟩:=oB e
  split at e
  ·obtain⟨z,e3,e⟩:=oM e
   cases e;exact hi.like _ _ _ e1
  ·cases e
 ·unfold dLC at e
  obtain⟨⟨x,t6⟩,e1,e⟩:=oB e
  split at e
  ·obtain⟨z,e3,e⟩:=oM e
   cases e;exact⟨_,rfl⟩
  ·cases e
 intro S M τ σ H Q d t7 r ee q
 unfold dLC at ee
 obtain⟨⟨ds,t6⟩,e1,ee⟩:=oB ee
 split at ee
 ·rename_i hz
  obtain⟨hz,hnm⟩:=hz
  have hz:ds.length<=sizeLine:=hz
  obtain⟨⟨acc,t9⟩,e3,ee⟩:=oM ee
  obtain⟨rfl,rfl⟩:d = .list acc/\t7=t6:=by cases ee;exact⟨rfl,rfl⟩
  refine hi.run S M τ σ H _ ds _ r e1 λJ H1 r1 c1 iJ=>?_
  intro D hD
  refine⟨λi m ys σ' H'=>∃l5 acc' G,R K (λb=>S b\/b∈D::G) (λ_=>False) l5 σ' H'/\Keep S H1 (λb=>S b\/b∈D::G) H'/\Chg (λb=>b=D) H1 H'/\DpL K (λb=>S b\/b∈D::G) H' acc' ys G/\(D::G).Nodup/\(∀a∈G,H1 a=none)/\H' D=some (.lst ys)/\ys.length<=i/\i<=ds.length/\m=ds.length-i/\BN g c e (ds.drop i) acc' l5=some (acc,t9),?_,?_⟩
  ·have s:=BF hD (HO.lst [])
   have k:Keep S H1 (λb=>S b\/b∈[D]) (upd H1 D (.lst [])):=λb o hn e=>by
    have:=Af e hD
    exact⟨λz=>z.elim hn λz=>this (cW.mp z),s b o e⟩
   refine⟨ds.length,Ff own fr t7,[],[],⟨?_,?_,?_,?_,?_,λa h=>h.elim,?_,GR.nil OI⟩,k,.of s,⟨rfl,rfl⟩,by simp,λ_ h=>by simp at h,AW,W' _,cZ _,by simp,by simpa using e3⟩
   ·unfold blk Ff;simp
   ·intro i x e
    obtain⟨kk,j,rfl,ej,et⟩:=Bi e
    obtain⟨v,h1,h2⟩:=r1.dat j x et
    exact⟨v,E1 ej h1,h2.mono k.same⟩
   ·intro i xs e
    obtain⟨kk,j,rfl,ej,et⟩:=Bi e
    have:=cz.mp hnm j (cj ej)
    rw[isM_iff.mpr ⟨xs,et⟩]at this
    cases this
   ·intro i x e
    obtain⟨kk,j,rfl,ej,et⟩:=Bi e
    obtain⟨a,vs,h1,h2,h3⟩:=r1.cst j x et
    exact⟨a,vs,E1 ej h1,k.same.seq h2,h3.mono k.same⟩
   ·intro i j xs ys a e
    obtain⟨kk,j',rfl,ej,et⟩:=Bi e
    have:=cz.mp hnm j' (cj ej)
    rw[isM_iff.mpr ⟨xs,et⟩]at this
    cases this
   ·rintro a (h|h)
    ·obtain⟨o,e⟩:=r1.ex a h
     exact⟨o,s _ _ e⟩
    ·rw[cW.mp h];exact⟨_,AW⟩
  ·rintro i m ys σ' H' ⟨l5,acc',G,rb,k,ch,la,hG,hG1,hHD,hyl,hil,rfl,hl⟩
   obtain⟨I1,I2⟩:=iJ _ _ k
   by_cases hlt:i<ds.length
   ·right
    have ed:ds[i]?=some ds[i]:=Y' hlt
    obtain⟨go,yl⟩:=I1 i _ ed
    refine⟨go,λx H2 y=>?_⟩
    obtain⟨rfl,ix⟩:=yl x H2 y
    rw[dQ hlt,BN]at hl
    obtain⟨t8,e2,hl⟩:=oB hl
    obtain⟨⟨b,l0⟩,e4,hl⟩:=oB hl
    refine hg.run _ _ l5 σ' H2 x _ t8 _ rb ix e2 λσ3 r3 k3=>?_
    refine hc.run _ _ t8 σ3 H2 _ b l0 r3 e4 λH4 r4 c4=>?_
    have s4:Same H2 H4:=λb o e=>c4 b o (λz=>z) e
    have on4:∀{Hx:Hp},Same H2 Hx->∀a∈G,Hx a=H2 a:=λ{Hx} s a ha=>by
     obtain⟨_,z,tt⟩:=la.lst a ha
     rw[z];exact s _ _ z
    cases b with
    |false =>
     rw[if_neg ck]
     exact⟨ds.length-(i+1),by omega,l0,acc',G,r4,k.trans (Same.keep s4),ch.trans (.of s4),la.mono (tsS (Same.keep s4).same) (on4 s4),hG,hG1,s4 _ _ hHD,by omega,hlt,rfl,hl⟩
    |true =>
     rw[if_pos rfl]
     rw[if_pos rfl]at hl
     obtain⟨⟨z,l6⟩,e5,hl⟩:=oB hl
     refine he.run _ _ l0 σ3 H4 _ z l6 r4 e5 λv H5 X r5 c5 hnX hX hd=>?_
     have s45:Same H4 H5:=λb o e=>c5 b o (λz=>z) e
     have s5:Same H2 H5:=s4.trans s45
     have hD5:=s5 _ _ hHD
     have r6:=r4.hideX r5 c5 (he.like _ _ _ e5) (λj o e=>by obtain⟨_,_,_,h,_⟩:=r5.mt j o e;exact h.elim) hX hd.lst
     have DX:D∉X:=λz=>by have:=hX D z;rw[s4 _ _ hHD]at this;cases this
     have GX:∀a∈G,a∉X:=λa ha z=>by
      obtain⟨_,w,tt⟩:=la.lst a ha
      have:=hX a z;rw[s4 _ _ w]at this;cases this
     have eS:∀b,(S b\/b∈D::(G++X))↔((S b\/b∈D::G)\/b∈X):=λb=>by
      rw[X',X',cN,or_assoc,or_assoc]
     have eS':(λb=>(S b\/b∈D::G)\/b∈X)=λb=>S b\/b∈D::(G++X):=funext λb=>propext (eS b).symm
     rw[eS']at r6
     have hDS:S D\/D∈D::(G++X):=.inr (J' ..)
     have kk:Keep (λb=>S b\/b∈D::(G++X)) H5 (λb=>S b\/b∈D::(G++X)) (upd H5 D (.lst (ys++[v]))):=λb o hn e=>⟨hn,by rw[AR (λz=>hn (by rw[z];exact hDS))];exact e⟩
     have k5:Keep (λb=>S b\/b∈D::G) H2 (λb=>S b\/b∈D::(G++X)) H5:=λb o hn e=>⟨λz=>((eS b).mp z).elim hn (λz=>by have:=hX b z;rw[s4 _ _ e]at this;cases this),s5 _ _ e⟩
     have tX:TSm (hid (λb=>S b\/b∈D::G) H5) (hid (λb=>S b\/b∈D::(G++X)) H5):=Dd λb z=>((eS b).mp z).elim .inl λz=>let ⟨_,e,tt⟩:=hd.lst b z;.inr ⟨_,e,.inl tt⟩
     have hu:hid (λb=>S b\/b∈D::(G++X)) (upd H5 D (.lst (ys++[v])))=hid (λb=>S b\/b∈D::(G++X)) H5:=FL hDS
     have DG:D∉G:=(cP.mp hG).1
     refine⟨hD5,by omega,ds.length-(i+1),by omega,l6,acc'++[z],G++X,?_,(k.trans k5).trans kk,?_,?_,?_,?_,AW,by rw[cT,dH];omega,hlt,rfl,hl⟩
     ·refine⟨r6.len,λj x e=>let ⟨u,a,b⟩:=r6.dat j x e;⟨u,a,b.mono kk.same⟩,λj xs e=>let ⟨_,_,_,h,_⟩:=r6.mt j xs e;h.elim,λj xs e=>let ⟨a,vs,h1,h2,h3⟩:=r6.cst j xs e;⟨a,vs,h1,kk.same.seq h2,h3.mono kk.same⟩,r6.inj,λ_ h=>h.elim,λa h=>?_,r6.gr.to (λi d e=>⟨e,rfl⟩) (λj o a e q=>.inl ⟨o,e,q⟩) (λa h _=>h.elim) (tsS kk.same)⟩
      by_cases e:a=D
      ·subst e;exact⟨_,AW⟩
      ·obtain⟨o,q⟩:=r6.ex a h
       exact⟨o,by rw[AR e];exact q⟩
     ·refine ch.trans λb o hn e=>?_
      rw[AR hn]
      exact s5 _ _ e
     ·have l1:DpL K (λb=>S b\/b∈D::(G++X)) (upd H5 D (.lst (ys++[v]))) acc' ys G:=la.mono (tsS (k5.trans kk).same) λa ha=>by
       have hb:a≠D:=λw=>DG (by rw[<- w];exact ha)
       rw[AR hb];exact on4 s5 a ha
      have l2:Dp K (λb=>S b\/b∈D::(G++X)) (upd H5 D (.lst (ys++[v]))) z v X:=hd.mono (by rw[hu];exact tX) λa ha=>AR λz=>DX (z▸ha)
      exact l1.snoc l2
     ·refine cP.mpr ⟨λz=>(cN.mp z).elim DG DX,cg.mpr ⟨(cP.mp hG).2,hnX,λa ha b hb z=>GX a ha (z▸hb)⟩⟩
     ·intro a ha
      rcases cN.mp ha with ha|ha
      ·exact hG1 a ha
      ·cases z:H1 a with
       |none=>rfl
       |some o =>
        exfalso
        have h4:=hX a ha
        have:a≠D:=λw=>DX (w▸ha)
        have h2:=ch a o this z
        rw[s4 _ _ h2]at h4;cases h4
   ·left
    have e:i=ds.length:=by omega
    subst e
    rw[eJ,BN]at hl
    cases hl
    refine⟨I2 _ (W' _),?_⟩
    have s:Same H1 H':=λb o e=>ch b o (Af e hD) e
    refine q _ H' (D::G) (r1.same s) (c1.trans (.of s)) hG (λa ha=>?_) ⟨D,ys,G,rfl,rfl,hHD,la.mono (tsS (Bf λb z=>.inl z)) λ_ _=>rfl⟩
    rcases X'.mp ha with rfl|ha
    ·exact r1.none c1 hD
    ·exact r1.none c1 (hG1 a ha)
 ·cases ee
theorem Uo{own:Nat}{fr:List Nat}{wi:TI}{it:DI}{tg:TG}{g:DG}{tc:TT}{c:DT}{te:TE}{e:DX}(hi:IT K wi it)(hg:TG1 K tg g)(hc:T K tc c)(he:EG K te e):EG K (tLC own fr wi tg tc te) (dLC own fr it g c e):=XI hi hg hc he.h
def spG(K:KW)(G:List L->Option (PyData×List L)):Sp:=λvs H Q _=>∃(S:Addr->Prop) (ds:List PyData) (r:PyData) (ls':List L),R K S (λ_=>False) ((ds.map L.d).map some) (vs.map some) H/\G (ds.map L.d)=some (r,ls') /\
 ∀v H' F,Same H H'->F.Nodup->(∀a∈F,H a=none)->Dp K S H' r v F->Q v H'
theorem Fz{G:List L->Option (PyData×List L)}{vs:List V}{H:Hp}{Q:VK}{X:XK}{np:Nat}(hG:∀ls r,G ls=some r->ls.length=np)(h:spG K G vs H Q X):vs.length=np:=by
 obtain⟨S,ds,r,ls',hR,e,_⟩:=h
 have:=hR.len
 rw[B',B']at this
 rw[this,hG _ _ e]
theorem Xj{S M:Addr->Prop}{ls:List L}{vs:List V}{H:Hp}(hR:R K S M (ls.map some) (vs.map some) H)(hng:∀(i:Nat) (d:PyData),ls[i]?≠some (.g d))(nl:Nat):R K S M (ls.map some++List.replicate nl none) (vs.map some++List.replicate nl none) H:=by
 have hvl:vs.length=ls.length:=by have:=hR.len;rw[B',B']at this;exact this
 have lsm:∀(i:Nat) (l:L),(ls.map some++List.replicate nl none:DS)[i]?=some (some l)->ls[i]?=some l:=λi l h=>by
  by_cases hi:i<ls.length
  ·rw[cY (by rw[B'];exact hi)]at h
   obtain⟨x,h1,h2⟩:=GU h
   cases h2;exact h1
  ·rw[cR (by rw[B'];omega),dF]at h
   split at h<;>cases h
 have vsm:∀(i:Nat) (v:V),(vs.map some)[i]?=some (some v)->(vs.map some++List.replicate nl none:St)[i]?=some (some v):=λi v h=>by
  rw[cY (K'.mp h).1];exact h
 have vsb:∀(i:Nat) (v:V),(vs.map some++List.replicate nl none:St)[i]?=some (some v)->(vs.map some)[i]?=some (some v):=λi v h=>by
  by_cases hi:i<(vs.map some).length
  ·rw[cY hi]at h;exact h
  ·rw[cR (by omega),dF]at h
   split at h<;>cases h
 have lm:∀(i:Nat) (l:L),ls[i]?=some l->(ls.map some)[i]?=some (some l):=λi l h=>by rw[U',h];rfl
 refine⟨by simp[hvl],λi x h=>?_,λi x h=>?_,λi x h=>?_,λi j xs ys a h1 h2 h3 h4=>hR.inj i j xs ys a (lm _ _ (lsm _ _ h1)) (lm _ _ (lsm _ _ h2)) (vsb _ _ h3) (vsb _ _ h4),hR.sub,hR.ex,GR.nil λi d h=>hng i d (lsm i _ h)⟩
 ·obtain⟨v,h1,h2⟩:=hR.dat i x (lm _ _ (lsm _ _ h))
  exact⟨v,vsm _ _ h1,h2⟩
 ·obtain⟨a,us,h1,h2⟩:=hR.mt i x (lm _ _ (lsm _ _ h))
  exact⟨a,us,vsm _ _ h1,h2⟩
 ·obtain⟨a,us,h1,h2⟩:=hR.cst i x (lm _ _ (lsm _ _ h))
  exact⟨a,us,vsm _ _ h1,h2⟩
theorem M8{np nl:Nat}{te:TE}{e:DX}{N:List Str}{vs:List V}{H:Hp}{Q:VK}{X:XK}(he:EG K te e)(hN:N.length=np+nl)(h:spG K (B1 true np nl (Be e)) vs H Q X):VC te { nx:=λ_ H'=>Q .non H',rt:=Q } (L2.start N vs) H:=by
 obtain⟨S,ds,r,ls',hR,ee,q⟩:=h
 have hlen:=Aj _ _ ee
 have hvl:vs.length=(ds.map L.d).length:=by have:=hR.len;rw[B',B']at this;exact this
 unfold B1 at ee
 rw[if_pos hlen]at ee
 obtain⟨o,e1,ee⟩:=oB ee
 have est:L2.start N vs=vs.map some++List.replicate nl none:=by
  unfold L2.start
  rw[hN,hvl,hlen,ez]
 rw[est]
 have r0:=Xj hR (λi d h=>by rw[U']at h;cases q:ds[i]? with|none=>rw[q]at h;cases h|some d=>rw[q]at h;cases h) nl
 unfold Be at e1
 obtain⟨⟨x,t6⟩,e2,e1⟩:=oM e1
 subst e1
 obtain⟨ls1,e3,ee⟩:=oM ee
 cases ee
 exact he.run S _ _ _ H _ x t6 r0 e2 λv H' F _ c hn hF hd=>q v H' F (λb o z=>c b o (λw=>w) z) hn hF hd
theorem Um{G:List L->Option (PyData×List L)}{t:TA}{a:DA}{X:XK}(ha:A K t a):EH K (Ke (spG K G) [] X t) (AX G a):=by
 refine⟨λτ d t7 e=>?_,?_⟩
 ·unfold AX at e
  obtain⟨⟨x,t6⟩,e1,e⟩:=oB e
  obtain⟨ds,e2,e⟩:=oB e
  obtain⟨z,e3,e⟩:=oM e
  cases e;exact ha.like _ _ _ e1
 intro S M τ σ H Q d t7 rr e q
 unfold AX at e
 obtain⟨⟨x,t6⟩,e1,e⟩:=oB e
 obtain⟨ds,e2,e⟩:=oB e
 obtain⟨⟨z,ls'⟩,e3,e⟩:=oM e
 cases e
 refine ha.run S M τ σ H _ x _ rr e1 λvs H1 r1 c1 i1=>?_
 have l:=Cy i1 e2
 show spG K G (vs++[]) H1 Q X
 rw[dM]
 refine⟨S,ds,_,ls',Io r1 l,e3,λv H' F s hn hF hd=>?_⟩
 exact q v H' F (r1.same s) (c1.trans (.of s)) hn (λa ha=>r1.none c1 (hF a ha)) hd
def dLs(f:DX)(τ:DS):Option (PyData×DS):=(f τ).bind λp=>match p.1 with
 |.list _=>some p
 |_=>none
theorem Ew{f:DX}{τ t7:DS}{d:PyData}(e:dLs f τ=some (d,t7)):f τ=some (d,t7)/\∃ds,d = .list ds:=by
 unfold dLs at e
 obtain⟨⟨x,t6⟩,e1,e⟩:=oB e
 cases x with
 |list ds=>cases e;exact⟨e1,_,rfl⟩
 |_=>cases e
theorem Bu{G:List L->Option (PyData×List L)}{t:TA}{a:DA}{X:XK}(ha:A K t a):EG K (Ke (spG K G) [] X t) (dLs (AX G a)) :=
 ⟨λ_ _ _ e=>(Um (X:=X) ha).like _ _ _ (Ew e).1,λ_ _ _ e=>(Ew e).2,λS M τ σ H Q d t7 r e q=>(Um ha).run S M τ σ H Q d t7 r (Ew e).1 q⟩
variable {K:KW}
theorem Zt{X:Cx}{N:List Str}{scope2:Scope}{cl:List (Str×Addr)}{fp:List Addr}{s3:Shared}{H3:Hp}{N':List Str}{own:Nat}{fr:List Nat}{scope:Scope}(h:(Wo N' own fr scope N scope2&&scope2.names.all λy=>y.2 != .cell)=true):V4 (cxC X N scope2 cl fp s3 H3) N' own fr scope:=by
 rw[cw]at h
 have o:=Fo (X:={ X with N:=N,env:={ X.env with scope:=scope2 } }) rfl rfl h.1
 refine⟨o.kind,o.len,o.cell,o.names,λx hx=>?_,o.slot⟩
 show(relabel scope2 X.env).names.lookup x=some .cell\/(relabel scope2 X.env).names.lookup x=some .free
 rcases o.free x hx with z|z
 ·have:=cz.mp h.2 _ (dv z)
  simp at this
 ·exact QI z
variable {K:KW}
variable {K:KW}
theorem Lc{τ t6:DS}{i:Nat}{d:PyData}(hi:τ[i]?=some (some (.g d)))(lk:Like (τ.set i (some (.d d))) t6):Like τ (t6.set i (some (.g d))):=by
 have hlt:i<τ.length:=(K'.mp hi).1
 have hl1:t6.length=τ.length:=by have:=lk.1;rw[cV]at this;exact this
 refine⟨by rw[cV];exact hl1,λj=>?_⟩
 by_cases hj:j=i
 ·subst hj
  rw[V' (by omega),hi]
  exact⟨⟨λx=>fP,λx=>fP⟩,λb=>fP⟩
 ·have:=lk.2 j
  rw[R' (Ne.symm hj)]at this ⊢
  exact this
theorem L4{S M:Addr->Prop}{τ t6:DS}{σ:St}{H H':Hp}{i:Nat}{d:PyData}{v:V}{F:List Addr}(r:R K S M τ σ H)(hi:τ[i]?=some (some (.g d)))(hv:σ[i]?=some (some v))(hd:Dp K S H d v F)(hn:F.Nodup)(hM:∀a∈F,M a)
  (ho:∀(j:Nat) (o:Ow) (a:Addr),τ[j]?=some (some o.L)->σ[j]?=some (some (.ref a))->a∉F) (r1:R K (λb=>S b/\b∉F) (λb=>M b/\b∉F) t6 σ H') (lk:Like (τ.set i (some (.d d))) t6) (c:Chg (λb=>M b/\b∉F) H H') (ok:t6.all okM=true) :
  R K S M (t6.set i (some (.g d))) σ H'/\TSm (hid (λb=>S b/\b∉F) H') (hid S H'):=by
 have on:∀a∈F,H' a=H a:=λa ha=>by
  obtain⟨_,z,tt⟩:=hd.lst a ha
  rw[z];exact c a _ (λz=>z.2 ha) z
 have kp:Keep S H S H':=λb o h z=>⟨h,c b o (λz=>h (r.sub b z.1)) z⟩
 have l3:∀a∈F,Lv H' a:=λa ha=>Lv.eq (on a ha) (hd.lst a ha)
 refine⟨V5 (H4:=H') r hi hv hn hM ho r1 lk c ok l3 (λ_ _=>rfl) (hd.mono (tsS kp.same) on),λb o e nl ne=>?_⟩
 obtain⟨e1,e2⟩:=hid_iff.mp e
 have hb:b∉F:=λz=>by
  obtain⟨_,q,tt⟩:=l3 b z
  rw[e2]at q;cases q;exact nl tt
 exact hid_iff.mpr ⟨λz=>e1 ⟨z,hb⟩,e2⟩
def OF(i:Nat)(f:DX)(τ:DS):Option (PyData×DS):=match τ[i]? with
 |some (some (.g (.list ds)))=>(f (τ.set i (some (.d (.list ds))))).bind λq=>if F5 q.1&&q.2.all okM then some (q.1,q.2.set i (some (.g (.list ds)))) else none
 |_=>none
theorem OE{i:Nat}{f:DX}{τ t7:DS}{d:PyData}(e:OF i f τ=some (d,t7)):∃ds t6,τ[i]?=some (some (.g (.list ds)))/\f (τ.set i (some (.d (.list ds))))=some (d,t6)/\F5 d=true/\t6.all okM=true/\t7=t6.set i (some (.g (.list ds))):=by
 unfold OF at e
 split at e
 ·rename_i ds hx
  obtain⟨⟨z,t6⟩,e1,e⟩:=oB e
  dsimp only at e
  split at e
  ·rename_i h
   rw[cw]at h
   cases e
   exact⟨ds,t6,hx,e1,h.1,h.2,rfl⟩
  ·cases e
 ·cases e
theorem XN{i:Nat}{fr:Bool}{t:TE}{f:DX}(h:E K t fr f):E K t false (OF i f):=by
 refine⟨λτ d t7 e=>?_,?_⟩
 ·obtain⟨ds,t6,e1,e2,_,_,rfl⟩:=OE e
  exact Lc e1 (h.like _ _ _ e2)
 intro S M τ σ H Q d t7 r e q
 obtain⟨ds,t6,e1,e2,fx,ok,rfl⟩:=OE e
 obtain⟨v,F,hv,hd,hn,hM,ho,rz⟩:=XA r e1
 refine h.weak.run _ _ _ σ H _ d t6 rz e2 λu H' r' c res=>?_
 obtain⟨r2,ts⟩:=L4 r e1 hv hd hn hM ho r' (h.like _ _ _ e2) c ok
 exact q u H' r2 (λb o hb z=>c b o (λw=>hb w.1) z) (Is.monoT ts fx (show Is K (hid (λb=>S b/\b∉F) H') d u from res))
def GO(i:Nat)(f:DT)(τ:DS):Option (Bool×DS):=match τ[i]? with
 |some (some (.g (.list ds)))=>(f (τ.set i (some (.d (.list ds))))).bind λq=>if q.2.all okM then some (q.1,q.2.set i (some (.g (.list ds)))) else none
 |_=>none
theorem MQ{i:Nat}{f:DT}{τ t7:DS}{d:Bool}(e:GO i f τ=some (d,t7)):∃ds t6,τ[i]?=some (some (.g (.list ds)))/\f (τ.set i (some (.d (.list ds))))=some (d,t6)/\t6.all okM=true/\t7=t6.set i (some (.g (.list ds))):=by
 unfold GO at e
 split at e
 ·rename_i ds hx
  obtain⟨⟨z,t6⟩,e1,e⟩:=oB e
  dsimp only at e
  split at e
  ·rename_i h
   cases e
   exact⟨ds,t6,hx,e1,h,rfl⟩
  ·cases e
 ·cases e
theorem Sw{i:Nat}{t:TT}{f:DT}(h:T K t f):T K t (GO i f):=by
 refine⟨λτ d t7 e=>?_,?_⟩
 ·obtain⟨ds,t6,e1,e2,_,rfl⟩:=MQ e
  exact Lc e1 (h.like _ _ _ e2)
 intro S M τ σ H Q d t7 r e q
 obtain⟨ds,t6,e1,e2,ok,rfl⟩:=MQ e
 obtain⟨v,F,hv,hd,hn,hM,ho,rz⟩:=XA r e1
 refine h.run _ _ _ σ H _ d t6 rz e2 λH' r' c=>?_
 obtain⟨r2,ts⟩:=L4 r e1 hv hd hn hM ho r' (h.like _ _ _ e2) c ok
 exact q H' r2 (λb o hb z=>c b o (λw=>hb w.1) z)
variable {K:KW} {np:Nat}
variable {K:KW}
structure AG(K:KW)(t:TA)(f:DS->Option (List PyData×DS)):Prop where
 like:∀τ ds t7,f τ=some (ds,t7)->Like τ t7
 run:∀S M τ σ H (Q:List V->Hp->Prop) ds t7,R K S M τ σ H->f τ=some (ds,t7)->(∀vs H' F,R K S M t7 σ H'->Chg M H H'->F.Nodup->(∀a∈F,H a=none)->DpL K S H' ds vs F->Q vs H')->t σ H Q
def LF(τ:DS):Option (List PyData×DS):=some ([],τ)
theorem KY:AG K J3 LF:=by
 refine⟨λτ ds t7 e=>by cases e;exact .refl,λS M τ σ H Q ds t7 r e q=>?_⟩
 cases e
 exact q [] H [] r .refl du (λa ha=>by cases ha) ⟨rfl,rfl⟩
def Ga(e:DX)(r:DS->Option (List PyData×DS))(τ:DS):Option (List PyData×DS):=(e τ).bind λp=>(r p.2).map λq=>(p.1::q.1,q.2)
theorem ND{te:TE}{t:TA}{e:DX}{g:DS->Option (List PyData×DS)}(he:EG K te e)(hg:AG K t g):AG K (EC te t) (Ga e g):=by
 refine⟨λτ ds t7 ee=>?_,λS M τ σ H Q ds t7 r ee q=>?_⟩
 ·unfold Ga at ee
  obtain⟨⟨x,t6⟩,e1,ee⟩:=oB ee
  obtain⟨⟨y,t8⟩,e2,ee⟩:=oM ee
  cases ee
  exact(he.like _ _ _ e1).trans (hg.like _ _ _ e2)
 unfold Ga at ee
 obtain⟨⟨x,t6⟩,e1,ee⟩:=oB ee
 obtain⟨⟨y,t8⟩,e2,ee⟩:=oM ee
 cases ee
 refine he.run S M τ σ H _ x t6 r e1 λv1 H1 F1 r1 c1 n1 h1 d1=>?_
 refine hg.run S M t6 σ H1 _ y _ r1 e2 λvs H2 F2 r2 c2 n2 h2 d2=>?_
 have nM1:∀a∈F1,¬M a:=λa ha z=>r.fresh (h1 a ha) (r.sub a z)
 have on:∀a∈F1,H2 a=H1 a:=λa ha=>by
  obtain⟨_,z,tt⟩:=d1.lst a ha
  rw[z];exact c2 a _ (nM1 a ha) z
 refine q (v1::vs) H2 (F1++F2) r2 (c1.trans c2) (cg.mpr ⟨n1,n2,λa ha b hb z=>?_⟩) (λa ha=>?_) ⟨v1,vs,F1,F2,rfl,rfl,d1.mono (tsS (c2.keep r1.sub).same) on,d2⟩
 ·subst z
  obtain⟨_,w,tt⟩:=d1.lst a ha
  rw[h2 a hb]at w;cases w
 ·rcases cN.mp ha with ha|ha
  ·exact h1 a ha
  ·exact r1.none c1 (h2 a ha)
def Ig(f:DS->Option (List PyData×DS))(τ:DS):Option (PyData×DS):=(f τ).bind λp=>if p.1.length<=sizeLine then some (.list p.1,p.2) else none
theorem Lr{t:TA}{f:DS->Option (List PyData×DS)}(h:AG K t f):EG K (Xs t) (Ig f):=by
 refine⟨λτ d t7 e=>?_,λτ d t7 e=>?_,λS M τ σ H Q d t7 r e q=>?_⟩
 ·unfold Ig at e
  obtain⟨⟨x,t6⟩,e1,e⟩:=oB e
  dsimp only at e
  split at e
  ·cases e;exact h.like _ _ _ e1
  ·cases e
 ·unfold Ig at e
  obtain⟨⟨x,t6⟩,e1,e⟩:=oB e
  dsimp only at e
  split at e
  ·cases e;exact⟨_,rfl⟩
  ·cases e
 unfold Ig at e
 obtain⟨⟨x,t6⟩,e1,e⟩:=oB e
 dsimp only at e
 split at e
 ·rename_i hz
  cases e
  refine h.run S M τ σ H _ x _ r e1 λvs H1 F r1 c1 hn hF hd=>?_
  refine⟨by rw[hd.length];exact hz,λp hp=>?_⟩
  have s:=BF hp (HO.lst vs)
  have pF:p∉F:=λz=>by
   obtain⟨_,w,tt⟩:=hd.lst p z
   rw[hp]at w;cases w
  refine q _ _ (p::F) (r1.same s) (c1.trans (.of s)) (cP.mpr ⟨pF,hn⟩) (λa ha=>?_) ⟨p,vs,F,rfl,rfl,AW,hd.mono (tsS (Same.keep s).same) λa ha=>AR λz=>pF (z▸ha)⟩
  rcases X'.mp ha with rfl|ha
  ·exact r1.none c1 hp
  ·exact hF a ha
 ·cases e
end DL
end
section
namespace DL
open PySem L2 PyProof.Rows
variable {K:KW}
end DL
end
section
namespace L2
open PySem PySem.Spec PyProof.Rows
section
variable {X:Cx} {a b:Expr} {p pos:Pos} {e:Expr} {es:List Expr} {te:TE} {t:TA}
end
end L2
namespace DL
open PySem L2 PyProof.Rows
variable {K:KW}
abbrev Mir:=List L->Option (PyData×List L)
inductive TMs (T:Addr->Mir->Prop):List (Str×Addr)->List (Str×Mir)->Prop
 |nil:TMs T [] []
 |cons {k:Str} {f:Addr} {G:Mir} {tb:List (Str×Addr)} {tm:List (Str×Mir)} (h:T f G) (r:TMs T tb tm):TMs T ((k,f)::tb) ((k,G)::tm)
end DL
end
section
namespace DL
open PySem L2
variable {K:KW} {np:Nat}
def dFd(f:DX)(τ:DS):Option (PyData×DS):=(f τ).bind λp=>if F5 p.1=true then some p else none
theorem Sb{f:DX}{τ t7:DS}{d:PyData}(e:dFd f τ=some (d,t7)):F5 d=true/\f τ=some (d,t7):=by
 unfold dFd at e
 obtain⟨⟨x,t6⟩,e1,e⟩:=oB e
 dsimp only at e
 split at e
 ·rename_i h
  cases e;exact⟨h,e1⟩
 ·cases e
theorem ZJ{fr:Bool}{t:TE}{f:DX}(h:E K t fr f):EH K t (dFd f):=by
 refine⟨λτ d t7 e=>h.like _ _ _ (Sb e).2,λS M τ σ H Q d t7 r e q=>?_⟩
 obtain⟨fx,e⟩:=Sb e
 exact h.weak.run S M τ σ H Q d t7 r e λv H' r' c res=>q v H' [] r' c du (λa ha=>by cases ha) (Dp.fix fx res)
theorem Ht{te:TE}{t:TA}{e:DX}{g:DS->Option (List PyData×DS)}(he:EH K te e)(hg:AG K t g):AG K (EC te t) (Ga e g):=by
 refine⟨λτ ds t7 ee=>?_,λS M τ σ H Q ds t7 r ee q=>?_⟩
 ·unfold Ga at ee
  obtain⟨⟨x,t6⟩,e1,ee⟩:=oB ee
  obtain⟨⟨y,t8⟩,e2,ee⟩:=oM ee
  cases ee
  exact(he.like _ _ _ e1).trans (hg.like _ _ _ e2)
 unfold Ga at ee
 obtain⟨⟨x,t6⟩,e1,ee⟩:=oB ee
 obtain⟨⟨y,t8⟩,e2,ee⟩:=oM ee
 cases ee
 refine he.run S M τ σ H _ x t6 r e1 λv1 H1 F1 r1 c1 n1 h1 d1=>?_
 refine hg.run S M t6 σ H1 _ y _ r1 e2 λvs H2 F2 r2 c2 n2 h2 d2=>?_
 have nM1:∀a∈F1,¬M a:=λa ha z=>r.fresh (h1 a ha) (r.sub a z)
 have on:∀a∈F1,H2 a=H1 a:=λa ha=>by
  obtain⟨_,z,tt⟩:=d1.lst a ha
  rw[z];exact c2 a _ (nM1 a ha) z
 refine q (v1::vs) H2 (F1++F2) r2 (c1.trans c2) (cg.mpr ⟨n1,n2,λa ha b hb z=>?_⟩) (λa ha=>?_) ⟨v1,vs,F1,F2,rfl,rfl,d1.mono (tsS (c2.keep r1.sub).same) on,d2⟩
 ·subst z
  obtain⟨_,w,tt⟩:=d1.lst a ha
  rw[h2 a hb]at w;cases w
 ·rcases cN.mp ha with ha|ha
  ·exact h1 a ha
  ·exact r1.none c1 (h2 a ha)
def N8(f:DS->Option (List PyData×DS))(τ:DS):Option (PyData×DS):=(f τ).bind λp=>if p.1.length<=sizeLine then some (.tuple p.1,p.2) else none
theorem aD{t:TA}{f:DS->Option (List PyData×DS)}(h:AG K t f):EH K (Xr t) (N8 f):=by
 refine⟨λτ d t7 e=>?_,λS M τ σ H Q d t7 r e q=>?_⟩
 ·unfold N8 at e
  obtain⟨⟨x,t6⟩,e1,e⟩:=oB e
  dsimp only at e
  split at e
  ·cases e;exact h.like _ _ _ e1
  ·cases e
 unfold N8 at e
 obtain⟨⟨x,t6⟩,e1,e⟩:=oB e
 dsimp only at e
 split at e
 ·rename_i hz
  cases e
  refine h.run S M τ σ H _ x _ r e1 λvs H1 F r1 c1 hn hF hd=>?_
  refine⟨by rw[hd.length];exact hz,λp hp=>?_⟩
  have s:=BF hp (HO.tup vs)
  have pF:p∉F:=λz=>by
   obtain⟨_,w,tt⟩:=hd.lst p z
   rw[hp]at w;cases w
  refine q _ _ F (r1.same s) (c1.trans (.of s)) hn hF ⟨p,vs,rfl,SqT.of (hid_iff.mpr ⟨r1.fresh hp,AW⟩),hd.mono (tsS (Same.keep s).same) λa ha=>AR λz=>pF (z▸ha)⟩
 ·cases e
def GlG(K:KW)(F:Frm)(S:Addr->Prop)(H:Hp)(D:Mp):Out->Prop
 |.nx t7=>∀S' M' σ' H',RF K F S' M' t7 σ' H'->Keep S H S' H'->D.nx σ' H'
 |.bk t7=>∀S' M' σ' H',RF K F S' M' t7 σ' H'->Keep S H S' H'->D.bk σ' H'
 |.ct t7=>∀S' M' σ' H',RF K F S' M' t7 σ' H'->Keep S H S' H'->D.ct σ' H'
 |.rt d t7=>∀S' M' σ' (H':Hp) v X,RF K F S' M' t7 σ' H'->X.Nodup->(∀a∈X,F.H a=none)->Dp K F.S H' d v X->D.rt v H'
def BG(K:KW)(np:Nat)(t:TS)(f:DB):Prop:=∀(F:Frm) S M τ σ H (D:Mp) out,F.ar.length<=np->RF K F S M τ σ H->f τ=some out->GlG K F S H D out->t D σ H
theorem GlG.trans{F:Frm}{S S1:Addr->Prop}{H H1:Hp}{D:Mp}{o:Out}(k:Keep S H S1 H1)(h:GlG K F S H D o):GlG K F S1 H1 D o:=by
 cases o with
 |nx τ=>exact λS' M' σ' H' f k'=>h S' M' σ' H' f (k.trans k')
 |bk τ=>exact λS' M' σ' H' f k'=>h S' M' σ' H' f (k.trans k')
 |ct τ=>exact λS' M' σ' H' f k'=>h S' M' σ' H' f (k.trans k')
 |rt d τ=>exact h
def EA(a b:DB)(τ:DS):Option Out:=(a τ).bind λo=>match o with
 |.nx t7=>b t7
 |_=>none
theorem DD{t u:TS}{a b:DB}(ha:B K np t true a)(hb:BG K np u b):BG K np (V9 t u) (EA a b):=by
 intro F S M τ σ H D out hnp f ee q
 unfold EA at ee
 obtain⟨o,e1,ee⟩:=oB ee
 refine ha F S M τ σ H _ o hnp f e1 ?_
 cases o with
 |nx t6=>exact λS' M' σ' H' r k=>hb F S' M' t6 σ' H' D out hnp r ee (q.trans k)
 |bk t6=>cases ee
 |ct t6=>cases ee
 |rt d t6=>cases ee
theorem OJ{te:TE}{e:DX}(he:EG K te e):BG K np (VC te) (Be e):=by
 intro F S M τ σ H D out hnp f ee q
 unfold Be at ee
 obtain⟨⟨x,t6⟩,e1,ee⟩:=oM ee
 subst ee
 refine he.run S M τ σ H _ x t6 f.r e1 λv H' X r' c hn hX hd=>?_
 have f1:=f.step r' c (he.like _ _ _ e1)
 exact q S M σ H' v X f1 hn (λa ha=>f.hnone (hX a ha)) (hd.mono (tsS (Bf f.sS)) λ_ _=>rfl)
theorem NB{i:Nat}:BG K np (VC (Fg i)) (Pz i):=by
 intro F S M τ σ H D out hnp f ee q
 unfold Pz at ee
 split at ee
 ·rename_i ds hi
  cases ee
  obtain⟨v,X,hv,hd,hn,hM,ho,_⟩:=XA f.r hi
  have nf:∀a∈X,F.H a=none:=λa ha=>by
   rcases f.new a (hM a ha)with z|z
   ·obtain⟨j,hj⟩:=f.fma a z
    obtain⟨o,e⟩:=f.pm j _ hj
    exact absurd ha (ho j o a e (f.par j _ hj))
   ·exact z
  exact⟨v,hv,q S M σ H v X f hn nf (hd.mono (tsS (Bf f.sS)) λ_ _=>rfl)⟩
 ·cases ee
theorem K3{np nl:Nat}{t:TS}{b:DB}{N:List Str}{vs:List V}{H:Hp}{Q:VK}{X:XK}(hb:BG K np t b)(hN:N.length=np+nl)(h:spG K (B1 true np nl b) vs H Q X):t { nx:=λ_ H'=>Q .non H',rt:=Q } (L2.start N vs) H:=by
 obtain⟨S,ds,r,ls',hR,ee,q⟩:=h
 have hlen:=Aj _ _ ee
 have hvl:vs.length=(ds.map L.d).length:=by have:=hR.len;rw[B',B']at this;exact this
 unfold B1 at ee
 rw[if_pos hlen]at ee
 obtain⟨o,e1,ee⟩:=oB ee
 have est:L2.start N vs=vs.map some++List.replicate nl none:=by
  unfold L2.start
  rw[hN,hvl,hlen,ez]
 rw[est]
 have r0:=Xj hR (λi d h=>by rw[U']at h;cases q:ds[i]? with|none=>rw[q]at h;cases h|some d=>rw[q]at h;cases h) nl
 have f0:RF K ⟨S,λ_=>False,H,[]⟩ S (λ_=>False) (((ds.map L.d).map some)++List.replicate nl none) (vs.map some++List.replicate nl none) H:=⟨r0,λ_ h=>h,λ_ _ e _=>e,λ_ h=>h.elim,λ_ h=>h,r0.ex,λ_ h=>h.elim,λ_ h=>.inl h,λi v e=>by simp at e,λi v e=>by simp at e,λ_ h=>h.elim⟩
 refine hb ⟨S,λ_=>False,H,[]⟩ S _ _ _ H _ o (cZ _) f0 e1 ?_
 cases o with
 |nx τ=>simp at ee
 |bk τ=>simp at ee
 |ct τ=>simp at ee
 |rt d τ =>
  obtain⟨ls1,e3,ee⟩:=oM ee
  cases ee
  exact λS' M' σ' H' v X f hn hX hd=>q v H' X (λb o z=>f.old b o z λw=>w) hn hX hd
def Ez(i:Nat)(f:DX)(τ:DS):Option (PyData×DS):=match τ[i]? with
 |some (some (.g (.list ds)))=>(f (τ.set i (some (.d (.list ds))))).bind λq=>if q.2.all okM then some (q.1,q.2.set i (some (.g (.list ds)))) else none
 |_=>none
theorem JL{i:Nat}{f:DX}{τ t7:DS}{d:PyData}(e:Ez i f τ=some (d,t7)):∃ds t6,τ[i]?=some (some (.g (.list ds)))/\f (τ.set i (some (.d (.list ds))))=some (d,t6)/\t6.all okM=true/\t7=t6.set i (some (.g (.list ds))):=by
 unfold Ez at e
 split at e
 ·rename_i ds hx
  obtain⟨⟨z,t6⟩,e1,e⟩:=oB e
  dsimp only at e
  split at e
  ·rename_i h
   cases e
   exact⟨ds,t6,hx,e1,h,rfl⟩
  ·cases e
 ·cases e
theorem K7{i:Nat}{t:TE}{f:DX}(h:EG K t f):EG K t (Ez i f):=by
 refine⟨λτ d t7 e=>?_,λτ d t7 e=>?_,?_⟩
 ·obtain⟨ds,t6,e1,e2,_,rfl⟩:=JL e
  exact Lc e1 (h.like _ _ _ e2)
 ·obtain⟨ds,t6,e1,e2,_,rfl⟩:=JL e
  exact h.isl _ _ _ e2
 intro S M τ σ H Q d t7 r e q
 obtain⟨ds,t6,e1,e2,ok,rfl⟩:=JL e
 obtain⟨v,F,hv,hd,hn,hM,ho,rz⟩:=XA r e1
 refine h.run _ _ _ σ H _ d t6 rz e2 λu H' X r' c hn' hX hd'=>?_
 obtain⟨r2,ts⟩:=L4 r e1 hv hd hn hM ho r' (h.like _ _ _ e2) c ok
 exact q u H' X r2 (λb o hb z=>c b o (λw=>hb w.1) z) hn' hX (hd'.mono ts λ_ _=>rfl)
def Uw(np i:Nat)(b:DB)(τ:DS):Option Out:=match τ[i]? with
 |some (some (.k kvs))=>if np<=i then b (τ.set i (some (.d (.dict (BC kvs))))) else none
 |_=>none
theorem U0{i:Nat}{tb:TS}{b:DB}(hb:BG K np tb b):BG K np tb (Uw np i b):=by
 intro F S M τ σ H D out hnp f ee q
 unfold Uw at ee
 split at ee
 ·rename_i kvs hx
  split at ee
  ·rename_i hi
   obtain⟨p,h,hp,_⟩:=f.r.mt i (.t kvs) hx
   have kp:Keep S H (λb=>S b/\b≠p) H:=λb o hn e=>⟨λz=>hn z.1,e⟩
   exact hb F (λb=>S b/\b≠p) (λb=>M b/\b≠p) _ σ H D out hnp (f.frz (w:=.t kvs) hx hp (cm hnp hi)) ee (q.trans kp)
  ·cases ee
 ·cases ee
variable {K:KW} {np:Nat}
abbrev GRp(K:KW)(S M:Addr->Prop)(τ:DS)(σ:St)(H:Hp)(φ:Nat->List Addr):Prop:=∀(i:Nat) (d:PyData),τ[i]?=some (some (.g d)) ->
 (∃v,σ[i]?=some (some v)/\DpT K S H d v (φ i))/\(φ i).Nodup/\(∀a∈φ i,M a)/\(∀(j:Nat) (o:Ow) (a:Addr),τ[j]?=some (some o.L)->σ[j]?=some (some (.ref a))->a∉φ i) /\
  ∀(j:Nat) (d':PyData),j≠i->τ[j]?=some (some (.g d'))->∀a∈φ i,a∉φ j
theorem RF.graft{F:Frm}{S M:Addr->Prop}{τ t7:DS}{σ:St}{H H':Hp}(f:RF K F S M τ σ H){φ:Nat->List Addr}(g:GRp K S M τ σ H φ){i:Nat}{d d':PyData}{v:V}{J:List Nat}{X F':List Addr}
  (hi:τ[i]?=some (some (.g d))) (hv:σ[i]?=some (some v)) (hl:t7.length=τ.length) (hti:t7[i]?=some (some (.g d'))) (ht:∀k,k≠i->t7[k]?=τ[k]?\/(k∈J/\t7[k]?=some none)) (hJ:∀j∈J,t7[j]?=some none/\∃dj,τ[j]?=some (some (.g dj)))
  (hX:∀a∈X,S a/\¬M a/\F.H a=none) (hc:∀b,b∉φ i->H' b=H b) (hex:∀a∈φ i,∃o,H' a=some o) (hd:Dp K S H' d' v F') (hn:F'.Nodup) (hF:∀a∈F',a∈φ i\/(∃j∈J,a∈φ j)\/a∈X) :
  RF K F S (λb=>M b\/b∈X) t7 σ H'/\Keep S H S H':=by
 obtain⟨_,gi3,gi4,gi5,gi6⟩:=g i d hi
 have k:Keep S H S H':=λb o h e=>⟨h,by rw[hc b λz=>h (f.r.sub b (gi4 b z))];exact e⟩
 have ji:∀j∈J,j≠i:=λj hj z=>by
  have:=(hJ j hj).1
  rw[z,hti]at this;cases this
 have old:∀(j:Nat) (l:L),j≠i->t7[j]?=some (some l)->τ[j]?=some (some l)/\j∉J:=λj l hj e=>by
  rcases ht j hj with z|⟨_,z⟩
  ·exact⟨by rw[<- z];exact e,λw=>by rw[(hJ j w).1]at e;cases e⟩
  ·rw[z]at e;cases e
 have own:∀(j:Nat) (o:Ow),t7[j]?=some (some o.L)->j≠i/\τ[j]?=some (some o.L):=λj o e=>by
  have hj:j≠i:=λz=>by subst z;rw[hti]at e;exact absurd (G' (G' e)).symm Ow.not_g
  exact⟨hj,(old j _ hj e).1⟩
 have inM:∀a∈F',M a\/a∈X:=λa ha=>by
  rcases hF a ha with z|⟨j,hj,z⟩|z
  ·exact .inl (gi4 a z)
  ·obtain⟨dj,e⟩:=(hJ j hj).2
   obtain⟨_,_,q4,_⟩:=g j dj e
   exact .inl (q4 a z)
  ·exact .inr z
 have notO:∀(j:Nat) (o:Ow) (a:Addr),τ[j]?=some (some o.L)->σ[j]?=some (some (.ref a))->a∉F':=λj o a e1 e2 ha=>by
  rcases hF a ha with z|⟨j2,hj2,z⟩|z
  ·exact gi5 j o a e1 e2 z
  ·obtain⟨dj,e⟩:=(hJ j2 hj2).2
   obtain⟨_,_,_,q5,_⟩:=g j2 dj e
   exact q5 j o a e1 e2 z
  ·obtain⟨b,us,h1,h2,_⟩:=f.r.mt j o e1
   rw[e2]at h1;cases h1
   exact(hX a z).2.1 h2
 have notG:∀(j:Nat) (x:PyData),j≠i->j∉J->τ[j]?=some (some (.g x))->∀a∈F',a∉φ j:=λj x hj hjJ e a ha hq=>by
  obtain⟨_,_,q4,_,q6⟩:=g j x e
  rcases hF a ha with z|⟨j2,hj2,z⟩|z
  ·exact gi6 j x hj e a z hq
  ·obtain⟨dj,e2⟩:=(hJ j2 hj2).2
   exact q6 j2 dj (λw=>hjJ (w▸hj2)) e2 a hq z
  ·exact(hX a z).2.1 (q4 a hq)
 refine⟨⟨⟨hl▸f.r.len,λj x e=>?_,λj o e=>?_,λj ys e=>?_,λj1 j2 o p b e1 e2 f1 f2=>f.r.inj _ _ _ _ b (own _ _ e1).2 (own _ _ e2).2 f1 f2,λb h=>h.elim (f.r.sub b) λz=>(hX b z).1,λa h=>?_,?_⟩,f.sS,λb o e n=>?_,λb h=>h.elim (f.new b) λz=>.inr (hX b z).2.2,λb h=>.inl (f.fm b h),f.fs,f.fsub,f.snew,f.par,λj v' e=>?_,f.fma⟩,k⟩
 ·have hj:j≠i:=λz=>by subst z;rw[hti]at e;cases e
  obtain⟨u,h5,h6⟩:=f.r.dat j x (old j _ hj e).1
  exact⟨u,h5,h6.mono k.same⟩
 ·obtain⟨hj,e⟩:=own j o e
  obtain⟨b,us,h1,h2,h3,h4⟩:=f.r.mt j o e
  exact⟨b,us,h1,.inl h2,by rw[hc b (gi5 j o b e h1)];exact h3,h4.mono k.same⟩
 ·have hj:j≠i:=λz=>by subst z;rw[hti]at e;cases e
  obtain⟨a,vs,h1,h2,h3⟩:=f.r.cst j ys (old j _ hj e).1
  exact⟨a,vs,h1,k.same.seq h2,h3.mono k.same⟩
 ·by_cases z:a∈φ i
  ·exact hex a z
  ·rw[hc a z];exact f.r.ex a h
 ·refine⟨λj=>if j=i then F' else φ j,λj x e=>?_⟩
  by_cases hj:j=i
  ·subst hj
   rw[hti]at e;cases e
   simp only[if_true]
   refine⟨⟨v,hv,DpT.of hd⟩,hn,inM,λj' o a z1 z2=>notO j' o a (own j' o z1).2 z2,λj' x' hj' z a ha=>?_⟩
   rw[if_neg hj']
   obtain⟨w1,w2⟩:=old j' _ hj' z
   exact notG j' x' hj' w2 w1 a ha
  ·dsimp only
   simp only[if_neg hj]
   obtain⟨w1,w2⟩:=old j _ hj e
   obtain⟨⟨v',q1,q2⟩,q3,q4,q5,q6⟩:=g j x w1
   refine⟨⟨v',q1,q2.mono (tsS k.same) λa ha=>hc a λz=>q6 i d (Ne.symm hj) hi a ha z⟩,q3,λa ha=>.inl (q4 a ha),λj' o a z1 z2=>q5 j' o a (own j' o z1).2 z2,λj' x' hj' z a ha=>?_⟩
   by_cases hj2:j'=i
   ·rw[if_pos hj2];exact λhq=>notG j x hj w2 w1 a hq ha
   ·rw[if_neg hj2];exact q6 j' x' hj' (old j' _ hj2 z).1 a ha
 ·by_cases z:b∈φ i
  ·rcases f.new b (gi4 b z)with w|w
   ·exact absurd w n
   ·rw[w]at e;cases e
  ·rw[hc b z];exact f.old b o e n
 ·obtain⟨o,ho⟩:=f.pm j v' e
  have hj:j≠i:=λz=>by subst z;rw[hi]at ho;exact Ow.not_g (G' (G' ho)).symm
  have hjJ:j∉J:=λz=>by
   obtain⟨dj,w⟩:=(hJ j z).2
   rw[w]at ho;exact Ow.not_g (G' (G' ho)).symm
  rcases ht j hj with z|⟨z,_⟩
  ·exact⟨o,by rw[z];exact ho⟩
  ·exact absurd z hjJ
def KQ(i:Nat)(e1 e2:DX)(j1 j2:Nat)(τ:DS):Option Out:=match τ[i]? with
 |some (some (.g (.list _)))=>(e1 τ).bind λp=>(e2 p.2).bind λw=>match w.2[i]?,w.2[j1]?,w.2[j2]? with
  |some (some (.g (.list rows))),some (some (.g (.list l1))),some (some (.g (.list l2)))=>if rows.length<sizeLine/\F5 p.1=true/\F5 w.1=true/\i≠j1/\i≠j2/\j1≠j2 then some (.nx (((w.2.set j1 none).set j2 none).set i (some (.g (.list (rows++[.tuple [p.1,w.1,.list l1,.list l2]])))))) else none
  |_,_,_=>none
 |_=>none
theorem Yk{fr f1 f2:Bool}{i j1 j2:Nat}{t1 t2:TE}{e1 e2:DX}(h1:E K t1 f1 e1)(h2:E K t2 f2 e2):B K np (NJ (tBM K "list" Kl (Fg i) (EC (Xr (EC t1 (EC t2 (EC (Fg j1) (EC (Fg j2) J3))))) J3))) fr (KQ i e1 e2 j1 j2):=by
 intro F S M τ σ H D out hnp f ee q
 unfold KQ at ee
 split at ee
 ·rename_i r0 hi0
  obtain⟨⟨d1,t6⟩,ea,ee⟩:=oB ee
  obtain⟨⟨d2,t8⟩,eb,ee⟩:=oB ee
  dsimp only at ee
  split at ee
  ·rename_i rows l1 l2 hi hj1 hj2
   split at ee
   ·rename_i hz
    cases ee
    obtain⟨hz,x1,x2,n1,n2,n3⟩:=hz
    obtain⟨φ0,g0⟩:=f.r.gr
    obtain⟨⟨v,hv,h0⟩,_⟩:=g0 i _ hi0
    obtain⟨a0,vs0,G0,rfl,_,ha0,_⟩:=(show Dp K S H (.list r0) v (φ0 i) from h0)
    refine⟨.ref a0,hv,.inl ⟨rfl,vs0,SqL.of ha0⟩,h1.weak.run S M τ σ H _ d1 t6 f.r ea λv1 H1 r1 c1 i1=>?_⟩
    refine h2.weak.run S M t6 σ H1 _ d2 t8 r1 eb λv2 H2 r2 c2 i2=>?_
    have f2:=(f.step r1 c1 (h1.like _ _ _ ea)).step r2 c2 (h2.like _ _ _ eb)
    obtain⟨φ1,g1⟩:=f2.r.gr
    obtain⟨⟨u1,hu1,_⟩,_⟩:=g1 j1 _ hj1
    obtain⟨⟨u2,hu2,_⟩,_⟩:=g1 j2 _ hj2
    refine⟨u1,hu1,u2,hu2,by rw[sizeLine_eq];exact cm (show 4<=64 by decide) (by decide),λp hp=>?_⟩
    have s3:=BF hp (HO.tup [v1,v2,u1,u2])
    have f3:=f2.step (r2.same s3) (.of s3) .refl
    obtain⟨φ,g⟩:=f3.r.gr
    obtain⟨⟨v',hv',hd0⟩,gn,gM,_,g6⟩:=g i _ hi
    rw[hv]at hv';cases hv'
    obtain⟨⟨w1,hw1,hd1⟩,gn1,gM1,_,g61⟩:=g j1 _ hj1
    rw[hu1]at hw1;cases hw1
    obtain⟨⟨w2,hw2,hd2⟩,gn2,gM2,_,g62⟩:=g j2 _ hj2
    rw[hu2]at hw2;cases hw2
    obtain⟨a,vs,G,ea,eF,ha,l⟩:=(show Dp K S _ (.list rows) (.ref a0) (φ i) from hd0)
    cases ea
    have hd1:Dp K S (upd H2 p (.tup [v1,v2,u1,u2])) (.list l1) u1 (φ j1):=hd1
    have hd2:Dp K S (upd H2 p (.tup [v1,v2,u1,u2])) (.list l2) u2 (φ j2):=hd2
    have aI:a0∈φ i:=by rw[eF];exact J' ..
    have aM:=gM a0 aI
    have gn':=gn
    rw[eF]at gn'
    obtain⟨na,nG⟩:=cP.mp gn'
    have a1:a0∉φ j1:=g6 j1 _ (Ne.symm n1) hj1 a0 aI
    have a2:a0∉φ j2:=g6 j2 _ (Ne.symm n2) hj2 a0 aI
    refine⟨a0,vs,.ref p,rfl,rfl,ha,by rw[l.length];exact hz,?_⟩
    let H4:=upd (upd H2 p (.tup [v1,v2,u1,u2])) a0 (.lst (vs++[.ref p]))
    have eh:hid S H4=hid S (upd H2 p (.tup [v1,v2,u1,u2])):=FL (f.r.sub a0 aM)
    have tsr:TSm (hid S (upd H2 p (.tup [v1,v2,u1,u2]))) (hid S H4):=by rw[eh];exact .refl
    have kA:Same (hid S H1) (hid S (upd H2 p (.tup [v1,v2,u1,u2]))):=((c2.keep r1.sub).trans (Same.keep s3)).same
    have i1':=i1.mono kA
    have i2':=i2.mono (Same.keep (S:=S) s3).same
    have hdN:Dp K S H4 (.list (rows++[.tuple [d1,d2,.list l1,.list l2]])) (.ref a0) (a0::(G++(φ j1++φ j2))):=by
     refine⟨a0,_,_,rfl,rfl,AW,DpL.snoc (l.mono tsr λb hb=>AR λz=>na (z▸hb)) ⟨p,[v1,v2,u1,u2],rfl,?_,v1,_,[],_,rfl,rfl,Dp.fix x1 (by rw[eh];exact i1'),v2,_,[],_,rfl,rfl,Dp.fix x2 (by rw[eh];exact i2'),u1,_,φ j1,φ j2,rfl,rfl,hd1.mono tsr λb hb=>AR λz=>a1 (z▸hb),u2,_,φ j2,[],rfl,by simp,hd2.mono tsr λb hb=>AR λz=>a2 (z▸hb),rfl,rfl⟩⟩
     rw[eh]
     exact SqT.of (hid_iff.mpr ⟨r2.fresh hp,AW⟩)
    have hlt:i<t8.length:=(K'.mp hi).1
    have hlt1:j1<t8.length:=(K'.mp hj1).1
    have hlt2:j2<t8.length:=(K'.mp hj2).1
    have ht:∀k,k≠i->(((t8.set j1 none).set j2 none).set i (some (.g (.list (rows++[.tuple [d1,d2,.list l1,.list l2]])))))[k]?=t8[k]?\/(k∈[j1,j2]/\(((t8.set j1 none).set j2 none).set i (some (.g (.list (rows++[.tuple [d1,d2,.list l1,.list l2]])))))[k]?=some none):=λk hk=>by
     rw[R' (Ne.symm hk)]
     by_cases z2:k=j2
     ·subst z2
      exact .inr ⟨by simp,V' (by simpa using hlt2)⟩
     ·rw[R' (Ne.symm z2)]
      by_cases z1:k=j1
      ·subst z1
       exact .inr ⟨by simp,V' hlt1⟩
      ·exact .inl (R' (Ne.symm z1))
    have hJ:∀j∈[j1,j2],(((t8.set j1 none).set j2 none).set i (some (.g (.list (rows++[.tuple [d1,d2,.list l1,.list l2]])))))[j]?=some none/\∃dj,t8[j]?=some (some (.g dj)):=λj hj=>by
     rcases X'.mp hj with rfl|hj
     ·exact⟨by rw[R' n1,R' (Ne.symm n3)];exact V' hlt1,_,hj1⟩
     ·cases cW.mp hj
      exact⟨by rw[R' n2];exact V' (by simpa using hlt2),_,hj2⟩
    have hex:∀b∈φ i,∃o,H4 b=some o:=λb hb=>by
     by_cases z:b=a0
     ·subst z;exact⟨_,AW⟩
     ·rw[show H4 b=_ from AR z];exact f3.r.ex b (f3.r.sub b (gM b hb))
    have hnd:(a0::(G++(φ j1++φ j2))).Nodup:=by
     refine cP.mpr ⟨λz=>?_,cg.mpr ⟨nG,cg.mpr ⟨gn1,gn2,λb hb c hc z=>?_⟩,λb hb c hc z=>?_⟩⟩
     ·rcases cN.mp z with z|z
      ·exact na z
      ·exact(cN.mp z).elim a1 a2
     ·subst z;exact g61 j2 _ (Ne.symm n3) hj2 b hb hc
     ·subst z
      have hb:b∈φ i:=by rw[eF];exact E' _ hb
      rcases cN.mp hc with hc|hc
      ·exact g6 j1 _ (Ne.symm n1) hj1 b hb hc
      ·exact g6 j2 _ (Ne.symm n2) hj2 b hb hc
    have hsb:∀b∈a0::(G++(φ j1++φ j2)),b∈φ i\/(∃j∈[j1,j2],b∈φ j)\/b∈([]:List Addr):=λb hb=>by
     rw[eF]
     rcases X'.mp hb with rfl|hb
     ·exact .inl (J' ..)
     ·rcases cN.mp hb with hb|hb
      ·exact .inl (E' _ hb)
      ·rcases cN.mp hb with hb|hb
       ·exact .inr (.inl ⟨j1,by simp,hb⟩)
       ·exact .inr (.inl ⟨j2,by simp,hb⟩)
    have kp:Keep S H S (upd H2 p (.tup [v1,v2,u1,u2])):=((c1.keep f.r.sub).trans (c2.keep r1.sub)).trans (Same.keep s3)
    obtain⟨f4,k4⟩:=f3.graft (H':=H4) (J:=[j1,j2]) (X:=[]) (F':=a0::(G++(φ j1++φ j2))) g hi hv (by simp) (V' (by simpa using hlt)) ht hJ
     (λb hb=>by cases hb) (λb hb=>AR λz=>hb (z▸aI)) hex hdN hnd hsb
    exact q _ _ _ _ f4 (kp.trans k4)
   ·cases ee
  ·cases ee
 ·cases ee
variable {K:KW} {np:Nat}
def gtP:List Nat->PyData->Option PyData
 |[],d=>some d
 |k::π,.list ds=>(ds[k]?).bind (gtP π)
 |k::π,.tuple ds=>(ds[k]?).bind (gtP π)
 |_::_,_=>none
def stP(x:PyData):List Nat->PyData->PyData
 |[],_=>x
 |k::π,.list ds=>.list (ds.set k (stP x π (ds.getD k .none)))
 |k::π,.tuple ds=>.tuple (ds.set k (stP x π (ds.getD k .none)))
 |_::_,d=>d
theorem Q6{α:Type}{xs:List α}{k:Nat}{c z:α}(h:xs[k]?=some c):xs.getD k z=c:=by
 rw[cO,h];rfl
def bu(K:KW)(S:Addr->Prop)(H:Hp)(F:List Addr)(d:PyData)(v:V)(π:List Nat)(d':PyData)(u:V):Prop:=∃Fy,Dp K S H d' u Fy/\(∀a∈Fy,a∈F)/\Fy.Nodup/\((π=[]->u=v/\d'=d)/\(π≠[]->∀ds,d = .list ds->∀a,v = .ref a->a∉Fy)) /\
 ∀(H':Hp) (x:PyData) (Fx:List Addr),TSm (hid S H) (hid S H')->(∀a∈F,a∉Fy->H' a=H a)->Dp K S H' x u Fx->(∀a∈Fx,a∈Fy)->Fx.Nodup->∃F3,(∀a∈F3,a∈F)/\F3.Nodup/\Dp K S H' (stP x π d) v F3
abbrev DP:=PyData->DS->Option (List Nat×PyData×DS)
structure PT(K:KW)(r:Nat)(t:TE)(g:DP):Prop where
 like:∀d τ π d' t7,g d τ=some (π,d',t7)->Like τ t7
 gp:∀d τ π d' t7,g d τ=some (π,d',t7)->∀π0 dr,gtP π0 dr=some d->gtP (π0++π) dr=some d'
 run:∀(S M:Addr->Prop) τ σ H (Q:VK) dr v F π0 d0 u0 π d' t7,R K (λb=>S b/\b∉F) (λb=>M b/\b∉F) τ σ H->σ[r]?=some (some u0)->(∀a∈F,Lv H a)->(∀a,M a->S a)->gtP π0 dr=some d0->bu K S H F dr v π0 d0 u0->g d0 τ=some (π,d',t7) ->
  (∀u H',R K (λb=>S b/\b∉F) (λb=>M b/\b∉F) t7 σ H'->Chg (λb=>M b/\b∉F) H H'->bu K S H' F dr v (π0++π) d' u->Q u H')->t σ H Q
variable {K:KW} {np:Nat}
end DL
end
section
namespace L2
open PySem DL
def Itd(a:Addr)(ts:List (List Int×Addr×V))(ep:Nat):It :=
 ⟨λi H=>H a=some (.ext (Fl a ts ep))/\i<ts.length,λi H x H'=>H'=H/\∃t,ts[i]?=some t/\x = .ref t.2.1,λi H=>H a=some (.ext (Fl a ts ep))/\ts.length<=i⟩
theorem VB{P:Program}{w:World}{K:PySem.W.Frag}{tg:Expr}(a it:Addr)(ts:List (List Int×Addr×V))(ep:Nat)(hne:a≠it):Turn P w K tg (Itd a ts ep) [it] it (λi h=>h.IsKeyIter it a i ts.length ep/\i<=ts.length) where
 mem:=by simp
 obj:=λi h st b hb=>by
  have e:b=it:=by simpa using hb
  subst e
  obtain⟨⟨o,e,c,d⟩,_⟩:=st
  exact⟨o,e,λv z=>by rw[d]at z;cases z⟩
 keep:=λi h h' st k=>⟨let ⟨o,e,r⟩:=st.1;⟨o,k it (by simp) o e,r⟩,st.2⟩
 item:=by
  intro X hP hw hK hc i pins s σ H E I hf st hg
  subst hP hw hK
  obtain⟨hq,hi⟩:=hg
  obtain⟨⟨h1,h2,h3,xs,pr,o,es,ho,he,hd,hes⟩,_,_⟩:=(show ObjOk X.prog X.w H s.heap a (.ext (Fl a ts ep)) from I.hok a _ hq)
  have x:Dwk.At s.heap a (ts.map λt=>Value.ref t.2.1) ep:=⟨o,es,ho,he,hd,by rw[hes,cu,<- JO pr];rfl⟩
  obtain⟨f0,f1,f2,f3,f4,f5⟩:=hf it (by simp)
  have et:ts[i]?=some ts[i]:=Y' hi
  refine Dwk.step (k:=Value.ref ts[i].2.1) (by rw[B'];exact st.1) x (by rw[U',et];rfl) λh' st' sb=>?_
  rw[B']at st'
  have I1:Inv X pins σ H { s with heap:=h' }:=I.turned (t':=s.toks) (λb o hb e=>(sb.2 b hb).trans e) f0 f1 f3 f4 f5
  obtain⟨o,e,c,d⟩:=id st'
  exact⟨_,rfl,Ud (s:={ s with heap:=h' }) e c d (by decide) ⟨.ref ts[i].2.1,H,I1,rfl,⟨rfl,_,et,rfl⟩,⟨st',hi⟩,λb hb=>(hf b hb).1⟩⟩
 done:=by
  intro X hP hw hK hc i pins s σ H E I hf st hg
  subst hP hw hK
  obtain⟨hq,hi⟩:=hg
  have hi:ts.length=i:=Nat.le_antisymm hi st.2
  subst hi
  obtain⟨⟨h1,h2,h3,xs,pr,o,es,ho,he,hd,hes⟩,_,_⟩:=(show ObjOk X.prog X.w H s.heap a (.ext (Fl a ts ep)) from I.hok a _ hq)
  have x:Dwk.At s.heap a (ts.map λt=>Value.ref t.2.1) ep:=⟨o,es,ho,he,hd,by rw[hes,cu,<- JO pr];rfl⟩
  obtain⟨f0,f1,f2,f3,f4,f5⟩:=hf it (by simp)
  have st1:=st.1
  exact Dwk.last (I.ok.hd hc) (by rw[B'];exact st1) x λh' eb=>⟨rfl,I.turned (t':=s.toks) (λb o hb e=>eb b o hb e) f0 f1 f3 f4 f5⟩
 self:=λ_ _ _ _ _ st h=>wpAny_pyIter_keyiter st.1 h
def ZG(tl:TE):TI:=λσ H R=>tl σ H λx H1=>∃a ts ep,x = .ref a/\H1 a=some (.ext (Fl a ts ep))/\R (Itd a ts ep) H1
theorem X2{X:Cx}{tg l:Expr}{tl:TE}(hl:PE X l tl):PI X tg l (ZG tl):=by
 intro pins s σ H R I h
 refine thn (hl pins s σ H _ I h) λv s1 ⟨x,H1,I1,r1,q1⟩=>?_
 obtain⟨a,ts,ep,rfl,hq,q⟩:=q1
 cases r1
 obtain⟨⟨h1,h2,h3,xs,pr,o,es,ho,he,hd,hes⟩,_,_⟩:=(show ObjOk X.prog X.w H1 s1.heap a (.ext (Fl a ts ep)) from I1.hok a _ hq)
 have x:Dwk.At s1.heap a (ts.map λt=>Value.ref t.2.1) ep:=⟨o,es,ho,he,hd,by rw[hes,cu,<- JO pr];rfl⟩
 refine Dwk.start h1 x ?_
 rw[B']
 have hlt:a<s1.heap.objs.size:=cS ho
 refine⟨s1.heap.objs.size,[s1.heap.objs.size],_,_,H1,rfl,I1.kept (t':=s1.toks) λb o e=>Z' _ e,VB a _ ts ep (cq hlt),⟨⟨_,cX _ rfl,rfl,rfl⟩,cZ _⟩,λb hb=>?_,q⟩
 have e:b=s1.heap.objs.size:=by simpa using hb
 subst e
 exact I1.fpOk (W' _) (I1.hok.fresh (W' _))
end L2
namespace DL
open PySem L2
variable {K:KW}
def dID(f:DX)(τ:DS):Option (List PyData×DS):=(f τ).bind λp=>match p.1 with
 |.dict l=>(tkP l).map λm=>(m.map λp=>NG p.1,p.2)
 |_=>none
theorem YS{fr:Bool}{t:TE}{f:DX}(h:E K t fr f):IT K (ZG t) (dID f):=by
 refine⟨λτ d t7 e=>?_,?_⟩
 ·unfold dID at e
  obtain⟨⟨x,t6⟩,e1,e⟩:=oB e
  dsimp only at e
  split at e
  ·obtain⟨m,_,e⟩:=oM e
   cases e;exact h.like _ _ _ e1
  ·cases e
 intro S M τ σ H Q ds t7 r e q
 unfold dID at e
 obtain⟨⟨x,t6⟩,e1,e⟩:=oB e
 dsimp only at e
 split at e
 ·rename_i l
  obtain⟨m,em,e⟩:=oM e
  cases e
  refine h.weak.run S M τ σ H _ _ _ r e1 λv H1 r1 c1 i1=>?_
  obtain⟨a,ts,rfl,⟨ep,hl⟩,lv⟩:=Is.dct (show Is K (hid S H1) (.dict l) v from i1) (T5 em)
  obtain⟨_,rfl⟩:=NH lv em
  refine⟨a,ts,ep,rfl,(hid_iff.mp hl).2,q _ H1 r1 c1 λS2 H2 k=>?_⟩
  have hl2:=k.same _ _ hl
  have ll:=Pg (lv.mono k.same)
  have hlen:ts.length=m.length:=by have:=ll.length;simpa using this
  refine⟨λi d e=>?_,λi hi=>⟨(hid_iff.mp hl2).2,by rw[B']at hi;omega⟩⟩
  obtain⟨u,h1,h2⟩:=ll.get e
  have hi:i<ts.length:=by
   have:=(K'.mp e).1
   rw[B']at this;omega
  refine⟨⟨(hid_iff.mp hl2).2,hi⟩,λx H3 y=>⟨y.1,?_⟩⟩
  obtain⟨_,t,ht,rfl⟩:=y
  rw[U',ht]at h1
  cases h1
  exact h2
 ·cases e
end DL
end
section
namespace Duh
open PySem
def mergedH{K:Type}[DecidableEq K](xs more:List (K×Addr×Value)):List (K×Addr×Value):=more.foldl (λacc x=>storedH acc x.1 x.2.1 x.2.2) xs
section
variable {K:Type} [DecidableEq K]
theorem Qj(xs more:List (K×Addr×Value))(i:Nat)(x:K×Addr×Value)(h:more[i]?=some x):mergedH xs (more.take (i+1))=storedH (mergedH xs (more.take i)) x.1 x.2.1 x.2.2:=by
 simp[mergedH,List.take_add_one,h,List.foldl_append]
theorem RP(xs:List (K×Addr×Value))(k:K)(a:Addr)(v:Value):(storedH xs k a v).length<=xs.length+1:=by
 unfold storedH
 split<;>simp
theorem Ry(xs more:List (K×Addr×Value)):(mergedH xs more).length<=xs.length+more.length:=by
 induction more generalizing xs with
 |nil=>simp[mergedH]
 |cons kv Dh ih =>
  have e1:=ih (storedH xs kv.1 kv.2.1 kv.2.2)
  have e2:=RP xs kv.1 kv.2.1 kv.2.2
  simp only[mergedH,List.foldl_cons,List.length_cons]at e1 ⊢
  omega
theorem Oc(acc more:List (K×Addr×Value))(hn:((acc++more).map (·.1)).Nodup):mergedH acc more=acc++more:=by
 induction more generalizing acc with
 |nil=>simp[mergedH]
 |cons kv Dh ih =>
  have hf:atKey acc kv.1=none:=by
   refine atKey_none_of_get λj p hj=>?_
   rw[c9,P',cg]at hn
   exact hn.2.2 kv.1 (cv.mpr ⟨_,cj hj,rfl⟩) kv.1 J' rfl
  have:mergedH acc (kv::Dh)=mergedH (acc++[kv]) Dh:=by
   simp only[mergedH,List.foldl_cons,storedH_new hf]
  rw[this,ih (acc++[kv]) (by simpa using hn)]
  simp
theorem MH(more:List (K×Addr×Value))(hn:(more.map (·.1)).Nodup):mergedH [] more=more:=by
 simpa using Oc [] more (by simpa using hn)
end
section
variable {prog:Program} {w:World} {K:Type} [DecidableEq K] {knd:HeapKind prog w K} {A:Around} {E:Value->Shared->Prop} {s:Shared}
theorem VE{d a:Addr}{xs:List (K×Addr×Value)}{k:K}{v:Value}{Q:Unit->Shared->Prop}(hu:knd.room A)(hkey:knd.is s.heap k a)(hm:s.heap.DictOfH knd d xs)
  (hQ:∀h',h'.DictOfH knd d (storedH xs k a v)->Heap.SameBut d s.heap h'->Q () { s with heap:=h' })
  (hsz:xs.length<=sizeLine):wpAny (model prog w) A (dictSetHashed d (.ref a) (knd.hash k) v) Q E s:=by
 obtain⟨o,es,ep,ho,hc,hd,he,his,hn⟩:=hm
 unfold dictSetHashed
 try with_reducible refine wpAny_holding ?_
 refine wpAny_bind (wpAny_dictFind_heap hu hkey ho hd he his hn ?_ ?_)
 ·intro hno
  have hnot:k∉xs.map (·.1):=not_mem_keys_of_get hno
  refine wpAny_bind (wpAny_rule (wpAny_updateDictKeys (hz := by have e := size_of_entries he; omega) ho hd (hQ _ ⟨_, _, ep + 1, dG _ ho (gD (fO hd _)),
   hc.mapDictKeys _,fO hd _,?_,?_,?_⟩ (c8 ..))))
  ·rw[storedH_new (atKey_none_of_get hno)]
   simp[he,entryOfKey]
  ·rw[storedH_new (atKey_none_of_get hno)]
   intro x hx
   rcases cN.mp hx with hx|hx
   ·exact knd.keeps (his x hx) ho hd (c8 ..)
   ·simp only[List.mem_singleton]at hx
    subst hx
    exact knd.keeps hkey ho hd (c8 ..)
  ·rw[storedH_new (atKey_none_of_get hno)]
   rw[c9,cg]
   refine⟨hn,by simp,?_⟩
   intro x hx y hy
   simp only[List.map_cons,List.map_nil,List.mem_singleton]at hy
   subst hy
   exact λe=>hnot (e▸hx)
 ·intro j p hj
  refine wpAny_bind (wpAny_rule (wpAny_bind (wpAny_updateDict ho hd (wpAny_point (hQ _ ⟨_, _, ep, dG _ ho (gD (Obj.data_mapDict hd _)),
   hc.mapDict _,Obj.data_mapDict hd _,?_,?_,?_⟩ (c8 ..))))))
  ·rw[storedH_old (atKey_of_get hn hj)]
   have:=modify_map_putAt (entryOfKey knd) (λe:DictEntry=>{ e with val:=v }) k v (λ_ _=>rfl) hn hj
   rw[<- he]at this
   obtain⟨l⟩:=es
   simpa using this
  ·rw[storedH_old (atKey_of_get hn hj)]
   intro x hx
   obtain⟨y,hy,rfl⟩:=cv.mp hx
   unfold putAt
   split<;>exact knd.keeps (his y hy) ho hd (c8 ..)
  ·rw[storedH_old (atKey_of_get hn hj)]
   rw[keys_map_putAt];exact hn
theorem XB{id:String}{d:Addr}{o:Obj}{es ep}{Q:Array DictEntry->Shared->Prop}(ho:s.heap.get? d=some o)(hd:o.data = .dict es ep)
  (hT:∀e∈es.toList,s.TypeIs e.key "tuple") (hr:∀e∈es.toList,∃a,e.key = .ref a) (hh:∀e∈es.toList,¬(es.filter (·.hash==e.hash)).size>1) (h:Q es s) :
  wpAny (model prog w) A (Builtin.Dict.entriesForEmpty id d) Q E s:=by
 unfold Builtin.Dict.entriesForEmpty
 refine wpAny_bind (wpAny_dictEntries ho hd ?_)
 refine wpAny_bind ?_
 rw[<- gN]
 refine wpAny_forIn_list _ (λDh _ s'=>s'=s/\∀e∈Dh,e∈es.toList) _ ?_ ?_ _ _ ⟨rfl,λ_ h=>h⟩
 ·rintro e Dh b s' ⟨rfl,hrs⟩
  have he:=hrs e J'
  have t:=hT e he
  obtain⟨a,ek⟩:=hr e he
  have hz:=hh e he
  have hq:∀{Q':Bool->Shared->Prop},Q' false s'->wpAny (model prog w) A (Builtin.Dict.quietEq e.key) Q' E s':=by
   intro Q' q
   rw[ek]at t ⊢
   unfold Builtin.Dict.quietEq
   exact wpAny_bind (wpAny_specialOf t F.slot_tuple_eq.lookup (wpAny_pure q))
  refine wpAny_bind (hq ?_)
  simp only[Bool.not_false,if_true]
  rw[if_neg hz]
  exact wpAny_pure ⟨rfl,λx hx=>hrs x (E' _ hx)⟩
 ·rintro b s' ⟨rfl,_⟩
  exact wpAny_pure h
theorem merge{nm:String}{d o:Addr}{kvs more:List (K×Addr×Value)}{Q:Unit->Shared->Prop}(hu:knd.room A)(hdo:d≠o)(hoS:(o==sysModules)=false)
  (hT:∀(h:Heap) (k:K) (a:Addr),knd.is h k a->∃ob,h.get? a=some ob/\ob.cls = .type "tuple")
  (hd:s.heap.DictOfH knd d kvs) (ho:s.heap.DictOfH knd o more) (hh:kvs=[]->(more.map λx=>knd.hash x.1).Nodup)
  (hQ:∀h',h'.DictOfH knd d (mergedH kvs more)->Heap.SameBut d s.heap h'->Q () { s with heap:=h' })
  (hsz:kvs.length+more.length<=sizeLine):wpAny (model prog w) A (Builtin.Dict.mergeDict nm d o) Q E s:=by
 obtain⟨od,esd,epd,hod,hcd,hdd,hed,hkd,hnd⟩:=id hd
 obtain⟨oo,eso,epo,hoo,hco,hdo',heo,hko,hno⟩:=id ho
 unfold Builtin.Dict.mergeDict
 rw[if_neg (by simpa using hdo)]
 unfold Builtin.Dict.showsAll
 rw[if_neg (by rw[hoS];exact ck)]
 refine wpAny_bind (wpAny_pure ?_)
 refine wpAny_bind (wpAny_dictEntries hoo hdo' ?_)
 have hlen:eso.size=more.length:=size_of_entries heo
 have loop : wpAny (model prog w) A (do
   let epoch <- dictEpoch o
   let l <- dictEntries o
   forIn [:l.size] PUnit.unit λi (_ : PUnit) => (do
     let l' <- dictEntries o
     match l'[i]? with
      |some e=>do
       holding [e.key,e.val] (dictSetHashed d e.key e.hash e.val)
       let ep' <- dictEpoch o
       if (ep' != epoch)=true then do
         (unsupported (toString nm++toString ":source-changed-during-callback"):Sem PUnit)
         pure (ForInStep.yield PUnit.unit)
        else pure (ForInStep.yield PUnit.unit)
      |_=>do
       (unsupported "internal:dict-merge":Sem PUnit)
       pure (ForInStep.yield PUnit.unit):Sem (ForInStep PUnit))
   pure ()) Q E s:=by
  refine wpAny_bind (wpAny_dictEpoch hoo hdo' ?_)
  refine wpAny_bind (wpAny_dictEntries hoo hdo' ?_)
  refine wpAny_bind ?_
  rw[Std.Legacy.Range.forIn_eq_forIn_range']
  simp only[Std.Legacy.Range.size,Nat.sub_zero,Nat.add_sub_cancel,Nat.div_one]
  refine wpAny_forIn_list _
   (λDh _ s'=>∃h' i,s'={ s with heap:=h' }/\Dh=List.range' i (eso.size-i)/\i<=eso.size/\h'.DictOfH knd d (mergedH kvs (more.take i))/\h'.get? o=some oo/\Heap.SameBut d s.heap h')
   _ ?_ ?_ _ _ ⟨s.heap,0,rfl,by simp,cZ _,by simpa[mergedH] using hd,hoo,gX _ _⟩
  ·rintro x Dh b s' ⟨h',i,rfl,hr,hi,hd',hoo',hs'⟩
   have hlt:i<eso.size:=by
    rcases dJ i eso.size with h|h
    ·exact h
    ·rw[Nat.sub_eq_zero_of_le h]at hr;simp at hr
   obtain⟨rfl,hrest⟩:x=i/\Dh=List.range' (i+1) (eso.size-(i+1)):=by
    have e:eso.size-i=(eso.size-(i+1))+1:=by omega
    rw[e,List.range'_succ]at hr
    injection hr with h1 h2
    exact⟨h1,h2⟩
   refine wpAny_bind (wpAny_dictEntries hoo' hdo' ?_)
   obtain⟨⟨k,a,v⟩,hkv⟩:∃kv,more[x]?=some kv:=⟨more[x]'(by rw[<- hlen];exact hlt),Y' _⟩
   rw[entry_at heo x,hkv]
   have hk:knd.is h' k a:=knd.keeps (hko _ (cj hkv)) hod hdd hs'
   show wpAny _ _ (holding [Value.ref a,v] (dictSetHashed d (Value.ref a) (knd.hash k) v) >>= _) _ _ _
   have hmx:(mergedH kvs (more.take x)).length<=sizeLine:=by
    have e1:=Ry kvs (more.take x)
    have e2:(more.take x).length<=more.length:=by rw[eu];omega
    omega
   refine wpAny_bind (wpAny_holding (VE (hsz:=hmx) hu hk hd' λh'' hd'' hs''=>?_))
   have hoo'':h''.get? o=some oo:=(hs''.2 o (Ne.symm hdo)).trans hoo'
   refine wpAny_bind (wpAny_dictEpoch hoo'' hdo' ?_)
   rw[if_neg (by simp)]
   exact wpAny_pure ⟨h'',x+1,rfl,hrest,hlt,by rw[Qj kvs more x (k,a,v) hkv];exact hd'',hoo'',hs'.trans hs''⟩
  ·rintro b s' ⟨h',i,rfl,hr,hi,hd',hoo',hs'⟩
   have hin:i=eso.size:=by
    rcases dJ i eso.size with h|h
    ·have e:eso.size-i=(eso.size-(i+1))+1:=by omega
     rw[e,List.range'_succ]at hr;exact nomatch hr
    ·exact Nat.le_antisymm hi h
   refine wpAny_pure (hQ h' ?_ hs')
   rw[hin,hlen,List.take_length]at hd';exact hd'
 dsimp only
 split
 ·refine wpAny_bind (wpAny_dictEntries hod hdd ?_)
  split
  ·rename_i hemp
   have hkvs:kvs=[]:=by
    have h0:esd=#[]:=Array.isEmpty_iff.mp hemp
    have:=size_of_entries hed;rw[h0]at this;exact List.length_eq_zero_iff.mp (by simpa using this.symm)
   subst hkvs
   have mem:∀e∈eso.toList,∃x∈more,e=entryOfKey knd x:=λe he=>by
    rw[heo]at he
    obtain⟨x,hx,rfl⟩:=cv.mp he
    exact⟨x,hx,rfl⟩
   have hhn:=hh rfl
   refine wpAny_bind (XB hoo hdo' (λe he=>?_) (λe he=>?_) (λe he=>?_) ?_)
   ·obtain⟨x,hx,rfl⟩:=mem e he
    obtain⟨ob,h1,h2⟩:=hT _ _ _ (hko x hx)
    exact⟨ob,h1,h2⟩
   ·obtain⟨x,hx,rfl⟩:=mem e he
    exact⟨_,rfl⟩
   ·obtain⟨x,hx,rfl⟩:=mem e he
    have e1:(eso.filter (·.hash==(entryOfKey knd x).hash)).size=((more.map λx=>knd.hash x.1).filter (·==knd.hash x.1)).length:=by
     rw[<- eH,Array.toList_filter,heo,List.filter_map,List.filter_map,B',B'];rfl
    rw[e1]
    have:∀l:List Int,l.Nodup->∀z,(l.filter (·==z)).length<=1:=by
     intro l
     induction l with
     |nil=>intro _ z;simp
     |cons y l ih =>
      intro hn z
      obtain⟨n1,n2⟩:=cP.mp hn
      by_cases q:y=z
      ·subst q
       have:l.filter (·==y)=[]:=List.filter_eq_nil_iff.mpr λu hu=>by
        intro w
        exact n1 (by rw[beq_iff_eq]at w;rw[<- w];exact hu)
       simp[this]
      ·rw[List.filter_cons_of_neg (by simpa using q)];exact ih n2 z
    have:=this _ hhn (knd.hash x.1)
    omega
   rw[MH more hno]at hQ
   split
   ·have hto:eso.size<=sizeLine+1:=by
     simp only[List.length_nil,Nat.zero_add]at hsz
     omega
    refine wpAny_bind (wpAny_updateDictKeysTo hod hdd (wpAny_pure (hQ _ ⟨_, _, epd + 1, dG _ hod (gD (fO hdd _)), hcd.mapDictKeys _,
     fO hdd _,heo,λx hx=>knd.keeps (hko x hx) hod hdd (c8 ..),hno⟩ (c8 ..))) hto)
   ·rename_i hne
    have h0:eso=#[]:=Array.isEmpty_iff.mp (by simpa using hne)
    have hm0:more=[]:=List.length_eq_zero_iff.mp (by rw[<- hlen,h0];rfl)
    subst hm0
    exact wpAny_pure (hQ _ hd (gX _ _))
  ·exact loop
 ·exact loop
theorem meets_update(knd:HeapKind prog w K)(d o:Addr)(hdo:d≠o)(hoS:(o==sysModules)=false)(hT:∀(h:Heap) (k:K) (a:Addr),knd.is h k a->∃ob,h.get? a=some ob/\ob.cls = .type "tuple") :
  MeetsIn prog w (Builtin.«dict.update» ⟨[.ref d, .ref o], []⟩) (λA R s => knd.room A.in1 /\ ∃ kvs more, s.heap.DictOfH knd d kvs /\ s.heap.DictOfH knd o more /\ (kvs = [] -> (more.map λx => knd.hash x.1).Nodup) /\ kvs.length + more.length <= sizeLine /\
   ∀h',h'.DictOfH knd d (mergedH kvs more)->Heap.SameBut d s.heap h'->R (.ok (.ret .none)) { s with heap:=h' }) :=
 .of_wp λA R s ⟨hu,kvs,more,hd,ho,hh,hsz,h⟩=>by
  unfold Builtin.«dict.update»
  refine wpAny_bind ?_
  unfold Builtin.Dict.selfAndRest
  refine wpAny_bind (wpAny_notOrdered_dict hd.typeIs ?_)
  show wpAny _ _ (pure (d,[Value.ref o])) _ _ s
  refine wpAny_pure ?_
  show wpAny _ _ (Builtin.Dict.updateFrom "dict.update" d (.ref o) [] .none) _ _ s
  unfold Builtin.Dict.updateFrom
  refine wpAny_bind (wpAny_typeOf ho.typeIs ?_)
  rw[if_neg (by decide)]
  refine wpAny_bind ?_
  unfold Builtin.Dict.merge
  refine wpAny_bind ?_
  ·unfold Builtin.Dict.readDirectly
   refine wpAny_bind (wpAny_isInstance ho.typeIs isSubtype_dict_dict ?_)
   simp only[Bool.not_true,Bool.false_eq_true,if_false]
   refine wpAny_bind (wpAny_specialOf ho.typeIs F.slot_dict_iter.lookup (wpAny_pure ?_))
   simp only[beq_self_eq_true,if_true]
   refine wpAny_bind (wpAny_pure ?_)
   refine merge (hsz:=hsz) hu hdo hoS hT hd ho hh λh' hd' hs'=>?_
   show wpAny _ _ (Builtin.Dict.addKeywords d [] >>= _) _ _ _
   exact wpAny_bind (wpAny_pure (wpAny_pure ⟨.none,rfl,h h' hd' hs'⟩))
theorem callDict{o:Addr}{more:List (K×Addr×Value)}{Q:Value->Shared->Prop}(hu:knd.room A.in1.in1)(hoS:(o==sysModules)=false)(hT:∀(h:Heap) (k:K) (a:Addr),knd.is h k a->∃ob,h.get? a=some ob/\ob.cls = .type "tuple")
  (hp:∀(h:Heap) (k:K) (a:Addr) (ob:Obj),knd.is h k a->knd.is (h.push ob) k a) (ho:s.heap.DictOfH knd o more) (hsz:more.length<=sizeLine) (hh:(more.map λx=>knd.hash x.1).Nodup)
  (h:∀h',h'.DictOfH knd s.heap.objs.size more->Heap.SameBut s.heap.objs.size (s.heap.push { cls:=.type "dict",data:=.dict #[] }) h'->Q (.ref s.heap.objs.size) { s with heap:=h' }) :
  wpAny (model prog w) A (call (.type "dict") [.ref o]) Q E s:=by
 refine callType_codes (Q₁:=λobj s₁=>obj = .ref s.heap.objs.size/\s₁={ s with heap:=s.heap.push { cls:=.type "dict",data:=.dict #[] } }) F.kt_called_dict (F.kt_typeCall_dict_1 _) F.entry_dict_init (kt_code_dict_new _ ⟨rfl,rfl⟩) ?_
 rintro obj s₁ ⟨rfl,rfl⟩
 have hnew:(s.heap.push { cls:=.type "dict",data:=.dict #[] }).DictOfH knd s.heap.objs.size []:=⟨_,#[],0,cX _ rfl,⟨rfl,rfl,rfl⟩,rfl,rfl,λx hx=>(nomatch hx),du⟩
 obtain⟨oo,eso,epo,hoo,hco,hdo',heo,hko,hno⟩:=id ho
 have ho':(s.heap.push { cls:=.type "dict",data:=.dict #[] }).DictOfH knd o more:=⟨oo,eso,epo,Z' _ hoo,hco,hdo',heo,λx hx=>hp _ _ _ _ (hko x hx),hno⟩
 have hdo:s.heap.objs.size≠o:=λe=>absurd (cS hoo) (by rw[e];exact dt _)
 refine⟨hnew.typeIs,F.args_dict_init_2 _ _,?_⟩
 unfold Builtin.«dict.__init__»
 refine wpAny_bind ?_
 unfold Builtin.Dict.selfAndRest
 refine wpAny_bind (wpAny_notOrdered_dict hnew.typeIs ?_)
 show wpAny _ _ (pure (s.heap.objs.size,[Value.ref o])) _ _ _
 refine wpAny_pure ?_
 show wpAny _ _ (Builtin.Dict.updateFrom "dict.__init__" s.heap.objs.size (.ref o) [] .none) _ _ _
 unfold Builtin.Dict.updateFrom
 refine wpAny_bind (wpAny_typeOf ho'.typeIs ?_)
 rw[if_neg (by decide)]
 refine wpAny_bind ?_
 unfold Builtin.Dict.merge
 refine wpAny_bind ?_
 unfold Builtin.Dict.readDirectly
 refine wpAny_bind (wpAny_isInstance ho'.typeIs isSubtype_dict_dict ?_)
 simp only[Bool.not_true,Bool.false_eq_true,if_false]
 refine wpAny_bind (wpAny_specialOf ho'.typeIs F.slot_dict_iter.lookup (wpAny_pure ?_))
 simp only[beq_self_eq_true,if_true]
 refine wpAny_bind (wpAny_pure ?_)
 refine merge (hsz:=by simpa using hsz) hu hdo hoS hT hnew ho' (λ_=>hh) λh' hd' hs'=>?_
 show wpAny _ _ (Builtin.Dict.addKeywords s.heap.objs.size [] >>= _) _ _ _
 rw[MH more hno]at hd'
 exact wpAny_bind (wpAny_pure (wpAny_pure ⟨rfl,h h' hd' hs'⟩))
theorem tup_cls{ik:KeyKind prog w K}(h:Heap)(k:List K)(a:Addr)(x:(tupleKind ik).is h k a):∃ob,h.get? a=some ob/\ob.cls = .type "tuple":=let ⟨o,_,_,ho,hc,_⟩:=x;⟨o,ho,hc⟩
theorem tup_push{ik:KeyKind prog w K}(h:Heap)(k:List K)(a:Addr)(ob:Obj)(x:(tupleKind ik).is h k a):(tupleKind ik).is (h.push ob) k a:=let ⟨o,i,n,ho,r⟩:=x;⟨o,i,n,Z' _ ho,r⟩
end
end Duh
end
section
namespace DL
open PySem L2 PyProof.Rows
def Kw(ts us:TsV):TsV:=us.foldl (λacc t=>Ja acc t.1 t.2.1 t.2.2) ts
theorem R0:∀{us:TsV} {ys:List (List Int×Addr×Value)},Paired Rt us ys->∀{ts:TsV} {xs:List (List Int×Addr×Value)},Paired Rt ts xs->(ts.map (·.1)).Nodup->Paired Rt (Kw ts us) (Duh.mergedH xs ys)/\((Kw ts us).map (·.1)).Nodup/\(Kw ts us).length<=ts.length+us.length
 |_,_,.nil,ts,xs,h,n=>⟨h,n,W' _⟩
 |_,_,.cons (a:=t) (b:=x) (l₁:=us) (l₂:=ys) q r,ts,xs,h,n=>by
  obtain⟨q1,q2,q3⟩:=q
  have h2:=QK (k:=t.1) (b:=t.2.1) q3 h n
  obtain⟨a,b,c⟩:=R0 r h2 (NR n)
  have l:=Ra ts t.1 t.2.1 t.2.2
  refine⟨?_,b,?_⟩
  ·show Paired Rt (Kw (Ja ts t.1 t.2.1 t.2.2) us) (Duh.mergedH (storedH xs x.1 x.2.1 x.2.2) ys)
   rw[q1,q2]at a;rw[<- q1,<- q2,q1,q2];exact a
  ·show(Kw (Ja ts t.1 t.2.1 t.2.2) us).length<=ts.length+(us.length+1)
   omega
def WR(K:PySem.W.Frag):List V->Hp->VK->Prop:=λxs H Q=>∃a ts,xs=[.ref a]/\HD H a ts/\Sk K H ts/\(ts.map λt=>hT t.1).Nodup/\∀p ep,H p=none->Q (.ref p) (upd H p (.ext (Fl p ts ep)))
theorem LN(P:Program)(w:World):∀{ts:TsV} {xs:List (List Int×Addr×Value)},Paired Rt ts xs->(xs.map λx=>(tupleKind (intKind P w)).hash x.1)=ts.map λt=>hT t.1
 |_,_,.nil=>rfl
 |_,_,.cons h r=>by rw[P',P',LN P w r,h.1];rfl
theorem PL{a:Addr}{ts:TsV}{ep:Nat}{m1 m2:Heap}(f:Fl a ts ep m1)(kk:∀o,m1.get? a=some o->m2.get? a=some o):Fl a ts ep m2:=by
 obtain⟨f1,f2,f3,xs',f4,o',es',f5,f6⟩:=f
 exact⟨f1,f2,f3,xs',f4,o',es',kk _ f5,f6⟩
theorem Tv{X:Cx}(hu:X.A.units+64<cLine):J0 X (.type "dict") (WR X.K):=by
 intro pins s σ H xs us Q I r h
 obtain⟨a,ts,rfl,hq,hk,hn,q⟩:=h
 obtain⟨u,rfl,rx⟩:=L5 r
 cases rx
 obtain⟨h1,h2,h3,ys,pr,dd⟩:=RN I hq hk
 have hz:ys.length=ts.length:=by have:=congrArg List.length (E6 pr);simp at this;omega
 have hb:sysModules<s.heap.objs.size:=fQ (by decide) (show mainGlobals<s.heap.objs.size from(I.mod.glob.keeps I.bk).lt)
 refine Duh.callDict (knd:=tupleKind (intKind X.prog X.w)) (show X.A.in1.in1.units<cLine from by show X.A.units+1+1<cLine;omega) h1 Duh.tup_cls Duh.tup_push dd (by rw[hz];exact h2) (by rw[LN X.prog X.w pr];exact hn) λh' dd' hs=>?_
 obtain⟨o',es,ep,hq',g2,g3,g4,_,g5⟩:=dd'
 have kp:∀b o,s.heap.get? b=some o->h'.get? b=some o:=λb o e=>(hs.2 b (cq (cS e))).trans (Z' _ e)
 refine⟨.ref s.heap.objs.size,_,I.laid (a:=s.heap.objs.size) (o:=.ext (Fl s.heap.objs.size ts ep)) (t':=s.toks) kp (W' _) ?_,rfl,q _ ep (I.hok.fresh (W' _))⟩
 exact⟨⟨beq_eq_false_iff_ne.mpr (Ne.symm (cq hb)),h2,h3,ys,pr,o',es,hq',g2,g3,g4⟩,⟨o',hq'⟩,λm1 m2 f kk=>PL f kk⟩
def Yz(K:PySem.W.Frag)(to t:TE):TE:=λσ H Q=>to σ H λx H1=>(∃a ts,x = .ref a/\HD H1 a ts)/\t σ H1 λy H2=>∃a b ts us,x = .ref a/\y = .ref b/\a≠b/\HD H2 a ts/\Sk K H2 ts/\HD H2 b us/\Sk K H2 us/\(us.map λt=>hT t.1).Nodup/\ts.length+us.length<=sizeLine /\
 ∀ep,Q .non (upd H2 a (.ext (Fl a (Kw ts us) ep)))
theorem X3{X:Cx}{o e:Expr}{to t:TE}{apos cpos:Pos}(hu:X.A.units+64<cLine)(ho:PE X o to)(ha:PE X e t)
  (hbase:attributeBase o "update" X.env (eval o X.env)=eval o X.env:=by rfl)
  (hfew : ((backTo cpos (starEach [e] X.env)).all (λx => !x.1) && (backToKw cpos (keywordEach [] X.env)).all (λx => x.1.isSome)
   && decide (([e]:List Expr).length+([]:List Keyword).length+(if ([]:List Keyword).isEmpty then 0 else 1)<30))=true:=by rfl)
  (hline:(apos.endLine==cpos.line)=true:=by rfl) (htr:backTo cpos (starEach [e] X.env)=[(false,eval e X.env)]:=by rfl):PE X (.Call (.Attribute o "update" apos) [e] [] cpos) (Yz X.K to t):=by
 intro pins s σ H Q I h
 refine wpAny_Call_method hbase hfew hline PySem.F.plainAttrs_dict PySem.F.slot_dict_update PySem.F.type_dict_update (thn (ho pins s σ H _ I h) λu s1 ⟨x,H1,I1,rx,⟨a,ts0,ex,d⟩,q1⟩=>?_)
 subst ex
 obtain rfl:u=Value.ref a:=rx
 obtain⟨t1,t2⟩:=Xq I1 d
 refine⟨t1,t2,?_⟩
 rw[htr]
 refine Calls.callWith_builtin rfl (Calls.evalArgs_plain (Calls.spliced_cons (thn (ha pins s1 σ H1 _ I1 q1) λiv s2 ⟨y,H2,I2,ry,a',b,ts,us,ea,eb,hab,hq,hk,hqb,hkb,hn,hz,q2⟩=>Calls.spliced_nil ?_)))
 cases ea;subst eb
 obtain rfl:iv=Value.ref b:=ry
 obtain⟨h1,h2,h3,xs,pr,dd⟩:=RN I2 hq hk
 obtain⟨g1,g2,g3,ys,qr,de⟩:=RN I2 hqb hkb
 have l1:xs.length=ts.length:=by have:=congrArg List.length (E6 pr);simp at this;omega
 have l2:ys.length=us.length:=by have:=congrArg List.length (E6 qr);simp at this;omega
 refine call_meetsIn PySem.F.slot_dict_update dd.typeIs PySem.F.entry_dict_update (PySem.F.args_dict_update_2 _ _) (Duh.meets_update (tupleKind (intKind X.prog X.w)) a b hab g1 Duh.tup_cls) ⟨tupleKind_room_in1 (by omega),xs,ys,dd,de,λ_=>by rw[LN X.prog X.w qr];exact hn,by omega,λh' dd' hs=>?_⟩
 obtain⟨o',es,ep,hq',k2,k3,k4,_,k5⟩:=dd'
 obtain⟨p1,p2,p3⟩:=R0 qr pr h3
 refine⟨.non,_,?_,rfl,q2 ep⟩
 obtain⟨ep0,hq⟩:=hq
 refine I2.write (x:=a) (e:=a) (by rw[hq];exact True.intro) (.inl rfl) (λc z hc e=>(hs.2 c hc).trans e) ⟨o',hq'⟩ ?_
 exact⟨⟨h1,by omega,p2,_,p1,o',es,hq',k2,k3,k4⟩,⟨o',hq'⟩,λm1 m2 f kk=>PL f kk⟩
variable {K:KW}
instance (l:List Int):Decidable l.Nodup:=inferInstance
def Lo:List PyData->Option PyData
 |[.dict l]=>(tkP l).bind λm=>if (m.map λp=>hT p.1).Nodup then some (.dict (BC m)) else none
 |_=>none
theorem Ph{m:List (List Int×PyData)}{ts:TsV}(h:m.map (·.1)=ts.map (·.1)):(m.map λp=>hT p.1)=ts.map λt=>hT t.1:=by
 rw[show(m.map λp=>hT p.1)=(m.map (·.1)).map hT by rw[cu];rfl,h,cu];rfl
theorem Yg:BR K true (WR K) Lo:=by
 intro S H vs ds d Q hS l e q
 unfold Lo at e
 split at e
 ·obtain⟨m,e1,e⟩:=oB e
  split at e
  ·rename_i hn
   cases e
   obtain⟨v,us,rfl,il,iu⟩:=l
   obtain⟨a,ts,rfl,h,lv⟩:=Is.dct il (T5 e1)
   cases (show us=[] from iu)
   obtain⟨ek,rfl⟩:=NH lv e1
   refine⟨a,ts,rfl,h.unhid,λt ht=>Same.tup same_hid (Pf lv t ht),by rw[<- Ph ek];exact hn,λp ep hp=>q _ _ (BF hp _) ?_⟩
   have s:=BF hp (HO.ext (Fl p ts ep))
   refine⟨.t m,p,_,rfl,rfl,hp,AW,ts,⟨ep,rfl⟩,lv.mono λb o z=>?_⟩
   obtain⟨z1,z2⟩:=hid_iff.mp z
   exact hid_iff.mpr ⟨λw=>w.elim z1 λw=>(by subst w;rw[hp]at z2;cases z2),s b o z2⟩
  ·cases e
 ·cases e
def MI(m u:List (List Int×PyData)):List (List Int×PyData):=u.foldl (λacc p=>LL acc p.1 p.2) m
theorem UP{H:Hp}:∀{u:List (List Int×PyData)} {us:TsV},IsKV K H (BC u) us->∀{m:List (List Int×PyData)} {ts:TsV},IsKV K H (BC m) ts->IsKV K H (BC (MI m u)) (Kw ts us)
 |[],_,h,m,ts,g=>by rw[show _=[] from h];exact g
 |(k,d)::u,_,⟨t,tr,ev,ek,hk,h,r⟩,m,ts,g=>by
  subst ev
  have e1:k=t.1:=by
   injection ek with ek
   exact Ky ek
  subst e1
  exact UP r (S9 hk h g)
def SV(i:Nat)(e:DX)(τ:DS):Option Out:=(e τ).bind λp=>match p.2[i]?,p.1 with
 |some (some (.k m)),.dict l=>(tkP l).bind λu=>if m.length+u.length<=sizeLine/\(u.map λp=>hT p.1).Nodup then some (.nx (p.2.set i (some (.k (MI m u))))) else none
 |_,_=>none
theorem aP{np:Nat}{fr f1:Bool}{i:Nat}{te:TE}{e:DX}(he:E K te f1 e):B K np (NJ (Yz K (Fg i) te)) fr (SV i e):=by
 intro F S M τ σ H D out hnp f ee q
 unfold SV at ee
 obtain⟨⟨x,t6⟩,e1,ee⟩:=oB ee
 dsimp only at ee
 split at ee
 ·rename_i m l hx
  obtain⟨u,e3,ee⟩:=oB ee
  split at ee
  ·rename_i hml
   cases ee
   have lk1:=he.like _ _ _ e1
   obtain⟨zs,hz⟩:=lk1.kl hx
   obtain⟨p,ho,hp,hM,hH,ts0,⟨ep1,rfl⟩,_⟩:=f.r.mt i (.t zs) hz
   refine⟨.ref p,hp,⟨p,ts0,rfl,ep1,hH⟩,he.weak.run S M τ σ H _ _ t6 f.r e1 λv H2 r2 c2 i2=>?_⟩
   obtain⟨p',ho',hp',hM',hl,ts,⟨ep0,rfl⟩,lv⟩:=r2.mt i (.t m) hx
   rw[hp]at hp';cases hp'
   have Sp:=r2.sub p hM'
   obtain⟨b,us,rfl,hb,lu⟩:=Is.dct i2 (T5 e3)
   obtain⟨ek,rfl⟩:=NH lu e3
   have hpb:p≠b:=λz=>by
    obtain⟨ep,w⟩:=hb
    exact(hid_iff.mp w).1 (z▸Sp)
   have l1:ts.length=m.length:=by rw[Qr lv];unfold BC;rw[B']
   have l2:us.length=u.length:=by rw[Qr lu];unfold BC;rw[B']
   refine⟨p,b,ts,us,rfl,rfl,hpb,⟨ep0,hl⟩,λt ht=>Same.tup same_hid (Pf lv t ht),hb.unhid,λt ht=>Same.tup same_hid (Pf lu t ht),by rw[<- Ph ek];exact hml.2,by omega,λep=>?_⟩
   have cc:Chg (λb=>b=p) H2 (upd H2 p (.ext (Fl p (Kw ts us) ep))):=λb o hn e=>by rw[AR hn];exact e
   have f2:=f.step r2 c2 lk1
   have r3:=r2.setO (w:=.t m) (w':=.t (MI m u)) hx hp cc AW (by rw[FL Sp];exact⟨_,⟨ep,rfl⟩,UP lu lv⟩)
   have c3:Chg M H2 (upd H2 p (.ext (Fl p (Kw ts us) ep))):=λb o hn e=>cc b o (λz=>hn (by subst z;exact hM')) e
   exact q S M σ _ (f2.step r3 c3 (FA (w:=.t m) (w':=.t (MI m u)) hx rfl)) ((c2.trans c3).keep f.r.sub)
  ·cases ee
 ·cases ee
end DL
end
section
namespace DL
open PySem L2
variable {K:KW} {np:Nat}
theorem YG{n i:Nat}{x:L}:(List.replicate n (none:Option L))[i]?≠some (some x):=by
 intro e
 rw[dF]at e
 split at e<;>cases e
variable {K:KW} {np:Nat}
theorem br{S:Addr->Prop}{τ:DS}{σ:St}{H:Hp}(hl:σ.length=τ.length)(hd:∀(i:Nat) (l:L),τ[i]?=some (some l)->∃x v,l = .d x/\σ[i]?=some (some v)/\Is K (hid S H) x v)(hs:∀a,S a->∃o,H a=some o):R K S (λ_=>False) τ σ H:=by
 have own:∀(i:Nat) (o:Ow),τ[i]?≠some (some o.L):=λi o e=>by
  obtain⟨x,v,z,_⟩:=hd i _ e
  exact Ow.not_d z
 refine⟨hl,λi z e=>?_,λi o e=>absurd e (own i o),λi z e=>?_,λi j o p a e=>absurd e (own i o),λ_ h=>h.elim,hs,GR.nil λi z e=>?_⟩
 ·obtain⟨x,v,y,h1,h2⟩:=hd i _ e
  cases y;exact⟨v,h1,h2⟩
 ·obtain⟨x,v,y,_⟩:=hd i _ e
  cases y
 ·obtain⟨x,v,y,_⟩:=hd i _ e
  cases y
theorem Xh{S:Addr->Prop}{H:Hp}{x y:PyData}{v0 v1:V}{tl:List (Option V)}(h0:Is K (hid S H) x v0)(h1:Is K (hid S H) y v1)(hs:∀a,S a->∃o,H a=some o){n:Nat}(hl:tl.length=n):R K S (λ_=>False) (some (.d x)::some (.d y)::List.replicate n none) (some v0::some v1::tl) H :=
 br (by simp [hl]) (λi l e => by
  match i,e with
  |0,e=>cases e;exact⟨x,v0,rfl,rfl,h0⟩
  |1,e=>cases e;exact⟨y,v1,rfl,rfl,h1⟩
  |k+2,e=>exact absurd e YG) hs
end DL
end
section
namespace L2
open PySem PySem.Spec PyProof.Rows
def CRg(lo hi st:Int):Prop:=-1000000<=lo/\lo<=1000000/\-1000000<=hi/\hi<=1000000/\0<st/\st<=1000000
end L2
namespace DL
open PySem L2 PyProof.Rows
variable {K:KW}
instance {i j k:Int}:Decidable (CRg i j k):=by unfold CRg;infer_instance
end DL
end
section
namespace L2
open PySem PySem.Spec PyProof.Rows
end L2
namespace DL
open PySem L2 PyProof.Rows
variable {K:KW}
end DL
namespace DL
open PySem L2 PyProof.Rows
end DL
end
section
namespace L2
open PySem PySem.Spec PyProof.Rows
section
variable {prog:Program} {w:World} {A:Around} {E:Value->Shared->Prop} {s:Shared}
end
section
variable {X:Cx} {N':List Str} {own:Nat} {fr:List Nat} {scope:Scope} {elt tg iter:Expr} {ifs:List Expr} {pos:Pos}
end
section
variable {X:Cx} {k i j:Nat} {f ea C D':Addr} {oe:Obj} {fd:FuncData} {ps:List Str} {x cn n y:Str} {p pos p1 np hp p2 py:Pos} {e:Expr} {es:List Expr} {t:TA} {b₀:Stmt} {suite:List Stmt}
end
section
variable {X:Cx} {ea C c1:Addr} {oe:Obj} {b:Bool}
end
end L2
end
section
namespace DL
open PySem L2
variable {K:KW} {np:Nat}
variable {Ex:Nat->Hp->Prop} {fr:Bool}
end DL
namespace L2
open PySem PySem.Spec PyProof.Rows PySem.W DL
end L2
namespace DL
open PySem L2
section
variable {K:KW} {ea c1 c2:Addr} {oe:Obj} {s1 s2:Str} {b1 b2:Bool} {σ:St} {H:Hp} {Q:VK}
end
end DL
end
section
namespace L2
open PySem PySem.Spec PyProof.Rows
def DF(K:PySem.W.Frag)(x:Str)(st:Stmt)(f:Addr)(fd:FuncData):Prop:=PySem.W.nsIn K mainGlobals x=some (some (.ref f))/\Fun K x x st f fd
section
variable {K:PySem.W.Frag} {x:Str} {st:Stmt} {f:Addr} {fd:FuncData} {h:Heap} {mg:Str->Option Value}
theorem DF.mk{oc:Value}{od an:Option Addr}{osl:Array (Option Value)}{kV doc pm cdv ct:Value}(a:PySem.W.nsIn K mainGlobals x=some (some (.ref f)))(l:K.lookup f=some ⟨oc,od,.func (PySem.W.fnOf x x (ES st) (Dw st) (AM st) .none kV doc pm an cdv ct),osl⟩)(c:PySem.W.codeIn K cdv x=true)(k:PySem.W.keepIn K (.ref f)=true):DF K x st f (PySem.W.fnOf x x (ES st) (Dw st) (AM st) .none kV doc pm an cdv ct):=⟨a,W9 l c k⟩
theorem DF.m(d:DF K x st f fd)(X:K.In h)(G:h.Ns mainGlobals mg):mg x=some (.ref f):=PySem.W.mg_of X G d.1
theorem DF.b{ps:List Str}(d:DF K x st f fd)(h:∀(kV doc pm:Value) (an:Option Addr) (cdv ct:Value) (us:List Value),us.length=ps.length->bindArgs (PySem.W.fnOf x x (ES st) (Dw st) (AM st) .none kV doc pm an cdv ct) ⟨us,[]⟩=pure (ps.zip us)):Binds K fd ps []:=d.2.binds h
theorem DF.cal{P:Program}{w:World}{base:Heap}{k:Nat}{ps:List Str}{sp:Sp}(d:DF K x st f fd)(X:K.In h)(G:h.Ns mainGlobals mg)(o:FnOk P w K mg base CX0 k f fd ps sp)(b:∀(kV doc pm:Value) (an:Option Addr) (cdv ct:Value) (us:List Value),us.length=ps.length->bindArgs (PySem.W.fnOf x x (ES st) (Dw st) (AM st) .none kV doc pm an cdv ct) ⟨us,[]⟩=pure (ps.zip us)):Cal P w K mg base k x ps sp:=Cal.of d.2 o (d.b b) (d.m X G)
end
instance {sc:Scope} {x:Str}:Decidable (Loc sc x):=by unfold Loc;infer_instance
theorem viL{sc:Scope}{x:Str}(h:Loc sc x):Vis sc x:=h.elim Or.inl λh=>Or.inr (Or.inl h)
theorem pvL{X:Cx}(i:Nat){x:Str}{pos:Pos}(hN:X.N[i]?=some x)(hl:Loc X.env.scope x)(hd:(x==("__debug__":Str))=false/\(x==("__classdict__":Str))=false):PE X (.Name x pos) (Fg i):=WV hN (viL hl) hd.1 hd.2
end L2
end
section
namespace DL
open PySem L2
variable {K:KW} {np:Nat}
def dOk(e:DX)(τ:DS):Option (PyData×DS):=(e τ).bind λp=>if p.2.all okM=true then some p else none
theorem XU{e:DX}{τ t7:DS}{d:PyData}(h:dOk e τ=some (d,t7)):e τ=some (d,t7)/\t7.all okM=true:=by
 unfold dOk at h
 obtain⟨⟨x,t6⟩,e1,h⟩:=oB h
 split at h
 ·rename_i z;cases h;exact⟨e1,z⟩
 ·cases h
theorem Yc{own:Nat}{f1:List Nat}{j0:Nat}{f2:List Nat}{wi:TI}{it:DI}{tg:TG}{g:DG}{tc:TT}{c:DT}{te:TE}{e:DX}(hi:IT K wi it)(hg:TG1 K tg g)(hc:T K tc c)(he:EH K te e):EG K (tLC own (f1++j0::f2) wi tg tc te) (O0 own f1 j0 f2 it g c (dOk e)):=by
 refine⟨λτ d t7 h=>?_,λτ d t7 h=>?_,?_⟩
 ·obtain⟨ds,t6,acc,t9,xs,e1,_,hm,_,_,_,_,rfl,y0,hy,hf⟩:=Hr h
  exact(hi.like _ _ _ e1).trans (FA hy hf)
 ·obtain⟨ds,t6,acc,t9,xs,e1,_,hm,_,_,_,rfl,_⟩:=Hr h
  exact⟨_,rfl⟩
 intro S M τ σ H Q d t7 r ee q
 obtain⟨ds,t6,acc,t9,xs,e1,hz,hm,hnm,e3,hx,rfl,rfl,_⟩:=Hr ee
 obtain⟨y0,hm⟩:=isM_iff.mp hm
 refine hi.run S M τ σ H _ ds _ r e1 λJ H1 r1 c1 iJ=>?_
 obtain⟨p,us,hp,hM,hHp,lp⟩:=r1.mt j0 y0 hm
 have Sp:S p:=r1.sub p hM
 have mid:(f1++j0::f2)[f1.length]?=some j0:=by rw[cR (W' _),gi];rfl
 have only:∀(i:Nat) (ys:Ow),(Ff own (f1++j0::f2) t6)[i]?=some (some ys.L)->i=own+f1.length/\ys=y0:=λi ys h=>by
  obtain⟨k,j,rfl,ej,et⟩:=Bi h
  rcases Xe ej with ⟨rfl,rfl⟩|z
  ·rw[hm]at et;exact⟨rfl,(Ge et).symm⟩
  ·have:=cz.mp hnm j z
   rw[isM_iff.mpr ⟨ys,et⟩]at this
   cases this
 intro D hD
 have pD:p≠D:=Af hHp hD
 refine⟨λi m ys σ' H'=>∃l5 acc' G,R K (λb=>S b\/b∈D::G) (λb=>b=p) l5 σ' H'/\Keep S H1 (λb=>S b\/b∈D::G) H'/\Chg (λb=>b=D\/b=p) H1 H'/\DpL K (λb=>S b\/b∈D::G) H' acc' ys G/\(D::G).Nodup/\(∀a∈G,H1 a=none)/\H' D=some (.lst ys)/\ys.length<=i/\i<=ds.length/\m=ds.length-i/\BN g c (dOk e) (ds.drop i) acc' l5=some (acc,t9)/\isM l5 (own+f1.length)=true/\σ'[own+f1.length]?=some (some (.ref p)),?_,?_⟩
 ·have s:=BF hD (HO.lst [])
  have k:Keep S H1 (λb=>S b\/b∈[D]) (upd H1 D (.lst [])):=λb o hn e=>by
   have:=Af e hD
   exact⟨λz=>z.elim hn λz=>this (cW.mp z),s b o e⟩
  have mb:(Ff own (f1++j0::f2) t6)[own+f1.length]?=some (some y0.L):=by
   unfold Ff
   rw[cR (by simp),dX,U',show own+f1.length-own=f1.length by omega,mid]
   show some (noG (t6[j0]?).join)=_
   rw[hm];cases y0<;>rfl
  refine⟨ds.length,Ff own (f1++j0::f2) t6,[],[],⟨?_,?_,?_,?_,?_,?_,?_,GR.nil OI⟩,k,.of s,⟨rfl,rfl⟩,by simp,λ_ h=>by simp at h,AW,W' _,cZ _,by simp,by simpa using e3,isM_iff.mpr ⟨_,mb⟩,E1 mid hp⟩
  ·unfold blk Ff;simp
  ·intro i x e
   obtain⟨kk,j,rfl,ej,et⟩:=Bi e
   obtain⟨v,h1,h2⟩:=r1.dat j x et
   exact⟨v,E1 ej h1,h2.mono k.same⟩
  ·intro i ys e
   obtain⟨rfl,rfl⟩:=only i ys e
   exact⟨p,us,E1 mid hp,rfl,s _ _ hHp,lp.mono k.same⟩
  ·intro i x e
   obtain⟨kk,j,rfl,ej,et⟩:=Bi e
   obtain⟨a,vs,h1,h2,h3⟩:=r1.cst j x et
   exact⟨a,vs,E1 ej h1,k.same.seq h2,h3.mono k.same⟩
  ·intro i j ys zs a e1 e2 _ _
   rw[(only i ys e1).1,(only j zs e2).1]
  ·rintro a rfl
   exact .inl Sp
  ·rintro a (h|h)
   ·obtain⟨o,e⟩:=r1.ex a h
    exact⟨o,s _ _ e⟩
   ·rw[cW.mp h];exact⟨_,AW⟩
 ·rintro i m ys σ' H' ⟨l5,acc',G,rb,k,ch,la,hG,hG1,hHD,hyl,hil,rfl,hl,hmb,hpb⟩
  obtain⟨I1,I2⟩:=iJ _ _ k
  have pG:p∉G:=λz=>by have:=hG1 p z;rw[hHp]at this;cases this
  have DG:D∉G:=(cP.mp hG).1
  by_cases hlt:i<ds.length
  ·right
   have ed:ds[i]?=some ds[i]:=Y' hlt
   obtain⟨go,yl⟩:=I1 i _ ed
   refine⟨go,λx H2 y=>?_⟩
   obtain⟨rfl,ix⟩:=yl x H2 y
   rw[dQ hlt,BN]at hl
   obtain⟨t8,e2,hl⟩:=oB hl
   obtain⟨⟨b,l0⟩,e4,hl⟩:=oB hl
   obtain⟨zb,hmb⟩:=isM_iff.mp hmb
   refine hg.run _ _ l5 σ' H2 x _ t8 _ rb ix e2 λσ3 r3 k3=>?_
   have hpb3:σ3[own+f1.length]?=some (some (.ref p)):=(k3 _ _ hmb).trans hpb
   have hm2:t8[own+f1.length]?=some (some zb.L):=((hg.ms _ _ _ e2).2 _ _).mpr hmb
   refine hc.run _ _ t8 σ3 H2 _ b l0 r3 e4 λH4 r4 c4=>?_
   have k4:Keep (λb=>S b\/b∈D::G) H2 (λb=>S b\/b∈D::G) H4:=c4.keep λb z=>by subst z;exact .inl Sp
   have hm3:=((hc.like _ _ _ e4).own (own+f1.length)).mpr ⟨_,hm2⟩
   have hD4:H4 D=some (.lst ys):=c4 D _ (Ne.symm pD) hHD
   have ch4:Chg (λb=>b=D\/b=p) H1 H4:=ch.trans λb o hn e=>c4 b o (λz=>hn (.inr z)) e
   have onG:∀{Hx:Hp},Chg (λb=>b=p) H2 Hx->∀a∈G,Hx a=H2 a:=λ{Hx} c a ha=>by
    obtain⟨_,z,tt⟩:=la.lst a ha
    rw[z];exact c a _ (λw=>pG (w▸ha)) z
   cases b with
   |false =>
    rw[if_neg ck]
    exact⟨ds.length-(i+1),by omega,l0,acc',G,r4,k.trans k4,ch4,la.mono (tsS k4.same) (onG c4),hG,hG1,hD4,by omega,hlt,rfl,hl,isM_iff.mpr hm3,hpb3⟩
   |true =>
    rw[if_pos rfl]
    rw[if_pos rfl]at hl
    obtain⟨⟨z,l6⟩,e5,hl⟩:=oB hl
    obtain⟨e5,ok5⟩:=XU e5
    refine he.run _ _ l0 σ3 H4 _ z l6 r4 e5 λv H5 X r5 c5 hnX hX hd=>?_
    have c25:Chg (λb=>b=p) H2 H5:=c4.trans c5
    have hD5:H5 D=some (.lst ys):=c5 D _ (Ne.symm pD) hD4
    have hm5:=((he.like _ _ _ e5).own (own+f1.length)).mpr hm3
    have r6:=r4.hideX r5 c5 (he.like _ _ _ e5) (λj o e=>cz.mp ok5 (some o.L) (cj e)) hX hd.lst
    have hp4:∃o,H4 p=some o:=r4.ex p (.inl Sp)
    have pX:p∉X:=λz=>by obtain⟨o,w⟩:=hp4;have:=hX p z;rw[w]at this;cases this
    have DX:D∉X:=λz=>by have:=hX D z;rw[hD4]at this;cases this
    have GX:∀a∈G,a∉X:=λa ha z=>by
     obtain⟨_,w,tt⟩:=la.lst a ha
     have:=hX a z;rw[onG c4 a ha,w]at this;cases this
    have eS:∀b,(S b\/b∈D::(G++X))↔((S b\/b∈D::G)\/b∈X):=λb=>by
     rw[X',X',cN,or_assoc,or_assoc]
    have eS':(λb=>(S b\/b∈D::G)\/b∈X)=λb=>S b\/b∈D::(G++X):=funext λb=>propext (eS b).symm
    rw[eS']at r6
    have hDS:S D\/D∈D::(G++X):=.inr (J' ..)
    have kk:Keep (λb=>S b\/b∈D::(G++X)) H5 (λb=>S b\/b∈D::(G++X)) (upd H5 D (.lst (ys++[v]))):=λb o hn e=>⟨hn,by rw[AR (λz=>hn (by rw[z];exact hDS))];exact e⟩
    have k5:Keep (λb=>S b\/b∈D::G) H2 (λb=>S b\/b∈D::(G++X)) H5:=λb o hn e=>by
     have e4':=c4 b o (λz=>hn (by rw[z];exact .inl Sp)) e
     exact⟨λz=>((eS b).mp z).elim hn (λz=>by have:=hX b z;rw[e4']at this;cases this),c5 b o (λz=>hn (by rw[z];exact .inl Sp)) e4'⟩
    have tX:TSm (hid (λb=>S b\/b∈D::G) H5) (hid (λb=>S b\/b∈D::(G++X)) H5):=Dd λb z=>((eS b).mp z).elim .inl λz=>let ⟨_,e,tt⟩:=hd.lst b z;.inr ⟨_,e,.inl tt⟩
    have hu:hid (λb=>S b\/b∈D::(G++X)) (upd H5 D (.lst (ys++[v])))=hid (λb=>S b\/b∈D::(G++X)) H5:=FL hDS
    refine⟨hD5,by omega,ds.length-(i+1),by omega,l6,acc'++[z],G++X,?_,(k.trans k5).trans kk,?_,?_,?_,?_,AW,by rw[cT,dH];omega,hlt,rfl,hl,isM_iff.mpr hm5,hpb3⟩
    ·refine⟨r6.len,λj x e=>let ⟨u,a,b⟩:=r6.dat j x e;⟨u,a,b.mono kk.same⟩,λj xs e=>?_,λj xs e=>let ⟨a,vs,h1,h2,h3⟩:=r6.cst j xs e;⟨a,vs,h1,kk.same.seq h2,h3.mono kk.same⟩,r6.inj,λa h=>?_,λa h=>?_,r6.gr.to (λi d e=>⟨e,rfl⟩) (λj o a e q=>.inl ⟨o,e,q⟩) (λa h _=>⟨h,AR (by rw[show a=p from h];exact pD)⟩) (tsS kk.same)⟩
     ·obtain⟨a,ws,h1,h2,h3,h4⟩:=r6.mt j xs e
      exact⟨a,ws,h1,h2,by rw[AR (by rw[show a=p from h2];exact pD)];exact h3,h4.mono kk.same⟩
     ·rw[show a=p from h];exact .inl Sp
     ·by_cases e:a=D
      ·subst e;exact⟨_,AW⟩
      ·obtain⟨o,q⟩:=r6.ex a h
       exact⟨o,by rw[AR e];exact q⟩
    ·refine ch4.trans λb o hn e=>?_
     rw[AR (λz=>hn (.inl z))]
     exact c5 b o (λz=>hn (.inr z)) e
    ·have l1:DpL K (λb=>S b\/b∈D::(G++X)) (upd H5 D (.lst (ys++[v]))) acc' ys G:=la.mono (tsS (k5.trans kk).same) λa ha=>by
      have hb:a≠D:=λw=>DG (by rw[<- w];exact ha)
      rw[AR hb];exact onG c25 a ha
     have l2:Dp K (λb=>S b\/b∈D::(G++X)) (upd H5 D (.lst (ys++[v]))) z v X:=hd.mono (by rw[hu];exact tX) λa ha=>AR λz=>DX (z▸ha)
     exact l1.snoc l2
    ·refine cP.mpr ⟨λz=>(cN.mp z).elim DG DX,cg.mpr ⟨(cP.mp hG).2,hnX,λa ha b hb z=>GX a ha (z▸hb)⟩⟩
    ·intro a ha
     rcases cN.mp ha with ha|ha
     ·exact hG1 a ha
     ·cases z:H1 a with
      |none=>rfl
      |some o =>
       exfalso
       have h4:=hX a ha
       have h2:=ch4 a o (λw=>w.elim (λw=>DX (w▸ha)) λw=>pX (w▸ha)) z
       rw[h2]at h4;cases h4
  ·left
   have e:i=ds.length:=by omega
   subst e
   rw[eJ,BN]at hl
   cases hl
   refine⟨I2 _ (W' _),?_⟩
   have cp:Chg (λb=>b=p) H1 H':=λb o hn e=>ch b o (λz=>z.elim (Af e hD) hn) e
   obtain⟨a,ws,h1,h2,h3,h4⟩:=rb.mt _ _ hx
   have ea:a=p:=h2
   subst ea
   refine q _ H' (D::G) (r1.setO hm hp cp h3 (h4.mono (Bf λb z=>.inl z))) (c1.trans λb o hn e=>cp b o (λz=>hn (by subst z;exact hM)) e) hG (λa ha=>?_) ⟨D,ys,G,rfl,rfl,hHD,la.mono (tsS (Bf λb z=>.inl z)) λ_ _=>rfl⟩
   rcases X'.mp ha with rfl|ha
   ·exact r1.none c1 hD
   ·exact r1.none c1 (hG1 a ha)
end DL
namespace DL
open PySem L2
variable {K:KW} {np:Nat}
theorem X0{S M:Addr->Prop}{τ:DS}{σ:St}{H:Hp}(r:R K S M τ σ H){i:Nat}{p:Addr}{xs:Ow}(hi:τ[i]?=some (some xs.L))(hp:σ[i]?=some (some (.ref p))){ds:List PyData}{vs:List V}(l:IsL K (hid S H) ds vs) :
  R K S (λb=>b=p) ((xs.L::ds.map L.d).map some) ((V.ref p::vs).map some) H:=by
 have ra:=Io r l
 obtain⟨p',us',hp',hM',hl,ll⟩:=r.mt i xs hi
 rw[hp]at hp';cases hp'
 refine ⟨?_, ?_, ?_, ?_, ?_, ?_, r.ex, GR.nil λj x e => by
  cases j with
  |zero=>exact Ow.not_g (G' (G' e))
  |succ j =>
   rw[P',dZ,U',U']at e
   cases q:ds[j]? with
   |none=>rw[q]at e;cases e
   |some d=>rw[q]at e;cases e⟩
 ·have:=ra.len
  simp only[List.length_map,List.map_cons,List.length_cons]at this ⊢
  omega
 ·intro j x e
  cases j with
  |zero=>exact absurd (G' (G' e)) Ow.not_d
  |succ j=>exact ra.dat j x (by simpa using e)
 ·intro j ys e
  cases j with
  |zero=>obtain rfl:=Ge e;exact⟨p,us',rfl,rfl,hl,ll⟩
  |succ j=>obtain⟨_,_,_,h,_⟩:=ra.mt j ys (by simpa using e);exact h.elim
 ·intro j ys e
  cases j with
  |zero=>exact absurd (G' (G' e)) Ow.not_c
  |succ j=>exact ra.cst j ys (by simpa using e)
 ·intro j k ys ws b e1 e2 _ _
  cases j with
  |zero=>cases k with
   |zero=>rfl
   |succ k=>obtain⟨_,_,_,h,_⟩:=ra.mt k ws (by simpa using e2);exact h.elim
  |succ j=>obtain⟨_,_,_,h,_⟩:=ra.mt j ys (by simpa using e1);exact h.elim
 ·rintro b rfl
  exact r.sub _ hM'
def MU(K:KW)(G:Mir):Sp:=λvs H Q _=>∃(S M:Addr->Prop) (ls:List L) (r:PyData) (ls':List L),R K S M (ls.map some) (vs.map some) H/\G ls=some (r,ls') /\
 ∀v H' F,R K S M (ls'.map some) (vs.map some) H'->Chg M H H'->F.Nodup->(∀a∈F,H a=none)->Dp K S H' r v F->Q v H'
theorem Q9{G:Mir}{vs:List V}{H:Hp}{Q:VK}{X:XK}{np:Nat}(hG:∀ls r,G ls=some r->ls.length=np)(h:MU K G vs H Q X):vs.length=np:=by
 obtain⟨S,M,ls,r,ls',hR,e,_⟩:=h
 have:=hR.len
 rw[B',B']at this
 rw[this,hG _ _ e]
theorem Q7{np nl:Nat}{t:TS}{b:DB}{N:List Str}{vs:List V}{H:Hp}{Q:VK}{X:XK}(hb:BG K np t b)(hN:N.length=np+nl)(h:MU K (B1 true np nl b) vs H Q X):t { nx:=λ_ H'=>Q .non H',rt:=Q } (L2.start N vs) H:=by
 obtain⟨S,M,ls,r,ls',hR,e,q⟩:=h
 have hlen:=Aj _ _ e
 unfold B1 at e
 rw[if_pos hlen]at e
 obtain⟨o,e1,e⟩:=oB e
 cases o with
 |nx t7=>simp at e
 |bk t7=>simp at e
 |ct t7=>simp at e
 |rt d t7 =>
  obtain⟨ls1,e2,e⟩:=oM e
  cases e
  obtain⟨F,rfl,rfl,hnp,f0,done⟩:=Uj hR hlen hN (N0 e2)
  exact hb F _ _ _ _ _ _ _ hnp f0 e1 λS' M' σ' H' v X f hn hX hd=>let ⟨a,c⟩:=done _ _ _ _ _ _ f e2;q v H' X a c hn hX hd
theorem SQ{i:Nat}{G:Mir}{t:TA}{a:DA}{X:XK}(ha:A K t a):EH K (Ke (MU K G) [] X (EC (Fg i) t)) (A8 i G a):=by
 refine⟨λτ d t7 e=>?_,?_⟩
 ·obtain⟨rs,t6,ds,xs,xs',r,e1,e2,e3,e4,rfl,e5⟩:=Gz e
  exact(ha.like _ _ _ e1).trans (FA e3 e5)
 intro S M τ σ H Q d t7 rr e q
 obtain⟨rs,t6,ds,xs,xs',r,e1,e2,e3,e4,rfl,_⟩:=Gz e
 have lk:=ha.like _ _ _ e1
 obtain⟨zs,hz⟩:=(lk.own i).mp ⟨_,e3⟩
 obtain⟨p,us,hp,hM,_,_⟩:=rr.mt i zs hz
 refine⟨.ref p,hp,?_⟩
 refine ha.run S M τ σ H _ rs _ rr e1 λvs H1 r1 c1 i1=>?_
 have l:=Cy i1 e2
 obtain⟨p',us',hp',hM',hl,ll⟩:=r1.mt i xs e3
 rw[hp]at hp';cases hp'
 show MU K G ((.ref p::vs)++[]) H1 Q X
 rw[dM]
 refine⟨S,λb=>b=p,xs.L::ds.map L.d,_,xs'.L::r,X0 r1 e3 hp l,e4,λv H' F r' c hn hF hd=>?_⟩
 obtain⟨p2,us2,h1,h2,h3,h4⟩:=r'.mt 0 xs' rfl
 cases h1
 exact q v H' F (r1.setO e3 hp c h3 h4) (c1.trans λb o hn e=>c b o (λz=>hn (by subst z;exact hM')) e) hn (λa ha=>r1.none c1 (hF a ha)) hd
theorem JF{i:Nat}{G:Mir}{t:TA}{a:DA}{X:XK}(ha:A K t a):EG K (Ke (MU K G) [] X (EC (Fg i) t)) (dLs (A8 i G a)) :=
 ⟨λ_ _ _ e=>(SQ (X:=X) ha).like _ _ _ (Ew e).1,λ_ _ _ e=>(Ew e).2,λS M τ σ H Q d t7 r e q=>(SQ ha).run S M τ σ H Q d t7 r (Ew e).1 q⟩
end DL
end
section
namespace L2
open PySem PySem.Spec PyProof.Rows
structure MCal(P:Program)(w:World)(K:PySem.W.Frag)(mg:Str->Option Value)(base:Heap)(k:Nat)(C:Addr)(m:Str)(ps:List Str)(sp:Sp):Prop where
 ex:∃f fd,FnOk P w K mg base CX0 k f fd ps sp/\Binds K fd ps []/\Xk K C m f
theorem MCal.mono{P:Program}{w:World}{K:PySem.W.Frag}{mg:Str->Option Value}{base:Heap}{j k:Nat}{C:Addr}{m:Str}{ps:List Str}{sp:Sp}(M:MCal P w K mg base j C m ps sp)(h:j<=k):MCal P w K mg base k C m ps sp:=let ⟨f,fd,F,b,m⟩:=M.ex;⟨f,fd,F.mono h,b,m⟩
section
variable {X:Cx} {k:Nat} {C:Addr} {ps:List Str} {sp:Sp} {x m:Str} {p pos apos:Pos} {e o:Expr} {es:List Expr} {ta:TE} {t:TA}
theorem Ip{pl:Sem Bool}(he:PE X o ta)(c:Cls X.K C)(M:MCal X.prog X.w X.K X.mg X.base k C m ps sp)(hr:Room k X.A)(ha:PA X (e::es) t)
  (hst:starEach (e::es) X.env=(false,eval e X.env)::starEach es X.env:=by rfl) (hpl:(backTo pos (starEach es X.env)).any (·.1)=false:=by rfl)
  (ht : eval (.Call (.Attribute o m apos) (e :: es) [] pos) X.env = (do
   let ov <- eval o X.env
   standAt apos.atName
   let (f,first) <- holding [ov] (getMethod ov m pl)
   callWith pos f first (backTo pos (starEach (e::es) X.env)) (backToKw pos (keywordEach [] X.env))):=by rfl) :
  PE X (.Call (.Attribute o m apos) (e::es) [] pos) (Kc C m sp [] E0 ta t):=let ⟨_,_,F,b,hm⟩:=M.ex;X4 he c hm F hr b .nil UI ha hst hpl ht
theorem LM{pl:Sem Bool}(he:PE X o ta)(c:Cls X.K C)(M:MCal X.prog X.w X.K X.mg X.base k C m ps sp)(hr:Room k X.A)
  (ht : eval (.Call (.Attribute o m apos) [] [] pos) X.env = (do
   let ov <- eval o X.env
   standAt apos.atName
   let (f,first) <- holding [ov] (getMethod ov m pl)
   callWith pos f first (backTo pos (starEach [] X.env)) (backToKw pos (keywordEach [] X.env))):=by rfl) :
  PE X (.Call (.Attribute o m apos) [] [] pos) (Kc C m sp [] E0 ta J3):=let ⟨_,_,F,b,hm⟩:=M.ex;WW he c hm F hr b .nil UI ht
structure KCal(P:Program)(w:World)(K:PySem.W.Frag)(mg:Str->Option Value)(base:Heap)(k:Nat)(x:Str)(C:Addr)(ps:List Str)(sp:Sp):Prop where
 ex:∃f fd,FnOk P w K mg base CX0 k f fd ps sp/\Binds K fd ps []/\Mk K C f/\mg x=some (.ref C)
theorem KCal.mono{P:Program}{w:World}{K:PySem.W.Frag}{mg:Str->Option Value}{base:Heap}{j k:Nat}{x:Str}{C:Addr}{ps:List Str}{sp:Sp}(M:KCal P w K mg base j x C ps sp)(h:j<=k):KCal P w K mg base k x C ps sp:=let ⟨f,fd,F,b,m⟩:=M.ex;⟨f,fd,F.mono h,b,m⟩
theorem Rj(M:KCal X.prog X.w X.K X.mg X.base k x C ps sp)(hr:Room (k+1) X.A)(hg:Gl X x)(ha:PA X (e::es) t)(hdb:(x==("__debug__":Str))=false:=by decide)(he:starEach (e::es) X.env=(false,eval e X.env)::starEach es X.env:=by rfl)(hpl:(backTo pos (starEach es X.env)).any (·.1)=false:=by rfl) :
  PE X (.Call (.Name x p) (e::es) [] pos) (WB C sp [] E0 t):=let ⟨_,_,F,b,hm,g⟩:=M.ex;X5 hm F hr hg g b .nil UI ha hdb he hpl
end
end L2
namespace DL
open PySem L2
variable {K:KW} {np:Nat}
def He(f:Str):List (PyData×PyData)->Option PyData
 |[]=>none
 |(.str n,d)::r=>if n=f then some d else He f r
 |_::r=>He f r
def obF(n:Str):PyData->Option (List (PyData×PyData))
 |.dict ((.list [],.str m)::r)=>if m=n then some r else none
 |_=>none
theorem Wb{n:Str}{d:PyData}{r:List (PyData×PyData)}(h:obF n d=some r):d = .dict ((.list [],.str n)::r):=by
 unfold obF at h
 split at h
 ·split at h
  ·rename_i e;cases h;rw[e]
  ·cases h
 ·cases h
theorem JR{α:Type}{f n:Str}{x:α}{fs:List (Str×α)}:((n,x)::fs).lookup f=if n=f then some x else fs.lookup f:=by
 by_cases h:n=f
 ·subst h;rw[if_pos rfl,List.lookup_cons_self]
 ·rw[if_neg h,dw]
  rw[show(f==n)=false from beq_eq_false_iff_ne.mpr (Ne.symm h)]
theorem IsF.get{H:Hp}{f:Str}:∀{r:List (PyData×PyData)} {fs:List (Str×V)},IsF K H r fs->match He f r with
  |some d=>∃v,fs.lookup f=some v/\Is K H d v
  |none=>fs.lookup f=none
 |[],_,h=>by rw[show _=[] from h];rfl
 |(k,d)::r,_,⟨n,x,fr,e,ek,h,l⟩=>by
  subst e ek
  have:=IsF.get (f:=f) l
  rw[He,JR]
  by_cases hn:n=f
  ·rw[if_pos hn,if_pos hn];exact⟨x,rfl,h⟩
  ·rw[if_neg hn,if_neg hn];exact this
theorem Is.ob{H:Hp}{d:PyData}{v:V}{n:Str}{r:List (PyData×PyData)}{C:Addr}(h:Is K H d v)(e:obF n d=some r)(hc:K.mg n=some (.ref C)):∃a dx fs,v = .ref a/\H a=some (.ins C dx fs)/\IsF K H r fs:=by
 rw[Wb e]at h
 rcases h with ⟨a,ts,_,_,t,tr,_,ek,_⟩|⟨a,C',dx,fs,e1,e2,⟨m,_,e3,e4⟩,l⟩
 ·cases ek
 ·cases e3
  rw[hc]at e4;cases e4
  exact⟨a,dx,fs,e1,e2,l⟩
def JK(n f:Str)(e:DX)(τ:DS):Option (PyData×DS):=(e τ).bind λp=>(obF n p.1).bind λr=>(He f r).map λd=>(d,p.2)
theorem Pr{n f:Str}{C:Addr}{fr:Bool}{t:TE}{e:DX}(hc:K.mg n=some (.ref C))(c:Cls K C)(na:NoAttr K C f)(h:E K t fr e):E K (ZU K t f) false (JK n f e):=by
 refine⟨λτ d t7 ee=>?_,λS M τ σ H Q d t7 r ee q=>?_⟩<;>unfold JK at ee<;>obtain⟨⟨x,t6⟩,e1,ee⟩:=oB ee<;>obtain⟨l,e2,ee⟩:=oB ee<;>obtain⟨z,e3,ee⟩:=oM ee<;>cases ee
 ·exact h.like _ _ _ e1
 ·refine h.weak.run S M τ σ H _ x _ r e1 λv H1 r1 c1 i1=>?_
  obtain⟨a,dx,fs,rfl,ha,lf⟩:=Is.ob i1 e2 hc
  have g:=lf.get (f:=f)
  rw[e3]at g
  obtain⟨u,g1,g2⟩:=g
  exact⟨a,C,dx,fs,u,rfl,(hid_iff.mp ha).2,c,na,g1,q u H1 r1 c1 g2⟩
def DK(n m:Str)(G:Mir)(o:DX)(a:DA)(τ:DS):Option (PyData×DS):=(o τ).bind λp=>(obF n p.1).bind λr=>if (He m r).isNone=true then (a p.2).bind λq=>(Cc q.1).bind λds=>(G ((p.1::ds).map L.d)).map λz=>(z.1,q.2) else none
theorem IM{n m:Str}{G:Mir}{o:DX}{a:DA}{τ t7:DS}{d:PyData}(h:DK n m G o a τ=some (d,t7)):∃x t6 r rs ds ls',o τ=some (x,t6)/\obF n x=some r/\He m r=none/\a t6=some (rs,t7)/\Cc rs=some ds/\G ((x::ds).map L.d)=some (d,ls'):=by
 unfold DK at h
 obtain⟨⟨x,t6⟩,e1,h⟩:=oB h
 obtain⟨r,e2,h⟩:=oB h
 split at h
 ·rename_i hz
  obtain⟨⟨rs,t8⟩,e3,h⟩:=oB h
  obtain⟨ds,e4,h⟩:=oB h
  obtain⟨⟨z,ls'⟩,e5,h⟩:=oM h
  cases h
  exact⟨x,t6,r,rs,ds,ls',e1,e2,Option.isNone_iff_eq_none.mp hz,e3,e4,e5⟩
 ·cases h
theorem Rx{n m:Str}{C:Addr}{fo:Bool}{to:TE}{t:TA}{o:DX}{a:DA}{sp:Sp}{X:XK}(hc:K.mg n=some (.ref C))(ho:E K to fo o)(ha:A K t a){S M:Addr->Prop}{τ t6 t7:DS}{σ:St}{H:Hp}{Q:VK}{x:PyData}{r:List (PyData×PyData)}{rs:List Ar}{ds:List PyData}(rr:R K S M τ σ H)(e1:o τ=some (x,t6))(e2:obF n x=some r)(e3:He m r=none)(e4:a t6=some (rs,t7))(e5:Cc rs=some ds)
  (q:∀vs H2,R K S M t7 σ H2->Chg M H H2->IsL K (hid S H2) (x::ds) vs->sp vs H2 Q X):Kc C m sp [] X to t σ H Q:=by
 refine ho.weak.run S M τ σ H _ x _ rr e1 λv H1 r1 c1 i1=>?_
 have i1:Is K (hid S H1) x v:=i1
 obtain⟨p,dx,fs,ev,hp,lf⟩:=Is.ob i1 e2 hc
 have g:=lf.get (f:=m)
 rw[e3]at g
 refine⟨p,dx,fs,ev,(hid_iff.mp hp).2,g,ha.run S M t6 σ H1 _ rs t7 r1 e4 λvs H2 r2 c2 i2=>?_⟩
 rw[dM]
 exact q _ H2 r2 (c1.trans c2) ⟨v,vs,rfl,i1.mono (c2.keep r1.sub).same,Cy i2 e5⟩
theorem XJ{n m:Str}{C:Addr}{fr fo:Bool}{G:Mir}{to:TE}{t:TA}{o:DX}{a:DA}{X:XK}(hc:K.mg n=some (.ref C))(ho:E K to fo o)(ha:A K t a):E K (Kc C m (spD K G fr) [] X to t) fr (DK n m G o a):=by
 refine⟨λτ d t7 e=>?_,λS M τ σ H Q d t7 rr e q=>?_⟩
 ·obtain⟨x,t6,r,rs,ds,ls',e1,e2,e3,e4,e5,e6⟩:=IM e
  exact(ho.like _ _ _ e1).trans (ha.like _ _ _ e4)
 ·obtain⟨x,t6,r,rs,ds,ls',e1,e2,e3,e4,e5,e6⟩:=IM e
  refine Rx hc ho ha rr e1 e2 e3 e4 e5 λvs H2 r2 c2 l=>⟨S,λ_=>False,(x::ds).map L.d,_,ls',Io r2 l,e6,λv H' _ c res=>?_⟩
  have s:Same H2 H':=λb o e=>c b o (λz=>z) e
  exact q v H' (r2.same s) (c2.trans (.of s)) (res.back r2 c2)
theorem Uk{n m:Str}{C:Addr}{fo:Bool}{G:Mir}{to:TE}{t:TA}{o:DX}{a:DA}{X:XK}(hc:K.mg n=some (.ref C))(ho:E K to fo o)(ha:A K t a):EH K (Kc C m (spG K G) [] X to t) (DK n m G o a):=by
 refine⟨λτ d t7 e=>?_,λS M τ σ H Q d t7 rr e q=>?_⟩
 ·obtain⟨x,t6,r,rs,ds,ls',e1,e2,e3,e4,e5,e6⟩:=IM e
  exact(ho.like _ _ _ e1).trans (ha.like _ _ _ e4)
 ·obtain⟨x,t6,r,rs,ds,ls',e1,e2,e3,e4,e5,e6⟩:=IM e
  refine Rx hc ho ha rr e1 e2 e3 e4 e5 λvs H2 r2 c2 l=>⟨S,x::ds,_,ls',Io r2 l,e6,λv H' F s hn hF hd=>?_⟩
  exact q v H' F (r2.same s) (c2.trans (.of s)) hn (λa ha=>r2.none c2 (hF a ha)) hd
theorem K6{n m:Str}{C:Addr}{fo:Bool}{G:Mir}{to:TE}{t:TA}{o:DX}{a:DA}{X:XK}(hc:K.mg n=some (.ref C))(ho:E K to fo o)(ha:A K t a):EG K (Kc C m (spG K G) [] X to t) (dLs (DK n m G o a)) :=
 ⟨λ_ _ _ e=>(Uk (X:=X) hc ho ha).like _ _ _ (Ew e).1,λ_ _ _ e=>(Ew e).2,λS M τ σ H Q d t7 r e q=>(Uk hc ho ha).run S M τ σ H Q d t7 r (Ew e).1 q⟩
end DL
namespace L2
open PySem PySem.Spec PyProof.Rows
def MD(K:PySem.W.Frag)(C:Addr)(m qual:Str)(st:Stmt)(f:Addr)(fd:FuncData):Prop:=PySem.W.findIn K (.ref C) m=some (some (.ref f))/\PySem.W.isFn K (.ref f)=true/\Fun K m qual st f fd
theorem MD.mk{K:PySem.W.Frag}{C:Addr}{m qual:Str}{st:Stmt}{f:Addr}{oc:Value}{od an:Option Addr}{osl:Array (Option Value)}{kV doc pm cdv ct:Value}(a:PySem.W.findIn K (.ref C) m=some (some (.ref f)))(b:PySem.W.isFn K (.ref f)=true)(l:K.lookup f=some ⟨oc,od,.func (PySem.W.fnOf m qual (ES st) (Dw st) (AM st) .none kV doc pm an cdv ct),osl⟩)(c:PySem.W.codeIn K cdv qual=true)(k:PySem.W.keepIn K (.ref f)=true):MD K C m qual st f (PySem.W.fnOf m qual (ES st) (Dw st) (AM st) .none kV doc pm an cdv ct):=⟨a,b,W9 l c k⟩
theorem MD.meth{K:PySem.W.Frag}{C:Addr}{m qual:Str}{st:Stmt}{f:Addr}{fd:FuncData}(d:MD K C m qual st f fd):Xk K C m f:=⟨d.1,d.2.1,d.2.2.kp⟩
end L2
end
section
namespace DL
open PySem L2
variable {K:KW} {np:Nat}
def OQ(f:Str)(z:PyData):List (PyData×PyData)->List (PyData×PyData)
 |[]=>[(.str f,z)]
 |(.str g,x)::r=>if g=f then (.str g,z)::r else (.str g,x)::OQ f z r
 |p::r=>p::OQ f z r
theorem PJ{f:Str}{v:V}:∀{fs:List (Str×V)},fs.lookup f=some v->Fh f v fs=fs
 |[],h=>by cases h
 |(g,x)::r,h=>by
  rw[JR]at h
  show(if g=f then (g,v)::r else (g,x)::Fh f v r)=_
  by_cases e:g=f
  ·rw[if_pos e]at h ⊢;cases h;rfl
  ·rw[if_neg e]at h ⊢;rw[PJ h]
theorem DpF.put{S:Addr->Prop}{H:Hp}{f:Str}:∀{r:List (PyData×PyData)} {fs:List (Str×V)} {F:List Addr},DpF K S H r fs F->F.Nodup->∃Fy,(∀a∈Fy,a∈F)/\Fy.Nodup/\(∀d,He f r=some d->∃v,fs.lookup f=some v/\Dp K S H d v Fy) /\
  ∀(S':Addr->Prop) (H':Hp) (z:PyData) (v:V) (Fx:List Addr),TSm (hid S H) (hid S' H')->(∀a∈F,a∉Fy->H' a=H a)->Dp K S' H' z v Fx->Fx.Nodup->(∀a∈Fx,a∈Fy\/a∉F)->∃F3,F3.Nodup/\(∀a∈F3,a∈F\/a∈Fx)/\DpF K S' H' (OQ f z r) (Fh f v fs) F3
 |[],_,_,⟨rfl,rfl⟩,_=>⟨[],λ_ h=>h,by simp,λd h=>(by cases h),λS' H' z v Fx _ _ hd hn _=>⟨Fx,hn,λa h=>.inr h,f,v,[],Fx,[],rfl,by simp,rfl,hd,rfl,rfl⟩⟩
 |(k,d0)::r,_,_,⟨n,x,fr,F1,F2,e1,e2,e3,h,l⟩,hn=>by
  subst e1 e2 e3
  obtain⟨n1,n2,n3⟩:=cg.mp hn
  by_cases e:n=f
  ·refine⟨F1,λa h=>cU _ h,n1,λd hd=>?_,λS' H' z v Fx ts hh hd hx hs=>⟨Fx++F2,cg.mpr ⟨hx,n2,λa ha b hb w=>?_⟩,λa ha=>?_,?_⟩⟩
   ·rw[He,if_pos e]at hd;cases hd
    exact⟨x,by rw[JR,if_pos e],h⟩
   ·subst w
    rcases hs a ha with z|z
    ·exact n3 a z a hb rfl
    ·exact z (L' _ hb)
   ·rcases cN.mp ha with z|z
    ·exact .inr z
    ·exact .inl (L' _ z)
   ·rw[OQ,if_pos e,show Fh f v ((n,x)::fr)=(n,v)::fr by show(if n=f then (n,v)::fr else _)=_;rw[if_pos e]]
    exact⟨n,v,fr,Fx,F2,rfl,rfl,rfl,hd,l.mono ts λa ha=>hh a (L' _ ha) λz=>n3 a z a ha rfl⟩
  ·obtain⟨Fy,a1,a2,a3,a4⟩:=DpF.put (f:=f) l n2
   refine⟨Fy,λa h=>L' _ (a1 a h),a2,λd hd=>?_,λS' H' z v Fx ts hh hd hx hs=>?_⟩
   ·rw[He,if_neg e]at hd
    rw[JR,if_neg e];exact a3 d hd
   ·obtain⟨F3,b1,b2,b3⟩:=a4 S' H' z v Fx ts (λa ha hb=>hh a (L' _ ha) hb) hd hx λa ha=>(hs a ha).elim .inl λw=>.inr λy=>w (L' _ y)
    refine⟨F1++F3,cg.mpr ⟨n1,b1,λa ha b hb w=>?_⟩,λa ha=>?_,?_⟩
    ·subst w
     rcases b2 a hb with z|z
     ·exact n3 a ha a z rfl
     ·rcases hs a z with y|y
      ·exact n3 a ha a (a1 a y) rfl
      ·exact y (cU _ ha)
    ·rcases cN.mp ha with z|z
     ·exact .inl (cU _ z)
     ·exact(b2 a z).elim (λy=>.inl (L' _ y)) .inr
    ·rw[OQ,if_neg e,show Fh f v ((n,x)::fr)=(n,x)::Fh f v fr by show(if n=f then _ else (n,x)::Fh f v fr)=_;rw[if_neg e]]
     exact⟨n,x,Fh f v fr,F1,F3,rfl,rfl,rfl,h.mono ts λa ha=>hh a (cU _ ha) λz=>n3 a ha a (a1 a z) rfl,b3⟩
theorem DpF.len{S:Addr->Prop}{H:Hp}:∀{r:List (PyData×PyData)} {fs:List (Str×V)} {F:List Addr},DpF K S H r fs F->fs.length=r.length
 |[],_,_,⟨e,_⟩=>by rw[e];rfl
 |(k,d0)::r,_,_,⟨n,x,fr,F1,F2,e,_,_,_,l⟩=>by rw[e,cM,cM,DpF.len l]
theorem Dp.ob{S:Addr->Prop}{H:Hp}{d:PyData}{v:V}{F:List Addr}{n:Str}{r:List (PyData×PyData)}{C:Addr}(h:Dp K S H d v F)(e:obF n d=some r)(hc:K.mg n=some (.ref C)):∃a dx fs G,v = .ref a/\F=a::G/\H a=some (.ins C dx fs)/\DpF K S H r fs G:=by
 rw[Wb e]at h
 obtain⟨a,C',dx,fs,G,e1,e2,e3,⟨m,_,e4,e5⟩,l⟩:=h
 cases e4
 rw[hc]at e5;cases e5
 exact⟨a,dx,fs,G,e1,e2,e3,l⟩
theorem R.stay0{S S':Addr->Prop}{τ:DS}{σ:St}{H H':Hp}(r:R K S (λ_=>False) τ σ H)(k:Keep S H S' H')(ex':∀a,S' a->∃o,H' a=some o):R K S' (λ_=>False) τ σ H' :=
 ⟨r.len,λj x e=>let ⟨v,a,b⟩:=r.dat j x e;⟨v,a,b.mono k.same⟩,λj o e=>let ⟨_,_,_,h,_⟩:=r.mt j o e;h.elim,λj xs e=>let ⟨a,vs,h1,h2,h3⟩:=r.cst j xs e;⟨a,vs,h1,k.same.seq h2,h3.mono k.same⟩,r.inj,λ_ h=>h.elim,ex',r.gr.to (λi d e=>⟨e,rfl⟩) (λj o a e q=>.inl ⟨o,e,q⟩) (λa h _=>h.elim) (tsS k.same)⟩
structure RS(K:KW)(S0:Addr->Prop)(F0:List Addr)(H0:Hp)(S:Addr->Prop)(x:Addr)(d:PyData)(F:List Addr)(τ:DS)(σ:St)(H:Hp):Prop where
 dp:Dp K S H d (.ref x) F
 nd:F.Nodup
 sub:∀a∈F,S a
 r:R K S (λ_=>False) τ σ H
 s0:σ[0]?=some (some (.ref x))
 t0:τ[0]?=some none
 f0:∀a∈F0,S0 a
 chg:∀b o,b∉F0->H0 b=some o->H b=some o
 new:∀a∈F,a∈F0\/H0 a=none
 sS:∀a,S0 a->S a
 snew:∀a,S a->S0 a\/H0 a=none
section
variable {S0 S:Addr->Prop} {F0 F:List Addr} {H0 H:Hp} {x:Addr} {d:PyData} {τ:DS} {σ:St}
theorem RS.frz(r:RS K S0 F0 H0 S x d F τ σ H):R K (λb=>S b/\b∉F) (λ_=>False) (τ.set 0 (some (.d d))) σ H:=by
 have k:Same (hid S H) (hid (λb=>S b/\b∉F) H):=Bf λa z=>z.1
 have hlt:0<τ.length:=(K'.mp r.t0).1
 have se:(τ.set 0 (some (.d d)))[0]?=some (some (.d d)):=V' hlt
 have ne:∀j,j≠0->(τ.set 0 (some (.d d)))[j]?=τ[j]?:=λj hj=>R' (Ne.symm hj)
 have n0:∀(j:Nat) (l:L),(∀z,l≠.d z)->(τ.set 0 (some (.d d)))[j]?=some (some l)->τ[j]?=some (some l):=λj l hl e=>by
  by_cases hj:j=0
  ·subst hj;rw[se]at e;exact absurd (G' (G' e)).symm (hl _)
  ·rw[ne j hj]at e;exact e
 refine⟨by rw[cV];exact r.r.len,λj y e=>?_,λj o e=>?_,λj xs e=>?_,λi j o p a e=>?_,λ_ h=>h.elim,λa h=>r.r.ex a h.1,r.r.gr.to (λi y e=>⟨n0 i _ (λz w=>by cases w) e,rfl⟩) (λj o a e q=>.inl ⟨o,n0 j _ (λz=>Ow.not_d) e,q⟩) (λa h _=>h.elim) (tsS k)⟩
 ·by_cases hj:j=0
  ·subst hj;rw[se]at e;cases e
   exact⟨.ref x,r.s0,r.dp.is (tsS k) λa ha z=>z.2 ha⟩
  ·rw[ne j hj]at e
   obtain⟨v,h1,h2⟩:=r.r.dat j y e
   exact⟨v,h1,h2.mono k⟩
 ·obtain⟨_,_,_,h,_⟩:=r.r.mt j o (n0 j _ (λz=>Ow.not_d) e);exact h.elim
 ·obtain⟨a,vs,h1,h2,h3⟩:=r.r.cst j xs (n0 j _ (λz w=>by cases w) e)
  exact⟨a,vs,h1,k.seq h2,h3.mono k⟩
 ·obtain⟨_,_,_,h,_⟩:=r.r.mt i o (n0 i _ (λz=>Ow.not_d) e);exact h.elim
theorem RS.old(r:RS K S0 F0 H0 S x d F τ σ H){a:Addr}(h:H a=none):a∈F0\/H0 a=none:=by
 by_cases z:a∈F0
 ·exact .inl z
 ·cases w:H0 a with
  |none=>exact .inr rfl
  |some o=>rw[r.chg a o z w]at h;cases h
theorem RS.same{H1:Hp}(r:RS K S0 F0 H0 S x d F τ σ H)(s:Same H H1):RS K S0 F0 H0 S x d F τ σ H1 :=
 ⟨r.dp.mono (tsS (Same.keep s).same) λa ha=>by obtain⟨o,e⟩:=r.r.ex a (r.sub a ha);rw[e];exact s _ _ e,r.nd,r.sub,r.r.same s,r.s0,r.t0,r.f0,λb o h e=>s _ _ (r.chg b o h e),r.new,r.sS,r.snew⟩
theorem RS.keepX{H1:Hp}(rb:RS K S0 F0 H0 S x d F τ σ H)(s:Same H H1){p:Addr}{o':HO}{X:List Addr}(pF:p∈F)(hX:∀a∈X,H a=none):Keep S H (λb=>S b\/b∈X) (upd H1 p o'):=λb o hn e=>by
 have bp:b≠p:=λz=>hn (by rw[z];exact rb.sub p pF)
 exact⟨λz=>z.elim hn λz=>(by rw[hX b z]at e;cases e),by rw[AR bp];exact s _ _ e⟩
theorem RS.tsX{H1:Hp}(rb:RS K S0 F0 H0 S x d F τ σ H)(s:Same H H1){p:Addr}{o':HO}{X:List Addr}(pF:p∈F)(hlX:∀a∈X,Lv H1 a):TSm (hid (λb=>S b/\b∉F) H1) (hid (λb=>S b\/b∈X) (upd H1 p o')):=λb o e nl ne=>by
 obtain⟨e1,e2⟩:=hid_iff.mp e
 have bF:b∉F:=λz=>by
  obtain⟨o',w,t⟩:=rb.dp.lst b z
  rw[s _ _ w]at e2;cases e2;exact nl t
 have bX:b∉X:=λz=>by
  obtain⟨o',w,t⟩:=hlX b z
  rw[w]at e2;cases e2;exact nl t
 have bp:b≠p:=λz=>bF (by rw[z];exact pF)
 exact hid_iff.mpr ⟨λz=>z.elim (λz=>e1 ⟨z,bF⟩) bX,by rw[AR bp];exact e2⟩
theorem RS.upd{H1:Hp}(rb:RS K S0 F0 H0 S x d F τ σ H)(s:Same H H1){p:Addr}{o':HO}{X F':List Addr}{d':PyData}(pF:p∈F)(hX:∀a∈X,H a=none)(hlX:∀a∈X,Lv H1 a)
  (dp':Dp K (λb=>S b\/b∈X) (upd H1 p o') d' (.ref x) F') (nd':F'.Nodup) (hF:∀a∈F',a∈F\/a∈X):RS K S0 F0 H0 (λb=>S b\/b∈X) x d' F' τ σ (upd H1 p o'):=by
 have ex':∀a,(S a\/a∈X)->∃o,L2.upd H1 p o' a=some o:=λa z=>by
  by_cases e:a=p
  ·subst e;exact⟨_,AW⟩
  ·rw[AR e]
   exact z.elim (λz=>let ⟨o,w⟩:=rb.r.ex a z;⟨o,s _ _ w⟩) λz=>let ⟨o,w,_⟩:=hlX a z;⟨o,w⟩
 refine⟨dp',nd',λa ha=>(hF a ha).elim (λz=>.inl (rb.sub a z)) .inr,rb.r.stay0 (rb.keepX s pF hX) ex',rb.s0,rb.t0,rb.f0,λb o hb e=>?_,λa ha=>(hF a ha).elim (rb.new a) λz=>rb.old (hX a z),λa z=>.inl (rb.sS a z),λa z=>z.elim (rb.snew a) λz=>(rb.old (hX a z)).elim (λz=>.inl (rb.f0 a z)) .inr⟩
 have bp:b≠p:=λz=>by
  subst z
  rcases rb.new b pF with z|z
  ·exact hb z
  ·rw[z]at e;cases e
 rw[AR bp];exact s _ _ (rb.chg b o hb e)
end
def SB(K:KW)(t:TS)(g:PyData->DS->Option PyData):Prop:=∀S0 F0 H0 S x d F τ σ H (D:Mp) d',RS K S0 F0 H0 S x d F τ σ H->g d τ=some d'->(∀S' F' H',RS K S0 F0 H0 S' x d' F' τ σ H'->D.nx σ H')->t D σ H
def Tj(g h:PyData->DS->Option PyData)(d:PyData)(τ:DS):Option PyData:=(g d τ).bind λd'=>h d' τ
theorem QH{t u:TS}{g h:PyData->DS->Option PyData}(a:SB K t g)(b:SB K u h):SB K (V9 t u) (Tj g h):=by
 intro S0 F0 H0 S x d F τ σ H D d' r e q
 obtain⟨d1,e1,e2⟩:=oB e
 exact a S0 F0 H0 S x d F τ σ H _ d1 r e1 λS' F' H' r'=>b S0 F0 H0 S' x d1 F' τ σ H' D d' r' e2 q
def W7(c:DT)(d:PyData)(τ:DS):Option PyData:=match c (τ.set 0 (some (.d d))) with
 |some (false,_)=>some d
 |_=>none
theorem ZZ{tc:TT}{c:DT}{t:TS}(hc:T K tc c):SB K (Xt tc t T7) (W7 c):=by
 intro S0 F0 H0 S x d F τ σ H D d' r e q
 unfold W7 at e
 split at e
 ·rename_i t6 e1
  cases e
  refine hc.run _ _ _ σ H _ false _ r.frz e1 λH1 r1 c1=>?_
  rw[if_neg ck]
  exact q S F H1 (r.same λb o z=>c1 b o (λw=>w) z)
 ·cases e
def SO(n f:Str)(e:DX)(d:PyData)(τ:DS):Option PyData:=(obF n d).bind λr=>if r.length<1000 then (e (τ.set 0 (some (.d d)))).map λp=>.dict ((.list [],.str n)::OQ f p.1 r) else none
theorem QG{n f:Str}{C:Addr}{te:TE}{e:DX}(hc:K.mg n=some (.ref C))(c:Cls K C)(na:NoAttr K C f)(he:EH K te e):SB K (ao K (Fg 0) te f) (SO n f e):=by
 intro S0 F0 H0 S x d F τ σ H D d' r ee q
 unfold SO at ee
 obtain⟨l,e0,ee⟩:=oB ee
 split at ee
 case isFalse=>cases ee
 rename_i hz
 obtain⟨⟨z,t6⟩,e1,ee⟩:=oM ee
 cases ee
 refine he.run _ _ _ σ H _ z t6 r.frz e1 λv H1 X r1 c1 hn hX hd=>?_
 have s:Same H H1:=λb o z=>c1 b o (λw=>w) z
 obtain⟨a,dx,fs,G,ea,rfl,ha,lf⟩:=r.dp.ob e0 hc
 cases ea
 obtain⟨xG,nG⟩:=cP.mp r.nd
 have xF:x∈x::G:=J' ..
 have oX:∀b∈x::G,b∉X:=λb hb z=>by obtain⟨o,w⟩:=r.r.ex b (r.sub b hb);rw[hX b z]at w;cases w
 have on:∀b∈x::G,H1 b=H b:=λb hb=>by obtain⟨o,w⟩:=r.r.ex b (r.sub b hb);rw[w];exact s _ _ w
 refine⟨.ref x,r.s0,x,C,dx,fs,rfl,s _ _ ha,c,na,by rw[lf.len];exact hz,?_⟩
 obtain⟨Fy,_,_,_,put⟩:=lf.put (f:=f) nG
 obtain⟨F3,b1,b2,b3⟩:=put (λb=>S b\/b∈X) (L2.upd H1 x (.ins C dx (Fh f v fs))) z v X (tsS (r.keepX s xF hX).same) (λb hb _=>(AR (show b≠x from λz=>xG (z▸hb))).trans (on b (E' _ hb)))
  (hd.mono (r.tsX s xF hd.lst) λb hb=>AR λz=>oX x xF (z▸hb)) hn λb hb=>.inr λz=>oX b (E' _ z) hb
 refine q _ (x::F3) _ (r.upd s xF hX hd.lst ⟨x,C,dx,_,F3,rfl,rfl,AW,⟨n,rfl,rfl,hc⟩,b3⟩ (cP.mpr ⟨λz=>(b2 x z).elim xG (oX x xF),b1⟩) λb hb=>?_)
 rcases X'.mp hb with rfl|hb
 ·exact .inl xF
 ·exact(b2 b hb).imp (E' _) id
def W8(n f:Str)(e:DX)(d:PyData)(τ:DS):Option PyData:=(obF n d).bind λr=>match He f r with
 |some (.list ds)=>if ds.length<sizeLine then (e (τ.set 0 (some (.d d)))).map λp=>.dict ((.list [],.str n)::OQ f (.list (ds++[p.1])) r) else none
 |_=>none
theorem Za{n f:Str}{C:Addr}{te:TE}{e:DX}(hc:K.mg n=some (.ref C))(c:Cls K C)(na:NoAttr K C f)(he:EH K te e):SB K (NJ (tBM K "list" Kl (ZU K (Fg 0) f) (EC te J3))) (W8 n f e):=by
 intro S0 F0 H0 S x d F τ σ H D d' r ee q
 unfold W8 at ee
 obtain⟨l,e0,ee⟩:=oB ee
 split at ee
 case h_2=>cases ee
 rename_i ds eg
 split at ee
 case isFalse=>cases ee
 rename_i hz
 obtain⟨⟨z,t6⟩,e1,ee⟩:=oM ee
 cases ee
 obtain⟨a,dx,fs,G,ea,rfl,ha,lf⟩:=r.dp.ob e0 hc
 cases ea
 obtain⟨xG,nG⟩:=cP.mp r.nd
 obtain⟨Fy,sy,ny,gy,put⟩:=lf.put (f:=f) nG
 obtain⟨u,lu,p,ws,Gp,rfl,rfl,hp,lw⟩:=gy _ eg
 have pG:p∈G:=sy p (J' ..)
 have pF:p∈x::G:=E' _ pG
 have xp:x≠p:=λz=>xG (z▸pG)
 refine⟨.ref x,r.s0,x,C,dx,fs,.ref p,rfl,ha,c,na,lu,.inl ⟨rfl,ws,SqL.of hp⟩,?_⟩
 refine he.run _ _ _ σ H _ z t6 r.frz e1 λv H1 X r1 c1 hn hX hd=>?_
 have s:Same H H1:=λb o z=>c1 b o (λw=>w) z
 have oX:∀b∈x::G,b∉X:=λb hb z=>by obtain⟨o,w⟩:=r.r.ex b (r.sub b hb);rw[hX b z]at w;cases w
 have on:∀b∈x::G,H1 b=H b:=λb hb=>by obtain⟨o,w⟩:=r.r.ex b (r.sub b hb);rw[w];exact s _ _ w
 obtain⟨np',ngp⟩:=cP.mp ny
 refine⟨p,ws,v,rfl,rfl,s _ _ hp,by rw[lw.length];exact hz,?_⟩
 have ts:=tsS (r.keepX (o':=.lst (ws++[v])) s pF hX).same
 have dl:Dp K (λb=>S b\/b∈X) (L2.upd H1 p (.lst (ws++[v]))) (.list (ds++[z])) (.ref p) (p::(Gp++X)) :=
  ⟨p,_,_,rfl,rfl,AW,DpL.snoc (lw.mono ts λb hb=>(AR (show b≠p from λz=>np' (z▸hb))).trans (on b (E' _ (sy b (E' _ hb))))) (hd.mono (r.tsX s pF hd.lst) λb hb=>AR λz=>oX p pF (z▸hb))⟩
 obtain⟨F3,b1,b2,b3⟩:=put (λb=>S b\/b∈X) (L2.upd H1 p (.lst (ws++[v]))) (.list (ds++[z])) (.ref p) (p::(Gp++X)) ts (λb hb hy=>(AR (show b≠p from λz=>hy (by rw[z];exact J' ..))).trans (on b (E' _ hb))) dl
  (cP.mpr ⟨λz=>(cN.mp z).elim np' (oX p pF),cg.mpr ⟨ngp,hn,λb hb c hc z=>oX b (E' _ (sy b (E' _ hb))) (z▸hc)⟩⟩) λb hb=>by
   rcases X'.mp hb with rfl|hb
   ·exact .inl (J' ..)
   ·rcases cN.mp hb with hb|hb
    ·exact .inl (E' _ hb)
    ·exact .inr λz=>oX b (E' _ z) hb
 rw[PJ lu]at b3
 have sub3:∀b∈F3,b∈G\/b∈X:=λb hb=>by
  rcases b2 b hb with z|z
  ·exact .inl z
  ·rcases X'.mp z with rfl|z
   ·exact .inl pG
   ·exact(cN.mp z).imp (λz=>sy b (E' _ z)) id
 refine q _ (x::F3) _ (r.upd s pF hX hd.lst ⟨x,C,dx,fs,F3,rfl,rfl,by rw[AR xp];exact s _ _ ha,⟨n,rfl,rfl,hc⟩,b3⟩ (cP.mpr ⟨λz=>(sub3 x z).elim xG (oX x (J' ..)),b1⟩) λb hb=>?_)
 rcases X'.mp hb with rfl|hb
 ·exact .inl (J' ..)
 ·exact(sub3 b hb).imp (E' _) id
def spS(K:KW)(G:PyData->List PyData->Option PyData):Sp:=λvs H Q _=>∃(S:Addr->Prop) (x:Addr) (d:PyData) (F:List Addr) (us:List V) (ds:List PyData) (d':PyData),vs = .ref x::us/\Dp K S H d (.ref x) F/\F.Nodup/\(∀a∈F,S a)/\(∀a,S a->∃o,H a=some o)/\IsL K (hid S H) ds us/\G d ds=some d' /\
 ∀H' F',Chg (λb=>b∈F) H H'->(∀a∈F,∃o,H' a=some o)->Dp K S H' d' (.ref x) F'->F'.Nodup->(∀a∈F',a∈F\/H a=none)->Q .non H'
def MS(np nl:Nat)(g:PyData->DS->Option PyData)(d:PyData)(ds:List PyData):Option PyData:=if ds.length+1=np then g d (none::((ds.map L.d).map some++List.replicate nl none)) else none
theorem Lz{np nl:Nat}{g:PyData->DS->Option PyData}:∀d ds r,MS np nl g d ds=some r->ds.length+1=np:=λd ds r h=>by
 unfold MS at h
 split at h
 ·assumption
 ·cases h
theorem Q8{G:PyData->List PyData->Option PyData}{vs:List V}{H:Hp}{Q:VK}{X:XK}{np:Nat}(hG:∀d ds r,G d ds=some r->ds.length+1=np)(h:spS K G vs H Q X):vs.length=np:=by
 obtain⟨S,x,d,F,us,ds,d',rfl,_,_,_,_,l,e,_⟩:=h
 rw[cM,l.length,hG _ _ _ e]
theorem Ui{np nl:Nat}{t:TS}{g:PyData->DS->Option PyData}{N:List Str}{vs:List V}{H:Hp}{Q:VK}{X:XK}(hb:SB K t g)(hN:N.length=np+nl)(h:spS K (MS np nl g) vs H Q X):t { nx:=λ_ H'=>Q .non H',rt:=Q } (L2.start N vs) H:=by
 have hvl:=Q8 Lz h
 obtain⟨S,x,d,F,us,ds,d',rfl,dp,nd,sub,ex,l,e,q⟩:=h
 have est:L2.start N (.ref x::us)=some (.ref x)::(us.map some++List.replicate nl none):=by
  unfold L2.start
  rw[hN,hvl,ez];rfl
 rw[est]
 unfold MS at e
 split at e
 case isFalse=>cases e
 have r00:R K S (λ_=>False) [] [] H:=⟨rfl,λi x e=>by simp at e,λi x e=>by simp at e,λi x e=>by simp at e,λi j o p a e=>by simp at e,λ_ h=>h.elim,ex,GR.nil λi d e=>by simp at e⟩
 have r0:=Xj (Io r00 l) (λi d h=>by rw[U']at h;cases q:ds[i]? with|none=>rw[q]at h;cases h|some d=>rw[q]at h;cases h) nl
 have r1:R K S (λ_=>False) (none::((ds.map L.d).map some++List.replicate nl none)) (some (.ref x)::(us.map some++List.replicate nl none)) H:=by
  refine⟨by rw[cM,cM,r0.len],λi y e=>?_,λi y e=>?_,λi y e=>?_,λi j o p a e=>?_,λ_ h=>h.elim,ex,GR.nil λi y e=>?_⟩
  ·cases i with
   |zero=>cases e
   |succ i=>exact r0.dat i y e
  ·cases i with
   |zero=>cases e
   |succ i=>exact r0.mt i y e
  ·cases i with
   |zero=>cases e
   |succ i=>exact r0.cst i y e
  ·cases i with
   |zero=>cases e
   |succ i=>obtain⟨_,_,_,h,_⟩:=r0.mt i o e;exact h.elim
  ·cases i with
   |zero=>cases e
   |succ i =>
    rw[dZ]at e
    by_cases hi:i<((ds.map L.d).map some).length
    ·rw[cY hi,U',U']at e
     cases q:ds[i]? with
     |none=>rw[q]at e;cases e
     |some d=>rw[q]at e;cases e
    ·rw[cR (by omega),dF]at e
     split at e<;>cases e
 exact hb S F H S x d F _ _ H _ d' ⟨dp,nd,sub,r1,rfl,rfl,sub,λ_ _ _ e=>e,λa ha=>.inl ha,λ_ z=>z,λa z=>.inl z⟩ e λS' F' H' r=>q H' F' (λb o hb e=>r.chg b o hb e) (λa ha=>r.r.ex a (r.sS a (sub a ha))) (r.dp.mono (tsS (Bf r.sS)) λ_ _=>rfl) r.nd r.new
variable {K:KW} {np:Nat}
def OC(n:Str)(G:PyData->List PyData->Option PyData)(a:DA)(τ:DS):Option (PyData×DS):=(a τ).bind λp=>(Cc p.1).bind λds=>(G (.dict [(.list [],.str n)]) ds).map λd=>(d,p.2)
theorem Ul{n:Str}{C:Addr}{G:PyData->List PyData->Option PyData}{t:TA}{a:DA}{X:XK}(hc:K.mg n=some (.ref C))(ha:A K t a):EH K (WB C (spS K G) [] X t) (OC n G a):=by
 refine⟨λτ d t7 e=>?_,λS M τ σ H Q d t7 rr e q=>?_⟩<;>unfold OC at e<;>obtain⟨⟨x,t6⟩,e1,e⟩:=oB e<;>obtain⟨ds,e2,e⟩:=oB e<;>obtain⟨z,e3,e⟩:=oM e<;>cases e
 ·exact ha.like _ _ _ e1
 refine ha.run S M τ σ H _ x _ rr e1 λvs H1 r1 c1 i1=>?_
 intro y dx hy hdx ne
 rw[dM]
 have s:Same H1 (upd (upd H1 dx (.own y)) y (.ins C dx [])):=(BF hdx _).trans (BF (by rw[AR (Ne.symm ne)];exact hy) _)
 have k:Keep S H1 (λb=>S b\/b=y) (upd (upd H1 dx (.own y)) y (.ins C dx [])):=λb o hn e=>⟨λz=>z.elim hn (Af e hy),s _ _ e⟩
 have hyn:upd (upd H1 dx (.own y)) y (.ins C dx []) y=some (.ins C dx []):=AW
 refine⟨λb=>S b\/b=y,y,.dict [(.list [],.str n)],[y],vs,ds,_,rfl,⟨y,C,dx,[],[],rfl,rfl,hyn,⟨n,rfl,rfl,hc⟩,rfl,rfl⟩,by simp,λb hb=>.inr (cW.mp hb),λb hb=>?_,(Cy i1 e2).mono k.same,e3,λH' F' ch _ hd hn hF=>⟨rfl,?_⟩⟩
 ·rcases hb with hb|rfl
  ·obtain⟨o,w⟩:=r1.ex b hb;exact⟨o,s _ _ w⟩
  ·exact⟨_,hyn⟩
 ·have s':Same H1 H':=λb o e=>ch b o (λz=>Af e hy (cW.mp z)) (s _ _ e)
  refine q (.ref y) H' F' (r1.same s') (c1.trans (.of s')) hn (λb hb=>r1.none c1 ?_) (hd.mono (tsS (Bf λb z=>.inl z)) λ_ _=>rfl)
  rcases hF b hb with z|z
  ·rw[cW.mp z];exact hy
  ·cases w:H1 b with
   |none=>rfl
   |some o=>rw[s _ _ w]at z;cases z
theorem WN{S M:Addr->Prop}{τ:DS}{σ:St}{H:Hp}{φ:Nat->List Addr}(r:R K S M τ σ H)(g:GRp K S M τ σ H φ){i:Nat}{d:PyData}(hi:τ[i]?=some (some (.g d))):R K S (λb=>M b/\b∉φ i) (τ.set i none) σ H:=by
 have hlt:i<τ.length:=(K'.mp hi).1
 have old:∀(j:Nat) (l:L),(τ.set i none)[j]?=some (some l)->j≠i/\τ[j]?=some (some l):=λj l e=>by
  by_cases hj:j=i
  ·subst hj;rw[V' hlt]at e;cases e
  ·rw[R' (Ne.symm hj)]at e;exact⟨hj,e⟩
 obtain⟨_,_,_,g5,g6⟩:=g i d hi
 refine⟨by rw[cV];exact r.len,λj x e=>r.dat j x (old j _ e).2,λj o e=>?_,λj x e=>r.cst j x (old j _ e).2,λj k o p a e1 e2 f1 f2=>r.inj j k o p a (old _ _ e1).2 (old _ _ e2).2 f1 f2,λa h=>r.sub a h.1,r.ex,φ,λj x e=>?_⟩
 ·obtain⟨a,h,h1,h2,h3⟩:=r.mt j o (old j _ e).2
  exact⟨a,h,h1,⟨h2,g5 j o a (old j _ e).2 h1⟩,h3⟩
 ·obtain⟨hj,e⟩:=old j _ e
  obtain⟨q1,q2,q3,q4,q5⟩:=g j x e
  exact⟨q1,q2,λa ha=>⟨q3 a ha,λz=>q5 i d (Ne.symm hj) hi a ha z⟩,λj' o a z1=>q4 j' o a (old j' _ z1).2,λj' x' hj' z=>q5 j' x' hj' (old j' _ z).2⟩
theorem WM{S M:Addr->Prop}{τ:DS}{σ:St}{H:Hp}{F:List Addr}(r:R K S (λb=>M b/\b∉F) τ σ H){i:Nat}{d:PyData}{v:V}(hi:τ[i]?=some none)(hv:σ[i]?=some (some v))(hd:Dp K S H d v F)(hn:F.Nodup)(hM:∀a∈F,M a)(sub:∀a,M a->S a) :
  ∃φ,φ i=F/\GRp K S M (τ.set i (some (.g d))) σ H φ/\R K S M (τ.set i (some (.g d))) σ H:=by
 have hlt:i<τ.length:=(K'.mp hi).1
 have se:(τ.set i (some (.g d)))[i]?=some (some (.g d)):=V' hlt
 have ne:∀j,j≠i->(τ.set i (some (.g d)))[j]?=τ[j]?:=λj hj=>R' (Ne.symm hj)
 have old:∀(j:Nat) (l:L),(∀x,l≠.g x)->(τ.set i (some (.g d)))[j]?=some (some l)->τ[j]?=some (some l):=λj l hl e=>by
  by_cases hj:j=i
  ·subst hj;rw[se]at e;exact absurd (G' (G' e)).symm (hl d)
  ·rw[ne j hj]at e;exact e
 have own:∀(j:Nat) (o:Ow),(τ.set i (some (.g d)))[j]?=some (some o.L)->τ[j]?=some (some o.L):=λj o e=>old j _ (λx=>Ow.not_g) e
 obtain⟨φ,g⟩:=r.gr
 have G:GRp K S M (τ.set i (some (.g d))) σ H (λj=>if j=i then F else φ j):=λj x e=>by
  by_cases hj:j=i
  ·subst hj;rw[se]at e;cases e
   simp only[if_true]
   refine⟨⟨v,hv,hd⟩,hn,hM,λj' o a z1 z2 ha=>?_,λj' x' hj' z a ha=>?_⟩
   ·obtain⟨b,h,h1,h2,_⟩:=r.mt j' o (own j' o z1)
    rw[z2]at h1;cases h1
    exact h2.2 ha
   ·rw[if_neg hj']
    rw[ne j' hj']at z
    exact λw=>((g j' x' z).2.2.1 a w).2 ha
  ·dsimp only
   simp only[if_neg hj]
   rw[ne j hj]at e
   obtain⟨q1,q2,q3,q4,q5⟩:=g j x e
   refine⟨q1,q2,λa ha=>(q3 a ha).1,λj' o a z1=>q4 j' o a (own j' o z1),λj' x' hj' z a ha=>?_⟩
   by_cases hj2:j'=i
   ·rw[if_pos hj2];exact(q3 a ha).2
   ·rw[if_neg hj2];rw[ne j' hj2]at z;exact q5 j' x' hj' z a ha
 refine⟨_,by simp,G,⟨by rw[cV];exact r.len,λj x e=>r.dat j x (old j _ (λy z=>by cases z) e),λj o e=>?_,λj x e=>r.cst j x (old j _ (λy z=>by cases z) e),λj k o p a e1 e2=>r.inj j k o p a (own _ _ e1) (own _ _ e2),sub,r.ex,_,G⟩⟩
 obtain⟨a,h,h1,h2,h3⟩:=r.mt j o (own j o e)
 exact⟨a,h,h1,h2.1,h3⟩
theorem R3{τ t6:DS}{i:Nat}{d d':PyData}(hi:τ[i]?=some (some (.g d)))(lk:Like (τ.set i none) t6):Like τ (t6.set i (some (.g d'))):=by
 have hlt:i<τ.length:=(K'.mp hi).1
 have hl:t6.length=τ.length:=by have:=lk.1;rw[cV]at this;exact this
 refine⟨by rw[cV];exact hl,λj=>?_⟩
 by_cases hj:j=i
 ·subst hj
  rw[V' (by omega),hi]
  exact⟨⟨λx=>⟨λz=>(by cases z),λz=>by cases z⟩,λx=>⟨λz=>(by cases z),λz=>by cases z⟩⟩,λb=>⟨λ⟨o,_,h⟩=>absurd (G' (G' h)).symm Ow.not_g,λ⟨o,_,h⟩=>absurd (G' (G' h)).symm Ow.not_g⟩⟩
 ·have:=lk.2 j
  rw[R' (Ne.symm hj)]at this
  rw[R' (Ne.symm hj)];exact this
theorem RF.graft2{F:Frm}{S M:Addr->Prop}{τ t7:DS}{σ:St}{H H':Hp}(f:RF K F S M τ σ H){φ:Nat->List Addr}(g:GRp K S M τ σ H φ){i:Nat}{d d':PyData}{v:V}{J:List Nat}{X F':List Addr}
  (hi:τ[i]?=some (some (.g d))) (hv:σ[i]?=some (some v)) (hl:t7.length=τ.length) (hti:t7[i]?=some (some (.g d'))) (ht:∀k,k≠i->t7[k]?=τ[k]?\/(k∈J/\t7[k]?=some none)) (hJ:∀j∈J,t7[j]?=some none/\∃dj,τ[j]?=some (some (.g dj)))
  (ok:τ.all okM=true) (hX:∀a∈X,H a=none) (hlX:∀a∈X,Lv H' a) (hc:∀b o,b∉φ i->H b=some o->H' b=some o) (hex:∀a∈φ i,∃o,H' a=some o) (hd:Dp K (λb=>S b\/b∈X) H' d' v F') (hn:F'.Nodup) (hF:∀a∈F',a∈φ i\/(∃j∈J,a∈φ j)\/a∈X) :
  RF K F (λb=>S b\/b∈X) (λb=>M b\/b∈X) t7 σ H'/\Keep S H (λb=>S b\/b∈X) H':=by
 let Hm:Hp:=λb=>if b∈φ i then H b else H' b
 have m1:∀b,b∈φ i->Hm b=H b:=λb hb=>if_pos hb
 have m2:∀b,b∉φ i->Hm b=H' b:=λb hb=>if_neg hb
 have s:Same H Hm:=λb o e=>by
  by_cases z:b∈φ i
  ·rw[m1 b z];exact e
  ·rw[m2 b z];exact hc b o z e
 obtain⟨gi1,gi3,gi4,gi5,gi6⟩:=g i d hi
 have xi:∀a∈X,a∉φ i:=λa ha z=>by obtain⟨o,w⟩:=f.r.ex a (f.r.sub a (gi4 a z));rw[hX a ha]at w;cases w
 have f1:=f.hideG (X:=X) (f.r.same s) (.of s) .refl ok hX λa ha=>Lv.eq (m2 a (xi a ha)) (hlX a ha)
 have kX:Keep S H (λb=>S b\/b∈X) Hm:=λb o hn e=>⟨λz=>z.elim hn (λz=>by rw[hX b z]at e;cases e),s _ _ e⟩
 have g1:GRp K (λb=>S b\/b∈X) M τ σ Hm φ:=λj x e=>by
  obtain⟨⟨w,q1,q2⟩,q3⟩:=g j x e
  refine⟨⟨w,q1,q2.mono (tsS kX.same) λa ha=>?_⟩,q3⟩
  obtain⟨o,z⟩:=f.r.ex a (f.r.sub a (q3.2.1 a ha))
  rw[z];exact s _ _ z
 obtain⟨f2,k2⟩:=f1.graft (H':=H') g1 hi hv hl hti ht hJ (λa ha=>⟨.inr ha,λz=>f.r.fresh (hX a ha) (f.r.sub a z),f.hnone (hX a ha)⟩) (λb hb=>(m2 b hb).symm) hex hd hn hF
 exact⟨f2,kX.trans k2⟩
theorem Yo{τ:DS}{i:Nat}{d:PyData}(h:τ.all okM=true):(τ.set i (some (.g d))).all okM=true:=cz.mpr λl hl=>(List.mem_or_eq_of_mem_set hl).elim (λz=>cz.mp h l z) λz=>by rw[z];rfl
theorem TSm.trans{H H1 H2:Hp}(a:TSm H H1)(b:TSm H1 H2):TSm H H2:=λc o e nl ne=>b c o (a c o e nl ne) nl ne
theorem DpL.at3{S:Addr->Prop}{H:Hp}:∀{ds:List PyData} {vs:List V} {F:List Addr} {y:Nat} {d:PyData},DpL K S H ds vs F->F.Nodup->ds[y]?=some d->∃x Fy,vs[y]?=some x/\(∀a∈Fy,a∈F)/\Fy.Nodup/\Dp K S H d x Fy /\
  ∀(S':Addr->Prop) (H':Hp) (d':PyData) (Fx:List Addr),TSm (hid S H) (hid S' H')->(∀a∈F,a∉Fy->H' a=H a)->Dp K S' H' d' x Fx->Fx.Nodup->(∀a∈Fx,a∈Fy\/a∉F)->∃F3,F3.Nodup/\(∀a∈F3,a∈F\/a∈Fx)/\DpL K S' H' (ds.set y d') vs F3
 |[],_,_,_,_,_,_,e=>by simp at e
 |d0::ds,_,_,0,d,⟨x,xs,F1,F2,e,e2,h,l⟩,hn,q=>by
  subst e e2
  simp at q
  subst q
  obtain⟨n1,n2,n3⟩:=cg.mp hn
  refine⟨x,F1,rfl,λa ha=>cU _ ha,n1,h,λS' H' d' Fx ts hh hd hx hs=>⟨Fx++F2,cg.mpr ⟨hx,n2,λa ha b hb w=>?_⟩,λa ha=>?_,x,xs,Fx,F2,rfl,rfl,hd,l.mono ts λa ha=>hh a (L' _ ha) λz=>n3 a z a ha rfl⟩⟩
  ·subst w
   rcases hs a ha with z|z
   ·exact n3 a z a hb rfl
   ·exact z (L' _ hb)
  ·rcases cN.mp ha with z|z
   ·exact .inr z
   ·exact .inl (L' _ z)
 |d0::ds,_,_,y+1,d,⟨x,xs,F1,F2,e,e2,h,l⟩,hn,q=>by
  subst e e2
  obtain⟨n1,n2,n3⟩:=cg.mp hn
  obtain⟨x',Fy,a1,a2,a3,a4,a5⟩:=DpL.at3 (y:=y) (d:=d) l n2 (by simpa using q)
  refine⟨x',Fy,by simpa using a1,λa ha=>L' _ (a2 a ha),a3,a4,λS' H' d' Fx ts hh hd hx hs=>?_⟩
  obtain⟨F3,b1,b2,b3⟩:=a5 S' H' d' Fx ts (λa ha=>hh a (L' _ ha)) hd hx λa ha=>(hs a ha).elim .inl λw=>.inr λy=>w (L' _ y)
  refine⟨F1++F3,cg.mpr ⟨n1,b1,λa ha b hb w=>?_⟩,λa ha=>?_,x,xs,F1,F3,rfl,rfl,h.mono ts λa ha=>hh a (cU _ ha) λz=>n3 a ha a (a2 a z) rfl,b3⟩
  ·subst w
   rcases b2 a hb with z|z
   ·exact n3 a ha a z rfl
   ·rcases hs a z with y|y
    ·exact n3 a ha a (a2 a y) rfl
    ·exact y (cU _ ha)
  ·rcases cN.mp ha with z|z
   ·exact .inl (cU _ z)
   ·exact(b2 a z).elim (λy=>.inl (L' _ y)) .inr
variable {K:KW} {np:Nat}
def YH(τ:DS)(i:Nat):Bool:=match τ[i]? with
 |some none=>true
 |_=>false
theorem We{τ:DS}{i:Nat}(h:YH τ i=true):τ[i]?=some none:=by
 unfold YH at h
 split at h
 ·assumption
 ·cases h
def P2(i:Nat)(e:DX)(n m:Str)(G:PyData->List PyData->Option PyData)(a:DA)(τ:DS):Option Out:=match τ[i]? with
 |some (some (.g (.list os)))=>(e (τ.set i none)).bind λp=>match p.1 with
  |.int k=>(ixN os.length k).bind λj=>(os[j]?).bind λo=>(obF n o).bind λr=>if (He m r).isNone=true then (a p.2).bind λq=>(Cc q.1).bind λds=>(G o ds).bind λo'=>if YH q.2 i=true/\q.2.all okM=true then some (.nx (q.2.set i (some (.g (.list (os.set j o')))))) else none else none
  |_=>none
 |_=>none
theorem aR{fr fe:Bool}{i:Nat}{n m:Str}{C:Addr}{G:PyData->List PyData->Option PyData}{ti:TE}{t:TA}{e:DX}{a:DA}{X:XK}(hc:K.mg n=some (.ref C))(he:E K ti fe e)(ha:A K t a):B K np (NJ (Kc C m (spS K G) [] X (tOp (VI K) (Fg i) ti) t)) fr (P2 i e n m G a):=by
 intro F S M τ σ H D out hnp f ee q
 unfold P2 at ee
 split at ee
 case h_2=>cases ee
 rename_i os hi
 obtain⟨⟨w,t6⟩,e1,ee⟩:=oB ee
 dsimp only at ee
 split at ee
 case h_2=>cases ee
 rename_i k
 obtain⟨j,e2,ee⟩:=oB ee
 obtain⟨o,e3,ee⟩:=oB ee
 obtain⟨r,e4,ee⟩:=oB ee
 split at ee
 case isFalse=>cases ee
 rename_i e5
 have e5:=Option.isNone_iff_eq_none.mp e5
 obtain⟨⟨rs,t8⟩,e6,ee⟩:=oB ee
 obtain⟨ds,e7,ee⟩:=oB ee
 obtain⟨o',e8,ee⟩:=oB ee
 split at ee
 case isFalse=>cases ee
 rename_i hz
 cases ee
 obtain⟨hz1,hz2⟩:=hz
 have hz1:=We hz1
 have hz2:t8.all okM=true:=hz2
 obtain⟨φ,g⟩:=f.r.gr
 have g:GRp K S M τ σ H φ:=g
 obtain⟨⟨v,hv,hdp⟩,gn,gM,gO,_⟩:=g i _ hi
 have rf:=WN f.r g hi
 have on:∀{Ha Hb:Hp},(∀b∈φ i,∃o,Ha b=some o)->Chg (λb=>M b/\b∉φ i) Ha Hb->∀b∈φ i,Hb b=Ha b:=λex c b hb=>by
  obtain⟨o,w⟩:=ex b hb
  rw[w];exact c b o (λz=>z.2 hb) w
 have ex0:∀b∈φ i,∃o,H b=some o:=λb hb=>f.r.ex b (f.r.sub b (gM b hb))
 obtain⟨a0,vs,G0,ev,eF,h0,l⟩:=hdp
 have gn0:=gn
 rw[eF]at gn
 obtain⟨na,nG⟩:=cP.mp gn
 have aI:a0∈φ i:=by rw[eF];exact J' ..
 have gI:∀b∈G0,b∈φ i:=λb hb=>by rw[eF];exact E' _ hb
 refine⟨v,hv,he.weak.run S _ _ σ H _ _ t6 rf e1 λy H1 r1 c1 iy=>?_⟩
 cases (show y = .int k from iy)
 subst ev
 have ts1:TSm (hid S H) (hid S H1):=tsS (Keep.same λb o hb e=>⟨hb,c1 b o (λz=>hb (f.r.sub b z.1)) e⟩)
 have ex1:∀b∈φ i,∃o,H1 b=some o:=λb hb=>by rw[on ex0 c1 b hb];exact ex0 b hb
 have l1:=l.mono ts1 λb hb=>on ex0 c1 b (gI b hb)
 obtain⟨u,Fy,hu,sy,ny,hy,up⟩:=l1.at3 nG e3
 obtain⟨p,dx,fs,Gp,rfl,eFy,hp,lf⟩:=hy.ob e4 hc
 have hm:fs.lookup m=none:=by
  have:=(DpF.is (S':=λb=>S b/\b∉Gp) (tsS (Bf λb z=>z.1)) (λb hb z=>z.2 hb) lf).get (f:=m)
  rw[e5]at this;exact this
 refine⟨a0,vs,k,.ref p,rfl,rfl,SqL.of (by rw[on ex0 c1 a0 aI];exact h0),by unfold atI;rw[l.length,e2];exact hu,p,dx,fs,rfl,hp,hm,?_⟩
 refine ha.run S _ t6 σ H1 _ rs t8 r1 e6 λws H2 r2 c2 i2=>?_
 rw[dM]
 have ts2:TSm (hid S H1) (hid S H2):=tsS (Keep.same λb o hb e=>⟨hb,c2 b o (λz=>hb (f.r.sub b z.1)) e⟩)
 have ex2:∀b∈φ i,∃o,H2 b=some o:=λb hb=>by rw[on ex1 c2 b hb];exact ex1 b hb
 have yI:∀b∈Fy,b∈φ i:=λb hb=>gI b (sy b hb)
 have hy2:=hy.mono ts2 λb hb=>on ex1 c2 b (yI b hb)
 have on2:∀b∈φ i,H2 b=H b:=λb hb=>(on ex1 c2 b hb).trans (on ex0 c1 b hb)
 have c12:Chg (λb=>M b/\b∉φ i) H H2:=c1.trans c2
 have l2:=l1.mono ts2 λb hb=>on ex1 c2 b (gI b hb)
 -- back in sight
 have hd2:Dp K S H2 (.list os) (.ref a0) (φ i):=by rw[eF];exact⟨a0,vs,G0,rfl,rfl,by rw[on2 a0 aI];exact h0,l2⟩
 obtain⟨φ2,eφ,g2,r3⟩:=WM r2 hz1 hv hd2 gn0 gM f.r.sub
 have f2:=f.step r3 (λb o hn e=>c12 b o (λz=>hn z.1) e) (R3 hi ((he.like _ _ _ e1).trans (ha.like _ _ _ e6)))
 have ySb:∀b∈Fy,S b:=λb hb=>f.r.sub b (gM b (yI b hb))
 refine⟨S,p,o,Fy,ws,ds,o',rfl,hy2,ny,ySb,r2.ex,Cy i2 e7,e8,λH3 F' c3 ex3 hd3 hn3 hF3=>?_⟩
 have hX:∀b∈F'.filter (λb=>b∉Fy),H2 b=none:=λb hb=>by
  obtain⟨z1,z2⟩:=dg.mp hb
  exact(hF3 b z1).elim (λz=>absurd z (of_decide_eq_true z2)) id
 have hlX:∀b∈F'.filter (λb=>b∉Fy),Lv H3 b:=λb hb=>hd3.lst b (dg.mp hb).1
 generalize hXe:F'.filter (λb=>b∉Fy)=X at hX hlX
 have inX:∀b∈F',b∈Fy\/b∈X:=λb hb=>by
  by_cases z:b∈Fy
  ·exact .inl z
  ·exact .inr (by rw[<- hXe];exact dg.mpr ⟨hb,decide_eq_true z⟩)
 have k3:Keep S H2 (λb=>S b\/b∈X) H3:=λb o hn e=>⟨λz=>z.elim hn (λz=>by rw[hX b z]at e;cases e),c3 b o (λz=>hn (ySb b z)) e⟩
 have tX:TSm (hid S H3) (hid (λb=>S b\/b∈X) H3):=Dd λb z=>z.elim .inl λz=>let ⟨_,e,tt⟩:=hlX b z;.inr ⟨_,e,.inl tt⟩
 have on3:∀b∈φ i,b∉Fy->H3 b=H2 b:=λb hb hn=>by obtain⟨o,w⟩:=ex2 b hb;rw[w];exact c3 b o hn w
 have nF':∀b∈φ i,b∉Fy->b∉F':=λb hb hn z=>by
  rcases hF3 b z with w|w
  ·exact hn w
  ·obtain⟨o,y⟩:=ex2 b hb;rw[w]at y;cases y
 obtain⟨F3,b1,b2,b3⟩:=up (λb=>S b\/b∈X) H3 o' F' (ts2.trans (tsS k3.same)) (λb hb hn=>(on3 b (gI b hb) hn).trans (on ex1 c2 b (gI b hb))) (hd3.mono tX λ_ _=>rfl) hn3 λb hb=>by
  by_cases z:b∈Fy
  ·exact .inl z
  ·exact .inr λw=>nF' b (gI b w) z hb
 have aFy:a0∉Fy:=λz=>na (sy a0 z)
 obtain⟨f3,k4⟩:=f2.graft2 (H':=H3) (t7:=t8.set i (some (.g (.list (os.set j o'))))) (d':=.list (os.set j o')) (J:=[]) (X:=X) (F':=a0::F3) g2 (V' (K'.mp hz1).1) hv (by rw[cV,cV]) (V' (K'.mp hz1).1)
  (λk hk=>.inl (by rw[R' (Ne.symm hk),R' (Ne.symm hk)])) (λj hj=>by cases hj) (Yo hz2) hX hlX (λb o hb e=>c3 b o (λz=>hb (by rw[eφ];exact yI b z)) e)
  (λb hb => by
   rw[eφ]at hb
   by_cases z:b∈Fy
   ·exact ex3 b z
   ·rw[on3 b hb z];exact ex2 b hb)
  ⟨a0, vs, F3, rfl, rfl, by rw [on3 a0 aI aFy, on2 a0 aI]; exact h0, b3⟩ (cP.mpr ⟨λz => (b2 a0 z).elim na (nF' a0 aI aFy), b1⟩) (λb hb => by
   rw[eφ]
   rcases X'.mp hb with rfl|hb
   ·exact .inl aI
   ·rcases b2 b hb with z|z
    ·exact .inl (gI b z)
    ·exact(inX b z).imp (yI b) .inr)
 exact q _ _ _ _ f3 (Keep.trans (λb o hb e=>⟨hb,c12 b o (λz=>hb (f.r.sub b z.1)) e⟩) k4)
def L1(i:Nat)(e:DX)(j:Nat)(τ:DS):Option Out:=match τ[i]? with
 |some (some (.g (.list _)))=>(e τ).bind λp=>match p.1,p.2[i]?,p.2[j]? with
  |.int k,some (some (.g (.list rows))),some (some (.g dj))=>(ixN rows.length k).bind λy=>match rows[y]? with
   |some (.list cs)=>if cs.length<sizeLine/\j≠i then some (.nx ((p.2.set i (some (.g (.list (rows.set y (.list (cs++[dj]))))))).set j none)) else none
   |_=>none
  |_,_,_=>none
 |_=>none
theorem Yl{fr fe:Bool}{i j:Nat}{ti:TE}{e:DX}(he:E K ti fe e):B K np (NJ (tBM K "list" Kl (tOp (VI K) (Fg i) ti) (EC (Fg j) J3))) fr (L1 i e j):=by
 intro F S M τ σ H D out hnp f ee q
 unfold L1 at ee
 split at ee
 case h_2=>cases ee
 rename_i r0 hi0
 obtain⟨⟨w,t6⟩,e1,ee⟩:=oB ee
 dsimp only at ee
 split at ee
 case h_2=>cases ee
 rename_i k rows dj hi hj
 obtain⟨y,e2,ee⟩:=oB ee
 split at ee
 case h_2=>cases ee
 rename_i cs e3
 split at ee
 case isFalse=>cases ee
 rename_i hz
 cases ee
 obtain⟨φ0,g0⟩:=f.r.gr
 obtain⟨⟨v,hv,h0⟩,_⟩:=g0 i _ hi0
 obtain⟨a0,vs0,G0,rfl,_,ha0,_⟩:=(show Dp K S H (.list r0) v (φ0 i) from h0)
 refine⟨.ref a0,hv,he.weak.run S M τ σ H _ _ t6 f.r e1 λy' H1 r1 c1 iy=>?_⟩
 cases (show y' = .int k from iy)
 have f1:=f.step r1 c1 (he.like _ _ _ e1)
 obtain⟨φ,g⟩:=r1.gr
 have g:GRp K S M t6 σ H1 φ:=g
 obtain⟨⟨v',hv',h1⟩,gn,gM,_,gG⟩:=g i _ hi
 rw[hv]at hv';cases hv'
 obtain⟨a,vs,G,ea,eF,ha,l⟩:=(show Dp K S H1 (.list rows) (.ref a0) (φ i) from h1)
 cases ea
 obtain⟨⟨vj,hvj,h2⟩,jn,jM,_,_⟩:=g j _ hj
 rw[eF]at gn
 obtain⟨na,nG⟩:=cP.mp gn
 have aI:a0∈φ i:=by rw[eF];exact J' ..
 have gI:∀b∈G,b∈φ i:=λb hb=>by rw[eF];exact E' _ hb
 have dis:∀b∈φ i,b∉φ j:=gG j _ hz.2 hj
 obtain⟨u,Fy,hu,sy,ny,⟨p,ws,Gp,rfl,rfl,hp,lw⟩,up⟩:=l.at3 nG e3
 have pG:p∈G:=sy p (J' ..)
 have pS:S p:=r1.sub p (gM p (gI p pG))
 obtain⟨np',ngp⟩:=cP.mp ny
 refine⟨a0,vs,k,.ref p,rfl,rfl,SqL.of ha,by unfold atI;rw[l.length,e2];exact hu,.inl ⟨rfl,ws,SqL.of hp⟩,vj,hvj,p,ws,vj,rfl,rfl,hp,by rw[lw.length];exact hz.1,?_⟩
 have eh:hid S (upd H1 p (.lst (ws++[vj])))=hid S H1:=FL pS
 have ts:TSm (hid S H1) (hid S (upd H1 p (.lst (ws++[vj])))):=by rw[eh];exact .refl
 have pj:p∉φ j:=dis p (gI p pG)
 obtain⟨F3,b1,b2,b3⟩:=up S (upd H1 p (.lst (ws++[vj]))) (.list (cs++[dj])) (p::(Gp++φ j)) ts (λb hb hy=>AR λz=>hy (by rw[z];exact J' ..))
  ⟨p,_,_,rfl,rfl,AW,DpL.snoc (lw.mono ts λb hb=>AR λz=>np' (z▸hb)) (Dp.mono ts (λb hb=>AR λz=>pj (z▸hb)) h2)⟩
  (cP.mpr ⟨λz=>(cN.mp z).elim np' pj,cg.mpr ⟨ngp,jn,λb hb c hc z=>dis b (gI b (sy b (E' _ hb))) (z▸hc)⟩⟩) λb hb=>by
   rcases X'.mp hb with rfl|hb
   ·exact .inl (J' ..)
   ·rcases cN.mp hb with hb|hb
    ·exact .inl (E' _ hb)
    ·exact .inr λz=>dis b (gI b z) hb
 have sub3:∀b∈F3,b∈G\/b∈φ j:=λb hb=>by
  rcases b2 b hb with z|z
  ·exact .inl z
  ·rcases X'.mp z with rfl|z
   ·exact .inl pG
   ·exact(cN.mp z).imp (λz=>sy b (E' _ z)) id
 have hlt:i<t6.length:=(K'.mp hi).1
 have hltj:j<t6.length:=(K'.mp hj).1
 have a0p:a0≠p:=λz=>na (z▸pG)
 obtain⟨f3,k4⟩:=f1.graft (H':=upd H1 p (.lst (ws++[vj]))) (t7:=(t6.set i (some (.g (.list (rows.set y (.list (cs++[dj]))))))).set j none) (d':=.list (rows.set y (.list (cs++[dj])))) (J:=[j]) (X:=[]) (F':=a0::F3) g hi hv (by rw[cV,cV])
  (by rw[R' hz.2];exact V' hlt)
  (λk hk => by
   by_cases z:k=j
   ·subst z;exact .inr ⟨fY _,V' (by rw[cV];exact hltj)⟩
   ·exact .inl (by rw[R' (Ne.symm z),R' (Ne.symm hk)]))
  (λk hk=>by rw[cW.mp hk];exact⟨V' (by rw[cV];exact hltj),dj,hj⟩)
  (λb hb=>by cases hb) (λb hb=>AR λz=>hb (by rw[z];exact gI p pG))
  (λb hb => by
   by_cases z:b=p
   ·subst z;exact⟨_,AW⟩
   ·rw[AR z];exact r1.ex b (r1.sub b (gM b hb)))
  ⟨a0, vs, F3, rfl, rfl, by rw [AR a0p]; exact ha, b3⟩ (cP.mpr ⟨λz => (sub3 a0 z).elim na (dis a0 aI), b1⟩) (λb hb => by
   rcases X'.mp hb with rfl|hb
   ·exact .inl aI
   ·exact(sub3 b hb).elim (λz=>.inl (gI b z)) λz=>.inr (.inl ⟨j,fY _,z⟩))
 exact q _ _ _ _ f3 (Keep.trans (c1.keep f.r.sub) k4)
def dRt(a:DB)(τ:DS):Option Out:=(a τ).bind λo=>match o with
 |.rt d t7=>some (.rt d t7)
 |_=>none
theorem aO{tc:TT}{t u:TS}{c:DT}{a b:DB}(hc:T K tc c)(ha:BG K np t a)(hb:BG K np u b):BG K np (V9 (Xt tc t T7) u) (Cu c (dRt a) b):=by
 intro F S M τ σ H D out hnp f ee q
 unfold Cu at ee
 obtain⟨⟨k,t6⟩,e1,ee⟩:=oB ee
 refine hc.run S M τ σ H _ k t6 f.r e1 λH1 r1 c1=>?_
 have f1:=f.step r1 c1 (hc.like _ _ _ e1)
 have kp:=c1.keep f.r.sub
 cases k with
 |true =>
  have ee:dRt a t6=some out:=ee
  unfold dRt at ee
  obtain⟨o,e2,ee⟩:=oB ee
  cases o with
  |rt d t7=>cases ee;exact ha F S M t6 σ H1 _ _ hnp f1 e2 λS' M' σ' H' v X=>q S' M' σ' H' v X
  |_=>cases ee
 |false=>exact hb F S M t6 σ H1 D out hnp f1 ee (q.trans kp)
end DL
end
set_option maxHeartbeats 2000000
namespace My
open PySem L2 DL
local macro_rules|`(tactic| trivial)=>`(tactic| first|rfl|(intro _;rfl)|exact .inl rfl|exact .inr rfl|with_unfolding_all rfl|decide|assumption|(intro _ _ _ _ _ _ us hl;first|(match us,hl with|[_],_=>rfl)|(match us,hl with|[_,_],_=>rfl)|(match us,hl with|[_,_,_],_=>rfl)|(match us,hl with|[_,_,_,_],_=>rfl)|(match us,hl with|[_,_,_,_,_],_=>rfl)|(match us,hl with|[],_=>rfl)))
local macro_rules|`(tactic| walk_at "dk")=>`(tactic| decide +kernel)
local macro_rules|`(⋯)=>`(by trivial)
local macro_rules|`(∅)=>`(by decide +kernel)
local macro_rules|`(tactic|walk_at $s:str)=>match s.getString.splitOn "|" with
 |[k,e]=>do
  let l:=if k=="a" then "O1,Ih,atI,ixN,HS,PQ,PR,PN,F5,fixDs,sz',Option.bind_some,Option.bind_none,Option.map_some,Option.map_none,List.map_cons,List.map_nil,List.cons_append,List.nil_append,List.length_cons,List.length_nil,List.getElem?_cons_zero,List.getElem?_cons_succ,List.set_cons_zero,List.set_cons_succ,List.replicate_succ,List.replicate_zero,List.all_cons,List.all_nil,Bool.and_self,Bool.and_true,Bool.true_and,Bool.false_and,Bool.and_false,Bool.or_true,Bool.true_or,Bool.false_or,Bool.or_false,Bool.not_true,Bool.not_false,if_true,if_false,reduceIte,Bool.false_eq_true,Nat.reduceAdd,Nat.reduceLT,Nat.reduceSub,Nat.reduceMul,Int.reduceEq,Int.reduceSub,Int.reduceMul,Int.reducePow,Int.reduceDiv,Int.reduceMod,Nat.reduceLeDiff,Nat.reduceEqDiff,and_self,and_true,true_and,Int.natCast_add,Int.reduceAdd,Int.reduceLT,Int.reduceLE,Int.reduceToNat,Int.reduceNeg,Int.toNat_zero,Int.toNat_one,Int.zero_lt_one,Int.le_refl,Int.reduceNegSucc,Int.cast_ofNat_Int,Nat.zero_add,Nat.add_zero" else ""
  let xs:=((if e.isEmpty then l else e++","++l).splitOn ",").map λn=>Lean.mkIdent n.toName
  `(tactic|simp only[$[$(xs.toArray):ident],*])
 |_=>Lean.Macro.throwUnsupported
abbrev dbP(x:Str):Prop:=(x==("__debug__":Str))=false
abbrev clP(x:Str):Prop:=(x==("__classdict__":Str))=false
abbrev glP(s:Stmt)(x:Str):Prop:=(AM s).names.lookup x=some NameKind.globalImplicit
abbrev dcP(x:Str):Prop:=dbP x/\clP x
abbrev lcP(s:Stmt)(x:Str):Prop:=L2.Loc (AM s) x
def top(i:Nat):Stmt:=PySem.Challenge.pw_scenemend_k71_two_films.main.body.getD i (.Pass ⟨0,0,0,0⟩)
def mth(i k:Nat):Stmt:=(match top i with|.ClassDef _ _ _ b _ _ _ _ _ _ _=>b|_=>[]).getD k (.Pass ⟨0,0,0,0⟩)
theorem Uu:dcP "Film":=∅
theorem Bs:dcP "_law_at":=∅
theorem MP:dcP "_law_big":=∅
theorem Hn:dcP "_law_big_here":=∅
theorem Tq:dcP "_law_by":=∅
theorem LD:dcP "_law_cell":=∅
theorem Ib:dcP "_law_cell_at":=∅
theorem GA:dcP "_law_copy":=∅
theorem BV:dcP "_law_digit":=∅
theorem KP:dcP "_law_digit_here":=∅
theorem JJ:dcP "_law_due":=∅
theorem LB:dcP "_law_film":=∅
theorem B0:dcP "_law_films":=∅
theorem EK:dcP "_law_found":=∅
theorem Oy:dcP "_law_frame":=∅
theorem Ly:dcP "_law_h":=∅
theorem Jg:dcP "_law_is_fraction":=∅
theorem Fc:dcP "_law_joined_right":=∅
theorem Ci:dcP "_law_k":=∅
theorem BQ:dcP "_law_kept":=∅
theorem F9:dcP "_law_line":=∅
theorem LA:dcP "_law_made":=∅
theorem Et:dcP "_law_many":=∅
theorem Mm:dcP "_law_near_by":=∅
theorem Ml:dcP "_law_next_by":=∅
theorem JI:dcP "_law_one":=∅
theorem BP:dcP "_law_picture":=∅
theorem EY:dcP "_law_picture_by":=∅
theorem Dy:dcP "_law_pictures":=∅
theorem Ox:dcP "_law_prime":=∅
theorem Ao:dcP "_law_rest":=∅
theorem Ov:dcP "_law_right":=∅
theorem CW:dcP "_law_same_picture":=∅
theorem CA:dcP "_law_script":=∅
theorem FP:dcP "_law_shade":=∅
theorem JH:dcP "_law_shades":=∅
theorem HJ:dcP "_law_thing":=∅
theorem RH:dcP "_law_told":=∅
theorem JY:dcP "_law_w":=∅
theorem Jy:dcP "_law_whole":=∅
theorem Vr:dcP "_law_x":=∅
theorem JX:dcP "_law_y":=∅
theorem Ye:dcP "bool":=∅
theorem Wh:("bool":Str)≠"__name__":=∅
theorem Ut:dcP "both":=∅
theorem FO:dcP "cell":=∅
theorem JG:dcP "cells":=∅
theorem Lx:dcP "changed_cells":=∅
theorem Yd:dcP "dict":=∅
theorem Wg:("dict":Str)≠"__name__":=∅
theorem F8:dcP "enumerate":=∅
theorem FI:("enumerate":Str)≠"__name__":=∅
theorem Jx:dcP "first_over":=∅
theorem EJ:dcP "frame":=∅
theorem Jw:dcP "frame_back":=∅
theorem Lw:dcP "frame_between":=∅
theorem Mj:dcP "frame_copied":=∅
theorem MO:dcP "frame_of":=∅
theorem Ia:dcP "frame_played":=∅
theorem Lu:dcP "frames_joined":=∅
theorem XT:dcP "int":=∅
theorem UM:("int":Str)≠"__name__":=∅
theorem To:dcP "is_next":=∅
theorem EI:dcP "isinstance":=∅
theorem DU:("isinstance":Str)≠"__name__":=∅
theorem RG:dcP "last":=∅
theorem C9:dcP "len":=∅
theorem CF:("len":Str)≠"__name__":=∅
theorem F7:dcP "list":=∅
theorem Eh:("list":Str)≠"__name__":=∅
theorem RE:dcP "many":=∅
theorem aJ:dcP "min":=∅
theorem YL:("min":Str)≠"__name__":=∅
theorem aH:dcP "new":=∅
theorem EU:dcP "news":=∅
theorem Px:dcP "number":=∅
theorem aG:dcP "old":=∅
theorem Ct:dcP "olds":=∅
theorem IL:dcP "olds_of":=∅
theorem Ls:dcP "one":=∅
theorem GN:dcP "other":=∅
theorem Bk:dcP "picture":=∅
theorem CV:dcP "picture_copied":=∅
theorem Pw:dcP "played":=∅
theorem N7:dcP "row":=∅
theorem Ou:dcP "row_by_row":=∅
theorem ET:dcP "self":=∅
theorem aF:dcP "set":=∅
theorem YK:("set":Str)≠"__name__":=∅
theorem K9:dcP "shade":=∅
theorem Pu:dcP "shades":=∅
theorem RD:dcP "shades_at":=∅
theorem N6:dcP "size_of":=∅
theorem Vq:dcP "sorted":=∅
theorem TV:("sorted":Str)≠"__name__":=∅
theorem JW:dcP "step":=∅
theorem KO:dcP "stretch":=∅
theorem Dx:dcP "stretches":=∅
theorem Mi:dcP "stretches_of":=∅
theorem XS:dcP "tuple":=∅
theorem VV:("tuple":Str)≠"__name__":=∅
theorem Vp:dcP "turned":=∅
theorem FF:dcP "x":=∅
theorem Fb:dcP "y":=∅
abbrev Cd:Stmt:=top 5
theorem sc_picture_copied:Ax ["picture"] ["picture"] (AM Cd):=⟨rfl,rfl,rfl,∅,rfl,∅,∅⟩
theorem KH:lcP Cd "picture":=∅
theorem KC:List.Nodup (["row"]:List Str):=∅
abbrev Ck:Stmt:=top 14
theorem sc_shades_at:Ax ["picture","x","y","many"] ["picture","x","y","many"] (AM Ck):=⟨rfl,rfl,rfl,∅,rfl,∅,∅⟩
theorem Jl:lcP Ck "picture":=∅
theorem G3:lcP Ck "x":=∅
theorem Jk:lcP Ck "y":=∅
theorem Oa:lcP Ck "many":=∅
theorem Me:glP Ck "len":=∅
abbrev Am:Stmt:=top 15
theorem sc_frame_played:Ax ["frame","picture","x","y","olds","news","played","step","shade"] ["frame","picture"] (AM Am):=⟨rfl,rfl,rfl,∅,rfl,∅,∅⟩
theorem HX:lcP Am "frame":=∅
theorem HW:lcP Am "picture":=∅
theorem Dt:lcP Am "x":=∅
theorem Ds:lcP Am "y":=∅
theorem Dr:lcP Am "olds":=∅
theorem E8:lcP Am "news":=∅
theorem E7:lcP Am "played":=∅
theorem HV:lcP Am "step":=∅
theorem HU:lcP Am "shade":=∅
theorem KN:glP Am "len":=∅
theorem HA:glP Am "shades_at":=∅
theorem FV:glP Am "picture_copied":=∅
theorem HB:glP Am "enumerate":=∅
abbrev Ef:Stmt:=mth 23 2
theorem sc_Film_count:Ax ["self"] ["self"] (AM Ef):=⟨rfl,rfl,rfl,∅,rfl,∅,∅⟩
theorem Nd:lcP Ef "self":=∅
theorem Ll:glP Ef "len":=∅
abbrev Dg:Stmt:=mth 23 3
theorem sc_Film_at:Ax ["self","number","picture","frame"] ["self","number"] (AM Dg):=⟨rfl,rfl,rfl,∅,rfl,∅,∅⟩
theorem JA:lcP Dg "self":=∅
theorem MG:lcP Dg "number":=∅
theorem Gs:lcP Dg "picture":=∅
theorem MF:lcP Dg "frame":=∅
theorem HF:glP Dg "picture_copied":=∅
theorem IK:glP Dg "frame_played":=∅
abbrev Ea:Stmt:=top 25
theorem sc_L_cell_at:Ax ["_law_script","_law_k"] ["_law_script","_law_k"] (AM Ea):=⟨rfl,rfl,rfl,∅,rfl,∅,∅⟩
theorem Jp:lcP Ea "_law_script":=∅
theorem Jo:lcP Ea "_law_k":=∅
theorem Mg:glP Ea "len":=∅
abbrev Df:Stmt:=top 26
theorem sc_L_big:Ax ["_law_script","_law_at","_law_by","_law_prime","_law_cell","_law_big_here","_law_k","_law_one"] ["_law_script","_law_at"] (AM Df):=⟨rfl,rfl,rfl,∅,rfl,∅,∅⟩
theorem Pa:lcP Df "_law_script":=∅
theorem PZ:lcP Df "_law_at":=∅
theorem PY:lcP Df "_law_by":=∅
theorem PX:lcP Df "_law_prime":=∅
theorem Lb:lcP Df "_law_cell":=∅
theorem JQ:lcP Df "_law_big_here":=∅
theorem GD:lcP Df "_law_k":=∅
theorem PV:lcP Df "_law_one":=∅
theorem FY:glP Df "_law_cell_at":=∅
theorem Ot:glP Df "range":=∅
abbrev GC:Stmt:=top 27
theorem sc_L_digit:Ax ["_law_rest","_law_many","_law_digit_here"] ["_law_rest","_law_many"] (AM GC):=⟨rfl,rfl,rfl,∅,rfl,∅,∅⟩
theorem I0:lcP GC "_law_rest":=∅
theorem ME:lcP GC "_law_many":=∅
theorem MC:lcP GC "_law_digit_here":=∅
abbrev CI:Stmt:=mth 23 0
theorem sc_Film___init__:Ax ["self","picture"] ["self","picture"] (AM CI):=⟨rfl,rfl,rfl,∅,rfl,∅,∅⟩
theorem En:lcP CI "self":=∅
theorem Gu:lcP CI "picture":=∅
theorem Cg:glP CI "picture_copied":=∅
abbrev BS:Stmt:=top 31
theorem sc_L_near_by:Ax ["_law_rest","_law_picture","_law_made","_law_k","_law_x"] ["_law_rest","_law_picture"] (AM BS):=⟨rfl,rfl,rfl,∅,rfl,∅,∅⟩
theorem FJ:lcP BS "_law_rest":=∅
theorem G6:lcP BS "_law_picture":=∅
theorem Jn:lcP BS "_law_made":=∅
theorem Od:(AM BS).names.lookup ("_law_made":Str)=some NameKind.local:=∅
theorem Ob:lcP BS "_law_k":=∅
theorem Jm:lcP BS "_law_x":=∅
theorem Bw:glP BS "_law_digit":=∅
theorem K0:glP BS "range":=∅
theorem IW:glP BS "len":=∅
theorem OZ:List.Nodup (["_law_line"]:List Str):=∅
abbrev BL:Stmt:=top 30
theorem sc_L_picture_by:Ax ["_law_rest","_law_w","_law_h","_law_many","_law_shades"] ["_law_rest","_law_w","_law_h"] (AM BL):=⟨rfl,rfl,rfl,∅,rfl,∅,∅⟩
theorem La:lcP BL "_law_rest":=∅
theorem LZ:lcP BL "_law_h":=∅
theorem HY:lcP BL "_law_many":=∅
theorem LY:lcP BL "_law_shades":=∅
theorem GW:glP BL "_law_digit":=∅
theorem JC:glP BL "range":=∅
theorem LV:List.Nodup (["_law_y","_law_shades","_law_rest","_law_many","_law_w"]:List Str):=∅
theorem LU:List.Nodup (["_law_x","_law_shades","_law_rest","_law_many"]:List Str):=∅
abbrev CM:Stmt:=top 32
theorem sc_L_next_by:Ax ["_law_rest","_law_picture"] ["_law_rest","_law_picture"] (AM CM):=⟨rfl,rfl,rfl,∅,rfl,∅,∅⟩
theorem G5:lcP CM "_law_rest":=∅
theorem G4:lcP CM "_law_picture":=∅
theorem II:glP CM "_law_digit":=∅
theorem IV:glP CM "len":=∅
theorem Fv:glP CM "_law_picture_by":=∅
theorem HE:glP CM "_law_near_by":=∅
abbrev HP:Stmt:=top 21
theorem sc_size_of:Ax ["picture"] ["picture"] (AM HP):=⟨rfl,rfl,rfl,∅,rfl,∅,∅⟩
theorem Rr:lcP HP "picture":=∅
theorem Rq:List.Nodup (["row"]:List Str):=∅
abbrev BO:Stmt:=top 6
theorem sc_changed_cells:Ax ["one","other","cells","y","row"] ["one","other"] (AM BO):=⟨rfl,rfl,rfl,∅,rfl,∅,∅⟩
theorem Kv:lcP BO "one":=∅
theorem Ek:lcP BO "cells":=∅
theorem Ku:lcP BO "y":=∅
theorem Gq:lcP BO "row":=∅
theorem D0:glP BO "enumerate":=∅
theorem Gf:List.Nodup (["x","shade","y","other"]:List Str):=∅
abbrev Bv:Stmt:=top 1
theorem sc_row_by_row:Ax ["cells","turned"] ["cells"] (AM Bv):=⟨rfl,rfl,rfl,∅,rfl,∅,∅⟩
theorem NZ:lcP Bv "cells":=∅
theorem Iv:lcP Bv "turned":=∅
theorem Lj:glP Bv "set":=∅
theorem Jc:glP Bv "sorted":=∅
theorem Iu:List.Nodup (["x","y"]:List Str):=∅
theorem Ir:List.Nodup (["y","x"]:List Str):=∅
abbrev HQ:Stmt:=top 2
theorem sc_is_next:Ax ["stretch","cell"] ["stretch","cell"] (AM HQ):=⟨rfl,rfl,rfl,∅,rfl,∅,∅⟩
theorem Iy:lcP HQ "stretch":=∅
theorem Rw:lcP HQ "cell":=∅
abbrev BK:Stmt:=top 3
theorem sc_stretches_of:Ax ["cells","stretches","cell","last"] ["cells"] (AM BK):=⟨rfl,rfl,rfl,∅,rfl,∅,∅⟩
theorem LW:lcP BK "cells":=∅
theorem Bj:lcP BK "stretches":=∅
theorem Dq:lcP BK "cell":=∅
theorem Dm:lcP BK "last":=∅
theorem GV:glP BK "row_by_row":=∅
theorem IG:glP BK "is_next":=∅
theorem KJ:glP BK "len":=∅
abbrev A3:Stmt:=top 12
theorem sc_frame_of:Ax ["olds","news","cells","frame","x","y","many","old","new"] ["olds","news"] (AM A3):=⟨rfl,rfl,rfl,∅,rfl,∅,∅⟩
theorem Qh:lcP A3 "olds":=∅
theorem Qg:lcP A3 "cells":=∅
theorem Qq:(AM A3).names.lookup ("cells":Str)=some NameKind.local:=∅
theorem IC:lcP A3 "frame":=∅
theorem Kt:lcP A3 "x":=∅
theorem Ks:lcP A3 "y":=∅
theorem IB:lcP A3 "many":=∅
theorem Qf:lcP A3 "old":=∅
theorem Qp:(AM A3).names.lookup ("old":Str)=some NameKind.local:=∅
theorem Qe:lcP A3 "new":=∅
theorem Qo:(AM A3).names.lookup ("new":Str)=some NameKind.local:=∅
theorem Hg:glP A3 "stretches_of":=∅
theorem Hi:glP A3 "range":=∅
theorem QY:List.Nodup (["cell","olds","news"]:List Str):=∅
theorem QX:List.Nodup (["step","olds","y","x"]:List Str):=∅
theorem QW:List.Nodup (["step","news","y","x"]:List Str):=∅
abbrev A6:Stmt:=top 13
theorem sc_frame_between:Ax ["one","other","olds","news","x","y"] ["one","other"] (AM A6):=⟨rfl,rfl,rfl,∅,rfl,∅,∅⟩
theorem Gn:lcP A6 "one":=∅
theorem Gm:lcP A6 "other":=∅
theorem Ej:lcP A6 "olds":=∅
theorem Ei:lcP A6 "news":=∅
theorem CP:lcP A6 "x":=∅
theorem CO:lcP A6 "y":=∅
theorem FW:glP A6 "changed_cells":=∅
theorem HC:glP A6 "frame_of":=∅
abbrev DN:Stmt:=mth 23 1
theorem sc_Film_add:Ax ["self","picture"] ["self","picture"] (AM DN):=⟨rfl,rfl,rfl,∅,rfl,∅,∅⟩
theorem Fu:lcP DN "self":=∅
theorem ID:lcP DN "picture":=∅
theorem GL:glP DN "size_of":=∅
theorem HG:glP DN "frame_between":=∅
theorem GY:glP DN "picture_copied":=∅
abbrev DM:Stmt:=top 22
theorem sc_frame_copied:Ax ["frame"] ["frame"] (AM DM):=⟨rfl,rfl,rfl,∅,rfl,∅,∅⟩
theorem LX:lcP DM "frame":=∅
theorem Dl:List.Nodup (["x","y","olds","news"]:List Str):=∅
abbrev ED:Stmt:=mth 23 4
theorem sc_Film_frames:Ax ["self"] ["self"] (AM ED):=⟨rfl,rfl,rfl,∅,rfl,∅,∅⟩
theorem Mb:lcP ED "self":=∅
theorem MZ:List.Nodup (["frame"]:List Str):=∅
abbrev Cp:Stmt:=top 18
theorem sc_first_over:Ax ["one","other","both"] ["one","other"] (AM Cp):=⟨rfl,rfl,rfl,∅,rfl,∅,∅⟩
theorem Nc:lcP Cp "one":=∅
theorem Nb:lcP Cp "other":=∅
theorem GG:lcP Cp "both":=∅
theorem Kz:glP Cp "dict":=∅
abbrev CH:Stmt:=top 17
theorem sc_olds_of:Ax ["frame","shades","x","y","olds","news","step","shade"] ["frame"] (AM CH):=⟨rfl,rfl,rfl,∅,rfl,∅,∅⟩
theorem Rv:lcP CH "frame":=∅
theorem Iw:lcP CH "shades":=∅
theorem MB:lcP CH "x":=∅
theorem MA:lcP CH "y":=∅
theorem L9:lcP CH "olds":=∅
theorem Ru:lcP CH "news":=∅
theorem L8:lcP CH "step":=∅
theorem L7:lcP CH "shade":=∅
theorem Jd:glP CH "enumerate":=∅
abbrev Ee:Stmt:=top 16
theorem sc_frame_back:Ax ["frame"] ["frame"] (AM Ee):=⟨rfl,rfl,rfl,∅,rfl,∅,∅⟩
theorem Na:lcP Ee "frame":=∅
theorem Eg:List.Nodup (["x","y","olds","news"]:List Str):=∅
abbrev A5:Stmt:=top 19
theorem sc_frames_joined:Ax ["one","other","olds","news"] ["one","other"] (AM A5):=⟨rfl,rfl,rfl,∅,rfl,∅,∅⟩
theorem Gk:lcP A5 "one":=∅
theorem Gj:lcP A5 "other":=∅
theorem Gi:lcP A5 "olds":=∅
theorem Gh:lcP A5 "news":=∅
theorem Bo:glP A5 "olds_of":=∅
theorem DY:glP A5 "first_over":=∅
theorem DW:glP A5 "frame_back":=∅
theorem G9:glP A5 "frame_of":=∅
abbrev BE:Stmt:=top 28
theorem sc_L_is_fraction:Ax ["_law_thing","_law_one"] ["_law_thing"] (AM BE):=⟨rfl,rfl,rfl,∅,rfl,∅,∅⟩
theorem Em:lcP BE "_law_thing":=∅
theorem El:lcP BE "_law_one":=∅
theorem Je:glP BE "len":=∅
theorem Ii:glP BE "tuple":=∅
theorem B7:glP BE "isinstance":=∅
theorem JE:glP BE "bool":=∅
theorem Jf:glP BE "int":=∅
abbrev A0:Stmt:=top 29
theorem sc_L_same_picture:Ax ["_law_found","_law_due","_law_y"] ["_law_found","_law_due"] (AM A0):=⟨rfl,rfl,rfl,∅,rfl,∅,∅⟩
theorem B5:lcP A0 "_law_found":=∅
theorem EW:lcP A0 "_law_due":=∅
theorem B4:lcP A0 "_law_y":=∅
theorem DZ:glP A0 "len":=∅
theorem E4:glP A0 "list":=∅
theorem DH:glP A0 "isinstance":=∅
theorem IH:glP A0 "range":=∅
theorem KG:List.Nodup (["_law_shade"]:List Str):=∅
abbrev Im:Stmt:=top 33
theorem sc_L_copy:Ax ["_law_picture"] ["_law_picture"] (AM Im):=⟨rfl,rfl,rfl,∅,rfl,∅,∅⟩
theorem TX:lcP Im "_law_picture":=∅
theorem TU:List.Nodup (["_law_line"]:List Str):=∅
abbrev Ai:Stmt:=top 35
theorem sc_L_joined_right:Ax ["_law_film","_law_pictures","_law_whole","_law_frame","_law_k"] ["_law_film","_law_pictures"] (AM Ai):=⟨rfl,rfl,rfl,∅,rfl,∅,∅⟩
theorem GI:lcP Ai "_law_film":=∅
theorem Cs:lcP Ai "_law_pictures":=∅
theorem Cr:lcP Ai "_law_whole":=∅
theorem GH:lcP Ai "_law_frame":=∅
theorem EX:lcP Ai "_law_k":=∅
theorem FE:glP Ai "frames_joined":=∅
theorem GK:glP Ai "_law_copy":=∅
theorem FX:glP Ai "frame_played":=∅
theorem B6:glP Ai "_law_same_picture":=∅
theorem JD:glP Ai "len":=∅
theorem IJ:glP Ai "range":=∅
abbrev De:Stmt:=top 34
theorem sc_L_right:Ax ["_law_films","_law_kept","_law_at"] ["_law_films","_law_kept"] (AM De):=⟨rfl,rfl,rfl,∅,rfl,∅,∅⟩
theorem Iz:lcP De "_law_films":=∅
theorem Gr:lcP De "_law_kept":=∅
theorem Cm:lcP De "_law_at":=∅
theorem Mf:glP De "range":=∅
theorem DJ:glP De "_law_same_picture":=∅
theorem Jr:glP De "len":=∅
abbrev Cb:Stmt:=top 36
theorem sc_law:Ax ["_law_script","_law_rest","_law_w","_law_h","_law_kept","_law_films","_law_told","_law_k","_law_at","_law_picture"] ["_law_script"] (AM Cb):=⟨rfl,rfl,rfl,∅,rfl,∅,∅⟩
theorem Qd:lcP Cb "_law_script":=∅
theorem Gg:lcP Cb "_law_rest":=∅
theorem Qc:lcP Cb "_law_w":=∅
theorem Qb:lcP Cb "_law_h":=∅
theorem Ft:lcP Cb "_law_kept":=∅
theorem JP:lcP Cb "_law_films":=∅
theorem UN:lcP Cb "_law_told":=∅
theorem Qa:lcP Cb "_law_k":=∅
theorem Mv:lcP Cb "_law_at":=∅
theorem QZ:lcP Cb "_law_picture":=∅
theorem JB:glP Cb "_law_big":=∅
theorem FD:glP Cb "_law_digit":=∅
theorem E3:glP Cb "_law_picture_by":=∅
theorem Fn:glP Cb "_law_copy":=∅
theorem Ny:glP Cb "Film":=∅
theorem Vi:glP Cb "len":=∅
theorem Vh:glP Cb "min":=∅
theorem SN:glP Cb "range":=∅
theorem Vj:glP Cb "int":=∅
theorem KL:glP Cb "_law_next_by":=∅
theorem Lk:glP Cb "_law_right":=∅
theorem Ec:glP Cb "_law_joined_right":=∅
def Aq:Mir:=B1 true 1 0 (Be (dLC 1 [] (dIL (AD 0)) (dN 0) DC (dFx (A9 Ba (AA (AD 0) AE)))))
def DV:Mir:=B1 false 4 0 (BA (Cu (GB (AZ (dOp fLt (AD 1) (dC (.int 0)))) (Bm (AZ (Ey fLe fLt (dC (.int 0)) (AD 2) (A9 By (AA (AD 0) AE)))))) (Be (GP AE)) Eu) (Be (dSl (dOp AY (AD 0) (AD 2)) (dPt (AD 1)) (dPt (dOp B8 (AD 1) (AD 3))))))
def BX:Mir:=B1 true 2 7 (EA (Dz (dIL (AD 0)) (dGT (AL (dN 2) (AL (dN 3) (AL (dN 4) (AL (dN 5) BH))))) (Cu (AZ (dOp fNe (AX DV (AA (AD 1) (AA (AD 2) (AA (AD 3) (AA (A9 By (AA (AD 4) AE)) AE))))) (AD 4))) HL Eu)) (EA (EL 2 6 (dLs (AX Aq (AA (AD 1) AE)))) (EA (Dz (dIL (AD 0)) (dGT (AL (dN 2) (AL (dN 3) (AL (dN 4) (AL (dN 5) BH))))) (Dz (dIE (AD 5)) (dGT (AL (dN 7) (AL (dN 8) BH))) (HK 6 (AD 8) (AD 3) (dOp B8 (AD 2) (AD 7))))) (Pz 6))))
def BY:Mir:=B1 false 1 0 (Be (dOp B8 (A9 By (AA (JK "Film" "kept_frames" (AD 0)) AE)) (dC (.int 1))))
def BJ:Mir:=B1 true 2 2 (EA (Cu (Bm (AZ (Ey fLe fLt (dC (.int 0)) (AD 1) (DK "Film" "count" BY (AD 0) AE)))) HL Eu) (EA (EL 2 2 (dLs (AX Aq (AA (JK "Film" "first" (AD 0)) AE)))) (EA (Dz (dIL (dSl (JK "Film" "kept_frames" (AD 0)) Yf (dPt (AD 1)))) (dN 3) (EL 2 2 (Ez 2 (dLs (AX BX (AA (AD 3) (AA (AD 2) AE))))))) (Pz 2))))
def Cn:Mir:=B1 false 2 0 (BA (Cu (AZ (dOp fLt (AD 1) (Ih 0))) (Be (O1 0 (AD 1))) Eu) (Be (dC (.int 0))))
def FK:Mir:=B1 false 2 6 (BA (Cz (Bc (AA (dC (.int 48271)) (AA (dC (.int 69621)) (AA (dC (.int 16807)) (AA (dC (.int 39373)) (AA (dC (.int 21401)) (AA (dC (.int 60493)) (AA (dC (.int 87721)) (AA (dC (.int 31337)) AE))))))))) (dN 2)) (BA (Cz (Bc (AA (dC (.int 99991)) (AA (dC (.int 99989)) (AA (dC (.int 99971)) (AA (dC (.int 99961)) (AA (dC (.int 99929)) (AA (dC (.int 99923)) (AA (dC (.int 99907)) (AA (dC (.int 99901)) AE))))))))) (dN 3)) (BA (Cz (Cv 0 Cn (AA (AD 1) AE)) (dN 4)) (BA (Cu (AZ (dOp fGe (AD 4) (dOp XE (dC (.int 10)) (dC (.int 18))))) (Be (AD 4)) Eu) (BA (Cz (dC (.int 0)) (dN 5)) (BA (Dz (dR1 (AA (dC (.int 60)) AE)) (dN 6) (BA (Cz (dOp B8 (dOp B8 (dOp GZ (Cv 0 Cn (AA (dOp B8 (AD 1) (dOp GZ (AD 6) (dC (.int 9)))) AE)) (dOp XE (dC (.int 10)) (dC (.int 18)))) (dC (.int 1))) (dOp N2 (AD 6) (AD 6))) (dN 7)) (Cz (dOp B8 (dOp N2 (AD 5) (dC (.int 7919))) (dOp GZ (dOp GZ (dOp N2 (AD 7) (dOp Es (AD 2) (dOp GZ (AD 6) (dC (.int 8))))) (dOp Es (AD 3) (dOp GZ (AD 6) (dC (.int 8))))) (dC (.int 7919)))) (dN 5)))) (Be (AD 5))))))))
def An:Mir:=B1 false 2 1 (BA (Cz (LG 0 (dOp GZ (dOp AY (AD 0) (dC (.int 0))) (AD 1))) (dN 2)) (BA (Ic 0 (LG 0 (dOp aA (dOp AY (AD 0) (dC (.int 0))) (AD 1))) (dC (.int 0))) (Be (AD 2))))
def Bb:PyData->List PyData->Option PyData:=MS 2 0 (Tj (SO "Film" "first" (dLs (AX Aq (AA (AD 1) AE)))) (Tj (SO "Film" "last" (dLs (AX Aq (AA (AD 1) AE)))) (SO "Film" "kept_frames" (Ig LF))))
def FU:Mir:=B1 true 2 3 (EA (EL 2 2 (dLC 1 [] (dIL (AD 1)) (dN 0) DC (dFx (A9 Ba (AA (AD 0) AE))))) (EA (Dz (dR1 (AA (A8 0 An (AA (dC (.int 7)) AE)) AE)) (dN 3) (BA (Cz (A8 0 An (AA (A9 By (AA (dOp AY (AD 1) (dC (.int 0))) AE)) AE)) (dN 4)) (HK 2 (dOp AY (GP (AA (Bc (AA (dC (.int 0)) (AA (dC (.int 1)) AE))) (AA (Bc (AA (dC (.int 1)) (AA (dC (.int 2)) AE))) (AA (Bc (AA (dC (.int 1)) (AA (dC (.int 3)) AE))) AE)))) (A8 0 An (AA (dC (.int 3)) AE))) (A8 0 An (AA (A9 By (AA (AD 1) AE)) AE)) (AD 4)))) (Pz 2)))
def BM:Mir:=B1 true 3 2 (EA (Cz (dOp B8 (dC (.int 1)) (A8 0 An (AA (dC (.int 4)) AE))) (dN 3)) (EA (Cz (dSl (GP (AA (Bc (AA (dC (.int 0)) (AA (dC (.int 1)) AE))) (AA (Bc (AA (dC (.int 1)) (AA (dC (.int 1)) AE))) (AA (Bc (AA (dC (.int 1)) (AA (dC (.int 2)) AE))) (AA (Bc (AA (dC (.int 2)) (AA (dC (.int 3)) AE))) AE))))) Yf (dPt (AD 3))) (dN 4)) (Be (O0 1 [4] 0 [3,1] (dR1 (AA (AD 2) AE)) (dN 0) DC (dOk (dFx (O0 1 [1] 2 [3] (dR1 (AA (AD 4) AE)) (dN 0) DC (dOp AY (AD 1) (A8 2 An (AA (AD 3) AE))))))))))
def Eb:Mir:=B1 true 2 0 (Cu (AZ (dOp fEq (A8 0 An (AA (dC (.int 3)) AE)) (dC (.int 0)))) (dRt (Be (dLs (A8 0 BM (AA (A9 By (AA (dOp AY (AD 1) (dC (.int 0))) AE)) (AA (A9 By (AA (AD 1) AE)) AE)))))) (Be (dLs (A8 0 FU (AA (AD 1) AE)))))
def C1:Mir:=B1 true 1 0 (Be (dLC 1 [] (dIL (AD 0)) (dN 0) DC (A9 By (AA (AD 0) AE))))
def CL:Mir:=B1 true 2 3 (BA (Oz 2 2) (BA (Dz (dIE (AD 0)) (dGT (AL (dN 3) (AL (dN 4) BH))) (Fe (dMt 2 Ep (AA (dLC 2 [3,1] (dIE (AD 4)) (dGT (AL (dN 0) (AL (dN 1) BH))) (AZ (dOp fNe (AD 1) (dOp AY (dOp AY (AD 3) (AD 2)) (AD 0)))) (Bc (AA (AD 0) (AA (AD 2) AE)))) AE)))) (Hq 2 2)))
def Eo:Mir:=B1 true 1 1 (BA (Cz (dSS (dLC 2 [] (dIL (AD 0)) (dGT (AL (dN 0) (AL (dN 1) BH))) DC (Bc (AA (AD 1) (AA (AD 0) AE))))) (dN 1)) (Be (dLC 2 [] (dIL (AD 1)) (dGT (AL (dN 0) (AL (dN 1) BH))) DC (Bc (AA (AD 1) (AA (AD 0) AE))))))
def C2:Mir:=B1 false 2 0 (Be (dOp fEq (AD 1) (Bc (AA (dOp B8 (dOp Es (AD 0) (dC (.int 0))) (dOp Es (AD 0) (dC (.int 2)))) (AA (dOp Es (AD 0) (dC (.int 1))) AE)))))
def Ce:Mir:=B1 true 1 3 (BA (Oz 1 1) (BA (Dz (dIL (AX Eo (AA (AD 0) AE))) (dN 2) (Cu (Ho 1 (Fd (AZ (dOp fGt (A9 By (AA (AD 1) AE)) (dC (.int 0)))) (AZ (AX C2 (AA (dOp AY (AD 1) (dUn FZ (dC (.int 1)))) (AA (AD 2) AE)))))) (BA (Cz (LG 1 (dOp AY (AD 1) (dUn FZ (dC (.int 1))))) (dN 3)) (Ic 1 (Bc (AA (dOp Es (AD 3) (dC (.int 0))) (AA (dOp Es (AD 3) (dC (.int 1))) (AA (dOp B8 (dOp Es (AD 3) (dC (.int 2))) (dC (.int 1))) AE)))) (dUn FZ (dC (.int 1))))) (Fe (dMt 1 ER (AA (Bc (AA (dOp Es (AD 2) (dC (.int 0))) (AA (dOp Es (AD 2) (dC (.int 1))) (AA (dC (.int 1)) AE)))) AE))))) (Hq 1 1)))
def CZ:Mir:=B1 true 2 7 (EA (Cz (dLC 1 [0,1] (dID (AD 0)) (dN 0) (AZ (dOp fNe (dOp HH (AD 1) (AD 0)) (dOp HH (AD 2) (AD 0)))) (AD 0)) (dN 2)) (EA (EL 2 3 (Ig LF)) (EA (Dz (dIL (AX Ce (AA (AD 2) AE))) (dGT (AL (dN 4) (AL (dN 5) (AL (dN 6) BH)))) (BA (EL 2 7 (dFx (dLC 1 [0,5,4] (dR1 (AA (AD 6) AE)) (dN 0) DC (dOp HH (AD 1) (Bc (AA (dOp B8 (AD 3) (AD 0)) (AA (AD 2) AE))))))) (BA (EL 2 8 (dFx (dLC 1 [1,5,4] (dR1 (AA (AD 6) AE)) (dN 0) DC (dOp HH (AD 1) (Bc (AA (dOp B8 (AD 3) (AD 0)) (AA (AD 2) AE))))))) (KQ 3 (AD 4) (AD 5) 7 8)))) (Pz 3))))
def Bq:Mir:=B1 true 2 4 (EA (SX 2 2) (EA (SX 2 3) (EA (Dz (dIL (AX CL (AA (AD 0) (AA (AD 1) AE)))) (dGT (AL (dN 4) (AL (dN 5) BH))) (BA (Ie 2 (dOp AY (dOp AY (AD 0) (AD 5)) (AD 4)) (Bc (AA (AD 4) (AA (AD 5) AE)))) (Ie 3 (dOp AY (dOp AY (AD 1) (AD 5)) (AD 4)) (Bc (AA (AD 4) (AA (AD 5) AE)))))) (Uw 2 3 (Uw 2 2 (Be (dLs (AX CZ (AA (AD 2) (AA (AD 3) AE))))))))))
def Ca:PyData->List PyData->Option PyData:=MS 2 0 (Tj (W7 (AZ (dOp fNe (AX C1 (AA (AD 1) AE)) (AX C1 (AA (JK "Film" "last" (AD 0)) AE))))) (Tj (W8 "Film" "kept_frames" (dLs (AX Bq (AA (JK "Film" "last" (AD 0)) (AA (AD 1) AE))))) (SO "Film" "last" (dLs (AX Aq (AA (AD 1) AE))))))
def Cf:Mir:=B1 true 1 0 (Be (dLC 4 [] (dIL (AD 0)) (dGT (AL (dN 0) (AL (dN 1) (AL (dN 2) (AL (dN 3) BH))))) DC (N8 (Ga (dFd (AD 0)) (Ga (dFd (AD 1)) (Ga (dFx (A9 Ba (AA (AD 2) AE))) (Ga (dFx (A9 Ba (AA (AD 3) AE))) LF)))))))
def C3:Mir:=B1 true 1 0 (Be (dLC 1 [] (dIL (JK "Film" "kept_frames" (AD 0))) (dN 0) DC (dLs (AX Cf (AA (AD 0) AE)))))
def CS:Mir:=B1 true 2 1 (BA (Fp 2 2 (A9 Lo (AA (AD 1) AE))) (BA (SV 2 (AD 0)) (Hq 2 2)))
def CJ:Mir:=B1 true 1 7 (BA (SX 1 1) (BA (Dz (dIL (AD 0)) (dGT (AL (dN 2) (AL (dN 3) (AL (dN 4) (AL (dN 5) BH))))) (Dz (dIE (AD 4)) (dGT (AL (dN 6) (AL (dN 7) BH))) (Ie 1 (AD 7) (Bc (AA (dOp B8 (AD 2) (AD 6)) (AA (AD 3) AE)))))) (Hq 1 1)))
def CQ:Mir:=B1 true 1 0 (Be (dLC 4 [] (dIL (AD 0)) (dGT (AL (dN 0) (AL (dN 1) (AL (dN 2) (AL (dN 3) BH))))) DC (Bc (AA (AD 0) (AA (AD 1) (AA (A9 Ba (AA (AD 3) AE)) (AA (A9 Ba (AA (AD 2) AE)) AE)))))))
def CK:Mir:=B1 true 2 2 (EA (Cz (AX CS (AA (AX CJ (AA (AD 0) AE)) (AA (AX CJ (AA (AD 1) AE)) AE))) (dN 2)) (EA (Cz (AX CS (AA (AX CJ (AA (AX CQ (AA (AD 1) AE)) AE)) (AA (AX CJ (AA (AX CQ (AA (AD 0) AE)) AE)) AE))) (dN 3)) (Be (dLs (AX CZ (AA (AD 2) (AA (AD 3) AE)))))))
def Br:Mir:=B1 false 1 1 (BA (Cu (GB (Bm (AZ (Ij "tuple" (AD 0)))) (AZ (dOp fNe (A9 By (AA (AD 0) AE)) (dC (.int 2))))) (Be (dC (.bool false))) Eu) (BA (Dz (dIT (AD 0)) (dN 1) (Cu (GB (Bm (AZ (Ij "int" (AD 1)))) (AZ (Ij "bool" (AD 1)))) (Be (dC (.bool false))) Eu)) (Be (dC (.bool true)))))
def Ag:Mir:=B1 false 2 1 (BA (Cu (GB (Bm (AZ (Ij "list" (AD 0)))) (AZ (dOp fNe (A9 By (AA (AD 0) AE)) (A9 By (AA (AD 1) AE))))) (Be (dC (.bool false))) Eu) (BA (Dz (dR1 (AA (A9 By (AA (AD 1) AE)) AE)) (dN 2) (BA (Cu (GB (Bm (AZ (Ij "list" (dOp AY (AD 0) (AD 2))))) (AZ (dOp fNe (dOp AY (AD 0) (AD 2)) (dOp AY (AD 1) (AD 2))))) (Be (dC (.bool false))) Eu) (Cu (AZ (dOp fNe (dLC 1 [] (dIL (dOp AY (AD 0) (AD 2))) (dN 0) (Bm (AZ (AX Br (AA (AD 0) AE)))) (AD 0)) (GP AE))) (Be (dC (.bool false))) Eu))) (Be (dC (.bool true)))))
def CT:Mir:=B1 true 1 0 (Be (dLC 1 [] (dIL (AD 0)) (dN 0) DC (dFx (A9 Ba (AA (AD 0) AE)))))
def BU:Mir:=B1 false 2 3 (BA (Cz (GP AE) (dN 2)) (BA (Dz (dIL (dLs (DK "Film" "frames" C3 (AD 0) AE))) (dN 3) (Cz (dLs (AX CK (AA (AD 2) (AA (AD 3) AE)))) (dN 2))) (BA (Cu (Bm (AZ (AX Ag (AA (dLs (AX BX (AA (AD 2) (AA (dLs (AX CT (AA (dOp AY (AD 1) (dC (.int 0))) AE))) AE)))) (AA (dOp AY (AD 1) (dUn FZ (dC (.int 1)))) AE))))) (Be (dC (.bool false))) Eu) (BA (Dz (dR1 (AA (A9 By (AA (AD 1) AE)) AE)) (dN 4) (Cu (Bm (AZ (AX Ag (AA (dLs (DK "Film" "at" BJ (AD 0) (AA (AD 4) AE))) (AA (dOp AY (AD 1) (AD 4)) AE))))) (Be (dC (.bool false))) Eu)) (Be (dC (.bool true)))))))
def E9:Mir:=B1 false 2 1 (BA (Dz (dR1 (AA (dC (.int 2)) AE)) (dN 2) (BA (Cu (GB (AZ (dOp fNe (DK "Film" "count" BY (dOp AY (AD 0) (AD 2)) AE) (A9 By (AA (dOp AY (AD 1) (AD 2)) AE)))) (Bm (AZ (AX Ag (AA (dLs (DK "Film" "at" BJ (dOp AY (AD 0) (AD 2)) (AA (dC (.int 0)) AE))) (AA (dOp AY (dOp AY (AD 1) (AD 2)) (dC (.int 0))) AE)))))) (Be (dC (.bool false))) Eu) (Cu (Bm (AZ (AX Ag (AA (dLs (DK "Film" "at" BJ (dOp AY (AD 0) (AD 2)) (AA (dOp N1 (A9 By (AA (dOp AY (AD 1) (AD 2)) AE)) (dC (.int 1))) AE))) (AA (dOp AY (dOp AY (AD 1) (AD 2)) (dUn FZ (dC (.int 1)))) AE))))) (Be (dC (.bool false))) Eu))) (Be (dC (.bool true))))
def Pb:Mir:=B1 false 1 9 (BA (Fp 1 1 (GP (AA (Cv 0 FK (AA (dC (.int 0)) AE)) AE))) (BA (Cz (dOp B8 (dC (.int 1)) (A8 1 An (AA (dC (.int 9)) AE))) (dN 2)) (BA (Cz (dOp B8 (dC (.int 1)) (A8 1 An (AA (dC (.int 6)) AE))) (dN 3)) (BA (EL 1 4 (Ig (Ga (Ig (Ga (dLs (A8 1 BM (AA (AD 2) (AA (AD 3) AE)))) LF)) (Ga (Ig (Ga (dLs (A8 1 BM (AA (dOp B8 (AD 3) (dC (.int 1))) (AA (AD 2) AE)))) LF)) LF)))) (BA (EL 1 5 (Ez 4 (Ig (Ga (OC "Film" Bb (AA (dLs (AX CT (AA (dOp AY (dOp AY (AD 4) (dC (.int 0))) (dC (.int 0))) AE))) AE)) (Ga (OC "Film" Bb (AA (dLs (AX CT (AA (dOp AY (dOp AY (AD 4) (dC (.int 1))) (dC (.int 0))) AE))) AE)) LF))))) (BA (EL 1 6 (Ez 5 (dLs (DK "Film" "at" BJ (dOp AY (AD 5) (dC (.int 0))) (AA (dC (.int 0)) AE))))) (BA (Dz (dR2 (AA (dC (.int 9)) (AA (A9 Jv (AA (Ih 0) (AA (dC (.int 21)) AE))) AE))) (dN 7) (BA (Fp 1 1 (GP (AA (Cv 0 FK (AA (AD 7) AE)) AE))) (BA (Cz (dOp GZ (dOp B8 (AD 7) (A9 IY (AA (dOp fEq (A8 1 An (AA (dC (.int 4)) AE)) (dC (.int 0))) AE))) (dC (.int 2))) (dN 8)) (BA (EL 1 9 (Ez 4 (dLs (A8 1 Eb (AA (dOp AY (dOp AY (AD 4) (AD 8)) (dUn FZ (dC (.int 1)))) AE))))) (BA (P2 5 (AD 8) "Film" "add" Ca (AA (Ez 9 (dLs (AX CT (AA (AD 9) AE)))) AE)) (BA (L1 4 (AD 8) 9) (Cu (GO 6 (GO 4 (GO 5 (GB (Bm (AZ (AX E9 (AA (AD 5) (AA (AD 4) AE))))) (AZ (dOp fNe (AD 6) (dOp AY (dOp AY (AD 4) (dC (.int 0))) (dC (.int 0))))))))) (Be (dC (.bool false))) Eu))))))) (Be (OF 4 (OF 5 (Mn (AX BU (AA (dOp AY (AD 5) (dC (.int 0))) (AA (dOp AY (AD 4) (dC (.int 0))) AE))) (AX BU (AA (dOp AY (AD 5) (dC (.int 1))) (AA (dOp AY (AD 4) (dC (.int 1))) AE))))))))))))))
theorem GJ{k:Nat}{A:Around}(hr:Room k A):A.units+64<cLine:=hr.units
section
variable {P:Program} {w:World} {K:PySem.W.Frag} {mg:Str->Option Value} {base:Heap} {f:Addr} {fd:FuncData}
theorem Kp(F:Fun K "picture_copied" "picture_copied" Cd f fd)(z_list:mg "list"=none):FnOk P w K mg base CX0 1 f fd ["picture"] (spG ⟨K,w,mg⟩ Aq):=by
 have nd:=sc_picture_copied.nd
 refine F.ok sc_picture_copied (λvs H Q E h=>Fz Aj h) (λcdv A outer s H vs Q E hr h=>?_)
 exact⟨_,(@AQ _ _ _ (@Aw _ _ _ _ (@IU _ ["row"] 1 [] _ _ _ _ _ _ _ _ _ _ rfl (@Fo _ ["row"] 1 [] _ ["picture"] (AM Cd) rfl rfl ∅) (@CD _ _ _ _ (pvL 0 rfl KH Bk)) (λcl fp s3 H3=>(@AV _ _ 0 _ KC rfl (Av ∅) (Or.inr (A1 ∅)))) (λcl fp s3 H3=>Di) (λcl fp s3 H3=>(@C0 _ _ _ _ _ _ _ _ _ Cw (EN ∅) z_list df (AB (pv 0 rfl (Ap ∅) N7.1 N7.2) AI ⋯) Eh F7.1 ⋯ ⋯)) ⋯))),M8 (N:=["picture"]) (np:=1) (nl:=0) (Uo (CG AH) AS HM (MN (Co KR (AF AH AN)))) rfl h⟩
theorem QS(F:Fun K "shades_at" "shades_at" Ck f fd)(z_len:mg "len"=none):FnOk P w K mg base CX0 1 f fd ["picture","x","y","many"] (spD ⟨K,w,mg⟩ DV false):=by
 have nd:=sc_shades_at.nd
 refine F.ok sc_shades_at (λvs H Q E h=>C8 Aj h) (λcdv A outer s H vs Q E hr h=>?_)
 exact⟨_,(@AJ _ _ _ _ _ (@E2 _ _ _ _ _ _ _ _ (PW.pt (NQ (@Cq _ _ _ _ _ _ _ _ UJ (pvL 1 rfl G3 FF) AK (DR _)) (@J6 _ _ _ _ (Fj (@Rc _ _ _ _ _ _ _ _ _ _ _ _ Y7 UJ AK (pvL 2 rfl Jk Fb) (A7 Bh Me z_len dE (AB (pvL 0 rfl Jl Bk) AI ⋯) CF C9.1 ⋯ ⋯) ⋯))))) (@AQ _ _ _ (@Aw _ _ _ _ (@EV _ _ _ _ AI))) CN) (@AQ _ _ _ (@Aw _ _ _ _ (@NU _ _ _ _ _ _ _ _ _ _ QD (@As _ _ _ _ _ _ _ Ab (pvL 0 rfl Jl Bk) (pvL 2 rfl Jk Fb) (λ_ _=>rfl)) (@Mt _ _ _ (pvL 1 rfl G3 FF)) (@Mt _ _ _ (@Bz _ _ _ _ _ _ _ _ DQ (pvL 1 rfl G3 FF) (pvL 3 rfl Oa RE))))))),C7 (N:=["picture","x","y","many"]) (np:=4) (nl:=0) (BB (Jh (Sv (CY (Ah YF AH AU)) (IS (CY (Uq bH YF AU AH (Co Fq (AF AH AN)))))) (Cj (N4 AN) (by decide)) GQ) (Cj (aE (Ah BI AH AH) (YE AH) (YE (Ah FT AH AH))) (by decide))) rfl h⟩
theorem MW(F:Fun K "frame_played" "frame_played" Am f fd)(c39:Cal P w K mg base 1 "shades_at" ["picture","x","y","many"] (spD ⟨K,w,mg⟩ DV false))(c00:Cal P w K mg base 1 "picture_copied" ["picture"] (spG ⟨K,w,mg⟩ Aq))(z_len:mg "len"=none)(z_enumerate:mg "enumerate"=none):FnOk P w K mg base CX0 2 f fd ["frame","picture"] (spG ⟨K,w,mg⟩ BX):=by
 have nd:=sc_frame_played.nd
 refine F.ok sc_frame_played (λvs H Q E h=>Fz Aj h) (λcdv A outer s H vs Q E hr h=>?_)
 exact⟨_,(@AJ _ _ _ _ _ (@C6 _ _ _ _ _ _ _ _ dA rfl (@CD _ _ _ _ (pvL 0 rfl HX EJ)) (E5 rfl (Ac (@AV _ _ 2 _ nd rfl Dt ⋯) (Ac (@AV _ _ 3 _ nd rfl Ds ⋯) (Ac (@AV _ _ 4 _ nd rfl Dr ⋯) (Ac (@AV _ _ 5 _ nd rfl E8 ⋯) Dk ⋯) ⋯) ⋯) ⋯) ⋯ ⋯) (@AQ _ _ _ (@E2 _ _ _ _ _ _ _ _ (@Cq _ _ _ _ _ _ _ _ (@G2 _ (GJ hr)) (AO c39 hr HA (AB (pvL 1 rfl HW Bk) (AB (pvL 2 rfl Dt FF) (AB (pvL 3 rfl Ds Fb) (AB (A7 Bh KN z_len dE (AB (pvL 4 rfl Dr Ct) AI ⋯) CF C9.1 ⋯ ⋯) AI ⋯) ⋯) ⋯) ⋯) RD.1 ⋯ ⋯) (pvL 4 rfl Dr Ct) (DR _)) (@AQ _ _ _ NS) CN)) ⋯) (@AJ _ _ _ _ _ (@BD _ _ 6 _ _ _ _ nd rfl E7 (AO c00 hr FV (AB (pvL 1 rfl HW Bk) AI ⋯) CV.1 ⋯ ⋯) ⋯ ⋯) (@AJ _ _ _ _ _ (@C6 _ _ _ _ _ _ _ _ dA rfl (@CD _ _ _ _ (pvL 0 rfl HX EJ)) (E5 rfl (Ac (@AV _ _ 2 _ nd rfl Dt ⋯) (Ac (@AV _ _ 3 _ nd rfl Ds ⋯) (Ac (@AV _ _ 4 _ nd rfl Dr ⋯) (Ac (@AV _ _ 5 _ nd rfl E8 ⋯) Dk ⋯) ⋯) ⋯) ⋯) ⋯ ⋯) (@AQ _ _ _ (@C6 _ _ _ _ _ _ _ _ dA rfl (@Mu _ _ _ _ _ _ _ _ HB z_enumerate (AB (pvL 5 rfl E8 EU) AI ⋯) FI F8.1 ⋯) (E5 rfl (Ac (@AV _ _ 7 _ nd rfl HV ⋯) (Ac (@AV _ _ 8 _ nd rfl HU ⋯) Dk ⋯) ⋯) ⋯ ⋯) (@AQ _ _ _ (@J7 _ _ _ _ _ _ (pvL 8 rfl HU K9) (@J9 _ _ _ _ _ _ _ (@As _ _ _ _ _ _ _ Ab (pvL 6 rfl E7 Pw) (pvL 3 rfl Ds Fb) (λ_ _=>rfl)) (@Bz _ _ _ _ _ _ _ _ DQ (pvL 2 rfl Dt FF) (pvL 7 rfl HV JW)) Kh ⋯) ⋯ ⋯ ⋯)) ⋯)) ⋯) (@AQ _ _ _ (@Aw _ _ _ _ (pvL 6 rfl E7 Pw)))))),K3 (N:=["frame","picture","x","y","olds","news","played","step","shade"]) (np:=2) (nl:=7) (DD (GS (CG AH) (Hf (Au AS (Au AS (Au AS (Au AS FC)))) (Ad (Ad (Ad (Ad Du))))) (Jh (CY (Ah OX (B9 (AF AH (AF AH (AF AH (AF (Co Fq (AF AH AN)) AN))))) AH)) U2 GQ)) (DD (IP (Bu (AF AH AN))) (DD (GS (CG AH) (Hf (Au AS (Au AS (Au AS (Au AS FC)))) (Ad (Ad (Ad (Ad Du))))) (T4 (M1 AH) (Hf (Au AS (Au AS FC)) (Ad (Ad Du))) (U1 (i:=6) AH AH (Ah FT AH AH)))) (NB (i:=6))))) rfl h⟩
theorem OW(F:Fun K "count" "Film.count" Ef f fd){C:Addr}(hk_C:mg "Film"=some (.ref C))(kl_C:Cls K C)(na_kept_frames:NoAttr K C "kept_frames")(z_len:mg "len"=none):FnOk P w K mg base CX0 1 f fd ["self"] (spD ⟨K,w,mg⟩ BY false):=by
 have nd:=sc_Film_count.nd
 refine F.ok sc_Film_count (λvs H Q E h=>C8 Aj h) (λcdv A outer s H vs Q E hr h=>?_)
 exact⟨_,(@AQ _ _ _ (@Aw _ _ _ _ (@Bz _ _ _ _ _ _ _ _ DQ (A7 Bh Ll z_len dE (AB (KA (pvL 0 rfl Nd ET) (by rfl)) AI ⋯) CF C9.1 ⋯ ⋯) AK))),C7 (N:=["self"]) (np:=1) (nl:=0) (Cj (Ah FT (Co Fq (AF (Pr hk_C kl_C na_kept_frames AH) AN)) AU) (by decide)) rfl h⟩
theorem TQ(F:Fun K "at" "Film.at" Dg f fd){C:Addr}(hk_C:mg "Film"=some (.ref C))(kl_C:Cls K C)(na_first:NoAttr K C "first")(na_kept_frames:NoAttr K C "kept_frames")(M_Film_count:MCal P w K mg base 2 C "count" ["self"] (spD ⟨K,w,mg⟩ BY false))(c00:Cal P w K mg base 2 "picture_copied" ["picture"] (spG ⟨K,w,mg⟩ Aq))(c05:Cal P w K mg base 2 "frame_played" ["frame","picture"] (spG ⟨K,w,mg⟩ BX)):FnOk P w K mg base CX0 3 f fd ["self","number"] (spG ⟨K,w,mg⟩ BJ):=by
 have nd:=sc_Film_at.nd
 refine F.ok sc_Film_at (λvs H Q E h=>Fz Aj h) (λcdv A outer s H vs Q E hr h=>?_)
 exact⟨_,(@AJ _ _ _ _ _ (@E2 _ _ _ _ _ _ _ _ (Fj (@Rc _ _ _ _ _ _ _ _ _ _ _ _ Y7 UJ AK (pvL 1 rfl MG Px) (LM (pvL 0 rfl JA ET) kl_C M_Film_count hr) ⋯)) (@AQ _ _ _ NS) CN) (@AJ _ _ _ _ _ (@BD _ _ 2 _ _ _ _ nd rfl Gs (AO c00 hr HF (AB (KA (pvL 0 rfl JA ET) (by rfl)) AI ⋯) CV.1 ⋯ ⋯) ⋯ ⋯) (@AJ _ _ _ _ _ (@C6 _ _ _ _ _ _ _ _ dA rfl (@CD _ _ _ _ (@NU _ _ _ _ _ _ _ _ _ _ QD (KA (pvL 0 rfl JA ET) (by rfl)) UD (@Mt _ _ _ (pvL 1 rfl MG Px)))) (@AV _ _ 3 _ nd rfl MF ⋯) (@AQ _ _ _ (@BD _ _ 2 _ _ _ _ nd rfl Gs (AO c05 hr IK (AB (pvL 3 rfl MF EJ) (AB (pvL 2 rfl Gs Bk) AI ⋯) ⋯) Ia.1 ⋯ ⋯) ⋯ ⋯)) ⋯) (@AQ _ _ _ (@Aw _ _ _ _ (pvL 2 rfl Gs Bk)))))),K3 (N:=["self","number","picture","frame"]) (np:=2) (nl:=2) (DD (Jh (IS (CY (Uq bH YF AU AH (XJ hk_C AH AN)))) U2 GQ) (DD (IP (Bu (AF (Pr hk_C kl_C na_first AH) AN))) (DD (GS (CG (aE (Pr hk_C kl_C na_kept_frames AH) Y9 (YE AH))) AS (IP (K7 (i:=2) (Bu (AF AH (AF AH AN)))))) (NB (i:=2))))) rfl h⟩
theorem QV(F:Fun K "_law_cell_at" "_law_cell_at" Ea f fd)(z_len:mg "len"=none):FnOk P w K mg base CX0 1 f fd ["_law_script","_law_k"] (spD ⟨K,w,mg⟩ Cn false):=by
 have nd:=sc_L_cell_at.nd
 refine F.ok sc_L_cell_at (λvs H Q E h=>C8 Aj h) (λcdv A outer s H vs Q E hr h=>?_)
 exact⟨_,(@AJ _ _ _ _ _ (@E2 _ _ _ _ _ _ _ _ (@Cq _ _ _ _ _ _ _ _ UJ (pvL 1 rfl Jo Ci) (A7 Bh Mg z_len dE (AB (pvL 0 rfl Jp CA) AI ⋯) CF C9.1 ⋯ ⋯) (DR _)) (@AQ _ _ _ (@Aw _ _ _ _ (@As _ _ _ _ _ _ _ Ab (pvL 0 rfl Jp CA) (pvL 1 rfl Jo Ci) (λ_ _=>rfl)))) CN) (@AQ _ _ _ (@Aw _ _ _ _ AK))),C7 (N:=["_law_script","_law_k"]) (np:=2) (nl:=0) (BB (Jh (CY (Ah YF AH (XM (i:=0)))) (Cj (bf (i:=0) AH) (by decide)) GQ) (Cj AU (by decide))) rfl h⟩
theorem Wa(F:Fun K "_law_big" "_law_big" Df f fd)(c17:Cal P w K mg base 1 "_law_cell_at" ["_law_script","_law_k"] (spD ⟨K,w,mg⟩ Cn false))(z_range:mg "range"=none):FnOk P w K mg base CX0 2 f fd ["_law_script","_law_at"] (spD ⟨K,w,mg⟩ FK false):=by
 have nd:=sc_L_big.nd
 refine F.ok sc_L_big (λvs H Q E h=>C8 Aj h) (λcdv A outer s H vs Q E hr h=>?_)
 exact⟨_,(@AJ _ _ _ _ _ (@BD _ _ 2 _ _ _ _ nd rfl PY (B3 (AB AK (AB AK (AB AK (AB AK (AB AK (AB AK (AB AK (AB AK AI ⋯) ⋯) ⋯) ⋯) ⋯) ⋯) ⋯) ⋯)) ⋯ ⋯) (@AJ _ _ _ _ _ (@BD _ _ 3 _ _ _ _ nd rfl PX (B3 (AB AK (AB AK (AB AK (AB AK (AB AK (AB AK (AB AK (AB AK AI ⋯) ⋯) ⋯) ⋯) ⋯) ⋯) ⋯) ⋯)) ⋯ ⋯) (@AJ _ _ _ _ _ (@BD _ _ 4 _ _ _ _ nd rfl Lb (AO c17 hr FY (AB (pvL 0 rfl Pa CA) (AB (pvL 1 rfl PZ Bs) AI ⋯) ⋯) Ib.1 ⋯ ⋯) ⋯ ⋯) (@AJ _ _ _ _ _ (@E2 _ _ _ _ _ _ _ _ (@Cq _ _ _ _ _ _ _ _ bB (pvL 4 rfl Lb LD) (@Bz _ _ _ _ _ _ _ _ WY AK AK) (DR _)) (@AQ _ _ _ (@Aw _ _ _ _ (pvL 4 rfl Lb LD))) CN) (@AJ _ _ _ _ _ (@BD _ _ 5 _ _ _ _ nd rfl JQ AK ⋯ ⋯) (@AJ _ _ _ _ _ (@C6 _ _ _ _ _ _ _ _ dA rfl (@Dj _ _ _ _ _ _ Ot z_range (AB AK AI ⋯) ⋯) (@AV _ _ 6 _ nd rfl GD ⋯) (@AJ _ _ _ _ _ (@BD _ _ 7 _ _ _ _ nd rfl PV (@Bz _ _ _ _ _ _ _ _ DQ (@Bz _ _ _ _ _ _ _ _ DQ (@Bz _ _ _ _ _ _ _ _ Iq (AO c17 hr FY (AB (pvL 0 rfl Pa CA) (AB (@Bz _ _ _ _ _ _ _ _ DQ (pvL 1 rfl PZ Bs) (@Bz _ _ _ _ _ _ _ _ Iq (pvL 6 rfl GD Ci) AK)) AI ⋯) ⋯) Ib.1 ⋯ ⋯) (@Bz _ _ _ _ _ _ _ _ WY AK AK)) AK) (@Bz _ _ _ _ _ _ _ _ QR (pvL 6 rfl GD Ci) (pvL 6 rfl GD Ci))) ⋯ ⋯) (@AQ _ _ _ (@BD _ _ 5 _ _ _ _ nd rfl JQ (@Bz _ _ _ _ _ _ _ _ DQ (@Bz _ _ _ _ _ _ _ _ QR (pvL 5 rfl JQ Hn) AK) (@Bz _ _ _ _ _ _ _ _ Iq (@Bz _ _ _ _ _ _ _ _ Iq (@Bz _ _ _ _ _ _ _ _ QR (pvL 7 rfl PV JI) (@As _ _ _ _ _ _ _ G7 (pvL 2 rfl PY Tq) (@Bz _ _ _ _ _ _ _ _ Iq (pvL 6 rfl GD Ci) AK) (λ_ _=>rfl))) (@As _ _ _ _ _ _ _ G7 (pvL 3 rfl PX Ox) (@Bz _ _ _ _ _ _ _ _ Iq (pvL 6 rfl GD Ci) AK) (λ_ _=>rfl))) AK)) ⋯ ⋯))) ⋯) (@AQ _ _ _ (@Aw _ _ _ _ (pvL 5 rfl JQ Hn))))))))),C7 (N:=["_law_script","_law_at","_law_by","_law_prime","_law_cell","_law_big_here","_law_k","_law_one"]) (np:=2) (nl:=6) (BB (Ed (EF (AF AU (AF AU (AF AU (AF AU (AF AU (AF AU (AF AU (AF AU AN))))))))) AS) (BB (Ed (EF (AF AU (AF AU (AF AU (AF AU (AF AU (AF AU (AF AU (AF AU AN))))))))) AS) (BB (Ed (M9 (i:=0) (AF AH AN)) AS) (BB (Jh (CY (Ah cA AH (Ah Y8 AU AU))) (Cj AH (by decide)) GQ) (BB (Ed AU AS) (BB (GS (Dv (AF AU AN)) AS (BB (Ed (Ah FT (Ah FT (Ah L6 (M9 (i:=0) (AF (Ah FT AH (Ah L6 AH AU)) AN)) (Ah Y8 AU AU)) AU) (Ah Wc AH AH)) AS) (Ed (Ah FT (Ah Wc AH AU) (Ah L6 (Ah L6 (Ah Wc AH (Ah Jj AH (Ah L6 AH AU))) (Ah Jj AH (Ah L6 AH AU))) AU)) AS))) (Cj AH (by decide)))))))) rfl h⟩
theorem TN(F:Fun K "_law_digit" "_law_digit" GC f fd):FnOk P w K mg base CX0 1 f fd ["_law_rest","_law_many"] (spD ⟨K,w,mg⟩ An false):=by
 have nd:=sc_L_digit.nd
 refine F.ok sc_L_digit (λvs H Q E h=>C8 Aj h) (λcdv A outer s H vs Q E hr h=>?_)
 exact⟨_,(@AJ _ _ _ _ _ (@BD _ _ 2 _ _ _ _ nd rfl MC (@Bz _ _ _ _ _ _ _ _ Iq (@As _ _ _ _ _ _ _ Ab (pvL 0 rfl I0 Ao) AK (λ_ _=>rfl)) (pvL 1 rfl ME Et)) ⋯ ⋯) (@AJ _ _ _ _ _ (@J7 _ _ _ _ _ _ (@Bz _ _ _ _ _ _ _ _ WZ (@As _ _ _ _ _ _ _ Ab (pvL 0 rfl I0 Ao) AK (λ_ _=>rfl)) (pvL 1 rfl ME Et)) (@J9 _ _ _ _ _ _ _ (pvL 0 rfl I0 Ao) AK Kh ⋯) ⋯ ⋯ ⋯) (@AQ _ _ _ (@Aw _ _ _ _ (pvL 2 rfl MC KP))))),C7 (N:=["_law_rest","_law_many","_law_digit_here"]) (np:=2) (nl:=1) (BB (Ed (XO (i:=0) (Ah L6 (Ah BI AH AU) AH)) AS) (BB (Xc (i:=0) (XO (i:=0) (Ah bI (Ah BI AH AU) AH)) AU) (Cj AH (by decide)))) rfl h⟩
theorem LS(F:Fun K "__init__" "Film.__init__" CI f fd){C:Addr}(hk_C:mg "Film"=some (.ref C))(kl_C:Cls K C)(na_first:NoAttr K C "first")(na_last:NoAttr K C "last")(na_kept_frames:NoAttr K C "kept_frames")(c00:Cal P w K mg base 1 "picture_copied" ["picture"] (spG ⟨K,w,mg⟩ Aq)):FnOk P w K mg base CX0 2 f fd ["self","picture"] (spS ⟨K,w,mg⟩ Bb):=by
 have nd:=sc_Film___init__.nd
 refine F.ok sc_Film___init__ (λvs H Q E h=>Q8 Lz h) (λcdv A outer s H vs Q E hr h=>?_)
 exact⟨_,(@AJ _ _ _ _ _ (QO (pvL 0 rfl En ET) (AO c00 hr Cg (AB (pvL 1 rfl Gu Bk) AI ⋯) CV.1 ⋯ ⋯) (by rfl)) (@AJ _ _ _ _ _ (QO (pvL 0 rfl En ET) (AO c00 hr Cg (AB (pvL 1 rfl Gu Bk) AI ⋯) CV.1 ⋯ ⋯) (by rfl)) (@AQ _ _ _ (QO (pvL 0 rfl En ET) (@EV _ _ _ _ AI) (by rfl))))),Ui (N:=["self","picture"]) (np:=2) (nl:=0) (QH (QG hk_C kl_C na_first (EG.h (Bu (AF AH AN)))) (QH (QG hk_C kl_C na_last (EG.h (Bu (AF AH AN)))) (QG hk_C kl_C na_kept_frames (EG.h (Lr KY))))) rfl h⟩
theorem QU(F:Fun K "_law_near_by" "_law_near_by" BS f fd)(c01:Cal P w K mg base 1 "_law_digit" ["_law_rest","_law_many"] (spD ⟨K,w,mg⟩ An false))(z_list:mg "list"=none)(z_range:mg "range"=none)(z_len:mg "len"=none):FnOk P w K mg base CX0 2 f fd ["_law_rest","_law_picture"] (MU ⟨K,w,mg⟩ FU):=by
 have nd:=sc_L_near_by.nd
 refine F.ok sc_L_near_by (λvs H Q E h=>Q9 Aj h) (λcdv A outer s H vs Q E hr h=>?_)
 exact⟨_,(@AJ _ _ _ _ _ (@Kn _ ["_law_line"] 1 [] _ _ _ _ _ _ _ _ _ _ 2 _ _ _ nd rfl Od rfl (@Fo _ ["_law_line"] 1 [] _ ["_law_rest","_law_picture","_law_made","_law_k","_law_x"] (AM BS) rfl rfl ∅) (@CD _ _ _ _ (pvL 1 rfl G6 BP)) (λcl fp s3 H3=>(@AV _ _ 0 _ OZ rfl (Av ∅) (Or.inr (A1 ∅)))) (λcl fp s3 H3=>Di) (λcl fp s3 H3=>(@C0 _ _ _ _ _ _ _ _ _ Cw (EN ∅) z_list df (AB (pv 0 rfl (Ap ∅) F9.1 F9.2) AI ⋯) Eh F7.1 ⋯ ⋯)) ⋯ ⋯) (@AJ _ _ _ _ _ (@C6 _ _ _ _ _ _ _ _ dA rfl (@Dj _ _ _ _ _ _ K0 z_range (AB (AO c01 hr Bw (AB (pvL 0 rfl FJ Ao) (AB AK AI ⋯) ⋯) BV.1 ⋯ ⋯) AI ⋯) ⋯) (@AV _ _ 3 _ nd rfl Ob ⋯) (@AJ _ _ _ _ _ (@BD _ _ 4 _ _ _ _ nd rfl Jm (AO c01 hr Bw (AB (pvL 0 rfl FJ Ao) (AB (A7 Bh IW z_len dE (AB (@As _ _ _ _ _ _ _ Ab (pvL 1 rfl G6 BP) AK (λ_ _=>rfl)) AI ⋯) CF C9.1 ⋯ ⋯) AI ⋯) ⋯) BV.1 ⋯ ⋯) ⋯ ⋯) (@AQ _ _ _ (@J7 _ _ _ _ _ _ (@As _ _ _ _ _ _ _ Ab (@EV _ _ _ _ (AB (B3 (AB AK (AB AK AI ⋯) ⋯)) (AB (B3 (AB AK (AB AK AI ⋯) ⋯)) (AB (B3 (AB AK (AB AK AI ⋯) ⋯)) AI ⋯) ⋯) ⋯)) (AO c01 hr Bw (AB (pvL 0 rfl FJ Ao) (AB AK AI ⋯) ⋯) BV.1 ⋯ ⋯) (λ_ _=>rfl)) (@J9 _ _ _ _ _ _ _ (@As _ _ _ _ _ _ _ Ab (pvL 2 rfl Jn LA) (AO c01 hr Bw (AB (pvL 0 rfl FJ Ao) (AB (A7 Bh IW z_len dE (AB (pvL 1 rfl G6 BP) AI ⋯) CF C9.1 ⋯ ⋯) AI ⋯) ⋯) BV.1 ⋯ ⋯) (λ_ _=>rfl)) (pvL 4 rfl Jm Vr) Kh ⋯) ⋯ ⋯ ⋯))) ⋯) (@AQ _ _ _ (@Aw _ _ _ _ (pvL 2 rfl Jn LA))))),Q7 (N:=["_law_rest","_law_picture","_law_made","_law_k","_law_x"]) (np:=2) (nl:=3) (DD (T3 (Uo (CG AH) AS HM (MN (Co KR (AF AH AN))))) (DD (GS (Dv (AF (FN (i:=0) (AF AU AN)) AN)) AS (BB (Ed (FN (i:=0) (AF (Co Fq (AF (Ah BI AH AU) AN)) AN)) AS) (U1 (i:=2) (Ah BI (N4 (AF (EF (AF AU (AF AU AN))) (AF (EF (AF AU (AF AU AN))) (AF (EF (AF AU (AF AU AN))) AN)))) (FN (i:=0) (AF AU AN))) (FN (i:=0) (AF (Co Fq (AF AH AN)) AN)) AH))) (NB (i:=2)))) rfl h⟩
theorem MY(F:Fun K "_law_picture_by" "_law_picture_by" BL f fd)(c01:Cal P w K mg base 1 "_law_digit" ["_law_rest","_law_many"] (spD ⟨K,w,mg⟩ An false))(z_range:mg "range"=none):FnOk P w K mg base CX0 2 f fd ["_law_rest","_law_w","_law_h"] (MU ⟨K,w,mg⟩ BM):=by
 have nd:=sc_L_picture_by.nd
 refine F.ok sc_L_picture_by (λvs H Q E h=>Q9 Aj h) (λcdv A outer s H vs Q E hr h=>?_)
 exact⟨_,(@AJ _ _ _ _ _ (@BD _ _ 3 _ _ _ _ nd rfl HY (@Bz _ _ _ _ _ _ _ _ DQ AK (AO c01 hr GW (AB (pvL 0 rfl La Ao) (AB AK AI ⋯) ⋯) BV.1 ⋯ ⋯)) ⋯ ⋯) (@AJ _ _ _ _ _ (@BD _ _ 4 _ _ _ _ nd rfl LY (@NU _ _ _ _ _ _ _ _ _ _ QD (@EV _ _ _ _ (AB (B3 (AB AK (AB AK AI ⋯) ⋯)) (AB (B3 (AB AK (AB AK AI ⋯) ⋯)) (AB (B3 (AB AK (AB AK AI ⋯) ⋯)) (AB (B3 (AB AK (AB AK AI ⋯) ⋯)) AI ⋯) ⋯) ⋯) ⋯)) UD (@Mt _ _ _ (pvL 3 rfl HY Et))) ⋯ ⋯) (@AQ _ _ _ (@Aw _ _ _ _ (@IU _ ["_law_y","_law_shades","_law_rest","_law_many","_law_w"] 1 [4,0,3,1] _ _ _ _ _ _ _ _ _ _ rfl (@Fo _ ["_law_y","_law_shades","_law_rest","_law_many","_law_w"] 1 [4,0,3,1] _ ["_law_rest","_law_w","_law_h","_law_many","_law_shades"] (AM BL) rfl rfl ∅) (@Dj _ _ _ _ _ _ JC z_range (AB (pvL 2 rfl LZ Ly) AI ⋯) ⋯) (λcl fp s3 H3=>(@AV _ _ 0 _ LV rfl (Av ∅) (Or.inr (A1 ∅)))) (λcl fp s3 H3=>Di) (λcl fp s3 H3=>(@IU _ ["_law_x","_law_shades","_law_rest","_law_many"] 1 [1,2,3] _ _ _ _ _ _ _ _ _ _ rfl (Zt (N':=["_law_x","_law_shades","_law_rest","_law_many"]) (own:=1) (fr:=[1,2,3]) (N:=["_law_y","_law_shades","_law_rest","_law_many","_law_w"]) ∅) (@Dj _ _ _ _ _ _ (EN ∅) z_range (AB (pv 4 rfl (B2 ∅) JY.1 JY.2) AI ⋯) ⋯) (λcl fp s3 H3=>(@AV _ _ 0 _ LU rfl (Av ∅) (Or.inr (A1 ∅)))) (λcl fp s3 H3=>Di) (λcl fp s3 H3=>(@As _ _ _ _ _ _ _ Ab (pv 1 rfl (B2 ∅) JH.1 JH.2) (AO c01 hr (EN ∅) (AB (pv 2 rfl (B2 ∅) Ao.1 Ao.2) (AB (pv 3 rfl (B2 ∅) Et.1 Et.2) AI ⋯) ⋯) BV.1 ⋯ ⋯) (λ_ _=>rfl))) ⋯)) ⋯))))),Q7 (N:=["_law_rest","_law_w","_law_h","_law_many","_law_shades"]) (np:=3) (nl:=2) (DD (Ed (Ah FT AU (FN (i:=0) (AF AU AN))) AS) (DD (Ed (aE (N4 (AF (EF (AF AU (AF AU AN))) (AF (EF (AF AU (AF AU AN))) (AF (EF (AF AU (AF AU AN))) (AF (EF (AF AU (AF AU AN))) AN))))) Y9 (YE AH)) AS) (OJ (Yc (f1:=[4]) (j0:=0) (f2:=[3,1]) (Dv (AF AH AN)) AS HM (EG.h (MN (bb (f1:=[1]) (j0:=2) (f2:=[3]) (Dv (AF AH AN)) AS HM (Ah BI AH (FN (i:=2) (AF AH AN)))))))))) rfl h⟩
theorem QT(F:Fun K "_law_next_by" "_law_next_by" CM f fd)(c01:Cal P w K mg base 2 "_law_digit" ["_law_rest","_law_many"] (spD ⟨K,w,mg⟩ An false))(c04:Cal P w K mg base 2 "_law_picture_by" ["_law_rest","_law_w","_law_h"] (MU ⟨K,w,mg⟩ BM))(c40:Cal P w K mg base 2 "_law_near_by" ["_law_rest","_law_picture"] (MU ⟨K,w,mg⟩ FU))(z_len:mg "len"=none):FnOk P w K mg base CX0 3 f fd ["_law_rest","_law_picture"] (MU ⟨K,w,mg⟩ Eb):=by
 have nd:=sc_L_next_by.nd
 refine F.ok sc_L_next_by (λvs H Q E h=>Q9 Aj h) (λcdv A outer s H vs Q E hr h=>?_)
 exact⟨_,(@AJ _ _ _ _ _ (@E2 _ _ _ _ _ _ _ _ (@Cq _ _ _ _ _ _ _ _ (@TC _ (GJ hr)) (AO c01 hr II (AB (pvL 0 rfl G5 Ao) (AB AK AI ⋯) ⋯) BV.1 ⋯ ⋯) AK (DR _)) (@AQ _ _ _ (@Aw _ _ _ _ (AO c04 hr Fv (AB (pvL 0 rfl G5 Ao) (AB (A7 Bh IV z_len dE (AB (@As _ _ _ _ _ _ _ Ab (pvL 1 rfl G4 BP) AK (λ_ _=>rfl)) AI ⋯) CF C9.1 ⋯ ⋯) (AB (A7 Bh IV z_len dE (AB (pvL 1 rfl G4 BP) AI ⋯) CF C9.1 ⋯ ⋯) AI ⋯) ⋯) ⋯) EY.1 ⋯ ⋯))) CN) (@AQ _ _ _ (@Aw _ _ _ _ (AO c40 hr HE (AB (pvL 0 rfl G5 Ao) (AB (pvL 1 rfl G4 BP) AI ⋯) ⋯) Mm.1 ⋯ ⋯)))),Q7 (N:=["_law_rest","_law_picture"]) (np:=2) (nl:=0) (aO (CY (Ah Zq (FN (i:=0) (AF AU AN)) AU)) (OJ (JF (i:=0) (AF (Co Fq (AF (Ah BI AH AU) AN)) (AF (Co Fq (AF AH AN)) AN)))) (OJ (JF (i:=0) (AF AH AN)))) rfl h⟩
theorem TH(F:Fun K "size_of" "size_of" HP f fd)(z_len:mg "len"=none):FnOk P w K mg base CX0 1 f fd ["picture"] (spD ⟨K,w,mg⟩ C1 true):=by
 have nd:=sc_size_of.nd
 refine F.ok sc_size_of (λvs H Q E h=>C8 Aj h) (λcdv A outer s H vs Q E hr h=>?_)
 exact⟨_,(@AQ _ _ _ (@Aw _ _ _ _ (@IU _ ["row"] 1 [] _ _ _ _ _ _ _ _ _ _ rfl (@Fo _ ["row"] 1 [] _ ["picture"] (AM HP) rfl rfl ∅) (@CD _ _ _ _ (pvL 0 rfl Rr Bk)) (λcl fp s3 H3=>(@AV _ _ 0 _ Rq rfl (Av ∅) (Or.inr (A1 ∅)))) (λcl fp s3 H3=>Di) (λcl fp s3 H3=>(A7 Bh (EN ∅) z_len dE (AB (pv 0 rfl (Ap ∅) N7.1 N7.2) AI ⋯) CF C9.1 ⋯ ⋯)) ⋯))),C7 (N:=["picture"]) (np:=1) (nl:=0) (Cj (SR (CG AH) AS HM (Co Fq (AF AH AN))) (by decide)) rfl h⟩
theorem LQ(F:Fun K "changed_cells" "changed_cells" BO f fd)(z_enumerate:mg "enumerate"=none):FnOk P w K mg base CX0 1 f fd ["one","other"] (spD ⟨K,w,mg⟩ CL true):=by
 have nd:=sc_changed_cells.nd
 refine F.ok sc_changed_cells (λvs H Q E h=>C8 Aj h) (λcdv A outer s H vs Q E hr h=>?_)
 exact⟨_,(@AJ _ _ _ _ _ (@BD _ _ 2 _ _ _ _ nd rfl Ek (@EV _ _ _ _ AI) ⋯ ⋯) (@AJ _ _ _ _ _ (@C6 _ _ _ _ _ _ _ _ dA rfl (@Mu _ _ _ _ _ _ _ _ D0 z_enumerate (AB (pvL 0 rfl Kv Ls) AI ⋯) FI F8.1 ⋯) (E5 rfl (Ac (@AV _ _ 3 _ nd rfl Ku ⋯) (Ac (@AV _ _ 4 _ nd rfl Gq ⋯) Dk ⋯) ⋯) ⋯ ⋯) (@AQ _ _ _ (@Hz _ _ _ _ (@Rk _ _ _ _ _ _ _ _ _ _ _ _ eD PySem.F.slot_list_extend PySem.F.type_list_extend VW (pvL 2 rfl Ek JG) (AB (@IU _ ["x","shade","y","other"] 2 [3,1] _ _ _ _ _ _ _ _ _ _ rfl (@Fo _ ["x","shade","y","other"] 2 [3,1] _ ["one","other","cells","y","row"] (AM BO) rfl rfl ∅) (@Mu _ _ _ _ _ _ _ _ D0 z_enumerate (AB (pvL 4 rfl Gq N7) AI ⋯) FI F8.1 ⋯) (λcl fp s3 H3=>(E5 rfl (Ac (@AV _ _ 0 _ Gf rfl (Av ∅) (Or.inr (A1 ∅))) (Ac (@AV _ _ 1 _ Gf rfl (Av ∅) (Or.inr (A1 ∅))) Dk ⋯) ⋯) ⋯ ⋯)) (λcl fp s3 H3=>(@QN _ _ _ (@Cq _ _ _ _ _ _ _ _ (@G2 _ (GJ hr)) (pv 1 rfl (Ap ∅) K9.1 K9.2) (@As _ _ _ _ _ _ _ Ab (@As _ _ _ _ _ _ _ Ab (pv 3 rfl (B2 ∅) GN.1 GN.2) (pv 2 rfl (B2 ∅) Fb.1 Fb.2) (λ_ _=>rfl)) (pv 0 rfl (Ap ∅) FF.1 FF.2) (λ_ _=>rfl)) (DR _)))) (λcl fp s3 H3=>(B3 (AB (pv 0 rfl (Ap ∅) FF.1 FF.2) (AB (pv 2 rfl (B2 ∅) Fb.1 Fb.2) AI ⋯) ⋯))) ⋯) AI ⋯) ⋯ ⋯ ⋯ ⋯ ⋯) ⋯)) ⋯) (@AQ _ _ _ (@Aw _ _ _ _ (pvL 2 rfl Ek JG))))),C7 (N:=["one","other","cells","y","row"]) (np:=2) (nl:=3) (BB ZK (BB (T4 (M1 AH) (Hf (Au AS (Au AS FC)) (Ad (Ad Du))) (Xd (ba (i:=2) Wl (AF (bc (M1 AH) (Hf (Au AS (Au AS FC)) (Ad (Ad Du))) (CY (Ah OX AH (Ah BI (Ah BI AH AH) AH))) (EF (AF AH (AF AH AN)))) AN)))) (RL (i:=2)))) rfl h⟩
theorem OT(F:Fun K "row_by_row" "row_by_row" Bv f fd)(z_set:mg "set"=none)(z_sorted:mg "sorted"=none):FnOk P w K mg base CX0 1 f fd ["cells"] (spD ⟨K,w,mg⟩ Eo true):=by
 have nd:=sc_row_by_row.nd
 refine F.ok sc_row_by_row (λvs H Q E h=>C8 Aj h) (λcdv A outer s H vs Q E hr h=>?_)
 exact⟨_,(@AJ _ _ _ _ _ (@BD _ _ 1 _ _ _ _ nd rfl Iv (A7 (@Tu _ rfl) Jc z_sorted PyProof.Rows.boot_sorted (AB (@C0 _ _ _ _ _ _ _ _ _ (@V0 _ rfl (GJ hr)) Lj z_set PySem.Pv.boot_set (AB (@IU _ ["x","y"] 2 [] _ _ _ _ _ _ _ _ _ _ rfl (@Fo _ ["x","y"] 2 [] _ ["cells","turned"] (AM Bv) rfl rfl ∅) (@CD _ _ _ _ (pvL 0 rfl NZ JG)) (λcl fp s3 H3=>(E5 rfl (Ac (@AV _ _ 0 _ Iu rfl (Av ∅) (Or.inr (A1 ∅))) (Ac (@AV _ _ 1 _ Iu rfl (Av ∅) (Or.inr (A1 ∅))) Dk ⋯) ⋯) ⋯ ⋯)) (λcl fp s3 H3=>Di) (λcl fp s3 H3=>(B3 (AB (pv 1 rfl (Ap ∅) Fb.1 Fb.2) (AB (pv 0 rfl (Ap ∅) FF.1 FF.2) AI ⋯) ⋯))) ⋯) AI ⋯) YK aF.1 ⋯ ⋯) AI ⋯) TV Vq.1 ⋯ ⋯) ⋯ ⋯) (@AQ _ _ _ (@Aw _ _ _ _ (@IU _ ["y","x"] 2 [] _ _ _ _ _ _ _ _ _ _ rfl (@Fo _ ["y","x"] 2 [] _ ["cells","turned"] (AM Bv) rfl rfl ∅) (@CD _ _ _ _ (pvL 1 rfl Iv Vp)) (λcl fp s3 H3=>(E5 rfl (Ac (@AV _ _ 0 _ Ir rfl (Av ∅) (Or.inr (A1 ∅))) (Ac (@AV _ _ 1 _ Ir rfl (Av ∅) (Or.inr (A1 ∅))) Dk ⋯) ⋯) ⋯ ⋯)) (λcl fp s3 H3=>Di) (λcl fp s3 H3=>(B3 (AB (pv 1 rfl (Ap ∅) FF.1 FF.2) (AB (pv 0 rfl (Ap ∅) Fb.1 Fb.2) AI ⋯) ⋯))) ⋯)))),C7 (N:=["cells","turned"]) (np:=1) (nl:=1) (BB (Ed (cG (SR (CG AH) (Hf (Au AS (Au AS FC)) (Ad (Ad Du))) HM (EF (AF AH (AF AH AN))))) AS) (Cj (SR (CG AH) (Hf (Au AS (Au AS FC)) (Ad (Ad Du))) HM (EF (AF AH (AF AH AN)))) (by decide))) rfl h⟩
theorem TL(F:Fun K "is_next" "is_next" HQ f fd):FnOk P w K mg base CX0 1 f fd ["stretch","cell"] (spD ⟨K,w,mg⟩ C2 false):=by
 have nd:=sc_is_next.nd
 refine F.ok sc_is_next (λvs H Q E h=>C8 Aj h) (λcdv A outer s H vs Q E hr h=>?_)
 exact⟨_,(@AQ _ _ _ (@Aw _ _ _ _ (@UH _ _ _ _ _ _ _ _ (@TC _ (GJ hr)) (pvL 1 rfl Rw FO) (B3 (AB (@Bz _ _ _ _ _ _ _ _ DQ (@As _ _ _ _ _ _ _ G7 (pvL 0 rfl Iy KO) AK (λ_ _=>rfl)) (@As _ _ _ _ _ _ _ G7 (pvL 0 rfl Iy KO) AK (λ_ _=>rfl))) (AB (@As _ _ _ _ _ _ _ G7 (pvL 0 rfl Iy KO) AK (λ_ _=>rfl)) AI ⋯) ⋯)) (DR _)))),C7 (N:=["stretch","cell"]) (np:=2) (nl:=0) (Cj (Ah Zq AH (EF (AF (Ah FT (Ah Jj AH AU) (Ah Jj AH AU)) (AF (Ah Jj AH AU) AN)))) (by decide)) rfl h⟩
theorem MV(F:Fun K "stretches_of" "stretches_of" BK f fd)(c34:Cal P w K mg base 1 "row_by_row" ["cells"] (spD ⟨K,w,mg⟩ Eo true))(c47:Cal P w K mg base 1 "is_next" ["stretch","cell"] (spD ⟨K,w,mg⟩ C2 false))(z_len:mg "len"=none):FnOk P w K mg base CX0 2 f fd ["cells"] (spD ⟨K,w,mg⟩ Ce true):=by
 have nd:=sc_stretches_of.nd
 refine F.ok sc_stretches_of (λvs H Q E h=>C8 Aj h) (λcdv A outer s H vs Q E hr h=>?_)
 exact⟨_,(@AJ _ _ _ _ _ (@BD _ _ 1 _ _ _ _ nd rfl Bj (@EV _ _ _ _ AI) ⋯ ⋯) (@AJ _ _ _ _ _ (@C6 _ _ _ _ _ _ _ _ dA rfl (@CD _ _ _ _ (AO c34 hr GV (AB (pvL 0 rfl LW JG) AI ⋯) Ou.1 ⋯ ⋯)) (@AV _ _ 2 _ nd rfl Dq ⋯) (@AQ _ _ _ (@E2 _ _ _ _ _ _ _ _ (PW.pt (@Ze _ _ _ _ _ _ _ (@Cq _ _ _ _ _ _ _ _ bA (A7 Bh KJ z_len dE (AB (pvL 1 rfl Bj Dx) AI ⋯) CF C9.1 ⋯ ⋯) AK (DR _)) (@X1 _ _ _ _ (Fi (AO c47 hr IG (AB (@As _ _ _ _ _ _ _ Ab (pvL 1 rfl Bj Dx) (@PM _ _ _ _ _ _ LI AK) (λ_ _=>rfl)) (AB (pvL 2 rfl Dq FO) AI ⋯) ⋯) To.1 ⋯ ⋯) ⋯)))) (@AJ _ _ _ _ _ (@BD _ _ 3 _ _ _ _ nd rfl Dm (@As _ _ _ _ _ _ _ Ab (pvL 1 rfl Bj Dx) (@PM _ _ _ _ _ _ LI AK) (λ_ _=>rfl)) ⋯ ⋯) (@AQ _ _ _ (@J7 _ _ _ _ _ _ (B3 (AB (@As _ _ _ _ _ _ _ G7 (pvL 3 rfl Dm RG) AK (λ_ _=>rfl)) (AB (@As _ _ _ _ _ _ _ G7 (pvL 3 rfl Dm RG) AK (λ_ _=>rfl)) (AB (@Bz _ _ _ _ _ _ _ _ DQ (@As _ _ _ _ _ _ _ G7 (pvL 3 rfl Dm RG) AK (λ_ _=>rfl)) AK) AI ⋯) ⋯) ⋯)) (@J9 _ _ _ _ _ _ _ (pvL 1 rfl Bj Dx) (@PM _ _ _ _ _ _ LI AK) Kh ⋯) ⋯ ⋯ ⋯))) (@AQ _ _ _ (@Hz _ _ _ _ (@Rk _ _ _ _ _ _ _ _ _ _ _ _ eD eW eY HZ (pvL 1 rfl Bj Dx) (AB (B3 (AB (@As _ _ _ _ _ _ _ G7 (pvL 2 rfl Dq FO) AK (λ_ _=>rfl)) (AB (@As _ _ _ _ _ _ _ G7 (pvL 2 rfl Dq FO) AK (λ_ _=>rfl)) (AB AK AI ⋯) ⋯) ⋯)) AI ⋯) ⋯ ⋯ ⋯ ⋯ ⋯) ⋯)))) ⋯) (@AQ _ _ _ (@Aw _ _ _ _ (pvL 1 rfl Bj Dx))))),C7 (N:=["cells","stretches","cell","last"]) (np:=1) (nl:=3) (BB ZK (BB (GS (CG (B9 (AF AH AN))) AS (Jh (af (i:=1) (ag (CY (Ah b9 (Co Fq (AF AH AN)) AU)) (IQ (B9 (AF (Ah BI AH (Vn O7 AU)) (AF AH AN)))))) (BB (Ed (XO (i:=1) (Ah BI AH (Vn O7 AU))) AS) (Xc (i:=1) (EF (AF (Ah Jj AH AU) (AF (Ah Jj AH AU) (AF (Ah FT (Ah Jj AH AU) AU) AN)))) (Vn O7 AU))) (Xd (ba (i:=1) Wm (AF (EF (AF (Ah Jj AH AU) (AF (Ah Jj AH AU) (AF AU AN)))) AN))))) (RL (i:=1)))) rfl h⟩
theorem Rl(F:Fun K "frame_of" "frame_of" A3 f fd)(c29:Cal P w K mg base 2 "stretches_of" ["cells"] (spD ⟨K,w,mg⟩ Ce true))(z_range:mg "range"=none):FnOk P w K mg base CX0 3 f fd ["olds","news"] (spG ⟨K,w,mg⟩ CZ):=by
 have nd:=sc_frame_of.nd
 refine F.ok sc_frame_of (λvs H Q E h=>Fz Aj h) (λcdv A outer s H vs Q E hr h=>?_)
 exact⟨_,(@AJ _ _ _ _ _ (@Kn _ ["cell","olds","news"] 1 [0,1] _ _ _ _ _ _ _ _ _ _ 2 _ _ _ nd rfl Qq rfl (@Fo _ ["cell","olds","news"] 1 [0,1] _ ["olds","news","cells","frame","x","y","many","old","new"] (AM A3) rfl rfl ∅) (X2 (pvL 0 rfl Qh Ct)) (λcl fp s3 H3=>(@AV _ _ 0 _ QY rfl (Av ∅) (Or.inr (A1 ∅)))) (λcl fp s3 H3=>(@QN _ _ _ (@Cq _ _ _ _ _ _ _ _ (@G2 _ (GJ hr)) (@As _ _ _ _ _ _ _ (@M0 _ (GJ hr)) (pv 1 rfl (B2 ∅) Ct.1 Ct.2) (pv 0 rfl (Ap ∅) FO.1 FO.2) (λ_ _=>rfl)) (@As _ _ _ _ _ _ _ (@M0 _ (GJ hr)) (pv 2 rfl (B2 ∅) EU.1 EU.2) (pv 0 rfl (Ap ∅) FO.1 FO.2) (λ_ _=>rfl)) (DR _)))) (λcl fp s3 H3=>(pv 0 rfl (Ap ∅) FO.1 FO.2)) ⋯ ⋯) (@AJ _ _ _ _ _ (@BD _ _ 3 _ _ _ _ nd rfl IC (@EV _ _ _ _ AI) ⋯ ⋯) (@AJ _ _ _ _ _ (@C6 _ _ _ _ _ _ _ _ dA rfl (@CD _ _ _ _ (AO c29 hr Hg (AB (pvL 2 rfl Qg JG) AI ⋯) Mi.1 ⋯ ⋯)) (E5 rfl (Ac (@AV _ _ 4 _ nd rfl Kt ⋯) (Ac (@AV _ _ 5 _ nd rfl Ks ⋯) (Ac (@AV _ _ 6 _ nd rfl IB ⋯) Dk ⋯) ⋯) ⋯) ⋯ ⋯) (@AJ _ _ _ _ _ (@Kn _ ["step","olds","y","x"] 1 [0,5,4] _ _ _ _ _ _ _ _ _ _ 7 _ _ _ nd rfl Qp rfl (@Fo _ ["step","olds","y","x"] 1 [0,5,4] _ ["olds","news","cells","frame","x","y","many","old","new"] (AM A3) rfl rfl ∅) (@Dj _ _ _ _ _ _ Hi z_range (AB (pvL 6 rfl IB RE) AI ⋯) ⋯) (λcl fp s3 H3=>(@AV _ _ 0 _ QX rfl (Av ∅) (Or.inr (A1 ∅)))) (λcl fp s3 H3=>Di) (λcl fp s3 H3=>(@As _ _ _ _ _ _ _ (@M0 _ (GJ hr)) (pv 1 rfl (B2 ∅) Ct.1 Ct.2) (B3 (AB (@Bz _ _ _ _ _ _ _ _ DQ (pv 3 rfl (B2 ∅) FF.1 FF.2) (pv 0 rfl (Ap ∅) JW.1 JW.2)) (AB (pv 2 rfl (B2 ∅) Fb.1 Fb.2) AI ⋯) ⋯)) (λ_ _=>rfl))) ⋯ ⋯) (@AJ _ _ _ _ _ (@Kn _ ["step","news","y","x"] 1 [1,5,4] _ _ _ _ _ _ _ _ _ _ 8 _ _ _ nd rfl Qo rfl (@Fo _ ["step","news","y","x"] 1 [1,5,4] _ ["olds","news","cells","frame","x","y","many","old","new"] (AM A3) rfl rfl ∅) (@Dj _ _ _ _ _ _ Hi z_range (AB (pvL 6 rfl IB RE) AI ⋯) ⋯) (λcl fp s3 H3=>(@AV _ _ 0 _ QW rfl (Av ∅) (Or.inr (A1 ∅)))) (λcl fp s3 H3=>Di) (λcl fp s3 H3=>(@As _ _ _ _ _ _ _ (@M0 _ (GJ hr)) (pv 1 rfl (B2 ∅) EU.1 EU.2) (B3 (AB (@Bz _ _ _ _ _ _ _ _ DQ (pv 3 rfl (B2 ∅) FF.1 FF.2) (pv 0 rfl (Ap ∅) JW.1 JW.2)) (AB (pv 2 rfl (B2 ∅) Fb.1 Fb.2) AI ⋯) ⋯)) (λ_ _=>rfl))) ⋯ ⋯) (@AQ _ _ _ (@Hz _ _ _ _ (@Rk _ _ _ _ _ _ _ _ _ _ _ _ eD eW eY HZ (pvL 3 rfl IC EJ) (AB (B3 (AB (pvL 4 rfl Kt FF) (AB (pvL 5 rfl Ks Fb) (AB (pvL 7 rfl Qf aG) (AB (pvL 8 rfl Qe aH) AI ⋯) ⋯) ⋯) ⋯)) AI ⋯) ⋯ ⋯ ⋯ ⋯ ⋯) ⋯)))) ⋯) (@AQ _ _ _ (@Aw _ _ _ _ (pvL 3 rfl IC EJ)))))),K3 (N:=["olds","news","cells","frame","x","y","many","old","new"]) (np:=2) (nl:=7) (DD (bj (SR (YS AH) AS (CY (Ah OX (Ah UL AH AH) (Ah UL AH AH))) AH)) (DD (IP (Lr KY)) (DD (GS (CG (B9 (AF AH AN))) (Hf (Au AS (Au AS (Au AS FC))) (Ad (Ad (Ad Du)))) (BB (T3 (MN (SR (Dv (AF AH AN)) AS HM (Ah UL AH (EF (AF (Ah FT AH AH) (AF AH AN))))))) (BB (T3 (MN (SR (Dv (AF AH AN)) AS HM (Ah UL AH (EF (AF (Ah FT AH AH) (AF AH AN))))))) (Yk (i:=3) (j1:=7) (j2:=8) AH AH)))) (NB (i:=3))))) rfl h⟩
theorem LP(F:Fun K "frame_between" "frame_between" A6 f fd)(c19:Cal P w K mg base 3 "changed_cells" ["one","other"] (spD ⟨K,w,mg⟩ CL true))(c14:Cal P w K mg base 3 "frame_of" ["olds","news"] (spG ⟨K,w,mg⟩ CZ)):FnOk P w K mg base CX0 4 f fd ["one","other"] (spG ⟨K,w,mg⟩ Bq):=by
 have nd:=sc_frame_between.nd
 refine F.ok sc_frame_between (λvs H Q E h=>Fz Aj h) (λcdv A outer s H vs Q E hr h=>?_)
 exact⟨_,(@AJ _ _ _ _ _ (@BD _ _ 2 _ _ _ _ nd rfl Ej QQ ⋯ ⋯) (@AJ _ _ _ _ _ (@BD _ _ 3 _ _ _ _ nd rfl Ei QQ ⋯ ⋯) (@AJ _ _ _ _ _ (@C6 _ _ _ _ _ _ _ _ dA rfl (@CD _ _ _ _ (AO c19 hr FW (AB (pvL 0 rfl Gn Ls) (AB (pvL 1 rfl Gm GN) AI ⋯) ⋯) Lx.1 ⋯ ⋯)) (E5 rfl (Ac (@AV _ _ 4 _ nd rfl CP ⋯) (Ac (@AV _ _ 5 _ nd rfl CO ⋯) Dk ⋯) ⋯) ⋯ ⋯) (@AJ _ _ _ _ _ (@J7 _ _ _ _ _ _ (@As _ _ _ _ _ _ _ Ab (@As _ _ _ _ _ _ _ Ab (pvL 0 rfl Gn Ls) (pvL 5 rfl CO Fb) (λ_ _=>rfl)) (pvL 4 rfl CP FF) (λ_ _=>rfl)) (@J9 _ _ _ _ _ _ _ (pvL 2 rfl Ej Ct) (B3 (AB (pvL 4 rfl CP FF) (AB (pvL 5 rfl CO Fb) AI ⋯) ⋯)) (@NN _ (GJ hr)) ⋯) ⋯ ⋯ ⋯) (@AQ _ _ _ (@J7 _ _ _ _ _ _ (@As _ _ _ _ _ _ _ Ab (@As _ _ _ _ _ _ _ Ab (pvL 1 rfl Gm GN) (pvL 5 rfl CO Fb) (λ_ _=>rfl)) (pvL 4 rfl CP FF) (λ_ _=>rfl)) (@J9 _ _ _ _ _ _ _ (pvL 3 rfl Ei EU) (B3 (AB (pvL 4 rfl CP FF) (AB (pvL 5 rfl CO Fb) AI ⋯) ⋯)) (@NN _ (GJ hr)) ⋯) ⋯ ⋯ ⋯))) ⋯) (@AQ _ _ _ (@Aw _ _ _ _ (AO c14 hr HC (AB (pvL 2 rfl Ej Ct) (AB (pvL 3 rfl Ei EU) AI ⋯) ⋯) MO.1 ⋯ ⋯)))))),K3 (N:=["one","other","olds","news","x","y"]) (np:=2) (nl:=4) (DD Tz (DD Tz (DD (GS (CG (B9 (AF AH (AF AH AN)))) (Hf (Au AS (Au AS FC)) (Ad (Ad Du))) (BB (Tx (i:=2) (Ah BI (Ah BI AH AH) AH) (EF (AF AH (AF AH AN)))) (Tx (i:=3) (Ah BI (Ah BI AH AH) AH) (EF (AF AH (AF AH AN)))))) (U0 (i:=3) (U0 (i:=2) (OJ (Bu (AF AH (AF AH AN))))))))) rfl h⟩
theorem Rm(F:Fun K "add" "Film.add" DN f fd){C:Addr}(hk_C:mg "Film"=some (.ref C))(kl_C:Cls K C)(na_last:NoAttr K C "last")(na_kept_frames:NoAttr K C "kept_frames")(c33:Cal P w K mg base 4 "size_of" ["picture"] (spD ⟨K,w,mg⟩ C1 true))(c20:Cal P w K mg base 4 "frame_between" ["one","other"] (spG ⟨K,w,mg⟩ Bq))(c00:Cal P w K mg base 4 "picture_copied" ["picture"] (spG ⟨K,w,mg⟩ Aq)):FnOk P w K mg base CX0 5 f fd ["self","picture"] (spS ⟨K,w,mg⟩ Ca):=by
 have nd:=sc_Film_add.nd
 refine F.ok sc_Film_add (λvs H Q E h=>Q8 Lz h) (λcdv A outer s H vs Q E hr h=>?_)
 exact⟨_,(@AJ _ _ _ _ _ (@E2 _ _ _ _ _ _ _ _ (@Cq _ _ _ _ _ _ _ _ (@G2 _ (GJ hr)) (AO c33 hr GL (AB (pvL 1 rfl ID Bk) AI ⋯) N6.1 ⋯ ⋯) (AO c33 hr GL (AB (KA (pvL 0 rfl Fu ET) (by rfl)) AI ⋯) N6.1 ⋯ ⋯) (DR _)) (@AQ _ _ _ NS) CN) (@AJ _ _ _ _ _ (@Hz _ _ _ _ (@Rk _ _ _ _ _ _ _ _ _ _ _ _ eD eW eY HZ (KA (pvL 0 rfl Fu ET) (by rfl)) (AB (AO c20 hr HG (AB (KA (pvL 0 rfl Fu ET) (by rfl)) (AB (pvL 1 rfl ID Bk) AI ⋯) ⋯) Lw.1 ⋯ ⋯) AI ⋯) ⋯ ⋯ ⋯ ⋯ ⋯) ⋯) (@AQ _ _ _ (QO (pvL 0 rfl Fu ET) (AO c00 hr GY (AB (pvL 1 rfl ID Bk) AI ⋯) CV.1 ⋯ ⋯) (by rfl))))),Ui (N:=["self","picture"]) (np:=2) (nl:=0) (QH (ZZ (CY (Ah OX (B9 (AF AH AN)) (B9 (AF (Pr hk_C kl_C na_last AH) AN))))) (QH (Za hk_C kl_C na_kept_frames (EG.h (Bu (AF (Pr hk_C kl_C na_last AH) (AF AH AN))))) (QG hk_C kl_C na_last (EG.h (Bu (AF AH AN)))))) rfl h⟩
theorem MX(F:Fun K "frame_copied" "frame_copied" DM f fd)(z_list:mg "list"=none):FnOk P w K mg base CX0 1 f fd ["frame"] (spG ⟨K,w,mg⟩ Cf):=by
 have nd:=sc_frame_copied.nd
 refine F.ok sc_frame_copied (λvs H Q E h=>Fz Aj h) (λcdv A outer s H vs Q E hr h=>?_)
 exact⟨_,(@AQ _ _ _ (@Aw _ _ _ _ (@IU _ ["x","y","olds","news"] 4 [] _ _ _ _ _ _ _ _ _ _ rfl (@Fo _ ["x","y","olds","news"] 4 [] _ ["frame"] (AM DM) rfl rfl ∅) (@CD _ _ _ _ (pvL 0 rfl LX EJ)) (λcl fp s3 H3=>(E5 rfl (Ac (@AV _ _ 0 _ Dl rfl (Av ∅) (Or.inr (A1 ∅))) (Ac (@AV _ _ 1 _ Dl rfl (Av ∅) (Or.inr (A1 ∅))) (Ac (@AV _ _ 2 _ Dl rfl (Av ∅) (Or.inr (A1 ∅))) (Ac (@AV _ _ 3 _ Dl rfl (Av ∅) (Or.inr (A1 ∅))) Dk ⋯) ⋯) ⋯) ⋯) ⋯ ⋯)) (λcl fp s3 H3=>Di) (λcl fp s3 H3=>(B3 (AB (pv 0 rfl (Ap ∅) FF.1 FF.2) (AB (pv 1 rfl (Ap ∅) Fb.1 Fb.2) (AB (@C0 _ _ _ _ _ _ _ _ _ Cw (EN ∅) z_list df (AB (pv 2 rfl (Ap ∅) Ct.1 Ct.2) AI ⋯) Eh F7.1 ⋯ ⋯) (AB (@C0 _ _ _ _ _ _ _ _ _ Cw (EN ∅) z_list df (AB (pv 3 rfl (Ap ∅) EU.1 EU.2) AI ⋯) Eh F7.1 ⋯ ⋯) AI ⋯) ⋯) ⋯) ⋯))) ⋯))),M8 (N:=["frame"]) (np:=1) (nl:=0) (XI (CG AH) (Hf (Au AS (Au AS (Au AS (Au AS FC)))) (Ad (Ad (Ad (Ad Du))))) HM (aD (Ht (ZJ AH) (Ht (ZJ AH) (Ht (EG.h (MN (Co KR (AF AH AN)))) (Ht (EG.h (MN (Co KR (AF AH AN)))) KY)))))) rfl h⟩
theorem NY(F:Fun K "frames" "Film.frames" ED f fd){C:Addr}(hk_C:mg "Film"=some (.ref C))(kl_C:Cls K C)(na_kept_frames:NoAttr K C "kept_frames")(c30:Cal P w K mg base 1 "frame_copied" ["frame"] (spG ⟨K,w,mg⟩ Cf)):FnOk P w K mg base CX0 2 f fd ["self"] (spG ⟨K,w,mg⟩ C3):=by
 have nd:=sc_Film_frames.nd
 refine F.ok sc_Film_frames (λvs H Q E h=>Fz Aj h) (λcdv A outer s H vs Q E hr h=>?_)
 exact⟨_,(@AQ _ _ _ (@Aw _ _ _ _ (@IU _ ["frame"] 1 [] _ _ _ _ _ _ _ _ _ _ rfl (@Fo _ ["frame"] 1 [] _ ["self"] (AM ED) rfl rfl ∅) (@CD _ _ _ _ (KA (pvL 0 rfl Mb ET) (by rfl))) (λcl fp s3 H3=>(@AV _ _ 0 _ MZ rfl (Av ∅) (Or.inr (A1 ∅)))) (λcl fp s3 H3=>Di) (λcl fp s3 H3=>(AO c30 hr (EN ∅) (AB (pv 0 rfl (Ap ∅) EJ.1 EJ.2) AI ⋯) Mj.1 ⋯ ⋯)) ⋯))),M8 (N:=["self"]) (np:=1) (nl:=0) (Uo (CG (Pr hk_C kl_C na_kept_frames AH)) AS HM (Bu (AF AH AN))) rfl h⟩
theorem OV(F:Fun K "first_over" "first_over" Cp f fd)(z_dict:mg "dict"=none):FnOk P w K mg base CX0 1 f fd ["one","other"] (spD ⟨K,w,mg⟩ CS true):=by
 have nd:=sc_first_over.nd
 refine F.ok sc_first_over (λvs H Q E h=>C8 Aj h) (λcdv A outer s H vs Q E hr h=>?_)
 exact⟨_,(@AJ _ _ _ _ _ (@BD _ _ 2 _ _ _ _ nd rfl GG (@C0 _ _ _ _ _ _ _ _ _ (Tv (GJ hr)) Kz z_dict PySem.Pv.boot_dict (AB (pvL 1 rfl Nb GN) AI ⋯) Wg Yd.1 ⋯ ⋯) ⋯ ⋯) (@AJ _ _ _ _ _ (@Hz _ _ _ _ (X3 (GJ hr) (pvL 2 rfl GG Ut) (pvL 0 rfl Nc Ls)) ⋯) (@AQ _ _ _ (@Aw _ _ _ _ (pvL 2 rfl GG Ut))))),C7 (N:=["one","other","both"]) (np:=2) (nl:=1) (BB (Tw (Co Yg (AF AH AN))) (BB (aP (i:=2) AH) (RL (i:=2)))) rfl h⟩
theorem TJ(F:Fun K "olds_of" "olds_of" CH f fd)(z_enumerate:mg "enumerate"=none):FnOk P w K mg base CX0 1 f fd ["frame"] (spD ⟨K,w,mg⟩ CJ true):=by
 have nd:=sc_olds_of.nd
 refine F.ok sc_olds_of (λvs H Q E h=>C8 Aj h) (λcdv A outer s H vs Q E hr h=>?_)
 exact⟨_,(@AJ _ _ _ _ _ (@BD _ _ 1 _ _ _ _ nd rfl Iw QQ ⋯ ⋯) (@AJ _ _ _ _ _ (@C6 _ _ _ _ _ _ _ _ dA rfl (@CD _ _ _ _ (pvL 0 rfl Rv EJ)) (E5 rfl (Ac (@AV _ _ 2 _ nd rfl MB ⋯) (Ac (@AV _ _ 3 _ nd rfl MA ⋯) (Ac (@AV _ _ 4 _ nd rfl L9 ⋯) (Ac (@AV _ _ 5 _ nd rfl Ru ⋯) Dk ⋯) ⋯) ⋯) ⋯) ⋯ ⋯) (@AQ _ _ _ (@C6 _ _ _ _ _ _ _ _ dA rfl (@Mu _ _ _ _ _ _ _ _ Jd z_enumerate (AB (pvL 4 rfl L9 Ct) AI ⋯) FI F8.1 ⋯) (E5 rfl (Ac (@AV _ _ 6 _ nd rfl L8 ⋯) (Ac (@AV _ _ 7 _ nd rfl L7 ⋯) Dk ⋯) ⋯) ⋯ ⋯) (@AQ _ _ _ (@J7 _ _ _ _ _ _ (pvL 7 rfl L7 K9) (@J9 _ _ _ _ _ _ _ (pvL 1 rfl Iw Pu) (B3 (AB (@Bz _ _ _ _ _ _ _ _ DQ (pvL 2 rfl MB FF) (pvL 6 rfl L8 JW)) (AB (pvL 3 rfl MA Fb) AI ⋯) ⋯)) (@NN _ (GJ hr)) ⋯) ⋯ ⋯ ⋯)) ⋯)) ⋯) (@AQ _ _ _ (@Aw _ _ _ _ (pvL 1 rfl Iw Pu))))),C7 (N:=["frame","shades","x","y","olds","news","step","shade"]) (np:=1) (nl:=7) (BB Tz (BB (GS (CG AH) (Hf (Au AS (Au AS (Au AS (Au AS FC)))) (Ad (Ad (Ad (Ad Du))))) (T4 (M1 AH) (Hf (Au AS (Au AS FC)) (Ad (Ad Du))) (Tx (i:=1) AH (EF (AF (Ah FT AH AH) (AF AH AN)))))) (RL (i:=1)))) rfl h⟩
theorem OU(F:Fun K "frame_back" "frame_back" Ee f fd)(z_list:mg "list"=none):FnOk P w K mg base CX0 1 f fd ["frame"] (spD ⟨K,w,mg⟩ CQ true):=by
 have nd:=sc_frame_back.nd
 refine F.ok sc_frame_back (λvs H Q E h=>C8 Aj h) (λcdv A outer s H vs Q E hr h=>?_)
 exact⟨_,(@AQ _ _ _ (@Aw _ _ _ _ (@IU _ ["x","y","olds","news"] 4 [] _ _ _ _ _ _ _ _ _ _ rfl (@Fo _ ["x","y","olds","news"] 4 [] _ ["frame"] (AM Ee) rfl rfl ∅) (@CD _ _ _ _ (pvL 0 rfl Na EJ)) (λcl fp s3 H3=>(E5 rfl (Ac (@AV _ _ 0 _ Eg rfl (Av ∅) (Or.inr (A1 ∅))) (Ac (@AV _ _ 1 _ Eg rfl (Av ∅) (Or.inr (A1 ∅))) (Ac (@AV _ _ 2 _ Eg rfl (Av ∅) (Or.inr (A1 ∅))) (Ac (@AV _ _ 3 _ Eg rfl (Av ∅) (Or.inr (A1 ∅))) Dk ⋯) ⋯) ⋯) ⋯) ⋯ ⋯)) (λcl fp s3 H3=>Di) (λcl fp s3 H3=>(B3 (AB (pv 0 rfl (Ap ∅) FF.1 FF.2) (AB (pv 1 rfl (Ap ∅) Fb.1 Fb.2) (AB (@C0 _ _ _ _ _ _ _ _ _ Cw (EN ∅) z_list df (AB (pv 3 rfl (Ap ∅) EU.1 EU.2) AI ⋯) Eh F7.1 ⋯ ⋯) (AB (@C0 _ _ _ _ _ _ _ _ _ Cw (EN ∅) z_list df (AB (pv 2 rfl (Ap ∅) Ct.1 Ct.2) AI ⋯) Eh F7.1 ⋯ ⋯) AI ⋯) ⋯) ⋯) ⋯))) ⋯))),C7 (N:=["frame"]) (np:=1) (nl:=0) (Cj (SR (CG AH) (Hf (Au AS (Au AS (Au AS (Au AS FC)))) (Ad (Ad (Ad (Ad Du))))) HM (EF (AF AH (AF AH (AF (Co KR (AF AH AN)) (AF (Co KR (AF AH AN)) AN)))))) (by decide)) rfl h⟩
theorem LO(F:Fun K "frames_joined" "frames_joined" A5 f fd)(c15:Cal P w K mg base 3 "first_over" ["one","other"] (spD ⟨K,w,mg⟩ CS true))(c09:Cal P w K mg base 3 "olds_of" ["frame"] (spD ⟨K,w,mg⟩ CJ true))(c16:Cal P w K mg base 3 "frame_back" ["frame"] (spD ⟨K,w,mg⟩ CQ true))(c14:Cal P w K mg base 3 "frame_of" ["olds","news"] (spG ⟨K,w,mg⟩ CZ)):FnOk P w K mg base CX0 4 f fd ["one","other"] (spG ⟨K,w,mg⟩ CK):=by
 have nd:=sc_frames_joined.nd
 refine F.ok sc_frames_joined (λvs H Q E h=>Fz Aj h) (λcdv A outer s H vs Q E hr h=>?_)
 exact⟨_,(@AJ _ _ _ _ _ (@BD _ _ 2 _ _ _ _ nd rfl Gi (AO c15 hr DY (AB (AO c09 hr Bo (AB (pvL 0 rfl Gk Ls) AI ⋯) IL.1 ⋯ ⋯) (AB (AO c09 hr Bo (AB (pvL 1 rfl Gj GN) AI ⋯) IL.1 ⋯ ⋯) AI ⋯) ⋯) Jx.1 ⋯ ⋯) ⋯ ⋯) (@AJ _ _ _ _ _ (@BD _ _ 3 _ _ _ _ nd rfl Gh (AO c15 hr DY (AB (AO c09 hr Bo (AB (AO c16 hr DW (AB (pvL 1 rfl Gj GN) AI ⋯) Jw.1 ⋯ ⋯) AI ⋯) IL.1 ⋯ ⋯) (AB (AO c09 hr Bo (AB (AO c16 hr DW (AB (pvL 0 rfl Gk Ls) AI ⋯) Jw.1 ⋯ ⋯) AI ⋯) IL.1 ⋯ ⋯) AI ⋯) ⋯) Jx.1 ⋯ ⋯) ⋯ ⋯) (@AQ _ _ _ (@Aw _ _ _ _ (AO c14 hr G9 (AB (pvL 2 rfl Gi Ct) (AB (pvL 3 rfl Gh EU) AI ⋯) ⋯) MO.1 ⋯ ⋯))))),K3 (N:=["one","other","olds","news"]) (np:=2) (nl:=2) (DD (Ed (B9 (AF (B9 (AF AH AN)) (AF (B9 (AF AH AN)) AN))) AS) (DD (Ed (B9 (AF (B9 (AF (B9 (AF AH AN)) AN)) (AF (B9 (AF (B9 (AF AH AN)) AN)) AN))) AS) (OJ (Bu (AF AH (AF AH AN)))))) rfl h⟩
theorem LR(F:Fun K "_law_is_fraction" "_law_is_fraction" BE f fd)(z_len:mg "len"=none)(z_tuple:mg "tuple"=none)(z_isinstance:mg "isinstance"=none)(z_bool:mg "bool"=none)(z_int:mg "int"=none):FnOk P w K mg base CX0 1 f fd ["_law_thing"] (spD ⟨K,w,mg⟩ Br false):=by
 have nd:=sc_L_is_fraction.nd
 refine F.ok sc_L_is_fraction (λvs H Q E h=>C8 Aj h) (λcdv A outer s H vs Q E hr h=>?_)
 exact⟨_,(@AJ _ _ _ _ _ (@E2 _ _ _ _ _ _ _ _ (PW.pt (NQ (Fj (Fi (A7 Hs B7 z_isinstance dn (AB (pvL 0 rfl Em HJ) (AB (Ri Ii z_tuple PySem.Pv.boot_tuple VV XS.1) AI ⋯) ⋯) DU EI.1 ⋯ ⋯) ⋯)) (@J6 _ _ _ _ (@Cq _ _ _ _ _ _ _ _ (@G2 _ (GJ hr)) (A7 Bh Je z_len dE (AB (pvL 0 rfl Em HJ) AI ⋯) CF C9.1 ⋯ ⋯) AK (DR _))))) (@AQ _ _ _ (@Aw _ _ _ _ Gb)) CN) (@AJ _ _ _ _ _ (@C6 _ _ _ _ _ _ _ _ dA rfl (@Zh _ _ _ _ (pvL 0 rfl Em HJ)) (@AV _ _ 1 _ nd rfl El ⋯) (@AQ _ _ _ (@E2 _ _ _ _ _ _ _ _ (PW.pt (NQ (Fj (Fi (A7 Hs B7 z_isinstance dn (AB (pvL 1 rfl El JI) (AB (Ri Jf z_int PySem.Pv.boot_int UM XT.1) AI ⋯) ⋯) DU EI.1 ⋯ ⋯) ⋯)) (@J6 _ _ _ _ (Fi (A7 Hs B7 z_isinstance dn (AB (pvL 1 rfl El JI) (AB (Ri JE z_bool PySem.Pv.boot_bool Wh Ye.1) AI ⋯) ⋯) DU EI.1 ⋯ ⋯) ⋯)))) (@AQ _ _ _ (@Aw _ _ _ _ Gb)) CN)) ⋯) (@AQ _ _ _ (@Aw _ _ _ _ Gb)))),C7 (N:=["_law_thing","_law_one"]) (np:=1) (nl:=1) (BB (Jh (Sv (IS (IQ (SS (T:="tuple") AH))) (CY (Ah OX (Co Fq (AF AH AN)) AU))) (Cj K8 (by decide)) GQ) (BB (GS (Z3 AH) AS (Jh (Sv (IS (IQ (SS (T:="int") AH))) (IQ (SS (T:="bool") AH))) (Cj K8 (by decide)) GQ)) (Cj K8 (by decide)))) rfl h⟩
theorem Kq(F:Fun K "_law_same_picture" "_law_same_picture" A0 f fd)(c21:Cal P w K mg base 1 "_law_is_fraction" ["_law_thing"] (spD ⟨K,w,mg⟩ Br false))(z_len:mg "len"=none)(z_list:mg "list"=none)(z_isinstance:mg "isinstance"=none)(z_range:mg "range"=none):FnOk P w K mg base CX0 2 f fd ["_law_found","_law_due"] (spD ⟨K,w,mg⟩ Ag false):=by
 have nd:=sc_L_same_picture.nd
 refine F.ok sc_L_same_picture (λvs H Q E h=>C8 Aj h) (λcdv A outer s H vs Q E hr h=>?_)
 exact⟨_,(@AJ _ _ _ _ _ (@E2 _ _ _ _ _ _ _ _ (PW.pt (NQ (Fj (Fi (A7 Hs DH z_isinstance dn (AB (pvL 0 rfl B5 EK) (AB (Ri E4 z_list df Eh F7.1) AI ⋯) ⋯) DU EI.1 ⋯ ⋯) ⋯)) (@J6 _ _ _ _ (@Cq _ _ _ _ _ _ _ _ (@G2 _ (GJ hr)) (A7 Bh DZ z_len dE (AB (pvL 0 rfl B5 EK) AI ⋯) CF C9.1 ⋯ ⋯) (A7 Bh DZ z_len dE (AB (pvL 1 rfl EW JJ) AI ⋯) CF C9.1 ⋯ ⋯) (DR _))))) (@AQ _ _ _ (@Aw _ _ _ _ Gb)) CN) (@AJ _ _ _ _ _ (@C6 _ _ _ _ _ _ _ _ dA rfl (@Dj _ _ _ _ _ _ IH z_range (AB (A7 Bh DZ z_len dE (AB (pvL 1 rfl EW JJ) AI ⋯) CF C9.1 ⋯ ⋯) AI ⋯) ⋯) (@AV _ _ 2 _ nd rfl B4 ⋯) (@AJ _ _ _ _ _ (@E2 _ _ _ _ _ _ _ _ (PW.pt (NQ (Fj (Fi (A7 Hs DH z_isinstance dn (AB (@As _ _ _ _ _ _ _ Ab (pvL 0 rfl B5 EK) (pvL 2 rfl B4 JX) (λ_ _=>rfl)) (AB (Ri E4 z_list df Eh F7.1) AI ⋯) ⋯) DU EI.1 ⋯ ⋯) ⋯)) (@J6 _ _ _ _ (@Cq _ _ _ _ _ _ _ _ (@G2 _ (GJ hr)) (@As _ _ _ _ _ _ _ Ab (pvL 0 rfl B5 EK) (pvL 2 rfl B4 JX) (λ_ _=>rfl)) (@As _ _ _ _ _ _ _ Ab (pvL 1 rfl EW JJ) (pvL 2 rfl B4 JX) (λ_ _=>rfl)) (DR _))))) (@AQ _ _ _ (@Aw _ _ _ _ Gb)) CN) (@AQ _ _ _ (@E2 _ _ _ _ _ _ _ _ (@Cq _ _ _ _ _ _ _ _ (@G2 _ (GJ hr)) (@IU _ ["_law_shade"] 1 [] _ _ _ _ _ _ _ _ _ _ rfl (@Fo _ ["_law_shade"] 1 [] _ ["_law_found","_law_due","_law_y"] (AM A0) rfl rfl ∅) (@CD _ _ _ _ (@As _ _ _ _ _ _ _ Ab (pvL 0 rfl B5 EK) (pvL 2 rfl B4 JX) (λ_ _=>rfl))) (λcl fp s3 H3=>(@AV _ _ 0 _ KG rfl (Av ∅) (Or.inr (A1 ∅)))) (λcl fp s3 H3=>(@QN _ _ _ (Fj (Fi (AO c21 hr (EN ∅) (AB (pv 0 rfl (Ap ∅) FP.1 FP.2) AI ⋯) Jg.1 ⋯ ⋯) ⋯)))) (λcl fp s3 H3=>(pv 0 rfl (Ap ∅) FP.1 FP.2)) ⋯) (@EV _ _ _ _ AI) (DR _)) (@AQ _ _ _ (@Aw _ _ _ _ Gb)) CN))) ⋯) (@AQ _ _ _ (@Aw _ _ _ _ Gb)))),C7 (N:=["_law_found","_law_due","_law_y"]) (np:=2) (nl:=1) (BB (Jh (Sv (IS (IQ (SS (T:="list") AH))) (CY (Ah OX (Co Fq (AF AH AN)) (Co Fq (AF AH AN))))) (Cj K8 (by decide)) GQ) (BB (GS (Dv (AF (Co Fq (AF AH AN)) AN)) AS (BB (Jh (Sv (IS (IQ (SS (T:="list") (Ah BI AH AH)))) (CY (Ah OX (Ah BI AH AH) (Ah BI AH AH)))) (Cj K8 (by decide)) GQ) (Jh (CY (Ah OX (SR (CG (Ah BI AH AH)) AS (IS (IQ (B9 (AF AH AN)))) AH) (N4 AN))) (Cj K8 (by decide)) GQ))) (Cj K8 (by decide)))) rfl h⟩
theorem VS(F:Fun K "_law_copy" "_law_copy" Im f fd)(z_list:mg "list"=none):FnOk P w K mg base CX0 1 f fd ["_law_picture"] (spG ⟨K,w,mg⟩ CT):=by
 have nd:=sc_L_copy.nd
 refine F.ok sc_L_copy (λvs H Q E h=>Fz Aj h) (λcdv A outer s H vs Q E hr h=>?_)
 exact⟨_,(@AQ _ _ _ (@Aw _ _ _ _ (@IU _ ["_law_line"] 1 [] _ _ _ _ _ _ _ _ _ _ rfl (@Fo _ ["_law_line"] 1 [] _ ["_law_picture"] (AM Im) rfl rfl ∅) (@CD _ _ _ _ (pvL 0 rfl TX BP)) (λcl fp s3 H3=>(@AV _ _ 0 _ TU rfl (Av ∅) (Or.inr (A1 ∅)))) (λcl fp s3 H3=>Di) (λcl fp s3 H3=>(@C0 _ _ _ _ _ _ _ _ _ Cw (EN ∅) z_list df (AB (pv 0 rfl (Ap ∅) F9.1 F9.2) AI ⋯) Eh F7.1 ⋯ ⋯)) ⋯))),M8 (N:=["_law_picture"]) (np:=1) (nl:=0) (Uo (CG AH) AS HM (MN (Co KR (AF AH AN)))) rfl h⟩
theorem Kr(F:Fun K "_law_joined_right" "_law_joined_right" Ai f fd){C:Addr}(hk_C:mg "Film"=some (.ref C))(kl_C:Cls K C)(M_Film_frames:MCal P w K mg base 4 C "frames" ["self"] (spG ⟨K,w,mg⟩ C3))(M_Film_at:MCal P w K mg base 4 C "at" ["self","number"] (spG ⟨K,w,mg⟩ BJ))(c22:Cal P w K mg base 4 "frames_joined" ["one","other"] (spG ⟨K,w,mg⟩ CK))(c02:Cal P w K mg base 4 "_law_same_picture" ["_law_found","_law_due"] (spD ⟨K,w,mg⟩ Ag false))(c05:Cal P w K mg base 4 "frame_played" ["frame","picture"] (spG ⟨K,w,mg⟩ BX))(c06:Cal P w K mg base 4 "_law_copy" ["_law_picture"] (spG ⟨K,w,mg⟩ CT))(z_len:mg "len"=none)(z_range:mg "range"=none):FnOk P w K mg base CX0 5 f fd ["_law_film","_law_pictures"] (spD ⟨K,w,mg⟩ BU false):=by
 have nd:=sc_L_joined_right.nd
 refine F.ok sc_L_joined_right (λvs H Q E h=>C8 Aj h) (λcdv A outer s H vs Q E hr h=>?_)
 exact⟨_,(@AJ _ _ _ _ _ (@BD _ _ 2 _ _ _ _ nd rfl Cr (@EV _ _ _ _ AI) ⋯ ⋯) (@AJ _ _ _ _ _ (@C6 _ _ _ _ _ _ _ _ dA rfl (@CD _ _ _ _ (LM (pvL 0 rfl GI LB) kl_C M_Film_frames hr)) (@AV _ _ 3 _ nd rfl GH ⋯) (@AQ _ _ _ (@BD _ _ 2 _ _ _ _ nd rfl Cr (AO c22 hr FE (AB (pvL 2 rfl Cr Jy) (AB (pvL 3 rfl GH Oy) AI ⋯) ⋯) Lu.1 ⋯ ⋯) ⋯ ⋯)) ⋯) (@AJ _ _ _ _ _ (@E2 _ _ _ _ _ _ _ _ (Fj (Fi (AO c02 hr B6 (AB (AO c05 hr FX (AB (pvL 2 rfl Cr Jy) (AB (AO c06 hr GK (AB (@As _ _ _ _ _ _ _ Ab (pvL 1 rfl Cs Dy) AK (λ_ _=>rfl)) AI ⋯) GA.1 ⋯ ⋯) AI ⋯) ⋯) Ia.1 ⋯ ⋯) (AB (@As _ _ _ _ _ _ _ Ab (pvL 1 rfl Cs Dy) (@PM _ _ _ _ _ _ LI AK) (λ_ _=>rfl)) AI ⋯) ⋯) CW.1 ⋯ ⋯) ⋯)) (@AQ _ _ _ (@Aw _ _ _ _ Gb)) CN) (@AJ _ _ _ _ _ (@C6 _ _ _ _ _ _ _ _ dA rfl (@Dj _ _ _ _ _ _ IJ z_range (AB (A7 Bh JD z_len dE (AB (pvL 1 rfl Cs Dy) AI ⋯) CF C9.1 ⋯ ⋯) AI ⋯) ⋯) (@AV _ _ 4 _ nd rfl EX ⋯) (@AQ _ _ _ (@E2 _ _ _ _ _ _ _ _ (Fj (Fi (AO c02 hr B6 (AB (Ip (pvL 0 rfl GI LB) kl_C M_Film_at hr (AB (pvL 4 rfl EX Ci) AI ⋯)) (AB (@As _ _ _ _ _ _ _ Ab (pvL 1 rfl Cs Dy) (pvL 4 rfl EX Ci) (λ_ _=>rfl)) AI ⋯) ⋯) CW.1 ⋯ ⋯) ⋯)) (@AQ _ _ _ (@Aw _ _ _ _ Gb)) CN)) ⋯) (@AQ _ _ _ (@Aw _ _ _ _ Gb)))))),C7 (N:=["_law_film","_law_pictures","_law_whole","_law_frame","_law_k"]) (np:=2) (nl:=3) (BB (Ed (N4 AN) AS) (BB (GS (CG (EG.e (K6 hk_C AH AN))) AS (Ed (EG.e (Bu (AF AH (AF AH AN)))) AS)) (BB (Jh (IS (IQ (B9 (AF (EG.e (Bu (AF AH (AF (EG.e (Bu (AF (Ah BI AH AU) AN))) AN)))) (AF (Ah BI AH (Vn O7 AU)) AN))))) (Cj K8 (by decide)) GQ) (BB (GS (Dv (AF (Co Fq (AF AH AN)) AN)) AS (Jh (IS (IQ (B9 (AF (EG.e (K6 hk_C AH (AF AH AN))) (AF (Ah BI AH AH) AN))))) (Cj K8 (by decide)) GQ)) (Cj K8 (by decide)))))) rfl h⟩
theorem TM(F:Fun K "_law_right" "_law_right" De f fd){C:Addr}(hk_C:mg "Film"=some (.ref C))(kl_C:Cls K C)(M_Film_at:MCal P w K mg base 3 C "at" ["self","number"] (spG ⟨K,w,mg⟩ BJ))(M_Film_count:MCal P w K mg base 3 C "count" ["self"] (spD ⟨K,w,mg⟩ BY false))(c02:Cal P w K mg base 3 "_law_same_picture" ["_law_found","_law_due"] (spD ⟨K,w,mg⟩ Ag false))(z_range:mg "range"=none)(z_len:mg "len"=none):FnOk P w K mg base CX0 4 f fd ["_law_films","_law_kept"] (spD ⟨K,w,mg⟩ E9 false):=by
 have nd:=sc_L_right.nd
 refine F.ok sc_L_right (λvs H Q E h=>C8 Aj h) (λcdv A outer s H vs Q E hr h=>?_)
 exact⟨_,(@AJ _ _ _ _ _ (@C6 _ _ _ _ _ _ _ _ dA rfl (@Dj _ _ _ _ _ _ Mf z_range (AB AK AI ⋯) ⋯) (@AV _ _ 2 _ nd rfl Cm ⋯) (@AJ _ _ _ _ _ (@E2 _ _ _ _ _ _ _ _ (PW.pt (NQ (@Cq _ _ _ _ _ _ _ _ (@G2 _ (GJ hr)) (LM (@As _ _ _ _ _ _ _ Ab (pvL 0 rfl Iz B0) (pvL 2 rfl Cm Bs) (λ_ _=>rfl)) kl_C M_Film_count hr) (A7 Bh Jr z_len dE (AB (@As _ _ _ _ _ _ _ Ab (pvL 1 rfl Gr BQ) (pvL 2 rfl Cm Bs) (λ_ _=>rfl)) AI ⋯) CF C9.1 ⋯ ⋯) (DR _)) (@J6 _ _ _ _ (Fj (Fi (AO c02 hr DJ (AB (Ip (@As _ _ _ _ _ _ _ Ab (pvL 0 rfl Iz B0) (pvL 2 rfl Cm Bs) (λ_ _=>rfl)) kl_C M_Film_at hr (AB AK AI ⋯)) (AB (@As _ _ _ _ _ _ _ Ab (@As _ _ _ _ _ _ _ Ab (pvL 1 rfl Gr BQ) (pvL 2 rfl Cm Bs) (λ_ _=>rfl)) AK (λ_ _=>rfl)) AI ⋯) ⋯) CW.1 ⋯ ⋯) ⋯))))) (@AQ _ _ _ (@Aw _ _ _ _ Gb)) CN) (@AQ _ _ _ (@E2 _ _ _ _ _ _ _ _ (Fj (Fi (AO c02 hr DJ (AB (Ip (@As _ _ _ _ _ _ _ Ab (pvL 0 rfl Iz B0) (pvL 2 rfl Cm Bs) (λ_ _=>rfl)) kl_C M_Film_at hr (AB (@Bz _ _ _ _ _ _ _ _ Zl (A7 Bh Jr z_len dE (AB (@As _ _ _ _ _ _ _ Ab (pvL 1 rfl Gr BQ) (pvL 2 rfl Cm Bs) (λ_ _=>rfl)) AI ⋯) CF C9.1 ⋯ ⋯) AK) AI ⋯)) (AB (@As _ _ _ _ _ _ _ Ab (@As _ _ _ _ _ _ _ Ab (pvL 1 rfl Gr BQ) (pvL 2 rfl Cm Bs) (λ_ _=>rfl)) (@PM _ _ _ _ _ _ LI AK) (λ_ _=>rfl)) AI ⋯) ⋯) CW.1 ⋯ ⋯) ⋯)) (@AQ _ _ _ (@Aw _ _ _ _ Gb)) CN))) ⋯) (@AQ _ _ _ (@Aw _ _ _ _ Gb))),C7 (N:=["_law_films","_law_kept","_law_at"]) (np:=2) (nl:=1) (BB (GS (Dv (AF AU AN)) AS (BB (Jh (Sv (CY (Ah OX (XJ hk_C (Ah BI AH AH) AN) (Co Fq (AF (Ah BI AH AH) AN)))) (IS (IQ (B9 (AF (EG.e (K6 hk_C (Ah BI AH AH) (AF AU AN))) (AF (Ah BI (Ah BI AH AH) AU) AN)))))) (Cj K8 (by decide)) GQ) (Jh (IS (IQ (B9 (AF (EG.e (K6 hk_C (Ah BI AH AH) (AF (Ah bG (Co Fq (AF (Ah BI AH AH) AN)) AU) AN))) (AF (Ah BI (Ah BI AH AH) (Vn O7 AU)) AN))))) (Cj K8 (by decide)) GQ))) (Cj K8 (by decide))) rfl h⟩
theorem Zo(F:Fun K "law" "law" Cb f fd){C:Addr}(hk_C:mg "Film"=some (.ref C))(kl_C:Cls K C)(M_Film_at:MCal P w K mg base 5 C "at" ["self","number"] (spG ⟨K,w,mg⟩ BJ))(M_Film_add:MCal P w K mg base 5 C "add" ["self","picture"] (spS ⟨K,w,mg⟩ Ca))(KC_Film:KCal P w K mg base 4 "Film" C ["self","picture"] (spS ⟨K,w,mg⟩ Bb))(c46:Cal P w K mg base 5 "_law_big" ["_law_script","_law_at"] (spD ⟨K,w,mg⟩ FK false))(c01:Cal P w K mg base 5 "_law_digit" ["_law_rest","_law_many"] (spD ⟨K,w,mg⟩ An false))(c04:Cal P w K mg base 5 "_law_picture_by" ["_law_rest","_law_w","_law_h"] (MU ⟨K,w,mg⟩ BM))(c06:Cal P w K mg base 5 "_law_copy" ["_law_picture"] (spG ⟨K,w,mg⟩ CT))(c41:Cal P w K mg base 5 "_law_next_by" ["_law_rest","_law_picture"] (MU ⟨K,w,mg⟩ Eb))(c48:Cal P w K mg base 5 "_law_right" ["_law_films","_law_kept"] (spD ⟨K,w,mg⟩ E9 false))(c07:Cal P w K mg base 5 "_law_joined_right" ["_law_film","_law_pictures"] (spD ⟨K,w,mg⟩ BU false))(z_len:mg "len"=none)(z_min:mg "min"=none)(z_range:mg "range"=none)(z_int:mg "int"=none):FnOk P w K mg base CX0 6 f fd ["_law_script"] (spD ⟨K,w,mg⟩ Pb false):=by
 have nd:=sc_law.nd
 refine F.ok sc_law (λvs H Q E h=>C8 Aj h) (λcdv A outer s H vs Q E hr h=>?_)
 exact⟨_,(@AJ _ _ _ _ _ (@BD _ _ 1 _ _ _ _ nd rfl Gg (@EV _ _ _ _ (AB (AO c46 hr JB (AB (pvL 0 rfl Qd CA) (AB AK AI ⋯) ⋯) MP.1 ⋯ ⋯) AI ⋯)) ⋯ ⋯) (@AJ _ _ _ _ _ (@BD _ _ 2 _ _ _ _ nd rfl Qc (@Bz _ _ _ _ _ _ _ _ DQ AK (AO c01 hr FD (AB (pvL 1 rfl Gg Ao) (AB AK AI ⋯) ⋯) BV.1 ⋯ ⋯)) ⋯ ⋯) (@AJ _ _ _ _ _ (@BD _ _ 3 _ _ _ _ nd rfl Qb (@Bz _ _ _ _ _ _ _ _ DQ AK (AO c01 hr FD (AB (pvL 1 rfl Gg Ao) (AB AK AI ⋯) ⋯) BV.1 ⋯ ⋯)) ⋯ ⋯) (@AJ _ _ _ _ _ (@BD _ _ 4 _ _ _ _ nd rfl Ft (@EV _ _ _ _ (AB (@EV _ _ _ _ (AB (AO c04 hr E3 (AB (pvL 1 rfl Gg Ao) (AB (pvL 2 rfl Qc JY) (AB (pvL 3 rfl Qb Ly) AI ⋯) ⋯) ⋯) EY.1 ⋯ ⋯) AI ⋯)) (AB (@EV _ _ _ _ (AB (AO c04 hr E3 (AB (pvL 1 rfl Gg Ao) (AB (@Bz _ _ _ _ _ _ _ _ DQ (pvL 3 rfl Qb Ly) AK) (AB (pvL 2 rfl Qc JY) AI ⋯) ⋯) ⋯) EY.1 ⋯ ⋯) AI ⋯)) AI ⋯) ⋯)) ⋯ ⋯) (@AJ _ _ _ _ _ (@BD _ _ 5 _ _ _ _ nd rfl JP (@EV _ _ _ _ (AB (Rj KC_Film hr Ny (AB (AO c06 hr Fn (AB (@As _ _ _ _ _ _ _ Ab (@As _ _ _ _ _ _ _ Ab (pvL 4 rfl Ft BQ) AK (λ_ _=>rfl)) AK (λ_ _=>rfl)) AI ⋯) GA.1 ⋯ ⋯) AI ⋯) Uu.1) (AB (Rj KC_Film hr Ny (AB (AO c06 hr Fn (AB (@As _ _ _ _ _ _ _ Ab (@As _ _ _ _ _ _ _ Ab (pvL 4 rfl Ft BQ) AK (λ_ _=>rfl)) AK (λ_ _=>rfl)) AI ⋯) GA.1 ⋯ ⋯) AI ⋯) Uu.1) AI ⋯) ⋯)) ⋯ ⋯) (@AJ _ _ _ _ _ (@BD _ _ 6 _ _ _ _ nd rfl UN (Ip (@As _ _ _ _ _ _ _ Ab (pvL 5 rfl JP B0) AK (λ_ _=>rfl)) kl_C M_Film_at hr (AB AK AI ⋯)) ⋯ ⋯) (@AJ _ _ _ _ _ (@C6 _ _ _ _ _ _ _ _ dA rfl (@VP _ _ _ _ _ _ _ SN z_range (AB AK (AB (A7 (@V1 _ rfl) Vh z_min PyProof.Rows.boot_min (AB (A7 Bh Vi z_len dE (AB (pvL 0 rfl Qd CA) AI ⋯) CF C9.1 ⋯ ⋯) (AB AK AI ⋯) ⋯) YL aJ.1 ⋯ ⋯) AI ⋯) ⋯) ⋯ ⋯) (@AV _ _ 7 _ nd rfl Qa ⋯) (@AJ _ _ _ _ _ (@BD _ _ 1 _ _ _ _ nd rfl Gg (@EV _ _ _ _ (AB (AO c46 hr JB (AB (pvL 0 rfl Qd CA) (AB (pvL 7 rfl Qa Ci) AI ⋯) ⋯) MP.1 ⋯ ⋯) AI ⋯)) ⋯ ⋯) (@AJ _ _ _ _ _ (@BD _ _ 8 _ _ _ _ nd rfl Mv (@Bz _ _ _ _ _ _ _ _ Iq (@Bz _ _ _ _ _ _ _ _ DQ (pvL 7 rfl Qa Ci) (@C0 _ _ _ _ _ _ _ _ _ V2 Vj z_int PySem.Pv.boot_int (AB (@UH _ _ _ _ _ _ _ _ (@TC _ (GJ hr)) (AO c01 hr FD (AB (pvL 1 rfl Gg Ao) (AB AK AI ⋯) ⋯) BV.1 ⋯ ⋯) AK (DR _)) AI ⋯) UM XT.1 ⋯ ⋯)) AK) ⋯ ⋯) (@AJ _ _ _ _ _ (@BD _ _ 9 _ _ _ _ nd rfl QZ (AO c41 hr KL (AB (pvL 1 rfl Gg Ao) (AB (@As _ _ _ _ _ _ _ Ab (@As _ _ _ _ _ _ _ Ab (pvL 4 rfl Ft BQ) (pvL 8 rfl Mv Bs) (λ_ _=>rfl)) (@PM _ _ _ _ _ _ LI AK) (λ_ _=>rfl)) AI ⋯) ⋯) Ml.1 ⋯ ⋯) ⋯ ⋯) (@AJ _ _ _ _ _ (@Hz _ _ _ _ (Ip (@As _ _ _ _ _ _ _ Ab (pvL 5 rfl JP B0) (pvL 8 rfl Mv Bs) (λ_ _=>rfl)) kl_C M_Film_add hr (AB (AO c06 hr Fn (AB (pvL 9 rfl QZ BP) AI ⋯) GA.1 ⋯ ⋯) AI ⋯)) ⋯) (@AJ _ _ _ _ _ (@Hz _ _ _ _ (@Rk _ _ _ _ _ _ _ _ _ _ _ _ eD eW eY HZ (@As _ _ _ _ _ _ _ Ab (pvL 4 rfl Ft BQ) (pvL 8 rfl Mv Bs) (λ_ _=>rfl)) (AB (pvL 9 rfl QZ BP) AI ⋯) ⋯ ⋯ ⋯ ⋯ ⋯) ⋯) (@AQ _ _ _ (@E2 _ _ _ _ _ _ _ _ (PW.pt (NQ (Fj (Fi (AO c48 hr Lk (AB (pvL 5 rfl JP B0) (AB (pvL 4 rfl Ft BQ) AI ⋯) ⋯) Ov.1 ⋯ ⋯) ⋯)) (@J6 _ _ _ _ (@Cq _ _ _ _ _ _ _ _ (@G2 _ (GJ hr)) (pvL 6 rfl UN RH) (@As _ _ _ _ _ _ _ Ab (@As _ _ _ _ _ _ _ Ab (pvL 4 rfl Ft BQ) AK (λ_ _=>rfl)) AK (λ_ _=>rfl)) (DR _))))) (@AQ _ _ _ (@Aw _ _ _ _ Gb)) CN))))))) ⋯) (@AQ _ _ _ (@Aw _ _ _ _ (Zj (AO c07 hr Ec (AB (@As _ _ _ _ _ _ _ Ab (pvL 5 rfl JP B0) AK (λ_ _=>rfl)) (AB (@As _ _ _ _ _ _ _ Ab (pvL 4 rfl Ft BQ) AK (λ_ _=>rfl)) AI ⋯) ⋯) Fc.1 ⋯ ⋯) (Zi (AO c07 hr Ec (AB (@As _ _ _ _ _ _ _ Ab (pvL 5 rfl JP B0) AK (λ_ _=>rfl)) (AB (@As _ _ _ _ _ _ _ Ab (pvL 4 rfl Ft BQ) AK (λ_ _=>rfl)) AI ⋯) ⋯) Fc.1 ⋯ ⋯)))))))))))),C7 (N:=["_law_script","_law_rest","_law_w","_law_h","_law_kept","_law_films","_law_told","_law_k","_law_at","_law_picture"]) (np:=1) (nl:=9) (BB (Tw (N4 (AF (M9 (i:=0) (AF AU AN)) AN))) (BB (Ed (Ah FT AU (FN (i:=1) (AF AU AN))) AS) (BB (Ed (Ah FT AU (FN (i:=1) (AF AU AN))) AS) (BB (IP (Lr (ND (Lr (ND (JF (i:=1) (AF AH (AF AH AN))) KY)) (ND (Lr (ND (JF (i:=1) (AF (Ah FT AH AU) (AF AH AN))) KY)) KY)))) (BB (IP (K7 (i:=4) (Lr (Ht (Ul hk_C (AF (EG.e (Bu (AF (Ah BI (Ah BI AH AU) AU) AN))) AN)) (Ht (Ul hk_C (AF (EG.e (Bu (AF (Ah BI (Ah BI AH AU) AU) AN))) AN)) KY))))) (BB (IP (K7 (i:=5) (K6 hk_C (Ah BI AH AU) (AF AU AN)))) (BB (GS (Vb (AF AU (AF (Co aK (AF (XM (i:=0)) (AF AU AN))) AN))) AS (BB (Tw (N4 (AF (M9 (i:=0) (AF AH AN)) AN))) (BB (Ed (Ah L6 (Ah FT AH (Co aL (AF (Ah Zq (FN (i:=1) (AF AU AN)) AU) AN))) AU) AS) (BB (IP (K7 (i:=4) (JF (i:=1) (AF (Ah BI (Ah BI AH AH) (Vn O7 AU)) AN)))) (BB (aR (i:=5) hk_C AH (AF (EG.e (K7 (i:=9) (Bu (AF AH AN)))) AN)) (BB (Yl (i:=4) (j:=9) AH) (Jh (Sw (i:=6) (Sw (i:=4) (Sw (i:=5) (Sv (IS (IQ (B9 (AF AH (AF AH AN))))) (CY (Ah OX AH (Ah BI (Ah BI AH AU) AU))))))) (Cj K8 (by decide)) GQ))))))) (Cj (XN (i:=4) (XN (i:=5) (bg (B9 (AF (Ah BI AH AU) (AF (Ah BI AH AU) AN))) (B9 (AF (Ah BI AH AU) (AF (Ah BI AH AU) AN)))))) (by decide))))))))) rfl h⟩
end
theorem TY{i j:Int}(h:0<j):GZ (.int i) (.int j)=some (.int (i % j)):=if_pos h
theorem cH{i j:Int}(h:0<j)(h1:j<10 ^ 70):aA (.int i) (.int j)=some (.int (i / j)):=if_pos ⟨h,Xb h h1⟩
theorem Zr{i j:Int}(h:CMulB i j):N2 (.int i) (.int j)=some (.int (i*j)):=if_pos h
theorem WU:XE (.int 10) (.int 18)=some (.int 1000000000000000000):=rfl
theorem Yt{v m:Int}(h0:0<m)(h1:m<10 ^ 70):An [.m [.int v],.d (.int m)]=some (.int (v % m),[.m [.int (v / m)],.d (.int m)]):=by
 simp only[An,TY h0,cH h0 h1,B1,BA,Cz,dN,Oz,Fp,Be,Hq,Py,Fe,dMt,ER,Ep,Lm,Ic,Eu,Cu,Vw,Vv,HL,Dz,Vt,AD,dC,dOp,dUn,fI,B8,N1,fLt,fLe,fGt,fGe,FZ,SJ,Vl,Pn,AY,Es,AZ,Fd,GB,Bm,dIf,Mn,dOr,Vu,Ey,AE,AA,Cc,Bc,GP,A9,AX,A8,Cv,L0,dAS,mkL,nMb,isM,isC,LG,P1,Ho,DC,dIL,dIT,dR1,dR2,BH,AL,dGT,JV,Pl,Pm,Pk,By,f1,f2,Vm,Po,Jv,IY,Ba,Vs,Ij,O1,Ih,atI,ixN,HS,PQ,PR,PN,F5,fixDs,sz',Option.bind_some,Option.bind_none,Option.map_some,Option.map_none,List.map_cons,List.map_nil,List.cons_append,List.nil_append,List.length_cons,List.length_nil,List.getElem?_cons_zero,List.getElem?_cons_succ,List.set_cons_zero,List.set_cons_succ,List.replicate_succ,List.replicate_zero,List.all_cons,List.all_nil,Bool.and_self,Bool.and_true,Bool.true_and,Bool.false_and,Bool.and_false,Bool.or_true,Bool.true_or,Bool.false_or,Bool.or_false,Bool.not_true,Bool.not_false,if_true,if_false,reduceIte,Bool.false_eq_true,Nat.reduceAdd,Nat.reduceLT,Nat.reduceSub,Nat.reduceMul,Int.reduceEq,Int.reduceSub,Int.reduceMul,Int.reducePow,Int.reduceDiv,Int.reduceMod,Nat.reduceLeDiff,Nat.reduceEqDiff,and_self,and_true,true_and,Int.natCast_add,Int.reduceAdd,Int.reduceLT,Int.reduceLE,Int.reduceToNat,Int.reduceNeg,Int.toNat_zero,Int.toNat_one,Int.zero_lt_one,Int.le_refl,Int.reduceNegSucc,Int.cast_ofNat_Int,Nat.zero_add,Nat.add_zero]
theorem Jz{v m:Int}(h0:0<m)(h1:m<1000000000):An [.m [.int v],.d (.int m)]=some (.int (v % m),[.m [.int (v / m)],.d (.int m)]):=Yt h0 (by omega)
theorem P9{ns:List Int}{k:Int}(h0:0<=k):∃v:Int,Cn [.c (ns.map .int),.d (.int k)]=some (.int v,[.c (ns.map .int),.d (.int k)]):=by
 by_cases h:k<(ns.length:Int)
 ·have hk:k.toNat<ns.length:=by omega
  have e:(ns.map PyData.int)[k.toNat]?=some (.int ns[k.toNat]):=by simp[hk]
  exact⟨ns[k.toNat],by walk_at "a|Cn,List.length_map,h0,h,decide_true,e,B1,BA,Cz,dN,Oz,Fp,Be,Hq,Py,Fe,dMt,ER,Ep,Lm,Ic,Eu,Cu,Vw,Vv,HL,Dz,Vt,AD,dC,dOp,dUn,fI,B8,N1,fLt,fLe,fGt,fGe,FZ,SJ,Vl,Pn,AY,Es,AZ,Fd,GB,Bm,dIf,Mn,dOr,Vu,Ey,AE,AA,Cc,Bc,GP,A9,AX,A8,Cv,L0,dAS,mkL,nMb,isM,isC,LG,P1,Ho,DC,dIL,dIT,dR1,dR2,BH,AL,dGT,JV,Pl,Pm,Pk,By,f1,f2,Vm,Po,Jv,IY,Ba,Vs,Ij"⟩
 ·exact⟨0,by walk_at "a|Cn,List.length_map,h0,h,decide_false,B1,BA,Cz,dN,Oz,Fp,Be,Hq,Py,Fe,dMt,ER,Ep,Lm,Ic,Eu,Cu,Vw,Vv,HL,Dz,Vt,AD,dC,dOp,dUn,fI,B8,N1,fLt,fLe,fGt,fGe,FZ,SJ,Vl,Pn,AY,Es,AZ,Fd,GB,Bm,dIf,Mn,dOr,Vu,Ey,AE,AA,Cc,Bc,GP,A9,AX,A8,Cv,L0,dAS,mkL,nMb,isM,isC,LG,P1,Ho,DC,dIL,dIT,dR1,dR2,BH,AL,dGT,JV,Pl,Pm,Pk,By,f1,f2,Vm,Po,Jv,IY,Ba,Vs,Ij"⟩
theorem ae{xs:List Int}{k:Int}(h0:0<=k)(h:k<(xs.length:Int)):∃v:Int,atI (xs.map PyData.int) k=some (.int v)/\v∈xs:=by
 have hk:k.toNat<xs.length:=by omega
 refine⟨xs[k.toNat],?_,e9 hk⟩
 unfold atI ixN
 rw[B',if_pos h0,if_pos h]
 simp[hk]
def by8:PyData:=.tuple ([48271,69621,16807,39373,21401,60493,87721,31337].map .int)
def pr8:PyData:=.tuple ([99991,99989,99971,99961,99929,99923,99907,99901].map .int)
theorem ZO{ns:List Int}{k:Int}(h0:0<=k):∃(v:Int) (ls:List L),FK [.c (ns.map .int),.d (.int k)]=some (.int v,ls):=by
 obtain⟨cell,hc⟩:=P9 (ns:=ns) h0
 by_cases hb:(1000000000000000000:Int)<=cell
 ·exact⟨cell,_,by walk_at "a|FK,hc,WU,hb,decide_true,B1,BA,Cz,dN,Oz,Fp,Be,Hq,Py,Fe,dMt,ER,Ep,Lm,Ic,Eu,Cu,Vw,Vv,HL,Dz,Vt,AD,dC,dOp,dUn,fI,B8,N1,fLt,fLe,fGt,fGe,FZ,SJ,Vl,Pn,AY,Es,AZ,Fd,GB,Bm,dIf,Mn,dOr,Vu,Ey,AE,AA,Cc,Bc,GP,A9,AX,A8,Cv,L0,dAS,mkL,nMb,isM,isC,LG,P1,Ho,DC,dIL,dIT,dR1,dR2,BH,AL,dGT,JV,Pl,Pm,Pk,By,f1,f2,Vm,Po,Jv,IY,Ba,Vs,Ij";rfl⟩
 ·have lp:∃t7,Bp (dN 6) (BA (Cz (dOp B8 (dOp B8 (dOp GZ (Cv 0 Cn (AA (dOp B8 (AD 1) (dOp GZ (AD 6) (dC (.int 9)))) AE)) (dOp XE (dC (.int 10)) (dC (.int 18)))) (dC (.int 1))) (dOp N2 (AD 6) (AD 6))) (dN 7)) (Cz (dOp B8 (dOp N2 (AD 5) (dC (.int 7919))) (dOp GZ (dOp GZ (dOp N2 (AD 7) (dOp Es (AD 2) (dOp GZ (AD 6) (dC (.int 8))))) (dOp Es (AD 3) (dOp GZ (AD 6) (dC (.int 8))))) (dC (.int 7919)))) (dN 5)))
    ((rng 0 60).map PyData.int) [some (.c (ns.map .int)),some (.d (.int k)),some (.d by8),some (.d pr8),some (.d (.int cell)),some (.d (.int 0)),none,none]=some (.nx t7) /\
    ∃(b:Int) (o1 o2:Option L),nM o1/\nM o2/\t7=[some (.c (ns.map .int)),some (.d (.int k)),some (.d by8),some (.d pr8),some (.d (.int cell)),some (.d (.int b)),o1,o2]:=by
   refine Pd (enc:=PyData.int) (pre:=[]) (λ_ τ=>∃(b:Int) (o1 o2:Option L),nM o1/\nM o2/\τ=[some (.c (ns.map .int)),some (.d (.int k)),some (.d by8),some (.d pr8),some (.d (.int cell)),some (.d (.int b)),o1,o2]) ⟨0,none,none,Aa,Aa,rfl⟩ ?_
   rintro j _ τ hj ⟨b,o1,o2,n1,n2,rfl⟩
   have hj':=(mem_rng (n:=60)).mp hj
   have h9:0<=j % 9:=eE _ (by decide)
   obtain⟨c,hc⟩:=P9 (ns:=ns) (k:=k+j % 9) (by omega)
   obtain⟨u1,hu1,m1⟩:=ae (xs:=[48271,69621,16807,39373,21401,60493,87721,31337]) (k:=j % 8) (eE _ (by decide)) (dz _ (by decide))
   obtain⟨u2,hu2,m2⟩:=ae (xs:=[99991,99989,99971,99961,99929,99923,99907,99901]) (k:=j % 8) (eE _ (by decide)) (dz _ (by decide))
   have hu1':Es by8 (.int (j % 8))=some (.int u1):=hu1
   have hu2':Es pr8 (.int (j % 8))=some (.int u2):=hu2
   have m1':-(2 ^ 64)<u1/\u1<2 ^ 64:=by
    simp only[List.mem_cons,List.not_mem_nil,or_false]at m1
    omega
   have m2':0<u2:=by
    simp only[List.mem_cons,List.not_mem_nil,or_false]at m2
    omega
   have x1:N2 (.int j) (.int j)=some (.int (j*j)):=Zr (.inl (.inl ⟨by omega,by omega⟩))
   have x2:N2 (.int b) (.int 7919)=some (.int (b*7919)):=Zr (.inl (.inr ⟨by decide,by decide⟩))
   have x3:∀z:Int,N2 (.int z) (.int u1)=some (.int (z*u1)):=λz=>Zr (.inl (.inr m1'))
   have x4:∀z:Int,GZ (.int z) (.int u2)=some (.int (z % u2)):=λz=>TY m2'
   have x5:∀z:Int,GZ (.int z) (.int 7919)=some (.int (z % 7919)):=λz=>TY (by decide)
   have x6:∀z:Int,GZ (.int z) (.int 9)=some (.int (z % 9)):=λz=>TY (by decide)
   have x7:∀z:Int,GZ (.int z) (.int 8)=some (.int (z % 8)):=λz=>TY (by decide)
   have x8:∀z:Int,GZ (.int z) (.int 1000000000000000000)=some (.int (z % 1000000000000000000)):=λz=>TY (by decide)
   refine⟨_,[some (.c (ns.map .int)),some (.d (.int k)),some (.d by8),some (.d pr8),some (.d (.int cell)),some (.d (.int (b*7919+(c % 1000000000000000000+1+j*j)*u1 % u2 % 7919))),some (.d (.int j)),some (.d (.int (c % 1000000000000000000+1+j*j)))],A4 rfl n1,?_,_,_,_,BW,BW,rfl⟩
   refine(Ay (t6:=[some (.c (ns.map .int)),some (.d (.int k)),some (.d by8),some (.d pr8),some (.d (.int cell)),some (.d (.int b)),some (.d (.int j)),some (.d (.int (c % 1000000000000000000+1+j*j)))]) (EZ (d:=.int (c % 1000000000000000000+1+j*j)) (t6:=[some (.c (ns.map .int)),some (.d (.int k)),some (.d by8),some (.d pr8),some (.d (.int cell)),some (.d (.int b)),some (.d (.int j)),o2]) ?_ (A4 rfl n2))).trans ?_
   ·simp only[dOp,AD,dC,Cv,AA,AE,Cc,B8,fI,WU,hc,x1,x6,x8,List.getElem?_cons_zero,List.getElem?_cons_succ,List.set_cons_zero,List.set_cons_succ,Option.bind_some,Option.map_some,List.map_cons,List.map_nil]
   ·simp only[Cz,dN,dOp,AD,dC,B8,fI,hu1',hu2',x2,x3,x4,x5,x7,List.getElem?_cons_zero,List.getElem?_cons_succ,List.set_cons_zero,List.set_cons_succ,Option.bind_some,Option.map_some]
  obtain⟨t7,e,b,o1,o2,n1,n2,rfl⟩:=lp
  refine⟨b,[.c (ns.map .int),.d (.int k)],?_⟩
  have hr:dR1 (AA (dC (.int 60)) AE) [some (.c (ns.map .int)),some (.d (.int k)),some (.d by8),some (.d pr8),some (.d (.int cell)),some (.d (.int 0)),none,none]=some ((rng 0 60).map PyData.int,[some (.c (ns.map .int)),some (.d (.int k)),some (.d by8),some (.d pr8),some (.d (.int cell)),some (.d (.int 0)),none,none]):=by
   rw[<- LK];rfl
  refine BZ (τ:=[some (.c (ns.map .int)),some (.d (.int k)),some (.d by8),some (.d pr8),some (.d (.int cell)),some (.d (.int b)),o1,o2]) ?_ rfl rfl
  refine(Ay rfl).trans ((Ay rfl).trans ((Ay (t6:=[some (.c (ns.map .int)),some (.d (.int k)),some (.d by8),some (.d pr8),some (.d (.int cell)),none,none,none]) (EZ (OH (xs:=ns.map .int) rfl rfl rfl hc) rfl)).trans ?_))
  refine(Ay (t6:=[some (.c (ns.map .int)),some (.d (.int k)),some (.d by8),some (.d pr8),some (.d (.int cell)),none,none,none]) ?_).trans ((Ay (t6:=[some (.c (ns.map .int)),some (.d (.int k)),some (.d by8),some (.d pr8),some (.d (.int cell)),some (.d (.int 0)),none,none]) rfl).trans ((Ay ((Dc hr).trans e)).trans rfl))
  walk_at "a|WU,hb,decide_false,B1,BA,Cz,dN,Oz,Fp,Be,Hq,Py,Fe,dMt,ER,Ep,Lm,Ic,Eu,Cu,Vw,Vv,HL,Dz,Vt,AD,dC,dOp,dUn,fI,B8,N1,fLt,fLe,fGt,fGe,FZ,SJ,Vl,Pn,AY,Es,AZ,Fd,GB,Bm,dIf,Mn,dOr,Vu,Ey,AE,AA,Cc,Bc,GP,A9,AX,A8,Cv,L0,dAS,mkL,nMb,isM,isC,LG,P1,Ho,DC,dIL,dIT,dR1,dR2,BH,AL,dGT,JV,Pl,Pm,Pk,By,f1,f2,Vm,Po,Jv,IY,Ba,Vs,Ij"
theorem cF{i:Nat}{a:DA}{τ t6:DS}{rs:List Ar}{xs ys:List PyData}(h:a τ=some (rs,t6))(k:Cc rs=some [.list ys])(m:t6[i]?=some (some (.m xs)))(hz:xs.length+ys.length<=900):Fe (dMt i Ep a) τ=some (.nx (t6.set i (some (.m (xs++ys))))):=by
 have hs:xs.length+ys.length<=sizeLine:=sz (cm hz (by decide))
 unfold Fe dMt
 rw[h]
 show(((Cc rs).bind _)).map _=_
 rw[k]
 show((match t6[i]? with|some (some (.m xs))=>_|_=>_):Option (PyData×DS)).map _=_
 rw[m]
 show((if xs.length+ys.length<=sizeLine then some (PyData.none,xs++ys) else none).map _).map _=_
 rw[if_pos hs]
 rfl
theorem ac1{f:DX}{τ t6:DS}{d:PyData}(h:f τ=some (d,t6)):AA f AE τ=some ([.d d],t6):=by
 walk_at "a|h,B1,BA,Cz,dN,Oz,Fp,Be,Hq,Py,Fe,dMt,ER,Ep,Lm,Ic,Eu,Cu,Vw,Vv,HL,Dz,Vt,AD,dC,dOp,dUn,fI,B8,N1,fLt,fLe,fGt,fGe,FZ,SJ,Vl,Pn,AY,Es,AZ,Fd,GB,Bm,dIf,Mn,dOr,Vu,Ey,AE,AA,Cc,Bc,GP,A9,AX,A8,Cv,L0,dAS,mkL,nMb,isM,isC,LG,P1,Ho,DC,dIL,dIT,dR1,dR2,BH,AL,dGT,JV,Pl,Pm,Pk,By,f1,f2,Vm,Po,Jv,IY,Ba,Vs,Ij,V7,Q0,Q2,SI,SH,Q1,Ol,U8,Om,Oq,Q4,Q3,Oo,Nr,V6,Qv,Qx,SG,SF,Qw,Og,U7,Oh,Oj,Qz,Qy,Oi,Nq,Sq,Nm,Np,Of,Oe,Nn,Mc"
theorem acc{f:DX}{a:DA}{τ t6 t8:DS}{d:PyData}{rs:List Ar}(h:f τ=some (d,t6))(k:a t6=some (rs,t8)):AA f a τ=some (.d d::rs,t8):=by
 unfold AA
 rw[h]
 show((a t6).map _)=_
 rw[k];rfl
theorem tst{f:DX}{τ t6:DS}{b:Bool}(h:f τ=some (.bool b,t6)):AZ f τ=some (b,t6):=by
 unfold AZ
 rw[h];rfl
theorem RO{t:DT}{τ t6:DS}{b:Bool}(h:t τ=some (b,t6)):Bm t τ=some (!b,t6):=by
 unfold Bm
 rw[h];rfl
theorem op2{F:PyData->PyData->Option PyData}{f g:DX}{τ t6 t8:DS}{x y r:PyData}(h:f τ=some (x,t6))(k:g t6=some (y,t8))(e:F x y=some r):dOp F f g τ=some (r,t8):=by
 unfold dOp
 rw[h]
 show((g t6).bind _)=_
 rw[k]
 show((F x y).map _)=_
 rw[e];rfl
theorem oQ{F:PyData->PyData->Option PyData}{f g:DX}{τ t8:DS}{r:PyData}(x y:PyData)(t6:DS)(h:f τ=some (x,t6))(k:g t6=some (y,t8))(e:F x y=some r):dOp F f g τ=some (r,t8):=op2 h k e
theorem cQ{G:List L->Option (PyData × List L)}{a:DA}{τ:DS}{r:PyData}{ls:List L}(t6:DS)(ds:List PyData)(h:a τ=some (ds.map Ar.d,t6))(k:Cc (ds.map Ar.d)=some ds)(g:G (ds.map L.d)=some (r,ls)):AX G a τ=some (r,t6):=A2 h k g
theorem WX{x y:DT}{τ t6 t8:DS}(h1:x τ=some (false,t6))(h2:y t6=some (false,t8)):GB x y τ=some (false,t8):=by
 unfold GB
 rw[h1];exact h2
theorem T9{np i:Nat}{e:DX}{τ t6:DS}{xs:List PyData}(h:e τ=some (.list xs,t6))(h1:np<=i)(h2:i<t6.length)(h3:t6.all okM=true):Fp np i e τ=some (.nx (t6.set i (some (.m xs)))):=by
 unfold Fp
 rw[h]
 dsimp only[Option.bind]
 rw[if_pos ⟨h1,h2,h3⟩]
theorem cJ{a b:DX}{τ t6:DS}(h:a τ=some (.bool true,t6)):Mn a b τ=b t6:=by
 unfold Mn
 rw[tst h];rfl
theorem Qn{α β:Type}{enc:α->PyData}{en2:β->PyData}{g:DG}{c:DT}{e:DX}(J:DS->Prop)(Z:β->Prop):∀{xs:List α} {acc:List PyData} {τ:DS},J τ ->
  (∀x τ,x∈xs->J τ->∃t6 t8 l0 y,g (enc x) τ=some t6/\c t6=some (true,t8)/\e t8=some (en2 y,l0)/\J l0/\Z y)->∃(ys:List β) (t7:DS),BN g c e (xs.map enc) acc τ=some (acc++ys.map en2,t7)/\J t7/\ys.length=xs.length/\∀y∈ys,Z y
 |[],acc,τ,h0,_=>⟨[],τ,by simp[BN],h0,rfl,λy hy=>by simp at hy⟩
 |x::xs,acc,τ,h0,h=>by
  obtain⟨t6,t8,l0,y,e1,e2,e3,h3,z3⟩:=h x τ J' h0
  obtain⟨ys,t7,e4,h4,hl,hz⟩:=Qn J Z (xs:=xs) (acc:=acc++[en2 y]) (τ:=l0) h3 (λz t hz hj=>h z t (E' _ hz) hj)
  refine⟨y::ys,t7,?_,h4,by rw[cM,hl,cM],λu hu=>(X'.mp hu).elim (λq=>q▸z3) (hz u)⟩
  rw[P',BN,e1]
  show(c t6).bind _=_
  rw[e2]
  show(e t8).bind _=_
  rw[e3]
  show BN g c e (xs.map enc) (acc++[en2 y]) l0=_
  rw[e4,dO]
  rfl
theorem Us{own:Nat}{f1 f2:List Nat}{j0:Nat}{it:DI}{g:DG}{c:DT}{e:DX}{τ t6 t9:DS}{ds acc xs ys:List PyData}(h:it τ=some (ds,t6))(hz:ds.length<=sizeLine)(hj:t6[j0]?=some (some (.m ys)))(hm:((f1++f2).all λj=>!isM t6 j)=true)(hl:BN g c e ds [] (Ff own (f1++j0::f2) t6)=some (acc,t9))(hx:t9[own+f1.length]?=some (some (.m xs))) :
  O0 own f1 j0 f2 it g c e τ=some (.list acc,t6.set j0 (some (.m xs))):=by
 unfold O0
 rw[h]
 show(if ds.length<=sizeLine/\isM t6 j0=true/\((f1++f2).all λj=>!isM t6 j)=true then _ else _)=_
 rw[if_pos ⟨hz,isM_iff.mpr ⟨.l ys,hj⟩,hm⟩,hl]
 dsimp only[Option.bind]
 rw[hx,hj]
abbrev Pc:=List (List Cl)
def eL(r:List Cl):PyData:=.list (r.map ec)
def ep(P:Pc):PyData:=.list (P.map eL)
structure OkP(P:Pc)(w h:Nat):Prop where
 len:P.length=h
 all:∀r∈P,r.length=w
def Ae(P:Pc)(x y:Int):Cl:=(P.getD y.toNat []).getD x.toNat (0,0)
def HR(P:Pc)(x y:Int)(s:Cl):Pc:=P.set y.toNat ((P.getD y.toNat []).set x.toNat s)
theorem OkP.row{P:Pc}{w h:Nat}(o:OkP P w h){y:Int}(h0:0<=y)(h1:y<h):(P.getD y.toNat []).length=w:=by
 have hk:y.toNat<P.length:=by rw[o.len];omega
 rw[cO,Y' hk]
 exact o.all _ (e9 hk)
theorem OkP.put{P:Pc}{w h:Nat}(o:OkP P w h){x y:Int}{s:Cl}(h0:0<=y)(h1:y<h):OkP (HR P x y s) w h:=by
 refine⟨by unfold HR;rw[cV];exact o.len,λr hr=>?_⟩
 unfold HR at hr
 rcases List.mem_or_eq_of_mem_set hr with hr|rfl
 ·exact o.all r hr
 ·rw[cV];exact o.row h0 h1
theorem Lh{n:Nat}{i:Int}(h0:0<=i)(h1:i<n):ixN n i=some i.toNat:=by unfold ixN;rw[if_pos h0,if_pos h1]
theorem Lg{P:Pc}{w h:Nat}(o:OkP P w h){y:Int}(h0:0<=y)(h1:y<h):AY (ep P) (.int y)=some (eL (P.getD y.toNat [])):=by
 have hk:y.toNat<P.length:=by rw[o.len];omega
 show atI (P.map eL) y=_
 unfold atI
 rw[B',Lh h0 (by rw[o.len];exact h1)]
 show(P.map eL)[y.toNat]?=_
 rw[U',cO,Y' hk];rfl
theorem Ww{cs:List Cl}{k:Int}(h0:0<=k)(h1:k<cs.length):AY (eL cs) (.int k)=some (ec (cs.getD k.toNat (0,0))):=by
 have hk:k.toNat<cs.length:=by omega
 show atI (cs.map ec) k=_
 unfold atI
 rw[B',Lh h0 h1]
 show(cs.map ec)[k.toNat]?=_
 rw[U',cO,Y' hk];rfl
theorem UY{P:Pc}{w h:Nat}(o:OkP P w h){x y:Int}(h0:0<=y)(h1:y<h)(x0:0<=x)(x1:x<w):AY (eL (P.getD y.toNat [])) (.int x)=some (ec (Ae P x y)):=Ww x0 (by rw[o.row h0 h1];exact x1)
theorem Xw{P:Pc}{w h:Nat}(o:OkP P w h){x y:Int}{s:Cl}(h0:0<=y)(h1:y<h)(x0:0<=x)(x1:x<w):set2 (P.map eL) y x (ec s)=some ((HR P x y s).map eL):=by
 have hk:y.toNat<P.length:=by rw[o.len];omega
 have hr:=o.row h0 h1
 have er:P.getD y.toNat []=P[y.toNat]:=by rw[cO,Y' hk];rfl
 unfold set2
 rw[B',Lh h0 (by rw[o.len];exact h1),Option.bind_some,U',Y' hk]
 show(if fixDs ((P[y.toNat]).map ec)=true then _ else _)=_
 rw[if_pos (encC.fixL _),B',<- er,Lh x0 (by rw[hr];exact x1),Option.map_some]
 unfold HR
 rw[List.map_set]
 unfold eL
 rw[List.map_set]
theorem RU{i:Nat}{e e1 e2:DX}{τ t6 t8 l0:DS}{P:Pc}{w h:Nat}{x y:Int}{s:Cl}(o:OkP P w h)(hi:τ[i]?=some (some (.g (ep P))))(ha:e (τ.set i (some (.d (ep P))))=some (ec s,t6))(hb:e1 t6=some (.int y,t8))(hc:e2 t8=some (.int x,l0))(ok:l0.all okM=true)
  (h0:0<=y) (h1:y<h) (x0:0<=x) (x1:x<w):HK i e e1 e2 τ=some (.nx (l0.set i (some (.g (ep (HR P x y s)))))):=by
 unfold HK
 rw[hi]
 show(e (τ.set i (some (.d (ep P))))).bind _=_
 rw[ha]
 show(e1 t6).bind _=_
 rw[hb]
 show(e2 t8).bind _=_
 rw[hc]
 show(if F5 (ec s)=true/\l0.all okM=true then (set2 (P.map eL) y x (ec s)).map _ else none)=_
 rw[if_pos ⟨encC.fix s,ok⟩,Xw o h0 h1 x0 x1];rfl
theorem FH{np i:Nat}{e:DX}{τ t6:DS}{d:PyData}(h:e τ=some (d,t6))(h1:np<=i)(h2:i<t6.length)(h3:t6.all okM=true):EL np i e τ=some (.nx (t6.set i (some (.g d)))):=by
 unfold EL
 rw[h]
 show(if np<=i/\i<t6.length/\t6.all okM=true then _ else _)=_
 rw[if_pos ⟨h1,h2,h3⟩]
theorem Qm{P:Pc}{τ:DS}{i:Nat}(hi:τ[i]?=some (some (.d (ep P))))(hz:P.length<=1000):dLC 1 [] (dIL (AD i)) (dN 0) DC (dFx (A9 Ba (AA (AD 0) AE))) τ=some (ep P,τ):=by
 obtain ⟨t9, el⟩ := EO (enc := eL) (g := dN 0) (c := DC) (e := dFx (A9 Ba (AA (AD 0) AE))) (λτ => ∃ o, nM o /\ τ = [o]) (λ_ => true) eL (xs := P) (acc := []) (τ := [none]) ⟨none, Aa, rfl⟩ (by
  rintro r τ _ ⟨o,ho,rfl⟩
  refine⟨_,[some (.d (eL r))],A4 (o:=o) rfl ho,rfl,λz=>(nomatch z),λ_=>⟨[some (.d (eL r))],?_,_,BW,rfl⟩⟩
  show(if fixDs (r.map ec)=true then _ else _)=_
  rw[if_pos (encC.fixL r)];rfl)
 rw[dU,gE.mpr (λ_ _=>rfl)]at el
 have h1:dIL (AD i) τ=some (P.map eL,τ):=by
  unfold dIL AD
  rw[hi];rfl
 exact HI (t9:=t9) h1 (by rw[B'];exact sz hz) rfl el
theorem ZN:∀P:Pc,PyData.canLayAll0 (P.map eL)=true
 |[]=>rfl
 |r::P=>by
  rw[P',PyData.canLayAll0,ZN P]
  unfold eL
  rw[PyData.canLay0,encC.canL];rfl
theorem ZM:∀P:Pc,PyData.depthAll (P.map eL)<=21
 |[]=>cZ _
 |r::P=>by
  rw[P',PyData.depthAll]
  have:=ZM P
  have:(eL r).depth<=21:=by unfold eL;rw[PyData.depth];have:=encC.depL r;omega
  omega
theorem bZ(r:List Cl):PyData.eqv (eL r) (eL r)=true:=by
 unfold eL;rw[encC.eqL];simp
theorem XG:∀P:Pc,PyData.eqvAll (P.map eL) (P.map eL)=true
 |[]=>rfl
 |r::P=>by rw[P',PyData.eqvAll,bZ,XG P];rfl
theorem bY(P:Pc):PyData.eqv (ep P) (ep P)=true:=by
 unfold ep;rw[PyData.eqv];exact XG P
theorem a9(P:Pc):(ep P).canLay0=true:=by unfold ep;rw[PyData.canLay0];exact ZN P
theorem a8(P:Pc):(ep P).depth<=22:=by unfold ep;rw[PyData.depth];have:=ZM P;omega
theorem Zp{d:PyData}(h1:d.canLay0=true)(h2:d.depth<=40):okD d=true:=by
 unfold okD SeqAt.shaped
 rw[cw]
 exact⟨h1,decide_eq_true (cm h2 (by decide))⟩
theorem XF{d:PyData}(h1:d.canLay0=true)(h2:d.depth<=40)(h3:PyData.eqv d d=true):fNe d d=some (.bool false):=by
 unfold DL.fNe;rw[Zp h1 h2,h3];rfl
theorem bW(P:Pc):fNe (ep P) (ep P)=some (.bool false):=XF (a9 P) (cm (a8 P) (by decide)) (bY P)
theorem XC:∀cs:List Cl,fixDs (cs.map ec)=true
 |[]=>rfl
 |c::cs=>by
  rw[P',fixDs,XC cs];rfl
theorem Ug{f:DX}{τ t6:DS}{cs:List Cl}(h:f τ=some (eL cs,t6)):dFx f τ=some (eL cs,t6):=by
 unfold dFx
 rw[h]
 show(if fixDs (cs.map ec)=true then _ else _)=_
 rw[if_pos (XC cs)]
theorem CC{a b:DB}{τ t6:DS}(h:a τ=some (.nx t6)):EA a b τ=b t6:=by
 unfold EA
 rw[h];rfl
theorem bD{f:DX}{τ t6:DS}{d:PyData}(h:f τ=some (d,t6))(ok:t6.all okM=true):dOk f τ=some (d,t6):=by
 unfold dOk;rw[h];dsimp only[Option.bind_some];rw[if_pos ok]
theorem Ng{f:DX}{τ t6:DS}{ds:List PyData}(h:f τ=some (.list ds,t6)):dLs f τ=some (.list ds,t6):=by
 unfold dLs;rw[h];rfl
theorem aq{a:DB}{τ t6:DS}{d:PyData}(h:a τ=some (.rt d t6)):dRt a τ=some (.rt d t6):=by
 unfold dRt;rw[h];rfl
def sh4:List Cl:=[(0,1),(1,1),(1,2),(2,3)]
theorem Zb{o:Option L}(no:okM o=true){cs:List Cl}{u many w:Int}(hm:many=cs.length)(h1:1<=many)(h4:many<=4)(w1:1<=w)(w9:w<=9) :
  ∃(r:List Cl) (u':Int),dOk (dFx (O0 1 [1] 2 [3] (dR1 (AA (AD 4) AE)) (dN 0) DC (dOp AY (AD 1) (A8 2 An (AA (AD 3) AE))))) [o,some (.d (eL cs)),some (.m [.int u]),some (.d (.int many)),some (.d (.int w))]=some (eL r,[o,some (.d (eL cs)),some (.m [.int u']),some (.d (.int many)),some (.d (.int w))])/\r.length=w.toNat:=by
 obtain ⟨r, t7, el, ⟨o', u', ho', rfl⟩, hl, _⟩ := Qn (enc := PyData.int) (en2 := ec) (g := dN 0) (c := DC) (e := dOp AY (AD 1) (A8 2 An (AA (AD 3) AE))) (λτ => ∃ o u, nM o /\ τ = [o, some (.d (eL cs)), some (.m [.int u]), some (.d (.int many))]) (λ_ => True) (xs := rng 0 w.toNat) (acc := []) (τ := [none, some (.d (eL cs)), some (.m [.int u]), some (.d (.int many))]) ⟨none, u, Aa, rfl⟩ (by
  rintro k τ _ ⟨o,u,ho,rfl⟩
  have e:=Jz (v:=u) (m:=many) (by omega) (by omega)
  have e2:=Ww (cs:=cs) (k:=u % many) (eE _ (by omega)) (by rw[<- hm];exact dz _ (by omega))
  refine⟨[some (.d (.int k)),some (.d (eL cs)),some (.m [.int u]),some (.d (.int many))],[some (.d (.int k)),some (.d (eL cs)),some (.m [.int u]),some (.d (.int many))],[some (.d (.int k)),some (.d (eL cs)),some (.m [.int (u / many)]),some (.d (.int many))],cs.getD (u % many).toNat (0,0),A4 (o:=o) rfl ho,rfl,?_,⟨_,_,BW,rfl⟩,trivial⟩
  exact op2 (t6:=[some (.d (.int k)),some (.d (eL cs)),some (.m [.int u]),some (.d (.int many))]) rfl (CB (t6:=[some (.d (.int k)),some (.d (eL cs)),some (.m [.int u]),some (.d (.int many))]) (rs:=[.d (.int many)]) (ds:=[.int many]) (xs:=[.int u]) rfl rfl rfl e) e2)
 rw[dU]at el
 refine⟨r,u',bD (Ug (Us (t6:=[o,some (.d (eL cs)),some (.m [.int u]),some (.d (.int many)),some (.d (.int w))]) (PH (n:=w) rfl (by omega) (by omega)) (by rw[B',Fs];exact sz (by omega)) rfl rfl el rfl)) (by rw[List.all_cons,no];rfl),?_⟩
 rw[hl,Fs]
theorem J8{v w h:Int}(w1:1<=w)(w9:w<=9)(h1:1<=h)(h6:h<=9):∃(P:Pc) (v':Int),BM [.m [.int v],.d (.int w),.d (.int h)]=some (ep P,[.m [.int v'],.d (.int w),.d (.int h)])/\OkP P w.toNat h.toNat:=by
 have hv:v % 4=0\/v % 4=1\/v % 4=2\/v % 4=3:=by omega
 let many:Int:=1+v % 4
 have hmany:many=1\/many=2\/many=3\/many=4:=by
  show 1+v % 4=1\/_
  omega
 let cs:List Cl:=sh4.take many.toNat
 have hcs:many=cs.length:=by
  rcases hmany with e|e|e|e<;>(show many=((sh4.take many.toNat).length:Nat);rw[e];rfl)
 let st:=λ(u:Int) (s:Option L)=>[some (.m [.int u]),some (.d (.int w)),some (.d (.int h)),some (.d (.int many)),s]
 have sl:dSl (GP (AA (Bc (AA (dC (.int 0)) (AA (dC (.int 1)) AE))) (AA (Bc (AA (dC (.int 1)) (AA (dC (.int 1)) AE))) (AA (Bc (AA (dC (.int 1)) (AA (dC (.int 2)) AE))) (AA (Bc (AA (dC (.int 2)) (AA (dC (.int 3)) AE))) AE))))) Yf (dPt (AD 3)) (st (v / 4) none)=some (eL cs,st (v / 4) none):=by
  show dSl _ _ _ [some (.m [.int (v / 4)]),some (.d (.int w)),some (.d (.int h)),some (.d (.int many)),none]=some (eL (sh4.take many.toNat),[some (.m [.int (v / 4)]),some (.d (.int w)),some (.d (.int h)),some (.d (.int many)),none])
  generalize many=k at hmany
  rcases hmany with rfl|rfl|rfl|rfl<;>rfl
 obtain ⟨P, t7, el, ⟨o', u', ho', rfl⟩, hl, hz⟩ := Qn (enc := PyData.int) (en2 := eL) (g := dN 0) (c := DC) (e := dOk (dFx (O0 1 [1] 2 [3] (dR1 (AA (AD 4) AE)) (dN 0) DC (dOp AY (AD 1) (A8 2 An (AA (AD 3) AE)))))) (λτ => ∃ o u, nM o /\ τ = [o, some (.d (eL cs)), some (.m [.int u]), some (.d (.int many)), some (.d (.int w))]) (λr => r.length = w.toNat) (xs := rng 0 h.toNat) (acc := []) (τ := [none, some (.d (eL cs)), some (.m [.int (v / 4)]), some (.d (.int many)), some (.d (.int w))]) ⟨none, v / 4, Aa, rfl⟩ (by
  rintro k τ _ ⟨o,u,ho,rfl⟩
  obtain⟨r,u',e,hr⟩:=Zb (o:=some (.d (.int k))) rfl (u:=u) (w:=w) hcs (by omega) (by omega) w1 w9
  exact⟨_,[some (.d (.int k)),some (.d (eL cs)),some (.m [.int u]),some (.d (.int many)),some (.d (.int w))],_,r,A4 (o:=o) rfl ho,rfl,e,⟨_,_,BW,rfl⟩,hr⟩)
 rw[dU]at el
 refine⟨P,u',?_,⟨by rw[hl,Fs],hz⟩⟩
 unfold BM
 refine BZ (τ:=st u' (some (.d (eL cs)))) ?_ rfl rfl
 refine(CC (t6:=st (v / 4) none) ?_).trans ((CC (t6:=st (v / 4) (some (.d (eL cs)))) (EZ sl rfl)).trans (EB ?_))
 ·exact EZ (op2 (x:=.int 1) (y:=.int (v % 4)) rfl (CB (t6:=[some (.m [.int v]),some (.d (.int w)),some (.d (.int h)),none,none]) (rs:=[.d (.int 4)]) (ds:=[.int 4]) (xs:=[.int v]) rfl rfl rfl (Jz (by decide) (by decide))) rfl) rfl
 ·exact Us (t6:=st (v / 4) (some (.d (eL cs)))) (PH (n:=h) rfl (by omega) (by omega)) (by rw[B',Fs];exact sz (by omega)) rfl rfl el rfl
theorem R5{P:Pc}{w h:Nat}(o:OkP P w h)(h1:1<=h){τ:DS}(ht:τ[1]?=some (some (.d (ep P)))):A9 By (AA (dOp AY (AD 1) (dC (.int 0))) AE) τ=some (.int (w:Int),τ):=by
 have e:=Lg o (y:=0) (by omega) (by omega)
 have hv:AD 1 τ=some (ep P,τ):=by unfold AD;rw[ht]
 have e2:=op2 (f:=AD 1) (g:=dC (.int 0)) hv rfl e
 have hr:=o.row (y:=0) (by omega) (by omega)
 unfold A9
 rw[ac1 e2]
 show some (PyData.int (((P.getD (0:Int).toNat []).map ec).length:Nat),τ)=_
 rw[B',hr]
theorem Wn{P:Pc}{w h:Nat}(o:OkP P w h){τ:DS}(ht:τ[1]?=some (some (.d (ep P)))):A9 By (AA (AD 1) AE) τ=some (.int (h:Int),τ):=by
 have hv:AD 1 τ=some (ep P,τ):=by unfold AD;rw[ht]
 unfold A9
 rw[ac1 hv]
 show some (PyData.int ((P.map eL).length:Nat),τ)=_
 rw[B',o.len]
theorem YJ{P:Pc}{w h:Nat}{v:Int}(o:OkP P w h)(w1:1<=w)(w9:w<=9)(h1:1<=h)(h9:h<=9):∃(Q:Pc) (v':Int),FU [.m [.int v],.d (ep P)]=some (ep Q,[.m [.int v'],.d (ep P)])/\OkP Q w h:=by
 let st:=λ(u:Int) (Q:Pc) (a b:Option L)=>[some (.m [.int u]),some (.d (ep P)),some (.g (ep Q)),a,b]
 have lp:∃t7,Bp (dN 3) (BA (Cz (A8 0 An (AA (A9 By (AA (dOp AY (AD 1) (dC (.int 0))) AE)) AE)) (dN 4)) (HK 2 (dOp AY (GP (AA (Bc (AA (dC (.int 0)) (AA (dC (.int 1)) AE))) (AA (Bc (AA (dC (.int 1)) (AA (dC (.int 2)) AE))) (AA (Bc (AA (dC (.int 1)) (AA (dC (.int 3)) AE))) AE)))) (A8 0 An (AA (dC (.int 3)) AE))) (A8 0 An (AA (A9 By (AA (AD 1) AE)) AE)) (AD 4))) ((rng 0 (v % 7).toNat).map PyData.int) (st (v / 7) P none none)=some (.nx t7)/\∃u Q a b,nM a/\nM b/\OkP Q w h/\t7=st u Q a b:=by
  refine Bt (λ(_:List Int) τ=>∃u Q a b,nM a/\nM b/\OkP Q w h/\τ=st u Q a b) ⟨v / 7,P,none,none,Aa,Aa,o,rfl⟩ ?_
  rintro pre k post τ _ ⟨u,Q,a,b,ha,hb,oQ,rfl⟩
  have hw:(0:Int)<w:=by omega
  have hh:(0:Int)<h:=by omega
  have x0:=eE u (b:=(w:Int)) (by omega)
  have x1:=dz u hw
  have hk3:(u / w) % 3=0\/(u / w) % 3=1\/(u / w) % 3=2:=by omega
  obtain⟨s,hs⟩:∃s:Cl,AY (.list [.tuple [.int 0,.int 1],.tuple [.int 1,.int 2],.tuple [.int 1,.int 3]]) (.int (u / w % 3))=some (ec s):=by
   rcases hk3 with e|e|e<;>rw[e]
   ·exact⟨(0,1),rfl⟩
   ·exact⟨(1,2),rfl⟩
   ·exact⟨(1,3),rfl⟩
  have y0:=eE (u / w / 3) (b:=(h:Int)) (by omega)
  have y1:=dz (u / w / 3) hh
  refine⟨st u Q (some (.d (.int k))) b,st (u / w / 3 / h) (HR Q (u % w) (u / w / 3 % h) s) (some (.d (.int k))) (some (.d (.int (u % w)))),A4 (o:=a) rfl ha,?_,_,_,_,_,BW,BW,oQ.put y0 y1,rfl⟩
  refine(Ay (t6:=st (u / w) Q (some (.d (.int k))) (some (.d (.int (u % w))))) ?_).trans ?_
  ·exact EZ (CB (t6:=st u Q (some (.d (.int k))) b) (ds:=[.int (w:Int)]) (xs:=[.int u]) (ac1 (R5 o h1 rfl)) rfl rfl (Jz hw (by omega))) (A4 (o:=b) rfl hb)
  ·let sf:=λ(u':Int)=>[some (L.m [.int u']),some (.d (ep P)),some (.d (ep Q)),some (.d (.int k)),some (.d (.int (u % w)))]
   exact RU (t6:=sf (u / w / 3)) (t8:=sf (u / w / 3 / h)) (l0:=sf (u / w / 3 / h)) oQ rfl (op2 (t6:=sf (u / w)) rfl (CB (t6:=sf (u / w)) (rs:=[.d (.int 3)]) (ds:=[.int 3]) (xs:=[.int (u / w)]) rfl rfl rfl (Jz (by decide) (by decide))) hs) (CB (t6:=sf (u / w / 3)) (ds:=[.int (h:Int)]) (xs:=[.int (u / w / 3)]) (ac1 (Wn o rfl)) rfl rfl (Jz hh (by omega))) rfl rfl y0 y1 x0 x1
 obtain⟨t7,e,u,Q,a,b,ha,hb,oQ,rfl⟩:=lp
 refine⟨Q,u,?_,oQ⟩
 unfold FU
 refine BZ (τ:=st u Q a b) ?_ rfl rfl
 have z0:=eE v (b:=7) (by decide)
 have z1:=dz v (b:=7) (by decide)
 refine(CC (t6:=st v P none none) (FH (Qm rfl (by rw[o.len];omega)) (by decide) (by show 2<5;decide) rfl)).trans ?_
 refine(CC ((Dc (t6:=st (v / 7) P none none) (PH (n:=v % 7) (ac1 (CB (t6:=st v P none none) (rs:=[.d (.int 7)]) (ds:=[.int 7]) (xs:=[.int v]) rfl rfl rfl (Jz (by decide) (by decide)))) (by omega) (by omega))).trans e)).trans rfl
theorem YI{P:Pc}{w h:Nat}{v:Int}(o:OkP P w h)(w1:1<=w)(w9:w<=9)(h1:1<=h)(h9:h<=9):∃(Q:Pc) (v':Int),Eb [.m [.int v],.d (ep P)]=some (ep Q,[.m [.int v'],.d (ep P)])/\OkP Q w h:=by
 let st:=λ(u:Int)=>[some (L.m [.int u]),some (.d (ep P))]
 have t:AZ (dOp fEq (A8 0 An (AA (dC (.int 3)) AE)) (dC (.int 0))) (st v)=some (decide (v % 3=0),st (v / 3)) :=
  tst (op2 (CB (t6:=st v) (rs:=[.d (.int 3)]) (ds:=[.int 3]) (xs:=[.int v]) rfl rfl rfl (Jz (by decide) (by decide))) rfl (encI.fEq (v % 3) 0))
 unfold Eb
 by_cases hv:v % 3=0
 ·obtain⟨Q,u,e,oQ⟩:=J8 (v:=v / 3) (w:=w) (h:=h) (by omega) (by omega) (by omega) (by omega)
  rw[dD,dD]at oQ
  refine⟨Q,u,BZ (τ:=st u) ?_ rfl rfl,oQ⟩
  rw[decide_eq_true hv]at t
  have la:=acc (R5 o h1 (τ:=st (v / 3)) rfl) (ac1 (Wn o (τ:=st (v / 3)) rfl))
  exact(W0 t).trans (aq (EB (Ng (CB (ds:=[.int (w:Int),.int (h:Int)]) (xs:=[.int (v / 3)]) la rfl rfl e))))
 ·obtain⟨Q,u,e,oQ⟩:=YJ (v:=v / 3) o w1 w9 h1 h9
  refine⟨Q,u,BZ (τ:=st u) ?_ rfl rfl,oQ⟩
  rw[decide_eq_false hv]at t
  exact(Gv t).trans (EB (Ng (CB (t6:=st (v / 3)) (rs:=[.d (ep P)]) (ds:=[ep P]) (xs:=[.int (v / 3)]) rfl rfl rfl e)))
theorem RJ{P:Pc}(hz:P.length<=1000):CT [.d (ep P)]=some (ep P,[.d (ep P)]):=by
 unfold CT
 exact BZ (τ:=[some (.d (ep P))]) (EB (Qm rfl hz)) rfl rfl
theorem bS{p:Cl}{o1 o2:Option L}(h1:nM o1)(h2:nM o2):dGT (AL (dN 0) (AL (dN 1) BH)) (ec p) [o1,o2]=some [some (.d (.int p.1)),some (.d (.int p.2))]:=by
 show((dN 0 (.int p.1) [o1,o2]).bind λt6=>(dN 1 (.int p.2) t6).bind λt8=>some t8)=_
 rw[A4 (o:=o1) rfl h1]
 show((dN 1 (.int p.2) [some (.d (.int p.1)),o2]).bind λt8=>some t8)=_
 rw[A4 (o:=o2) rfl h2]
 rfl
theorem lcq{cs:List Cl}{τ:DS}{e:DX}{i:Nat}(f:Cl->PyData)(h:dIL (AD i) τ=some (cs.map ec,τ))(hz:cs.length<=1000)(he:∀p:Cl,e [some (.d (.int p.1)),some (.d (.int p.2))]=some (f p,[some (.d (.int p.1)),some (.d (.int p.2))])) :
  dLC 2 [] (dIL (AD i)) (dGT (AL (dN 0) (AL (dN 1) BH))) DC e τ=some (.list (cs.map f),τ):=by
 obtain ⟨t9, el⟩ := EO (enc := ec) (g := dGT (AL (dN 0) (AL (dN 1) BH))) (c := DC) (e := e) (λτ => ∃ o1 o2, nM o1 /\ nM o2 /\ τ = [o1, o2]) (λ_ => true) f (xs := cs) (acc := []) (τ := [none, none]) ⟨none, none, Aa, Aa, rfl⟩ (by
  rintro x τ _ ⟨o1,o2,h1,h2,rfl⟩
  exact⟨_,[some (.d (.int x.1)),some (.d (.int x.2))],bS h1 h2,rfl,λz=>(nomatch z),λ_=>⟨_,he x,_,_,BW,BW,rfl⟩⟩)
 rw[dU,gE.mpr (λ_ _=>rfl)]at el
 exact HI (ds:=cs.map ec) (t6:=τ) (t9:=t9) h (by rw[B'];exact sz hz) rfl el
def sw(p:Cl):List Int:=[p.2,p.1]
def us(k:List Int):Cl:=(k.getD 1 0,k.getD 0 0)
theorem UT:∀cs:List Cl,Nj (cs.map λp=>PyData.tuple [.int p.2,.int p.1])=some (cs.map sw)
 |[]=>rfl
 |c::cs=>by
  rw[P',Nj,UT cs]
  rfl
def rbr(cs:List Cl):List Cl:=(NL (FR (cs.map sw))).map us
theorem srt_mem{cs:List Cl}{k:List Int}:k∈NL (FR (cs.map sw))↔∃p∈cs,sw p=k:=by
 rw[(HN _).mem_iff,mem_once,cv]
theorem mem_rbr{cs:List Cl}{p:Cl}:p∈rbr cs↔p∈cs:=by
 unfold rbr
 rw[cv]
 constructor
 ·rintro⟨k,hk,rfl⟩
  obtain⟨q,hq,rfl⟩:=srt_mem.mp hk
  exact hq
 ·intro h
  exact⟨sw p,srt_mem.mpr ⟨p,h,rfl⟩,rfl⟩
theorem lex_sw{p q:Cl}:HT.lexLt (sw p) (sw q)=true↔lt2 p q:=by
 unfold sw lt2
 rw[HT.lexLt_cons,HT.lexLt_cons]
 by_cases e:p.2=q.2
 ·rw[if_pos e]
  by_cases e1:p.1=q.1
  ·rw[if_pos e1]
   have:HT.lexLt [] ([]:List Int)=false:=rfl
   rw[this]
   constructor
   ·intro z;cases z
   ·omega
  ·rw[if_neg e1,decide_eq_true_eq];omega
 ·rw[if_neg e,decide_eq_true_eq];omega
theorem S7(cs:List Cl):(rbr cs).Pairwise lt2:=by
 unfold rbr
 rw[fM]
 refine(List.Pairwise.and_mem.mp (Ik (GF (cs.map sw)))).imp ?_
 rintro a b ⟨ha,hb,h⟩
 obtain⟨p,_,rfl⟩:=srt_mem.mp ha
 obtain⟨q,_,rfl⟩:=srt_mem.mp hb
 exact lex_sw.mp h
theorem Zd{cs l:List Cl}(h:l.Pairwise lt2)(m:∀p,p∈l↔p∈cs):rbr cs=l:=J4 Nf (S7 cs) h λp=>mem_rbr.trans (m p).symm
theorem NW:∀(l:List (List Int)),(FR l).length<=l.length
 |[]=>W' _
 |x::r=>by
  have:=NW r
  unfold FR
  split
  ·exact Nat.le_succ_of_le this
  ·exact Nat.succ_le_succ this
theorem QJ(cs:List Cl):(rbr cs).length<=cs.length:=by
 unfold rbr
 rw[B',(HN _).length_eq]
 have:=NW (cs.map sw)
 rw[B']at this
 exact this
theorem ak{cs:List Cl}{f:DX}{τ t6:DS}(h:f τ=some (.list (cs.map λp=>PyData.tuple [.int p.2,.int p.1]),t6))(hz:cs.length<64):dSS f τ=some (.list ((rbr cs).map λp=>PyData.tuple [.int p.2,.int p.1]),t6):=by
 unfold dSS
 rw[h]
 show(Nj (cs.map λp=>PyData.tuple [.int p.2,.int p.1])).bind _=_
 rw[UT]
 show(if _ then _ else _)=_
 have ol:=NW (cs.map sw)
 rw[B']at ol
 rw[if_pos]
 ·have e:(NL (FR (cs.map sw))).map NG=(rbr cs).map λp=>PyData.tuple [.int p.2,.int p.1]:=by
   unfold rbr
   rw[cu]
   refine di λk hk=>?_
   obtain⟨q,_,rfl⟩:=srt_mem.mp hk
   rfl
  rw[e]
 ·refine⟨by rw[B'];omega,by omega,?_,?_⟩
  ·intro k hk
   obtain⟨p,hp,rfl⟩:=cv.mp hk
   cases cs with
   |nil=>simp at hp
   |cons c cs=>rfl
  ·cases cs with
   |nil=>decide
   |cons c cs=>show 1<=2;decide
def te(p:Cl):PyData:=.tuple [.int p.2,.int p.1]
theorem ON{cs:List Cl}(hz:cs.length<64):Eo [.d (.list (cs.map ec))]=some (.list ((rbr cs).map ec),[.d (.list (cs.map ec))]):=by
 have hl:=QJ cs
 have e1:dLC 2 [] (dIL (AD 0)) (dGT (AL (dN 0) (AL (dN 1) BH))) DC (Bc (AA (AD 1) (AA (AD 0) AE))) [some (.d (.list (cs.map ec))),none]=some (.list (cs.map λp=>PyData.tuple [.int p.2,.int p.1]),[some (.d (.list (cs.map ec))),none]) :=
  lcq (λp=>PyData.tuple [.int p.2,.int p.1]) rfl (by omega) λp=>rfl
 have e2:((rbr cs).map λp=>PyData.tuple [.int p.2,.int p.1])=((rbr cs).map λp=>((p.2,p.1):Cl)).map ec:=by rw[cu];rfl
 unfold Eo
 refine BZ (τ:=[some (.d (.list (cs.map ec))),some (.d (.list (((rbr cs).map λp=>((p.2,p.1):Cl)).map ec)))]) ?_ rfl rfl
 refine(Ay (t6:=[some (.d (.list (cs.map ec))),some (.d (.list (((rbr cs).map λp=>((p.2,p.1):Cl)).map ec)))]) (EZ (ak e1 hz) (by rw[e2];rfl))).trans ?_
 refine EB ?_
 have:=lcq (cs:=(rbr cs).map λp=>((p.2,p.1):Cl)) (τ:=[some (.d (.list (cs.map ec))),some (.d (.list (((rbr cs).map λp=>((p.2,p.1):Cl)).map ec)))]) (i:=1) (e:=Bc (AA (AD 1) (AA (AD 0) AE))) (λp=>PyData.tuple [.int p.2,.int p.1]) rfl (by rw[B'];omega) λp=>rfl
 have e3:(rbr cs).map ec=((rbr cs).map λp=>((p.2,p.1):Cl)).map λp=>PyData.tuple [.int p.2,.int p.1]:=by rw[cu];rfl
 rw[e3]
 exact this
structure Sx where
 x:Int
 y:Int
 m:Int
 deriving DecidableEq
def es(s:Sx):PyData:=.tuple [.int s.x,.int s.y,.int s.m]
def Az(l:List Sx):List Cl:=l.flatMap λs=>G1 s.x s.y s.m.toNat
def stS(l:List Sx)(c:Cl):List Sx:=match l.getLast? with
 |some s=>if c=(s.x+s.m,s.y) then l.dropLast++[⟨s.x,s.y,s.m+1⟩] else l++[⟨c.1,c.2,1⟩]
 |none=>l++[⟨c.1,c.2,1⟩]
def C5(cs:List Cl):List Sx:=cs.foldl stS []
theorem VD(cs:List Cl)(c:Cl):C5 (cs++[c])=stS (C5 cs) c:=by unfold C5;rw[List.foldl_append];rfl
theorem RV(x y m:Int)(h:0<=m):G1 x y (m+1).toNat=G1 x y m.toNat++[(x+m,y)]:=by
 unfold G1 rng
 rw[show(m+1).toNat=m.toNat+1 by omega,gk]
 simp
 omega
theorem Hj(l:List Sx)(s:Sx):Az (l++[s])=Az l++G1 s.x s.y s.m.toNat:=by unfold Az;rw[dm];simp
theorem ZV(c:Cl):stS [] c=[⟨c.1,c.2,1⟩]:=rfl
theorem QB(l:List Sx)(s:Sx)(c:Cl):stS (l++[s]) c=if c=(s.x+s.m,s.y) then l++[⟨s.x,s.y,s.m+1⟩] else l++[s]++[⟨c.1,c.2,1⟩]:=by
 unfold stS
 rw[List.getLast?_concat,eC]
structure Js(rs pre:List Cl)(acc:List Sx):Prop where
 flat:Az acc=pre
 pos:∀s∈acc,1<=s.m
 lo:∀s∈acc,(s.x-1,s.y)∉rs
 hi:∀s∈acc.dropLast,(s.x+s.m,s.y)∉rs
theorem adj{P post:List Cl}{a c q:Cl}(h:(P++a::c::post).Pairwise lt2)(h1:lt2 a q)(h2:lt2 q c):q∉P++a::c::post:=by
 obtain⟨p1,p2,p3⟩:=dq.mp h
 obtain⟨p4,p5⟩:=da.mp p2
 obtain⟨p6,p7⟩:=da.mp p5
 intro hq
 rcases cN.mp hq with hq|hq
 ·exact Nf _ _ h1 (p3 q hq a J')
 ·rcases X'.mp hq with e|hq
  ·subst e;exact Nf _ _ h1 h1
  ·rcases X'.mp hq with e|hq
   ·subst e;exact Nf _ _ h2 h2
   ·exact Nf _ _ h2 (p6 q hq)
theorem UW{rs pre:List Cl}{l:List Sx}{s:Sx}(J:Js rs pre (l++[s])):∃P,pre=P++[(s.x+s.m-1,s.y)]:=by
 have hm:=J.pos s (L' _ J')
 have f:=J.flat
 rw[Hj,show s.m=s.m-1+1 by omega,RV _ _ _ (by omega),<- dO]at f
 exact⟨_,by rw[<- f,show s.x+(s.m-1)=s.x+s.m-1 by omega]⟩
theorem YR{rs pre post:List Cl}{c:Cl}{acc:List Sx}(hs:rs.Pairwise lt2)(e:rs=pre++c::post)(J:Js rs pre acc):Js rs (pre++[c]) (stS acc c):=by
 rcases fH acc with rfl|⟨l,s,rfl⟩
 ·have hp:pre=[]:=J.flat.symm
  subst hp
  rw[ZV]
  refine⟨?_,λs hs'=>?_,λs hs'=>?_,λs hs'=>(dW hs').elim⟩
  ·show G1 c.1 c.2 1++[]=_
   unfold G1 rng
   simp
  ·rw[cW.mp hs'];exact Int.le_refl _
  ·rw[cW.mp hs',e]
   rw[e]at hs
   obtain⟨p1,_⟩:=da.mp hs
   intro hq
   rcases X'.mp hq with q|q
   ·have:=congrArg Prod.fst q;dsimp only at this;omega
   ·have:=p1 _ q;unfold lt2 at this;dsimp only at this;omega
 ·rw[fJ]at J ⊢
  obtain⟨P,hP⟩:=UW J
  have e2:rs=P++(s.x+s.m-1,s.y)::c::post:=by rw[e,hP,dO];rfl
  have hm:=J.pos s (L' _ J')
  rw[QB]
  by_cases hc:c=(s.x+s.m,s.y)
  ·rw[if_pos hc]
   refine⟨?_,λt ht=>?_,λt ht=>?_,λt ht=>?_⟩
   ·have f:=J.flat
    rw[Hj]at f ⊢
    show Az l++G1 s.x s.y (s.m+1).toNat=_
    rw[RV _ _ _ (by omega),<- dO,f,hc]
   ·rcases cN.mp ht with ht|ht
    ·exact J.pos t (cU _ ht)
    ·rw[cW.mp ht];show 1<=s.m+1;omega
   ·rcases cN.mp ht with ht|ht
    ·exact J.lo t (cU _ ht)
    ·rw[cW.mp ht];exact J.lo s (L' _ J')
   ·rw[eC]at ht
    exact J.hi t (by rw[eC];exact ht)
  ·rw[if_neg hc]
   have hs2:=hs
   rw[e2]at hs2
   have lt:lt2 (s.x+s.m-1,s.y) c:=by
    obtain⟨_,p2,_⟩:=dq.mp hs2
    exact(da.mp p2).1 c J'
   have hc':¬(c.1=s.x+s.m/\c.2=s.y):=λz=>hc (gg z.1 z.2)
   refine⟨?_,λt ht=>?_,λt ht=>?_,λt ht=>?_⟩
   ·rw[Hj,J.flat]
    show pre++G1 c.1 c.2 1=_
    unfold G1 rng
    simp
   ·rcases cN.mp ht with ht|ht
    ·exact J.pos t ht
    ·rw[cW.mp ht];exact Int.le_refl _
   ·rcases cN.mp ht with ht|ht
    ·exact J.lo t ht
    ·rw[cW.mp ht,e2]
     refine adj hs2 ?_ ?_<;>unfold lt2 at*<;> dsimp only at*<;> omega
   ·rw[eC]at ht
    rcases cN.mp ht with ht|ht
    ·exact J.hi t (by rw[eC];exact ht)
    ·rw[cW.mp ht,e2]
     refine adj hs2 ?_ ?_<;>unfold lt2 at*<;> dsimp only at*<;> omega
theorem Z1(rs:List Cl):Js rs [] []:=⟨rfl,λs h=>(dW h).elim,λs h=>(dW h).elim,λs h=>(dW h).elim⟩
theorem Wu{rs:List Cl}(hs:rs.Pairwise lt2):∀(post pre:List Cl) (acc:List Sx),rs=pre++post->Js rs pre acc->Js rs rs (post.foldl stS acc)
 |[],pre,acc,e,J=>by rw[dM]at e;subst e;exact J
 |c::post,pre,acc,e,J=>Wu hs post (pre++[c]) (stS acc c) (by rw[e,dO];rfl) (YR hs e J)
theorem FQ{rs:List Cl}(hs:rs.Pairwise lt2):Az (C5 rs)=rs/\(∀s∈C5 rs,1<=s.m/\(s.x-1,s.y)∉rs/\(s.x+s.m,s.y)∉rs):=by
 have J:Js rs rs (C5 rs):=Wu hs rs [] [] rfl (Z1 rs)
 refine⟨J.flat,λs hs'=>⟨J.pos s hs',J.lo s hs',?_⟩⟩
 rcases fH (C5 rs)with e|⟨l,t,e⟩
 ·rw[e]at hs';exact(dW hs').elim
 ·rw[e,fJ]at hs' J
  rcases cN.mp hs' with h|h
  ·exact J.hi s (by rw[eC];exact h)
  ·rw[cW.mp h]
   obtain⟨P,hP⟩:=UW J
   rw[hP]at hs ⊢
   obtain⟨p1,p2,p3⟩:=dq.mp hs
   intro hq
   rcases cN.mp hq with hq|hq
   ·have:=p3 _ hq _ J'
    unfold lt2 at this;dsimp only at this;omega
   ·have:=congrArg Prod.fst (cW.mp hq)
    dsimp only at this;omega
theorem NX{o:Option L}(h:nM o):okM o=true:=bE h
theorem Tf(s:Sx)(c:Cl):C2 [.d (es s),.d (ec c)]=some (.bool (decide (c=(s.x+s.m,s.y))),[.d (es s),.d (ec c)]):=by
 have e:fEq (ec c) (.tuple [.int (s.x+s.m),.int s.y])=some (.bool (decide (c=(s.x+s.m,s.y)))):=encC.fEq c (s.x+s.m,s.y)
 unfold C2
 refine BZ (τ:=[some (.d (es s)),some (.d (ec c))]) (EB ?_) rfl rfl
 show((fEq (ec c) (.tuple [.int (s.x+s.m),.int s.y])).map λd=>(d,_))=_
 rw[e];rfl
theorem U3(l:List Sx)(s:Sx):atI ((l++[s]).map es) (-1)=some (es s):=by
 unfold atI ixN
 rw[if_neg (by decide),B',cT,if_pos (by simp;omega)]
 have:(-1+((l.length+[s].length:Nat):Int)).toNat=l.length:=by simp;omega
 rw[this]
 simp
theorem UX(n:Nat):ixN (n+1) (-1)=some n:=by
 unfold ixN
 rw[if_neg (by decide),if_pos (by omega)]
 congr 1
 omega
def QA:DB:=Cu (Ho 1 (Fd (AZ (dOp fGt (A9 By (AA (AD 1) AE)) (dC (.int 0)))) (AZ (AX C2 (AA (dOp AY (AD 1) (dUn FZ (dC (.int 1)))) (AA (AD 2) AE)))))) (BA (Cz (LG 1 (dOp AY (AD 1) (dUn FZ (dC (.int 1))))) (dN 3)) (Ic 1 (Bc (AA (dOp Es (AD 3) (dC (.int 0))) (AA (dOp Es (AD 3) (dC (.int 1))) (AA (dOp B8 (dOp Es (AD 3) (dC (.int 2))) (dC (.int 1))) AE)))) (dUn FZ (dC (.int 1))))) (Fe (dMt 1 ER (AA (Bc (AA (dOp Es (AD 2) (dC (.int 0))) (AA (dOp Es (AD 2) (dC (.int 1))) (AA (dC (.int 1)) AE)))) AE)))
theorem WE{D:PyData}{acc:List Sx}{c:Cl}{o3:Option L}(n3:nM o3)(hl:acc.length<800) :
  ∃o3',nM o3'/\QA [some (.d D),some (.m (acc.map es)),some (.d (ec c)),o3]=some (.nx [some (.d D),some (.m ((stS acc c).map es)),some (.d (ec c)),o3']):=by
 let st:List Sx->Option L->DS:=λa o=>[some (.d D),some (.m (a.map es)),some (.d (ec c)),o]
 have ok3:=NX n3
 have app:∀o,Fe (dMt 1 ER (AA (Bc (AA (dOp Es (AD 2) (dC (.int 0))) (AA (dOp Es (AD 2) (dC (.int 1))) (AA (dC (.int 1)) AE)))) AE)) (st acc o)=some (.nx (st (acc++[⟨c.1,c.2,1⟩]) o)):=λo=>by
  refine(cI (d:=es ⟨c.1,c.2,1⟩) (xs:=acc.map es) (t6:=st acc o) rfl rfl rfl (by rw[B'];omega)).trans ?_
  show some (Out.nx [_,some (.m (acc.map es++[es ⟨c.1,c.2,1⟩])),_,_])=_
  show _=some (Out.nx [_,some (.m ((acc++[(⟨c.1,c.2,1⟩:Sx)]).map es)),_,_])
  rw[c9];rfl
 have tst:∀(q:Bool),Fd (AZ (dOp fGt (A9 By (AA (AD 1) AE)) (dC (.int 0)))) (AZ (AX C2 (AA (dOp AY (AD 1) (dUn FZ (dC (.int 1)))) (AA (AD 2) AE)))) [some (.d D),some (.d (.list (acc.map es))),some (.d (ec c)),o3]=some (q,[some (.d D),some (.d (.list (acc.map es))),some (.d (ec c)),o3]) ->
   Ho 1 (Fd (AZ (dOp fGt (A9 By (AA (AD 1) AE)) (dC (.int 0)))) (AZ (AX C2 (AA (dOp AY (AD 1) (dUn FZ (dC (.int 1)))) (AA (AD 2) AE))))) (st acc o3)=some (q,st acc o3):=λq h=>by
  unfold Ho
  show((Fd _ _ [some (.d D),some (.d (.list (acc.map es))),some (.d (ec c)),o3]).bind _)=_
  rw[h]
  show(if (okM _&&(okM _&&(okM _&&(okM o3&&true))))=true then _ else _)=_
  rw[ok3];rfl
 unfold QA
 rcases fH acc with rfl|⟨l,s,rfl⟩
 ·exact⟨o3,n3,(Gv (t6:=st [] o3) (tst false rfl)).trans (app o3)⟩
 ·rw[fJ]at *
  rw[QB]
  have tt:Fd (AZ (dOp fGt (A9 By (AA (AD 1) AE)) (dC (.int 0)))) (AZ (AX C2 (AA (dOp AY (AD 1) (dUn FZ (dC (.int 1)))) (AA (AD 2) AE)))) [some (.d D),some (.d (.list ((l++[s]).map es))),some (.d (ec c)),o3]=some (decide (c=(s.x+s.m,s.y)),[some (.d D),some (.d (.list ((l++[s]).map es))),some (.d (ec c)),o3]):=by
   let τ:DS:=[some (.d D),some (.d (.list ((l++[s]).map es))),some (.d (ec c)),o3]
   have t1:AZ (dOp fGt (A9 By (AA (AD 1) AE)) (dC (.int 0))) τ=some (true,τ):=by
    show(((fGt (.int (((l++[s]).map es).length:Int)) (.int 0)).map λd=>(d,τ)).bind _)=_
    have:fGt (.int (((l++[s]).map es).length:Int)) (.int 0)=some (.bool true):=by
     show some (PyData.bool (decide ((0:Int)<(((l++[s]).map es).length:Int))))=_
     rw[decide_eq_true (by rw[B',cT];simp only[List.length_cons];omega)]
    rw[this];rfl
   have t2:AA (dOp AY (AD 1) (dUn FZ (dC (.int 1)))) (AA (AD 2) AE) τ=some ([.d (es s),.d (ec c)],τ):=by
    show((((atI ((l++[s]).map es) (-1)).map λd=>(d,τ)).bind λp=>_))=_
    rw[U3];rfl
   have t3:AZ (AX C2 (AA (dOp AY (AD 1) (dUn FZ (dC (.int 1)))) (AA (AD 2) AE))) τ=some (decide (c=(s.x+s.m,s.y)),τ):=by
    unfold AZ
    rw[A2 t2 rfl (Tf s c)];rfl
   show Fd _ _ τ=_
   unfold Fd
   rw[t1]
   exact t3
  by_cases hc:c=(s.x+s.m,s.y)
  ·rw[if_pos hc]
   rw[decide_eq_true hc]at tt
   refine⟨some (.d (es s)),BW,(W0 (t6:=st (l++[s]) o3) (tst true tt)).trans ?_⟩
   refine(Ay (t6:=st (l++[s]) (some (.d (es s)))) (EZ (d:=es s) (t6:=st (l++[s]) o3) ?_ (A4 rfl n3))).trans ?_
   ·unfold LG
    show((((atI ((l++[s]).map es) (-1)).map λd=>(d,[some (.d D),some (.d (.list ((l++[s]).map es))),some (.d (ec c)),o3])).bind _))=_
    rw[U3]
    show(if (F5 (es s)&&(okM _&&(okM _&&(okM _&&(okM o3&&true)))))=true then _ else _)=_
    rw[ok3];rfl
   ·unfold Ic
    show((ixN ((l++[s]).map es).length (-1)).map λj=>Out.nx ((st (l++[s]) (some (.d (es s)))).set 1 (some (.m (((l++[s]).map es).set j (es ⟨s.x,s.y,s.m+1⟩))))))=_
    rw[B',cT,show l.length+[s].length=l.length+1 from rfl,UX]
    show some (Out.nx [_,some (.m (((l++[s]).map es).set l.length (es ⟨s.x,s.y,s.m+1⟩))),_,_])=_
    have:((l++[s]).map es).set l.length (es ⟨s.x,s.y,s.m+1⟩)=(l++[(⟨s.x,s.y,s.m+1⟩:Sx)]).map es:=by
     rw[c9,c9,List.set_append_right _ _ (by rw[B'];exact W' _),B',gi];rfl
    rw[this]
  ·rw[if_neg hc]
   rw[decide_eq_false hc]at tt
   exact⟨o3,n3,(Gv (t6:=st (l++[s]) o3) (tst false tt)).trans (app o3)⟩
theorem ZW(l:List Sx)(c:Cl):(stS l c).length<=l.length+1:=by
 rcases fH l with rfl|⟨l,s,rfl⟩
 ·exact W' _
 ·rw[fJ,QB]
  split<;>simp
theorem Kg:∀(cs:List Cl) (acc:List Sx),(cs.foldl stS acc).length<=acc.length+cs.length
 |[],acc=>W' _
 |c::cs,acc=>by
  have h1:=Kg cs (stS acc c)
  have h2:=ZW acc c
  rw[List.foldl_cons,cM]
  omega
theorem MT{cs:List Cl}(hz:cs.length<64):Ce [.d (.list (cs.map ec))]=some (.list ((C5 (rbr cs)).map es),[.d (.list (cs.map ec))]):=by
 have hl:=QJ cs
 have key:∃t7,Bp (dN 2) QA ((rbr cs).map ec) [some (.d (.list (cs.map ec))),some (.m []),none,none]=some (.nx t7) /\
   ∃o2 o3,nM o2/\nM o3/\t7=[some (.d (.list (cs.map ec))),some (.m ((C5 (rbr cs)).map es)),o2,o3]:=by
  refine Bt (λpre τ=>∃o2 o3,nM o2/\nM o3/\τ=[some (.d (.list (cs.map ec))),some (.m ((C5 pre).map es)),o2,o3]) ⟨none,none,Aa,Aa,rfl⟩ ?_
  rintro pre c post τ hx ⟨o2,o3,n2,n3,rfl⟩
  have hp:=O9 hx
  have hq:=Kg pre []
  obtain⟨o3',n3',e⟩:=WE (D:=.list (cs.map ec)) (acc:=C5 pre) (c:=c) n3 (by unfold C5;simp only[List.length_nil]at hq;omega)
  refine⟨_,_,A4 rfl n2,e,some (.d (ec c)),o3',BW,n3',?_⟩
  rw[VD]
 obtain⟨t7,e,o2,o3,n2,n3,rfl⟩:=key
 unfold Ce
 refine BZ (τ:=[some (.d (.list (cs.map ec))),some (.m ((C5 (rbr cs)).map es)),o2,o3]) ?_ rfl rfl
 refine(Ay (t6:=[some (.d (.list (cs.map ec))),some (.m []),none,none]) rfl).trans ?_
 refine(Ay ((Dc (ds:=(rbr cs).map ec) (t6:=[some (.d (.list (cs.map ec))),some (.m []),none,none]) ?_).trans e)).trans rfl
 unfold dIL
 rw[A2 (t6:=[some (.d (.list (cs.map ec))),some (.m []),none,none]) (ds:=[.list (cs.map ec)]) rfl rfl (ON (by omega))]
 rfl
theorem Lq:∀(k:Nat) (ds:List PyData) (f:Nat->PyData),(∀i (h:i<ds.length),f (k+i) = .tuple [.int ((k+i:Nat):Int),ds[i]])->D1 k ds=(List.range ds.length).map λi=>f (k+i)
 |k,[],f,_=>rfl
 |k,d::r,f,h=>by
  rw[D1,cM,fF,P',cu]
  congr 1
  ·have:=h 0 (by simp)
   rw[this];rfl
  ·rw [Lq (k + 1) r f (λi hi => by
    have:=h (i+1) (by simpa using hi)
    rw[show k+(i+1)=k+1+i by omega]at this
    rw[this];rfl)]
   refine di λi _=>?_
   show f (k+1+i)=f (k+(i+1))
   congr 1;omega
def eRw(P:Pc)(k:Nat):PyData:=.tuple [.int (k:Int),eL (P.getD k [])]
def eSh(r:List Cl)(x:Nat):PyData:=.tuple [.int (x:Int),ec (r.getD x (0,0))]
theorem aC(P:Pc):D1 0 (P.map eL)=(List.range P.length).map (eRw P):=by
 have := Lq 0 (P.map eL) (eRw P) (λi hi => by
  rw[B']at hi
  unfold eRw
  rw[ff,cO,Y' hi]
  simp)
 rw[this,B']
 refine di λi _=>?_
 rw[ff]
theorem aB(r:List Cl):D1 0 (r.map ec)=(List.range r.length).map (eSh r):=by
 have := Lq 0 (r.map ec) (eSh r) (λi hi => by
  rw[B']at hi
  unfold eSh
  rw[ff,cO,Y' hi]
  simp)
 rw[this,B']
 refine di λi _=>?_
 rw[ff]
def dif(A B:Pc)(y x:Nat):Bool:=!decide ((A.getD y []).getD x (0,0)=(B.getD y []).getD x (0,0))
def EM(A B:Pc)(y n:Nat):List Cl:=((List.range n).filter (dif A B y)).map λ(x:Nat)=>((x:Int),(y:Int))
def Bg(A B:Pc)(w h:Nat):List Cl:=(List.range h).flatMap λy=>EM A B y w
theorem Sg(A B:Pc)(y n:Nat):(EM A B y n).length<=n:=by
 unfold EM
 rw[B']
 have:=List.length_filter_le (dif A B y) (List.range n)
 rw[eT]at this
 exact this
theorem NP(A B:Pc)(w:Nat):∀h,((List.range h).flatMap λy=>EM A B y w).length<=w*h
 |0=>by simp
 |h+1=>by
  rw[gk,dm,cT]
  have:=NP A B w h
  have h2:=Sg A B h w
  simp only[List.flatMap_cons,List.flatMap_nil,List.append_nil]
  rw[Nat.mul_succ]
  omega
theorem Tt{A B:Pc}{w h:Nat}(oA:OkP A w h)(oB:OkP B w h)(w12:w<=12)(h9:h<=9):∃ls,CL [.d (ep A),.d (ep B)]=some (.list ((Bg A B w h).map ec),ls):=by
 let I:=λ(i:Int)=>some (L.d (.int i))
 let D:=λ(d:PyData)=>some (L.d d)
 let st:=λ(cs:List Cl) (y r:Option L)=>[D (ep A),D (ep B),some (.m (cs.map ec)),y,r]
 have lp:∃t7,Bp (dGT (AL (dN 3) (AL (dN 4) BH))) (Fe (dMt 2 Ep (AA (dLC 2 [3,1] (dIE (AD 4)) (dGT (AL (dN 0) (AL (dN 1) BH))) (AZ (dOp fNe (AD 1) (dOp AY (dOp AY (AD 3) (AD 2)) (AD 0)))) (Bc (AA (AD 0) (AA (AD 2) AE)))) AE))) ((List.range h).map (eRw A)) (st [] none none)=some (.nx t7)/\∃y r,nM y/\nM r/\t7=st ((List.range h).flatMap λy=>EM A B y w) y r:=by
  refine Bt (λ(pre:List Nat) τ=>∃y r,nM y/\nM r/\τ=st (pre.flatMap λy=>EM A B y w) y r) ⟨none,none,Aa,Aa,rfl⟩ ?_
  rintro pre k post τ hp ⟨y,r,ny,nr,rfl⟩
  have hk:k<h:=c7.mp (by rw[hp];simp)
  have hpl:=O9 hp
  rw[eT]at hpl
  have hpre:pre=List.range pre.length:=by
   have h1:List.range h=pre++k::post:=hp
   have h2:=congrArg (List.take pre.length) h1
   rw[List.take_left,List.take_range]at h2
   rw[Nat.min_eq_left (by omega)]at h2
   exact h2.symm
  have hl:(pre.flatMap λy=>EM A B y w).length<=w*pre.length:=by
   conv=>lhs;rw[hpre]
   exact NP A B w pre.length
  have hl2:w*pre.length<=12*9:=gu w12 (by omega)
  let ra:=A.getD k []
  let rb:=B.getD k []
  have hra:ra.length=w:=by have:=oA.row (y:=(k:Int)) (by omega) (by omega);rw[dD]at this;exact this
  have hrb:rb.length=w:=by have:=oB.row (y:=(k:Int)) (by omega) (by omega);rw[dD]at this;exact this
  let cs:=pre.flatMap λy=>EM A B y w
  let t6:=st cs (I k) (D (eL ra))
  have tg:dGT (AL (dN 3) (AL (dN 4) BH)) (eRw A k) (st cs y r)=some t6:=by
   show(dN 3 (.int (k:Int)) (st cs y r)).bind _=_
   rw[A4 (o:=y) rfl ny]
   show(dN 4 (eL ra) (st cs (I k) r)).bind _=_
   rw[A4 (o:=r) rfl nr];rfl
  obtain ⟨t9, el⟩ := EO (enc := eSh ra) (g := dGT (AL (dN 0) (AL (dN 1) BH))) (c := AZ (dOp fNe (AD 1) (dOp AY (dOp AY (AD 3) (AD 2)) (AD 0)))) (e := Bc (AA (AD 0) (AA (AD 2) AE))) (λτ => ∃ o1 o2, nM o1 /\ nM o2 /\ τ = [o1, o2, I k, D (ep B)]) (dif A B k) (λx => ec ((x : Int), (k : Int))) (xs := List.range w) (acc := []) (τ := [none, none, I k, D (ep B)]) ⟨none, none, Aa, Aa, rfl⟩ (by
   rintro x τ hx ⟨o1,o2,n1,n2,rfl⟩
   have hx:=c7.mp hx
   let t1:DS:=[I x,D (ec (ra.getD x (0,0))),I k,D (ep B)]
   have e1:AY (ep B) (.int (k:Int))=some (eL rb):=by have:=Lg oB (y:=(k:Int)) (by omega) (by omega);rw[dD]at this;exact this
   have e2:AY (eL rb) (.int (x:Int))=some (ec (rb.getD x (0,0))):=by have:=Ww (cs:=rb) (k:=(x:Int)) (by omega) (by omega);rw[dD]at this;exact this
   refine⟨t1,t1,?_,tst (oQ (ec (ra.getD x (0,0))) (ec (rb.getD x (0,0))) t1 rfl (op2 (op2 rfl rfl e1) rfl e2) (encC.fNe _ _)),λ_=>⟨_,_,BW,BW,rfl⟩,λ_=>⟨t1,rfl,_,_,BW,BW,rfl⟩⟩
   show(dN 0 (.int (x:Int)) [o1,o2,I k,D (ep B)]).bind _=_
   rw[A4 (o:=o1) rfl n1]
   show(dN 1 (ec (ra.getD x (0,0))) [I x,o2,I k,D (ep B)]).bind _=_
   rw[A4 (o:=o2) rfl n2];rfl)
  rw[dU]at el
  have hi:dIE (AD 4) t6=some ((List.range w).map (eSh ra),t6):=by
   show some (D1 0 (ra.map ec),t6)=_
   rw[aB,hra]
  have ef:((List.range w).filter (dif A B k)).map (λ(x:Nat)=>ec ((x:Int),(k:Int)))=(EM A B k w).map ec:=by unfold EM;rw[cu];rfl
  rw[ef]at el
  have e1:=HI (own:=2) (fr:=[3,1]) (t9:=t9) hi (by rw[B',eT];exact sz (by omega)) rfl el
  have hcl:=Sg A B k w
  have e2:=cF (i:=2) (xs:=cs.map ec) (ys:=(EM A B k w).map ec) (ac1 e1) rfl rfl (by rw[B',B'];show(pre.flatMap λy=>EM A B y w).length+_<=900;omega)
  refine⟨t6,st ((pre++[k]).flatMap λy=>EM A B y w) (I k) (D (eL ra)),tg,e2.trans ?_,_,_,BW,BW,rfl⟩
  show some (Out.nx [D (ep A),D (ep B),some (.m (cs.map ec++(EM A B k w).map ec)),I k,D (eL ra)])=some (Out.nx [D (ep A),D (ep B),some (.m (((pre++[k]).flatMap λy=>EM A B y w).map ec)),I k,D (eL ra)])
  rw[dm,c9]
  simp only[List.flatMap_cons,List.flatMap_nil,List.append_nil]
  rfl
 obtain⟨t7,el,y,r,ny,nr,rfl⟩:=lp
 refine⟨[.d (ep A),.d (ep B)],?_⟩
 unfold CL
 refine BZ (τ:=st (Bg A B w h) y r) ?_ rfl rfl
 refine(Ay (t6:=st [] none none) rfl).trans ((Ay ((Dc (ds:=(List.range h).map (eRw A)) (t6:=st [] none none) ?_).trans el)).trans rfl)
 show some (D1 0 (A.map eL),st [] none none)=_
 rw[aC,oA.len]
theorem OG{A B:Pc}{y n:Nat}{c:Cl}(h:c∈EM A B y n):c.2=y/\0<=c.1/\c.1<n/\dif A B y c.1.toNat=true:=by
 unfold EM at h
 obtain⟨x,hx,rfl⟩:=cv.mp h
 obtain⟨h1,h2⟩:=dg.mp hx
 have:=c7.mp h1
 exact⟨rfl,by show(0:Int)<=x;omega,by show(x:Int)<n;omega,by show dif A B y ((x:Int)).toNat=true;rw[dD];exact h2⟩
theorem Sf(A B:Pc)(y n:Nat):(EM A B y n).Pairwise lt2:=by
 unfold EM
 rw[fM]
 refine List.Pairwise.imp ?_ ((List.pairwise_lt_range (n:=n)).filter (dif A B y))
 intro a b hab
 show lt2 ((a:Int),(y:Int)) ((b:Int),(y:Int))
 unfold lt2
 simp
 omega
theorem Bl(A B:Pc)(w:Nat):∀h,(Bg A B w h).Pairwise lt2
 |0=>by simp[Bg]
 |h+1=>by
  have e:Bg A B w (h+1)=Bg A B w h++EM A B h w:=by unfold Bg;rw[gk,dm];simp
  rw[e]
  refine dq.mpr ⟨Bl A B w h,Sf A B h w,λa ha b hb=>?_⟩
  obtain⟨y,hy,ha⟩:=fA.mp ha
  have:=c7.mp hy
  have h1:=(OG ha).1
  have h2:=(OG hb).1
  unfold lt2
  left
  omega
theorem KU{F:List PyData->Option PyData}{a:DA}{τ t6:DS}{rs:List Ar}{ds:List PyData}{d:PyData}(h:a τ=some (rs,t6))(k:Cc rs=some ds)(f:F ds=some d):A9 F a τ=some (d,t6):=by
 unfold A9
 rw[h]
 show(Cc rs).bind _=_
 rw[k]
 show(F ds).map _=_
 rw[f];rfl
theorem QL{i:Nat}{e k:DX}{τ t6 t8:DS}{d:PyData}{ks:List PyData}{c:List Int}{m:List (List Int×PyData)}(he:e τ=some (d,t6))(hk:k t6=some (.tuple ks,t8))(hm:t8[i]?=some (some (.k m)))(hc:tkP.tkI ks=some c)(hz:m.length<sizeLine):Ie i e k τ=some (.nx (t8.set i (some (.k (LL m c d))))):=by
 unfold Ie
 rw[he]
 show(k t6).bind _=_
 rw[hk]
 dsimp only[Option.bind]
 rw[hm]
 dsimp only
 rw[hc]
 dsimp only
 rw[if_pos hz]
theorem DE{G:Mir}{a:DA}{τ t6:DS}{xs:List PyData}(h:AX G a τ=some (.list xs,t6)):dLs (AX G a) τ=some (.list xs,t6):=by
 unfold dLs
 rw[h];rfl
theorem XD{α:Type}(l:List α):l.filter (λ_=>true)=l:=gE.mpr λ_ _=>rfl
structure Fw where
 x:Int
 y:Int
 o:List Cl
 n:List Cl
def ef(f:Fw):PyData:=.tuple [.int f.x,.int f.y,eL f.o,eL f.n]
def Ak(A B:Pc)(s:Sx):Fw:=⟨s.x,s.y,(rng 0 s.m.toNat).map λv=>Ae A (s.x+v) s.y,(rng 0 s.m.toNat).map λv=>Ae B (s.x+v) s.y⟩
def frS(A B:Pc)(cs:List Cl):List Fw:=(C5 cs).map (Ak A B)
def kv(A:Pc)(cs:List Cl):List (List Int×PyData):=cs.map λc=>([c.1,c.2],ec (Ae A c.1 c.2))
theorem Ue{A:Pc}{c:Cl}:∀{cs:List Cl},c∈cs->Ti (kv A cs) [c.1,c.2]=some (ec (Ae A c.1 c.2))
 |d::cs,h=>by
  show(if [d.1,d.2]=[c.1,c.2] then _ else Ti (kv A cs) [c.1,c.2])=_
  by_cases e:[d.1,d.2]=[c.1,c.2]
  ·rw[if_pos e]
   injection e with e1 e2
   injection e2 with e2 _
   show some (ec (Ae A d.1 d.2))=_
   rw[e1,e2]
  ·rw[if_neg e]
   rcases X'.mp h with z|z
   ·subst z;exact absurd rfl e
   ·exact Ue z
theorem Mr{A:Pc}{c:Cl}:∀{cs:List Cl},c∉cs->LL (kv A cs) [c.1,c.2] (ec (Ae A c.1 c.2))=kv A (cs++[c])
 |[],_=>rfl
 |d::cs,h=>by
  show(if [d.1,d.2]=[c.1,c.2] then _ else ([d.1,d.2],ec (Ae A d.1 d.2))::LL (kv A cs) [c.1,c.2] (ec (Ae A c.1 c.2)))=_
  rw [if_neg (λe => h (by
   injection e with e1 e2
   injection e2 with e2 _
   rw[show d=c from gg e1 e2];exact J' ..))]
  exact congrArg (([d.1,d.2],ec (Ae A d.1 d.2))::·) (Mr (A:=A) (cs:=cs) λz=>h (E' _ z))
theorem Wv{A:Pc}{c:Cl}{cs:List Cl}(h:c∈cs):HH (.dict (BC (kv A cs))) (ec c)=some (ec (Ae A c.1 c.2)):=by
 show HH (.dict (BC (kv A cs))) (NG [c.1,c.2])=_
 rw[Z2];exact Ue h
theorem Xf{τ:DS}{rows l1 l2:List PyData}{x y:Int}(h3:τ[3]?=some (some (.g (.list rows))))(h4:τ[4]?=some (some (.d (.int x))))(h5:τ[5]?=some (some (.d (.int y))))(h7:τ[7]?=some (some (.g (.list l1))))(h8:τ[8]?=some (some (.g (.list l2))))(hz:rows.length<=1000-1) :
  KQ 3 (AD 4) (AD 5) 7 8 τ=some (.nx (((τ.set 7 none).set 8 none).set 3 (some (.g (.list (rows++[.tuple [.int x,.int y,.list l1,.list l2]])))))):=by
 have e4:AD 4 τ=some (.int x,τ):=by unfold AD;rw[h4]
 have e5:AD 5 τ=some (.int y,τ):=by unfold AD;rw[h5]
 unfold KQ
 rw[h3]
 dsimp only
 rw[e4]
 dsimp only[Option.bind]
 rw[e5]
 dsimp only
 rw[h3,h7,h8]
 dsimp only
 rw[if_pos ⟨fX hz (by decide),rfl,rfl,by decide,by decide,by decide⟩]
theorem NA{A B:Pc}{w h:Nat}{c:Cl}(hc:c∈Bg A B w h):0<=c.1/\c.1<w/\0<=c.2/\c.2<h/\Ae A c.1 c.2≠Ae B c.1 c.2:=by
 obtain⟨y,hy,hc⟩:=fA.mp hc
 have:=c7.mp hy
 obtain⟨h1,h2,h3,h4⟩:=OG hc
 refine⟨h2,h3,by omega,by omega,λe=>?_⟩
 unfold dif at h4
 have e2:c.2.toNat=y:=by omega
 unfold Ae at e
 rw[e2]at e
 rw[e]at h4
 simp at h4
abbrev Hh(w h:Nat):Prop:=h<=9/\w*h<=63
theorem Hl(A B:Pc){w h:Nat}(w9:w<=9)(h6:Hh w h):(Bg A B w h).length<=63:=by
 have h1:=NP A B w h
 have h2:=h6.2
 unfold Bg
 omega
theorem Sj{α:Type}(l:List α)(a:α):atI (l++[a]) (-1)=some a:=by
 unfold atI
 rw[cT,dH,UX]
 simp
theorem Ql(n:Nat)(f:Int->Cl):((rng 0 n).map f).length=n:=by rw[B',Fs]
theorem Z5(p:Cl):∃ls,Br [.d (ec p)]=some (.bool true,ls):=⟨_,rfl⟩
theorem Xx{P:Pc}{w h:Nat}(o:OkP P w h)(w9:w<=9)(h9:h<=9):∃ls,Ag [.d (ep P),.d (ep P)]=some (.bool true,ls):=by
 let st:=λ(y:Option L)=>[some (L.d (ep P)),some (.d (ep P)),y]
 have ln:∀(i:Nat) (y:Option L),i<2->A9 By (AA (AD i) AE) (st y)=some (.int h,st y):=λi y hi=>by
  have hv:AD i (st y)=some (ep P,st y):=by
   rcases(show i=0\/i=1 by omega)with rfl|rfl<;>rfl
  unfold A9
  rw[ac1 hv]
  show some (PyData.int ((P.map eL).length:Nat),st y)=_
  rw[B',o.len]
 have lp:∃t7,Bp (dN 2) (BA (Cu (GB (Bm (AZ (Ij "list" (dOp AY (AD 0) (AD 2))))) (AZ (dOp fNe (dOp AY (AD 0) (AD 2)) (dOp AY (AD 1) (AD 2))))) (Be (dC (.bool false))) Eu) (Cu (AZ (dOp fNe (dLC 1 [] (dIL (dOp AY (AD 0) (AD 2))) (dN 0) (Bm (AZ (AX Br (AA (AD 0) AE)))) (AD 0)) (GP AE))) (Be (dC (.bool false))) Eu)) ((rng 0 (h:Int).toNat).map PyData.int) (st none)=some (.nx t7)/\∃y,nM y/\t7=st y:=by
  refine Bt (λ(_:List Int) τ=>∃y,nM y/\τ=st y) ⟨none,Aa,rfl⟩ ?_
  rintro pre k post τ hp ⟨y,hy,rfl⟩
  have hk:=mem_rng.mp (show k∈rng 0 (h:Int).toNat by rw[hp];simp)
  rw[Int.zero_add]at hk
  let r:=P.getD k.toNat []
  have er:∀i,i<2->dOp AY (AD i) (AD 2) (st (some (.d (.int k))))=some (eL r,st (some (.d (.int k)))):=λi hi=>by
   rcases(show i=0\/i=1 by omega)with rfl|rfl
   ·exact op2 (x:=ep P) rfl rfl (Lg o hk.1 hk.2)
   ·exact op2 (x:=ep P) rfl rfl (Lg o hk.1 hk.2)
  have t1:AZ (Ij "list" (dOp AY (AD 0) (AD 2))) (st (some (.d (.int k))))=some (true,st (some (.d (.int k)))):=by
   refine tst ?_
   unfold Ij
   rw[er 0 (by decide)];rfl
  have t2:AZ (dOp fNe (dOp AY (AD 0) (AD 2)) (dOp AY (AD 1) (AD 2))) (st (some (.d (.int k))))=some (false,st (some (.d (.int k)))):=by
   refine tst (op2 (er 0 (by decide)) (er 1 (by decide)) ?_)
   have:=encC.fNeL r r
   rw[decide_eq_true (rfl:r=r)]at this
   exact this
  have hr:r.length<=9:=by have:=o.row hk.1 hk.2;show(P.getD k.toNat []).length<=9;omega
  have t3:AZ (dOp fNe (dLC 1 [] (dIL (dOp AY (AD 0) (AD 2))) (dN 0) (Bm (AZ (AX Br (AA (AD 0) AE)))) (AD 0)) (GP AE)) (st (some (.d (.int k))))=some (false,st (some (.d (.int k)))):=by
   obtain ⟨t9, el⟩ := EO (enc := ec) (g := dN 0) (c := Bm (AZ (AX Br (AA (AD 0) AE)))) (e := AD 0) (λτ => ∃ o, nM o /\ τ = [o]) (λ_ => false) ec (xs := r) (acc := []) (τ := [none]) ⟨none, Aa, rfl⟩ (by
    rintro c τ _ ⟨o,ho,rfl⟩
    obtain⟨ls,e⟩:=Z5 c
    exact⟨_,[some (.d (ec c))],A4 (o:=o) rfl ho,RO (b:=true) (tst (A2 (rs:=[.d (ec c)]) (ds:=[ec c]) rfl rfl e)),λ_=>⟨_,BW,rfl⟩,λz=>(nomatch z)⟩)
   have hf:r.filter (λ_=>false)=[]:=by simp
   rw[dU,hf]at el
   have hi:dIL (dOp AY (AD 0) (AD 2)) (st (some (.d (.int k))))=some (r.map ec,st (some (.d (.int k)))):=by
    unfold dIL
    rw[er 0 (by decide)];rfl
   exact tst (op2 (HI (t9:=t9) hi (by rw[B'];exact sz (by omega)) rfl el) (y:=.list (([]:List Cl).map ec)) rfl (encC.fNeL [] []))
  exact⟨_,st (some (.d (.int k))),A4 (o:=y) rfl hy,(Ay ((Gv (WX (RO t1) t2)).trans rfl)).trans ((Gv t3).trans rfl),_,BW,rfl⟩
 obtain⟨t7,el,y,hy,rfl⟩:=lp
 unfold Ag
 refine⟨_,BZ (τ:=st y) ?_ rfl rfl⟩
 have t1:AZ (Ij "list" (AD 0)) (st none)=some (true,st none):=rfl
 have t2:AZ (dOp fNe (A9 By (AA (AD 0) AE)) (A9 By (AA (AD 1) AE))) (st none)=some (false,st none):=by
  refine tst (op2 (ln 0 none (by decide)) (ln 1 none (by decide)) ?_)
  have:=encI.fNe (h:Int) h
  rw[decide_eq_true (rfl:(h:Int)=h)]at this
  exact this
 exact(Ay ((Gv (WX (RO t1) t2)).trans rfl)).trans ((Ay ((Dc (PH (n:=h) (ac1 (ln 1 none (by decide))) (by omega) (by omega))).trans el)).trans rfl)
theorem JZ{P:Pc}(hz:P.length<=1000):Aq [.d (ep P)]=some (ep P,[.d (ep P)]):=by
 unfold Aq
 exact BZ (τ:=[some (.d (ep P))]) (EB (Qm rfl hz)) rfl rfl
theorem G8{f:DX}{a:DS->Option (List PyData×DS)}{τ t6 t8:DS}{d:PyData}{ds:List PyData}(h:f τ=some (d,t6))(k:a t6=some (ds,t8)):Ga f a τ=some (d::ds,t8):=by
 unfold Ga
 rw[h]
 dsimp only[Option.bind]
 rw[k];rfl
theorem SM{α:Type}(l:List α)(i j:Nat)(x d:α):(l.set i x).getD j d=if i=j/\i<l.length then x else l.getD j d:=by
 rw[cO,cO,List.getElem?_set]
 by_cases h:i=j
 ·subst h
  rw[if_pos rfl]
  by_cases z:i<l.length
  ·rw[if_pos z,if_pos ⟨rfl,z⟩];rfl
  ·rw[if_neg z,if_neg λw=>z w.2,dR (Nat.le_of_not_lt z)]
 ·rw[if_neg h,if_neg λw=>h w.1]
def InR(w h:Nat)(c:Cl):Prop:=0<=c.1/\c.1<w/\0<=c.2/\c.2<h
theorem YX{P:Pc}{w h:Nat}(o:OkP P w h){c d s:Cl}(rc:InR w h c)(rd:InR w h d):Ae (HR P c.1 c.2 s) d.1 d.2=if d=c then s else Ae P d.1 d.2:=by
 obtain⟨c1,c2,c3,c4⟩:=rc
 obtain⟨d1,d2,d3,d4⟩:=rd
 unfold Ae HR
 have hl:c.2.toNat<P.length:=by rw[o.len];omega
 rw[SM]
 by_cases hy:c.2=d.2
 ·rw[if_pos ⟨by rw[hy],hl⟩,SM]
  have hr:=o.row c3 c4
  by_cases hx:c.1=d.1
  ·rw[if_pos ⟨by rw[hx],by rw[hr];omega⟩,if_pos (gg hx.symm hy.symm)]
  ·rw[if_neg λz=>hx (by have:=z.1;omega),if_neg λz=>hx (by rw[z]),hy]
 ·rw[if_neg λz=>hy (by have:=z.1;omega),if_neg λz=>hy (by rw[z])]
def Jb(B P:Pc)(cs:List Cl):Pc:=cs.foldl (λP c=>HR P c.1 c.2 (Ae B c.1 c.2)) P
theorem QM{B:Pc}{w h:Nat}:∀{cs:List Cl} {P:Pc},OkP P w h->(∀c∈cs,InR w h c)->OkP (Jb B P cs) w h
 |[],_,o,_=>o
 |c::cs,P,o,hr=>QM (cs:=cs) (o.put (hr c (J' ..)).2.2.1 (hr c (J' ..)).2.2.2) λd hd=>hr d (E' _ hd)
theorem Rb{B:Pc}{w h:Nat}{d:Cl}(rd:InR w h d):∀{cs:List Cl} {P:Pc},OkP P w h->(∀c∈cs,InR w h c)->Ae (Jb B P cs) d.1 d.2=if d∈cs then Ae B d.1 d.2 else Ae P d.1 d.2
 |[],P,_,_=>by rw[if_neg λz=>(nomatch z)];rfl
 |c::cs,P,o,hr=>by
  have rc:=hr c (J' ..)
  show Ae (Jb B (HR P c.1 c.2 (Ae B c.1 c.2)) cs) d.1 d.2=_
  rw[Rb rd (cs:=cs) (o.put rc.2.2.1 rc.2.2.2) λz hz=>hr z (E' _ hz),YX o rc rd]
  by_cases h1:d∈cs
  ·rw[if_pos h1,if_pos (E' _ h1)]
  ·rw[if_neg h1]
   by_cases h2:d=c
   ·rw[if_pos h2,if_pos (by rw[h2];exact J' ..),h2]
   ·rw[if_neg h2,if_neg λz=>(X'.mp z).elim h2 h1]
theorem Zk{P Q:Pc}{w h:Nat}(oP:OkP P w h)(oQ:OkP Q w h)(e:∀c:Cl,InR w h c->Ae P c.1 c.2=Ae Q c.1 c.2):P=Q:=by
 refine gc (by rw[oP.len,oQ.len]) λy h1 h2=>?_
 have hy:y<h:=by rw[oP.len]at h1;exact h1
 have rP:=oP.row (y:=(y:Int)) (by omega) (by omega)
 have rQ:=oQ.row (y:=(y:Int)) (by omega) (by omega)
 have gP:P.getD y []=P[y]:=by rw[cO,Y' h1];rfl
 have gQ:Q.getD y []=Q[y]:=by rw[cO,Y' h2];rfl
 rw[dD]at rP rQ
 rw[gP]at rP
 rw[gQ]at rQ
 refine gc (by rw[rP,rQ]) λx h3 h4=>?_
 have hx:x<w:=by rw[rP]at h3;exact h3
 have:=e ((x:Int),(y:Int)) ⟨by show 0<=(x:Int);omega,by show(x:Int)<w;omega,by show 0<=(y:Int);omega,by show(y:Int)<h;omega⟩
 unfold Ae at this
 dsimp only at this
 rw[dD,dD,gP,gQ,cO,cO,Y' h3,Y' h4]at this
 exact this
theorem diff_mem{A B:Pc}{w h:Nat}{c:Cl}:c∈Bg A B w h↔InR w h c/\Ae A c.1 c.2≠Ae B c.1 c.2:=by
 refine⟨λhc=>?_,λ⟨⟨a,b,d,e⟩,n⟩=>?_⟩
 ·obtain⟨a,b,d,e,n⟩:=NA hc
  exact⟨⟨a,b,d,e⟩,n⟩
 ·refine fA.mpr ⟨c.2.toNat,c7.mpr (by omega),?_⟩
  unfold EM
  refine cv.mpr ⟨c.1.toNat,dg.mpr ⟨c7.mpr (by omega),?_⟩,?_⟩
  ·unfold dif
   unfold Ae at n
   simpa using n
  ·refine gg ?_ ?_
   ·show(c.1.toNat:Int)=c.1;omega
   ·show(c.2.toNat:Int)=c.2;omega
theorem VM{A B:Pc}{w h:Nat}(oA:OkP A w h)(oB:OkP B w h):Jb B A (Bg A B w h)=B:=by
 have hr:∀c∈Bg A B w h,InR w h c:=λc hc=>(diff_mem.mp hc).1
 refine Zk (QM oA hr) oB λc rc=>?_
 rw[Rb rc oA hr]
 by_cases z:c∈Bg A B w h
 ·rw[if_pos z]
 ·rw[if_neg z]
  by_cases y:Ae A c.1 c.2=Ae B c.1 c.2
  ·exact y
  ·exact absurd (diff_mem.mpr ⟨rc,y⟩) z
theorem WD{A B:Pc}{w h:Nat}{s:Sx}(hs:s∈C5 (Bg A B w h)):1<=s.m/\0<=s.x/\s.x+s.m<=w/\0<=s.y/\s.y<h:=by
 obtain⟨hf,hm⟩:=FQ (Bl A B w h)
 have m1:=(hm s hs).1
 have cell:∀v:Int,0<=v->v<s.m->InR w h (s.x+v,s.y):=λv v0 v1=>by
  refine(diff_mem (A:=A) (B:=B)).mp ?_ |>.1
  rw[<- hf]
  refine fA.mpr ⟨s,hs,?_⟩
  unfold G1 rng
  rw[cu]
  exact cv.mpr ⟨v.toNat,c7.mpr (by omega),gg (by show s.x+(v.toNat:Int)=s.x+v;omega) rfl⟩
 have c0:=cell 0 (by omega) (by omega)
 have c1:=cell (s.m-1) (by omega) (by omega)
 obtain⟨a1,a2,a3,a4⟩:=c0
 obtain⟨b1,b2,b3,b4⟩:=c1
 dsimp only at a1 a2 a3 a4 b1 b2 b3 b4
 exact⟨m1,by omega,by omega,a3,a4⟩
theorem Ux(l:List PyData){x:Int}(m:Nat)(x0:0<=x):RI l (some x) (some (x+(m:Int)))=(l.drop x.toNat).take m:=by
 unfold RI
 have e1:HT.sIx l.length 0 (some x)=min x.toNat l.length:=by
  show(if x<0 then (x+(l.length:Int)).toNat else min x.toNat l.length)=_
  rw[if_neg (by omega)]
 have e2:HT.sIx l.length l.length (some (x+(m:Int)))=min (x.toNat+m) l.length:=by
  show(if x+(m:Int)<0 then (x+(m:Int)+(l.length:Int)).toNat else min (x+(m:Int)).toNat l.length)=_
  rw[if_neg (by omega),show(x+(m:Int)).toNat=x.toNat+m by omega]
 rw[e1,e2]
 refine gZ λi=>?_
 rw[gS,gS,gT,gT]
 by_cases h1:x.toNat<=l.length
 ·rw[Nat.min_eq_left h1]
  by_cases h2:i<m
  ·rw[if_pos h2]
   by_cases h3:i<min (x.toNat+m) l.length-x.toNat
   ·rw[if_pos h3]
   ·rw[if_neg h3,dR (by omega)]
  ·rw[if_neg h2,if_neg (by omega)]
 ·rw[Nat.min_eq_right (Nat.le_of_not_le h1),dR (show l.length<=l.length+i by omega),dR (show l.length<=x.toNat+i by omega)]
  split<;>split<;>rfl
def slQ(Q:Pc)(x y:Int)(m:Nat):List Cl:=if y<Q.length then ((Q.getD y.toNat []).drop x.toNat).take m else []
theorem cE{Q:Pc}{y:Int}(h0:0<=y)(h1:y<Q.length):AY (ep Q) (.int y)=some (eL (Q.getD y.toNat [])):=by
 show atI (Q.map eL) y=_
 unfold atI
 rw[B',Lh h0 h1]
 show(Q.map eL)[y.toNat]?=_
 rw[U',cO,Y' (show y.toNat<Q.length by omega)]
 rfl
theorem Sh{F G:PyData->PyData->Option PyData}{a b c:DX}{τ:DS}{x y z:PyData}{r:Bool}(ha:a τ=some (x,τ))(hb:b τ=some (y,τ))(hc:c τ=some (z,τ))(h1:F x y=some (.bool true))(h2:G y z=some (.bool r)):Ey F G a b c τ=some (.bool r,τ):=by
 unfold Ey
 rw[ha]
 dsimp only[Option.bind]
 rw[hb]
 dsimp only
 rw[h1]
 dsimp only
 rw[hc]
 dsimp only
 rw[h2];rfl
theorem b8{x y:DT}{τ t6 t8:DS}(h1:x τ=some (false,t6))(h2:y t6=some (true,t8)):GB x y τ=some (true,t8):=by
 unfold GB
 rw[h1]
 dsimp only[Option.bind]
 simp only[Bool.false_eq_true,if_false]
 rw[h2]
theorem QE{Q:Pc}{x y:Int}{m:Nat}(x0:0<=x)(y0:0<=y):∃ls,DV [.d (ep Q),.d (.int x),.d (.int y),.d (.int m)]=some (eL (slQ Q x y m),ls):=by
 let τ:DS:=[some (.d (ep Q)),some (.d (.int x)),some (.d (.int y)),some (.d (.int m))]
 have t1:AZ (dOp fLt (AD 1) (dC (.int 0))) τ=some (false,τ):=by
  refine tst (op2 (x:=.int x) (y:=.int 0) (t6:=τ) (t8:=τ) rfl rfl ?_)
  show some (PyData.bool (decide (x<0)))=_
  rw[decide_eq_false (by omega)]
 have ln:A9 By (AA (AD 0) AE) τ=some (.int Q.length,τ):=KU (ac1 (d:=ep Q) rfl) rfl (by show some (PyData.int ((Q.map eL).length:Nat))=_;rw[B'])
 have t2:AZ (Ey fLe fLt (dC (.int 0)) (AD 2) (A9 By (AA (AD 0) AE))) τ=some (decide (y<Q.length),τ):=tst (Sh (x:=.int 0) (y:=.int y) rfl rfl ln (by show some (PyData.bool (decide ((0:Int)<=y)))=_;rw[decide_eq_true y0]) rfl)
 refine⟨[.d (ep Q),.d (.int x),.d (.int y),.d (.int m)],?_⟩
 unfold DV slQ
 by_cases hy:y<Q.length
 ·rw[if_pos hy]
  rw[decide_eq_true hy]at t2
  refine BZ (τ:=τ) ?_ rfl rfl
  refine(Ay (t6:=τ) ((Gv (WX t1 (RO t2))).trans rfl)).trans (EB ?_)
  have e1:=op2 (F:=AY) (f:=AD 0) (g:=AD 2) (τ:=τ) (t6:=τ) (t8:=τ) (x:=ep Q) (y:=.int y) rfl rfl (cE y0 hy)
  show((dOp AY (AD 0) (AD 2) τ).bind _)=_
  rw[e1]
  show some (PyData.list (RI ((Q.getD y.toNat []).map ec) (some x) (some (x+(m:Int)))),τ)=_
  rw[Ux _ m x0,<- List.map_drop,<- List.map_take]
  rfl
 ·rw[if_neg hy]
  rw[decide_eq_false hy]at t2
  refine BZ (τ:=τ) ?_ rfl rfl
  exact ZY ((W0 (b8 t1 (RO t2))).trans rfl)
theorem ZX{A B:Pc}{w h:Nat}(oA:OkP A w h){s:Sx}(x0:0<=s.x)(x1:s.x+s.m<=w)(y0:0<=s.y)(y1:s.y<h)(m1:1<=s.m):slQ A s.x s.y s.m.toNat=(Ak A B s).o:=by
 unfold slQ
 rw[if_pos (by rw[oA.len];exact y1)]
 have hr:=oA.row y0 y1
 show _=(rng 0 s.m.toNat).map λv=>Ae A (s.x+v) s.y
 unfold rng
 rw[cu]
 refine gZ λi=>?_
 rw[gS,gT,U']
 by_cases hi:i<s.m.toNat
 ·rw[if_pos hi,List.getElem?_range hi,Y' (show s.x.toNat+i<(A.getD s.y.toNat []).length by omega)]
  show some _=some (Ae A (s.x+(0+(i:Int))) s.y)
  unfold Ae
  rw[show(s.x+(0+(i:Int))).toNat=s.x.toNat+i by omega,cO (l:=A.getD s.y.toNat []),Y' (show s.x.toNat+i<(A.getD s.y.toNat []).length by omega)]
  rfl
 ·rw[if_neg hi,dR (by rw[eT];omega)]
  rfl
def So:DT:=AZ (dOp fNe (AX DV (AA (AD 1) (AA (AD 2) (AA (AD 3) (AA (A9 By (AA (AD 4) AE)) AE))))) (AD 4))
def ZQ:DG:=dGT (AL (dN 2) (AL (dN 3) (AL (dN 4) (AL (dN 5) BH))))
theorem XH{B:Pc}{s:Sx}:D1 0 (((rng 0 s.m.toNat).map λv=>Ae B (s.x+v) s.y).map ec)=(rng 0 s.m.toNat).map λv=>PyData.tuple [.int v,ec (Ae B (s.x+v) s.y)]:=by
 have gen:∀(n k:Nat),D1 k (((rng (k:Int) n).map λv=>Ae B (s.x+v) s.y).map ec)=(rng (k:Int) n).map λv=>PyData.tuple [.int v,ec (Ae B (s.x+v) s.y)]:=by
  intro n
  induction n with
  |zero=>intro k;rfl
  |succ n ih =>
   intro k
   have e:rng (k:Int) (n+1)=(k:Int)::rng ((k+1:Nat):Int) n:=by
    unfold rng
    rw[fF,P',cu]
    simp
    intro a _
    omega
   rw[e,P',P',D1,ih (k+1),P']
 exact gen s.m.toNat 0
theorem VL(B A:Pc)(cs:List Cl)(c:Cl):Jb B A (cs++[c])=HR (Jb B A cs) c.1 c.2 (Ae B c.1 c.2):=by
 unfold Jb
 rw[List.foldl_append];rfl
theorem Ki(x y:Int)(n:Nat):G1 x y n=(rng 0 n).map λv=>(x+v,y):=by
 unfold G1 rng
 rw[cu,cu]
 exact di λk _=>by simp
def pSt(A B:Pc)(l:List Sx)(Q:PyData)(x y o n p k s:Option L):DS:=[some (.d (.list ((l.map (Ak A B)).map ef))),some (.d Q),x,y,o,n,p,k,s]
theorem WJ{A B:Pc}{l:List Sx}{Q:PyData}{s:Sx}{x y o n p k z:Option L}(nx:nM x)(ny:nM y)(no:nM o)(nn:nM n):ZQ (ef (Ak A B s)) (pSt A B l Q x y o n p k z)=some (pSt A B l Q (some (.d (.int s.x))) (some (.d (.int s.y))) (some (.d (eL (Ak A B s).o))) (some (.d (eL (Ak A B s).n))) p k z):=by
 let I:=λ(i:Int)=>some (L.d (.int i))
 let D:=λ(d:PyData)=>some (L.d d)
 show(dN 2 (.int s.x) (pSt A B l Q x y o n p k z)).bind _=_
 rw[A4 (o:=x) rfl nx]
 show(dN 3 (.int s.y) (pSt A B l Q (I s.x) y o n p k z)).bind _=_
 rw[A4 (o:=y) rfl ny]
 show(dN 4 (eL (Ak A B s).o) (pSt A B l Q (I s.x) (I s.y) o n p k z)).bind _=_
 rw[A4 (o:=o) rfl no]
 show(dN 5 (eL (Ak A B s).n) (pSt A B l Q (I s.x) (I s.y) (D (eL (Ak A B s).o)) n p k z)).bind _=_
 rw[A4 (o:=n) rfl nn];rfl
theorem WK{A B R:Pc}{l:List Sx}{s:Sx}{p k z:Option L}(x0:0<=s.x)(y0:0<=s.y):So (pSt A B l (ep R) (some (.d (.int s.x))) (some (.d (.int s.y))) (some (.d (eL (Ak A B s).o))) (some (.d (eL (Ak A B s).n))) p k z)=some (!decide (slQ R s.x s.y s.m.toNat=(Ak A B s).o),pSt A B l (ep R) (some (.d (.int s.x))) (some (.d (.int s.y))) (some (.d (eL (Ak A B s).o))) (some (.d (eL (Ak A B s).n))) p k z):=by
 let τ:=pSt A B l (ep R) (some (.d (.int s.x))) (some (.d (.int s.y))) (some (.d (eL (Ak A B s).o))) (some (.d (eL (Ak A B s).n))) p k z
 obtain⟨ls,e⟩:=QE (Q:=R) (m:=s.m.toNat) x0 y0
 have lo:(Ak A B s).o.length=s.m.toNat:=Ql _ _
 have el:A9 By (AA (AD 4) AE) τ=some (.int s.m.toNat,τ):=KU (ac1 (d:=eL (Ak A B s).o) rfl) rfl (by show some (PyData.int (((Ak A B s).o.map ec).length:Nat))=_;rw[B',lo])
 have ea:AA (AD 1) (AA (AD 2) (AA (AD 3) (AA (A9 By (AA (AD 4) AE)) AE))) τ=some ([.d (ep R),.d (.int s.x),.d (.int s.y),.d (.int s.m.toNat)],τ):=acc (d:=ep R) rfl (acc (d:=.int s.x) rfl (acc (d:=.int s.y) rfl (ac1 el)))
 have ec1:=A2 (G:=DV) (τ:=τ) (t6:=τ) (ds:=[ep R,.int s.x,.int s.y,.int s.m.toNat]) ea rfl e
 exact tst (op2 (F:=fNe) ec1 (y:=eL (Ak A B s).o) (t8:=τ) rfl (encC.fNeL _ _))
theorem IX{A B:Pc}{w h:Nat}(oA:OkP A w h)(oB:OkP B w h)(w9:w<=9)(h6:Hh w h) :
  ∃ls,BX [.d (.list ((frS A B (Bg A B w h)).map ef)),.d (ep A)]=some (ep B,ls):=by
 let I:=λ(i:Int)=>some (L.d (.int i))
 let D:=λ(d:PyData)=>some (L.d d)
 let l:=C5 (Bg A B w h)
 have hf:Az l=Bg A B w h:=(FQ (Bl A B w h)).1
 let Fr:PyData:=.list ((l.map (Ak A B)).map ef)
 let st:=pSt A B l (ep A)
 have en:(l.map (Ak A B)).map ef=l.map λs=>ef (Ak A B s):=by rw[cu];rfl
 have lp1:∃t7,Bp ZQ (Cu So HL Eu) (l.map λs=>ef (Ak A B s)) (st none none none none none none none)=some (.nx t7)/\∃x y o n,nM x/\nM y/\nM o/\nM n/\t7=st x y o n none none none:=by
  refine Bt (λ(_:List Sx) τ=>∃x y o n,nM x/\nM y/\nM o/\nM n/\τ=st x y o n none none none) ⟨none,none,none,none,Aa,Aa,Aa,Aa,rfl⟩ ?_
  rintro pre s post τ hp ⟨x,y,o,n,nx,ny,no,nn,rfl⟩
  have hs:s∈l:=by rw[hp];simp
  obtain⟨m1,x0,x1,y0,y1⟩:=WD hs
  let t:=st (I s.x) (I s.y) (D (eL (Ak A B s).o)) (D (eL (Ak A B s).n)) none none none
  refine⟨t,t,WJ nx ny no nn,(Gv (t6:=t) ?_).trans rfl,I s.x,I s.y,D (eL (Ak A B s).o),D (eL (Ak A B s).n),BW,BW,BW,BW,rfl⟩
  show So (pSt A B l (ep A) (some (.d (.int s.x))) (some (.d (.int s.y))) (some (.d (eL (Ak A B s).o))) (some (.d (eL (Ak A B s).n))) none none none)=_
  rw[WK x0 y0,ZX oA x0 x1 y0 y1 m1,decide_eq_true rfl];rfl
 obtain⟨t6,el1,x1,y1,o1,n1,nx1,ny1,no1,nn1,rfl⟩:=lp1
 have inn:∀(pre:List Sx) (s:Sx) (post:List Sx) (k0 z0:Option L),l=pre++s::post->nM k0->nM z0->∃k' z',nM k'/\nM z' /\
   Dz (dIE (AD 5)) (dGT (AL (dN 7) (AL (dN 8) BH))) (HK 6 (AD 8) (AD 3) (dOp B8 (AD 2) (AD 7))) (st (I s.x) (I s.y) (D (eL (Ak A B s).o)) (D (eL (Ak A B s).n)) (some (.g (ep (Jb B A (Az pre))))) k0 z0)=some (.nx (st (I s.x) (I s.y) (D (eL (Ak A B s).o)) (D (eL (Ak A B s).n)) (some (.g (ep (Jb B A (Az (pre++[s])))))) k' z')):=by
  intro pre s post k0 z0 hp nk nz
  let so:=λ(cs:List Cl) (k z:Option L)=>st (I s.x) (I s.y) (D (eL (Ak A B s).o)) (D (eL (Ak A B s).n)) (some (.g (ep (Jb B A cs)))) k z
  have hs:s∈l:=by rw[hp];simp
  obtain⟨m1,x0,x1,y0,y1⟩:=WD hs
  have hw:Az l=Az pre++(G1 s.x s.y s.m.toNat++Az post):=by rw[hp];unfold Az;rw[dm,fq]
  have inr:∀c∈Az l,InR w h c:=λc hc=>by rw[hf]at hc;exact(diff_mem.mp hc).1
  let enI:=λ(v:Int)=>PyData.tuple [.int v,ec (Ae B (s.x+v) s.y)]
  have lp:∃t7,Bp (dGT (AL (dN 7) (AL (dN 8) BH))) (HK 6 (AD 8) (AD 3) (dOp B8 (AD 2) (AD 7))) ((rng 0 s.m.toNat).map enI) (so (Az pre) k0 z0)=some (.nx t7)/\∃k' z',nM k'/\nM z'/\t7=so (Az pre++(rng 0 s.m.toNat).map λv=>(s.x+v,s.y)) k' z':=by
   refine Bt (λ(p:List Int) τ=>∃k' z',nM k'/\nM z'/\τ=so (Az pre++p.map λv=>(s.x+v,s.y)) k' z') ⟨k0,z0,nk,nz,by rw[fZ,dM]⟩ ?_
   rintro p v q τ hq ⟨k',z',nk',nz',rfl⟩
   let cs:=Az pre++p.map λv=>(s.x+v,s.y)
   let c:Cl:=(s.x+v,s.y)
   have ew:Az l=cs++c::(q.map (λv=>(s.x+v,s.y))++Az post):=by
    rw[hw,Ki,hq,c9,P']
    simp[cs,c]
   have hcs:∀d∈cs,InR w h d:=λd hd=>inr d (by rw[ew];exact cU _ hd)
   have hc:InR w h c:=inr c (by rw[ew];exact L' _ (J' ..))
   let t1:=so cs (I v) (D (ec (Ae B (s.x+v) s.y)))
   have tg:dGT (AL (dN 7) (AL (dN 8) BH)) (enI v) (so cs k' z')=some t1:=by
    show(dN 7 (.int v) (so cs k' z')).bind _=_
    rw[A4 (o:=k') rfl nk']
    show(dN 8 (ec (Ae B (s.x+v) s.y)) (so cs (I v) z')).bind _=_
    rw[A4 (o:=z') rfl nz'];rfl
   let tz:DS:=st (I s.x) (I s.y) (D (eL (Ak A B s).o)) (D (eL (Ak A B s).n)) (some (.d (ep (Jb B A cs)))) (I v) (D (ec (Ae B (s.x+v) s.y)))
   have p1:=RU (i:=6) (e:=AD 8) (e1:=AD 3) (e2:=dOp B8 (AD 2) (AD 7)) (τ:=t1) (t6:=tz) (t8:=tz) (l0:=tz) (P:=Jb B A cs) (w:=w) (h:=h) (x:=s.x+v) (y:=s.y) (s:=Ae B (s.x+v) s.y) (QM oA hcs) rfl rfl rfl rfl rfl hc.2.2.1 hc.2.2.2 hc.1 hc.2.1
   refine⟨t1,_,tg,p1,I v,D (ec (Ae B (s.x+v) s.y)),BW,BW,?_⟩
   rw[c9,<- dO]
   show st (I s.x) (I s.y) (D (eL (Ak A B s).o)) (D (eL (Ak A B s).n)) (some (.g (ep (HR (Jb B A cs) c.1 c.2 (Ae B c.1 c.2))))) (I v) (D (ec (Ae B (s.x+v) s.y)))=st (I s.x) (I s.y) (D (eL (Ak A B s).o)) (D (eL (Ak A B s).n)) (some (.g (ep (Jb B A (cs++[c]))))) (I v) (D (ec (Ae B (s.x+v) s.y)))
   rw[VL]
  obtain⟨t7,el,k',z',nk',nz',rfl⟩:=lp
  refine⟨k',z',nk',nz',(Dc (ds:=(rng 0 s.m.toNat).map enI) (t6:=so (Az pre) k0 z0) ?_).trans (el.trans ?_)⟩
  ·show some (D1 0 ((Ak A B s).n.map ec),so (Az pre) k0 z0)=_
   rw[show(Ak A B s).n=(rng 0 s.m.toNat).map λv=>Ae B (s.x+v) s.y from rfl,XH]
  ·rw[Hj,Ki]
 have lp2:∃t7,Bp ZQ (Dz (dIE (AD 5)) (dGT (AL (dN 7) (AL (dN 8) BH))) (HK 6 (AD 8) (AD 3) (dOp B8 (AD 2) (AD 7)))) (l.map λs=>ef (Ak A B s)) (st x1 y1 o1 n1 (some (.g (ep A))) none none)=some (.nx t7) /\
   ∃x y o n k z,nM x/\nM y/\nM o/\nM n/\nM k/\nM z/\t7=st x y o n (some (.g (ep (Jb B A (Az l))))) k z:=by
  refine Bt (λ(pre:List Sx) τ=>∃x y o n k z,nM x/\nM y/\nM o/\nM n/\nM k/\nM z/\τ=st x y o n (some (.g (ep (Jb B A (Az pre))))) k z) ⟨x1,y1,o1,n1,none,none,nx1,ny1,no1,nn1,Aa,Aa,rfl⟩ ?_
  rintro pre s post τ hp ⟨x,y,o,n,k,z,nx,ny,no,nn,nk,nz,rfl⟩
  obtain⟨k',z',nk',nz',e⟩:=inn pre s post k z hp nk nz
  exact⟨_,_,WJ nx ny no nn,e,_,_,_,_,_,_,BW,BW,BW,BW,nk',nz',rfl⟩
 obtain⟨t8,el2,x2,y2,o2,n2,k2,z2,nx2,ny2,no2,nn2,nk2,nz2,rfl⟩:=lp2
 rw[hf,VM oA oB]at el2
 refine⟨[.d Fr,.d (ep A)],?_⟩
 unfold BX
 refine BZ (τ:=st x2 y2 o2 n2 (some (.g (ep B))) k2 z2) ?_ rfl rfl
 have hi:∀τ:DS,τ[0]?=some (some (.d Fr))->dIL (AD 0) τ=some (l.map λs=>ef (Ak A B s),τ):=λτ h0=>by
  have e0:AD 0 τ=some (Fr,τ):=by unfold AD;rw[h0]
  unfold dIL
  rw[e0]
  show some ((l.map (Ak A B)).map ef,τ)=_
  rw[en]
 refine(CC ((Dc (hi (st none none none none none none none) rfl)).trans el1)).trans ?_
 have zA:A.length<=1000:=by rw[oA.len];omega
 refine(CC (t6:=st x1 y1 o1 n1 (some (.g (ep A))) none none) (FH (t6:=st x1 y1 o1 n1 none none none) (DE (A2 (rs:=[.d (ep A)]) (ds:=[ep A]) rfl rfl (JZ zA))) (by decide) (by show 6<9;decide) ?_)).trans ?_
 ·show([some (L.d Fr),some (.d (ep A)),x1,y1,o1,n1,none,none,none]:DS).all okM=true
  simp only[List.all_cons,List.all_nil,NX nx1,NX ny1,NX no1,NX nn1]
  rfl
 exact(CC ((Dc (hi (st x1 y1 o1 n1 (some (.g (ep A))) none none) rfl)).trans el2)).trans rfl
theorem bT{A B:Pc}{cs:List Cl}(hs:cs.Pairwise lt2):(frS A B cs).length<=cs.length/\∀f∈frS A B cs,f.o.length<=cs.length/\f.n.length<=cs.length:=by
 obtain⟨hf,hm⟩:=FQ hs
 refine⟨?_,λf hfm=>?_⟩
 ·unfold frS
  rw[B']
  have:=Kg cs []
  simp at this
  exact this
 ·unfold frS at hfm
  obtain⟨s,hs',rfl⟩:=cv.mp hfm
  obtain⟨a,b,e⟩:=List.append_of_mem hs'
  have h1:cs.length=(Az (a++s::b)).length:=by rw[<- e,hf]
  unfold Az at h1
  rw[dm,fq,cT,cT]at h1
  have h2:(G1 s.x s.y s.m.toNat).length=s.m.toNat:=by unfold G1;rw[B',Fs]
  have h3:(Ak A B s).o.length=s.m.toNat:=Ql _ _
  have h4:(Ak A B s).n.length=s.m.toNat:=Ql _ _
  omega
theorem Vo(A:Pc)(w h:Nat):Bg A A w h=[]:=List.eq_nil_iff_forall_not_mem.mpr λc hc=>(NA hc).2.2.2.2 rfl
theorem JM{i:Nat}{f:DX}{τ t6:DS}{d:PyData}{xs:List PyData}(hi:τ[i]?=some (some (.g (.list xs))))(hf:f (τ.set i (some (.d (.list xs))))=some (d,t6))(hx:t6.all okM=true):Ez i f τ=some (d,t6.set i (some (.g (.list xs)))):=by
 unfold Ez
 rw[hi]
 dsimp only
 rw[hf]
 dsimp only[Option.bind]
 rw[if_pos hx]
def kvf(f:Cl->Cl)(ks:List Cl):List (List Int×PyData):=ks.map λc=>([c.1,c.2],ec (f c))
theorem JT{f g:Cl->Cl}{ks:List Cl}(h:∀c∈ks,f c=g c):kvf f ks=kvf g ks:=di λc hc=>by rw[h c hc]
theorem Zx{c d:Cl}(h:d≠c):¬[d.1,d.2]=[c.1,c.2]:=λe=>h (by
 injection e with e1 e2
 injection e2 with e2 _
 exact gg e1 e2)
theorem UC{f:Cl->Cl}{c a:Cl}:∀{ks:List Cl},ks.Nodup->LL (kvf f ks) [c.1,c.2] (ec a)=kvf (λd=>if d=c then a else f d) (if c∈ks then ks else ks++[c])
 |[],_=>by
  show[([c.1,c.2],ec a)]=_
  unfold kvf
  simp
 |d::ks,hn=>by
  obtain⟨n1,n2⟩:=cP.mp hn
  show(if [d.1,d.2]=[c.1,c.2] then ([d.1,d.2],ec a)::kvf f ks else ([d.1,d.2],ec (f d))::LL (kvf f ks) [c.1,c.2] (ec a))=_
  by_cases e:d=c
  ·subst e
   rw[if_pos rfl,if_pos (J' ..)]
   show _=([d.1,d.2],ec (if d=d then a else f d))::kvf (λx=>if x=d then a else f x) ks
   rw[if_pos rfl]
   refine congrArg _ (JT λx hx=>?_)
   have hx':x≠d:=λz=>n1 (z▸hx)
   rw[if_neg hx']
  ·rw[if_neg (Zx e),UC n2]
   by_cases m:c∈ks
   ·rw[if_pos m,if_pos (E' _ m)]
    show _=([d.1,d.2],ec (if d=c then a else f d))::kvf _ ks
    rw[if_neg e]
   ·rw[if_neg m,if_neg λz=>(X'.mp z).elim (λz=>e z.symm) m]
    show _=([d.1,d.2],ec (if d=c then a else f d))::kvf _ (ks++[c])
    rw[if_neg e]
def unC(ks:List Cl):List Cl->List Cl
 |[]=>ks
 |c::cs=>unC (if c∈ks then ks else ks++[c]) cs
theorem O6{ks:List Cl}{c:Cl}(hn:ks.Nodup):(if c∈ks then ks else ks++[c]).Nodup:=by
 split
 ·exact hn
 ·rename_i h
  exact cg.mpr ⟨hn,cP.mpr ⟨λz=>(nomatch z),du⟩,λa ha b hb z=>h (by rw[<- cW.mp hb,<- z];exact ha)⟩
theorem Xo{ks:List Cl}{c d:Cl}:d∈(if c∈ks then ks else ks++[c])↔d∈ks\/d=c:=by
 split
 ·rename_i h
  exact⟨.inl,λz=>z.elim id λz=>z▸h⟩
 ·rw[cN,cW]
theorem NF:∀{cs ks:List Cl},ks.Nodup->(unC ks cs).Nodup
 |[],_,hn=>hn
 |c::cs,ks,hn=>NF (cs:=cs) (O6 hn)
theorem un_mem{d:Cl}:∀{cs ks:List Cl},d∈unC ks cs↔d∈ks\/d∈cs
 |[],ks=>by
  show d∈ks↔_
  simp
 |c::cs,ks=>by
  show d∈unC _ cs↔_
  rw[un_mem (cs:=cs),Xo,X',or_assoc]
theorem Rz{A:Cl->Cl}:∀{cs ks:List Cl} {f:Cl->Cl},ks.Nodup->MI (kvf f ks) (kvf A cs)=kvf (λd=>if d∈cs then A d else f d) (unC ks cs)
 |[],ks,f,_=>by
  show kvf f ks=_
  exact JT λc _=>by rw[if_neg λz=>(nomatch z)]
 |c::cs,ks,f,hn=>by
  show MI (LL (kvf f ks) [c.1,c.2] (ec (A c))) (kvf A cs)=_
  rw[UC hn,Rz (cs:=cs) (O6 hn)]
  refine JT λd _=>?_
  by_cases h:d∈cs
  ·rw[if_pos h,if_pos (E' _ h)]
  ·rw[if_neg h]
   by_cases e:d=c
   ·subst e;rw[if_pos rfl,if_pos (J' ..)]
   ·rw[if_neg e,if_neg λz=>(X'.mp z).elim e h]
theorem PU{l:List Cl}:∀{m:List Cl},l.Nodup->(∀x∈l,x∈m)->l.length<=m.length:=by
 induction l with
 |nil=>intro m _ _;exact cZ _
 |cons a l ih =>
  intro m hn hs
  obtain⟨n1,n2⟩:=cP.mp hn
  have ha:=hs a (J' ..)
  have:=ih (m:=m.erase a) n2 λx hx=>(List.mem_erase_of_ne (show x≠a from λz=>n1 (z▸hx))).mpr (hs x (E' _ hx))
  rw[List.length_erase_of_mem ha]at this
  have:=List.length_pos_of_mem ha
  rw[cM]
  omega
def c54:List Cl:=(List.range 9).flatMap λ(x:Nat)=>(List.range 9).map λ(y:Nat)=>((x:Int),(y:Int))
theorem Xa:(c54.map λc=>hT [c.1,c.2]).Nodup:=∅
theorem bO{w h:Nat}{c:Cl}(w9:w<=9)(h6:Hh w h)(r:InR w h c):c∈c54:=by
 obtain⟨a,b,d,e⟩:=r
 refine fA.mpr ⟨c.1.toNat,c7.mpr (by omega),cv.mpr ⟨c.2.toNat,c7.mpr (by omega),?_⟩⟩
 refine gg ?_ ?_
 ·show(c.1.toNat:Int)=c.1;omega
 ·show(c.2.toNat:Int)=c.2;omega
theorem TZ{g:Cl->Int}{l:List Cl}:(l.map g).Nodup->∀a∈l,∀b∈l,g a=g b->a=b:=by
 induction l with
 |nil=>intro _ a h;cases h
 |cons x l ih =>
  intro hn a ha b hb e
  rw[P']at hn
  obtain⟨n1,n2⟩:=cP.mp hn
  rcases X'.mp ha with z|ha'
  ·rcases X'.mp hb with y|hb'
   ·rw[z,y]
   ·exact absurd (cv.mpr ⟨b,hb',by rw[<- e,z]⟩) n1
  ·rcases X'.mp hb with y|hb'
   ·exact absurd (cv.mpr ⟨a,ha',by rw[e,y]⟩) n1
   ·exact ih n2 a ha' b hb' e
theorem Zs{g:Cl->Int}{l cs:List Cl}(hl:(l.map g).Nodup):cs.Nodup->(∀c∈cs,c∈l)->(cs.map g).Nodup:=by
 induction cs with
 |nil=>intro _ _;exact du
 |cons c cs ih =>
  intro hn hr
  obtain⟨n1,n2⟩:=cP.mp hn
  rw[P']
  refine cP.mpr ⟨λz=>?_,ih n2 λd hd=>hr d (E' _ hd)⟩
  obtain⟨d,hd,e⟩:=cv.mp z
  have:=TZ hl d (hr d (E' _ hd)) c (hr c (J' ..)) e
  exact n1 (this▸hd)
theorem Ws(f:Cl->Cl)(cs:List Cl)(H:List Int->Int):((kvf f cs).map λp=>H p.1)=cs.map λc=>H [c.1,c.2]:=by
 unfold kvf
 rw[cu];rfl
theorem Nv{w h:Nat}(w9:w<=9)(h6:Hh w h)(f:Cl->Cl){cs:List Cl}(hn:cs.Nodup)(hr:∀c∈cs,InR w h c):((kvf f cs).map λp=>hT p.1).Nodup:=by
 rw[Ws f cs hT]
 exact Zs Xa hn λc hc=>bO w9 h6 (hr c hc)
theorem Qs(A:Pc)(cs:List Cl):kv A cs=kvf (λc=>Ae A c.1 c.2) cs:=rfl
theorem Ju{A B:Pc}{c1 c2:List Cl}{w h:Nat}(w9:w<=9)(h6:Hh w h)(n1:c1.Nodup)(n2:c2.Nodup)(r1:∀c∈c1,InR w h c)(r2:∀c∈c2,InR w h c)(l1:c1.length<=63)(l2:c2.length<=63)(hv:∀c∈c2,c∉c1->Ae B c.1 c.2=Ae A c.1 c.2) :
  ∃ls,CS [.d (.dict (BC (kv A c1))),.d (.dict (BC (kv B c2)))]=some (.dict (BC (kv A (unC c2 c1))),ls):=by
 let D:=λ(d:PyData)=>some (L.d d)
 let O:=D (.dict (BC (kv A c1)))
 let W:=D (.dict (BC (kv B c2)))
 let t0:DS:=[O,W,none]
 let t1:DS:=[O,W,some (.k (kv B c2))]
 let t2:DS:=[O,W,some (.k (kv A (unC c2 c1)))]
 have hm:MI (kv B c2) (kv A c1)=kv A (unC c2 c1):=by
  rw[Qs,Qs,Rz n2]
  refine JT λd hd=>?_
  by_cases z:d∈c1
  ·rw[if_pos z]
  ·rw[if_neg z]
   exact hv d ((un_mem.mp hd).resolve_right z) z
 have lk:∀(P:Pc) (cs:List Cl),(kv P cs).length=cs.length:=λP cs=>by unfold kv;rw[B']
 have hB:((kv B c2).map λp=>hT p.1).Nodup:=by rw[Qs];exact Nv w9 h6 _ n2 r2
 have hA:((kv A c1).map λp=>hT p.1).Nodup:=by rw[Qs];exact Nv w9 h6 _ n1 r1
 have e1 : A9 Lo (AA (AD 1) AE) t0 = some (.dict (BC (kv B c2)), t0) := KU (ac1 rfl) rfl (by
  unfold Lo
  dsimp only
  rw[Hu]
  dsimp only[Option.bind]
  rw[if_pos hB])
 have e2:Fp 2 2 (A9 Lo (AA (AD 1) AE)) t0=some (.nx t1):=by
  unfold Fp
  rw[e1]
  dsimp only[Option.bind]
  rw[Hu]
  dsimp only[Option.bind]
  rw[if_pos ⟨W' _,by show 2<3;decide,rfl⟩]
  rfl
 have e3:SV 2 (AD 0) t1=some (.nx t2):=by
  have hd:AD 0 t1=some (.dict (BC (kv A c1)),t1):=rfl
  unfold SV
  rw[hd]
  dsimp only[Option.bind]
  show((tkP (BC (kv A c1))).bind λu=>if (kv B c2).length+u.length<=sizeLine/\(u.map λp=>hT p.1).Nodup then some (Out.nx (t1.set 2 (some (.k (MI (kv B c2) u))))) else none)=_
  rw[Hu]
  dsimp only[Option.bind]
  rw[if_pos ⟨by rw[lk,lk];exact sz (by omega),hA⟩,hm]
  rfl
 refine⟨[.d (.dict (BC (kv A c1))),.d (.dict (BC (kv B c2)))],?_⟩
 unfold CS
 refine BZ (τ:=t2) ?_ rfl rfl
 exact(Ay (t6:=t1) e2).trans ((Ay (t6:=t2) e3).trans rfl)
theorem IA{A B:Pc}{l:List Sx}(hn:(Az l).Nodup)(hz:(Az l).length<=63)(hm:∀s∈l,1<=s.m) :
  ∃ls,CJ [.d (.list ((l.map (Ak A B)).map ef))]=some (.dict (BC (kv A (Az l))),ls):=by
 let I:=λ(i:Int)=>some (L.d (.int i))
 let D:=λ(d:PyData)=>some (L.d d)
 let Fr:PyData:=.list ((l.map (Ak A B)).map ef)
 let st:=λ(cs:List Cl) (x y o n k s:Option L)=>[D Fr,some (L.k (kv A cs)),x,y,o,n,k,s]
 have kl:∀cs:List Cl,cs.length<=63->(kv A cs).length<sizeLine:=λcs h=>by
  unfold kv
  rw[B']
  exact fX h (by decide)
 have inn:∀(pre:List Sx) (s:Sx) (post:List Sx) (k0 s0:Option L),l=pre++s::post->nM k0->nM s0->∃k' s',nM k'/\nM s' /\
   Dz (dIE (AD 4)) (dGT (AL (dN 6) (AL (dN 7) BH))) (Ie 1 (AD 7) (Bc (AA (dOp B8 (AD 2) (AD 6)) (AA (AD 3) AE)))) (st (Az pre) (I s.x) (I s.y) (D (eL (Ak A B s).o)) (D (eL (Ak A B s).n)) k0 s0)=some (.nx (st (Az (pre++[s])) (I s.x) (I s.y) (D (eL (Ak A B s).o)) (D (eL (Ak A B s).n)) k' s')):=by
  intro pre s post k0 s0 hp nk ns
  let so:=λ(cs:List Cl) (k z:Option L)=>st cs (I s.x) (I s.y) (D (eL (Ak A B s).o)) (D (eL (Ak A B s).n)) k z
  have hw:Az l=Az pre++(G1 s.x s.y s.m.toNat++Az post):=by rw[hp];unfold Az;rw[dm,fq]
  let enI:=λ(v:Int)=>PyData.tuple [.int v,ec (Ae A (s.x+v) s.y)]
  have en:D1 0 ((Ak A B s).o.map ec)=(rng 0 s.m.toNat).map enI:=by
   have gen:∀(n k:Nat),D1 k (((rng (k:Int) n).map λv=>Ae A (s.x+v) s.y).map ec)=(rng (k:Int) n).map enI:=by
    intro n
    induction n with
    |zero=>intro k;rfl
    |succ n ih =>
     intro k
     have e:rng (k:Int) (n+1)=(k:Int)::rng ((k+1:Nat):Int) n:=by
      unfold rng
      rw[fF,P',cu]
      simp
      intro a _
      omega
     rw[e,P',P',D1,ih (k+1),P']
   exact gen s.m.toNat 0
  have lp:∃t7,Bp (dGT (AL (dN 6) (AL (dN 7) BH))) (Ie 1 (AD 7) (Bc (AA (dOp B8 (AD 2) (AD 6)) (AA (AD 3) AE)))) ((rng 0 s.m.toNat).map enI) (so (Az pre) k0 s0)=some (.nx t7)/\∃k' s',nM k'/\nM s'/\t7=so (Az pre++(rng 0 s.m.toNat).map λv=>(s.x+v,s.y)) k' s':=by
   refine Bt (λ(p:List Int) τ=>∃k' s',nM k'/\nM s'/\τ=so (Az pre++p.map λv=>(s.x+v,s.y)) k' s') ⟨k0,s0,nk,ns,by rw[fZ,dM]⟩ ?_
   rintro p v q τ hq ⟨k',s',nk',ns',rfl⟩
   let cs:=Az pre++p.map λv=>(s.x+v,s.y)
   let c:Cl:=(s.x+v,s.y)
   have ew:Az l=cs++c::(q.map (λv=>(s.x+v,s.y))++Az post):=by
    rw[hw,Ki,hq,c9,P']
    simp[cs,c]
   have hc:c∉cs:=λz=>by
    rw[ew]at hn
    exact(cg.mp hn).2.2 c z c (J' ..) rfl
   have hcl:cs.length<=63:=by rw[ew,cT]at hz;omega
   let t1:=so cs (I v) (D (ec (Ae A (s.x+v) s.y)))
   have tg:dGT (AL (dN 6) (AL (dN 7) BH)) (enI v) (so cs k' s')=some t1:=by
    show(dN 6 (.int v) (so cs k' s')).bind _=_
    rw[A4 (o:=k') rfl nk']
    show(dN 7 (ec (Ae A (s.x+v) s.y)) (so cs (I v) s')).bind _=_
    rw[A4 (o:=s') rfl ns'];rfl
   have p1:=QL (i:=1) (e:=AD 7) (k:=Bc (AA (dOp B8 (AD 2) (AD 6)) (AA (AD 3) AE))) (τ:=t1) (t6:=t1) (t8:=t1) (d:=ec (Ae A c.1 c.2)) (ks:=[.int c.1,.int c.2]) (c:=[c.1,c.2]) (m:=kv A cs) rfl rfl rfl rfl (kl cs hcl)
   rw[Mr hc]at p1
   refine⟨t1,_,tg,p1,I v,D (ec (Ae A (s.x+v) s.y)),BW,BW,?_⟩
   show so (cs++[c]) _ _=_
   rw[c9,<- dO];rfl
  obtain⟨t7,el,k',s',nk',ns',rfl⟩:=lp
  refine⟨k',s',nk',ns',(Dc (ds:=(rng 0 s.m.toNat).map enI) (t6:=so (Az pre) k0 s0) ?_).trans (el.trans ?_)⟩
  ·show some (D1 0 ((Ak A B s).o.map ec),so (Az pre) k0 s0)=_
   rw[en]
  ·rw[Hj,Ki]
 have lp:∃t7,Bp (dGT (AL (dN 2) (AL (dN 3) (AL (dN 4) (AL (dN 5) BH))))) (Dz (dIE (AD 4)) (dGT (AL (dN 6) (AL (dN 7) BH))) (Ie 1 (AD 7) (Bc (AA (dOp B8 (AD 2) (AD 6)) (AA (AD 3) AE))))) (l.map λs=>ef (Ak A B s)) (st [] none none none none none none)=some (.nx t7) /\
   ∃x y o n k s,nM x/\nM y/\nM o/\nM n/\nM k/\nM s/\t7=st (Az l) x y o n k s:=by
  refine Bt (λ(pre:List Sx) τ=>∃x y o n k s,nM x/\nM y/\nM o/\nM n/\nM k/\nM s/\τ=st (Az pre) x y o n k s) ⟨none,none,none,none,none,none,Aa,Aa,Aa,Aa,Aa,Aa,rfl⟩ ?_
  rintro pre s post τ hp ⟨x,y,o,n,k,z,nx,ny,no,nn,nk,nz,rfl⟩
  obtain⟨k',s',nk',ns',e⟩:=inn pre s post k z hp nk nz
  refine⟨st (Az pre) (I s.x) (I s.y) (D (eL (Ak A B s).o)) (D (eL (Ak A B s).n)) k z,_,?_,e,_,_,_,_,_,_,BW,BW,BW,BW,nk',ns',rfl⟩
  show(dN 2 (.int s.x) (st (Az pre) x y o n k z)).bind _=_
  rw[A4 (o:=x) rfl nx]
  show(dN 3 (.int s.y) (st (Az pre) (I s.x) y o n k z)).bind _=_
  rw[A4 (o:=y) rfl ny]
  show(dN 4 (eL (Ak A B s).o) (st (Az pre) (I s.x) (I s.y) o n k z)).bind _=_
  rw[A4 (o:=o) rfl no]
  show(dN 5 (eL (Ak A B s).n) (st (Az pre) (I s.x) (I s.y) (D (eL (Ak A B s).o)) n k z)).bind _=_
  rw[A4 (o:=n) rfl nn];rfl
 obtain⟨t7,el,x,y,o,n,k,s,nx,ny,no,nn,nk,ns,rfl⟩:=lp
 refine⟨[.d Fr],?_⟩
 unfold CJ
 refine BZ (τ:=st (Az l) x y o n k s) ?_ rfl rfl
 refine(Ay (t6:=st [] none none none none none none) rfl).trans ?_
 refine(Ay (t6:=st (Az l) x y o n k s) ((Dc (ds:=l.map λs=>ef (Ak A B s)) (t6:=st [] none none none none none none) ?_).trans el)).trans rfl
 show some ((l.map (Ak A B)).map ef,st [] none none none none none none)=_
 rw[cu];rfl
theorem Jt{A B:Pc}{l:List Sx}(hz:l.length<=1000):∃ls,CQ [.d (.list ((l.map (Ak A B)).map ef))]=some (.list ((l.map (Ak B A)).map ef),ls):=by
 let I:=λ(i:Int)=>some (L.d (.int i))
 let D:=λ(d:PyData)=>some (L.d d)
 let Fr:PyData:=.list ((l.map (Ak A B)).map ef)
 obtain ⟨t9, el⟩ := EO (enc := λs => ef (Ak A B s)) (g := dGT (AL (dN 0) (AL (dN 1) (AL (dN 2) (AL (dN 3) BH))))) (c := DC) (e := Bc (AA (AD 0) (AA (AD 1) (AA (A9 Ba (AA (AD 3) AE)) (AA (A9 Ba (AA (AD 2) AE)) AE))))) (λτ => ∃ x y o n, nM x /\ nM y /\ nM o /\ nM n /\ τ = [x, y, o, n]) (λ_ => true) (λs => ef (Ak B A s)) (xs := l) (acc := []) (τ := [none, none, none, none]) ⟨none, none, none, none, Aa, Aa, Aa, Aa, rfl⟩ (by
  rintro s τ hs ⟨x,y,o,n,nx,ny,no,nn,rfl⟩
  let t:DS:=[I s.x,I s.y,D (eL (Ak A B s).o),D (eL (Ak A B s).n)]
  refine⟨t,t,?_,rfl,(λz=>nomatch z),λ_=>⟨t,rfl,_,_,_,_,BW,BW,BW,BW,rfl⟩⟩
  show(dN 0 (.int s.x) [x,y,o,n]).bind _=_
  rw[A4 (o:=x) rfl nx]
  show(dN 1 (.int s.y) [I s.x,y,o,n]).bind _=_
  rw[A4 (o:=y) rfl ny]
  show(dN 2 (eL (Ak A B s).o) [I s.x,I s.y,o,n]).bind _=_
  rw[A4 (o:=o) rfl no]
  show(dN 3 (eL (Ak A B s).n) [I s.x,I s.y,D (eL (Ak A B s).o),n]).bind _=_
  rw[A4 (o:=n) rfl nn];rfl)
 rw[dU,XD]at el
 refine⟨[.d Fr],?_⟩
 unfold CQ
 refine BZ (τ:=[D Fr]) ?_ rfl rfl
 have:=HI (own:=4) (fr:=[]) (it:=dIL (AD 0)) (τ:=[D Fr]) (t6:=[D Fr]) (ds:=l.map λs=>ef (Ak A B s)) (t9:=t9) (by show some ((l.map (Ak A B)).map ef,[D Fr])=_;rw[cu];rfl) (by rw[B'];exact sz hz) rfl el
 refine EB (t6:=[D Fr]) (this.trans ?_)
 rw[cu];rfl
def SU(A B:Pc)(c:Cl):Bool:=!decide (Ae A c.1 c.2=Ae B c.1 c.2)
theorem K2{A B:Pc}{ka kb cs:List Cl}(hka:ka.length<=1000)(hkl:(ka.filter (SU A B)).length<=63)(hab:∀c∈ka,c∈kb)(hs:cs.Pairwise lt2)(hcs:∀c,c∈cs↔c∈ka.filter (SU A B)) :
  ∃ls,CZ [.d (.dict (BC (kv A ka))),.d (.dict (BC (kv B kb)))]=some (.list ((frS A B cs).map ef),ls):=by
 let ds:=ka.filter (SU A B)
 have hr:rbr ds=cs:=Zd hs hcs
 have hl:cs.length<=63:=by rw[<- hr];exact cm (QJ ds) hkl
 have inA:∀c∈cs,c∈ka:=λc hc=>(dg.mp ((hcs c).mp hc)).1
 let I:=λ(i:Int)=>some (L.d (.int i))
 let D:=λ(d:PyData)=>some (L.d d)
 let OA:=D (.dict (BC (kv A ka)))
 let OB:=D (.dict (BC (kv B kb)))
 let t0:DS:=[OA,OB,none,none,none,none,none,none,none]
 let st:=λ(fr:List Fw) (x y m:Option L)=>[OA,OB,D (.list (ds.map ec)),some (L.g (.list (fr.map ef))),x,y,m,none,none]
 -- the cells
 obtain ⟨t9, el⟩ := EO (enc := ec) (g := dN 0) (c := AZ (dOp fNe (dOp HH (AD 1) (AD 0)) (dOp HH (AD 2) (AD 0)))) (e := AD 0) (λτ => ∃ o, nM o /\ τ = [o, OA, OB]) (SU A B) ec (xs := ka) (acc := []) (τ := [none, OA, OB]) ⟨none, Aa, rfl⟩ (by
  rintro c τ hc ⟨o,no,rfl⟩
  refine⟨[D (ec c),OA,OB],[D (ec c),OA,OB],A4 (o:=o) rfl no,?_,λ_=>⟨_,BW,rfl⟩,λ_=>⟨_,rfl,_,BW,rfl⟩⟩
  have:=tst (op2 (F:=fNe) (op2 (F:=HH) (f:=AD 1) (g:=AD 0) (τ:=[D (ec c),OA,OB]) rfl rfl (Wv hc)) (op2 (F:=HH) (f:=AD 2) (g:=AD 0) (τ:=[D (ec c),OA,OB]) rfl rfl (Wv (hab c hc))) (encC.fNe _ _))
  rw[this];rfl)
 rw[dU]at el
 have e0:dLC 1 [0,1] (dID (AD 0)) (dN 0) (AZ (dOp fNe (dOp HH (AD 1) (AD 0)) (dOp HH (AD 2) (AD 0)))) (AD 0) t0=some (.list (ds.map ec),t0):=by
  refine HI (ds:=ka.map ec) (t9:=t9) ?_ (by rw[B'];exact sz hka) rfl el
  show((tkP (BC (kv A ka))).map λm=>(m.map λp=>NG p.1,t0))=_
  rw[Hu]
  show some ((kv A ka).map (λp=>NG p.1),t0)=_
  unfold kv
  rw[cu];rfl
 obtain⟨hf,hm⟩:=FQ hs
 have hsl:(C5 cs).length<=700:=by have:=Kg cs [];simp at this;unfold C5;omega
 have inC:∀s∈C5 cs,∀v∈rng 0 s.m.toNat,(s.x+v,s.y)∈cs:=λs hs v hv=>by
  rw[<- hf]
  refine fA.mpr ⟨s,hs,?_⟩
  unfold rng at hv
  obtain⟨k,hk,rfl⟩:=cv.mp hv
  unfold G1
  exact cv.mpr ⟨s.x+(k:Int),cv.mpr ⟨k,hk,rfl⟩,by simp⟩
 have lp:∃t7,Bp (dGT (AL (dN 4) (AL (dN 5) (AL (dN 6) BH)))) (BA (EL 2 7 (dFx (dLC 1 [0,5,4] (dR1 (AA (AD 6) AE)) (dN 0) DC (dOp HH (AD 1) (Bc (AA (dOp B8 (AD 3) (AD 0)) (AA (AD 2) AE))))))) (BA (EL 2 8 (dFx (dLC 1 [1,5,4] (dR1 (AA (AD 6) AE)) (dN 0) DC (dOp HH (AD 1) (Bc (AA (dOp B8 (AD 3) (AD 0)) (AA (AD 2) AE))))))) (KQ 3 (AD 4) (AD 5) 7 8))) ((C5 cs).map es) (st [] none none none)=some (.nx t7)/\∃x y m,nM x/\nM y/\nM m/\t7=st ((C5 cs).map (Ak A B)) x y m:=by
  refine Bt (λ(pre:List Sx) τ=>∃x y m,nM x/\nM y/\nM m/\τ=st (pre.map (Ak A B)) x y m) ⟨none,none,none,Aa,Aa,Aa,rfl⟩ ?_
  rintro pre s post τ hp ⟨x,y,m,nx,ny,nm,rfl⟩
  have hsm:s∈C5 cs:=by rw[hp];simp
  have hpl:pre.length<700:=by have:=congrArg List.length hp;simp at this;omega
  have m1:=(hm s hsm).1
  have mz:s.m<=100000:=by
   have h1:cs.length=(Az (pre++s::post)).length:=by rw[<- hp,hf]
   unfold Az at h1
   rw[dm,fq,cT,cT]at h1
   have h2:(G1 s.x s.y s.m.toNat).length=s.m.toNat:=by unfold G1;rw[B',Fs]
   omega
  let fr:=pre.map (Ak A B)
  let t1:=st fr (I s.x) (I s.y) (I s.m)
  have tg:dGT (AL (dN 4) (AL (dN 5) (AL (dN 6) BH))) (es s) (st fr x y m)=some t1:=by
   show(dN 4 (.int s.x) (st fr x y m)).bind _=_
   rw[A4 (o:=x) rfl nx]
   show(dN 5 (.int s.y) (st fr (I s.x) y m)).bind _=_
   rw[A4 (o:=y) rfl ny]
   show(dN 6 (.int s.m) (st fr (I s.x) (I s.y) m)).bind _=_
   rw[A4 (o:=m) rfl nm];rfl
  have col:∀(P:Pc) (kk:List Cl) (τ:DS) (j:Nat),(∀c∈cs,c∈kk)->(∀(o:Option L),Ff 1 [j,5,4] τ=[none,D (.dict (BC (kv P kk))),I s.y,I s.x])->([j,5,4].all λj=>!isM τ j)=true->AA (AD 6) AE τ=some ([.d (.int s.m)],τ) ->
    dFx (dLC 1 [j,5,4] (dR1 (AA (AD 6) AE)) (dN 0) DC (dOp HH (AD 1) (Bc (AA (dOp B8 (AD 3) (AD 0)) (AA (AD 2) AE))))) τ=some (eL ((rng 0 s.m.toNat).map λv=>Ae P (s.x+v) s.y),τ):=by
   intro P kk τ j hkk hb hm6 h6
   refine Ug ?_
   obtain ⟨l8, ec1⟩ := EO (enc := PyData.int) (g := dN 0) (c := DC) (e := dOp HH (AD 1) (Bc (AA (dOp B8 (AD 3) (AD 0)) (AA (AD 2) AE)))) (λτ => ∃ o, nM o /\ τ = [o, D (.dict (BC (kv P kk))), I s.y, I s.x]) (λ_ => true) (λv => ec (Ae P (s.x + v) s.y)) (xs := rng 0 s.m.toNat) (acc := []) (τ := [none, D (.dict (BC (kv P kk))), I s.y, I s.x]) ⟨none, Aa, rfl⟩ (by
    rintro v τ hv ⟨o,no,rfl⟩
    refine⟨[I v,D (.dict (BC (kv P kk))),I s.y,I s.x],[I v,D (.dict (BC (kv P kk))),I s.y,I s.x],A4 (o:=o) rfl no,rfl,(λz=>nomatch z),λ_=>⟨[I v,D (.dict (BC (kv P kk))),I s.y,I s.x],?_,_,BW,rfl⟩⟩
    exact op2 (F:=HH) (x:=.dict (BC (kv P kk))) (y:=ec (s.x+v,s.y)) rfl rfl (Wv (hkk _ (inC s hsm v hv))))
   rw[dU,XD]at ec1
   have:=HI (own:=1) (fr:=[j,5,4]) (t9:=l8) (PH (n:=s.m) h6 (by omega) mz) (by rw[B',Fs];exact cm (show s.m.toNat<=100000 by omega) (by decide)) hm6 (by rw[hb none];exact ec1)
   rw[this]
   unfold eL
   rw[cu];rfl
  let o:=(rng 0 s.m.toNat).map λv=>Ae A (s.x+v) s.y
  let n:=(rng 0 s.m.toNat).map λv=>Ae B (s.x+v) s.y
  let t2:DS:=[OA,OB,D (.list (ds.map ec)),some (L.g (.list (fr.map ef))),I s.x,I s.y,I s.m,some (.g (eL o)),none]
  let t3:DS:=[OA,OB,D (.list (ds.map ec)),some (L.g (.list (fr.map ef))),I s.x,I s.y,I s.m,some (.g (eL o)),some (.g (eL n))]
  have c1:=FH (np:=2) (i:=7) (col A ka t1 0 inA (λ_=>rfl) rfl rfl) (by decide) (by show 7<9;decide) rfl
  have c2:=FH (np:=2) (i:=8) (col B kb t2 1 (λc hc=>hab c (inA c hc)) (λ_=>rfl) rfl rfl) (by decide) (by show 8<9;decide) rfl
  have c3:KQ 3 (AD 4) (AD 5) 7 8 t3=some (.nx (st (fr++[Ak A B s]) (I s.x) (I s.y) (I s.m))):=by
   have:=Xf (τ:=t3) (rows:=fr.map ef) (l1:=o.map ec) (l2:=n.map ec) (x:=s.x) (y:=s.y) rfl rfl rfl rfl rfl (by rw[B',B'];omega)
   rw[this]
   show some (Out.nx [OA,OB,D (.list (ds.map ec)),some (L.g (.list (fr.map ef++[ef (Ak A B s)]))),I s.x,I s.y,I s.m,none,none])=some (Out.nx [OA,OB,D (.list (ds.map ec)),some (L.g (.list ((fr++[Ak A B s]).map ef))),I s.x,I s.y,I s.m,none,none])
   rw[c9];rfl
  refine⟨t1,st (fr++[Ak A B s]) (I s.x) (I s.y) (I s.m),tg,?_,_,_,_,BW,BW,BW,by rw[c9];rfl⟩
  exact(Ay (t6:=t2) c1).trans ((Ay (t6:=t3) c2).trans c3)
 obtain⟨t7,elp,x,y,m,nx,ny,nm,rfl⟩:=lp
 refine⟨[.d (.dict (BC (kv A ka))),.d (.dict (BC (kv B kb)))],?_⟩
 unfold CZ
 refine BZ (τ:=st ((C5 cs).map (Ak A B)) x y m) ?_ rfl rfl
 let t1:DS:=[OA,OB,D (.list (ds.map ec)),none,none,none,none,none,none]
 refine(CC (t6:=t1) (EZ e0 rfl)).trans ?_
 refine(CC (t6:=st [] none none none) rfl).trans ?_
 have ci:=A2 (G:=Ce) (a:=AA (AD 2) AE) (τ:=st [] none none none) (t6:=st [] none none none) (rs:=[.d (.list (ds.map ec))]) (ds:=[.list (ds.map ec)]) rfl rfl (MT (show ds.length<64 from gW hkl))
 rw[hr]at ci
 refine(CC ((Dc (ds:=(C5 cs).map es) (t6:=st [] none none none) ?_).trans elp)).trans rfl
 unfold dIL
 rw[ci];rfl
theorem N5(A B:Pc)(w h:Nat):(Bg A B w h).Nodup:=(Bl A B w h).imp λ{a b} h e=>by
 subst e
 unfold lt2 at h
 omega
theorem Va{A B E:Pc}{w h:Nat}(w9:w<=9)(h6:Hh w h) :
  ∃ls,CK [.d (.list ((frS A B (Bg A B w h)).map ef)),.d (.list ((frS B E (Bg B E w h)).map ef))]=some (.list ((frS A E (Bg A E w h)).map ef),ls):=by
 let D:=λ(d:PyData)=>some (L.d d)
 let c1:=Bg A B w h
 let c2:=Bg B E w h
 have f1:Az (C5 c1)=c1:=(FQ (Bl A B w h)).1
 have f2:Az (C5 c2)=c2:=(FQ (Bl B E w h)).1
 have m1:∀s∈C5 c1,1<=s.m:=λs hs=>((FQ (Bl A B w h)).2 s hs).1
 have m2:∀s∈C5 c2,1<=s.m:=λs hs=>((FQ (Bl B E w h)).2 s hs).1
 have n1:c1.Nodup:=N5 A B w h
 have n2:c2.Nodup:=N5 B E w h
 have l1:c1.length<=63:=Hl A B w9 h6
 have l2:c2.length<=63:=Hl B E w9 h6
 have r1:∀c∈c1,InR w h c:=λc hc=>(diff_mem.mp hc).1
 have r2:∀c∈c2,InR w h c:=λc hc=>(diff_mem.mp hc).1
 have sl:∀cs:List Cl,cs.length<=63->(C5 cs).length<=1000:=λcs hc=>by have:=Kg cs [];simp at this;unfold C5;omega
 let F1:PyData:=.list ((frS A B c1).map ef)
 let F2:PyData:=.list ((frS B E c2).map ef)
 obtain⟨la,ea⟩:=IA (A:=A) (B:=B) (l:=C5 c1) (by rw[f1];exact n1) (by rw[f1];exact l1) m1
 obtain⟨lb,eb⟩:=IA (A:=B) (B:=E) (l:=C5 c2) (by rw[f2];exact n2) (by rw[f2];exact l2) m2
 obtain⟨lc,ek⟩:=IA (A:=B) (B:=A) (l:=C5 c1) (by rw[f1];exact n1) (by rw[f1];exact l1) m1
 obtain⟨ld,ed⟩:=IA (A:=E) (B:=B) (l:=C5 c2) (by rw[f2];exact n2) (by rw[f2];exact l2) m2
 rw[f1]at ea ek
 rw[f2]at eb ed
 obtain⟨le,ee⟩:=Jt (A:=A) (B:=B) (l:=C5 c1) (sl c1 l1)
 obtain⟨lf,ef2⟩:=Jt (A:=B) (B:=E) (l:=C5 c2) (sl c2 l2)
 obtain⟨lg,eg⟩:=Ju (A:=A) (B:=B) w9 h6 n1 n2 r1 r2 l1 l2 λc hc hn=>by
  by_cases z:Ae A c.1 c.2=Ae B c.1 c.2
  ·exact z.symm
  ·exact absurd (diff_mem.mpr ⟨r2 c hc,z⟩) hn
 obtain⟨lh,eh⟩:=Ju (A:=E) (B:=B) w9 h6 n2 n1 r2 r1 l2 l1 λc hc hn=>by
  by_cases z:Ae B c.1 c.2=Ae E c.1 c.2
  ·exact z
  ·exact absurd (diff_mem.mpr ⟨r1 c hc,z⟩) hn
 let ka:=unC c2 c1
 let kb:=unC c1 c2
 have hcs:∀c,c∈Bg A E w h↔c∈ka.filter (SU A E):=λc=>by
  rw[diff_mem,dg]
  have ed:SU A E c=true↔Ae A c.1 c.2≠Ae E c.1 c.2:=by unfold SU;simp
  rw[ed]
  refine⟨λ⟨r,n⟩=>⟨un_mem.mpr ?_,n⟩,λ⟨m,n⟩=>⟨(un_mem.mp m).elim (r2 c) (r1 c),n⟩⟩
  by_cases z:Ae A c.1 c.2=Ae B c.1 c.2
  ·exact .inl (diff_mem.mpr ⟨r,λy=>n (z.trans y)⟩)
  ·exact .inr (diff_mem.mpr ⟨r,z⟩)
 have hkl:(ka.filter (SU A E)).length<=63:=cm (PU ((NF n2).filter _) λc hc=>(hcs c).mpr hc) (Hl A E w9 h6)
 have hka:ka.length<=1000:=by
  have:ka.length<=c54.length:=PU (NF n2) λc hc=>bO w9 h6 ((un_mem.mp hc).elim (r2 c) (r1 c))
  exact cm this (by decide)
 obtain⟨lo,eo⟩:=K2 (A:=A) (B:=E) (ka:=ka) (kb:=kb) hka hkl (λc hc=>un_mem.mpr ((un_mem.mp hc).symm)) (Bl A E w h) hcs
 let t0:DS:=[D F1,D F2,none,none]
 let t1:DS:=[D F1,D F2,D (.dict (BC (kv A ka))),none]
 let t2:DS:=[D F1,D F2,D (.dict (BC (kv A ka))),D (.dict (BC (kv E kb)))]
 refine⟨[.d F1,.d F2],?_⟩
 unfold CK
 refine BZ (τ:=t2) ?_ rfl rfl
 have k1:=A2 (G:=CJ) (a:=AA (AD 0) AE) (τ:=t0) (t6:=t0) (rs:=[.d F1]) (ds:=[F1]) rfl rfl ea
 have k2:=A2 (G:=CJ) (a:=AA (AD 1) AE) (τ:=t0) (t6:=t0) (rs:=[.d F2]) (ds:=[F2]) rfl rfl eb
 have k3:=A2 (G:=CS) (τ:=t0) (t6:=t0) (rs:=[.d (.dict (BC (kv A c1))),.d (.dict (BC (kv B c2)))]) (ds:=[.dict (BC (kv A c1)),.dict (BC (kv B c2))]) (acc k1 (ac1 k2)) rfl eg
 refine(CC (t6:=t1) (EZ k3 rfl)).trans ?_
 have k4:=A2 (G:=CQ) (a:=AA (AD 1) AE) (τ:=t1) (t6:=t1) (rs:=[.d F2]) (ds:=[F2]) rfl rfl ef2
 have k5:=A2 (G:=CQ) (a:=AA (AD 0) AE) (τ:=t1) (t6:=t1) (rs:=[.d F1]) (ds:=[F1]) rfl rfl ee
 have k6:=A2 (G:=CJ) (τ:=t1) (t6:=t1) (ac1 k4) rfl ed
 have k7:=A2 (G:=CJ) (τ:=t1) (t6:=t1) (ac1 k5) rfl ek
 have k8:=A2 (G:=CS) (τ:=t1) (t6:=t1) (rs:=[.d (.dict (BC (kv E c2))),.d (.dict (BC (kv B c1)))]) (ds:=[.dict (BC (kv E c2)),.dict (BC (kv B c1))]) (acc k6 (ac1 k7)) rfl eh
 refine(CC (t6:=t2) (EZ k8 rfl)).trans ?_
 have k9:=A2 (G:=CZ) (a:=AA (AD 2) (AA (AD 3) AE)) (τ:=t2) (t6:=t2) (rs:=[.d (.dict (BC (kv A ka))),.d (.dict (BC (kv E kb)))]) (ds:=[.dict (BC (kv A ka)),.dict (BC (kv E kb))]) rfl rfl eo
 exact EB (DE k9)
theorem Ln{A B:Pc}{w h:Nat}(oA:OkP A w h)(oB:OkP B w h)(w9:w<=9)(h9:Hh w h) :
  ∃ls,Bq [.d (ep A),.d (ep B)]=some (.list ((frS A B (Bg A B w h)).map ef),ls):=by
 let I:=λ(i:Int)=>some (L.d (.int i))
 let D:=λ(d:PyData)=>some (L.d d)
 let cs:=Bg A B w h
 have hs:cs.Pairwise lt2:=Bl A B w h
 have hl:cs.length<=63:=Hl A B w9 h9
 let st:=λ(pre:List Cl) (x y:Option L)=>[D (ep A),D (ep B),some (L.k (kv A pre)),some (L.k (kv B pre)),x,y]
 have lp:∃t7,Bp (dGT (AL (dN 4) (AL (dN 5) BH))) (BA (Ie 2 (dOp AY (dOp AY (AD 0) (AD 5)) (AD 4)) (Bc (AA (AD 4) (AA (AD 5) AE)))) (Ie 3 (dOp AY (dOp AY (AD 1) (AD 5)) (AD 4)) (Bc (AA (AD 4) (AA (AD 5) AE))))) (cs.map ec) (st [] none none)=some (.nx t7)/\∃x y,nM x/\nM y/\t7=st cs x y:=by
  refine Bt (λ(pre:List Cl) τ=>∃x y,nM x/\nM y/\τ=st pre x y) ⟨none,none,Aa,Aa,rfl⟩ ?_
  rintro pre c post τ hp ⟨x,y,nx,ny,rfl⟩
  have hc:c∈cs:=by rw[hp];simp
  obtain⟨x0,x1,y0,y1,_⟩:=NA hc
  have hpl:pre.length<108:=by have:=congrArg List.length hp;simp at this;omega
  have hn:c∉pre:=λz=>by
   rw[hp]at hs
   have:=(dq.mp hs).2.2 c z c (J' ..)
   unfold lt2 at this
   omega
  let t1:=st pre (I c.1) (I c.2)
  let t2:DS:=[D (ep A),D (ep B),some (L.k (kv A (pre++[c]))),some (L.k (kv B pre)),I c.1,I c.2]
  have tg:dGT (AL (dN 4) (AL (dN 5) BH)) (ec c) (st pre x y)=some t1:=by
   show(dN 4 (.int c.1) (st pre x y)).bind _=_
   rw[A4 (o:=x) rfl nx]
   show(dN 5 (.int c.2) (st pre (I c.1) y)).bind _=_
   rw[A4 (o:=y) rfl ny];rfl
  have kl:∀P:Pc,(kv P pre).length<sizeLine:=λP=>by
   unfold kv
   rw[B']
   exact cy hpl (by decide)
  have p1:=QL (i:=2) (e:=dOp AY (dOp AY (AD 0) (AD 5)) (AD 4)) (k:=Bc (AA (AD 4) (AA (AD 5) AE))) (τ:=t1) (t8:=t1) (ks:=[.int c.1,.int c.2]) (c:=[c.1,c.2]) (m:=kv A pre)
   (op2 (op2 (x:=ep A) (y:=.int c.2) (t6:=t1) (t8:=t1) rfl rfl (Lg oA y0 y1)) (t8:=t1) (y:=.int c.1) rfl (UY oA y0 y1 x0 x1)) rfl rfl rfl (kl A)
  rw[Mr hn]at p1
  have p2:=QL (i:=3) (e:=dOp AY (dOp AY (AD 1) (AD 5)) (AD 4)) (k:=Bc (AA (AD 4) (AA (AD 5) AE))) (τ:=t2) (t8:=t2) (ks:=[.int c.1,.int c.2]) (c:=[c.1,c.2]) (m:=kv B pre)
   (op2 (op2 (x:=ep B) (y:=.int c.2) (t6:=t2) (t8:=t2) rfl rfl (Lg oB y0 y1)) (t8:=t2) (y:=.int c.1) rfl (UY oB y0 y1 x0 x1)) rfl rfl rfl (kl B)
  rw[Mr hn]at p2
  exact⟨t1,st (pre++[c]) (I c.1) (I c.2),tg,(Ay (t6:=t2) p1).trans p2,_,_,BW,BW,rfl⟩
 obtain⟨t7,el,x,y,nx,ny,rfl⟩:=lp
 obtain⟨l1,e1⟩:=Tt oA oB (by omega) h9.1
 obtain ⟨l2, e2⟩ := K2 (A := A) (B := B) (ka := cs) (kb := cs) (cs := cs) (by omega) (cm (List.length_filter_le _ _) hl) (λ_ h => h) hs λc => ⟨λhc => dg.mpr ⟨hc, by
  show(!decide (Ae A c.1 c.2=Ae B c.1 c.2))=true
  rw[decide_eq_false (NA hc).2.2.2.2];rfl⟩,λhc=>(dg.mp hc).1⟩
 refine⟨[.d (ep A),.d (ep B)],?_⟩
 unfold Bq
 let t5:DS:=[D (ep A),D (ep B),D (.dict (BC (kv A cs))),D (.dict (BC (kv B cs))),x,y]
 refine BZ (τ:=t5) ?_ rfl rfl
 refine(CC (t6:=[D (ep A),D (ep B),some (L.k []),none,none,none]) rfl).trans ?_
 refine(CC (t6:=st [] none none) rfl).trans ?_
 have c1:=A2 (G:=CL) (a:=AA (AD 0) (AA (AD 1) AE)) (τ:=st [] none none) (t6:=st [] none none) (rs:=[.d (ep A),.d (ep B)]) (ds:=[ep A,ep B]) rfl rfl e1
 refine(CC ((Dc (ds:=cs.map ec) (t6:=st [] none none) ?_).trans el)).trans ?_
 ·unfold dIL
  rw[c1];rfl
 ·have c2:=A2 (G:=CZ) (a:=AA (AD 2) (AA (AD 3) AE)) (τ:=t5) (t6:=t5) (rs:=[.d (.dict (BC (kv A cs))),.d (.dict (BC (kv B cs)))]) (ds:=[.dict (BC (kv A cs)),.dict (BC (kv B cs))]) rfl rfl e2
  show Be (dLs (AX CZ (AA (AD 2) (AA (AD 3) AE)))) t5=_
  exact EB (DE c2)
theorem Xp{a:DS->Option (List PyData×DS)}{τ t6:DS}{ds:List PyData}(h:a τ=some (ds,t6))(hz:ds.length<=1000):N8 a τ=some (.tuple ds,t6):=by
 unfold N8;rw[h];dsimp only[Option.bind_some];rw[if_pos (cm hz (by decide))]
theorem Nz{n f:Str}{e:DX}{τ t6:DS}{d x:PyData}{r:List (PyData×PyData)}(h:e τ=some (d,t6))(ho:obF n d=some r)(hg:He f r=some x):JK n f e τ=some (x,t6):=by
 unfold JK;rw[h];dsimp only[Option.bind_some];rw[ho];dsimp only[Option.bind_some];rw[hg];rfl
theorem Qi{n m:Str}{G:Mir}{o:DX}{a:DA}{τ t6 t8:DS}{x d:PyData}{r:List (PyData×PyData)}{rs:List Ar}{ds:List PyData}{ls:List L}(h:o τ=some (x,t6))(ho:obF n x=some r)(hg:He m r=none)(ha:a t6=some (rs,t8))(hd:Cc rs=some ds)(e:G ((x::ds).map L.d)=some (d,ls)):DK n m G o a τ=some (d,t8):=by
 unfold DK;rw[h];dsimp only[Option.bind_some];rw[ho];dsimp only[Option.bind_some];rw[hg,if_pos (show(none:Option PyData).isNone=true from rfl),ha];dsimp only[Option.bind_some];rw[hd];dsimp only[Option.bind_some];rw[e];rfl
theorem M5{n f:Str}{e:DX}{d z:PyData}{τ t6:DS}{r r':List (PyData×PyData)}(ho:obF n d=some r)(hz:r.length<1000)(he:e (τ.set 0 (some (.d d)))=some (z,t6))(hp:OQ f z r=r'):SO n f e d τ=some (.dict ((.list [],.str n)::r')):=by
 unfold SO;rw[ho];dsimp only[Option.bind_some];rw[if_pos hz,he,<- hp];rfl
theorem M6{g h:PyData->DS->Option PyData}{d d1 d2:PyData}{τ:DS}(h1:g d τ=some d1)(h2:h d1 τ=some d2):Tj g h d τ=some d2:=by
 unfold Tj;rw[h1];exact h2
def efr(f:List Fw):PyData:=.list (f.map ef)
def Hk(P Z:Pc)(fs:List (List Fw)):PyData:=.dict [(.list [],.str "Film"),(.str "first",ep P),(.str "last",ep Z),(.str "kept_frames",.list (fs.map efr))]
def K5(P Z:Pc)(fs:List (List Fw)):List (PyData×PyData):=[(.str "first",ep P),(.str "last",ep Z),(.str "kept_frames",.list (fs.map efr))]
theorem UK(n:Str)(r:List (PyData×PyData)):obF n (.dict ((.list [],.str n)::r))=some r:=by unfold obF;exact if_pos rfl
theorem Uh{np nl:Nat}{g:PyData->DS->Option PyData}{d r:PyData}{ds:List PyData}(hl:ds.length+1=np)(h:g d (none::((ds.map L.d).map some++List.replicate nl none))=some r):MS np nl g d ds=some r:=by unfold MS;rw[if_pos hl];exact h
theorem Er(P Z:Pc)(fs:List (List Fw)):obF "Film" (Hk P Z fs)=some (K5 P Z fs):=UK _ _
theorem Z8(P Z:Pc)(fs:List (List Fw)):He "first" (K5 P Z fs)=some (ep P):=if_pos rfl
theorem Z7(P Z:Pc)(fs:List (List Fw)):He "last" (K5 P Z fs)=some (ep Z):=(if_neg (by decide)).trans (if_pos rfl)
theorem RC(P Z:Pc)(fs:List (List Fw)):He "kept_frames" (K5 P Z fs)=some (.list (fs.map efr)):=(if_neg (by decide)).trans ((if_neg (by decide)).trans (if_pos rfl))
theorem RB{m:Str}(h1:("first":Str)≠m)(h2:("last":Str)≠m)(h3:("kept_frames":Str)≠m)(P Z:Pc)(fs:List (List Fw)):He m (K5 P Z fs)=none:=(if_neg h1).trans ((if_neg h2).trans ((if_neg h3).trans rfl))
theorem YW{P:Pc}(hz:P.length<=1000):Bb (.dict [(.list [],.str "Film")]) [ep P]=some (Hk P P []):=by
 have cp:∀d:PyData,dLs (AX Aq (AA (AD 1) AE)) [some (.d d),some (.d (ep P))]=some (ep P,[some (.d d),some (.d (ep P))]):=λd=>DE (A2 (rs:=[.d (ep P)]) (ds:=[ep P]) rfl rfl (JZ hz))
 unfold Bb
 refine Uh rfl ?_
 exact M6 (M5 (r := []) (r' := [(.str "first", ep P)]) (UK _ _) (by decide) (cp _) rfl) (M6 (M5 (r := [(.str "first", ep P)]) (r' := [(.str "first", ep P), (.str "last", ep P)]) (UK _ _) (by show 1 < 1000; decide) (cp _) (if_neg (by decide)))
  (M5 (r:=[(.str "first",ep P),(.str "last",ep P)]) (z:=.list []) (r':=K5 P P []) (UK _ _) (by show 2<1000;decide) rfl ((if_neg (by decide)).trans (congrArg _ (if_neg (by decide))))))
theorem T8{P:Pc}(hz:P.length<=1000):∃ls,C1 [.d (ep P)]=some (.list ((P.map λr=>(r.length:Int)).map PyData.int),ls):=by
 obtain ⟨t9, el⟩ := EO (enc := eL) (g := dN 0) (c := DC) (e := A9 By (AA (AD 0) AE)) (λτ => ∃ o, nM o /\ τ = [o]) (λ_ => true) (λr => .int (r.length : Int)) (xs := P) (acc := []) (τ := [none]) ⟨none, Aa, rfl⟩ (by
  rintro r τ _ ⟨o,ho,rfl⟩
  refine⟨_,[some (.d (eL r))],A4 (o:=o) rfl ho,rfl,λz=>(nomatch z),λ_=>⟨[some (.d (eL r))],?_,_,BW,rfl⟩⟩
  show some (PyData.int ((r.map ec).length:Nat),[some (L.d (eL r))])=_
  rw[B'])
 rw[dU,XD]at el
 refine⟨[.d (ep P)],?_⟩
 unfold C1
 refine BZ (τ:=[some (.d (ep P))]) (EB ?_) rfl rfl
 have:=HI (own:=1) (fr:=[]) (it:=dIL (AD 0)) (τ:=[some (.d (ep P))]) (t6:=[some (.d (ep P))]) (t9:=t9) rfl (by rw[B'];exact sz hz) rfl el
 refine this.trans ?_
 rw[cu];rfl
theorem PD{P:Pc}{w h:Nat}(o:OkP P w h):(P.map λr=>(r.length:Int))=List.replicate h (w:Int):=by
 rw[List.eq_replicate_iff]
 refine⟨by rw[B',o.len],λb hb=>?_⟩
 obtain⟨r,hr,rfl⟩:=cv.mp hb
 rw[o.all r hr]
theorem aS{P Z B:Pc}{fs:List (List Fw)}{w h:Nat}(oZ:OkP Z w h)(oB:OkP B w h)(w9:w<=9)(h6:Hh w h)(hf:fs.length<=900):Ca (Hk P Z fs) [ep B]=some (Hk P B (fs++[frS Z B (Bg Z B w h)])):=by
 have zB:B.length<=1000:=by rw[oB.len];have:=h6.1;omega
 have zZ:Z.length<=1000:=by rw[oZ.len];have:=h6.1;omega
 obtain⟨l1,s1⟩:=T8 zB
 obtain⟨l2,s2⟩:=T8 zZ
 obtain⟨l3,s3⟩:=Ln oZ oB w9 h6
 unfold Ca
 refine Uh rfl ?_
 let t:=λ(d:PyData)=>[some (L.d d),some (L.d (ep B))]
 have v1:∀d,AD 1 (t d)=some (ep B,t d):=λd=>rfl
 have fl:∀fs:List (List Fw),JK "Film" "last" (AD 0) (t (Hk P Z fs))=some (ep Z,t (Hk P Z fs)):=λfs=>Nz rfl (Er P Z fs) (Z7 P Z fs)
 have c1:W7 (AZ (dOp fNe (AX C1 (AA (AD 1) AE)) (AX C1 (AA (JK "Film" "last" (AD 0)) AE)))) (Hk P Z fs) [none,some (.d (ep B))]=some (Hk P Z fs):=by
  have e:AZ (dOp fNe (AX C1 (AA (AD 1) AE)) (AX C1 (AA (JK "Film" "last" (AD 0)) AE))) (t (Hk P Z fs))=some (false,t (Hk P Z fs)) :=
   tst (op2 (A2 (rs:=[.d (ep B)]) (ds:=[ep B]) (ac1 (v1 _)) rfl s1) (A2 (rs:=[.d (ep Z)]) (ds:=[ep Z]) (ac1 (fl fs)) rfl s2) (by rw[PD oB,PD oZ,encI.fNeL];simp))
  unfold W7
  show(match AZ _ (t (Hk P Z fs)) with|some (false,_)=>some (Hk P Z fs)|_=>none)=_
  rw[e]
 have c2:W8 "Film" "kept_frames" (dLs (AX Bq (AA (JK "Film" "last" (AD 0)) (AA (AD 1) AE)))) (Hk P Z fs) [none,some (.d (ep B))]=some (Hk P Z (fs++[frS Z B (Bg Z B w h)])):=by
  have e:dLs (AX Bq (AA (JK "Film" "last" (AD 0)) (AA (AD 1) AE))) (t (Hk P Z fs))=some (.list ((frS Z B (Bg Z B w h)).map ef),t (Hk P Z fs)):=DE (A2 (rs:=[.d (ep Z),.d (ep B)]) (ds:=[ep Z,ep B]) (acc (fl fs) (ac1 (v1 _))) rfl s3)
  unfold W8
  rw[Er];dsimp only[Option.bind_some]
  rw[RC];dsimp only
  rw[if_pos (by rw[B'];exact fX hf (by decide)),show([none,some (L.d (ep B))]:DS).set 0 (some (.d (Hk P Z fs)))=t (Hk P Z fs) from rfl,e]
  show some (PyData.dict ((.list [],.str "Film")::OQ "kept_frames" _ (K5 P Z fs)))=_
  rw[show ∀x,OQ "kept_frames" x (K5 P Z fs)=[(.str "first",ep P),(.str "last",ep Z),(.str "kept_frames",x)] from λx=>(if_neg (by decide)).trans (congrArg _ ((if_neg (by decide)).trans (congrArg _ (if_pos rfl))))]
  show some (PyData.dict [_,_,_,(PyData.str "kept_frames",.list (fs.map efr++[efr (frS Z B (Bg Z B w h))]))])=some (PyData.dict [_,_,_,(PyData.str "kept_frames",.list ((fs++[frS Z B (Bg Z B w h)]).map efr))])
  rw[c9];rfl
 exact M6 c1 (M6 c2 (M5 (r':=K5 P B (fs++[frS Z B (Bg Z B w h)])) (Er _ _ _) (by show 3<1000;decide) (DE (A2 (rs:=[.d (ep B)]) (ds:=[ep B]) (ac1 (v1 _)) rfl (JZ zB))) ((if_neg (by decide)).trans (congrArg _ (if_pos rfl)))))
def prs(A:Pc):List Pc->List (Pc×Pc)
 |[]=>[]
 |B::r=>(A,B)::prs B r
def frs(w h:Nat)(p:Pc×Pc):List Fw:=frS p.1 p.2 (Bg p.1 p.2 w h)
def Gx(w h:Nat)(P:Pc)(r:List Pc):PyData:=Hk P (r.getLastD P) ((prs P r).map (frs w h))
theorem Rf(B:Pc):∀(r:List Pc) (A:Pc),prs A (r++[B])=prs A r++[(r.getLastD A,B)]
 |[],A=>rfl
 |C::r,A=>by
  show(A,C)::prs C (r++[B])=(A,C)::(prs C r++_)
  rw[Rf B r C,fG]
theorem Ms:∀(r:List Pc) (A:Pc),(prs A r).map (·.2)=r
 |[],A=>rfl
 |C::r,A=>by show C::(prs C r).map (·.2)=_;rw[Ms r C]
theorem QP(r:List Pc)(A:Pc):(prs A r).length=r.length:=by have:=congrArg List.length (Ms r A);rwa [B']at this
theorem TB{p:Pc×Pc}:∀{pre post:List (Pc×Pc)} {r:List Pc} {A:Pc},prs A r=pre++p::post->p.1=(pre.map (·.2)).getLastD A
 |[],post,[],A,h=>by cases h
 |[],post,C::r,A,h=>by cases h;rfl
 |q::pre,post,[],A,h=>by cases h
 |q::pre,post,C::r,A,h=>by
  injection h with h1 h2
  subst h1
  rw[P',fG]
  exact TB h2
theorem WT{w h:Nat}{p:Pc×Pc}:∀{r:List Pc} {A:Pc},(∀P∈A::r,OkP P w h)->p∈prs A r->OkP p.1 w h/\OkP p.2 w h
 |[],A,_,hp=>by cases hp
 |C::r,A,h,hp=>by
  rcases X'.mp hp with rfl|hp
  ·exact⟨h _ (J' ..),h _ (E' _ (J' ..))⟩
  ·exact WT (λP hP=>h P (E' _ hP)) hp
theorem Ni:∀(r:List Pc) (A:Pc),r.getLastD A∈A::r
 |[],A=>fY _
 |C::r,A=>by rw[fG];exact E' _ (Ni r C)
theorem Yr{P B:Pc}{r:List Pc}{w h:Nat}(ok:∀Q∈P::r,OkP Q w h)(oB:OkP B w h)(w9:w<=9)(h6:Hh w h)(hr:r.length<=900):Ca (Gx w h P r) [ep B]=some (Gx w h P (r++[B])):=by
 have e:=aS (P:=P) (fs:=(prs P r).map (frs w h)) (ok _ (Ni r P)) oB w9 h6 (by rw[B',QP];exact hr)
 unfold Gx
 rw[e,Rf,c9,gB];rfl
theorem nC:("first":Str)≠"count"/\("last":Str)≠"count"/\("kept_frames":Str)≠"count":=by decide
theorem nA:("first":Str)≠"at"/\("last":Str)≠"at"/\("kept_frames":Str)≠"at":=by decide
theorem nF:("first":Str)≠"frames"/\("last":Str)≠"frames"/\("kept_frames":Str)≠"frames":=by decide
theorem nD:("first":Str)≠"add"/\("last":Str)≠"add"/\("kept_frames":Str)≠"add":=by decide
theorem XY(w h:Nat)(P:Pc)(r:List Pc):BY [.d (Gx w h P r)]=some (.int ((r.length:Int)+1),[.d (Gx w h P r)]):=by
 unfold BY
 let t:DS:=[some (.d (Gx w h P r))]
 refine BZ (τ:=t) (EB ?_) rfl rfl
 have f:=Nz (e:=AD 0) (τ:=t) (t6:=t) rfl (Er P (r.getLastD P) ((prs P r).map (frs w h))) (RC _ _ _)
 have e:By [.list (((prs P r).map (frs w h)).map efr)]=some (.int (r.length:Int)):=by
  show some (PyData.int ((((prs P r).map (frs w h)).map efr).length:Nat))=_
  rw[B',B',QP]
 exact op2 (KU (ac1 f) rfl e) (y:=.int 1) (t8:=t) rfl rfl
theorem Wi{o:DX}{τ:DS}{w h:Nat}{P:Pc}{r:List Pc}(ho:o τ=some (Gx w h P r,τ)):DK "Film" "count" BY o AE τ=some (.int ((r.length:Int)+1),τ) :=
 Qi ho (Er _ _ _) (RB nC.1 nC.2.1 nC.2.2 _ _ _) (rs:=[]) (ds:=[]) rfl rfl (XY w h P r)
theorem XW(l:List PyData)(k:Nat):RI l none (some (k:Int))=l.take k:=by
 have:=Ux l (x:=0) k (by decide)
 rw[show(0:Int)+(k:Int)=(k:Int) by omega]at this
 unfold RI at this ⊢
 exact this
theorem Le:∀(k:Nat) (r:List Pc) (P:Pc),k<=r.length->(r.take k).getLastD P=(P::r).getD k []
 |0,r,P,_=>by rw[List.take_zero];rfl
 |k+1,[],P,h=>absurd h (by simp)
 |k+1,B::r,P,h=>by
  rw[List.take_succ_cons,fG,Le k r B (by simpa using h)];rfl
theorem bo{P:Pc}{r:List Pc}{w h k:Nat}(ok:∀Q∈P::r,OkP Q w h)(w9:w<=9)(h6:Hh w h)(hk:k<=r.length)(hr:r.length<=900):∃ls,BJ [.d (Gx w h P r),.d (.int k)]=some (ep ((P::r).getD k []),ls):=by
 let D:=λ(d:PyData)=>some (L.d d)
 let F:=Gx w h P r
 let st:=λ(p f:Option L)=>[D F,D (.int k),p,f]
 have zP:P.length<=1000:=by rw[(ok P (J' ..)).len];have:=h6.1;omega
 have v0:∀p f,AD 0 (st p f)=some (F,st p f):=λp f=>rfl
 have f1:∀p f,JK "Film" "first" (AD 0) (st p f)=some (ep P,st p f):=λp f=>Nz (v0 p f) (Er _ _ _) (Z8 _ _ _)
 have f3:∀p f,JK "Film" "kept_frames" (AD 0) (st p f)=some (.list (((prs P r).map (frs w h)).map efr),st p f):=λp f=>Nz (v0 p f) (Er _ _ _) (RC _ _ _)
 have lp:∃t7,Bp (dN 3) (EL 2 2 (Ez 2 (dLs (AX BX (AA (AD 3) (AA (AD 2) AE)))))) (((prs P r).take k).map λp=>efr (frs w h p)) (st (some (.g (ep P))) none)=some (.nx t7)/\∃o,nM o/\t7=st (some (.g (ep ((((prs P r).take k).map (·.2)).getLastD P)))) o:=by
  refine Bt (λ(pre:List (Pc×Pc)) τ=>∃o,nM o/\τ=st (some (.g (ep ((pre.map (·.2)).getLastD P)))) o) ⟨none,Aa,rfl⟩ ?_
  rintro pre p post τ hp ⟨o,ho,rfl⟩
  have hp2:prs P r=pre++p::(post++(prs P r).drop k):=by
   have:=(dY k (prs P r)).symm
   rw[hp,dO]at this;exact this
  have e1:=TB hp2
  obtain⟨o1,o2⟩:=WT (p:=p) ok (by rw[hp2];simp)
  obtain⟨ls,e2⟩:=IX o1 o2 w9 h6
  rw[<- e1]
  let t1:=st (some (.g (ep p.1))) (D (efr (frs w h p)))
  let t2:=st (D (ep p.1)) (D (efr (frs w h p)))
  refine⟨t1,st (some (.g (ep p.2))) (D (efr (frs w h p))),A4 (o:=o) rfl ho,?_,D (efr (frs w h p)),BW,?_⟩
  ·refine FH (t6:=t1) (JM (t6:=t2) (xs:=p.1.map eL) rfl ?_ rfl) (by decide) (by show 2<4;decide) rfl
   exact DE (cQ t2 [efr (frs w h p),ep p.1] rfl rfl e2)
  ·rw[c9,P',fZ,gB]
 obtain⟨t7,el,o,ho,rfl⟩:=lp
 rw[show((prs P r).take k).map (·.2)=r.take k by rw[List.map_take,Ms],Le k r P hk]at el
 refine⟨[.d F,.d (.int k)],?_⟩
 unfold BJ
 refine BZ (τ:=st (some (.g (ep ((P::r).getD k [])))) o) ?_ rfl rfl
 refine(CC (t6:=st none none) ?_).trans ?_
 ·have c:=Sh (F:=fLe) (G:=fLt) (a:=dC (.int 0)) (b:=AD 1) (τ:=st none none) (x:=.int 0) (y:=.int k) (r:=true) rfl rfl (Wi (v0 none none)) (by show some (PyData.bool (decide ((0:Int)<=k)))=_;rw[decide_eq_true (by omega)]) (by show some (PyData.bool (decide ((k:Int)<(r.length:Int)+1)))=_;rw[decide_eq_true (by omega)])
  exact(Gv (RO (tst c))).trans rfl
 refine(CC (t6:=st (some (.g (ep P))) none) (FH (t6:=st none none) (DE (A2 (rs:=[.d (ep P)]) (ds:=[ep P]) (ac1 (f1 none none)) rfl (JZ zP))) (by decide) (by show 2<4;decide) rfl)).trans ?_
 refine(CC ((Dc (t6:=st (some (.g (ep P))) none) ?_).trans el)).trans rfl
 unfold dIL dSl
 rw[f3]
 show some (RI (((prs P r).map (frs w h)).map efr) none (some (k:Int)),_)=_
 rw[XW,cu,List.map_take];rfl
theorem mat{o:DX}{a:DX}{τ:DS}{w h k:Nat}{P:Pc}{r:List Pc}(ok:∀Q∈P::r,OkP Q w h)(w9:w<=9)(h6:Hh w h)(hk:k<=r.length)(hr:r.length<=900)(ho:o τ=some (Gx w h P r,τ))(ha:a τ=some (.int k,τ)):dLs (DK "Film" "at" BJ o (AA a AE)) τ=some (ep ((P::r).getD k []),τ):=by
 obtain⟨ls,e⟩:=bo ok w9 h6 hk hr
 exact Ng (Qi ho (Er _ _ _) (RB nA.1 nA.2.1 nA.2.2 _ _ _) (rs:=[.d (.int k)]) (ds:=[.int k]) (ac1 ha) rfl e)
theorem Vy{A B:Pc}{l:List Sx}(hz:l.length<=1000):∃ls,Cf [.d (.list ((l.map (Ak A B)).map ef))]=some (.list ((l.map (Ak A B)).map ef),ls):=by
 let I:=λ(i:Int)=>some (L.d (.int i))
 let D:=λ(d:PyData)=>some (L.d d)
 let Fr:PyData:=.list ((l.map (Ak A B)).map ef)
 let eX:DX:=N8 (Ga (dFd (AD 0)) (Ga (dFd (AD 1)) (Ga (dFx (A9 Ba (AA (AD 2) AE))) (Ga (dFx (A9 Ba (AA (AD 3) AE))) LF))))
 obtain ⟨t9, el⟩ := EO (enc := λs => ef (Ak A B s)) (g := dGT (AL (dN 0) (AL (dN 1) (AL (dN 2) (AL (dN 3) BH))))) (c := DC) (e := eX) (λτ => ∃ x y o n, nM x /\ nM y /\ nM o /\ nM n /\ τ = [x, y, o, n]) (λ_ => true) (λs => ef (Ak A B s)) (xs := l) (acc := []) (τ := [none, none, none, none]) ⟨none, none, none, none, Aa, Aa, Aa, Aa, rfl⟩ (by
  rintro s τ hs ⟨x,y,o,n,nx,ny,no,nn,rfl⟩
  let t:DS:=[I s.x,I s.y,D (eL (Ak A B s).o),D (eL (Ak A B s).n)]
  refine⟨t,t,?_,rfl,(λz=>nomatch z),λ_=>⟨t,?_,_,_,_,_,BW,BW,BW,BW,rfl⟩⟩
  ·show(dN 0 (.int s.x) [x,y,o,n]).bind _=_
   rw[A4 (o:=x) rfl nx]
   show(dN 1 (.int s.y) [I s.x,y,o,n]).bind _=_
   rw[A4 (o:=y) rfl ny]
   show(dN 2 (eL (Ak A B s).o) [I s.x,I s.y,o,n]).bind _=_
   rw[A4 (o:=o) rfl no]
   show(dN 3 (eL (Ak A B s).n) [I s.x,I s.y,D (eL (Ak A B s).o),n]).bind _=_
   rw[A4 (o:=n) rfl nn];rfl
  ·have f3:dFx (A9 Ba (AA (AD 3) AE)) t=some (eL (Ak A B s).n,t):=Ug rfl
   have f2:dFx (A9 Ba (AA (AD 2) AE)) t=some (eL (Ak A B s).o,t):=Ug rfl
   exact Xp (t6:=t) (ds:=[.int s.x,.int s.y,eL (Ak A B s).o,eL (Ak A B s).n]) (G8 (t6:=t) (d:=.int s.x) rfl (G8 (t6:=t) (d:=.int s.y) rfl (G8 f2 (G8 f3 (show LF t=some ([],t) from rfl))))) (show 4<=1000 by decide))
 rw[dU,XD]at el
 refine⟨[.d Fr],?_⟩
 unfold Cf
 refine BZ (τ:=[D Fr]) ?_ rfl rfl
 have:=HI (own:=4) (fr:=[]) (it:=dIL (AD 0)) (τ:=[D Fr]) (t6:=[D Fr]) (ds:=l.map λs=>ef (Ak A B s)) (t9:=t9) (by show some ((l.map (Ak A B)).map ef,[D Fr])=_;rw[cu];rfl) (by rw[B'];exact sz hz) rfl el
 refine EB (t6:=[D Fr]) (this.trans ?_)
 rw[cu];rfl
theorem Vk{P:Pc}{r:List Pc}{w h:Nat}(w9:w<=9)(h6:Hh w h)(hr:r.length<=900):∃ls,C3 [.d (Gx w h P r)]=some (.list ((prs P r).map λp=>efr (frs w h p)),ls):=by
 obtain ⟨t9, el⟩ := EO (enc := λp => efr (frs w h p)) (g := dN 0) (c := DC) (e := dLs (AX Cf (AA (AD 0) AE))) (λτ => ∃ o, nM o /\ τ = [o]) (λ_ => true) (λp => efr (frs w h p)) (xs := prs P r) (acc := []) (τ := [none]) ⟨none, Aa, rfl⟩ (by
  rintro p τ _ ⟨o,ho,rfl⟩
  obtain ⟨ls, e⟩ := Vy (A := p.1) (B := p.2) (l := C5 (Bg p.1 p.2 w h)) (by
   have h1:=(bT (A:=p.1) (B:=p.2) (Bl p.1 p.2 w h)).1
   have h2:=Hl p.1 p.2 w9 h6
   unfold frS at h1
   rw[B']at h1
   omega)
  exact⟨_,[some (.d (efr (frs w h p)))],A4 (o:=o) rfl ho,rfl,λz=>(nomatch z),λ_=>⟨[some (.d (efr (frs w h p)))],DE (A2 (rs:=[.d (efr (frs w h p))]) (ds:=[efr (frs w h p)]) rfl rfl e),_,BW,rfl⟩⟩)
 rw[dU,XD]at el
 refine⟨[.d (Gx w h P r)],?_⟩
 unfold C3
 let t:DS:=[some (.d (Gx w h P r))]
 refine BZ (τ:=t) (EB ?_) rfl rfl
 refine HI (own:=1) (fr:=[]) (τ:=t) (t6:=t) (t9:=t9) ?_ (by rw[B',QP];exact sz (by omega)) rfl el
 unfold dIL
 rw[Nz (e:=AD 0) (τ:=t) (t6:=t) rfl (Er P (r.getLastD P) ((prs P r).map (frs w h))) (RC _ _ _)]
 show some (((prs P r).map (frs w h)).map efr,t)=_
 rw[cu];rfl
structure Fm where
 w:Nat
 h:Nat
 P:Pc
 r:List Pc
structure Gd(f:Fm):Prop where
 ok:∀Q∈f.P::f.r,OkP Q f.w f.h
 w1:1<=f.w
 w9:f.w<=9
 h1:1<=f.h
 h6:Hh f.w f.h
 len:f.r.length<=20
def fd(f:Fm):PyData:=Gx f.w f.h f.P f.r
def kd(f:Fm):PyData:=.list ((f.P::f.r).map ep)
def lst(f:Fm):Pc:=f.r.getLastD f.P
def Fm.add(f:Fm)(B:Pc):Fm:=⟨f.w,f.h,f.P,f.r++[B]⟩
theorem Gd.l{f:Fm}(g:Gd f):OkP (lst f) f.w f.h:=g.ok _ (Ni f.r f.P)
theorem Gd.p{f:Fm}(g:Gd f):OkP f.P f.w f.h:=g.ok _ (J' ..)
theorem Gd.add{f:Fm}{B:Pc}(g:Gd f)(oB:OkP B f.w f.h)(hl:f.r.length<20):Gd (f.add B):=by
 refine⟨λQ hQ=>?_,g.w1,g.w9,g.h1,g.h6,by show(f.r++[B]).length<=20;rw[cT,dH];omega⟩
 have hQ:Q∈f.P::(f.r++[B]):=hQ
 rw[<- gh]at hQ
 rcases cN.mp hQ with z|z
 ·exact g.ok Q z
 ·rw[cW.mp z];exact oB
theorem NC{xs:List PyData}{k:Nat}{d:PyData}(h:xs[k]?=some d):atI xs (k:Int)=some d:=by
 have hk:k<xs.length:=(K'.mp h).1
 unfold atI
 rw[Lh (by omega) (by omega)]
 show xs[(k:Int).toNat]?=some d
 rw[dD];exact h
theorem R8{f:Fm}{k:Nat}(hk:k<=f.r.length):AY (kd f) (.int k)=some (ep ((f.P::f.r).getD k [])):=by
 refine NC ?_
 rw[U',cO,Y' (show k<(f.P::f.r).length by rw[cM];omega)];rfl
theorem Nh:∀(r:List Pc) (P:Pc),∃i,P::r=i++[r.getLastD P]
 |[],P=>⟨[],rfl⟩
 |C::r,P=>by
  obtain⟨i,e⟩:=Nh r C
  exact⟨P::i,by rw[fG,gh,<- e]⟩
theorem Qt(f:Fm):AY (kd f) (.int (-1))=some (ep (lst f)):=by
 obtain⟨i,e⟩:=Nh f.r f.P
 show atI ((f.P::f.r).map ep) (-1)=_
 rw[e,c9]
 exact Sj (i.map ep) (ep (lst f))
theorem Td{c:DX}{τ:DS}{f:Fm}(hc:c τ=some (kd f,τ)):A9 By (AA c AE) τ=some (.int ((f.r.length:Int)+1),τ):=KU (ac1 hc) rfl (by
 show some (PyData.int (((f.P::f.r).map ep).length:Nat))=_
 rw[B',cM];rfl)
theorem UA{a b:DX}{τ:DS}{P:Pc}{w h:Nat}(o:OkP P w h)(w9:w<=9)(h9:h<=9)(ha:a τ=some (ep P,τ))(hb:b τ=some (ep P,τ)):Bm (AZ (AX Ag (AA a (AA b AE)))) τ=some (false,τ):=by
 obtain⟨ls,e⟩:=Xx o w9 h9
 exact RO (tst (A2 (rs:=[.d (ep P),.d (ep P)]) (ds:=[ep P,ep P]) (acc ha (ac1 hb)) rfl e))
theorem Gd.at{f:Fm}(g:Gd f){o a:DX}{τ:DS}{k:Nat}(hk:k<=f.r.length)(ho:o τ=some (fd f,τ))(ha:a τ=some (.int k,τ)):dLs (DK "Film" "at" BJ o (AA a AE)) τ=some (ep ((f.P::f.r).getD k []),τ):=mat g.ok g.w9 g.h6 hk (by have:=g.len;omega) ho ha
theorem W4(f:Fm):(f.P::f.r).getD f.r.length []=lst f:=by
 rw[<- Le f.r.length f.r f.P (W' _),List.take_length];rfl
theorem Xz{f:Fm}(g:Gd f){o c:DX}{τ:DS}(ho:o τ=some (fd f,τ))(hc:c τ=some (kd f,τ)) :
  GB (AZ (dOp fNe (DK "Film" "count" BY o AE) (A9 By (AA c AE)))) (Bm (AZ (AX Ag (AA (dLs (DK "Film" "at" BJ o (AA (dC (.int 0)) AE))) (AA (dOp AY c (dC (.int 0))) AE))))) τ=some (false,τ):=by
 refine WX (t6:=τ) (tst (op2 (Wi ho) (Td hc) (by rw[encI.fNe];simp))) ?_
 exact UA g.p g.w9 g.h6.1 (g.at (k:=0) (cZ _) ho rfl) (op2 hc (y:=.int ((0:Nat):Int)) (t8:=τ) rfl (R8 (k:=0) (cZ _)))
theorem Xy{f:Fm}(g:Gd f){o c:DX}{τ:DS}(ho:o τ=some (fd f,τ))(hc:c τ=some (kd f,τ)) :
  Bm (AZ (AX Ag (AA (dLs (DK "Film" "at" BJ o (AA (dOp N1 (A9 By (AA c AE)) (dC (.int 1))) AE))) (AA (dOp AY c (dUn FZ (dC (.int 1)))) AE)))) τ=some (false,τ):=by
 have e:=g.at (k:=f.r.length) (a:=dOp N1 (A9 By (AA c AE)) (dC (.int 1))) (W' _) ho (op2 (Td hc) (y:=.int 1) (t8:=τ) rfl (by show some (PyData.int ((f.r.length:Int)+1-1))=_;rw[Int.add_sub_cancel]))
 rw[W4]at e
 exact UA g.l g.w9 g.h6.1 e (op2 hc (y:=.int (-1)) (t8:=τ) rfl (Qt f))
theorem WL{f0 f1:Fm}(g0:Gd f0)(g1:Gd f1):∃ls,E9 [.d (.list [fd f0,fd f1]),.d (.list [kd f0,kd f1])]=some (.bool true,ls):=by
 let D:=λ(d:PyData)=>some (L.d d)
 let st:=λ(o:Option L)=>[D (.list [fd f0,fd f1]),D (.list [kd f0,kd f1]),o]
 let body:DB:=BA (Cu (GB (AZ (dOp fNe (DK "Film" "count" BY (dOp AY (AD 0) (AD 2)) AE) (A9 By (AA (dOp AY (AD 1) (AD 2)) AE)))) (Bm (AZ (AX Ag (AA (dLs (DK "Film" "at" BJ (dOp AY (AD 0) (AD 2)) (AA (dC (.int 0)) AE))) (AA (dOp AY (dOp AY (AD 1) (AD 2)) (dC (.int 0))) AE)))))) (Be (dC (.bool false))) Eu) (Cu (Bm (AZ (AX Ag (AA (dLs (DK "Film" "at" BJ (dOp AY (AD 0) (AD 2)) (AA (dOp N1 (A9 By (AA (dOp AY (AD 1) (AD 2)) AE)) (dC (.int 1))) AE))) (AA (dOp AY (dOp AY (AD 1) (AD 2)) (dUn FZ (dC (.int 1)))) AE))))) (Be (dC (.bool false))) Eu)
 have step:∀(k:Int) (f:Fm),Gd f->AY (.list [fd f0,fd f1]) (.int k)=some (fd f)->AY (.list [kd f0,kd f1]) (.int k)=some (kd f)->body (st (D (.int k)))=some (.nx (st (D (.int k)))):=λk f g e1 e2=>by
  have ho:dOp AY (AD 0) (AD 2) (st (D (.int k)))=some (fd f,st (D (.int k))):=op2 (y:=.int k) (t6:=st (D (.int k))) (t8:=st (D (.int k))) rfl rfl e1
  have hc:dOp AY (AD 1) (AD 2) (st (D (.int k)))=some (kd f,st (D (.int k))):=op2 (y:=.int k) (t6:=st (D (.int k))) (t8:=st (D (.int k))) rfl rfl e2
  exact(Ay ((Gv (Xz g ho hc)).trans rfl)).trans ((Gv (Xy g ho hc)).trans rfl)
 have lp:∃t7,Bp (dN 2) body ([0,1].map PyData.int) (st none)=some (.nx t7)/\∃o,nM o/\t7=st o:=by
  refine Bt (λ(pre:List Int) τ=>∃o,nM o/\τ=st o) ⟨none,Aa,rfl⟩ ?_
  rintro pre k post τ hp ⟨o,ho,rfl⟩
  have hk:k=0\/k=1:=by
   have:k∈([0,1]:List Int):=by rw[hp];simp
   simpa using this
  refine⟨st (D (.int k)),st (D (.int k)),A4 (o:=o) rfl ho,?_,_,BW,rfl⟩
  rcases hk with rfl|rfl
  ·exact step 0 f0 g0 rfl rfl
  ·exact step 1 f1 g1 rfl rfl
 obtain⟨t7,el,o,ho,rfl⟩:=lp
 refine⟨[.d (.list [fd f0,fd f1]),.d (.list [kd f0,kd f1])],?_⟩
 unfold E9
 refine BZ (τ:=st o) ?_ rfl rfl
 exact(Ay ((Dc (ds:=[0,1].map PyData.int) (t6:=st none) rfl).trans el)).trans rfl
theorem R9{f:Fm}(g:Gd f):∃ls,BU [.d (fd f),.d (kd f)]=some (.bool true,ls):=by
 let D:=λ(d:PyData)=>some (L.d d)
 let E:=λ(p:Pc×Pc)=>efr (frs f.w f.h p)
 let st:=λ(a b c:Option L)=>[D (fd f),D (kd f),a,b,c]
 have nil:E (f.P,f.P) = .list []:=by
  show PyData.list ((frS f.P f.P (Bg f.P f.P f.w f.h)).map ef)=_
  rw[Vo];rfl
 obtain⟨lf,ef⟩:=Vk (P:=f.P) (r:=f.r) g.w9 g.h6 (by have:=g.len;omega)
 have lp:∃t7,Bp (dN 3) (Cz (dLs (AX CK (AA (AD 2) (AA (AD 3) AE)))) (dN 2)) ((prs f.P f.r).map E) (st (D (E (f.P,f.P))) none none)=some (.nx t7)/\∃o,nM o/\t7=st (D (E (f.P,((prs f.P f.r).map (·.2)).getLastD f.P))) o none:=by
  refine Bt (λ(pre:List (Pc×Pc)) τ=>∃o,nM o/\τ=st (D (E (f.P,(pre.map (·.2)).getLastD f.P))) o none) ⟨none,Aa,rfl⟩ ?_
  rintro pre p post τ hp ⟨o,ho,rfl⟩
  have e1:=TB hp
  obtain⟨ls,e2⟩:=Va (A:=f.P) (B:=p.1) (E:=p.2) g.w9 g.h6
  rw[<- e1]
  let t1:=st (D (E (f.P,p.1))) (D (E p)) none
  refine⟨t1,st (D (E (f.P,p.2))) (D (E p)) none,A4 (o:=o) rfl ho,?_,D (E p),BW,?_⟩
  ·exact EZ (DE (cQ t1 [E (f.P,p.1),E p] rfl rfl e2)) rfl
  ·rw[c9,P',fZ,gB]
 obtain⟨t7,el,o,ho,rfl⟩:=lp
 rw[Ms]at el
 let u:=λ(c:Option L)=>st (D (E (f.P,lst f))) o c
 have lp2:∃t7,Bp (dN 4) (Cu (Bm (AZ (AX Ag (AA (dLs (DK "Film" "at" BJ (AD 0) (AA (AD 4) AE))) (AA (dOp AY (AD 1) (AD 4)) AE))))) (Be (dC (.bool false))) Eu) ((rng 0 (f.r.length+1)).map PyData.int) (u none)=some (.nx t7)/\∃c,nM c/\t7=u c:=by
  refine Bt (λ(pre:List Int) τ=>∃c,nM c/\τ=u c) ⟨none,Aa,rfl⟩ ?_
  rintro pre k post τ hp ⟨c,hc,rfl⟩
  have hk:=(mem_rng (lo:=0) (v:=k) (n:=((f.r.length+1:Nat):Int))).mp (by rw[dD,hp];simp)
  obtain⟨n,rfl⟩:∃n:Nat,k=(n:Int):=⟨k.toNat,by omega⟩
  have hn:n<=f.r.length:=by omega
  refine⟨u (D (.int n)),u (D (.int n)),A4 (o:=c) rfl hc,?_,_,BW,rfl⟩
  have oN:OkP ((f.P::f.r).getD n []) f.w f.h:=by
   rw[cO,Y' (show n<(f.P::f.r).length by rw[cM];omega)]
   exact g.ok _ (e9 _)
  exact(Gv (UA oN g.w9 g.h6.1 (g.at (τ:=u (D (.int n))) hn rfl rfl) (op2 (x:=kd f) (y:=.int n) (t6:=u (D (.int n))) (t8:=u (D (.int n))) rfl rfl (R8 hn)))).trans rfl
 obtain⟨t8,el2,c,hc,rfl⟩:=lp2
 refine⟨[.d (fd f),.d (kd f)],?_⟩
 unfold BU
 refine BZ (τ:=u c) ?_ rfl rfl
 refine(Ay (t6:=st (D (E (f.P,f.P))) none none) (EZ (d:=.list []) (t6:=st none none none) rfl (by rw[nil];rfl))).trans ?_
 refine(Ay (t6:=u none) ((Dc (ds:=(prs f.P f.r).map E) (t6:=st (D (E (f.P,f.P))) none none) ?_).trans el)).trans ?_
 ·unfold dIL
  rw[Ng (Qi (t6:=st (D (E (f.P,f.P))) none none) (o:=AD 0) rfl (Er _ _ _) (RB nF.1 nF.2.1 nF.2.2 _ _ _) (rs:=[]) (ds:=[]) rfl rfl ef)];rfl
 refine(Ay (t6:=u none) ?_).trans ?_
 ·obtain⟨lp,ep1⟩:=IX g.p g.l g.w9 g.h6
  have zP:f.P.length<=1000:=by rw[g.p.len];have:=g.h6.1;omega
  have k0:dOp AY (AD 1) (dC (.int 0)) (u none)=some (ep f.P,u none):=op2 (x:=kd f) (y:=.int ((0:Nat):Int)) (t6:=u none) (t8:=u none) rfl rfl (R8 (k:=0) (cZ _))
  have cp:dLs (AX CT (AA (dOp AY (AD 1) (dC (.int 0))) AE)) (u none)=some (ep f.P,u none):=DE (A2 (rs:=[.d (ep f.P)]) (ds:=[ep f.P]) (ac1 k0) rfl (RJ zP))
  have pl:dLs (AX BX (AA (AD 2) (AA (dLs (AX CT (AA (dOp AY (AD 1) (dC (.int 0))) AE))) AE))) (u none)=some (ep (lst f),u none):=DE (A2 (rs:=[.d (E (f.P,lst f)),.d (ep f.P)]) (ds:=[E (f.P,lst f),ep f.P]) (acc (d:=E (f.P,lst f)) (t6:=u none) rfl (ac1 cp)) rfl ep1)
  exact(Gv (UA g.l g.w9 g.h6.1 pl (op2 (x:=kd f) (y:=.int (-1)) (t6:=u none) (t8:=u none) rfl rfl (Qt f)))).trans rfl
 refine(Ay (t6:=u c) ((Dc (ds:=(rng 0 (f.r.length+1)).map PyData.int) (t6:=u none) ?_).trans el2)).trans rfl
 have:=PH (n:=(f.r.length:Int)+1) (ac1 (Td (c:=AD 1) (τ:=u none) (f:=f) rfl)) (by omega) (by have:=g.len;omega)
 rw[show((f.r.length:Int)+1).toNat=f.r.length+1 by omega]at this
 exact this
theorem NI{i:Nat}{f:DT}{τ t6:DS}{b:Bool}{xs:List PyData}(hi:τ[i]?=some (some (.g (.list xs))))(hf:f (τ.set i (some (.d (.list xs))))=some (b,t6))(hx:t6.all okM=true):GO i f τ=some (b,t6.set i (some (.g (.list xs)))):=by
 unfold GO;rw[hi];dsimp only;rw[hf];dsimp only[Option.bind];rw[if_pos hx]
theorem Uz{i:Nat}{f:DX}{τ t6:DS}{b:Bool}{xs:List PyData}(hi:τ[i]?=some (some (.g (.list xs))))(hf:f (τ.set i (some (.d (.list xs))))=some (.bool b,t6))(hx:t6.all okM=true):OF i f τ=some (.bool b,t6.set i (some (.g (.list xs)))):=by
 unfold OF;rw[hi];dsimp only;rw[hf];dsimp only[Option.bind];rw[hx];rfl
theorem Mw{a:DS->Option (List PyData×DS)}{τ t6:DS}{ds:List PyData}(h:a τ=some (ds,t6))(hz:ds.length<=1000):Ig a τ=some (.list ds,t6):=by
 unfold Ig;rw[h];dsimp only[Option.bind_some];rw[if_pos (cm hz (by decide))]
theorem YO{n:Str}{G:PyData->List PyData->Option PyData}{a:DA}{τ t6:DS}{rs:List Ar}{ds:List PyData}{d:PyData}(h:a τ=some (rs,t6))(hd:Cc rs=some ds)(e:G (.dict [(.list [],.str n)]) ds=some d):OC n G a τ=some (d,t6):=by
 unfold OC;rw[h];dsimp only[Option.bind_some];rw[hd];dsimp only[Option.bind_some];rw[e];rfl
theorem Yq{i j:Nat}{e:DX}{n m:Str}{G:PyData->List PyData->Option PyData}{a:DA}{τ t6 t8:DS}{os:List PyData}{k:Int}{o o':PyData}{r:List (PyData×PyData)}{rs:List Ar}{ds:List PyData}(hi:τ[i]?=some (some (.g (.list os))))(he:e (τ.set i none)=some (.int k,t6))(hk:ixN os.length k=some j)(ho:os[j]?=some o)(hob:obF n o=some r)(hm:He m r=none)(ha:a t6=some (rs,t8))(hd:Cc rs=some ds)(hG:G o ds=some o')(hn:YH t8 i=true)(ok:t8.all okM=true) :
  P2 i e n m G a τ=some (.nx (t8.set i (some (.g (.list (os.set j o')))))):=by
 unfold P2;rw[hi];dsimp only;rw[he];dsimp only[Option.bind_some];rw[hk];dsimp only[Option.bind_some];rw[ho];dsimp only[Option.bind_some];rw[hob];dsimp only[Option.bind_some]
 rw[hm,if_pos (show(none:Option PyData).isNone=true from rfl),ha];dsimp only[Option.bind_some];rw[hd];dsimp only[Option.bind_some];rw[hG];dsimp only[Option.bind_some];rw[if_pos ⟨hn,ok⟩]
theorem Xg{i j y:Nat}{e:DX}{τ t6:DS}{rows0 rows cs:List PyData}{k:Int}{dj:PyData}(hi0:τ[i]?=some (some (.g (.list rows0))))(he:e τ=some (.int k,t6))(hi:t6[i]?=some (some (.g (.list rows))))(hj:t6[j]?=some (some (.g dj)))(hk:ixN rows.length k=some y)(hc:rows[y]?=some (.list cs))(hz:cs.length<=1000)(ne:j≠i) :
  L1 i e j τ=some (.nx ((t6.set i (some (.g (.list (rows.set y (.list (cs++[dj]))))))).set j none)):=by
 unfold L1;rw[hi0];dsimp only;rw[he];dsimp only[Option.bind_some];rw[hi,hj];dsimp only;rw[hk];dsimp only[Option.bind_some];rw[hc];dsimp only;rw[if_pos ⟨fX hz (by decide),ne⟩]
theorem Z0(f:Fm)(B:Pc):kd (f.add B) = .list ((f.P::f.r).map ep++[ep B]):=by
 show PyData.list ((f.P::(f.r++[B])).map ep)=_
 rw[<- gh,c9];rfl
theorem Z9{f:Fm}{B:Pc}(g:Gd f)(oB:OkP B f.w f.h):Ca (fd f) [ep B]=some (fd (f.add B)):=Yr g.ok oB g.w9 g.h6 (by have:=g.len;omega)
theorem b7{fa fb:Fm}(ga:Gd fa)(gb:Gd fb){a:Int}(ha:a=0\/a=1)(hl:fa.r.length+fb.r.length<20):∃(j:Nat) (f:Fm),ixN 2 a=some j/\Gd f/\[kd fa,kd fb][j]?=some (kd f)/\[fd fa,fd fb][j]?=some (fd f)/\∀B,OkP B f.w f.h->∃fa' fb',Gd fa'/\Gd fb'/\fa'.P=fa.P/\fa'.r.length+fb'.r.length=fa.r.length+fb.r.length+1/\[kd fa,kd fb].set j (kd (f.add B))=[kd fa',kd fb']/\[fd fa,fd fb].set j (fd (f.add B))=[fd fa',fd fb']:=by
 rcases ha with rfl|rfl
 ·refine⟨0,fa,rfl,ga,rfl,rfl,λB oB=>⟨fa.add B,fb,ga.add oB (by omega),gb,rfl,?_,rfl,rfl⟩⟩
  show(fa.r++[B]).length+_=_
  rw[cT,dH];omega
 ·refine⟨1,fb,rfl,gb,rfl,rfl,λB oB=>⟨fa,fb.add B,ga,gb.add oB (by omega),rfl,?_,rfl,rfl⟩⟩
  show _+(fb.r++[B]).length=_
  rw[cT,dH];omega
theorem R1(ns:List Int)(h63:ns.length<=63):∃ls,Pb [.c (ns.map .int)]=some (.bool true,ls):=by
 obtain⟨v0,lb,hbig⟩:=ZO (ns:=ns) (k:=0) (by decide)
 let C:=some (L.c (ns.map .int))
 let M:=λ(i:Int)=>some (L.m [.int i])
 let D:=λ(d:PyData)=>some (L.d d)
 let I:=λ(i:Int)=>some (L.d (.int i))
 let g:=λ(xs:List PyData)=>some (L.g (.list xs))
 let w:Nat:=(1+v0 % 9).toNat
 let h:Nat:=(1+v0 / 9 % 6).toNat
 have ew:1+v0 % 9=(w:Int):=by show _=(((1+v0 % 9).toNat:Nat):Int);omega
 have eh:1+v0 / 9 % 6=(h:Int):=by show _=(((1+v0 / 9 % 6).toNat:Nat):Int);omega
 have w1:1<=w:=by omega
 have w9:w<=9:=by omega
 have h1:1<=h:=by omega
 have h6:h<=6:=by omega
 obtain⟨A,v3,eA,oA⟩:=J8 (v:=v0 / 9 / 6) (w:=w) (h:=h) (by omega) (by omega) (by omega) (by omega)
 rw[dD,dD]at oA
 obtain⟨B,v4,eB,oB⟩:=J8 (v:=v3) (w:=(h:Int)+1) (h:=w) (by omega) (by omega) (by omega) (by omega)
 rw[show((h:Int)+1).toNat=h+1 by omega,dD]at oB
 let fa:Fm:=⟨w,h,A,[]⟩
 let fb:Fm:=⟨h+1,w,B,[]⟩
 have ga:Gd fa:=⟨λQ hQ=>by rw[cW.mp hQ];exact oA,w1,w9,h1,⟨(show h<=9 by omega),cm (gu w9 h6) (by decide)⟩,cZ _⟩
 have gb:Gd fb:=⟨λQ hQ=>by rw[cW.mp hQ];exact oB,Nat.le_add_left 1 h,(show h+1<=9 by omega),w1,⟨w9,cm (gu (show h+1<=7 by omega) w9) (by decide)⟩,cZ _⟩
 let st:=λ(v:Int) (k f t a b c:Option L)=>[C,M v,I w,I h,k,f,t,a,b,c]
 let T:=some (L.g (ep A))
 have okS:∀(v:Int) (k f t a b c:Option L),okM k=true->okM f=true->okM t=true->okM a=true->okM b=true->okM c=true->(st v k f t a b c).all okM=true:=λv k f t a b c h1 h2 h3 h4 h5 h6=>by
  show(okM C&&(okM (M v)&&(okM (I w)&&(okM (I h)&&(okM k&&(okM f&&(okM t&&(okM a&&(okM b&&(okM c&&true))))))))))=true
  rw[h1,h2,h3,h4,h5,h6];rfl
 let S:=λ(v:Int) (p q:Fm) (a b c:Option L)=>st v (g [kd p,kd q]) (g [fd p,fd q]) T a b c
 let t0:DS:=[C,none,none,none,none,none,none,none,none,none]
 let t1:DS:=[C,M v0,none,none,none,none,none,none,none,none]
 let t2:DS:=[C,M (v0 / 9),I w,none,none,none,none,none,none,none]
 let t3:=st (v0 / 9 / 6) none none none none none none
 let t4:=st v4 (g [kd fa,kd fb]) none none none none none
 let t5:=st v4 (g [kd fa,kd fb]) (g [fd fa,fd fb]) none none none none
 have zA:A.length<=1000:=by rw[oA.len];omega
 have zB:B.length<=1000:=by rw[oB.len];omega
 -- the loop
 let n:Int:=min (ns.length:Int) 21
 have hn:n<=21:=Int.min_le_right _ _
 let body:DB:=BA (Fp 1 1 (GP (AA (Cv 0 FK (AA (AD 7) AE)) AE))) (BA (Cz (dOp GZ (dOp B8 (AD 7) (A9 IY (AA (dOp fEq (A8 1 An (AA (dC (.int 4)) AE)) (dC (.int 0))) AE))) (dC (.int 2))) (dN 8)) (BA (EL 1 9 (Ez 4 (dLs (A8 1 Eb (AA (dOp AY (dOp AY (AD 4) (AD 8)) (dUn FZ (dC (.int 1)))) AE))))) (BA (P2 5 (AD 8) "Film" "add" Ca (AA (Ez 9 (dLs (AX CT (AA (AD 9) AE)))) AE)) (BA (L1 4 (AD 8) 9) (Cu (GO 6 (GO 4 (GO 5 (GB (Bm (AZ (AX E9 (AA (AD 5) (AA (AD 4) AE))))) (AZ (dOp fNe (AD 6) (dOp AY (dOp AY (AD 4) (dC (.int 0))) (dC (.int 0))))))))) (Be (dC (.bool false))) Eu)))))
 have lp:∃t7,Bp (dN 7) body ((rng 9 (n-9).toNat).map PyData.int) (S v4 fa fb none none none)=some (.nx t7)/\∃v p q a b,nM a/\nM b/\okM a=true/\okM b=true/\Gd p/\Gd q/\p.P=A/\p.r.length+q.r.length=(rng 9 (n-9).toNat).length/\t7=S v p q a b none:=by
  refine Bt (λ(pre:List Int) τ=>∃v p q a b,nM a/\nM b/\okM a=true/\okM b=true/\Gd p/\Gd q/\p.P=A/\p.r.length+q.r.length=pre.length/\τ=S v p q a b none) ⟨v4,fa,fb,none,none,Aa,Aa,rfl,rfl,ga,gb,rfl,rfl,rfl⟩ ?_
  rintro pre k post τ hp ⟨v,p,q,a,b,na,nb,xa,xb,gp,gq,pA,hl,rfl⟩
  have hk:=mem_rng.mp (show k∈rng 9 (n-9).toNat by rw[hp];simp)
  have hpl:pre.length<20:=by
   have:=congrArg List.length hp
   rw[Fs,cT,cM]at this
   omega
  obtain⟨u,lu,hu⟩:=ZO (ns:=ns) (k:=k) (by omega)
  let s1:=S v p q (I k) b none
  let s2:=S u p q (I k) b none
  let at_:Int:=(k+if u % 4=0 then 1 else 0) % 2
  have hat:at_=0\/at_=1:=by show(k+if u % 4=0 then 1 else 0) % 2=0\/_;omega
  let s3:=S (u / 4) p q (I k) (I at_) none
  obtain⟨j,f,hj,gf,kj,fj,hup⟩:=b7 gp gq hat (by omega)
  obtain⟨Bn,u2,eN,oN⟩:=YI (v:=u / 4) gf.l gf.w1 gf.w9 gf.h1 gf.h6.1
  obtain⟨p',q',gp',gq',pA',hl',ek,ef⟩:=hup Bn oN
  let s4:=st u2 (g [kd p,kd q]) (g [fd p,fd q]) T (I k) (I at_) (some (.g (ep Bn)))
  let s5:=st u2 (g [kd p,kd q]) (g [fd p',fd q']) T (I k) (I at_) (some (.g (ep Bn)))
  let s6:=S u2 p' q' (I k) (I at_) none
  have zN:Bn.length<=1000:=by rw[oN.len];have:=gf.h6.1;omega
  have ix:∀{xs:List PyData} {d:PyData},xs.length=2->xs[j]?=some d->AY (.list xs) (.int at_)=some d:=λ{xs d} hx hd=>by
   show atI xs at_=_
   unfold atI;rw[hx,hj];exact hd
  refine⟨s1,s6,A4 (o:=a) rfl na,?_,u2,p',q',I k,I at_,BW,BW,rfl,rfl,gp',gq',pA'.trans pA,by rw[cT,dH];omega,rfl⟩
  refine(Ay (t6:=s2) (T9 (t6:=s1) (xs:=[.int u]) ?_ (by decide) (by show 1<10;decide) (okS _ _ _ _ _ _ _ rfl rfl rfl rfl xb rfl))).trans ?_
  ·have:=OH (i:=0) (G:=FK) (a:=AA (AD 7) AE) (τ:=s1) (t6:=s1) (rs:=[.d (.int k)]) (ds:=[.int k]) rfl rfl rfl hu
   unfold GP
   rw[ac1 this];rfl
  refine(Ay (t6:=s3) (EZ (d:=.int at_) (t6:=S (u / 4) p q (I k) b none) ?_ (A4 (o:=b) rfl nb))).trans ?_
  ·have c1:=CB (i:=1) (G:=An) (a:=AA (dC (.int 4)) AE) (τ:=s2) (t6:=s2) (rs:=[.d (.int 4)]) (ds:=[.int 4]) (xs:=[.int u]) rfl rfl rfl (Jz (by decide) (by decide))
   have c2:=op2 (F:=fEq) (g:=dC (.int 0)) (y:=.int 0) (t8:=S (u / 4) p q (I k) b none) c1 rfl (encI.fEq (u % 4) 0)
   have c3:A9 IY (AA (dOp fEq (A8 1 An (AA (dC (.int 4)) AE)) (dC (.int 0))) AE) s2=some (.int (if u % 4=0 then 1 else 0),S (u / 4) p q (I k) b none):=KU (ac1 c2) rfl (by by_cases z:u % 4=0<;>simp[IY,z])
   exact op2 (op2 (x:=.int k) (t6:=s2) rfl c3 (r:=.int (k+if u % 4=0 then 1 else 0)) rfl) (y:=.int 2) rfl (TY (by decide))
  refine(Ay (t6:=s4) (FH (t6:=S u2 p q (I k) (I at_) none) (JM (xs:=[kd p,kd q]) (t6:=st u2 (D (.list [kd p,kd q])) (g [fd p,fd q]) T (I k) (I at_) none) rfl ?_ rfl) (by decide) (by show 9<10;decide) rfl)).trans ?_
  ·let s3':=st (u / 4) (D (.list [kd p,kd q])) (g [fd p,fd q]) T (I k) (I at_) none
   have e1:dOp AY (dOp AY (AD 4) (AD 8)) (dUn FZ (dC (.int 1))) s3'=some (ep (lst f),s3'):=op2 (op2 (x:=.list [kd p,kd q]) (y:=.int at_) (t6:=s3') (t8:=s3') rfl rfl (ix rfl kj)) (y:=.int (-1)) (t8:=s3') rfl (Qt f)
   exact Ng (CB (t6:=s3') (rs:=[.d (ep (lst f))]) (ds:=[ep (lst f)]) (xs:=[.int (u / 4)]) (ac1 e1) rfl rfl eN)
  refine(Ay (t6:=s5) ?_).trans ?_
  ·let s4':=st u2 (g [kd p,kd q]) none T (I k) (I at_) (some (.g (ep Bn)))
   have e1:Ez 9 (dLs (AX CT (AA (AD 9) AE))) s4'=some (ep Bn,s4'):=JM (xs:=Bn.map eL) (t6:=st u2 (g [kd p,kd q]) none T (I k) (I at_) (D (ep Bn))) rfl (DE (A2 (rs:=[.d (ep Bn)]) (ds:=[ep Bn]) rfl rfl (RJ zN))) rfl
   have:=Yq (i:=5) (e:=AD 8) (n:="Film") (m:="add") (G:=Ca) (τ:=s4) (t6:=s4') (t8:=s4') (os:=[fd p,fd q]) (k:=at_) (rs:=[.d (ep Bn)]) (ds:=[ep Bn]) rfl rfl hj fj (Er _ _ _) (RB nD.1 nD.2.1 nD.2.2 _ _ _) (ac1 e1) rfl (Z9 gf oN) rfl rfl
   rw[ef]at this
   exact this
  refine(Ay (t6:=s6) ?_).trans ?_
  ·have:=Xg (i:=4) (j:=9) (e:=AD 8) (τ:=s5) (t6:=s5) (rows0:=[kd p,kd q]) (rows:=[kd p,kd q]) (cs:=(f.P::f.r).map ep) (k:=at_) (dj:=ep Bn) rfl rfl rfl rfl hj kj (by rw[B',cM];have:=gf.len;omega) (by decide)
   rw[<- Z0,ek]at this
   exact this
  ·obtain⟨lr,er⟩:=WL gp' gq'
   let z:=st u2 (D (.list [kd p',kd q'])) (D (.list [fd p',fd q'])) (D (ep A)) (I k) (I at_) none
   have q1:Bm (AZ (AX E9 (AA (AD 5) (AA (AD 4) AE)))) z=some (false,z):=RO (tst (cQ z [.list [fd p',fd q'],.list [kd p',kd q']] rfl rfl er))
   have q2:dOp AY (dOp AY (AD 4) (dC (.int 0))) (dC (.int 0)) z=some (ep A,z):=by
    have:=R8 (f:=p') (k:=0) (cZ _)
    rw[show(p'.P::p'.r).getD 0 []=A from pA'.trans pA]at this
    exact op2 (op2 (x:=.list [kd p',kd q']) (y:=.int 0) (t6:=z) (t8:=z) rfl rfl (r:=kd p') rfl) (y:=.int ((0:Nat):Int)) (t8:=z) rfl this
   have q3:=WX q1 (tst (op2 (f:=AD 6) (x:=ep A) (t6:=z) rfl q2 (bW A)))
   have b5:=NI (i:=5) (xs:=[fd p',fd q']) (τ:=st u2 (D (.list [kd p',kd q'])) (g [fd p',fd q']) (D (ep A)) (I k) (I at_) none) rfl q3 rfl
   have b4:=NI (i:=4) (xs:=[kd p',kd q']) (τ:=st u2 (g [kd p',kd q']) (g [fd p',fd q']) (D (ep A)) (I k) (I at_) none) rfl b5 rfl
   have b6:=NI (i:=6) (xs:=A.map eL) (τ:=s6) rfl b4 rfl
   exact(Gv b6).trans rfl
 obtain⟨t7,el,v,p,q,a,b,na,nb,xa,xb,gp,gq,pA,hl,rfl⟩:=lp
 unfold Pb
 refine⟨_,BZ (τ:=S v p q a b none) ?_ rfl rfl⟩
 refine(Ay (t6:=t1) (T9 (t6:=t0) (xs:=[.int v0]) ?_ (by decide) (by show 1<10;decide) rfl)).trans ?_
 ·have:=OH (i:=0) (G:=FK) (a:=AA (dC (.int 0)) AE) (τ:=t0) (t6:=t0) (rs:=[.d (.int 0)]) (ds:=[.int 0]) rfl rfl rfl hbig
  unfold GP
  rw[show AA (Cv 0 FK (AA (dC (.int 0)) AE)) AE ([L.c (ns.map .int)].map some++List.replicate 9 none)=_ from ac1 this];rfl
 refine(Ay (t6:=t2) (EZ (op2 (F:=B8) (x:=.int 1) (t6:=t1) (r:=.int w) rfl (CB (τ:=t1) (t6:=t1) (rs:=[.d (.int 9)]) (ds:=[.int 9]) (xs:=[.int v0]) rfl rfl rfl (Jz (by decide) (by decide))) (by show some (PyData.int (1+v0 % 9))=_;rw[ew])) rfl)).trans ?_
 refine(Ay (t6:=t3) (EZ (op2 (F:=B8) (x:=.int 1) (t6:=t2) (r:=.int h) rfl (CB (τ:=t2) (t6:=t2) (rs:=[.d (.int 6)]) (ds:=[.int 6]) (xs:=[.int (v0 / 9)]) rfl rfl rfl (Jz (by decide) (by decide))) (by show some (PyData.int (1+v0 / 9 % 6))=_;rw[eh])) rfl)).trans ?_
 refine(Ay (t6:=t4) (FH (t6:=st v4 none none none none none none) (d:=.list [kd fa,kd fb]) ?_ (by decide) (by show 4<10;decide) rfl)).trans ?_
 ·let t3a:=st v3 none none none none none none
  let t3b:=st v4 none none none none none none
  have p1:=Ng (CB (i:=1) (G:=BM) (a:=AA (AD 2) (AA (AD 3) AE)) (τ:=t3) (t6:=t3) (rs:=[.d (.int w),.d (.int h)]) (ds:=[.int w,.int h]) (xs:=[.int (v0 / 9 / 6)]) rfl rfl rfl eA)
  have p2:=Ng (CB (i:=1) (G:=BM) (a:=AA (dOp B8 (AD 3) (dC (.int 1))) (AA (AD 2) AE)) (τ:=t3a) (t6:=t3a) (rs:=[.d (.int ((h:Int)+1)),.d (.int w)]) (ds:=[.int ((h:Int)+1),.int w]) (xs:=[.int v3]) rfl rfl rfl eB)
  exact Mw (ds:=[kd fa,kd fb]) (G8 (d:=kd fa) (t6:=t3a) (Mw (ds:=[ep A]) (G8 p1 (show LF t3a=some ([],t3a) from rfl)) (show 1<=1000 by decide)) (G8 (d:=kd fb) (t6:=t3b) (Mw (ds:=[ep B]) (G8 p2 (show LF t3b=some ([],t3b) from rfl)) (show 1<=1000 by decide)) (show LF t3b=some ([],t3b) from rfl))) (show 2<=1000 by decide)
 let t4':=st v4 (D (.list [kd fa,kd fb])) none none none none none
 have mk:∀(i:Int) (f:Fm),AY (.list [kd fa,kd fb]) (.int i)=some (kd f)->f.r=[]->f.P.length<=1000->OC "Film" Bb (AA (dLs (AX CT (AA (dOp AY (dOp AY (AD 4) (dC (.int i))) (dC (.int 0))) AE))) AE) t4'=some (Hk f.P f.P [],t4'):=λi f e er hz=>by
  have e2:dOp AY (dOp AY (AD 4) (dC (.int i))) (dC (.int 0)) t4'=some (ep f.P,t4'):=op2 (op2 (x:=.list [kd fa,kd fb]) (y:=.int i) (t6:=t4') (t8:=t4') rfl rfl e) (y:=.int ((0:Nat):Int)) (t8:=t4') rfl (R8 (k:=0) (cZ _))
  exact YO (rs:=[.d (ep f.P)]) (ds:=[ep f.P]) (ac1 (DE (A2 (rs:=[.d (ep f.P)]) (ds:=[ep f.P]) (ac1 e2) rfl (RJ hz)))) rfl (YW hz)
 refine(Ay (t6:=t5) (FH (t6:=t4) (JM (xs:=[kd fa,kd fb]) (t6:=t4') rfl (Mw (ds:=[fd fa,fd fb]) (G8 (mk 0 fa rfl rfl zA) (G8 (mk 1 fb rfl rfl zB) (show LF t4'=some ([],t4') from rfl))) (show 2<=1000 by decide)) rfl) (by decide) (by show 5<10;decide) rfl)).trans ?_
 let t5':=st v4 (g [kd fa,kd fb]) (D (.list [fd fa,fd fb])) none none none none
 refine(Ay (t6:=S v4 fa fb none none none) (FH (t6:=t5) (d:=ep A) (JM (xs:=[fd fa,fd fb]) (t6:=t5') rfl (ga.at (k:=0) (τ:=t5') (cZ _) (op2 (x:=.list [fd fa,fd fb]) (y:=.int 0) (t6:=t5') (t8:=t5') rfl rfl rfl) rfl) rfl) (by decide) (by show 6<10;decide) rfl)).trans ?_
 refine(Ay (t6:=S v p q a b none) ((Dc (ds:=(rng 9 (n-9).toNat).map PyData.int) (t6:=S v4 fa fb none none none) ?_).trans el)).trans ?_
 ·have hmin:Jv [.int (ns.length:Int),.int 21]=some (.int n):=by
   show some (PyData.int (if (21:Int)<(ns.length:Int) then 21 else (ns.length:Int)))=some (PyData.int (min (ns.length:Int) 21))
   rw[Int.min_def]
   by_cases z:(21:Int)<ns.length
   ·rw[if_pos z,if_neg (by omega)]
   ·rw[if_neg z,if_pos (by omega)]
  have e1:AA (dC (.int 9)) (AA (A9 Jv (AA (Ih 0) (AA (dC (.int 21)) AE))) AE) (S v4 fa fb none none none)=some ([.d (.int 9),.d (.int n)],S v4 fa fb none none none):=acc (d:=.int 9) (t6:=S v4 fa fb none none none) rfl (ac1 (KU (rs:=[.d (.int (ns.length:Int)),.d (.int 21)]) (ds:=[.int (ns.length:Int),.int 21]) (acc (d:=.int (ns.length:Int)) (t6:=S v4 fa fb none none none) (by show some (PyData.int ((ns.map PyData.int).length:Nat),_)=_;rw[B']) rfl) rfl hmin))
  exact a7 e1 (by show -100000<=min (ns.length:Int) 21;omega) (by omega) (by decide) (by decide)
 obtain⟨l1,j1⟩:=R9 gp
 obtain⟨l2,j2⟩:=R9 gq
 let z:=st v (D (.list [kd p,kd q])) (D (.list [fd p,fd q])) T a b none
 have q1:AX BU (AA (dOp AY (AD 5) (dC (.int 0))) (AA (dOp AY (AD 4) (dC (.int 0))) AE)) z=some (.bool true,z):=A2 (rs:=[.d (fd p),.d (kd p)]) (ds:=[fd p,kd p]) rfl rfl j1
 have q2:AX BU (AA (dOp AY (AD 5) (dC (.int 1))) (AA (dOp AY (AD 4) (dC (.int 1))) AE)) z=some (.bool true,z):=A2 (rs:=[.d (fd q),.d (kd q)]) (ds:=[fd q,kd q]) rfl rfl j2
 have b5:=Uz (i:=5) (xs:=[fd p,fd q]) (τ:=st v (D (.list [kd p,kd q])) (g [fd p,fd q]) T a b none) rfl ((cJ q1).trans q2) (okS _ _ _ _ _ _ _ rfl rfl rfl xa xb rfl)
 exact EB (Uz (i:=4) (xs:=[kd p,kd q]) (τ:=S v p q a b none) rfl b5 (okS _ _ _ _ _ _ _ rfl rfl rfl xa xb rfl))
theorem all_mk{l:PySem.W.OpenLaw}{w:World}{K:PySem.W.Frag}{h:Heap}{mg:Str->Option Value}{fa:Addr}(X:K.In h)(G:h.Ns mainGlobals mg)(hfa:mg "law"=some (.ref fa))
  {C:Addr} (kn_C:PySem.W.nsIn K mainGlobals "Film"=some (some (.ref C))) (c1:PySem.W.plainGet K C Str.empty=true) (c2:PySem.W.hasDictIn K C=true) (c3:PySem.W.plainOver K C=true) (c4:PySem.W.findIn K (.ref C) "__setattr__"=some (some (.builtin "object.__setattr__"))) (c5:PySem.W.makesIn K C=true) (c6:PySem.W.keepIn K (.ref C)=true)
  (na_first:PySem.W.findIn K (.ref C) "first"=some none)
  (na_kept_frames:PySem.W.findIn K (.ref C) "kept_frames"=some none)
  (na_last:PySem.W.findIn K (.ref C) "last"=some none)
  {f0:Addr} {g0:FuncData} (d0:DF K "picture_copied" Cd f0 g0)
  {f1:Addr} {g1:FuncData} (d1:DF K "shades_at" Ck f1 g1)
  {f2:Addr} {g2:FuncData} (d2:DF K "frame_played" Am f2 g2)
  {f3:Addr} {g3:FuncData} (d3:MD K C "count" "Film.count" Ef f3 g3)
  {f4:Addr} {g4:FuncData} (d4:MD K C "at" "Film.at" Dg f4 g4)
  {f5:Addr} {g5:FuncData} (d5:DF K "_law_cell_at" Ea f5 g5)
  {f6:Addr} {g6:FuncData} (d6:DF K "_law_big" Df f6 g6)
  {f7:Addr} {g7:FuncData} (d7:DF K "_law_digit" GC f7 g7)
  {f8:Addr} {g8:FuncData} (d8:MD K C "__init__" "Film.__init__" CI f8 g8)
  {f9:Addr} {g9:FuncData} (d9:DF K "_law_near_by" BS f9 g9)
  {f10:Addr} {g10:FuncData} (d10:DF K "_law_picture_by" BL f10 g10)
  {f11:Addr} {g11:FuncData} (d11:DF K "_law_next_by" CM f11 g11)
  {f12:Addr} {g12:FuncData} (d12:DF K "size_of" HP f12 g12)
  {f13:Addr} {g13:FuncData} (d13:DF K "changed_cells" BO f13 g13)
  {f14:Addr} {g14:FuncData} (d14:DF K "row_by_row" Bv f14 g14)
  {f15:Addr} {g15:FuncData} (d15:DF K "is_next" HQ f15 g15)
  {f16:Addr} {g16:FuncData} (d16:DF K "stretches_of" BK f16 g16)
  {f17:Addr} {g17:FuncData} (d17:DF K "frame_of" A3 f17 g17)
  {f18:Addr} {g18:FuncData} (d18:DF K "frame_between" A6 f18 g18)
  {f19:Addr} {g19:FuncData} (d19:MD K C "add" "Film.add" DN f19 g19)
  {f20:Addr} {g20:FuncData} (d20:DF K "frame_copied" DM f20 g20)
  {f21:Addr} {g21:FuncData} (d21:MD K C "frames" "Film.frames" ED f21 g21)
  {f22:Addr} {g22:FuncData} (d22:DF K "first_over" Cp f22 g22)
  {f23:Addr} {g23:FuncData} (d23:DF K "olds_of" CH f23 g23)
  {f24:Addr} {g24:FuncData} (d24:DF K "frame_back" Ee f24 g24)
  {f25:Addr} {g25:FuncData} (d25:DF K "frames_joined" A5 f25 g25)
  {f26:Addr} {g26:FuncData} (d26:DF K "_law_is_fraction" BE f26 g26)
  {f27:Addr} {g27:FuncData} (d27:DF K "_law_same_picture" A0 f27 g27)
  {f28:Addr} {g28:FuncData} (d28:DF K "_law_copy" Im f28 g28)
  {f29:Addr} {g29:FuncData} (d29:DF K "_law_joined_right" Ai f29 g29)
  {f30:Addr} {g30:FuncData} (d30:DF K "_law_right" De f30 g30)
  {f31:Addr} {g31:FuncData} (d31:DF K "law" Cb f31 g31)
  (z_bool:PySem.W.nsIn K mainGlobals "bool"=some none)
  (z_dict:PySem.W.nsIn K mainGlobals "dict"=some none)
  (z_enumerate:PySem.W.nsIn K mainGlobals "enumerate"=some none)
  (z_int:PySem.W.nsIn K mainGlobals "int"=some none)
  (z_isinstance:PySem.W.nsIn K mainGlobals "isinstance"=some none)
  (z_len:PySem.W.nsIn K mainGlobals "len"=some none)
  (z_list:PySem.W.nsIn K mainGlobals "list"=some none)
  (z_min:PySem.W.nsIn K mainGlobals "min"=some none)
  (z_range:PySem.W.nsIn K mainGlobals "range"=some none)
  (z_set:PySem.W.nsIn K mainGlobals "set"=some none)
  (z_sorted:PySem.W.nsIn K mainGlobals "sorted"=some none)
  (z_tuple:PySem.W.nsIn K mainGlobals "tuple"=some none)
  : ∃fd:FuncData,(∀(s:Shared) (v:Value),BindsTo s fd ⟨[v],[]⟩ [("_law_script",v)])/\∀base:Heap,K.In base->base.Ns mainGlobals mg->FnOk l.prog w K mg base CX0 6 fa fd ["_law_script"] (spD ⟨K,w,mg⟩ Pb false):=by
 have e:=hfa.symm.trans (d31.m X G)
 cases e
 obtain⟨_,⟨_,_,kV,dc,pm,an,cd,ct,_,rfl,_,_⟩,_⟩:=id d31
 have y_bool:=dP X G z_bool
 have y_dict:=dP X G z_dict
 have y_enumerate:=dP X G z_enumerate
 have y_int:=dP X G z_int
 have y_isinstance:=dP X G z_isinstance
 have y_len:=dP X G z_len
 have y_list:=dP X G z_list
 have y_min:=dP X G z_min
 have y_range:=dP X G z_range
 have y_set:=dP X G z_set
 have y_sorted:=dP X G z_sorted
 have y_tuple:=dP X G z_tuple
 refine⟨PySem.W.fnOf "law" "law" (ES Cb) (Dw Cb) (AM Cb) .none kV dc pm an cd ct,λs v=>.of_eq rfl,λbase _ _=>?_⟩
 have co:∀{x st f fd k ps sp},DF K x st f fd->FnOk l.prog w K mg base CX0 k f fd ps sp->(∀(kV doc pm:Value) (an:Option Addr) (cdv ct:Value) (us:List Value),us.length=ps.length->bindArgs (PySem.W.fnOf x x (ES st) (Dw st) (AM st) .none kV doc pm an cdv ct) ⟨us,[]⟩=pure (ps.zip us))->Cal l.prog w K mg base k x ps sp:=λd o b=>d.cal X G o b
 have hk_C:=PySem.W.mg_of X G kn_C
 have kl_C:Cls K C:=⟨c1,c2,c3,c4⟩
 have c03:=co d0 (Kp d0.2 y_list) ⋯
 have c42:=co d1 (QS d1.2 y_len) ⋯
 have M_Film_count:MCal l.prog w K mg base 1 C "count" ["self"] (spD ⟨K,w,mg⟩ BY false):=⟨_,_,OW d3.2.2 hk_C kl_C na_kept_frames y_len,d3.2.2.binds ⋯,d3.meth⟩
 have c43:=co d5 (QV d5.2 y_len) ⋯
 have c10:=co d7 (TN d7.2) ⋯
 have c49:=co d12 (TH d12.2 y_len) ⋯
 have c23:=co d13 (LQ d13.2 y_enumerate) ⋯
 have c35:=co d14 (OT d14.2 y_set y_sorted) ⋯
 have c50:=co d15 (TL d15.2) ⋯
 have c31:=co d20 (MX d20.2 y_list) ⋯
 have c36:=co d22 (OV d22.2 y_dict) ⋯
 have c51:=co d23 (TJ d23.2 y_enumerate) ⋯
 have c37:=co d24 (OU d24.2 y_list) ⋯
 have c24:=co d26 (LR d26.2 y_len y_tuple y_isinstance y_bool y_int) ⋯
 have c38:=co d28 (VS d28.2 y_list) ⋯
 have c11:=co d2 (MW d2.2 (c42.mono (by decide)) (c03.mono (by decide)) y_len y_enumerate) ⋯
 have c53:=co d6 (Wa d6.2 (c43.mono (by decide)) y_range) ⋯
 have KC_Film:KCal l.prog w K mg base 2 "Film" C ["self","picture"] (spS ⟨K,w,mg⟩ Bb):=⟨_,_,LS d8.2.2 hk_C kl_C na_first na_last na_kept_frames (c03.mono (by decide)),d8.2.2.binds ⋯,⟨c5,d8.1,d8.2.1,c6⟩,hk_C⟩
 have c44:=co d9 (QU d9.2 (c10.mono (by decide)) y_list y_range y_len) ⋯
 have c13:=co d10 (MY d10.2 (c10.mono (by decide)) y_range) ⋯
 have c32:=co d16 (MV d16.2 (c35.mono (by decide)) (c50.mono (by decide)) y_len) ⋯
 have M_Film_frames:MCal l.prog w K mg base 2 C "frames" ["self"] (spG ⟨K,w,mg⟩ C3):=⟨_,_,NY d21.2.2 hk_C kl_C na_kept_frames (c31.mono (by decide)),d21.2.2.binds ⋯,d21.meth⟩
 have c08:=co d27 (Kq d27.2 (c24.mono (by decide)) y_len y_list y_isinstance y_range) ⋯
 have M_Film_at:MCal l.prog w K mg base 3 C "at" ["self","number"] (spG ⟨K,w,mg⟩ BJ):=⟨_,_,TQ d4.2.2 hk_C kl_C na_first na_kept_frames (M_Film_count.mono (by decide)) (c03.mono (by decide)) (c11.mono (by decide)),d4.2.2.binds ⋯,d4.meth⟩
 have c45:=co d11 (QT d11.2 (c10.mono (by decide)) (c13.mono (by decide)) (c44.mono (by decide)) y_len) ⋯
 have c26:=co d17 (Rl d17.2 (c32.mono (by decide)) y_range) ⋯
 have c27:=co d18 (LP d18.2 (c23.mono (by decide)) (c26.mono (by decide))) ⋯
 have c28:=co d25 (LO d25.2 (c36.mono (by decide)) (c51.mono (by decide)) (c37.mono (by decide)) (c26.mono (by decide))) ⋯
 have c52:=co d30 (TM d30.2 hk_C kl_C (M_Film_at.mono (by decide)) (M_Film_count.mono (by decide)) (c08.mono (by decide)) y_range y_len) ⋯
 have M_Film_add:MCal l.prog w K mg base 5 C "add" ["self","picture"] (spS ⟨K,w,mg⟩ Ca):=⟨_,_,Rm d19.2.2 hk_C kl_C na_last na_kept_frames (c49.mono (by decide)) (c27.mono (by decide)) (c03.mono (by decide)),d19.2.2.binds ⋯,d19.meth⟩
 have c18:=co d29 (Kr d29.2 hk_C kl_C (M_Film_frames.mono (by decide)) (M_Film_at.mono (by decide)) (c28.mono (by decide)) (c08.mono (by decide)) (c11.mono (by decide)) (c38.mono (by decide)) y_len y_range) ⋯
 exact Zo d31.2 hk_C kl_C (M_Film_at.mono (by decide)) (M_Film_add.mono (by decide)) (KC_Film.mono (by decide)) (c53.mono (by decide)) (c10.mono (by decide)) (c13.mono (by decide)) (c38.mono (by decide)) (c45.mono (by decide)) (c52.mono (by decide)) (c18.mono (by decide)) y_len y_min y_range y_int
theorem entry{K:KW}{H:Hp}{a:Addr}{ns:List Int}{Q:VK}{X:XK}(hS:SqL K H a (ns.map V.int))(h63:ns.length<=63)(q:∀H',Q (.bl true) H'):spD K Pb false [.ref a] H Q X:=by
 obtain⟨ls,e⟩:=R1 ns h63
 refine⟨λ_=>False,λ_=>False,[.c (ns.map PyData.int)],.bool true,ls,⟨rfl,λi x e=>?_,λi x e=>?_,λi x e=>?_,λi j xs ys b e=>?_,λ_ h=>h.elim,λ_ h=>h.elim,GR.nil λi x e=>?_⟩,e,λv H' _ _ res=>?_⟩
 ·match i,e with
  |0,e=>cases e
  |i+1,e=>cases e
 ·match i,e with
  |0,e=>exact absurd (G' (G' e)).symm Ow.not_c
  |i+1,e=>cases e
 ·match i,e with
  |0,e =>
   cases e
   exact⟨a,ns.map V.int,rfl,XX hS,Nl ns⟩
  |i+1,e=>cases e
 ·match i,e with
  |0,e=>exact absurd (G' (G' e)).symm Ow.not_c
  |i+1,e=>cases e
 ·match i,e with
  |0,e=>cases e
  |i+1,e=>cases e
 ·cases (show v = .bl true from res)
  exact q H'
def spL(K:PySem.W.Frag):Sp:=λvs H Q _=>∃(a:Addr) (ns:List Int),vs=[.ref a]/\SqL K H a (ns.map V.int)/\ns.length<=63/\∀H',Q (.bl true) H'
theorem walk{l:PySem.W.OpenLaw}{q:Program}{loose:List Str}{XP:(Str->Option Value)->Heap->Prop}{YP:World->Heap->Prop}{d:DefRec}{K:Params->PySem.W.Frag}(hn:l.most=some 63)(hdf:d.params.defaults=[])
  (hY:∀(w:World) (h:Heap),YP w h->(K w.params).In h)
  (F : ∀ (w : World) (mg : Str -> Option Value) (fa : Addr) (h : Heap), (K w.params).In h -> h.Ns mainGlobals mg -> mg d.name = some (.ref fa) ->
   ∃fd:FuncData,(∀(s:Shared) (u:Value),BindsTo s fd ⟨[u],[]⟩ [("_law_script",u)])/\∀base:Heap,(K w.params).In base->base.Ns mainGlobals mg->FnOk l.prog w (K w.params) mg base CX0 6 fa fd ["_law_script"] (spD ⟨K w.params,w,mg⟩ Pb false)) :
  PySem.W.WalkO q loose XP YP l.row.toRowW d [] (λf vs=>PySem.call f vs) :=
 L2.walk_of (n:=63) (k:=6) (x:="_law_script") (CX:=λ_=>CX0) (sp:=λw=>spL (K w.params)) hn (by decide) hdf ⟨rfl,by decide,by decide⟩ hY (λw mg fa h X G m=>let ⟨fd,b,o⟩:=F w mg fa h X G m;⟨fd,b,λbase h1 h2=>(o base h1 h2).imp λvs H Q E ⟨a,ns,e,hS,hl,q⟩=>e▸entry (K:=⟨K w.params,w,mg⟩) hS hl q⟩) (λ_ _ a ns hl _ hS=>⟨a,ns,rfl,hS,hl,λ_=>rfl⟩) λ_ _ _ _ _ z=>z
end My
namespace PySem.W.Fast
def tw425201044598144097:=0
def tw9440767292621661563:=0
def tw9952216538179185524:=0
def tw10232894368716659677:=0
def tw8355835897665842007:=0
def tw1672633049098851043:=0
def tw8185715497235245863:=0
def tw6469002044185009241:=0
def tw13820441327040174561:=0
def tw8170153443586197732:=0
def tw1587880136503304838:=0
def tw7454688238555156939:=0
def tw3334827801874089166:=0
def tw13366769017613324558:=0
def tw14957570947266572627:=0
def tw10416012108234390620:=0
def tw17307460744357699001:=0
def tw6389597063702777457:=0
def tw8521575744097131094:=0
def tw6952398093713722944:=0
def tw13099380314361550806:=0
def tw6030014269052174067:=0
def tw16616891324080650466:=0
def tw11003243521033679772:=0
def tw9424285618641207129:=0
def tw17090574225718753634:=0
def tw1930167975451799616:=0
def tw7743053442951099203:=0
def tw10369728360836410382:=0
def tw11528899102889575758:=0
def tw2756451057422107565:=0
def tw7318312472637237186:=0
def tw1126076144386058946:=0
def tw18055577410463460205:=0
def tw11831911226363379764:=0
def tw5662259423277609172:=0
def tw10762836028752980311:=0
def tw5523987397958306392:=0
def tw11751262742800176566:=0
def tw14091064311657040636:=0
def tw17120467716057681575:=0
def tw737322878784286701:=0
def tw14652939201551141713:=0
def tw13154039363575581399:=0
def tw3856796391737098765:=0
def tw13932123069574436424:=0
def tw3840975039141669827:=0
def tw16319967406475485607:=0
def tw12066301159625290646:=0
def tw7771276797937561468:=0
def tw4809103437862459810:=0
def tw17821745251489368552:=0
def tw7232063968606583350:=0
def tw7646028330159518741:=0
def tw14637075954129229135:=0
def tw6968768556773420220:=0
def tw16911470979269453171:=0
def tw13093251732174798024:=0
def tw16451428908457885167:=0
def tw2033148731377189416:=0
def tw15257703464500599287:=0
def tw6769670542629714722:=0
def tw2674407700384892311:=0
def tw7657439099922589318:=0
def tw11125262056031850130:=0
def tw2138882768408121215:=0
def tw12993439080213997509:=0
def tw2319828183061854972:=0
def tw10941027319285265559:=0
def tw6848363996358763851:=0
def tw8857401928894029906:=0
def tw16310177223889862882:=0
def tw1470756083249197847:=0
end PySem.W.Fast
open PySem PySem.W PyProof.Rows
set_option maxRecDepth 100000 in
set_option maxHeartbeats 0 in
theorem PySem.Challenge.cw_scenemend_k71_two_films_holds : PySem.Challenge.rw_scenemend_k71_two_films.Holds := by
 w_on;o_law;k_head;(case hw=>w_witness2)
 k_fill
 refine My.walk (l:=PySem.Challenge.rw_scenemend_k71_two_films) rfl rfl (λw h Y=>PySem.W.kIn_of Y) ?F
 case F =>
  intro w mg fa h KX G hmg
  refine' My.all_mk KX G hmg ?kn_C ?c1 ?c2 ?c3 ?c4 ?c5 ?c6 ?na_first ?na_kept_frames ?na_last ?d0 ?d1 ?d2 ?d3 ?d4 ?d5 ?d6 ?d7 ?d8 ?d9 ?d10 ?d11 ?d12 ?d13 ?d14 ?d15 ?d16 ?d17 ?d18 ?d19 ?d20 ?d21 ?d22 ?d23 ?d24 ?d25 ?d26 ?d27 ?d28 ?d29 ?d30 ?d31 ?z_bool ?z_dict ?z_enumerate ?z_int ?z_isinstance ?z_len ?z_list ?z_min ?z_range ?z_set ?z_sorted ?z_tuple
  (case kn_C|c1|c2|c3|c4|c5|c6|na_first|na_kept_frames|na_last=>k_is)
  (case d0|d1|d2|d5|d6|d7|d9|d10|d11|d12|d13|d14|d15|d16|d17|d18|d20|d22|d23|d24|d25|d26|d27|d28|d29|d30|d31=>(refine' L2.DF.mk ?a ?b ?c ?d;(case a=>k_is);(case b=>k_is);(case c=>k_is);(case d=>k_is)))
  (case d3|d4|d8|d19|d21=>(refine' L2.MD.mk ?a ?b ?c ?d ?e;(case a=>k_is);(case b=>k_is);(case c=>k_is);(case d=>k_is);(case e=>k_is)))
  (case z_bool|z_dict|z_enumerate|z_int|z_isinstance|z_len|z_list|z_min|z_range|z_set|z_sorted|z_tuple=>k_is)
